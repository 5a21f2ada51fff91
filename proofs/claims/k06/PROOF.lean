import PyProof.Rows.All
import Wide.All
import OpenK.AllK
import Wide.FinOn
import PySem.Challenge.RW_beatless_k06_programs_refused
import Lean
import PyProof.EqAt
import PyProof.EqKinds
import PyProof.TupleCall
import PyProof.ZipIter
import PyProof.WalksMore
/-! BLayer -/
set_option Elab.async false
set_option linter.all false
set_option maxRecDepth 100000
namespace L2
open PySem PySem.Spec PyProof.Rows
abbrev Key := Sum Int Str
def keyIs : Key → Value → Bool
  | .inl k, v => Value.isInt k v
  | .inr x, v => Value.isStrOf x v
def keyH (w : World) : Key → Int
  | .inl k => hashInt k
  | .inr x => hashStr w x
theorem keyIs_shape : ∀ {k : Key} {v : Value}, keyIs k v = true → (∃ i t, k = Sum.inl i ∧ v = Value.int i t) ∨ (∃ x t, k = Sum.inr x ∧ v = Value.str x t)
  | .inl i, v, h => by
    obtain ⟨t, e⟩ := Value.isInt_shape (k := i) (v := v) h
    exact .inl ⟨i, t, rfl, e⟩
  | .inr x, v, h => by
    obtain ⟨t, e⟩ := Value.isStrOf_shape (x := x) (v := v) h
    exact .inr ⟨x, t, rfl, e⟩
theorem key_ll (a b : Int) : decide ((Sum.inl a : Key) = Sum.inl b) = (a == b) := by
  by_cases e : a = b
  · subst e; simp
  · have h : ¬ (Sum.inl a : Key) = Sum.inl b := fun q => e (Sum.inl.inj q)
    rw [decide_eq_false h]
    exact (beq_eq_false_iff_ne.mpr e).symm
theorem key_rr (a b : Str) : decide ((Sum.inr a : Key) = Sum.inr b) = decide (a = b) := by
  by_cases e : a = b
  · subst e; simp
  · have h : ¬ (Sum.inr a : Key) = Sum.inr b := fun q => e (Sum.inr.inj q)
    rw [decide_eq_false h, decide_eq_false e]
theorem key_lr (a : Int) (b : Str) : decide ((Sum.inl a : Key) = Sum.inr b) = false := decide_eq_false (fun q => nomatch q)
theorem key_rl (a : Str) (b : Int) : decide ((Sum.inr a : Key) = Sum.inl b) = false := decide_eq_false (fun q => nomatch q)
def mixKind (prog : Program) (w : World) : PySem.KeyKind prog w Key where
  is := keyIs
  hash := keyH w
  inj := fun v a b ha hb => by
    rcases keyIs_shape ha with ⟨i, t, rfl, rfl⟩ | ⟨x, t, rfl, rfl⟩
    · rcases keyIs_shape hb with ⟨j, u, rfl, e⟩ | ⟨y, u, rfl, e⟩
      · injection e with e1 _; rw [e1]
      · exact nomatch e
    · rcases keyIs_shape hb with ⟨j, u, rfl, e⟩ | ⟨y, u, rfl, e⟩
      · exact nomatch e
      · injection e with e1 _; rw [e1]
  byValue := fun k v h => by
    rcases keyIs_shape h with ⟨i, t, rfl, rfl⟩ | ⟨x, t, rfl, rfl⟩ <;> rfl
  pyHash := fun hv h => by
    rcases keyIs_shape hv with ⟨i, t, rfl, rfl⟩ | ⟨x, t, rfl, rfl⟩
    · exact wpAny_pyHash_int h
    · exact wpAny_pyHash_str h
  eqBool := fun hu hv h => by
    rcases keyIs_shape hu with ⟨i, t, rfl, rfl⟩ | ⟨x, t, rfl, rfl⟩
    · rcases keyIs_shape hv with ⟨j, u, rfl, rfl⟩ | ⟨y, u, rfl, rfl⟩
      · rw [key_ll] at h; exact wpAny_eqBool_int h
      · rw [key_lr] at h; exact SeqAt.EqAt.int_str i t y u _ _ _ _ h
    · rcases keyIs_shape hv with ⟨j, u, rfl, rfl⟩ | ⟨y, u, rfl, rfl⟩
      · rw [key_rl] at h; exact SeqAt.EqAt.str_int x t j u _ _ _ _ h
      · rw [key_rr] at h; exact wpAny_eqBool_str h
  «strs» := fun k x t v h => by
    rcases keyIs_shape h with ⟨i, u, rfl, e⟩ | ⟨y, u, rfl, e⟩
    · exact nomatch e
    · injection e with e1 _
      subst e1
      cases v <;> rfl
end L2
namespace L2
open PySem PySem.Spec PyProof.Rows
inductive V where
  | non | bl (b : Bool) | int (i : Int) | str (x : Str) | byt (b : Array UInt8) | flt (b : UInt64) | ref (a : Addr) | ty (n : String)
  deriving DecidableEq
def RelV : V → Value → Prop
  | .non, u => u = Value.none
  | .bl b, u => u = Value.bool b
  | .int i, u => ∃ t, u = Value.int i t
  | .str x, u => ∃ t, u = Value.str x t
  | .byt b, u => ∃ t, u = Value.bytes b t
  | .flt b, u => ∃ t, u = Value.float b t
  | .ref a, u => u = Value.ref a
  | .ty n, u => u = Value.type n
abbrev Vals : List V → List Value → Prop := Paired RelV
theorem Vals.length {xs : List V} {us : List Value} (r : Vals xs us) : xs.length = us.length := Paired.length r
theorem Vals.get : ∀ {xs : List V} {us : List Value} {i : Nat} {x : V}, Vals xs us → xs[i]? = some x → ∃ u, us[i]? = some u ∧ RelV x u
  | _, _, _, _, .nil, e => by simp at e
  | _, _, 0, _, .cons r _, e => by simp at e; subst e; exact ⟨_, rfl, r⟩
  | _, _, i + 1, x, .cons _ t, e => by
    obtain ⟨u, h1, h2⟩ := Vals.get (i := i) (x := x) t (by simpa using e)
    exact ⟨u, by simpa using h1, h2⟩
theorem Vals.set {x : V} {u : Value} (r : RelV x u) : ∀ {xs : List V} {us : List Value} (i : Nat), Vals xs us → Vals (xs.set i x) (us.set i u)
  | _, _, _, .nil => .nil
  | _, _, 0, .cons _ t => .cons r t
  | _, _, i + 1, .cons q t => .cons q (Vals.set r i t)
theorem Vals.append : ∀ {xs ys : List V} {us ws : List Value}, Vals xs us → Vals ys ws → Vals (xs ++ ys) (us ++ ws)
  | _, _, _, _, .nil, s => s
  | _, _, _, _, .cons r t, s => .cons r (Vals.append t s)
theorem Vals.take : ∀ {xs : List V} {us : List Value} (n : Nat), Vals xs us → Vals (xs.take n) (us.take n)
  | _, _, 0, _ => .nil
  | _, _, _ + 1, .nil => .nil
  | _, _, n + 1, .cons r t => .cons r (Vals.take n t)
theorem Vals.drop : ∀ {xs : List V} {us : List Value} (n : Nat), Vals xs us → Vals (xs.drop n) (us.drop n)
  | _, _, 0, r => r
  | _, _, _ + 1, .nil => .nil
  | _, _, n + 1, .cons _ t => Vals.drop n t
def RelO : Option V → Option Value → Prop
  | some v, some u => RelV v u
  | none, none => True
  | _, _ => False
def KV {κ : Type} : List (κ × V) → List (κ × Value) → Prop := Paired fun (p : κ × V) (q : κ × Value) => p.1 = q.1 ∧ RelV p.2 q.2
def kV : Key → V
  | .inl i => .int i
  | .inr x => .str x
inductive HO where
  /-- a list -/
  | lst (xs : List V)
  /-- a tuple (never changes) -/
  | tup (xs : List V)
  /-- a dict whose keys are ints and texts; one whose keys are tuples of ints and texts (the empty one is both) -/
  | dK (kvs : List (Key × V)) | dT (kvs : List (List Key × V))
  /-- a set of ints: its members, its size -/
  | set (S : Int → Bool) (n : Nat)
  /-- an instance of the class at C, its dict at dx, its attributes -/
  | ins (C dx : Addr) (fs : List (Str × V))
  /-- the dict of the instance at x -/
  | own (x : Addr)
  /-- the dict of an exception -/
  | xd (fs : List (Str × V))
  /-- a bound method, f of x -/
  | met (f x : Addr)
  /-- a range object lo, lo + 1, .. below hi -/
  | rng (lo hi : Int)
  /-- a thing that is known to the object (the script; a dict while a loop walks it): read, never written while it is so -/
  | frz (o : Obj) (u : HO)
  /-- a code object's table -/
  | tbl (ps : Array Value)
  /-- any other thing, by what is true of its one object (a def of one's own: SetO a S n := HO.ext fun h => ..) -/
  | ext (φ : Heap → Prop)
abbrev Hp := Addr → Option HO
def upd (H : Hp) (a : Addr) (o : HO) : Hp := fun b => if b = a then some o else H b
theorem upd_same {H : Hp} {a : Addr} {o : HO} : upd H a o a = some o := by unfold upd; rw [if_pos rfl]
theorem upd_ne {H : Hp} {a b : Addr} {o : HO} (h : b ≠ a) : upd H a o b = H b := by unfold upd; rw [if_neg h]
theorem upd_upd {H : Hp} {a : Addr} {o u : HO} : upd (upd H a o) a u = upd H a u := by
  funext b; unfold upd; split <;> rfl
theorem ne_of {H : Hp} {a b : Addr} {o u : HO} (h : H a = some o) (h' : H b = some u) (d : o ≠ u) : a ≠ b := by
  intro e; subst e; rw [h] at h'; exact d (Option.some.inj h')
theorem ne_of_none {H : Hp} {a b : Addr} {o : HO} (h : H a = some o) (h' : H b = none) : a ≠ b := by
  intro e; subst e; rw [h] at h'; cases h'
section
variable (P : Program) (w : World)
def ObjOk (H : Hp) (h : Heap) (a : Addr) : HO → Prop
  | .lst xs => xs.length ≤ sizeLine ∧ ∃ (its : List Value) (n : Nat), Vals xs its ∧ h.get? a = some { cls := .type "list", data := .seq its.toArray n }
  | .tup xs => xs.length ≤ sizeLine ∧ ∃ its : List Value, Vals xs its ∧ IsTup h a its.toArray
  | .dK kvs => kvs.length ≤ sizeLine ∧ (a == sysModules) = false ∧ ∃ vs, KV kvs vs ∧ h.DictOf (mixKind P w) a vs
  | .dT kvs => kvs.length ≤ sizeLine ∧ (a == sysModules) = false ∧ ∃ xs : List (List Key × Addr × Value),
      Paired (fun (p : List Key × V) (q : List Key × Addr × Value) => p.1 = q.1 ∧ H q.2.1 = some (.tup (p.1.map kV)) ∧ RelV p.2 q.2.2) kvs xs ∧
      ∃ o es ep, h.get? a = some o ∧ o.ExactDict ∧ o.data = .dict es ep ∧ es.toList = xs.map (entryOfKey (tupleKind (mixKind P w))) ∧ (xs.map (·.1)).Nodup
  | .set S n => h.SetOf (intKind P w) a S n
  | .ins C dx fs => H dx = some (.own a) ∧ fs.length ≤ 1000 ∧ dx ≠ a ∧ h.get? a = some (PySem.W.instObj C dx) ∧
      ∃ mA, h.Ns1 dx mA ∧ (∀ f, RelO (fs.lookup f) (mA f)) ∧ PySem.Within mA (fs.map (·.1))
  | .own _ => ∃ o, h.get? a = some o
  | .xd fs => ∃ mA, h.Ns1 a mA ∧ ∀ f, RelO (fs.lookup f) (mA f)
  | .rng lo hi => ∃ t u v, h.get? a = some { cls := .type "range", data := .fields #[.int lo t, .int hi u, .int 1 v] }
  | .frz o u => h.get? a = some o ∧ ObjOk H h a u
  | .tbl ps => h.get? a = some { cls := .none, data := .fields ps }
  | .met f x => h.get? a = some (PySem.W.methodObj (.ref f) (.ref x))
  | .ext φ => φ h ∧ (∃ o, h.get? a = some o) ∧ ∀ h1 h2 : Heap, φ h1 → (∀ o, h1.get? a = some o → h2.get? a = some o) → φ h2
def HOk (H : Hp) (h : Heap) : Prop := ∀ a o, H a = some o → ObjOk P w H h a o
end
section
variable {P : Program} {w : World} {H H' : Hp} {h h' : Heap} {a : Addr} {o : HO}
theorem ObjOk.lt (x : ObjOk P w H h a o) : a < h.objs.size := by
  cases o with
  | lst xs => obtain ⟨_, _, _, _, e⟩ := x; exact Heap.lt_size e
  | tup xs => obtain ⟨_, _, _, p⟩ := x; exact p.lt
  | dK kvs => obtain ⟨_, _, _, _, o, _, _, e, _⟩ := x; exact Heap.lt_size e
  | dT kvs => obtain ⟨_, _, _, _, o, _, _, e, _⟩ := x; exact Heap.lt_size e
  | set S n => obtain ⟨o, _, _, _, e, _⟩ := x; exact Heap.lt_size e
  | ins C dx fs => obtain ⟨_, _, _, e, _⟩ := x; exact Heap.lt_size e
  | own y => obtain ⟨_, e⟩ := x; exact Heap.lt_size e
  | xd fs => obtain ⟨_, ⟨_, _, _, e, _⟩, _⟩ := x; exact Heap.lt_size e
  | rng lo hi => obtain ⟨_, _, _, e⟩ := x; exact Heap.lt_size e
  | frz ob u => obtain ⟨e, _⟩ := x; exact Heap.lt_size e
  | tbl ps => exact Heap.lt_size (show h.get? a = some _ from x)
  | met f y => exact Heap.lt_size (show h.get? a = some _ from x)
  | ext φ => obtain ⟨_, ⟨_, e⟩, _⟩ := x; exact Heap.lt_size e
theorem Paired.mapP {α β : Type} {F G : α → β → Prop} : ∀ {l₁ : List α} {l₂ : List β}, Paired F l₁ l₂ → (∀ a b, F a b → G a b) → Paired G l₁ l₂
  | _, _, .nil, _ => .nil
  | _, _, .cons r t, f => .cons (f _ _ r) (Paired.mapP t f)
theorem ObjOk.stay (x : ObjOk P w H h a o) (k : ∀ b u, (b = a ∨ H b = some (.own a)) → h.get? b = some u → h'.get? b = some u)
    (ho : ∀ b, H b = some (.own a) → H' b = some (.own a)) (ht : ∀ b xs, H b = some (.tup xs) → H' b = some (.tup xs)) : ObjOk P w H' h' a o := by
  induction o with
  | lst xs => obtain ⟨z, its, n, r, e⟩ := x; exact ⟨z, its, n, r, k _ _ (.inl rfl) e⟩
  | tup xs => obtain ⟨z, its, r, ob, e, c⟩ := x; exact ⟨z, its, r, ob, k _ _ (.inl rfl) e, c⟩
  | dK kvs => obtain ⟨z, y, vs, r, ob, es, ep, e, c⟩ := x; exact ⟨z, y, vs, r, ob, es, ep, k _ _ (.inl rfl) e, c⟩
  | dT kvs =>
    obtain ⟨z, y, xs, r, ob, es, ep, e, c⟩ := x
    exact ⟨z, y, xs, Paired.mapP r fun p q z => ⟨z.1, ht _ _ z.2.1, z.2.2⟩, ob, es, ep, k _ _ (.inl rfl) e, c⟩
  | set S n => obtain ⟨ob, es, ep, t, e, c⟩ := x; exact ⟨ob, es, ep, t, k _ _ (.inl rfl) e, c⟩
  | ins C dx fs =>
    obtain ⟨d, z, ne, e, mA, ⟨od, es, ep, e2, c⟩, r⟩ := x
    exact ⟨ho _ d, z, ne, k _ _ (.inl rfl) e, mA, ⟨od, es, ep, k _ _ (.inr d) e2, c⟩, r⟩
  | own y => obtain ⟨ob, e⟩ := x; exact ⟨ob, k _ _ (.inl rfl) e⟩
  | xd fs => obtain ⟨mA, ⟨od, es, ep, e, c⟩, r⟩ := x; exact ⟨mA, ⟨od, es, ep, k _ _ (.inl rfl) e, c⟩, r⟩
  | rng lo hi => obtain ⟨t, u, v, e⟩ := x; exact ⟨t, u, v, k _ _ (.inl rfl) e⟩
  | frz ob u ih => obtain ⟨e, q⟩ := x; exact ⟨k _ _ (.inl rfl) e, ih q⟩
  | tbl ps =>
    have e : h.get? a = some { cls := .none, data := .fields ps } := x
    show h'.get? a = some { cls := .none, data := .fields ps }
    exact k a _ (.inl rfl) e
  | met f y =>
    have e : h.get? a = some (PySem.W.methodObj (.ref f) (.ref y)) := x
    show h'.get? a = some (PySem.W.methodObj (.ref f) (.ref y))
    exact k a _ (.inl rfl) e
  | ext φ => obtain ⟨p, ⟨o, e⟩, st⟩ := x; exact ⟨st _ _ p fun o q => k _ _ (.inl rfl) q, ⟨o, k _ _ (.inl rfl) e⟩, st⟩
theorem HOk.lt (x : HOk P w H h) (e : H a = some o) : a < h.objs.size := (x a o e).lt
theorem HOk.fresh (x : HOk P w H h) (e : h.objs.size ≤ a) : H a = none := by
  cases q : H a with
  | none => rfl
  | some u => exact absurd (Nat.lt_of_lt_of_le (x.lt q) e) (Nat.lt_irrefl _)
theorem HOk.kept (x : HOk P w H h) (k : ∀ b u, h.get? b = some u → h'.get? b = some u) : HOk P w H h' := fun a o e =>
  (x a o e).stay (fun b u _ q => k b u q) (fun _ q => q) fun _ _ q => q
theorem HOk.laid (x : HOk P w H h) (k : ∀ b u, h.get? b = some u → h'.get? b = some u) (hp : h.objs.size ≤ a) (new : ObjOk P w (upd H a o) h' a o) : HOk P w (upd H a o) h' := fun b u e => by
  have hn := x.fresh hp
  by_cases hb : b = a
  · subst hb; rw [upd_same] at e; cases e; exact new
  · rw [upd_ne hb] at e
    exact (x b u e).stay (fun c v _ q => k c v q) (fun c q => by rw [upd_ne (ne_of_none q hn)]; exact q) fun c xs q => by rw [upd_ne (ne_of_none q hn)]; exact q
end
def Rd (H : Hp) (a : Addr) (u : HO) : Prop := H a = some u ∨ ∃ o, H a = some (.frz o u)
theorem Rd.ok {P : Program} {w : World} {H : Hp} {h : Heap} {a : Addr} {u : HO} (r : Rd H a u) (x : HOk P w H h) : ObjOk P w H h a u := by
  rcases r with r | ⟨o, r⟩
  · exact x a u r
  · obtain ⟨_, q⟩ := x a _ r
    exact q
def Mut : Option HO → Prop
  | some (.lst _) => True
  | some (.dK _) => True
  | some (.dT _) => True
  | some (.set _ _) => True
  | some (.ins _ _ _) => True
  | some (.ext _) => True
  | _ => False
section
variable {P : Program} {w : World} {H : Hp} {h h' : Heap} {x e : Addr} {o' : HO}
theorem HOk.write (ok : HOk P w H h) (mu : Mut (H x)) (he : e = x ∨ H e = some (.own x)) (k : ∀ b u, b ≠ e → h.get? b = some u → h'.get? b = some u) (heo : ∃ u, h'.get? e = some u)
    (new : ObjOk P w (upd H x o') h' x o') : HOk P w (upd H x o') h' := fun b u q => by
  have nown : ∀ c y, H c = some (.own y) → c ≠ x := fun c y r z => by subst z; rw [r] at mu; exact mu
  have ntup : ∀ c xs, H c = some (.tup xs) → c ≠ x := fun c xs r z => by subst z; rw [r] at mu; exact mu
  by_cases hb : b = x
  · subst hb; rw [upd_same] at q; cases q; exact new
  · rw [upd_ne hb] at q
    by_cases hbe : b = e
    · have q' : H b = some (.own x) := by
        rcases he with z | z
        · exact absurd (hbe.trans z) hb
        · rw [hbe]; exact z
      rw [q] at q'; cases q'
      obtain ⟨v, hv⟩ := heo
      exact ⟨v, by rw [hbe]; exact hv⟩
    · refine (ok b u q).stay (fun c v hc r => k c v ?_ r) (fun c r => by rw [upd_ne (nown c b r)]; exact r) fun c xs r => by rw [upd_ne (ntup c xs r)]; exact r
      rcases hc with rfl | hc
      · exact hbe
      · rintro rfl
        rcases he with z | z
        · exact nown c b hc z
        · rw [hc] at z; cases z; exact hb rfl
end
structure Un (fs ex : List Addr) (H H' : Hp) (h h' : Heap) : Prop where
  keep : ∀ b o, h.get? b = some o → H b = none → b ∉ fs → b ∉ ex → h'.get? b = some o
  slot : ∀ b o, h.get? b = some o → H b = none → b ∈ fs → b ∉ ex → ∃ sl, h'.get? b = some { o with slots := sl }
  free : ∀ b o, h.get? b = some o → H b = none → b ∉ ex → H' b = none
  there : ∀ b o, h.get? b = some o → b ∉ ex → ∃ o', h'.get? b = some o'
  tups : ∀ b xs, H b = some (.tup xs) → H' b = some (.tup xs)
  frzs : ∀ b o u, H b = some (.frz o u) → H' b = some (.frz o u)
  tbls : ∀ b ps, H b = some (.tbl ps) → ∃ more, H' b = some (.tbl (ps ++ more))
section
variable {fs fs' ex ex' : List Addr} {H H1 H2 : Hp} {h h1 h2 h' : Heap} {a x e : Addr} {o : HO}
theorem Un.any (u : Un fs ex H H1 h h1) {b : Addr} {ob : Obj} (q : h.get? b = some ob) (n : H b = none) (hx : b ∉ ex) : ∃ sl, h1.get? b = some { ob with slots := sl } := by
  by_cases hb : b ∈ fs
  · exact u.slot b ob q n hb hx
  · exact ⟨ob.slots, u.keep b ob q n hb hx⟩
theorem Un.kept (k : ∀ b u, h.get? b = some u → h'.get? b = some u) : Un fs ex H H h h' :=
  ⟨fun b ob q _ _ _ => k b ob q, fun b ob q _ _ _ => ⟨ob.slots, k b ob q⟩, fun _ _ _ n _ => n, fun b ob q _ => ⟨ob, k b ob q⟩, fun _ _ q => q, fun _ _ _ q => q, fun _ ps q => ⟨#[], by rw [q]; simp⟩⟩
theorem Un.refl : Un fs ex H H h h := Un.kept fun _ _ q => q
theorem Un.laid (k : ∀ b u, h.get? b = some u → h'.get? b = some u) (hp : h.objs.size ≤ a) (hn : H a = none) : Un fs ex H (upd H a o) h h' where
  keep := fun b u q _ _ _ => k b u q
  slot := fun b u q _ _ _ => ⟨u.slots, k b u q⟩
  free := fun b u q n _ => by rw [upd_ne (Nat.ne_of_lt (Nat.lt_of_lt_of_le (Heap.lt_size q) hp))]; exact n
  there := fun b u q _ => ⟨u, k b u q⟩
  tups := fun b xs q => by rw [upd_ne (ne_of_none q hn)]; exact q
  frzs := fun b u xs q => by rw [upd_ne (ne_of_none q hn)]; exact q
  tbls := fun b ps q => ⟨#[], by rw [upd_ne (ne_of_none q hn), q]; simp⟩
theorem Un.write (mu : Mut (H x)) (he : e = x ∨ H e = some (.own x)) (k : ∀ b u, b ≠ e → h.get? b = some u → h'.get? b = some u) (heo : ∃ u, h'.get? e = some u) : Un fs ex H (upd H x o) h h' := by
  have hx : ∀ b, H b = none → b ≠ x := fun b n z => by subst z; rw [n] at mu; exact mu
  have hb : ∀ b, H b = none → b ≠ e := fun b n z => by
    subst z
    rcases he with r | r
    · exact hx b n r
    · rw [n] at r; cases r
  have hm : ∀ b u, H b = some u → ¬ Mut (some u) → b ≠ x := fun b u q nm z => by subst z; rw [q] at mu; exact nm mu
  refine ⟨fun b u q n _ _ => k b u (hb b n) q, fun b u q n _ _ => ⟨u.slots, k b u (hb b n) q⟩, fun b u q n _ => by rw [upd_ne (hx b n)]; exact n, fun b u q _ => ?_,
    fun b xs q => by rw [upd_ne (hm b _ q fun z => z)]; exact q, fun b u xs q => by rw [upd_ne (hm b _ q fun z => z)]; exact q, fun b ps q => ⟨#[], by rw [upd_ne (hm b _ q fun z => z), q]; simp⟩⟩
  by_cases hbe : b = e
  · subst hbe; exact heo
  · exact ⟨u, k b u hbe q⟩
end
def trk (h : Heap) (H : Hp) : List Addr := (List.range h.objs.size).filter fun a => (H a).isSome
def hidT (h : Heap) (H : Hp) : Heap := PySem.W.hideAll h (trk h H)
theorem hidT_size (h : Heap) (H : Hp) : (hidT h H).objs.size = h.objs.size := PySem.W.hideAll_size _ _
theorem hidT_get {h : Heap} {H : Hp} {b : Addr} {o : Obj} (e : h.get? b = some o) (n : H b = none) : (hidT h H).get? b = some o :=
  PySem.W.hideAll_get _ e fun hm => by
    have q : (H b).isSome = true := (List.mem_filter.mp hm).2
    rw [n] at q; simp at q
theorem of_hidT {h : Heap} {H : Hp} {b : Addr} {o : Obj} (e : (hidT h H).get? b = some o) : h.get? b = some o ∧ H b = none := by
  have e' : h.get? b = some o := PySem.W.of_hideAll (trk h H) e
  refine ⟨e', ?_⟩
  cases q : H b with
  | none => rfl
  | some x =>
    have hm : b ∈ trk h H := List.mem_filter.mpr ⟨List.mem_range.mpr (Heap.lt_size e'), by simp [q]⟩
    have z : (hidT h H).get? b = none := PySem.W.hideAll_none (trk h H) hm
    rw [z] at e; cases e
end L2
namespace L2
open PySem PySem.Spec PyProof.Rows
structure Mod (K : PySem.W.Frag) (mg : Str → Option Value) (base : Heap) : Prop where
  kin : K.In base
  glob : base.Ns mainGlobals mg
  blt : ∃ mb, base.Ns builtinsNs mb ∧ ∀ x : Str, x ≠ "__name__" → mb x = bootBuiltins x
  nolimit : base.NoLimit
structure Cx where
  prog : Program
  w : World
  K : PySem.W.Frag
  mg : Str → Option Value
  base : Heap
  A : Around
  N : List Str
  s₀ : Shared
  H₀ : Hp
  env : Env
  outer : List Env
  stack : List Env
  ex : List Addr
  fn : Str → Bool
  calm : Bool
  pn : List (Addr × Obj)
  xe : Value → Shared → Prop
def frs (l : List Env) : List Addr := l.filterMap (·.frame)
abbrev Cx.fs (X : Cx) : List Addr := frs X.outer
def Vis (sc : Scope) (x : Str) : Prop := sc.names.lookup x = some .local ∨ sc.names.lookup x = some .cell ∨ sc.names.lookup x = some .free
def Loc (sc : Scope) (x : Str) : Prop := sc.names.lookup x = some .local ∨ sc.names.lookup x = some .cell
def Look (env : Env) (h : Heap) (m : Str → Option Value) (x : Str) (u : Value) : Prop :=
  (env.kindOf x = some .local ∧ m x = some u) ∨ ((env.kindOf x = some .cell ∨ env.kindOf x = some .free) ∧ ∃ c, env.cells.lookup x = some c ∧ h.IsCell c (some u))
structure Cx.Ok (X : Cx) : Prop where
  mod : Mod X.K X.mg X.base
  kind : X.env.scope.kind = .function
  glob : X.env.globals = mainGlobals
  blt : X.env.builtins = builtinsNs
  above : X.s₀.heap.objs.size ≤ X.env.locals
  inj : ∀ x y c, X.env.cells.lookup x = some c → X.env.cells.lookup y = some c → x = y
  has : ∀ x, (X.env.kindOf x = some .cell ∨ X.env.kindOf x = some .free) → ∃ c, X.env.cells.lookup x = some c
  cab : ∀ x c, X.fn x = true → X.env.cells.lookup x = some c → X.s₀.heap.objs.size ≤ c
  hd : X.calm = true → X.A.handled = none
  frames : X.A.frames = some X.stack
  stk : X.stack = X.outer ∨ (X.stack = X.env :: X.outer ∧ X.env.frame = some X.env.locals)
  exf : ∀ b ∈ X.ex, b ≠ X.env.locals ∧ ∀ x c, X.env.cells.lookup x = some c → c ≠ b
  bs : ∀ b o, X.base.get? b = some o → X.s₀.heap.get? b = some o ∧ X.H₀ b = none
  bsz : X.base.objs.size ≤ X.s₀.heap.objs.size
  noex : ∀ b o, X.base.get? b = some o → b ∉ X.ex
  exfs : ∀ b ∈ X.ex, b ∉ X.fs
  funs : X.s₀.heap.FunFrames X.base X.outer
  frf : ∀ b ∈ X.fs, X.H₀ b = none
structure Inv (X : Cx) (pins : List (Addr × Obj)) (σ : List (Option V)) (H : Hp) (s : Shared) : Prop where
  ok : X.Ok
  os : s.os = X.s₀.os
  bare : AllBare s.gens
  base : Un X.fs X.ex X.H₀ H X.s₀.heap s.heap
  loc : ∃ m, s.heap.Ns X.env.locals m ∧ ∀ (i : Nat) (x : Str) (v : V), X.N[i]? = some x → σ[i]? = some (some v) → Vis X.env.scope x → ∃ u, RelV v u ∧ Look X.env s.heap m x u
  cell : ∀ x c, X.env.cells.lookup x = some c → ∃ v, s.heap.IsCell c v
  free : H X.env.locals = none
  freeC : ∀ x c, X.env.cells.lookup x = some c → H c = none
  pin : ∀ p ∈ X.pn ++ pins, s.heap.get? p.1 = some p.2 ∧ H p.1 = none ∧ p.1 ≠ X.env.locals ∧ p.1 ∉ X.fs ∧ ∀ v, p.2.data ≠ .cell v
  hok : HOk X.prog X.w H s.heap
  len : σ.length = X.N.length
section
variable {X : Cx} {pins : List (Addr × Obj)} {σ : List (Option V)} {H H' : Hp} {s : Shared} {h' : Heap}
theorem Cx.Ok.nofr (ok : X.Ok) {b : Addr} {o : Obj} (e : X.base.get? b = some o) : b ∉ X.fs := fun hb => by
  have := (ok.funs.mem hb).1
  rw [e] at this; cases this
theorem Inv.bs (I : Inv X pins σ H s) : ∀ b o, X.base.get? b = some o → s.heap.get? b = some o ∧ H b = none := fun b o e =>
  ⟨I.base.keep b o (I.ok.bs b o e).1 (I.ok.bs b o e).2 (I.ok.nofr e) (I.ok.noex b o e), I.base.free b o (I.ok.bs b o e).1 (I.ok.bs b o e).2 (I.ok.noex b o e)⟩
theorem Inv.bk (I : Inv X pins σ H s) : ∀ b o, X.base.get? b = some o → s.heap.get? b = some o := fun b o e => (I.bs b o e).1
theorem Inv.mod (I : Inv X pins σ H s) : Mod X.K X.mg X.base := I.ok.mod
theorem Inv.kIn (I : Inv X pins σ H s) : X.K.In s.heap := I.ok.mod.kin.keeps I.bk
theorem Inv.lt (I : Inv X pins σ H s) : X.env.locals < s.heap.objs.size := let ⟨_, hn, _⟩ := I.loc; hn.lt
theorem Inv.sz (I : Inv X pins σ H s) : X.s₀.heap.objs.size ≤ s.heap.objs.size := Nat.le_trans I.ok.above (Nat.le_of_lt I.lt)
theorem Inv.nofs (I : Inv X pins σ H s) {a : Addr} (h : s.heap.objs.size ≤ a) : a ∉ X.fs := fun hb => by
  obtain ⟨_, o, ho, _⟩ := I.ok.funs.mem hb
  exact absurd (Nat.lt_of_lt_of_le (Heap.lt_size ho) (Nat.le_trans I.sz h)) (Nat.lt_irrefl _)
theorem Inv.cne (I : Inv X pins σ H s) : ∀ x c, X.env.cells.lookup x = some c → c ≠ X.env.locals := fun x c e z => by
  obtain ⟨v, o, ho, hd⟩ := I.cell x c e
  obtain ⟨m, ⟨o', es, ep, ho', hd', _⟩, _⟩ := I.loc
  rw [z, ho'] at ho; cases ho; rw [hd'] at hd; cases hd
theorem Inv.funs (I : Inv X pins σ H s) : s.heap.FunFrames X.base X.outer := by
  have all : ∀ (l : List Env), (∀ b ∈ frs l, b ∈ X.fs) → X.s₀.heap.FunFrames X.base l → s.heap.FunFrames X.base l := by
    intro l
    induction l with
    | nil => intro _ _; trivial
    | cons env r ih =>
      intro hs hl
      obtain ⟨hk, ⟨L, o, hf, hn, ho, hd⟩, hr⟩ := hl
      have hL : L ∈ X.fs := hs L (by unfold frs; rw [List.filterMap_cons, hf]; exact List.mem_cons_self)
      obtain ⟨sl, e⟩ := I.base.slot L o ho (I.ok.frf L hL) hL fun z => I.ok.exfs L z hL
      exact ⟨hk, ⟨L, _, hf, hn, e, hd⟩, ih (fun b hb => hs b (by unfold frs; rw [List.filterMap_cons, hf]; exact List.mem_cons_of_mem _ hb)) hr⟩
  exact all X.outer (fun _ hb => hb) I.ok.funs
theorem Inv.stack (I : Inv X pins σ H s) : s.heap.FunFrames X.base X.stack := by
  rcases I.ok.stk with e | ⟨e, hf⟩
  · rw [e]; exact I.funs
  · rw [e]
    obtain ⟨m, hn, _⟩ := I.loc
    refine .cons (by rw [I.ok.kind]; decide) hf hn ?_ I.funs
    exact Heap.get?_none_of_le (Nat.le_trans I.ok.bsz I.ok.above)
theorem Inv.stkSub (I : Inv X pins σ H s) : ∀ b ∈ frs X.stack, b ∈ X.env.locals :: X.fs := fun b hb => by
  rcases I.ok.stk with e | ⟨e, hf⟩
  · rw [e] at hb; exact List.mem_cons_of_mem _ hb
  · rw [e] at hb
    unfold frs at hb
    rw [List.filterMap_cons, hf] at hb
    exact hb
theorem Inv.stkFree (I : Inv X pins σ H s) : ∀ b ∈ frs X.stack, H b = none := fun b hb => by
  rcases List.mem_cons.mp (I.stkSub b hb) with e | hb
  · rw [e]; exact I.free
  · obtain ⟨_, o, ho, _⟩ := I.ok.funs.mem hb
    exact I.base.free b o ho (I.ok.frf b hb) fun z => I.ok.exfs b z hb
theorem Inv.step {g' : Array GenState} {t' : Nat} {d' : Drawn} {ch : List Addr} (I : Inv X pins σ H s)
    (hch : ∀ b ∈ ch, (b ∈ X.ex ∨ X.s₀.heap.objs.size ≤ b) ∧ b ≠ X.env.locals ∧ (∀ x c, X.env.cells.lookup x = some c → c ≠ b) ∧ ∀ p ∈ X.pn ++ pins, p.1 ≠ b)
    (keep : ∀ b o, b ≠ X.env.locals → b ∉ X.fs → b ∉ ch → s.heap.get? b = some o → H b = none → h'.get? b = some o)
    (slot : ∀ b o, b ≠ X.env.locals → b ∈ X.fs → b ∉ ch → s.heap.get? b = some o → H b = none → ∃ sl, h'.get? b = some { o with slots := sl }) (free : ∀ b o, b ∉ ch → s.heap.get? b = some o → H b = none → H' b = none)
    (there : ∀ b o, b ∉ ch → s.heap.get? b = some o → ∃ o', h'.get? b = some o')
    (tups : ∀ b xs, H b = some (.tup xs) → H' b = some (.tup xs)) (frzs : ∀ b o u, H b = some (.frz o u) → H' b = some (.frz o u)) (tbls : ∀ b ps, H b = some (.tbl ps) → ∃ more, H' b = some (.tbl (ps ++ more)))
    (ns : ∀ m, s.heap.Ns X.env.locals m → h'.Ns X.env.locals m) (hok : HOk X.prog X.w H' h') (hg : AllBare g') :
    Inv X pins σ H' { s with heap := h', gens := g', drawn := d', toks := t' } := by
  have neL : ∀ b o, X.s₀.heap.get? b = some o → b ≠ X.env.locals := fun b o e => Nat.ne_of_lt (Nat.lt_of_lt_of_le (Heap.lt_size e) I.ok.above)
  have neC : ∀ b o, X.s₀.heap.get? b = some o → b ∉ X.ex → b ∉ ch := fun b o e hx hb => by
    rcases (hch b hb).1 with z | z
    · exact hx z
    · exact absurd (Nat.lt_of_lt_of_le (Heap.lt_size e) z) (Nat.lt_irrefl _)
  have cellK : ∀ x c, X.env.cells.lookup x = some c → ∀ v, s.heap.IsCell c v → h'.IsCell c v := fun x c e v ⟨o, ho, hd⟩ => by
    have nch : c ∉ ch := fun z => (hch c z).2.2.1 x c e rfl
    by_cases hc : c ∈ X.fs
    · obtain ⟨sl, q⟩ := slot c o (I.cne x c e) hc nch ho (I.freeC x c e)
      exact ⟨_, q, hd⟩
    · exact ⟨o, keep c o (I.cne x c e) hc nch ho (I.freeC x c e), hd⟩
  refine ⟨I.ok, I.os, hg, ⟨fun b o e n hb hx => ?_, fun b o e n hb hx => ?_, fun b o e n hx => ?_, fun b o e hx => ?_, fun b xs e => tups b xs (I.base.tups b xs e), fun b o xs e => frzs b o xs (I.base.frzs b o xs e), fun b ps e => ?_⟩, ?_, fun x c e => ?_, ?_, fun x c e => ?_, fun p hp => ?_, hok, I.len⟩
  · exact keep b o (neL b o e) hb (neC b o e hx) (I.base.keep b o e n hb hx) (I.base.free b o e n hx)
  · obtain ⟨sl, e1⟩ := I.base.slot b o e n hb hx
    obtain ⟨sl', e2⟩ := slot b _ (neL b o e) hb (neC b o e hx) e1 (I.base.free b o e n hx)
    exact ⟨sl', e2⟩
  · obtain ⟨o', e1⟩ := I.base.there b o e hx
    exact free b o' (neC b o e hx) e1 (I.base.free b o e n hx)
  · obtain ⟨o', e1⟩ := I.base.there b o e hx
    exact there b o' (neC b o e hx) e1
  · obtain ⟨m1, e1⟩ := I.base.tbls b ps e
    obtain ⟨m2, e2⟩ := tbls b _ e1
    exact ⟨m1 ++ m2, by rw [e2, Array.append_assoc]⟩
  · obtain ⟨m, hn, hl⟩ := I.loc
    refine ⟨m, ns m hn, fun i x v e1 e2 e3 => ?_⟩
    obtain ⟨u, r, l⟩ := hl i x v e1 e2 e3
    refine ⟨u, r, ?_⟩
    rcases l with l | ⟨k, c, e, z⟩
    · exact .inl l
    · exact .inr ⟨k, c, e, cellK x c e _ z⟩
  · obtain ⟨v, z⟩ := I.cell x c e
    exact ⟨v, cellK x c e v z⟩
  · obtain ⟨m, ⟨o, _, _, ho, _⟩, _⟩ := I.loc
    exact free _ o (fun z => (hch _ z).2.1 rfl) ho I.free
  · obtain ⟨v, o, ho, hd⟩ := I.cell x c e
    exact free c o (fun z => (hch c z).2.2.1 x c e rfl) ho (I.freeC x c e)
  · obtain ⟨e, n, ne, nf, d⟩ := I.pin p hp
    have nch : p.1 ∉ ch := fun z => (hch p.1 z).2.2.2 p hp rfl
    exact ⟨keep p.1 p.2 ne nf nch e n, free p.1 p.2 nch e n, ne, nf, d⟩
theorem Inv.un {t' : Nat} (I : Inv X pins σ H s) (u : Un X.fs [] H H' s.heap h') (hok : HOk X.prog X.w H' h') : Inv X pins σ H' { s with heap := h', toks := t' } := by
  obtain ⟨m, ⟨o, es, ep, ho, r⟩, _⟩ := id I.loc
  obtain ⟨sl, hL⟩ := u.any ho I.free (by simp)
  exact I.step (g' := s.gens) (d' := s.drawn) (ch := []) (fun _ z => nomatch z) (fun b o _ hb _ e n => u.keep b o e n hb (by simp)) (fun b o _ hb _ e n => u.slot b o e n hb (by simp)) (fun b o _ e n => u.free b o e n (by simp)) (fun b o _ e => u.there b o e (by simp)) u.tups u.frzs u.tbls (fun m' hm => by
    obtain ⟨o', es', ep', ho', r'⟩ := hm
    rw [ho] at ho'; cases ho'
    exact ⟨_, es', ep', hL, r'⟩) hok I.bare
theorem Inv.call {g' : Array GenState} {t' : Nat} {d' : Drawn} {ch : List Addr} (I : Inv X pins σ H s) (u : Un (frs X.stack) ch H H' s.heap h') (hok : HOk X.prog X.w H' h') (hg : AllBare g')
    (hch : ∀ b ∈ ch, (b ∈ X.ex ∨ X.s₀.heap.objs.size ≤ b) ∧ b ≠ X.env.locals ∧ (∀ x c, X.env.cells.lookup x = some c → c ≠ b) ∧ ∀ p ∈ X.pn ++ pins, p.1 ≠ b) :
    Inv X pins σ H' { s with heap := h', gens := g', drawn := d', toks := t' } := by
  obtain ⟨m, ⟨o, es, ep, ho, r⟩, _⟩ := id I.loc
  obtain ⟨sl, hL⟩ := u.any ho I.free fun z => (hch _ z).2.1 rfl
  exact I.step (ch := ch) hch (fun b o hL hb hc e n => u.keep b o e n (fun z => (List.mem_cons.mp (I.stkSub b z)).elim hL hb) hc) (fun b o _ _ hc e n => u.any e n hc) (fun b o hc e n => u.free b o e n hc) (fun b o hc e => u.there b o e hc) u.tups u.frzs u.tbls (fun m' hm => by
    obtain ⟨o', es', ep', ho', r'⟩ := hm
    rw [ho] at ho'; cases ho'
    exact ⟨_, es', ep', hL, r'⟩) hok hg
theorem Inv.turned {t' : Nat} {it : Addr} (I : Inv X pins σ H s) (k : ∀ b o, b ≠ it → s.heap.get? b = some o → h'.get? b = some o) (hn : H it = none) (hL : it ≠ X.env.locals)
    (h1 : it ∈ X.ex ∨ X.s₀.heap.objs.size ≤ it) (h2 : ∀ x c, X.env.cells.lookup x = some c → c ≠ it) (h3 : ∀ p ∈ X.pn ++ pins, p.1 ≠ it) : Inv X pins σ H { s with heap := h', toks := t' } := by
  have nit : ∀ b u, H b = some u → b ≠ it := fun b u e z => by rw [z, hn] at e; cases e
  refine I.step (g' := s.gens) (d' := s.drawn) (ch := [it]) (fun b hb => ?_) (fun b o _ _ hc e _ => k b o (fun z => hc (by simp [z])) e) (fun b o _ _ hc e _ => ⟨o.slots, k b o (fun z => hc (by simp [z])) e⟩) (fun _ _ _ _ n => n)
    (fun b o hc e => ⟨o, k b o (fun z => hc (by simp [z])) e⟩) (fun _ _ e => e) (fun _ _ _ e => e) (fun b ps e => ⟨#[], by rw [e]; simp⟩) (fun m hm => ?_) (fun b u e => ?_) I.bare
  · have e : b = it := by simpa using hb
    subst e
    exact ⟨h1, hL, h2, h3⟩
  · obtain ⟨o, es, ep, ho, r⟩ := hm
    exact ⟨o, es, ep, k _ o (Ne.symm hL) ho, r⟩
  · refine (I.hok b u e).stay (fun c v hc q => k c v ?_ q) (fun _ q => q) fun _ _ q => q
    rcases hc with z | z
    · rw [z]; exact nit b u e
    · exact nit c _ z
theorem Inv.tok (I : Inv X pins σ H s) (t : Nat) : Inv X pins σ H { s with toks := t } := I.un (h' := s.heap) (t' := t) Un.refl I.hok
theorem Inv.kept {t' : Nat} (I : Inv X pins σ H s) (k : ∀ b u, s.heap.get? b = some u → h'.get? b = some u) : Inv X pins σ H { s with heap := h', toks := t' } := I.un (Un.kept k) (I.hok.kept k)
theorem Inv.laid {a : Addr} {o : HO} {t' : Nat} (I : Inv X pins σ H s) (k : ∀ b u, s.heap.get? b = some u → h'.get? b = some u) (hp : s.heap.objs.size ≤ a) (new : ObjOk X.prog X.w (upd H a o) h' a o) :
    Inv X pins σ (upd H a o) { s with heap := h', toks := t' } := I.un (Un.laid k hp (I.hok.fresh hp)) (I.hok.laid k hp new)
theorem Inv.write {x e : Addr} {o : HO} {t' : Nat} (I : Inv X pins σ H s) (mu : Mut (H x)) (he : e = x ∨ H e = some (.own x)) (k : ∀ b u, b ≠ e → s.heap.get? b = some u → h'.get? b = some u) (heo : ∃ u, h'.get? e = some u)
    (new : ObjOk X.prog X.w (upd H x o) h' x o) : Inv X pins σ (upd H x o) { s with heap := h', toks := t' } := I.un (Un.write mu he k heo) (I.hok.write mu he k heo new)
theorem Inv.pins_of {pins' : List (Addr × Obj)} (I : Inv X pins σ H s) (h : ∀ p ∈ pins', s.heap.get? p.1 = some p.2 ∧ H p.1 = none ∧ p.1 ≠ X.env.locals ∧ p.1 ∉ X.fs ∧ ∀ v, p.2.data ≠ .cell v) : Inv X pins' σ H s :=
  ⟨I.ok, I.os, I.bare, I.base, I.loc, I.cell, I.free, I.freeC, fun p hp => (List.mem_append.mp hp).elim (fun z => I.pin p (List.mem_append_left _ z)) (h p), I.hok, I.len⟩
theorem nodup_ix {N : List Str} (hN : N.Nodup) {i j : Nat} {x : Str} (a : N[i]? = some x) (b : N[j]? = some x) : i = j := by
  obtain ⟨h1, e1⟩ := List.getElem?_eq_some_iff.mp a
  obtain ⟨h2, e2⟩ := List.getElem?_eq_some_iff.mp b
  exact (List.getElem_inj hN).mp (e1.trans e2.symm)
theorem store_ok2 {M : Model} {A : Around} {E : Value → Shared → Prop} {i : Nat} {x : Str} {v : V} {u : Value} {Q : Unit → Shared → Prop} (I : Inv X pins σ H s) (hN : X.N.Nodup) (hi : X.N[i]? = some x) (hx : Loc X.env.scope x) (r : RelV v u)
    (h : ∀ s', Inv X pins (σ.set i (some v)) H s' → (∃ a, Heap.SameBut a s.heap s'.heap ∧ (a = X.env.locals ∨ X.env.cells.lookup x = some a)) → Q () s') (hf : X.fn x = true ∨ X.env.scope.names.lookup x = some .local := by first | exact .inl rfl | exact .inr rfl | assumption) : wpAny M A (storeName X.env x u) Q E s := by
  obtain ⟨m, hn, hl⟩ := id I.loc
  have hcls : (X.env.scope.kind == .class || (X.env.scope.kind == .module && X.env.locals != X.env.globals)) = false := by rw [I.ok.kind]; rfl
  have hiσ : i < σ.length := by rw [I.len]; exact (List.getElem?_eq_some_iff.mp hi).1
  have cne := I.cne
  have tracked : ∀ {a : Addr} {h' : Heap}, (∃ o, s.heap.get? a = some o ∧ H a = none) → Heap.SameBut a s.heap h' → HOk X.prog X.w H h' := fun {a h'} ha hs b ob e => by
    obtain ⟨_, _, hfree⟩ := ha
    refine (I.hok b ob e).stay (fun c w' hc q => (hs.2 c ?_).trans q) (fun _ q => q) fun _ _ q => q
    rintro rfl
    rcases hc with rfl | hc
    · rw [hfree] at e; cases e
    · rw [hfree] at hc; cases hc
  rcases hx with hk | hk
  · refine wpAny_storeName_local hk hn (fun h' hn' hs => ?_) hcls
    obtain ⟨oL, _, _, hoL, _⟩ := id hn
    refine h _ ⟨I.ok, I.os, I.bare, ⟨fun b o e n hb hx => ?_, fun b o e n hb hx => ?_, I.base.free, fun b o e hx => ?_, I.base.tups, I.base.frzs, I.base.tbls⟩, ⟨_, hn', fun j y v' e1 e2 e3 => ?_⟩, fun y c e => ?_, I.free, I.freeC, fun p hp => ?_, tracked ⟨oL, hoL, I.free⟩ hs, by simpa using I.len⟩ ⟨_, hs, .inl rfl⟩
    · exact (hs.2 b (Nat.ne_of_lt (Nat.lt_of_lt_of_le (Heap.lt_size e) I.ok.above))).trans (I.base.keep b o e n hb hx)
    · obtain ⟨sl, e1⟩ := I.base.slot b o e n hb hx
      exact ⟨sl, (hs.2 b (Nat.ne_of_lt (Nat.lt_of_lt_of_le (Heap.lt_size e) I.ok.above))).trans e1⟩
    · obtain ⟨o', e1⟩ := I.base.there b o e hx
      exact ⟨o', (hs.2 b (Nat.ne_of_lt (Nat.lt_of_lt_of_le (Heap.lt_size e) I.ok.above))).trans e1⟩
    · by_cases hj : j = i
      · subst hj
        rw [hi] at e1; cases e1
        rw [List.getElem?_set_self hiσ] at e2
        cases e2
        exact ⟨u, r, .inl ⟨hk, by simp⟩⟩
      · rw [List.getElem?_set_ne (Ne.symm hj)] at e2
        obtain ⟨u', r', q⟩ := hl j y v' e1 e2 e3
        refine ⟨u', r', ?_⟩
        rcases q with ⟨k, e⟩ | ⟨k, c, e, z⟩
        · refine .inl ⟨k, ?_⟩
          have : y ≠ x := fun e => hj (nodup_ix hN e1 (e ▸ hi))
          simp [this, e]
        · exact .inr ⟨k, c, e, z.sameBut hs (cne y c e)⟩
    · obtain ⟨w', z⟩ := I.cell y c e
      exact ⟨w', z.sameBut hs (cne y c e)⟩
    · obtain ⟨e, n, ne, nf, d⟩ := I.pin p hp
      exact ⟨(hs.2 p.1 ne).trans e, n, ne, nf, d⟩
  · have hfn : X.fn x = true := by
      rcases hf with z | z
      · exact z
      · rw [z] at hk; cases hk
    obtain ⟨c, hc⟩ := I.ok.has x (.inl hk)
    obtain ⟨w', z⟩ := I.cell x c hc
    refine wpAny_storeName_cell I.ok.kind hk hc z (fun h' hc' hs => ?_)
    obtain ⟨oc, hoc, hocd⟩ := id z
    refine h { s with heap := h' } ⟨I.ok, I.os, I.bare, ⟨fun b o e n hb hx => ?_, fun b o e n hb hx => ?_, I.base.free, fun b o e hx => ?_, I.base.tups, I.base.frzs, I.base.tbls⟩, ⟨m, hn.sameBut hs (Ne.symm (cne x c hc)), fun j y v' e1 e2 e3 => ?_⟩, fun y c' e => ?_, I.free, I.freeC, fun p hp => ?_, tracked ⟨oc, hoc, I.freeC x c hc⟩ hs, by simpa using I.len⟩ ⟨c, hs, .inr hc⟩
    · exact (hs.2 b (Nat.ne_of_lt (Nat.lt_of_lt_of_le (Heap.lt_size e) (I.ok.cab x c hfn hc)))).trans (I.base.keep b o e n hb hx)
    · obtain ⟨sl, e1⟩ := I.base.slot b o e n hb hx
      exact ⟨sl, (hs.2 b (Nat.ne_of_lt (Nat.lt_of_lt_of_le (Heap.lt_size e) (I.ok.cab x c hfn hc)))).trans e1⟩
    · obtain ⟨o', e1⟩ := I.base.there b o e hx
      exact ⟨o', (hs.2 b (Nat.ne_of_lt (Nat.lt_of_lt_of_le (Heap.lt_size e) (I.ok.cab x c hfn hc)))).trans e1⟩
    · by_cases hj : j = i
      · subst hj
        rw [hi] at e1; cases e1
        rw [List.getElem?_set_self hiσ] at e2
        cases e2
        exact ⟨u, r, .inr ⟨.inl hk, c, hc, hc'⟩⟩
      · rw [List.getElem?_set_ne (Ne.symm hj)] at e2
        obtain ⟨u', r', q⟩ := hl j y v' e1 e2 e3
        refine ⟨u', r', ?_⟩
        rcases q with q | ⟨k, c', e, z'⟩
        · exact .inl q
        · refine .inr ⟨k, c', e, z'.sameBut hs ?_⟩
          rintro rfl
          exact hj (nodup_ix hN e1 (I.ok.inj _ _ _ e hc ▸ hi))
    · by_cases hcc : c' = c
      · subst hcc; exact ⟨_, hc'⟩
      · obtain ⟨w2, z2⟩ := I.cell y c' e
        exact ⟨w2, z2.sameBut hs hcc⟩
    · obtain ⟨e, n, ne, nf, d⟩ := I.pin p hp
      refine ⟨(hs.2 p.1 ?_).trans e, n, ne, nf, d⟩
      intro q
      rw [q, hoc] at e
      have q' : oc = p.2 := Option.some.inj e
      exact d w' (by rw [← q']; exact hocd)
theorem store_ok {M : Model} {A : Around} {E : Value → Shared → Prop} {i : Nat} {x : Str} {v : V} {u : Value} {Q : Unit → Shared → Prop} (I : Inv X pins σ H s) (hN : X.N.Nodup) (hi : X.N[i]? = some x) (hx : Loc X.env.scope x) (r : RelV v u)
    (h : ∀ s', Inv X pins (σ.set i (some v)) H s' → Q () s') (hf : X.fn x = true ∨ X.env.scope.names.lookup x = some .local := by first | exact .inl rfl | exact .inr rfl | assumption) : wpAny M A (storeName X.env x u) Q E s :=
  store_ok2 I hN hi hx r (fun s' I' _ => h s' I') hf
theorem Inv.call' {s' : Shared} {ch : List Addr} (I : Inv X pins σ H s) (ho : s'.os = s.os) (u : Un (frs X.stack) ch H H' s.heap s'.heap) (hok : HOk X.prog X.w H' s'.heap) (hg : AllBare s'.gens)
    (hch : ∀ b ∈ ch, (b ∈ X.ex ∨ X.s₀.heap.objs.size ≤ b) ∧ b ≠ X.env.locals ∧ (∀ x c, X.env.cells.lookup x = some c → c ≠ b) ∧ ∀ p ∈ X.pn ++ pins, p.1 ≠ b) : Inv X pins σ H' s' := by
  obtain ⟨h', g', d', t', o'⟩ := s'
  have e : o' = s.os := ho
  subst e
  exact I.call (g' := g') (t' := t') (d' := d') u hok hg hch
end
abbrev XK := Value → Option Addr → Hp → Prop
abbrev St := List (Option V)
abbrev VK := V → Hp → Prop
abbrev TE := St → Hp → VK → Prop
abbrev TT := St → Hp → (Bool → Hp → Prop) → Prop
abbrev TA := St → Hp → (List V → Hp → Prop) → Prop
structure Ends where
  nx : St → Hp → Prop
  rt : VK
  bk : St → Hp → Prop := fun _ _ => False
  ct : St → Hp → Prop := fun _ _ => False
abbrev TS := Ends → St → Hp → Prop
def EP (X : Cx) (pins : List (Addr × Obj)) (σ : St) (Q : VK) (u : Value) (s' : Shared) : Prop := ∃ v H', Inv X pins σ H' s' ∧ RelV v u ∧ Q v H'
def TP (X : Cx) (pins : List (Addr × Obj)) (σ : St) (Q : Bool → Hp → Prop) (b : Bool) (s' : Shared) : Prop := ∃ H', Inv X pins σ H' s' ∧ Q b H'
def AP (X : Cx) (pins : List (Addr × Obj)) (σ : St) (Q : List V → Hp → Prop) (us : List Value) (s' : Shared) : Prop := ∃ vs H', Inv X pins σ H' s' ∧ Vals vs us ∧ Q vs H'
def SP (X : Cx) (pins : List (Addr × Obj)) (D : Ends) (f : Flow) (s' : Shared) : Prop :=
  match f with
  | .next => ∃ σ' H', Inv X pins σ' H' s' ∧ D.nx σ' H'
  | .brk => ∃ σ' H', Inv X pins σ' H' s' ∧ D.bk σ' H'
  | .cont => ∃ σ' H', Inv X pins σ' H' s' ∧ D.ct σ' H'
  | .ret u => ∃ v σ' H', Inv X pins σ' H' s' ∧ RelV v u ∧ D.rt v H'
def PE (X : Cx) (e : Expr) (t : TE) : Prop :=
  ∀ (pins : List (Addr × Obj)) (s : Shared) (σ : St) (H : Hp) (Q : VK), Inv X pins σ H s → t σ H Q → wpAny (model X.prog X.w) X.A (eval e X.env) (EP X pins σ Q) X.xe s
def PT (X : Cx) (e : Expr) (t : TT) : Prop :=
  ∀ (pins : List (Addr × Obj)) (s : Shared) (σ : St) (H : Hp) (Q : Bool → Hp → Prop), Inv X pins σ H s → t σ H Q → wpAny (model X.prog X.w) X.A (isTrue e X.env (eval e X.env)) (TP X pins σ Q) X.xe s
def PW (X : Cx) (e : Expr) (t : TT) : Prop :=
  ∀ (whole : Sem Value) (pins : List (Addr × Obj)) (s : Shared) (σ : St) (H : Hp) (Q : Bool → Hp → Prop), Inv X pins σ H s → t σ H Q → wpAny (model X.prog X.w) X.A (isTrue e X.env whole) (TP X pins σ Q) X.xe s
theorem PW.pt {X : Cx} {e : Expr} {t : TT} (h : PW X e t) : PT X e t := h _
def PA (X : Cx) (es : List Expr) (t : TA) : Prop :=
  ∀ (pos : Pos) (pins : List (Addr × Obj)) (s : Shared) (σ : St) (H : Hp) (Q : List V → Hp → Prop), Inv X pins σ H s → t σ H Q → wpAny (model X.prog X.w) X.A (spliced (backTo pos (starEach es X.env))) (AP X pins σ Q) X.xe s
def PS (X : Cx) (st : Stmt) (t : TS) : Prop :=
  ∀ (pins : List (Addr × Obj)) (s : Shared) (σ : St) (H : Hp) (D : Ends), Inv X pins σ H s → t D σ H → wpAny (model X.prog X.w) X.A (exec st X.env) (SP X pins D) X.xe s
def PSs (X : Cx) (st : List Stmt) (t : TS) : Prop :=
  ∀ (pins : List (Addr × Obj)) (s : Shared) (σ : St) (H : Hp) (D : Ends), Inv X pins σ H s → t D σ H → wpAny (model X.prog X.w) X.A (execs st X.env) (SP X pins D) X.xe s
theorem thn {α : Type} {t : Sem α} {Q Q' : α → Shared → Prop} {M : Model} {A : Around} {E : Value → Shared → Prop} {s : Shared} (h : wpAny M A t Q E s) (hQ : ∀ a s, Q a s → Q' a s) : wpAny M A t Q' E s := wpAny_mono h hQ fun _ _ x => x
end L2
namespace L2
open PySem PySem.Spec PyProof.Rows
section
variable {X : Cx}
theorem bin {a b : Expr} {ta tb : TE} (ha : PE X a ta) (hb : PE X b tb) {pins : List (Addr × Obj)} {s : Shared} {σ : St} {H : Hp} {R : V → V → Hp → Prop} (I : Inv X pins σ H s) (h : ta σ H fun x H1 => tb σ H1 fun y H2 => R x y H2)
    {α : Type} {Q : α → Shared → Prop} {f : Value → Value → Sem α}
    (hf : ∀ v u s2 x y H2, Inv X pins σ H2 s2 → RelV x v → RelV y u → R x y H2 → wpAny (model X.prog X.w) X.A (f v u) Q X.xe s2) :
    wpAny (model X.prog X.w) X.A (eval a X.env) (fun v s₁ => wpAny (model X.prog X.w) X.A (eval b X.env) (fun u s₂ => wpAny (model X.prog X.w) X.A (f v u) Q X.xe s₂) X.xe s₁) X.xe s := by
  refine thn (ha pins s σ H _ I h) fun v s1 ⟨x, H1, I1, r1, q1⟩ => ?_
  refine thn (hb pins s1 σ H1 _ I1 q1) fun u s2 ⟨y, H2, I2, r2, q2⟩ => ?_
  exact hf v u s2 x y H2 I2 r1 r2 q2
def tVar (i : Nat) : TE := fun σ H Q => ∃ v, σ[i]? = some (some v) ∧ Q v H
def tC (v : V) : TE := fun _ H Q => Q v H
theorem pe_var {i : Nat} {x : Str} {pos : Pos} (hN : X.N[i]? = some x) (hv : Vis X.env.scope x) (hd : (x == ("__debug__" : Str)) = false := by decide) (hcd : (x == ("__classdict__" : Str)) = false := by decide) : PE X (.Name x pos) (tVar i) := by
  intro pins s σ H Q I h
  obtain ⟨v, e, h⟩ := h
  obtain ⟨m, hn, hl⟩ := I.loc
  obtain ⟨u, r, l⟩ := hl i x v hN e hv
  have fin : EP X pins σ Q u s := ⟨v, H, I, r, h⟩
  rcases l with ⟨hk, hm⟩ | ⟨hk, c, hc, hcell⟩
  · exact wpAny_Name (wpAny_loadName_local I.ok.kind hk hn hm fin) hd
  · rcases hk with hk | hk
    · exact wpAny_Name (wpAny_loadName_cell I.ok.kind hk hc hcell fin) hd
    · exact wpAny_Name (wpAny_loadName_free I.ok.kind hk hc hcell fin hcd) hd
theorem pe_int {i j pos} : PE X (.Constant (.int i) j pos) (tC (.int i)) := fun _ _ _ H _ I h => wpAny_Constant_int ⟨.int i, H, I.tok _, ⟨_, rfl⟩, h⟩
theorem pe_bl {b j pos} : PE X (.Constant (.bool b) j pos) (tC (.bl b)) := fun _ _ _ H _ I h => Constant_bool ⟨.bl b, H, I, rfl, h⟩
theorem pe_non {j pos} : PE X (.Constant .none j pos) (tC .non) := fun _ _ _ H _ I h => Constant_none ⟨.non, H, I, rfl, h⟩
theorem pe_str {x j pos} : PE X (.Constant (.str x) j pos) (tC (.str x)) := fun _ _ _ H _ I h => Calls.Constant_str ⟨.str x, H, I.tok _, ⟨_, rfl⟩, h⟩
def Gl (X : Cx) (x : Str) : Prop := X.env.kindOf x = some .globalImplicit
theorem ld_glob {E : Value → Shared → Prop} {pins : List (Addr × Obj)} {s : Shared} {σ : St} {H : Hp} {x : Str} {u : Value} {pos : Pos} {Q : Value → Shared → Prop} (I : Inv X pins σ H s) (hg : Gl X x) (hm : X.mg x = some u) (h : Q u s)
    (hd : (x == ("__debug__" : Str)) = false := by decide) : wpAny (model X.prog X.w) X.A (eval (.Name x pos) X.env) Q E s :=
  Calls.Name_function_global I.ok.kind hg (Calls.loadGlobal_global (by rw [I.ok.glob]; exact I.mod.glob.keeps I.bk) hm h) hd
theorem ld_blt {E : Value → Shared → Prop} {pins : List (Addr × Obj)} {s : Shared} {σ : St} {H : Hp} {x : Str} {u : Value} {pos : Pos} {Q : Value → Shared → Prop} (I : Inv X pins σ H s) (hg : Gl X x) (hm : X.mg x = none) (hv : bootBuiltins x = some u) (h : Q u s)
    (hn : x ≠ "__name__" := by decide) (hd : (x == ("__debug__" : Str)) = false := by decide) : wpAny (model X.prog X.w) X.A (eval (.Name x pos) X.env) Q E s := by
  obtain ⟨mb, h1, h2⟩ := I.mod.blt
  exact Calls.Name_function_global I.ok.kind hg (Calls.loadGlobal_builtin (by rw [I.ok.glob]; exact I.mod.glob.keeps I.bk) hm (by rw [I.ok.blt]; exact h1.keeps I.bk) ((h2 x hn).trans hv) h) hd
theorem pe_glob {x : Str} {v : V} {u : Value} {pos : Pos} (hg : Gl X x) (hm : X.mg x = some u) (r : RelV v u) (hd : (x == ("__debug__" : Str)) = false := by decide) : PE X (.Name x pos) (tC v) :=
  fun _ _ _ H _ I h => ld_glob I hg hm ⟨v, H, I, r, h⟩ hd
theorem pe_bltn {x : Str} {v : V} {u : Value} {pos : Pos} (hg : Gl X x) (hm : X.mg x = none) (hv : bootBuiltins x = some u) (r : RelV v u) (hn : x ≠ "__name__" := by decide) (hd : (x == ("__debug__" : Str)) = false := by decide) : PE X (.Name x pos) (tC v) :=
  fun _ _ _ H _ I h => ld_blt I hg hm hv ⟨v, H, I, r, h⟩ hn hd
variable {a b : Expr} {ta tb : TE} {pos : Pos}
def PC (X : Cx) (op : CmpOp) (a b : Expr) (t : TE) : Prop :=
  ∀ (pins : List (Addr × Obj)) (s : Shared) (σ : St) (H : Hp) (Q : VK), Inv X pins σ H s → t σ H Q →
    wpAny (model X.prog X.w) X.A (eval a X.env) (fun v s₁ => wpAny (model X.prog X.w) X.A (eval b X.env) (fun u s₂ => wpAny (model X.prog X.w) X.A (compareOp op v u) (EP X pins σ Q) X.xe s₂) X.xe s₁) X.xe s
def tB (t : TE) : TT := fun σ H Q => t σ H fun x H1 => ∃ c, x = .bl c ∧ Q c H1
theorem pt_cmp {op : CmpOp} {t : TE} (h : PC X op a b t) (h1 : behindInMarks op b = false := by first | exact nobehind _ (by decide) (by decide) | rfl) : PT X (.Compare a [op] [b] pos) (tB t) := by
  intro pins s σ H Q I hw
  refine wpAny_isTrue_Compare1 (thn (h pins s σ H _ I hw) fun v s1 h1 => thn h1 fun u s2 h2 => thn h2 fun c s3 ⟨x, H1, I1, r1, q1⟩ => ?_) h1
  obtain ⟨d, rfl, q⟩ := q1
  cases r1
  exact wpAny_truthy_bool ⟨H1, I1, q⟩
theorem pt_val {e : Expr} {t : TE} (h : PE X e t) (he : ∀ whole, isTrue e X.env whole = (do let v ← whole; standAt e.pos; holding [v] (truthy v)) := by intro _; rfl) : PT X e (tB t) := by
  intro pins s σ H Q I hw
  refine isTrue_plain (thn (h pins s σ H _ I hw) fun v s1 ⟨x, H1, I1, r1, q1⟩ => ?_) (he _)
  obtain ⟨d, rfl, q⟩ := q1
  cases r1
  exact wpAny_truthy_bool ⟨H1, I1, q⟩
variable {tA tB' : TT} {rest : List Expr}
def tOr (t u : TT) : TT := fun σ H Q => t σ H fun c H1 => if c = true then Q true H1 else u σ H1 Q
def tNot (t : TT) : TT := fun σ H Q => t σ H fun c H1 => Q (!c) H1
theorem pw_or1 (ha : PT X a tA) : PW X (.BoolOp .Or [a] pos) tA := by
  intro wh pins s σ H Q I h
  refine isTrue_or (thn (ha pins s σ H Q I h) fun c s1 e => ?_)
  cases c with
  | false => exact isTrue_or_nil e
  | true => exact e
theorem pw_or (ha : PT X a tA) (hb : PW X (.BoolOp .Or (b :: rest) pos) tB') : PW X (.BoolOp .Or (a :: b :: rest) pos) (tOr tA tB') := by
  intro wh pins s σ H Q I h
  refine isTrue_or (thn (ha pins s σ H _ I h) fun c s1 ⟨H1, I1, q1⟩ => ?_)
  cases c with
  | true => exact ⟨H1, I1, q1⟩
  | false => exact hb wh pins s1 σ H1 Q I1 q1
theorem pt_not (ha : PT X a tA) : PT X (.UnaryOp .Not a pos) (tNot tA) := by
  intro pins s σ H Q I h
  exact isTrue_not (ha pins s σ H (fun c H1 => Q (!c) H1) I h)
def tAndV (ta tb : TE) : TE := fun σ H Q => ta σ H fun x H1 => ∃ c, x = .bl c ∧ if c = true then tb σ H1 Q else Q (.bl false) H1
def tNotV (ta : TE) : TE := fun σ H Q => ta σ H fun x H1 => ∃ c, x = .bl c ∧ Q (.bl (!c)) H1
theorem pe_one {op} {t : TE} (h : PE X a t) : PE X (.BoolOp op [a] pos) t := fun pins s σ H Q I hw => BoolOp_one (h pins s σ H Q I hw)
theorem pe_and (ha : PE X a ta) (hb : PE X (.BoolOp .And (b :: rest) pos) tb) : PE X (.BoolOp .And (a :: b :: rest) pos) (tAndV ta tb) := by
  intro pins s σ H Q I h
  refine BoolOp_and (thn (ha pins s σ H _ I h) fun v s1 ⟨x, H1, I1, r1, q1⟩ => ?_)
  obtain ⟨c, rfl, q1⟩ := q1
  cases r1
  refine wpAny_truthy_bool ?_
  cases c with
  | true => exact hb pins s1 σ H1 Q I1 q1
  | false => exact ⟨.bl false, H1, I1, rfl, q1⟩
theorem pe_not (ha : PE X a ta) : PE X (.UnaryOp .Not a pos) (tNotV ta) := by
  intro pins s σ H Q I h
  refine UnaryOp_ (thn (ha pins s σ H _ I h) fun v s1 ⟨x, H1, I1, r1, q1⟩ => ?_)
  obtain ⟨c, rfl, q1⟩ := q1
  cases r1
  exact not_of (wpAny_truthy_bool ⟨.bl (!c), H1, I1, rfl, q1⟩)
end
end L2
namespace L2
open PySem PySem.Spec PyProof.Rows
def SqL (K : PySem.W.Frag) (H : Hp) (a : Addr) (xs : List V) : Prop :=
  Rd H a (.lst xs) ∨
    ∃ (o : Obj) (its : Array Value) (n : Nat), K.lookup a = some o ∧ o.cls = .type "list" ∧ o.dict = none ∧ o.data = .seq its n ∧ its.size ≤ sizeLine ∧ Vals xs its.toList
def SqT (K : PySem.W.Frag) (H : Hp) (a : Addr) (xs : List V) : Prop :=
  Rd H a (.tup xs) ∨
    ∃ (o : Obj) (its : Array Value) (n : Nat), K.lookup a = some o ∧ o.cls = .type "tuple" ∧ o.data = .seq its n ∧ its.size ≤ sizeLine ∧ Vals xs its.toList
def absV : Value → Option V
  | .none => some .non
  | .bool b => some (.bl b)
  | .int i _ => some (.int i)
  | .str x _ => some (.str x)
  | .bytes b _ => some (.byt b)
  | .float b _ => some (.flt b)
  | .ref a => some (.ref a)
  | .type n => some (.ty n)
  | _ => none
theorem RelV.abs {x : V} {u : Value} (r : RelV x u) : absV u = some x := by
  cases x with
  | non => cases r; rfl
  | bl _ => cases r; rfl
  | int _ => obtain ⟨t, rfl⟩ := r; rfl
  | str _ => obtain ⟨t, rfl⟩ := r; rfl
  | byt _ => obtain ⟨t, rfl⟩ := r; rfl
  | flt _ => obtain ⟨t, rfl⟩ := r; rfl
  | ref _ => cases r; rfl
  | ty _ => cases r; rfl
theorem RelV.inj {x y : V} {u : Value} (r : RelV x u) (q : RelV y u) : x = y := Option.some.inj (r.abs.symm.trans q.abs)
theorem Vals.inj : ∀ {xs ys : List V} {us : List Value}, Vals xs us → Vals ys us → xs = ys
  | _, _, _, .nil, .nil => rfl
  | _, _, _, .cons r t, .cons r' t' => by rw [r.inj r', Vals.inj t t']
section
variable {X : Cx} {pins : List (Addr × Obj)} {σ : St} {H : Hp} {s : Shared} {a : Addr} {xs ys : List V}
theorem SqL.of {K : PySem.W.Frag} (h : H a = some (.lst xs)) : SqL K H a xs := .inl (.inl h)
theorem SqT.of {K : PySem.W.Frag} (h : H a = some (.tup xs)) : SqT K H a xs := .inl (.inl h)
theorem Inv.list (I : Inv X pins σ H s) (h : SqL X.K H a xs) : ∃ its : List Value, Vals xs its ∧ PlainL s.heap a its.toArray ∧ xs.length ≤ sizeLine := by
  rcases h with h | ⟨o, its, n, hk, hc, hd, hs, hz, r⟩
  · obtain ⟨z, its, n, r, e⟩ := h.ok I.hok
    exact ⟨its, r, ⟨_, n, e, rfl, rfl, rfl⟩, z⟩
  · refine ⟨its.toList, r, ⟨o, n, I.kIn a o hk, hc, hd, by simpa using hs⟩, ?_⟩
    have e := r.length
    simp only [Array.length_toList] at e
    omega
theorem Inv.tuple (I : Inv X pins σ H s) (h : SqT X.K H a xs) : ∃ its : List Value, Vals xs its ∧ IsTup s.heap a its.toArray ∧ xs.length ≤ sizeLine := by
  rcases h with h | ⟨o, its, n, hk, hc, hs, hz, r⟩
  · obtain ⟨z, its, r, p⟩ := h.ok I.hok
    exact ⟨its, r, p, z⟩
  · refine ⟨its.toList, r, ⟨o, I.kIn a o hk, hc, n, by simpa using hs⟩, ?_⟩
    have e := r.length
    simp only [Array.length_toList] at e
    omega
theorem Inv.list_inj (I : Inv X pins σ H s) (h : SqL X.K H a xs) (h' : SqL X.K H a ys) : xs = ys := by
  obtain ⟨its, r, ⟨o, n, e, _, _, d⟩, _⟩ := I.list h
  obtain ⟨its', r', ⟨o', n', e', _, _, d'⟩, _⟩ := I.list h'
  rw [e] at e'; cases e'
  rw [d] at d'
  injection d' with d1 _
  have : its = its' := by simpa using congrArg Array.toList d1
  subst this
  exact r.inj r'
theorem Inv.tuple_inj (I : Inv X pins σ H s) (h : SqT X.K H a xs) (h' : SqT X.K H a ys) : xs = ys := by
  obtain ⟨its, r, ⟨o, e, _, n, d⟩, _⟩ := I.tuple h
  obtain ⟨its', r', ⟨o', e', _, n', d'⟩, _⟩ := I.tuple h'
  rw [e] at e'; cases e'
  rw [d] at d'
  injection d' with d1 _
  have : its = its' := by simpa using congrArg Array.toList d1
  subst this
  exact r.inj r'
end
abbrev Cx.wish (X : Cx) (E : Value → Shared → Prop) : Cx := { X with xe := E }
abbrev Cx.nox (X : Cx) : Cx := X.wish fun _ _ => False
theorem Cx.Ok.wish {X : Cx} (ok : X.Ok) (E : Value → Shared → Prop) : (X.wish E).Ok :=
  ⟨ok.mod, ok.kind, ok.glob, ok.blt, ok.above, ok.inj, ok.has, ok.cab, ok.hd, ok.frames, ok.stk, ok.exf, ok.bs, ok.bsz, ok.noex, ok.exfs, ok.funs, ok.frf⟩
theorem Cx.Ok.unwish {X : Cx} {E : Value → Shared → Prop} (ok : (X.wish E).Ok) : X.Ok :=
  ⟨ok.mod, ok.kind, ok.glob, ok.blt, ok.above, ok.inj, ok.has, ok.cab, ok.hd, ok.frames, ok.stk, ok.exf, ok.bs, ok.bsz, ok.noex, ok.exfs, ok.funs, ok.frf⟩
section
variable {X : Cx} {pins : List (Addr × Obj)} {σ : St} {H : Hp} {s : Shared} {E : Value → Shared → Prop}
theorem Inv.wish (I : Inv X pins σ H s) (E : Value → Shared → Prop) : Inv (X.wish E) pins σ H s := ⟨I.ok.wish E, I.os, I.bare, I.base, I.loc, I.cell, I.free, I.freeC, I.pin, I.hok, I.len⟩
theorem Inv.unwish (I : Inv (X.wish E) pins σ H s) : Inv X pins σ H s := ⟨I.ok.unwish, I.os, I.bare, I.base, I.loc, I.cell, I.free, I.freeC, I.pin, I.hok, I.len⟩
theorem SP.unwish {D : Ends} {f : Flow} {s' : Shared} (h : SP (X.wish E) pins D f s') : SP X pins D f s' := by
  cases f with
  | next => obtain ⟨σ', H', I, q⟩ := h; exact ⟨σ', H', I.unwish, q⟩
  | brk => obtain ⟨σ', H', I, q⟩ := h; exact ⟨σ', H', I.unwish, q⟩
  | cont => obtain ⟨σ', H', I, q⟩ := h; exact ⟨σ', H', I.unwish, q⟩
  | ret u => obtain ⟨v, σ', H', I, r, q⟩ := h; exact ⟨v, σ', H', I.unwish, r, q⟩
theorem PSs.nox {st : List Stmt} {t : TS} (h : PSs X.nox st t) : PSs X st t := fun pins s σ H D I hw =>
  wpAny_mono (h pins s σ H D (I.wish _) hw) (fun _ _ q => q.unwish) fun _ _ z => False.elim z
end
section
variable {X : Cx} {st : Stmt} {rest : List Stmt} {t u : TS} {e : Expr} {te : TE} {pos : Pos}
def tNext : TS := fun D σ H => D.nx σ H
def tSeq (t u : TS) : TS := fun D σ H => t { D with nx := u D } σ H
theorem pss_nil : PSs X [] tNext := fun _ _ σ H _ I h => wpAny_execs_nil ⟨σ, H, I, h⟩
theorem pss_cons (h1 : PS X st t) (h2 : PSs X rest u) : PSs X (st :: rest) (tSeq t u) := by
  intro pins s σ H D I h
  refine wpAny_execs_cons (thn (h1 pins s σ H { D with nx := u D } I h) fun f s1 q => ?_)
  cases f with
  | next =>
    obtain ⟨σ', H', I', q⟩ := q
    exact h2 pins s1 σ' H' D I' q
  | ret v => exact q
  | brk => exact q
  | cont => exact q
theorem pss_one (h1 : PS X st t) : PSs X [st] t := by
  intro pins s σ H D I h
  refine wpAny_execs_cons (thn (h1 pins s σ H D I h) fun f s1 q => ?_)
  cases f with
  | next => exact wpAny_execs_nil q
  | ret v => exact q
  | brk => exact q
  | cont => exact q
theorem Inv.quiet {pins : List (Addr × Obj)} {σ : St} {H : Hp} {s : Shared} (I : Inv X pins σ H s) : interactive X.env = false := by simp [interactive, I.ok.kind]
def tDrop (te : TE) : TS := fun D σ H => te σ H fun _ H1 => D.nx σ H1
theorem ps_expr (he : PE X e te) (hs : swapsWith e none pos.line X.env = pure false := by rfl) : PS X (.Expr e pos) (tDrop te) := by
  intro pins s σ H D I h
  exact wpAny_Expr_any (thn (he pins s σ H _ I h) fun v s1 ⟨x, H1, I1, r1, q1⟩ => ⟨σ, H1, I1, q1⟩) I.quiet hs
def tRet (te : TE) : TS := fun D σ H => te σ H D.rt
theorem ps_ret (he : PE X e te) : PS X (.Return (some e) pos) (tRet te) := by
  intro pins s σ H D I h
  exact wpAny_Return_some (thn (he pins s σ H _ I h) fun v s1 ⟨x, H1, I1, r1, q1⟩ => ⟨x, σ, H1, I1, r1, q1⟩)
def tIfS (c : TT) (t u : TS) : TS := fun D σ H => c σ H fun b H1 => if b = true then t D σ H1 else u D σ H1
theorem ps_if {c : Expr} {a b : List Stmt} {tc : TT} (hc : PT X c tc) (ha : PSs X a t) (hb : PSs X b u) : PS X (.If c a b pos) (tIfS tc t u) := by
  intro pins s σ H D I h
  refine wpAny_If (thn (hc pins s σ H _ I h) fun d s1 ⟨H1, I1, q1⟩ => ?_)
  cases d with
  | true => exact ha pins s1 σ H1 D I1 q1
  | false => exact hb pins s1 σ H1 D I1 q1
end
abbrev TG := V → St → Hp → (St → Hp → Prop) → Prop
def PG (X : Cx) (target : Expr) (t : TG) : Prop :=
  ∀ (pins : List (Addr × Obj)) (s : Shared) (σ : St) (H : Hp) (v : V) (u : Value) (Q : St → Hp → Prop), Inv X pins σ H s → RelV v u → t v σ H Q →
    wpAny (model X.prog X.w) X.A (assign target X.env u) (fun _ s' => ∃ σ' H', Inv X pins σ' H' s' ∧ Q σ' H') X.xe s
abbrev TSet := V → V → V → Hp → (Hp → Prop) → Prop
def PSet (X : Cx) (t : TSet) : Prop :=
  ∀ (pins : List (Addr × Obj)) (s : Shared) (σ : St) (H : Hp) (o i v : V) (ov iv u : Value) (Q : Hp → Prop), Inv X pins σ H s → RelV o ov → RelV i iv → RelV v u → t o i v H Q →
    wpAny (model X.prog X.w) X.A (setItem ov iv u) (fun _ s' => ∃ H', Inv X pins σ H' s' ∧ Q H') X.xe s
section
variable {X : Cx} {pos : Pos}
def gName (i : Nat) : TG := fun v σ H Q => Q (σ.set i (some v)) H
theorem pg_name {i : Nat} {x : Str} (hN : X.N.Nodup) (hi : X.N[i]? = some x) (hx : Loc X.env.scope x) (hf : X.fn x = true ∨ X.env.scope.names.lookup x = some .local := by first | exact .inl rfl | exact .inr rfl | assumption) : PG X (.Name x pos) (gName i) := by
  intro pins s σ H v u Q I r h
  exact wpAny_assign_Name (store_ok I hN hi hx r (fun s' I' => ⟨_, H, I', h⟩) hf)
def gSub (to ti : TE) (t : TSet) : TG := fun v σ H Q => to σ H fun o H1 => ti σ H1 fun i H2 => t o i v H2 fun H3 => Q σ H3
theorem pg_sub {o i : Expr} {to ti : TE} {t : TSet} (ho : PE X o to) (hi : PE X i ti) (hs : PSet X t)
    (ha : ∀ v, assign (.Subscript o i pos) X.env v = (do
      let ov ← holding [v] (eval o X.env)
      let iv ← holding [v, ov] (eval i X.env)
      standAt pos
      holding [v, ov, iv] (setItem ov iv v)
      release [v, ov, iv] []) := by intro _; rfl) : PG X (.Subscript o i pos) (gSub to ti t) := by
  intro pins s σ H v u Q I r h
  rw [ha]
  refine wpAny_bind (wpAny_holding (thn (ho pins s σ H _ I h) fun ov s1 ⟨x, H1, I1, r1, q1⟩ => ?_))
  refine wpAny_bind (wpAny_holding (thn (hi pins s1 σ H1 _ I1 q1) fun iv s2 ⟨y, H2, I2, r2, q2⟩ => ?_))
  refine wpAny_bind (wpAny_standAt (wpAny_bind (wpAny_holding (thn (hs pins s2 σ H2 x y v ov iv u _ I2 r1 r2 r q2) fun _ s3 ⟨H3, I3, q3⟩ => ?_))))
  exact wpAny_release ⟨σ, H3, I3, q3⟩
def tAsg (te : TE) (g : TG) : TS := fun D σ H => te σ H fun x H1 => g x σ H1 D.nx
theorem ps_asg {tg e : Expr} {te : TE} {g : TG} (he : PE X e te) (hg : PG X tg g) (hs : swapsWithSole [tg] e pos.line X.env = pure false := by rfl) (hw : swappedStores [tg] e X.env = pure none := by rfl)
    (h1 : (assignEach [tg] X.env).map (·.2) = [assign tg X.env] := by rfl) : PS X (.Assign [tg] e pos) (tAsg te g) := by
  intro pins s σ H D I h
  refine wpAny_Assign_stores (thn (he pins s σ H _ I h) fun v s1 ⟨x, H1, I1, r1, q1⟩ => ?_) hs hw
  rw [h1]
  exact thn (hg pins s1 σ H1 x v _ I1 r1 q1) fun _ s2 q => q
theorem ps_set {i : Nat} {x : Str} {e : Expr} {te : TE} {pos' : Pos} (hN : X.N.Nodup) (hi : X.N[i]? = some x) (hx : Loc X.env.scope x) (he : PE X e te) (hs : swapsWith e (some (.Name x pos')) pos.line X.env = pure false := by rfl) (hf : X.fn x = true ∨ X.env.scope.names.lookup x = some .local := by first | exact .inl rfl | exact .inr rfl | assumption) :
    PS X (.Assign [.Name x pos'] e pos) (tAsg te (gName i)) := by
  intro pins s σ H D I h
  refine wpAny_Assign_Name (thn (he pins s σ H _ I h) fun v s1 ⟨y, H1, I1, r1, q1⟩ => ?_) hs
  exact store_ok I1 hN hi hx r1 (fun s2 I2 => ⟨_, H1, I2, q1⟩) hf
end
section
variable {X : Cx} {pos : Pos}
end
structure It where
  go : Nat → Hp → Prop
  yld : Nat → Hp → V → Hp → Prop
  stop : Nat → Hp → Prop
def FpOk (X : Cx) (pins : List (Addr × Obj)) (H : Hp) (b : Addr) : Prop :=
  H b = none ∧ b ≠ X.env.locals ∧ b ∉ X.fs ∧ (b ∈ X.ex ∨ X.s₀.heap.objs.size ≤ b) ∧ (∀ x c, X.env.cells.lookup x = some c → c ≠ b) ∧ ∀ p ∈ X.pn ++ pins, p.1 ≠ b
theorem Inv.fpOk {X : Cx} {pins : List (Addr × Obj)} {σ : St} {H H' : Hp} {s : Shared} {b : Addr} (I : Inv X pins σ H s) (hb : s.heap.objs.size ≤ b) (hn : H' b = none) : FpOk X pins H' b := by
  refine ⟨hn, Nat.ne_of_gt (Nat.lt_of_lt_of_le I.lt hb), I.nofs hb, .inr (Nat.le_trans I.sz hb), fun x c e z => ?_, fun p hp z => ?_⟩
  · obtain ⟨v, q⟩ := I.cell x c e
    exact absurd (Nat.lt_of_lt_of_le q.lt (by rw [z]; exact hb)) (Nat.lt_irrefl _)
  · exact absurd (Nat.lt_of_lt_of_le (Heap.lt_size (I.pin p hp).1) (by rw [z]; exact hb)) (Nat.lt_irrefl _)
structure Turn (P : Program) (w : World) (K : PySem.W.Frag) (tg : Expr) (J : It) (fp : List Addr) (it : Addr) (tn : Nat → Heap → Prop) : Prop where
  mem : it ∈ fp
  obj : ∀ i h, tn i h → ∀ b ∈ fp, ∃ o, h.get? b = some o ∧ ∀ v, o.data ≠ .cell v
  keep : ∀ i h h', tn i h → (∀ b ∈ fp, ∀ o, h.get? b = some o → h'.get? b = some o) → tn i h'
  item : ∀ (X : Cx), X.prog = P → X.w = w → X.K = K → X.calm = true → ∀ (i : Nat) (pins : List (Addr × Obj)) (s : Shared) (σ : St) (H : Hp) (E : Value → Shared → Prop), Inv X pins σ H s → (∀ b ∈ fp, FpOk X pins H b) → tn i s.heap → J.go i H →
    wpAny (model P w) X.A (pyNext (.ref it)) (fun r s1 => ∃ u, r = some u ∧
      wpAny (model P w) X.A (letOwnedTupleGo tg (.ref it) u) (fun _ s2 => ∃ x H', Inv X pins σ H' s2 ∧ RelV x u ∧ J.yld i H x H' ∧ tn (i + 1) s2.heap ∧ ∀ b ∈ fp, H' b = none) E s1) E s
  done : ∀ (X : Cx), X.prog = P → X.w = w → X.K = K → X.calm = true → ∀ (i : Nat) (pins : List (Addr × Obj)) (s : Shared) (σ : St) (H : Hp) (E : Value → Shared → Prop), Inv X pins σ H s → (∀ b ∈ fp, FpOk X pins H b) → tn i s.heap → J.stop i H →
    wpAny (model P w) X.A (pyNext (.ref it)) (fun r s1 => r = none ∧ Inv X pins σ H s1) E s
  self : ∀ (A : Around) (i : Nat) (s : Shared) (Q : Value → Shared → Prop) (E : Value → Shared → Prop), tn i s.heap → Q (.ref it) s → wpAny (model P w) A (pyIter (.ref it)) Q E s
abbrev TI := St → Hp → (It → Hp → Prop) → Prop
def PIE (X : Cx) (pins : List (Addr × Obj)) (σ : St) (tg : Expr) (R : It → Hp → Prop) (itv : Value) (s2 : Shared) : Prop :=
  ∃ (it : Addr) (fp : List Addr) (tn : Nat → Heap → Prop) (J : It) (H' : Hp), itv = .ref it ∧ Inv X pins σ H' s2 ∧ Turn X.prog X.w X.K tg J fp it tn ∧ tn 0 s2.heap ∧ (∀ b ∈ fp, FpOk X pins H' b) ∧ R J H'
def PI (X : Cx) (tg iter : Expr) (wi : TI) : Prop :=
  ∀ (pins : List (Addr × Obj)) (s : Shared) (σ : St) (H : Hp) (R : It → Hp → Prop), Inv X pins σ H s → wi σ H R →
    wpAny (model X.prog X.w) X.A (eval iter X.env) (fun v s1 => wpAny (model X.prog X.w) X.A (pyIter v) (PIE X pins σ tg R) X.xe s1) X.xe s
theorem go_of {M : Model} {A : Around} {E : Value → Shared → Prop} {s : Shared} {tg : Expr} {it : Addr} {u : Value} {o : Obj} {n : String} {vs : Array Value} {Q : Unit → Shared → Prop} (ho : s.heap.get? it = some o) (hc : o.cls = .type n) (hd : o.data = .fields vs)
    (hn : ["enumerate", "zip", "dict_itemiterator", "dict_reverseitemiterator", "odict_iterator", "itertools.zip_longest", "itertools.pairwise"].contains n = false) (hQ : Q () s) : wpAny M A (letOwnedTupleGo tg (.ref it) u) Q E s := by
  unfold letOwnedTupleGo
  cases tg <;> first
    | exact wpAny_pure hQ
    | (cases u <;> first
        | exact wpAny_pure hQ
        | (refine wpAny_bind (wpAny_load ho ?_)
           rw [hc, hd]
           show wpAny M A (if (["enumerate", "zip", "dict_itemiterator", "dict_reverseitemiterator", "odict_iterator", "itertools.zip_longest", "itertools.pairwise"].contains n && vs[0]? == some (rawInt _)) = true then _ else _) Q E s
           rw [if_neg (by intro h; rw [hn, Bool.false_and] at h; cases h)]
           exact wpAny_pure hQ))
def Itl (K : PySem.W.Frag) (a : Addr) : It :=
  ⟨fun i H => ∃ xs x, SqL K H a xs ∧ xs[i]? = some x, fun i H x H' => H' = H ∧ ∀ xs, SqL K H a xs → xs[i]? = some x, fun i H => ∃ xs, SqL K H a xs ∧ xs.length ≤ i⟩
def Itt (K : PySem.W.Frag) (a : Addr) : It :=
  ⟨fun i H => ∃ xs x, SqT K H a xs ∧ xs[i]? = some x, fun i H x H' => H' = H ∧ ∀ xs, SqT K H a xs → xs[i]? = some x, fun i H => ∃ xs, SqT K H a xs ∧ xs.length ≤ i⟩
def Itr (lo : Int) (n : Nat) : It := ⟨fun i _ => i < n, fun i H x H' => H' = H ∧ x = .int (lo + i), fun i _ => n ≤ i⟩
theorem turn_list {P : Program} {w : World} {K : PySem.W.Frag} {tg : Expr} (a it : Addr) : Turn P w K tg (Itl K a) [it] it (fun i h => h.IsListIter it a i) where
  mem := by simp
  obj := fun i h st b hb => by
    have e : b = it := by simpa using hb
    subst e
    obtain ⟨o, e, c, d⟩ := st
    exact ⟨o, e, fun v z => by rw [d] at z; cases z⟩
  keep := fun i h h' st k => st.at fun o e => k it (by simp) o e
  item := by
    intro X hP hw hK hc i pins s σ H E I hf st hg
    subst hP hw hK
    obtain ⟨xs, x, hq, hx⟩ := hg
    obtain ⟨its, rv, p, hz⟩ := I.list hq
    obtain ⟨u, hu, ru⟩ := rv.get hx
    obtain ⟨f0, f1, f2, f3, f4, f5⟩ := hf it (by simp)
    refine wpAny_pyNext_list_item st p.isList (x := u) (by simpa using hu) fun h' st' sb => ?_
    have I1 : Inv X pins σ H { s with heap := h' } := I.turned (t' := s.toks) (fun b o hb e => (sb.2 b hb).trans e) f0 f1 f3 f4 f5
    obtain ⟨o, e, c, d⟩ := id st'
    exact ⟨u, rfl, go_of (s := { s with heap := h' }) e c d (by decide) ⟨x, H, I1, ru, ⟨rfl, fun ys hy => by rw [I.list_inj hy hq]; exact hx⟩, st', fun b hb => (hf b hb).1⟩⟩
  done := by
    intro X hP hw hK hc i pins s σ H E I hf st hg
    subst hP hw hK
    obtain ⟨xs, hq, hx⟩ := hg
    obtain ⟨its, rv, p, hz⟩ := I.list hq
    obtain ⟨f0, f1, f2, f3, f4, f5⟩ := hf it (by simp)
    have hl := rv.length
    exact wpAny_pyNext_list_end (I.ok.hd hc) st p.isList (by simp; omega) fun h' eb => ⟨rfl, I.turned (t' := s.toks) (fun b o hb e => eb b o hb e) f0 f1 f3 f4 f5⟩
  self := fun _ _ _ _ _ st h => wpAny_pyIter_listiter st h
theorem turn_tuple {P : Program} {w : World} {K : PySem.W.Frag} {tg : Expr} (a it : Addr) : Turn P w K tg (Itt K a) [it] it (fun i h => h.IsTupleIter it a i) where
  mem := by simp
  obj := fun i h st b hb => by
    have e : b = it := by simpa using hb
    subst e
    obtain ⟨o, e, c, d⟩ := st
    exact ⟨o, e, fun v z => by rw [d] at z; cases z⟩
  keep := fun i h h' st k => st.at fun o e => k it (by simp) o e
  item := by
    intro X hP hw hK hc i pins s σ H E I hf st hg
    subst hP hw hK
    obtain ⟨xs, x, hq, hx⟩ := hg
    obtain ⟨its, rv, p, hz⟩ := I.tuple hq
    obtain ⟨u, hu, ru⟩ := rv.get hx
    obtain ⟨f0, f1, f2, f3, f4, f5⟩ := hf it (by simp)
    refine wpAny_pyNext_tuple_item st (show s.heap.IsTuple a its.toArray from p) (x := u) (by simpa using hu) fun h' st' sb => ?_
    have I1 : Inv X pins σ H { s with heap := h' } := I.turned (t' := s.toks) (fun b o hb e => (sb.2 b hb).trans e) f0 f1 f3 f4 f5
    obtain ⟨o, e, c, d⟩ := id st'
    exact ⟨u, rfl, go_of (s := { s with heap := h' }) e c d (by decide) ⟨x, H, I1, ru, ⟨rfl, fun ys hy => by rw [I.tuple_inj hy hq]; exact hx⟩, st', fun b hb => (hf b hb).1⟩⟩
  done := by
    intro X hP hw hK hc i pins s σ H E I hf st hg
    subst hP hw hK
    obtain ⟨xs, hq, hx⟩ := hg
    obtain ⟨its, rv, p, hz⟩ := I.tuple hq
    obtain ⟨f0, f1, f2, f3, f4, f5⟩ := hf it (by simp)
    have hl := rv.length
    exact wpAny_pyNext_tuple_end (I.ok.hd hc) st (show s.heap.IsTuple a its.toArray from p) (by simp; omega) fun h' eb => ⟨rfl, I.turned (t' := s.toks) (fun b o hb e => eb b o hb e) f0 f1 f3 f4 f5⟩
  self := fun _ _ _ _ _ st h => wpAny_pyIter_tupleiter st h
theorem turn_range {P : Program} {w : World} {K : PySem.W.Frag} {tg : Expr} (it : Addr) (lo : Int) (n : Nat) : Turn P w K tg (Itr lo n) [it] it (fun i h => IsRangeIter h it (lo + (i : Nat) * 1) ((n : Int) - (i : Nat)) 1) where
  mem := by simp
  obj := fun i h st b hb => by
    have e : b = it := by simpa using hb
    subst e
    exact ⟨_, st, fun v z => by
      have z' : Data.fields _ = Data.cell v := z
      cases z'⟩
  keep := fun i h h' st k => k it (by simp) _ st
  item := by
    intro X hP hw hK hc i pins s σ H E I hf st hg
    subst hP hw hK
    obtain ⟨f0, f1, f2, f3, f4, f5⟩ := hf it (by simp)
    have W := Walks.range (prog := X.prog) (w := X.w) (I.ok.hd hc) it lo 1 n
    refine W.item i s _ _ hg st fun v h' tk hv st' kk => ?_
    obtain ⟨t, rfl⟩ := hv
    have I1 : Inv X pins σ H { s with heap := h', toks := tk } := I.turned (fun b o hb e => kk b o (by simpa using hb) e) f0 f1 f3 f4 f5
    refine ⟨_, rfl, go_of (s := { s with heap := h', toks := tk }) (n := "range_iterator") st' rfl rfl (by decide) ⟨.int (lo + i), H, I1, ⟨t, ?_⟩, ⟨rfl, rfl⟩, st', fun b hb => (hf b hb).1⟩⟩
    rw [Int.mul_one]
  done := by
    intro X hP hw hK hc i pins s σ H E I hf st hg
    subst hP hw hK
    obtain ⟨f0, f1, f2, f3, f4, f5⟩ := hf it (by simp)
    exact wpAny_pyNext_range_end (I.ok.hd hc) st (by have : n ≤ i := hg; omega) fun h' eb => ⟨rfl, I.turned (t' := s.toks) (fun b o hb e => eb b o hb e) f0 f1 f3 f4 f5⟩
  self := fun _ _ _ _ _ st h => wpAny_pyIter_rangeiter st h
end L2
namespace L2
open PySem PySem.Spec PyProof.Rows
section
variable {X : Cx} {tg : Expr}
def iList (K : PySem.W.Frag) (tl : TE) : TI := fun σ H R => tl σ H fun x H1 => ∃ a, x = .ref a ∧ (∃ xs, SqL K H1 a xs) ∧ R (Itl K a) H1
def iTup (K : PySem.W.Frag) (tl : TE) : TI := fun σ H R => tl σ H fun x H1 => ∃ a, x = .ref a ∧ (∃ xs, SqT K H1 a xs) ∧ R (Itt K a) H1
theorem pi_list {l : Expr} {tl : TE} (hl : PE X l tl) : PI X tg l (iList X.K tl) := by
  intro pins s σ H R I h
  refine thn (hl pins s σ H _ I h) fun v s1 ⟨x, H1, I1, r1, q1⟩ => ?_
  obtain ⟨a, e, ⟨xs, hq⟩, q⟩ := q1
  subst e
  cases r1
  obtain ⟨its, rv, p, hz⟩ := I1.list hq
  refine wpAny_pyIter_list p.isList ?_
  refine ⟨s1.heap.objs.size, [s1.heap.objs.size], _, _, H1, rfl, I1.kept (t' := s1.toks) fun b o e => Heap.get?_push_of_some _ e, turn_list a _, ⟨_, Heap.get?_push_size _ rfl, rfl, rfl⟩, fun b hb => ?_, q⟩
  have e : b = s1.heap.objs.size := by simpa using hb
  subst e
  exact I1.fpOk (Nat.le_refl _) (I1.hok.fresh (Nat.le_refl _))
theorem pi_tup {l : Expr} {tl : TE} (hl : PE X l tl) : PI X tg l (iTup X.K tl) := by
  intro pins s σ H R I h
  refine thn (hl pins s σ H _ I h) fun v s1 ⟨x, H1, I1, r1, q1⟩ => ?_
  obtain ⟨a, e, ⟨xs, hq⟩, q⟩ := q1
  subst e
  cases r1
  obtain ⟨its, rv, p, hz⟩ := I1.tuple hq
  refine wpAny_pyIter_tuple (show s1.heap.IsTuple a its.toArray from p) ?_
  refine ⟨s1.heap.objs.size, [s1.heap.objs.size], _, _, H1, rfl, I1.kept (t' := s1.toks) fun b o e => Heap.get?_push_of_some _ e, turn_tuple a _, ⟨_, Heap.get?_push_size _ rfl, rfl, rfl⟩, fun b hb => ?_, q⟩
  have e : b = s1.heap.objs.size := by simpa using hb
  subst e
  exact I1.fpOk (Nat.le_refl _) (I1.hok.fresh (Nat.le_refl _))
theorem range_it {pins : List (Addr × Obj)} {σ : St} {H : Hp} {s : Shared} {R : It → Hp → Prop} {E : Value → Shared → Prop} {lo hi : Int} {t u v : Tok} {tk : Nat} (I : Inv X pins σ H s) (h1 : -(2 ^ 62) ≤ lo) (h2 : lo < 2 ^ 62) (h3 : -(2 ^ 62) ≤ hi) (h4 : hi < 2 ^ 62)
    (q : R (Itr lo (hi - lo).toNat) H) : wpAny (model X.prog X.w) X.A (pyIter (.ref s.heap.objs.size)) (PIE X pins σ tg R) E { s with heap := s.heap.push { cls := .type "range", data := .fields #[.int lo t, .int hi u, .int 1 v] }, toks := tk } := by
  refine wpAny_pyIter_range (IsRange.new ..) (small_one h1 h2 h3 h4) ?_
  have I1 : Inv X pins σ H { s with heap := s.heap.push { cls := .type "range", data := .fields #[.int lo t, .int hi u, .int 1 v] }, toks := tk } := I.kept fun b o e => Heap.get?_push_of_some _ e
  refine ⟨(s.heap.push { cls := .type "range", data := .fields #[.int lo t, .int hi u, .int 1 v] }).objs.size, [(s.heap.push { cls := .type "range", data := .fields #[.int lo t, .int hi u, .int 1 v] }).objs.size], _, _, H, rfl,
    I1.kept (t' := tk) fun b o e => Heap.get?_push_of_some _ e, turn_range _ lo (hi - lo).toNat, ?_, fun b hb => ?_, q⟩
  · have e1 : lo + ((0 : Nat) : Int) * 1 = lo := by simp
    have e2 : (((hi - lo).toNat : Nat) : Int) - ((0 : Nat) : Int) = Builtin.Range.rangeSize lo hi 1 := by rw [rangeSize_one]; split <;> omega
    show IsRangeIter _ _ (lo + ((0 : Nat) : Int) * 1) ((((hi - lo).toNat : Nat) : Int) - ((0 : Nat) : Int)) 1
    rw [e1, e2]
    exact Heap.get?_push_size _ rfl
  · have e : b = (s.heap.push { cls := .type "range", data := .fields #[.int lo t, .int hi u, .int 1 v] }).objs.size := by simpa using hb
    subst e
    exact I1.fpOk (Nat.le_refl _) (I1.hok.fresh (Nat.le_refl _))
def iRng1 (ta : TA) : TI := fun σ H R => ta σ H fun vs H1 => ∃ j : Int, vs = [.int j] ∧ -(2 ^ 62) ≤ j ∧ j < 2 ^ 62 ∧ R (Itr 0 j.toNat) H1
def iRng2 (ta : TA) : TI := fun σ H R => ta σ H fun vs H1 => ∃ i j : Int, vs = [.int i, .int j] ∧ (-(2 ^ 62) ≤ i ∧ i < 2 ^ 62 ∧ -(2 ^ 62) ≤ j ∧ j < 2 ^ 62) ∧ R (Itr i (j - i).toNat) H1
theorem pi_range1 {a : Expr} {ta : TA} {p pos : Pos} (hg : Gl X "range") (hm : X.mg "range" = none) (ha : PA X [a] ta) (hs : starEach [a] X.env = [(false, eval a X.env)] := by rfl) : PI X tg (.Call (.Name "range" p) [a] [] pos) (iRng1 ta) := by
  intro pins s σ H R I h
  refine Call_ (ld_blt I hg hm boot_range (PyProof.Rows.callWith_type1 (thn (ha pos pins s σ H _ I h) fun us s1 ⟨vs, H1, I1, r1, q1⟩ => ?_) hs rfl))
  obtain ⟨j, e, q1, q2, q⟩ := q1
  subst e
  cases r1 with
  | cons r rr =>
    cases rr
    obtain ⟨t, rfl⟩ := r
    exact call_range_1 (range_it I1 (by omega) (by omega) q1 q2 (by simpa using q))
theorem pi_range2 {a b : Expr} {ta : TA} {p pos : Pos} (hg : Gl X "range") (hm : X.mg "range" = none) (ha : PA X [a, b] ta) (hs : starEach [a, b] X.env = [(false, eval a X.env), (false, eval b X.env)] := by rfl) (hs2 : starEach [b] X.env = [(false, eval b X.env)] := by rfl) :
    PI X tg (.Call (.Name "range" p) [a, b] [] pos) (iRng2 ta) := by
  intro pins s σ H R I h
  refine Call_ (ld_blt I hg hm boot_range (PyProof.Rows.callWith_type1 (thn (ha pos pins s σ H _ I h) fun us s1 ⟨vs, H1, I1, r1, q1⟩ => ?_) (by rw [hs, hs2]) (by rw [hs2]; rfl)))
  obtain ⟨i, j, e, ⟨q1, q2, q3, q4⟩, q⟩ := q1
  subst e
  cases r1 with
  | cons r rr =>
    cases rr with
    | cons r' rr =>
      cases rr
      obtain ⟨t, rfl⟩ := r
      obtain ⟨t', rfl⟩ := r'
      exact call_range_2 (range_it I1 q1 q2 q3 q4 q)
def tFor (wi : TI) (g : TG) (tb : TS) : TS := fun D σ H => wi σ H fun J H1 => ∃ W : Nat → Nat → St → Hp → Prop, (∃ m, W 0 m σ H1) ∧ ∀ i m σ H, W i m σ H →
  (J.stop i H ∧ D.nx σ H) ∨ (J.go i H ∧ ∃ N : St → Hp → Prop, (∀ σ' H', N σ' H' → ∃ m', m' < m ∧ W (i + 1) m' σ' H') ∧ ∀ x H', J.yld i H x H' → g x σ H' fun σ2 H2 => tb { D with nx := N, ct := N, bk := D.nx } σ2 H2)
def pinsAt (fp : List Addr) (h : Heap) : List (Addr × Obj) := fp.filterMap fun b => (h.get? b).map fun o => (b, o)
theorem mem_pinsAt {fp : List Addr} {h : Heap} {b : Addr} {o : Obj} (hb : b ∈ fp) (e : h.get? b = some o) : (b, o) ∈ pinsAt fp h := List.mem_filterMap.mpr ⟨b, hb, by rw [e]; rfl⟩
theorem of_pinsAt {fp : List Addr} {h : Heap} {p : Addr × Obj} (hp : p ∈ pinsAt fp h) : p.1 ∈ fp ∧ h.get? p.1 = some p.2 := by
  obtain ⟨b, hb, e⟩ := List.mem_filterMap.mp hp
  cases q : h.get? b with
  | none => rw [q] at e; cases e
  | some o =>
    rw [q] at e
    have e' : (b, o) = p := Option.some.inj e
    subst e'
    exact ⟨hb, q⟩
theorem Inv.pinned {pins : List (Addr × Obj)} {σ : St} {H : Hp} {s : Shared} {fp : List Addr} (I : Inv X pins σ H s) (hf : ∀ b ∈ fp, FpOk X pins H b) (ho : ∀ b ∈ fp, ∃ o, s.heap.get? b = some o ∧ ∀ v, o.data ≠ .cell v) : Inv X (pins ++ pinsAt fp s.heap) σ H s :=
  I.pins_of fun p hp => (List.mem_append.mp hp).elim (fun z => I.pin p (List.mem_append_right _ z)) fun z => by
    obtain ⟨hb, e⟩ := of_pinsAt z
    obtain ⟨f0, f1, f2, _⟩ := hf p.1 hb
    obtain ⟨o, e', d⟩ := ho p.1 hb
    rw [e] at e'; cases e'
    exact ⟨e, f0, f1, f2, d⟩
theorem Inv.unpinned {pins pl : List (Addr × Obj)} {σ : St} {H : Hp} {s : Shared} (I : Inv X (pins ++ pl) σ H s) : Inv X pins σ H s := I.pins_of fun p hp => I.pin p (List.mem_append_right _ (List.mem_append_left _ hp))
theorem ps_for {iter : Expr} {body : List Stmt} {wi : TI} {g : TG} {tb : TS} {pos : Pos} (hp : PassesOwn (model X.prog X.w) X.A X.env X.xe) (hc : X.calm = true) (hi : PI X tg iter wi) (hg : PG X tg g) (hb : PSs X body tb)
    (hs : ∀ x, foldedSetIterable iter X.env x = pure x := by intro _; rfl) : PS X (.For tg iter body [] pos) (tFor wi g tb) := by
  intro pins s σ H D I h
  refine wpAny_For (thn (hi pins s σ H _ I h) fun v s1 h1 => thn h1 fun itv s2 h2 => ?_) hs
  obtain ⟨it, fp, tn, J, H2, e, I2, T, st2, f2, W, ⟨m0, w0⟩, turn⟩ := h2
  subst e
  -- what stays true of the iterator's objects through the loop
  have stat : ∀ {H' : Hp}, (∀ b ∈ fp, H' b = none) → ∀ b ∈ fp, FpOk X pins H' b := fun hn b hb => ⟨hn b hb, (f2 b hb).2⟩
  refine codeAny_forLoop_any (fun n s' => ∃ i σ' H', Inv X pins σ' H' s' ∧ tn i s'.heap ∧ (∀ b ∈ fp, H' b = none) ∧ W i n σ' H') ?_ m0 ⟨0, σ, H2, I2, st2, fun b hb => (f2 b hb).1, w0⟩
  rintro n s3 ⟨i, σ3, H3, I3, st3, fr3, w3⟩
  rcases turn i n σ3 H3 w3 with ⟨stop, qn⟩ | ⟨go, N, hN, step⟩
  · refine wpAny_passesOwn hp (thn (T.done X rfl rfl rfl hc i pins s3 σ3 H3 X.xe I3 (stat fr3) st3 stop) fun r s4 ⟨hr, I4⟩ => ?_)
    subst hr
    exact wpAny_execs_nil ⟨σ3, H3, I4, qn⟩
  · refine wpAny_passesOwn hp (thn (T.item X rfl rfl rfl hc i pins s3 σ3 H3 X.xe I3 (stat fr3) st3 go) fun r s4 ⟨u, hr, h4⟩ => ?_)
    subst hr
    refine wpAny_passesOwn hp (thn h4 fun _ s5 ⟨x, H5, I5, r5, y5, st5, fr5⟩ => ?_)
    have I5' := I5.pinned (stat fr5) (T.obj _ _ st5)
    refine wpAny_passesOwn hp (thn (hg _ s5 σ3 H5 x u _ I5' r5 (step x H5 y5)) fun _ s6 ⟨σ6, H6, I6, q6⟩ => ?_)
    refine wpAny_passesOwn hp (thn (hb _ s6 σ6 H6 _ I6 q6) fun f s7 q7 => ?_)
    have again : ∀ {σ7 : St} {H7 : Hp}, Inv X (pins ++ pinsAt fp s5.heap) σ7 H7 s7 → N σ7 H7 → ∃ m, m < n ∧ ∃ i σ' H', Inv X pins σ' H' s7 ∧ tn i s7.heap ∧ (∀ b ∈ fp, H' b = none) ∧ W i m σ' H' := fun {σ7 H7} I7 n7 => by
      obtain ⟨m', hm, w7⟩ := hN σ7 H7 n7
      refine ⟨m', hm, i + 1, σ7, H7, I7.unpinned, T.keep _ _ _ st5 fun b hb o e => (I7.pin (b, o) (List.mem_append_right _ (List.mem_append_right _ (mem_pinsAt hb e)))).1, fun b hb => ?_, w7⟩
      obtain ⟨o, e, d⟩ := T.obj _ _ st5 b hb
      exact (I7.pin (b, o) (List.mem_append_right _ (List.mem_append_right _ (mem_pinsAt hb e)))).2.1
    cases f with
    | next => obtain ⟨σ7, H7, I7, n7⟩ := q7; exact again I7 n7
    | cont => obtain ⟨σ7, H7, I7, n7⟩ := q7; exact again I7 n7
    | brk => obtain ⟨σ7, H7, I7, q7⟩ := q7; exact ⟨σ7, H7, I7.unpinned, q7⟩
    | ret v => obtain ⟨x7, σ7, H7, I7, r7, q7⟩ := q7; exact ⟨x7, σ7, H7, I7.unpinned, r7, q7⟩
end
theorem for_list {K : PySem.W.Frag} {a : Addr} {xs : List V} {g : TG} {tb : TS} {D : Ends} {σ : St} {H : Hp} (Pv : Nat → St → Hp → Prop) (h0 : Pv 0 σ H) (hl : ∀ i σ H, i ≤ xs.length → Pv i σ H → SqL K H a xs)
    (hs : ∀ i x σ H, xs[i]? = some x → Pv i σ H → g x σ H fun σ2 H2 => tb { D with nx := Pv (i + 1), ct := Pv (i + 1), bk := D.nx } σ2 H2) (hd : ∀ σ H, Pv xs.length σ H → D.nx σ H) :
    ∃ W : Nat → Nat → St → Hp → Prop, (∃ m, W 0 m σ H) ∧ ∀ i m σ H, W i m σ H →
      ((Itl K a).stop i H ∧ D.nx σ H) ∨ ((Itl K a).go i H ∧ ∃ N : St → Hp → Prop, (∀ σ' H', N σ' H' → ∃ m', m' < m ∧ W (i + 1) m' σ' H') ∧ ∀ x H', (Itl K a).yld i H x H' → g x σ H' fun σ2 H2 => tb { D with nx := N, ct := N, bk := D.nx } σ2 H2) := by
  refine ⟨fun i m σ H => m = xs.length - i ∧ i ≤ xs.length ∧ Pv i σ H, ⟨xs.length, by simp, Nat.zero_le _, h0⟩, ?_⟩
  rintro i m σ H ⟨rfl, hi, p⟩
  have q := hl i σ H hi p
  by_cases hlt : i < xs.length
  · refine .inr ⟨⟨xs, xs[i], q, by simp [hlt]⟩, Pv (i + 1), fun σ' H' p' => ⟨xs.length - (i + 1), by omega, rfl, hlt, p'⟩, fun x H' y => ?_⟩
    obtain ⟨e, y⟩ := y
    subst e
    exact hs i x σ _ (y xs q) p
  · have e : i = xs.length := by omega
    subst e
    exact .inl ⟨⟨xs, q, Nat.le_refl _⟩, hd σ H p⟩
theorem for_range {lo : Int} {n : Nat} {g : TG} {tb : TS} {D : Ends} {σ : St} {H : Hp} (Pv : Nat → St → Hp → Prop) (h0 : Pv 0 σ H)
    (hs : ∀ i σ H, i < n → Pv i σ H → g (.int (lo + i)) σ H fun σ2 H2 => tb { D with nx := Pv (i + 1), ct := Pv (i + 1), bk := D.nx } σ2 H2) (hd : ∀ σ H, Pv n σ H → D.nx σ H) :
    ∃ W : Nat → Nat → St → Hp → Prop, (∃ m, W 0 m σ H) ∧ ∀ i m σ H, W i m σ H →
      ((Itr lo n).stop i H ∧ D.nx σ H) ∨ ((Itr lo n).go i H ∧ ∃ N : St → Hp → Prop, (∀ σ' H', N σ' H' → ∃ m', m' < m ∧ W (i + 1) m' σ' H') ∧ ∀ x H', (Itr lo n).yld i H x H' → g x σ H' fun σ2 H2 => tb { D with nx := N, ct := N, bk := D.nx } σ2 H2) := by
  refine ⟨fun i m σ H => m = n - i ∧ i ≤ n ∧ Pv i σ H, ⟨n, by simp, Nat.zero_le _, h0⟩, ?_⟩
  rintro i m σ H ⟨rfl, hi, p⟩
  by_cases hlt : i < n
  · refine .inr ⟨hlt, Pv (i + 1), fun σ' H' p' => ⟨n - (i + 1), by omega, rfl, hlt, p'⟩, fun x H' y => ?_⟩
    obtain ⟨e, y⟩ := y
    subst e y
    exact hs i σ _ hlt p
  · have e : i = n := by omega
    subst e
    exact .inl ⟨Nat.le_refl _, hd σ H p⟩
end L2
namespace L2
open PySem PySem.Spec PyProof.Rows
abbrev R2 := V → V → Hp → VK → Prop
def OpR (X : Cx) (f : Value → Value → Sem Value) (r : R2) : Prop :=
  ∀ (pins : List (Addr × Obj)) (s : Shared) (σ : St) (H : Hp) (x y : V) (v u : Value) (Q : VK), Inv X pins σ H s → RelV x v → RelV y u → r x y H Q →
    wpAny (model X.prog X.w) X.A (f v u) (EP X pins σ Q) X.xe s
def UnR (X : Cx) (f : Value → Sem Value) (r : V → Hp → VK → Prop) : Prop :=
  ∀ (pins : List (Addr × Obj)) (s : Shared) (σ : St) (H : Hp) (x : V) (v : Value) (Q : VK), Inv X pins σ H s → RelV x v → r x H Q →
    wpAny (model X.prog X.w) X.A (f v) (EP X pins σ Q) X.xe s
def CallR (X : Cx) (f : Value) (r : List V → Hp → VK → Prop) : Prop :=
  ∀ (pins : List (Addr × Obj)) (s : Shared) (σ : St) (H : Hp) (xs : List V) (us : List Value) (Q : VK), Inv X pins σ H s → Vals xs us → r xs H Q →
    wpAny (model X.prog X.w) X.A (call f us) (EP X pins σ Q) X.xe s
def tOp (r : R2) (ta tb : TE) : TE := fun σ H Q => ta σ H fun x H1 => tb σ H1 fun y H2 => r x y H2 Q
def tUn (r : V → Hp → VK → Prop) (ta : TE) : TE := fun σ H Q => ta σ H fun x H1 => r x H1 Q
def rI (C : Int → Int → Prop) (g : Int → Int → V) : R2 := fun x y H Q => ∃ i j, x = .int i ∧ y = .int j ∧ C i j ∧ Q (g i j) H
def rI0 (g : Int → Int → V) : R2 := fun x y H Q => ∃ i j, x = .int i ∧ y = .int j ∧ Q (g i j) H
def rU (g : Int → V) : V → Hp → VK → Prop := fun x H Q => ∃ i, x = .int i ∧ Q (g i) H
section
variable {X : Cx} {a b c : Expr} {ta tb tc : TE} {pos : Pos}
theorem binT (ha : PE X a ta) (hb : PE X b tb) {pins : List (Addr × Obj)} {s : Shared} {σ : St} {H : Hp} {R : V → V → Hp → Prop} (I : Inv X pins σ H s)
    (h : ta σ H fun x H1 => tb σ H1 fun y H2 => R x y H2) {Q : Value → Shared → Prop} {f : Value → Value → Sem Value}
    (hf : ∀ v u s2 x y H2, Inv X pins σ H2 s2 → RelV x v → RelV y u → R x y H2 → wpAny (model X.prog X.w) X.A (f v u) Q X.xe s2) :
    wpAny (model X.prog X.w) X.A (eval a X.env) (fun v s₁ => wpAny (model X.prog X.w) X.A (eval b X.env) (fun u s₂ => wpAny (model X.prog X.w) X.A (f v u) Q X.xe s₂) X.xe s₁) X.xe s := by
  refine thn (ha pins s σ H _ I h) fun v s1 ⟨x, H1, I1, r1, q1⟩ => ?_
  refine thn (hb pins s1 σ H1 _ I1 q1) fun u s2 ⟨y, H2, I2, r2, q2⟩ => ?_
  exact hf v u s2 x y H2 I2 r1 r2 q2
theorem pe_op {op : Operator} {r : R2} (ho : OpR X (binaryOp op) r) (ha : PE X a ta) (hb : PE X b tb) : PE X (.BinOp a op b pos) (tOp r ta tb) := by
  intro pins s σ H Q I h
  exact wpAny_BinOp (binT ha hb I h fun v u s2 x y H2 I2 rx ry q => ho pins s2 σ H2 x y v u Q I2 rx ry q)
theorem pe_un {op : UnaryOp} {r : V → Hp → VK → Prop} (ho : UnR X (unaryOp op) r) (ha : PE X a ta) : PE X (.UnaryOp op a pos) (tUn r ta) := by
  intro pins s σ H Q I h
  exact UnaryOp_ (thn (ha pins s σ H _ I h) fun v s1 ⟨x, H1, I1, r1, q1⟩ => ho pins s1 σ H1 x v Q I1 r1 q1)
theorem opI {f : Value → Value → Sem Value} {C : Int → Int → Prop} {g : Int → Int → Int}
    (rule : ∀ (i j : Int) (t u : Tok) (s : Shared) (Q : Value → Shared → Prop) (E : Value → Shared → Prop), C i j → Q (.int (g i j) s.toks) { s with toks := s.toks + 1 } → wpAny (model X.prog X.w) X.A (f (.int i t) (.int j u)) Q E s) :
    OpR X f (rI C fun i j => .int (g i j)) := by
  intro pins s σ H x y v u Q I rx ry h
  obtain ⟨i, j, rfl, rfl, hc, q⟩ := h
  obtain ⟨t, rfl⟩ := rx
  obtain ⟨t', rfl⟩ := ry
  exact rule i j t t' s _ _ hc ⟨.int (g i j), H, I.tok _, ⟨_, rfl⟩, q⟩
theorem opI0 {f : Value → Value → Sem Value} {g : Int → Int → Int}
    (rule : ∀ (i j : Int) (t u : Tok) (s : Shared) (Q : Value → Shared → Prop) (E : Value → Shared → Prop), Q (.int (g i j) s.toks) { s with toks := s.toks + 1 } → wpAny (model X.prog X.w) X.A (f (.int i t) (.int j u)) Q E s) :
    OpR X f (rI0 fun i j => .int (g i j)) := by
  intro pins s σ H x y v u Q I rx ry h
  obtain ⟨i, j, rfl, rfl, q⟩ := h
  obtain ⟨t, rfl⟩ := rx
  obtain ⟨t', rfl⟩ := ry
  exact rule i j t t' s _ _ ⟨.int (g i j), H, I.tok _, ⟨_, rfl⟩, q⟩
theorem opB0 {f : Value → Value → Sem Value} {g : Int → Int → Bool}
    (rule : ∀ (i j : Int) (t u : Tok) (s : Shared) (Q : Value → Shared → Prop) (E : Value → Shared → Prop), Q (.bool (g i j)) s → wpAny (model X.prog X.w) X.A (f (.int i t) (.int j u)) Q E s) :
    OpR X f (rI0 fun i j => .bl (g i j)) := by
  intro pins s σ H x y v u Q I rx ry h
  obtain ⟨i, j, rfl, rfl, q⟩ := h
  obtain ⟨t, rfl⟩ := rx
  obtain ⟨t', rfl⟩ := ry
  exact rule i j t t' s _ _ ⟨.bl (g i j), H, I, rfl, q⟩
def CPow (i j : Int) : Prop := 0 ≤ j ∧ j ≤ 1000000 ∧ i.natAbs < 2 ^ 64
def CMul (i j : Int) : Prop := (-(2 ^ 64) < i ∧ i < 2 ^ 64) ∨ (-(2 ^ 64) < j ∧ j < 2 ^ 64)
theorem CMul.ok {i j : Int} (h : CMul i j) : IntMulOk i j := by
  rcases h with ⟨h1, h2⟩ | ⟨h1, h2⟩
  · exact .of_left (intBits_le_64 h1 h2)
  · exact .of_right (intBits_le_64 h1 h2)
theorem op_add : OpR X (binaryOp .Add) (rI0 fun i j => .int (i + j)) := opI0 fun _ _ _ _ _ _ _ q => add_int q
theorem op_sub : OpR X (binaryOp .Sub) (rI0 fun i j => .int (i - j)) := opI0 fun _ _ _ _ _ _ _ q => sub_int q
theorem op_mul : OpR X (binaryOp .Mult) (rI CMul fun i j => .int (i * j)) := opI fun _ _ _ _ _ _ _ hc q => mul_int q hc.ok
theorem op_mod : OpR X (binaryOp .Mod) (rI (fun _ j => 0 < j) fun i j => .int (i % j)) := opI fun i j _ _ _ _ _ hc q => by
  have h1 : (0 : Int) < j := hc
  exact mod_int' (by omega) (by rw [Int.fmod_eq_emod_of_nonneg i (by omega)]; exact q)
theorem op_pow : OpR X (binaryOp .Pow) (rI CPow fun i j => .int (i ^ j.toNat)) := opI fun _ _ _ _ _ _ _ hc q => pow_int_small hc.1 hc.2.1 hc.2.2 q
theorem unI {f : Value → Sem Value} {g : Int → Int}
    (rule : ∀ (i : Int) (t : Tok) (s : Shared) (Q : Value → Shared → Prop) (E : Value → Shared → Prop), Q (.int (g i) s.toks) { s with toks := s.toks + 1 } → wpAny (model X.prog X.w) X.A (f (.int i t)) Q E s) :
    UnR X f (rU fun i => .int (g i)) := by
  intro pins s σ H x v Q I rx h
  obtain ⟨i, rfl, q⟩ := h
  obtain ⟨t, rfl⟩ := rx
  exact rule i t s _ _ ⟨.int (g i), H, I.tok _, ⟨_, rfl⟩, q⟩
theorem un_neg : UnR X (unaryOp .USub) (rU fun i => .int (-i)) := unI fun _ _ _ _ _ q => neg_int q
end
def scal : V → V → Bool
  | .non, .non => true | .non, .int _ => true | .int _, .non => true | .non, .bl _ => true | .bl _, .non => true | .non, .str _ => true | .str _, .non => true
  | .int _, .int _ => true | .bl _, .bl _ => true | .str _, .str _ => true | .byt _, .byt _ => true
  | .int _, .str _ => true | .str _, .int _ => true | .bl _, .str _ => true | .str _, .bl _ => true
  | _, _ => false
def rEq : R2 := fun x y H Q => scal x y = true ∧ Q (.bl (decide (x = y))) H
theorem dec_int {i j : Int} : decide (V.int i = V.int j) = (i == j) := by
  rw [Bool.eq_iff_iff]
  simp
theorem dec_bl {i j : Bool} : decide (V.bl i = V.bl j) = (i == j) := by
  rw [Bool.eq_iff_iff]
  simp
theorem dec_str {i j : Str} : decide (V.str i = V.str j) = (i == j) := by
  rw [Bool.eq_iff_iff]
  simp
theorem dec_byt {i j : Array UInt8} : decide (V.byt i = V.byt j) = (i.toList == j.toList) := by
  rw [Bool.eq_iff_iff]
  cases i
  cases j
  simp
section
variable {X : Cx} {a b c : Expr} {ta tb tc : TE} {pos : Pos}
theorem fin_bl {pins : List (Addr × Obj)} {σ : St} {H : Hp} {s : Shared} {Q : VK} {k k' : Bool} (I : Inv X pins σ H s) (q : Q (.bl k) H) (e : k = k') : EP X pins σ Q (.bool k') s := by
  subst e
  exact ⟨.bl k, H, I, rfl, q⟩
theorem op_eq : OpR X (compareOp .Eq) rEq := by
  intro pins s σ H x y v u Q I rx ry h
  obtain ⟨hs, q⟩ := h
  cases x with
  | non =>
    cases rx
    cases y with
    | non => cases ry; exact PySem.EqNone.eq_none_none (fin_bl I q (by simp))
    | bl j => cases ry; exact PySem.EqNone.eq_none_bool (fin_bl I q (by simp))
    | int j => obtain ⟨t', rfl⟩ := ry; exact PySem.EqNone.eq_none_int (fin_bl I q (by simp))
    | str j => obtain ⟨t', rfl⟩ := ry; exact PySem.EqNone.eq_none_str (fin_bl I q (by simp))
    | _ => exact absurd (show false = true from hs) Bool.false_ne_true
  | bl i =>
    cases rx
    cases y with
    | non => cases ry; exact PySem.EqNone.eq_bool_none (fin_bl I q (by simp))
    | bl j => cases ry; exact eq_bool (fin_bl I q dec_bl)
    | str j => obtain ⟨t', rfl⟩ := ry; exact PySem.EqMixed.eq_bool_str (fin_bl I q (by simp))
    | _ => exact absurd (show false = true from hs) Bool.false_ne_true
  | int i =>
    obtain ⟨t, rfl⟩ := rx
    cases y with
    | non => cases ry; exact PySem.EqNone.eq_int_none (fin_bl I q (by simp))
    | int j => obtain ⟨t', rfl⟩ := ry; exact eq_int (fin_bl I q dec_int)
    | str j => obtain ⟨t', rfl⟩ := ry; exact PySem.EqMixed.eq_int_str (fin_bl I q (by simp))
    | _ => exact absurd (show false = true from hs) Bool.false_ne_true
  | str i =>
    obtain ⟨t, rfl⟩ := rx
    cases y with
    | non => cases ry; exact PySem.EqNone.eq_str_none (fin_bl I q (by simp))
    | bl j => cases ry; exact PySem.EqMixed.eq_str_bool (fin_bl I q (by simp))
    | int j => obtain ⟨t', rfl⟩ := ry; exact PySem.EqMixed.eq_str_int (fin_bl I q (by simp))
    | str j => obtain ⟨t', rfl⟩ := ry; exact eq_str (fin_bl I q dec_str)
    | _ => exact absurd (show false = true from hs) Bool.false_ne_true
  | byt i =>
    obtain ⟨t, rfl⟩ := rx
    cases y with
    | byt j => obtain ⟨t', rfl⟩ := ry; exact PySem.W.eq_bytes (fin_bl I q dec_byt)
    | _ => exact absurd (show false = true from hs) Bool.false_ne_true
  | _ => cases y <;> exact absurd (show false = true from hs) Bool.false_ne_true
theorem op_lt : OpR X (compareOp .Lt) (rI0 fun i j => .bl (decide (i < j))) := opB0 fun _ _ _ _ _ _ _ q => lt_int q
theorem op_le : OpR X (compareOp .LtE) (rI0 fun i j => .bl (decide (i ≤ j))) := opB0 fun _ _ _ _ _ _ _ q => le_int q
theorem op_gt : OpR X (compareOp .Gt) (rI0 fun i j => .bl (decide (j < i))) := opB0 fun _ _ _ _ _ _ _ q => gt_int q
theorem op_ge : OpR X (compareOp .GtE) (rI0 fun i j => .bl (decide (j ≤ i))) := opB0 fun _ _ _ _ _ _ _ q => ge_int q
theorem nomark (b : Expr) {op : CmpOp} (h : op ≠ .In := by decide) (h2 : op ≠ .NotIn := by decide) : behindInMarks op b = false := by
  have e1 : (op == CmpOp.In) = false := by cases op <;> first | rfl | exact absurd rfl h
  have e2 : (op == CmpOp.NotIn) = false := by cases op <;> first | rfl | exact absurd rfl h2
  cases b <;> simp [behindInMarks, e1, e2]
theorem pe_cmpR {op : CmpOp} {r : R2} (ho : OpR X (compareOp op) r) (ha : PE X a ta) (hb : PE X b tb) (hm : behindInMarks op b = false) : PE X (.Compare a [op] [b] pos) (tOp r ta tb) := by
  intro pins s σ H Q I h
  exact wpAny_Compare1 (binT ha hb I h fun v u s2 x y H2 I2 rx ry q => ho pins s2 σ H2 x y v u Q I2 rx ry q) hm
def tTest (t : TE) : TT := fun σ H Q => t σ H fun x H' => ∃ k, x = .bl k ∧ Q k H'
theorem pt_cmpR {op : CmpOp} {r : R2} (ho : OpR X (compareOp op) r) (ha : PE X a ta) (hb : PE X b tb) (hm : behindInMarks op b = false) : PT X (.Compare a [op] [b] pos) (tTest (tOp r ta tb)) := by
  intro pins s σ H Q I h
  refine wpAny_isTrue_Compare1 (thn (ha pins s σ H _ I h) fun v s1 ⟨x, H1, I1, r1, q1⟩ => thn (hb pins s1 σ H1 _ I1 q1) fun u s2 ⟨y, H2, I2, r2, q2⟩ =>
    thn (ho pins s2 σ H2 x y v u _ I2 r1 r2 q2) fun c s3 ⟨z, H3, I3, r3, k, e, q3⟩ => ?_) hm
  subst e
  cases r3
  exact wpAny_truthy_bool ⟨H3, I3, q3⟩
theorem line63 : (sizeLine : Nat) < 2 ^ 63 := by rw [sizeLine_eq]; decide
theorem vals1 {x : V} {us : List Value} (r : Vals [x] us) : ∃ u, us = [u] ∧ RelV x u := by
  cases r with
  | cons r1 r2 => cases r2; exact ⟨_, rfl, r1⟩
theorem vals2 {x y : V} {us : List Value} (r : Vals [x, y] us) : ∃ u w', us = [u, w'] ∧ RelV x u ∧ RelV y w' := by
  cases r with
  | cons r1 r2 =>
    cases r2 with
    | cons r3 r4 => cases r4; exact ⟨_, _, rfl, r1, r3⟩
theorem call_abs : CallR X (.builtin "abs") (fun xs H Q => ∃ i, xs = [.int i] ∧ Q (.int (if i < 0 then -i else i)) H) := by
  intro pins s σ H xs us Q I r h
  obtain ⟨i, rfl, q⟩ := h
  obtain ⟨u, rfl, t, rfl⟩ := vals1 r
  exact call_abs_int fun u tk => ⟨.int (if i < 0 then -i else i), H, I.tok _, ⟨_, rfl⟩, q⟩
theorem call_max2 (hc : X.calm = true) : CallR X (.builtin "max") (fun xs H Q => ∃ i j, xs = [.int i, .int j] ∧ Q (.int (if j > i then j else i)) H) := by
  intro pins s σ H xs us Q I r h
  obtain ⟨i, j, rfl, q⟩ := h
  obtain ⟨u, w', rfl, ⟨t, rfl⟩, ⟨t', rfl⟩⟩ := vals2 r
  refine max_two_ints (I.ok.hd hc) fun h' tk k => ⟨_, H, I.kept k, ?_, q⟩
  by_cases hj : j > i
  · rw [if_pos hj, if_pos hj]; exact ⟨_, rfl⟩
  · rw [if_neg hj, if_neg hj]; exact ⟨_, rfl⟩
theorem call_min2 (hc : X.calm = true) : CallR X (.builtin "min") (fun xs H Q => ∃ i j, xs = [.int i, .int j] ∧ Q (.int (if j < i then j else i)) H) := by
  intro pins s σ H xs us Q I r h
  obtain ⟨i, j, rfl, q⟩ := h
  obtain ⟨u, w', rfl, ⟨t, rfl⟩, ⟨t', rfl⟩⟩ := vals2 r
  refine min_two_ints (I.ok.hd hc) fun h' tk k => ⟨_, H, I.kept k, ?_, q⟩
  by_cases hj : j < i
  · rw [if_pos hj, if_pos hj]; exact ⟨_, rfl⟩
  · rw [if_neg hj, if_neg hj]; exact ⟨_, rfl⟩
theorem call_int1 : CallR X (.type "int") (fun xs H Q => (∃ i, xs = [.int i] ∧ Q (.int i) H) ∨ ∃ k, xs = [.bl k] ∧ Q (.int (if k then 1 else 0)) H) := by
  intro pins s σ H xs us Q I r h
  rcases h with ⟨i, rfl, q⟩ | ⟨k, rfl, q⟩
  · obtain ⟨u, rfl, t, rfl⟩ := vals1 r
    exact call_int_int ⟨.int i, H, I, ⟨_, rfl⟩, q⟩
  · obtain ⟨u, rfl, r1⟩ := vals1 r
    cases r1
    exact call_int_bool ⟨.int (if k then 1 else 0), H, I.tok _, ⟨_, rfl⟩, q⟩
theorem call_str_int : CallR X (.type "str") (fun xs H Q => ∃ i, xs = [.int i] ∧ i.natAbs.log2 < 1920 ∧ Q (.str (toString i)) H) := by
  intro pins s σ H xs us Q I r h
  obtain ⟨i, rfl, hz, q⟩ := h
  obtain ⟨u, rfl, t, rfl⟩ := vals1 r
  exact PySem.P.str_of_int hz ⟨.str _, H, I.tok _, ⟨_, rfl⟩, q⟩
end
end L2
namespace L2
open PySem PySem.Spec PyProof.Rows
structure ObjM (h : Heap) (x dx C : Addr) (mA : Str → Option Value) : Prop where
  obj : h.get? x = some (PySem.W.instObj C dx)
  ns : h.Ns1 dx mA
  ne : dx ≠ x
theorem lookIn_ns {h : Heap} {dx : Addr} {mA : Str → Option Value} (n : h.Ns1 dx mA) : ∃ od, h.get? dx = some od ∧ ∀ name, PySem.W.lookIn name od = some (mA name) := by
  obtain ⟨o, es, ep, ho, hd, hk, _, hm⟩ := n
  refine ⟨o, ho, fun name => ?_⟩
  have e := hm name
  unfold nsFind findBy at e
  rw [← Array.find?_toList] at e
  unfold PySem.W.lookIn
  rw [hd]
  dsimp only
  split
  · rename_i y q
    rw [q] at e
    exact congrArg some e
  · rename_i q
    rw [q] at e
    have a : es.toList.any (·.refKey) = false := by
      rw [List.any_eq_false]
      intro y hy
      obtain ⟨z, t, hkey⟩ := hk y (Array.mem_toList_iff.mp hy)
      simp [DictEntry.refKey, hkey]
    have a' : ¬ es.toList.any (·.refKey) = true := by rw [a]; exact Bool.false_ne_true
    rw [if_neg a']
    exact congrArg some e
theorem ObjM.look {h : Heap} {x dx C : Addr} {mA : Str → Option Value} (I : ObjM h x dx C mA) : ∃ od, PySem.W.InstAt h x (PySem.W.instObj C dx) C (some od) ∧ ∀ name, PySem.W.lookIn name od = some (mA name) :=
  let ⟨od, ho, hl⟩ := lookIn_ns I.ns
  ⟨od, ⟨I.obj, rfl, rfl, ho⟩, hl⟩
section
variable {prog : Program} {w : World} {A : Around} {E : Value → Shared → Prop} {s : Shared} {K : PySem.W.Frag} {x dx C f : Addr} {mA : Str → Option Value} {name : Str} {v : Value}
theorem get_map {expr : Bool} {Q : Value → Shared → Prop} (X : K.In s.heap) (I : ObjM s.heap x dx C mA) (hg : PySem.W.plainGet K C name = true) (hh : PySem.W.hasDictIn K C = true)
    (ha : PySem.W.findIn K (.ref C) name = some none) (hv : mA name = some v) (hv' : PySem.W.handedIn v = true) (h : Q v { s with toks := s.toks + 1 }) :
    wpAny (model prog w) A (getAttr (.ref x) name expr) Q E s := by
  obtain ⟨od, J, hl⟩ := I.look
  exact PySem.W.get_value X J (PySem.W.plainGet_of hg).1 (PySem.W.findObj_own hh ha rfl (by rw [hl, hv])) hv' h
theorem get_meth {pl : Sem Bool} {Q : Value × List Value → Shared → Prop} (X : K.In s.heap) (I : ObjM s.heap x dx C mA) (hg : PySem.W.plainGet K C name = true)
    (hf : PySem.W.findIn K (.ref C) name = some (some (.ref f))) (ht : PySem.W.isFn K (.ref f) = true) (hv : mA name = none) (h : Q (.ref f, [.ref x]) s) :
    wpAny (model prog w) A (getMethod (.ref x) name pl) Q E s := by
  obtain ⟨od, J, hl⟩ := I.look
  exact PySem.W.method_fn X J (PySem.W.plainGet_of hg).1 (PySem.W.plainGet_of hg).2 hf (beq_iff_eq.mp ht) (by show (PySem.W.lookIn name od).map (·.isSome) = some false; rw [hl, hv]; rfl) h
theorem set_map {ns : List Str} {Q : Unit → Shared → Prop} (X : K.In s.heap) (I : ObjM s.heap x dx C mA)
    (hs : PySem.W.findIn K (.ref C) "__setattr__" = some (some (.builtin "object.__setattr__"))) (hp : PySem.W.plainOver K C = true) (ht : PySem.W.takerIn K C name = some none) (hh : PySem.W.hasDictIn K C = true)
    (hw : PySem.Within mA ns) (hsz : ns.length ≤ sizeLine)
    (h : ∀ h', ObjM h' x dx C (fun y => if y = name then some v else mA y) → Heap.SameBut dx s.heap h' → Q () { s with heap := h', toks := s.toks + 2 }) :
    wpAny (model prog w) A (setAttr (.ref x) name v) Q E s := by
  obtain ⟨od, J, hl⟩ := I.look
  refine PySem.W.set_plain X J hs (PySem.W.osa_open (s := { s with toks := s.toks + 1 }) (r := none) X J hp ht fun b => ?_)
  obtain ⟨cd, hc, hd'⟩ := PySem.W.any_some hh
  have hx : s.heap.get? x = some ⟨.ref C, some dx, .plain, #[]⟩ := I.obj
  refine wpAny_bind (wpAny_pure (wpAny_bind (wpAny_bind (wpAny_loadPart hx (wpAny_bind (PySem.W.Looks.here (s := { s with toks := s.toks + 1 }) (PySem.W.looks_clsIn X hc) ?_))))))
  rw [hd']
  refine wpAny_pure (a := some dx) (wpAny_bind (wpAny_pure (wpAny_bind ?_)))
  refine wpAny_nsSet1 (s := { s with toks := s.toks + 1 }) I.ns fun h' hn2 hs2 => ?_
  obtain ⟨oD, esD, epD, hoD, hdD, hcD⟩ := hn2.count (PySem.Within.cons name v hw)
  refine wpAny_bind (wpAny_lookBehind hoD (by rw [hdD]; exact pastItsLine_dict (Nat.le_trans hcD (by rw [List.length_cons]; omega))) ?_)
  exact wpAny_pure (h _ ⟨(hs2.2 _ (Ne.symm I.ne)).trans I.obj, hn2, I.ne⟩ hs2)
theorem make_map {R : Result → Shared → Prop} {vs : List Value} {kw : List (Str × Value)} (X : K.In s.heap) (hm : PySem.W.makesIn K C = true)
    (hi : PySem.W.findIn K (.ref C) "__init__" = some (some (.ref f))) (hf : PySem.W.typeIn K (.ref f) = some (.type "function"))
    (h : codeAny (model prog w) (A.under (.builtin "type.__call__" ⟨.ref C :: vs, kw⟩)) (.call (.ref f) ⟨.ref (s.heap.objs.size + 1) :: vs, kw⟩) (PySem.W.InitBack (s.heap.objs.size + 1) R)
      { s with heap := (s.heap.push PySem.W.emptyDict).push (PySem.W.instObj C s.heap.objs.size) }) :
    codeAny (model prog w) A (.call (.ref C) ⟨vs, kw⟩) R s := by
  obtain ⟨hh, g, d, t, os⟩ := s
  exact PySem.W.make_core (PySem.W.makes_of X hm) (PySem.W.looks_findIn X hi) (fun self => PySem.W.bind_fn X self hf) (.inl rfl) h
theorem make_map0 {R : Result → Shared → Prop} (X : K.In s.heap) (hm : PySem.W.makesIn K C = true)
    (hi : PySem.W.findIn K (.ref C) "__init__" = some (some (.builtin "object.__init__")))
    (hb : ∀ self, PySem.W.Looks (model prog w) s.heap (bindSpecial (.builtin "object.__init__") self) (.builtin "object.__init__", [self]))
    (h : codeAny (model prog w) (A.under (.builtin "type.__call__" ⟨[.ref C], []⟩)) (.call (.builtin "object.__init__") ⟨[.ref (s.heap.objs.size + 1)], []⟩) (PySem.W.InitBack (s.heap.objs.size + 1) R)
      { s with heap := (s.heap.push PySem.W.emptyDict).push (PySem.W.instObj C s.heap.objs.size) }) :
    codeAny (model prog w) A (.call (.ref C) ⟨[], []⟩) R s := by
  obtain ⟨hh, g, d, t, os⟩ := s
  exact PySem.W.make_core (PySem.W.makes_of X hm) (PySem.W.looks_findIn X hi) hb (.inr ⟨rfl, rfl⟩) h
end
def putF (f : Str) (v : V) : List (Str × V) → List (Str × V)
  | [] => [(f, v)]
  | (g, x) :: r => if g = f then (g, v) :: r else (g, x) :: putF f v r
theorem lookup_putF (f g : Str) (v : V) : ∀ fs : List (Str × V), (putF f v fs).lookup g = if g = f then some v else fs.lookup g
  | [] => by
    show List.lookup g [(f, v)] = _
    by_cases h : g = f
    · have hb : (g == f) = true := beq_iff_eq.mpr h
      simp only [List.lookup, hb, if_pos h]
    · have hb : (g == f) = false := beq_eq_false_iff_ne.mpr h
      simp only [List.lookup, hb, if_neg h]
  | (k, x) :: r => by
    have ih := lookup_putF f g v r
    rw [show putF f v ((k, x) :: r) = (if k = f then (k, v) :: r else (k, x) :: putF f v r) from rfl]
    by_cases hk : k = f
    · rw [if_pos hk]
      by_cases h : g = k
      · have hb : (g == k) = true := beq_iff_eq.mpr h
        simp only [List.lookup, hb, if_pos (h.trans hk)]
      · have hb : (g == k) = false := beq_eq_false_iff_ne.mpr h
        simp only [List.lookup, hb, if_neg (fun e : g = f => h (e.trans hk.symm))]
    · rw [if_neg hk]
      by_cases h : g = k
      · have hb : (g == k) = true := beq_iff_eq.mpr h
        simp only [List.lookup, hb, if_neg (fun e : g = f => hk (h.symm.trans e))]
      · have hb : (g == k) = false := beq_eq_false_iff_ne.mpr h
        simp only [List.lookup, hb]
        exact ih
theorem keys_putF (f : Str) (v : V) : ∀ fs : List (Str × V), f ∈ (putF f v fs).map (·.1) ∧ ∀ g, g ∈ fs.map (·.1) → g ∈ (putF f v fs).map (·.1)
  | [] => ⟨by simp [putF], fun g h => by simp at h⟩
  | (k, x) :: r => by
    obtain ⟨i1, i2⟩ := keys_putF f v r
    rw [show putF f v ((k, x) :: r) = (if k = f then (k, v) :: r else (k, x) :: putF f v r) from rfl]
    by_cases hk : k = f
    · rw [if_pos hk]
      subst hk
      exact ⟨by simp, fun g h => by simpa using h⟩
    · rw [if_neg hk]
      refine ⟨?_, fun g h => ?_⟩
      · rw [List.map_cons]
        exact List.mem_cons_of_mem _ i1
      · rw [List.map_cons] at h ⊢
        rcases List.mem_cons.mp h with e | e
        · exact List.mem_cons.mpr (.inl e)
        · exact List.mem_cons_of_mem _ (i2 g e)
theorem length_putF (f : Str) (v : V) : ∀ fs : List (Str × V), (putF f v fs).length ≤ fs.length + 1
  | [] => by simp [putF]
  | (k, x) :: r => by
    have ih := length_putF f v r
    rw [show putF f v ((k, x) :: r) = (if k = f then (k, v) :: r else (k, x) :: putF f v r) from rfl]
    by_cases hk : k = f
    · rw [if_pos hk, List.length_cons, List.length_cons]; omega
    · rw [if_neg hk, List.length_cons, List.length_cons]; omega
theorem RelO.some_of {v : V} {o : Option Value} (r : RelO (some v) o) : ∃ u, o = some u ∧ RelV v u := by
  cases o with
  | none => exact (show False from r).elim
  | some u => exact ⟨u, rfl, r⟩
theorem RelO.none_of {o : Option Value} (r : RelO none o) : o = none := by
  cases o with
  | none => rfl
  | some u => exact (show False from r).elim
theorem handed_of {v : V} {u : Value} (r : RelV v u) : PySem.W.handedIn u = true := by
  cases v with
  | non => cases (show u = Value.none from r); rfl
  | bl b => cases (show u = Value.bool b from r); rfl
  | int i => obtain ⟨t, e⟩ := (show ∃ t, u = Value.int i t from r); cases e; rfl
  | str x => obtain ⟨t, e⟩ := (show ∃ t, u = Value.str x t from r); cases e; rfl
  | byt b => obtain ⟨t, e⟩ := (show ∃ t, u = Value.bytes b t from r); cases e; rfl
  | flt b => obtain ⟨t, e⟩ := (show ∃ t, u = Value.float b t from r); cases e; rfl
  | ref a => cases (show u = Value.ref a from r); rfl
  | ty n => cases (show u = Value.type n from r); rfl
section
variable {P : Program} {w : World} {H H' : Hp} {h h' : Heap} {a C dx : Addr} {fs fs' : List (Str × V)}
theorem ins_get (hok : HOk P w H h) (e : H a = some (.ins C dx fs)) : ∃ mA, ObjM h a dx C mA ∧ (∀ f, RelO (fs.lookup f) (mA f)) ∧ PySem.Within mA (fs.map (·.1)) ∧ fs.length ≤ 1000 ∧ H dx = some (.own a) := by
  obtain ⟨d, z, ne, ob, mA, n, r, q⟩ := (show ObjOk P w H h a (.ins C dx fs) from hok a _ e)
  exact ⟨mA, ⟨ob, n, ne⟩, r, q, z, d⟩
end
structure Cls (K : PySem.W.Frag) (C : Addr) : Prop where
  pg : PySem.W.plainGet K C Str.empty = true
  hd : PySem.W.hasDictIn K C = true
  po : PySem.W.plainOver K C = true
  sa : PySem.W.findIn K (.ref C) "__setattr__" = some (some (.builtin "object.__setattr__"))
theorem Cls.get {K : PySem.W.Frag} {C : Addr} (c : Cls K C) (f : Str) : PySem.W.plainGet K C f = true := c.pg
def NoAttr (K : PySem.W.Frag) (C : Addr) (f : Str) : Prop := PySem.W.findIn K (.ref C) f = some none
theorem NoAttr.taker {K : PySem.W.Frag} {C : Addr} {f : Str} (n : NoAttr K C f) : PySem.W.takerIn K C f = some none := by
  unfold PySem.W.takerIn
  rw [show PySem.W.findIn K (.ref C) f = some none from n]
  rfl
structure Meth (K : PySem.W.Frag) (C : Addr) (m : Str) (f : Addr) : Prop where
  at_ : PySem.W.findIn K (.ref C) m = some (some (.ref f))
  fn : PySem.W.isFn K (.ref f) = true
  kp : PySem.W.keepIn K (.ref f) = true
section
variable {X : Cx} {pins : List (Addr × Obj)} {σ : St} {H : Hp} {s : Shared} {a C dx : Addr} {fs : List (Str × V)} {f : Str} {v : V} {A : Around} {E : Value → Shared → Prop}
theorem getattr_ok {b : Bool} {Q : Value → Shared → Prop} (I : Inv X pins σ H s) (e : H a = some (.ins C dx fs)) (c : Cls X.K C) (n : NoAttr X.K C f) (l : fs.lookup f = some v)
    (h : ∀ u s', Inv X pins σ H s' → RelV v u → Q u s') : wpAny (model X.prog X.w) A (getAttr (.ref a) f b) Q E s := by
  obtain ⟨mA, O, r, _, _, _⟩ := ins_get I.hok e
  obtain ⟨u, hu, ru⟩ := RelO.some_of (v := v) (o := mA f) (by rw [← l]; exact r f)
  exact get_map I.kIn O (c.get f) c.hd n hu (handed_of ru) (h u _ (I.tok _) ru)
theorem getmeth_ok {m : Str} {g : Addr} {pl : Sem Bool} {Q : Value × List Value → Shared → Prop} (I : Inv X pins σ H s) (e : H a = some (.ins C dx fs)) (c : Cls X.K C) (k : Meth X.K C m g) (l : fs.lookup m = none)
    (h : Q (.ref g, [.ref a]) s) : wpAny (model X.prog X.w) A (getMethod (.ref a) m pl) Q E s := by
  obtain ⟨mA, O, r, _, _, _⟩ := ins_get I.hok e
  have hn : mA m = none := RelO.none_of (by rw [← l]; exact r m)
  exact get_meth I.kIn O (c.get m) k.at_ k.fn hn h
theorem setattr_ok {y : V} {u : Value} {Q : Unit → Shared → Prop} (I : Inv X pins σ H s) (e : H a = some (.ins C dx fs)) (c : Cls X.K C) (n : NoAttr X.K C f) (hl : fs.length < 1000) (ry : RelV y u)
    (h : ∀ s', Inv X pins σ (upd H a (.ins C dx (putF f y fs))) s' → Q () s') : wpAny (model X.prog X.w) A (setAttr (.ref a) f u) Q E s := by
  obtain ⟨mA, O, r, wi, _, ho⟩ := ins_get I.hok e
  have hz : (fs.map (·.1)).length ≤ sizeLine := by rw [List.length_map, sizeLine_eq]; omega
  refine set_map I.kIn O c.sa c.po n.taker c.hd wi hz fun h' O' sb => h _ ?_
  have hd : ∃ o, h'.get? dx = some o := let ⟨o, _, _, e', _⟩ := O'.ns; ⟨o, e'⟩
  refine I.write (x := a) (e := dx) (by rw [e]; exact True.intro) (.inr ho) (fun b q hb z => (sb.2 b hb).trans z) hd ?_
  refine ⟨by rw [upd_ne O.ne]; exact ho, ?_, O.ne, O'.obj, _, O'.ns, fun g => ?_, fun g hg => ?_⟩
  · have := length_putF f y fs; omega
  · show RelO ((putF f y fs).lookup g) (if g = f then some u else mA g)
    rw [lookup_putF]
    by_cases q : g = f
    · rw [if_pos q, if_pos q]; exact ry
    · rw [if_neg q, if_neg q]; exact r g
  · by_cases q : g = f
    · rw [q]; exact (keys_putF f y fs).1
    · refine (keys_putF f y fs).2 g (wi g fun z => hg ?_)
      show (if g = f then some u else mA g) = none
      rw [if_neg q]; exact z
theorem Inv.made (I : Inv X pins σ H s) : Inv X pins σ (upd (upd H s.heap.objs.size (.own (s.heap.objs.size + 1))) (s.heap.objs.size + 1) (.ins C s.heap.objs.size []))
    { s with heap := (s.heap.push PySem.W.emptyDict).push (PySem.W.instObj C s.heap.objs.size) } := by
  have e1 : (s.heap.push PySem.W.emptyDict).get? s.heap.objs.size = some PySem.W.emptyDict := Heap.get?_push_size s.heap rfl
  have e2 : ((s.heap.push PySem.W.emptyDict).push (PySem.W.instObj C s.heap.objs.size)).get? (s.heap.objs.size + 1) = some (PySem.W.instObj C s.heap.objs.size) := by
    have := Heap.get?_push_size (s.heap.push PySem.W.emptyDict) (o := PySem.W.instObj C s.heap.objs.size) rfl
    rwa [Heap.size_push] at this
  have e3 : (s.heap.push PySem.W.emptyDict).Ns s.heap.objs.size (fun _ => none) := ⟨PySem.W.emptyDict, #[], _, e1, rfl, (fun e he => absurd he (by simp)), fun _ => rfl⟩
  have I1 := I.laid (a := s.heap.objs.size) (o := .own (s.heap.objs.size + 1)) (h' := s.heap.push PySem.W.emptyDict) (t' := s.toks) (fun b u q => Heap.get?_push_of_some _ q) (Nat.le_refl _) ⟨_, e1⟩
  refine I1.laid (a := s.heap.objs.size + 1) (o := .ins C s.heap.objs.size []) (t' := s.toks) (fun b u q => Heap.get?_push_of_some _ q) (Nat.le_of_eq (Heap.size_push _ _)) ?_
  have ne : s.heap.objs.size ≠ s.heap.objs.size + 1 := Nat.ne_of_lt (Nat.lt_succ_self _)
  refine ⟨by rw [upd_ne ne, upd_same], Nat.zero_le _, ne, e2, fun _ => none, (Heap.Ns1.of_empty e3).at fun o q => Heap.get?_push_of_some _ q, fun _ => True.intro, fun y hy => absurd rfl hy⟩
theorem attr_of {prog : Program} {w : World} {env : Env} {e : Expr} {f : Str} {pos : Pos} {s : Shared} {Q : Value → Shared → Prop} (hb : attributeBase e f env (eval e env) = eval e env)
    (h : wpAny (model prog w) A (eval e env) (fun o s₁ => wpAny (model prog w) A (getAttr o f true) Q E s₁) E s) : wpAny (model prog w) A (eval (.Attribute e f pos) env) Q E s :=
  Attribute_any_ h (by rw [arm_eval_Attribute, hb])
end
def tFld (K : PySem.W.Frag) (ta : TE) (f : Str) : TE := fun σ H Q => ta σ H fun x H1 => ∃ a C dx fs v, x = .ref a ∧ H1 a = some (.ins C dx fs) ∧ Cls K C ∧ NoAttr K C f ∧ fs.lookup f = some v ∧ Q v H1
def sFld (K : PySem.W.Frag) (ta tv : TE) (f : Str) : TS := fun D σ H => tv σ H fun y H1 => ta σ H1 fun x H2 => ∃ a C dx fs, x = .ref a ∧ H2 a = some (.ins C dx fs) ∧ Cls K C ∧ NoAttr K C f ∧ fs.length < 1000 ∧
  D.nx σ (upd H2 a (.ins C dx (putF f y fs)))
section
variable {X : Cx} {o e value : Expr} {f : Str} {pos pos' tpos : Pos} {ta tv : TE}
theorem pe_fld (he : PE X e ta) (hb : attributeBase e f X.env (eval e X.env) = eval e X.env) : PE X (.Attribute e f pos) (tFld X.K ta f) := by
  intro pins s σ H Q I h
  refine attr_of hb (thn (he pins s σ H _ I h) fun u s1 ⟨x, H1, I1, rx, a, C, dx, fs, v, ex, ea, c, n, l, q⟩ => ?_)
  subst ex
  obtain rfl : u = Value.ref a := rx
  exact getattr_ok I1 ea c n l fun u' s2 I2 ru => ⟨v, H1, I2, ru, q⟩
theorem ps_fld (ha : PE X o ta) (hv : PE X value tv) (hs : swapsWith value (some (.Attribute o f pos')) pos.line X.env = pure false) : PS X (.Assign [.Attribute o f pos'] value pos) (sFld X.K ta tv f) := by
  intro pins s σ H D I h
  refine plainObj_wpAny_Assign_Attribute (thn (hv pins s σ H _ I h) fun u s1 ⟨y, H1, I1, ry, q⟩ => thn (ha pins s1 σ H1 _ I1 q) fun ov s2 ⟨x, H2, I2, rx, a, C, dx, fs, ex, ea, c, n, l, q2⟩ => ?_) hs
  subst ex
  obtain rfl : ov = Value.ref a := rx
  exact setattr_ok I2 ea c n l ry fun s3 I3 => ⟨σ, _, I3, q2⟩
end
section
variable {X : Cx} {pins : List (Addr × Obj)} {σ : St} {H : Hp} {s : Shared} {A : Around} {E : Value → Shared → Prop} {Q : Value → Shared → Prop} {c : Value} {b : Bool}
inductive TyOf (K : PySem.W.Frag) (H : Hp) : V → Value → Prop where
  | non : TyOf K H .non (.type "NoneType")
  | bl (x : Bool) : TyOf K H (.bl x) (.type "bool")
  | int (i : Int) : TyOf K H (.int i) (.type "int")
  | str (x : Str) : TyOf K H (.str x) (.type "str")
  | flt (x : UInt64) : TyOf K H (.flt x) (.type "float")
  | lst {a : Addr} {xs : List V} (e : H a = some (.lst xs)) : TyOf K H (.ref a) (.type "list")
  | frz {a : Addr} {o : Obj} {xs : List V} (e : H a = some (.frz o (.lst xs))) : TyOf K H (.ref a) (.type "list")
  | tup {a : Addr} {xs : List V} (e : H a = some (.tup xs)) : TyOf K H (.ref a) (.type "tuple")
  | dK {a : Addr} {kvs : List (Key × V)} (e : H a = some (.dK kvs)) : TyOf K H (.ref a) (.type "dict")
  | dT {a : Addr} {kvs : List (List Key × V)} (e : H a = some (.dT kvs)) : TyOf K H (.ref a) (.type "dict")
  | ins {a C dx : Addr} {fs : List (Str × V)} (e : H a = some (.ins C dx fs)) (cl : Cls K C) (ha : PySem.W.findIn K (.ref C) "__class__" = some (some (.builtin "object.__class__")))
      (hn : PySem.W.specialIn K (.builtin "object.__class__") "__get__" = some (some (.builtin "getset_descriptor.__get__"))) (htk : PySem.W.takesIn K (.builtin "object.__class__") = some true)
      (hm : PySem.W.mroIn K C (.type "object") = some true) : TyOf K H (.ref a) (.ref C)
theorem isinst_ok {x : V} {u t : Value} (I : Inv X pins σ H s) (rx : RelV x u) (ty : TyOf X.K H x t) (e : PySem.W.kitOne X.K t c = some b) (h : ∀ tk, Q (.bool b) { s with toks := tk }) :
    wpAny (model X.prog X.w) A (call (.builtin "isinstance") [u, c]) Q E s := by
  cases ty with
  | non => cases (show u = Value.none from rx); exact PySem.W.kia_one PySem.W.kitx_none I.kIn True.intro e (fun z => nomatch z) h
  | bl y => cases (show u = Value.bool y from rx); exact PySem.W.kia_one PySem.W.kitx_bool I.kIn True.intro e (fun z => nomatch z) h
  | int i => obtain ⟨t, q⟩ := (show ∃ t, u = Value.int i t from rx); cases q; exact PySem.W.kia_one PySem.W.kitx_int I.kIn True.intro e (fun z => nomatch z) h
  | str y => obtain ⟨t, q⟩ := (show ∃ t, u = Value.str y t from rx); cases q; exact PySem.W.kia_one PySem.W.kitx_str I.kIn True.intro e (fun z => nomatch z) h
  | flt y => obtain ⟨t, q⟩ := (show ∃ t, u = Value.float y t from rx); cases q; exact PySem.W.kia_one PySem.W.kitx_float I.kIn True.intro e (fun z => nomatch z) h
  | @lst a xs ea =>
    cases (show u = Value.ref a from rx)
    obtain ⟨_, _, n, _, h1⟩ := (show ObjOk X.prog X.w H s.heap a (.lst xs) from I.hok a _ ea)
    exact PySem.W.kia_one PySem.W.kitx_list I.kIn ⟨_, h1, rfl⟩ e (fun z => nomatch z) h
  | @frz a ob xs ea =>
    cases (show u = Value.ref a from rx)
    obtain ⟨_, _, _, n, _, h1⟩ := (show ObjOk X.prog X.w H s.heap a (.frz ob (.lst xs)) from I.hok a _ ea)
    exact PySem.W.kia_one PySem.W.kitx_list I.kIn ⟨_, h1, rfl⟩ e (fun z => nomatch z) h
  | @tup a xs ea =>
    cases (show u = Value.ref a from rx)
    obtain ⟨_, _, _, p⟩ := (show ObjOk X.prog X.w H s.heap a (.tup xs) from I.hok a _ ea)
    obtain ⟨o, h1, h2, _⟩ := p
    exact PySem.W.kia_one PySem.W.kitx_tuple I.kIn ⟨o, h1, h2⟩ e (fun z => nomatch z) h
  | @dK a kvs ea =>
    cases (show u = Value.ref a from rx)
    obtain ⟨_, _, vs, _, p⟩ := (show ObjOk X.prog X.w H s.heap a (.dK kvs) from I.hok a _ ea)
    obtain ⟨o, es, ep, h1, h2, _⟩ := p
    exact PySem.W.kia_one PySem.W.kitx_dict I.kIn ⟨o, h1, h2.1⟩ e (fun z => nomatch z) h
  | @dT a kvs ea =>
    cases (show u = Value.ref a from rx)
    obtain ⟨_, _, xs, _, o, es, ep, h1, h2, _⟩ := (show ObjOk X.prog X.w H s.heap a (.dT kvs) from I.hok a _ ea)
    exact PySem.W.kia_one PySem.W.kitx_dict I.kIn ⟨o, h1, h2.1⟩ e (fun z => nomatch z) h
  | @ins a C dx fs ea cl ha hn htk hm =>
    cases (show u = Value.ref a from rx)
    obtain ⟨mA, O, _⟩ := ins_get I.hok ea
    obtain ⟨od, J, _⟩ := O.look
    exact PySem.W.kia_one (PySem.W.kitx_own (cl.get _) cl.hd ha hn htk hm) I.kIn J e (fun z => nomatch z) h
end
end L2
namespace L2
open PySem PySem.Spec PyProof.Rows
structure Room (k : Nat) (A : Around) : Prop where
  hd : A.handled = none
  dp : A.depth + 3 * k + 5 < recursionLimit
  un : A.units + 16 * k + 200 < cLine
theorem Room.mono {j k : Nat} {A : Around} (r : Room k A) (h : j ≤ k) : Room j A := ⟨r.hd, by have := r.dp; omega, by have := r.un; omega⟩
theorem Room.deeper {k : Nat} {A : Around} (r : Room (k + 1) A) (env : Env) : Room k (A.deeper env) :=
  ⟨r.hd, by have := r.dp; show A.depth + 1 + 3 * k + 5 < _; omega, by have := r.un; show A.units + 3 + 16 * k + 200 < _; omega⟩
theorem make_depth {A : Around} {C : Addr} {us : List Value} {kw : List (Str × Value)} : (A.under (.builtin "type.__call__" ⟨.ref C :: us, kw⟩)).depth = A.depth + 1 := by
  first | rfl | simp [Around.under, Code.weight, Code.isCreation, Code.isGuard, Code.isCaller, Code.frames, Code.isFrame, guardIds]
theorem make_units {A : Around} {C : Addr} {us : List Value} {kw : List (Str × Value)} : (A.under (.builtin "type.__call__" ⟨.ref C :: us, kw⟩)).units = A.units + 1 := by
  first | rfl | simp [Around.under, Code.cUnits, Code.frames, Code.isFrame]
theorem Room.make {k : Nat} {A : Around} (r : Room (k + 1) A) (C : Addr) (us : List Value) (kw : List (Str × Value)) : Room k (A.under (.builtin "type.__call__" ⟨.ref C :: us, kw⟩)) :=
  ⟨r.hd, by have := r.dp; rw [make_depth]; omega, by have := r.un; rw [make_units]; omega⟩
theorem Room.depth {k : Nat} {A : Around} (r : Room k A) : A.depth < recursionLimit := by have := r.dp; omega
def tNil : TA := fun _ H Q => Q [] H
def tCons (ta : TE) (tr : TA) : TA := fun σ H Q => ta σ H fun x H1 => tr σ H1 fun xs H2 => Q (x :: xs) H2
section
variable {X : Cx} {e : Expr} {es : List Expr} {te : TE} {t : TA} {pos : Pos}
theorem pa_nil : PA X [] tNil := fun _ _ _ _ H Q I h => Calls.spliced_nil ⟨[], H, I, .nil, h⟩
theorem pa_cons (ha : PE X e te) (hr : PA X es t) (hs : starEach (e :: es) X.env = (false, eval e X.env) :: starEach es X.env := by rfl) : PA X (e :: es) (tCons te t) := by
  intro pos pins s σ H Q I h
  rw [hs]
  show wpAny _ _ (spliced ((false, eval e X.env) :: backTo pos (starEach es X.env))) _ _ s
  refine Calls.spliced_cons (thn (ha pins s σ H _ I h) fun u s1 ⟨x, H1, I1, r1, q1⟩ => ?_)
  exact thn (hr pos pins s1 σ H1 _ I1 q1) fun us s2 ⟨xs, H2, I2, r2, q2⟩ => ⟨x :: xs, H2, I2, .cons r1 r2, q2⟩
def tTup (t : TA) : TE := fun σ H Q => t σ H fun xs H1 => xs.length ≤ sizeLine ∧ ∀ p, H1 p = none → Q (.ref p) (upd H1 p (.tup xs))
def tLst (t : TA) : TE := fun σ H Q => t σ H fun xs H1 => xs.length ≤ sizeLine ∧ ∀ p, H1 p = none → Q (.ref p) (upd H1 p (.lst xs))
theorem pe_tup {x1} (h : PA X es t) : PE X (.Tuple es x1 pos) (tTup t) := by
  intro pins s σ H Q I hq
  refine wpAny_Tuple_spliced (thn (h pos pins s σ H _ I hq) fun us s1 ⟨xs, H1, I1, r, z, q⟩ => ⟨by rw [← r.length]; exact z, ?_⟩)
  have hf : H1 s1.heap.objs.size = none := I1.hok.fresh (Nat.le_refl _)
  refine ⟨.ref s1.heap.objs.size, upd H1 s1.heap.objs.size (.tup xs), I1.laid (t' := s1.toks) (fun b u e => Heap.get?_push_of_some _ e) (Nat.le_refl _) ?_, rfl, q _ hf⟩
  exact ⟨z, us, r, ⟨_, Heap.get?_push_size _ rfl, rfl, _, rfl⟩⟩
theorem pe_lst (h : PA X es t) : PE X (.List es pos) (tLst t) := by
  intro pins s σ H Q I hq
  refine wpAny_List_spliced (thn (h pos pins s σ H _ I hq) fun us s1 ⟨xs, H1, I1, r, z, q⟩ => ⟨by rw [← r.length]; exact z, ?_⟩)
  have hf : H1 s1.heap.objs.size = none := I1.hok.fresh (Nat.le_refl _)
  refine ⟨.ref s1.heap.objs.size, upd H1 s1.heap.objs.size (.lst xs), I1.laid (t' := s1.toks) (fun b u e => Heap.get?_push_of_some _ e) (Nat.le_refl _) ?_, rfl, q _ hf⟩
  exact ⟨z, us, 0, r, Heap.get?_push_size _ rfl⟩
end
abbrev Sp := List V → Hp → VK → XK → Prop
abbrev CXT := List Env → Hp → Shared → XK → Value → Shared → Prop
structure Env0 (P : Program) (w : World) (K : PySem.W.Frag) (mg : Str → Option Value) (base : Heap) (A : Around) (outer : List Env) (s : Shared) (H : Hp) : Prop where
  frames : A.frames = some outer
  mod : Mod K mg base
  bs : ∀ b o, base.get? b = some o → s.heap.get? b = some o ∧ H b = none
  bsz : base.objs.size ≤ s.heap.objs.size
  funs : s.heap.FunFrames base outer
  frf : ∀ b ∈ frs outer, H b = none
  hok : HOk P w H s.heap
  bare : AllBare s.gens
def CE (outer : List Env) (P : Program) (w : World) (H : Hp) (s : Shared) (Q : VK) (u : Value) (s' : Shared) : Prop :=
  ∃ v H', s'.os = s.os ∧ AllBare s'.gens ∧ Un (frs outer) [] H H' s.heap s'.heap ∧ HOk P w H' s'.heap ∧ RelV v u ∧ Q v H'
def CR (CX : CXT) (outer : List Env) (P : Program) (w : World) (H : Hp) (s : Shared) (Q : VK) (E : XK) (r : Result) (s' : Shared) : Prop :=
  match r with
  | .ok (.ret u) => CE outer P w H s Q u s'
  | .ok _ => False
  | .error e => CX outer H s E e s'
structure FnOk (P : Program) (w : World) (K : PySem.W.Frag) (mg : Str → Option Value) (base : Heap) (CX : CXT) (k : Nat) (f : Addr) (fd : FuncData) (ps : List Str) (sp : Sp) : Prop where
  len : ∀ vs H Q E, sp vs H Q E → vs.length = ps.length
  run : ∀ (A : Around) (outer : List Env) (s : Shared) (H : Hp) (args : Args) (us : List Value) (vs : List V) (Q : VK) (E : XK), Room k A → Env0 P w K mg base A outer s H → BindsTo s fd args (ps.zip us) → Vals vs us → sp vs H Q E →
    codeAny (model P w) A (.call (.ref f) args) (CR CX outer P w H s Q E) s
theorem Env0.make {P : Program} {w : World} {K : PySem.W.Frag} {mg : Str → Option Value} {base : Heap} {A : Around} {outer : List Env} {s : Shared} {H : Hp} (e : Env0 P w K mg base A outer s H) (C : Addr) (us : List Value) (kw : List (Str × Value)) :
    Env0 P w K mg base (A.under (.builtin "type.__call__" ⟨.ref C :: us, kw⟩)) outer s H := ⟨by first | exact e.frames | (simpa [Around.under, Code.envs, Code.isFrame, pushEnvs] using e.frames), e.mod, e.bs, e.bsz, e.funs, e.frf, e.hok, e.bare⟩
section
variable {X : Cx} {pins : List (Addr × Obj)} {σ : St} {H : Hp} {s s' : Shared}
theorem Inv.env0 (I : Inv X pins σ H s) : Env0 X.prog X.w X.K X.mg X.base X.A X.stack s H :=
  ⟨I.ok.frames, I.ok.mod, I.bs, Nat.le_trans I.ok.bsz I.sz, I.stack, I.stkFree, I.hok, I.bare⟩
theorem Inv.after {Q : VK} {u : Value} (I : Inv X pins σ H s) (h : CE X.stack X.prog X.w H s Q u s') : EP X pins σ Q u s' := by
  obtain ⟨v, H', os, bare, un, hok, r, q⟩ := h
  obtain ⟨hh, g, d, t, os'⟩ := s'
  obtain rfl : os' = s.os := os
  exact ⟨v, H', I.call (h' := hh) (g' := g) (d' := d) (t' := t) (ch := []) un hok bare (fun b z => absurd z (by simp)), r, q⟩
end
def tCall (sp : Sp) (dvs : List V) (E : XK) (t : TA) : TE := fun σ H Q => t σ H fun vs H1 => sp (vs ++ dvs) H1 Q E
def tMake (C : Addr) (sp : Sp) (dvs : List V) (E : XK) (t : TA) : TE := fun σ H Q => t σ H fun vs H1 => ∀ x dx, H1 x = none → H1 dx = none → dx ≠ x →
  sp (.ref x :: (vs ++ dvs)) (upd (upd H1 dx (.own x)) x (.ins C dx [])) (fun v H2 => v = .non ∧ Q (.ref x) H2) E
def Binds (K : PySem.W.Frag) (fd : FuncData) (ps : List Str) (ds : List Value) : Prop :=
  ∀ (s : Shared) (us : List Value), K.In s.heap → (us ++ ds).length = ps.length → BindsTo s fd ⟨us, []⟩ (ps.zip (us ++ ds))
theorem Binds.all {K : PySem.W.Frag} {fd : FuncData} {ps : List Str} (h : ∀ us : List Value, us.length = ps.length → bindArgs fd ⟨us, []⟩ = pure (ps.zip us)) : Binds K fd ps [] := fun s us _ hl => by
  rw [List.append_nil] at hl ⊢
  exact .of_eq (h us hl)
def Passes (CX : CXT) (X : Cx) (E : XK) : Prop := ∀ (pins : List (Addr × Obj)) (σ : St) (H : Hp) (s : Shared) (e : Value) (s' : Shared), Inv X pins σ H s → CX X.stack H s E e s' → X.xe e s'
section
variable {X : Cx} {CX : CXT} {k : Nat} {f C : Addr} {fd : FuncData} {ps : List Str} {sp : Sp} {dvs : List V} {ds : List Value} {E : XK} {x m : Str} {p pos apos : Pos} {e o : Expr} {es : List Expr} {ta : TE} {t : TA}
theorem run_fn {pins : List (Addr × Obj)} {σ : St} {H : Hp} {s : Shared} {Q : VK} {us : List Value} {vs : List V} (F : FnOk X.prog X.w X.K X.mg X.base CX k f fd ps sp) (hr : Room k X.A) (hb : Binds X.K fd ps ds) (hd : Vals dvs ds) (hx : Passes CX X E)
    (I : Inv X pins σ H s) (r : Vals vs us) (h : sp (vs ++ dvs) H Q E) : wpAny (model X.prog X.w) X.A (call (.ref f) us) (EP X pins σ Q) X.xe s := by
  have r2 : Vals (vs ++ dvs) (us ++ ds) := r.append hd
  have hl : (us ++ ds).length = ps.length := by rw [← r2.length]; exact F.len _ _ _ _ h
  refine wpAny_call (codeAny_mono (F.run X.A X.stack s H ⟨us, []⟩ (us ++ ds) (vs ++ dvs) Q E hr I.env0 (hb s us I.kIn hl) r2 h) fun r s' hq => ?_)
  cases r with
  | error e => exact hx pins σ H s e s' I hq
  | ok fl =>
    cases fl with
    | ret u => exact I.after hq
    | next => exact False.elim hq
    | brk => exact False.elim hq
    | cont => exact False.elim hq
theorem pe_call (F : FnOk X.prog X.w X.K X.mg X.base CX k f fd ps sp) (hr : Room k X.A) (hg : Gl X x) (hm : X.mg x = some (.ref f)) (hk : PySem.W.keepIn X.K (.ref f) = true) (hb : Binds X.K fd ps ds) (hd : Vals dvs ds) (hx : Passes CX X E)
    (ha : PA X (e :: es) t) (hdb : (x == ("__debug__" : Str)) = false := by decide) (he : starEach (e :: es) X.env = (false, eval e X.env) :: starEach es X.env := by rfl) (hpl : (backTo pos (starEach es X.env)).any (·.1) = false := by rfl) :
    PE X (.Call (.Name x p) (e :: es) [] pos) (tCall sp dvs E t) := by
  intro pins s σ H Q I h
  refine wpAny_Call_Name_kw (ld_glob I hg hm ?_ hdb)
  refine PySem.W.callWith_K (h₀ := X.base) I.ok.mod.kin hk (thn (ha pos pins s σ H _ I h) fun us s1 ⟨vs, H1, I1, r, q⟩ => ⟨I1.kIn, ?_⟩) he hpl
  exact run_fn F hr hb hd hx I1 r q
structure Mk (K : PySem.W.Frag) (C f : Addr) : Prop where
  makes : PySem.W.makesIn K C = true
  init : PySem.W.findIn K (.ref C) "__init__" = some (some (.ref f))
  fn : PySem.W.isFn K (.ref f) = true
  kp : PySem.W.keepIn K (.ref C) = true
theorem run_make {pins : List (Addr × Obj)} {σ : St} {H : Hp} {s : Shared} {Q : VK} {us : List Value} {vs : List V} (M : Mk X.K C f) (F : FnOk X.prog X.w X.K X.mg X.base CX k f fd ps sp) (hr : Room (k + 1) X.A) (hb : Binds X.K fd ps ds) (hd : Vals dvs ds)
    (hx : Passes CX X E) (I : Inv X pins σ H s) (r : Vals vs us)
    (h : ∀ x dx, H x = none → H dx = none → dx ≠ x → sp (.ref x :: (vs ++ dvs)) (upd (upd H dx (.own x)) x (.ins C dx [])) (fun v H2 => v = .non ∧ Q (.ref x) H2) E) :
    wpAny (model X.prog X.w) X.A (call (.ref C) us) (EP X pins σ Q) X.xe s := by
  have hq := h (s.heap.objs.size + 1) s.heap.objs.size (I.hok.fresh (Nat.le_succ _)) (I.hok.fresh (Nat.le_refl _)) (Nat.ne_of_lt (Nat.lt_succ_self _))
  have I2 := Inv.made (C := C) I
  have r2 : Vals (V.ref (s.heap.objs.size + 1) :: (vs ++ dvs)) (Value.ref (s.heap.objs.size + 1) :: (us ++ ds)) := .cons rfl (r.append hd)
  have hl : (Value.ref (s.heap.objs.size + 1) :: us ++ ds).length = ps.length := by
    have e := r2.length
    rw [F.len _ _ _ _ hq] at e
    exact e.symm
  refine wpAny_call (make_map (f := f) I.kIn M.makes M.init (beq_iff_eq.mp M.fn) (codeAny_mono (F.run _ X.stack _ _ ⟨Value.ref (s.heap.objs.size + 1) :: us, []⟩ (Value.ref (s.heap.objs.size + 1) :: (us ++ ds)) _ _ E (hr.make C us [])
    (I2.env0.make C us []) (hb _ (Value.ref (s.heap.objs.size + 1) :: us) I2.kIn hl) r2 hq) fun r s' hq' => ?_))
  cases r with
  | error e => exact hx pins σ _ _ e s' I2 hq'
  | ok fl =>
    cases fl with
    | ret u =>
      obtain ⟨v, H', I3, rv, ev, q3⟩ := I2.after hq'
      subst ev
      exact ⟨rv, ⟨V.ref (s.heap.objs.size + 1), H', I3, rfl, q3⟩⟩
    | next => exact False.elim hq'
    | brk => exact False.elim hq'
    | cont => exact False.elim hq'
theorem pe_make (M : Mk X.K C f) (F : FnOk X.prog X.w X.K X.mg X.base CX k f fd ps sp) (hr : Room (k + 1) X.A) (hg : Gl X x) (hm : X.mg x = some (.ref C)) (hb : Binds X.K fd ps ds) (hd : Vals dvs ds) (hx : Passes CX X E)
    (ha : PA X (e :: es) t) (hdb : (x == ("__debug__" : Str)) = false := by decide) (he : starEach (e :: es) X.env = (false, eval e X.env) :: starEach es X.env := by rfl) (hpl : (backTo pos (starEach es X.env)).any (·.1) = false := by rfl) :
    PE X (.Call (.Name x p) (e :: es) [] pos) (tMake C sp dvs E t) := by
  intro pins s σ H Q I h
  refine wpAny_Call_Name_kw (ld_glob I hg hm ?_ hdb)
  refine PySem.W.callWith_K (h₀ := X.base) I.ok.mod.kin M.kp (thn (ha pos pins s σ H _ I h) fun us s1 ⟨vs, H1, I1, r, q⟩ => ⟨I1.kIn, ?_⟩) he hpl
  exact run_make M F hr hb hd hx I1 r q
end
section
variable {X : Cx} {CX : CXT} {k : Nat} {f C : Addr} {fd : FuncData} {ps ks : List Str} {sp : Sp} {E : XK} {x m : Str} {p pos apos kpos : Pos} {e o : Expr} {es : List Expr} {kws : List Keyword} {te ta : TE} {t tk : TA} {nm : Option Str}
variable {g : List Value → List Value → List Value} {gV : List V → List V → List V}
end
structure FnScope (N P : List Str) (sc : Scope) : Prop where
  kind : sc.kind = .function
  co : sc.isCoroutine = false
  gen : sc.isGenerator = false
  nd : N.Nodup
  pre : N.take P.length = P
  par : ∀ x ∈ P, sc.names.lookup x = some .local ∨ sc.names.lookup x = some .cell
  nofree : ∀ y ∈ sc.names, y.2 ≠ .free
theorem bindL_out {kindOf : Str → Option NameKind} {x : Str} : ∀ {binds : List (Str × Value)} {m : Str → Option Value}, (∀ v, (x, v) ∉ binds) → bindL kindOf binds m x = m x
  | [], _, _ => rfl
  | (n, v) :: r, m, h => by
    unfold bindL
    rw [bindL_out fun w hw => h w (List.mem_cons_of_mem _ hw)]
    split
    · have : x ≠ n := by rintro rfl; exact h v List.mem_cons_self
      simp [this]
    · rfl
theorem bindC_out {kindOf : Str → Option NameKind} {x : Str} : ∀ {binds : List (Str × Value)} {m : Str → Option Value}, (∀ v, (x, v) ∉ binds) → bindC kindOf binds m x = m x
  | [], _, _ => rfl
  | (n, v) :: r, m, h => by
    unfold bindC
    rw [bindC_out fun w hw => h w (List.mem_cons_of_mem _ hw)]
    split
    · rfl
    · have : x ≠ n := by rintro rfl; exact h v List.mem_cons_self
      simp [this]
theorem bindL_get {kindOf : Str → Option NameKind} {x : Str} {v : Value} : ∀ {P : List Str} {vs : List Value} {i : Nat} {m : Str → Option Value}, P.Nodup → P[i]? = some x → vs[i]? = some v → kindOf x = some .local →
    bindL kindOf (P.zip vs) m x = some v
  | [], _, _, _, _, h, _, _ => by simp at h
  | _ :: _, [], _, _, _, _, h, _ => by simp at h
  | p :: P, w :: vs, 0, m, nd, h1, h2, hk => by
    simp at h1 h2; subst h1; subst h2
    show bindL kindOf ((p, w) :: P.zip vs) m p = _
    unfold bindL
    rw [bindL_out fun v hv => (List.nodup_cons.mp nd).1 (List.of_mem_zip hv).1, if_pos hk]
    simp
  | p :: P, w :: vs, i + 1, m, nd, h1, h2, hk => by
    show bindL kindOf ((p, w) :: P.zip vs) m x = _
    unfold bindL
    exact bindL_get (i := i) (List.nodup_cons.mp nd).2 (by simpa using h1) (by simpa using h2) hk
theorem bindC_get {kindOf : Str → Option NameKind} {x : Str} {v : Value} : ∀ {P : List Str} {vs : List Value} {i : Nat} {m : Str → Option Value}, P.Nodup → P[i]? = some x → vs[i]? = some v → kindOf x ≠ some .local →
    bindC kindOf (P.zip vs) m x = some v
  | [], _, _, _, _, h, _, _ => by simp at h
  | _ :: _, [], _, _, _, _, h, _ => by simp at h
  | p :: P, w :: vs, 0, m, nd, h1, h2, hk => by
    simp at h1 h2; subst h1; subst h2
    show bindC kindOf ((p, w) :: P.zip vs) m p = _
    unfold bindC
    rw [bindC_out fun v hv => (List.nodup_cons.mp nd).1 (List.of_mem_zip hv).1, if_neg hk]
    simp
  | p :: P, w :: vs, i + 1, m, nd, h1, h2, hk => by
    show bindC kindOf ((p, w) :: P.zip vs) m x = _
    unfold bindC
    exact bindC_get (i := i) (List.nodup_cons.mp nd).2 (by simpa using h1) (by simpa using h2) hk
def start (N : List Str) (vs : List V) : St := vs.map some ++ List.replicate (N.length - vs.length) none
def cxOf (CX : CXT) (P : Program) (w : World) (K : PySem.W.Frag) (mg : Str → Option Value) (base : Heap) (N : List Str) (qual : Str) (scope : Scope) (f : Addr) (cd : Value) (A : Around) (outer : List Env) (s : Shared) (H : Hp) (E : XK) : Cx where
  prog := P
  w := w
  K := K
  mg := mg
  base := base
  A := A.deeper (envOfC qual scope s.heap.objs.size f cd)
  N := N
  s₀ := s
  H₀ := H
  env := envOfC qual scope s.heap.objs.size f cd
  outer := outer
  stack := envOfC qual scope s.heap.objs.size f cd :: outer
  ex := []
  calm := true
  fn := fun _ => true
  pn := []
  xe := fun e s' => wpAny (model P w) (A.deeper (envOfC qual scope s.heap.objs.size f cd)) (leaving (envOfC qual scope s.heap.objs.size f cd) e) (fun _ s'' => CX outer H s E e s'') (fun e' s'' => CX outer H s E e' s'') s'
theorem cell_has {sc : Scope} {n : Nat} {x : Str} (h : sc.names.lookup x = some .cell) : ∃ c, (cellsFrom n sc.names []).lookup x = some c := by
  have q := PySem.W.cellsFrom_some sc.names n [] (.inl h)
  exact Option.isSome_iff_exists.mp q
theorem inv_start {CX : CXT} {P : Program} {w : World} {K : PySem.W.Frag} {mg : Str → Option Value} {base : Heap} {N ps : List Str} {qual : Str} {scope : Scope} {f : Addr} {cd : Value} {A : Around} {outer : List Env} {s s1 : Shared} {H : Hp} {E : XK} {us : List Value} {vs : List V}
    (S : FnScope N ps scope) (hd : A.handled = none) (e0 : Env0 P w K mg base A outer s H) (hl : vs.length = ps.length) (r : Vals vs us)
    (x : InCallC s s.heap.objs.size (bindL (envOfC qual scope s.heap.objs.size f cd).kindOf (ps.zip us) fun _ => none) (cellsFrom (s.heap.objs.size + 1) scope.names []) (bindC (envOfC qual scope s.heap.objs.size f cd).kindOf (ps.zip us) fun _ => none) s1) :
    Inv (cxOf CX P w K mg base N qual scope f cd A outer s H E) [] (start N vs) H s1 := by
  have hpl : ps.length ≤ N.length := by have := congrArg List.length S.pre; rw [List.length_take] at this; omega
  obtain ⟨h1, tk, rfl, hk⟩ := x.done
  have noA : ∀ b : Addr, b ∉ (cxOf CX P w K mg base N qual scope f cd A outer s H E).ex := fun b z => absurd (show b ∈ ([] : List Addr) from z) (by simp)
  refine ⟨⟨e0.mod, S.kind, rfl, rfl, Nat.le_refl _, fun y z c h1 h2 => ?_, fun y hy => ?_, fun y c _ h => ?_, fun _ => hd, Around.frames_deeper e0.frames, .inr ⟨rfl, rfl⟩, fun b z => absurd z (noA b), e0.bs, e0.bsz, fun b _ _ => noA b, fun b z => absurd z (noA b), e0.funs, e0.frf⟩,
    rfl, e0.bare, Un.kept hk, ⟨_, x.toInCall.ns, fun i y v h1 h2 h3 => ?_⟩, fun y c h => ⟨_, x.cell y c h⟩, e0.hok.fresh (Nat.le_refl _), fun y c h => ?_, fun p hp => absurd (show p ∈ ([] : List (Addr × Obj)) from hp) (by simp), e0.hok.kept hk, ?_⟩
  · exact name_of_addr x.apart (PySem.mem_of_lookup h1) (PySem.mem_of_lookup h2)
  · have hy : scope.names.lookup y = some .cell ∨ scope.names.lookup y = some .free := hy
    rcases hy with hy | hy
    · exact cell_has hy
    · exact absurd rfl (S.nofree _ (PySem.mem_of_lookup hy))
  · exact Nat.le_of_lt (x.above y c (PySem.mem_of_lookup h))
  · have hi : i < vs.length := by
      unfold start at h2
      by_cases hi : i < vs.length
      · exact hi
      · rw [List.getElem?_append_right (by simpa using hi)] at h2
        rw [List.getElem?_replicate] at h2
        split at h2 <;> cases h2
    have ha : vs[i]? = some v := by
      unfold start at h2
      rw [List.getElem?_append_left (by simpa using hi), List.getElem?_map] at h2
      cases e : vs[i]? with
      | none => rw [e] at h2; cases h2
      | some a => rw [e] at h2; cases h2; rfl
    obtain ⟨u, hu, rv⟩ := r.get ha
    have hp : ps[i]? = some y := by
      rw [← S.pre, List.getElem?_take_of_lt (by omega)]; exact h1
    have ndP : ps.Nodup := by rw [← S.pre]; exact S.nd.sublist (List.take_sublist _ _)
    refine ⟨u, rv, ?_⟩
    rcases S.par y (List.mem_of_getElem? hp) with k | k
    · exact .inl ⟨k, bindL_get ndP hp hu k⟩
    · obtain ⟨c, e⟩ := cell_has (n := s.heap.objs.size + 1) k
      refine .inr ⟨.inl k, c, e, ?_⟩
      have q := x.cell y c e
      rw [bindC_get ndP hp hu (by show scope.names.lookup y ≠ _; rw [k]; decide)] at q
      exact q
  · exact e0.hok.fresh (Nat.le_of_lt (x.above y c (PySem.mem_of_lookup h)))
  · unfold start
    show _ = N.length
    rw [List.length_append, List.length_map, List.length_replicate]
    omega
theorem fn_of {CX : CXT} {P : Program} {w : World} {K : PySem.W.Frag} {mg : Str → Option Value} {base : Heap} {k : Nat} {f : Addr} {name qual : Str} {params : Arguments} {body : List Stmt} {scope : Scope} {dV kV doc pm cdv ct oc : Value} {an od : Option Addr}
    {osl : Array (Option Value)} {N ps : List Str} {sp : Sp} (lk : K.lookup f = some ⟨oc, od, .func (PySem.W.fnOf name qual params body scope dV kV doc pm an cdv ct), osl⟩) (hcd : PySem.W.codeIn K cdv qual = true) (S : FnScope N ps scope)
    (len : ∀ vs H Q E, sp vs H Q E → vs.length = ps.length)
    (hbody : ∀ (A : Around) (outer : List Env) (s : Shared) (H : Hp) (vs : List V) (Q : VK) (E : XK), Room k (A.deeper (envOfC qual scope s.heap.objs.size f cdv)) → sp vs H Q E →
      ∃ t, PSs (cxOf CX P w K mg base N qual scope f cdv A outer s H E) body t ∧ t { nx := fun _ H' => Q .non H', rt := Q } (start N vs) H) :
    FnOk P w K mg base CX (k + 1) f (PySem.W.fnOf name qual params body scope dV kV doc pm an cdv ct) ps sp := by
  refine ⟨len, fun A outer s H args us vs Q E hr e0 hb r hsp => ?_⟩
  have hl := len _ _ _ _ hsp
  have KX : K.In s.heap := e0.mod.kin.keeps fun b o e => (e0.bs b o e).1
  have lim : s.heap.NoLimit := e0.mod.nolimit.keeps fun b o e => (e0.bs b o e).1
  have hkind : ∀ y ∈ ps.zip us, scope.names.lookup y.1 = some .local ∨ (scope.names.lookup y.1 = some .cell ∧ ((cellsFrom (s.heap.objs.size + 1) scope.names []).lookup y.1).isSome = true) := fun ⟨n, v⟩ hy => by
    rcases S.par n (List.of_mem_zip hy).1 with q | q
    · exact .inl q
    · exact .inr ⟨q, PySem.W.cellsFrom_some _ _ _ (.inl q)⟩
  refine codeAny_call_function hr.depth (KX _ _ lk) rfl S.co S.gen rfl (PySem.W.codeRec_of KX hcd) (hb _ _ _ _ ?_)
  refine wpAny_newFunctionEnv_cells S.kind hkind fun env he s1 x => ?_
  subst he
  refine ⟨lim.keeps x.toInCall.keep, codeAny_func ?_⟩
  obtain ⟨t, ht, hq⟩ := hbody A outer s H vs Q E (hr.deeper _) hsp
  have I : Inv (cxOf CX P w K mg base N qual scope f cdv A outer s H E) [] (start N vs) H s1 := inv_start S hr.hd e0 hl r x
  refine wpAny_mono (ht [] s1 (start N vs) H _ I hq) (fun fl s' hs => ?_) fun e s' hs => hs
  have fin : ∀ {σ' : St} {H' : Hp} {v : V} {u : Value}, Inv (cxOf CX P w K mg base N qual scope f cdv A outer s H E) [] σ' H' s' → RelV v u → Q v H' → CE outer P w H s Q u s' :=
    fun {σ' H' v u} J rv q => ⟨v, H', J.os, J.bare, J.base, J.hok, rv, q⟩
  cases fl with
  | ret u =>
    obtain ⟨v, σ', H', J, rv, q⟩ := hs
    exact fin J rv q
  | next =>
    obtain ⟨σ', H', J, q⟩ := hs
    exact fin (v := V.non) (u := Value.none) J rfl q
  | brk =>
    obtain ⟨_, _, _, q⟩ := hs
    exact False.elim q
  | cont =>
    obtain ⟨_, _, _, q⟩ := hs
    exact False.elim q
end L2
namespace L2
open PySem PySem.Spec PyProof.Rows
section
variable {X : Cx} {x : Str} {p pos : Pos} {e : Expr} {es : List Expr} {t : TA} {id T : String} {r : List V → Hp → VK → Prop}
def tCB (r : List V → Hp → VK → Prop) (t : TA) : TE := fun σ H Q => t σ H fun vs H1 => r vs H1 Q
theorem pe_callB (hc : CallR X (.builtin id) r) (hg : Gl X x) (hm : X.mg x = none) (hv : bootBuiltins x = some (.builtin id)) (ha : PA X (e :: es) t) (hn : x ≠ "__name__" := by decide) (hdb : (x == ("__debug__" : Str)) = false := by decide)
    (he : starEach (e :: es) X.env = (false, eval e X.env) :: starEach es X.env := by rfl) (hpl : (backTo pos (starEach es X.env)).any (·.1) = false := by rfl) : PE X (.Call (.Name x p) (e :: es) [] pos) (tCB r t) := by
  intro pins s σ H Q I h
  refine wpAny_Call_Name_kw (ld_blt I hg hm hv ?_ hn hdb)
  exact PyProof.Rows.callWith_builtin1 (thn (ha pos pins s σ H _ I h) fun us s1 ⟨vs, H1, I1, r1, q1⟩ => hc pins s1 σ H1 vs us Q I1 r1 q1) he hpl
theorem pe_callTy (hc : CallR X (.type T) r) (hg : Gl X x) (hm : X.mg x = none) (hv : bootBuiltins x = some (.type T)) (ha : PA X (e :: es) t) (hn : x ≠ "__name__" := by decide) (hdb : (x == ("__debug__" : Str)) = false := by decide)
    (he : starEach (e :: es) X.env = (false, eval e X.env) :: starEach es X.env := by rfl) (hpl : (backTo pos (starEach es X.env)).any (·.1) = false := by rfl) : PE X (.Call (.Name x p) (e :: es) [] pos) (tCB r t) := by
  intro pins s σ H Q I h
  refine wpAny_Call_Name_kw (ld_blt I hg hm hv ?_ hn hdb)
  exact PyProof.Rows.callWith_type1 (thn (ha pos pins s σ H _ I h) fun us s1 ⟨vs, H1, I1, r1, q1⟩ => hc pins s1 σ H1 vs us Q I1 r1 q1) he hpl
end
end L2
namespace HT
open PySem PyProof.Rows
section
open PySem.SeqAt
open PySem.AutoSeq1 (wpAny_loadPart')
open PySem.MeetsSeq PySem.MeetsSeq2 PySem.MeetsSeq3
end
section
variable {prog : Program} {w : World} {A : Around} {E : Value → Shared → Prop} {s : Shared}
def sIx (n d : Nat) : Option Int → Nat
  | none => d
  | some v => if v < 0 then (v + (n : Int)).toNat else min v.toNat n
theorem sIx_le (n d : Nat) (hd : d ≤ n) (o : Option Int) : sIx n d o ≤ n := by
  cases o with
  | none => exact hd
  | some v =>
    show (if v < 0 then (v + (n : Int)).toNat else min v.toNat n) ≤ n
    by_cases hv : v < 0
    · rw [if_pos hv]; omega
    · rw [if_neg hv]; exact Nat.min_le_right _ _
theorem clip_eq (v : Int) (n d : Nat) : (if v < 0 then max (v + (n : Int)) 0 else min v (n : Int)) = ((sIx n d (some v) : Nat) : Int) := by
  show (if v < 0 then max (v + (n : Int)) 0 else min v (n : Int)) = (((if v < 0 then (v + (n : Int)).toNat else min v.toNat n) : Nat) : Int)
  by_cases hv : v < 0
  · simp only [if_pos hv]; omega
  · simp only [if_neg hv]; omega
theorem adjust_gen (lo hi : Option Int) (n : Nat) : Builtin.Slice.sliceAdjust lo hi 1 (n : Int) = (((sIx n 0 lo : Nat) : Int), ((sIx n n hi : Nat) : Int)) := by
  have h1 : ¬ ((1 : Int) < 0) := by omega
  unfold Builtin.Slice.sliceAdjust
  simp only [h1, if_false]
  refine Prod.ext ?_ ?_
  · cases lo with
    | none => rfl
    | some v => exact clip_eq v n 0
  · cases hi with
    | none => rfl
    | some v => exact clip_eq v n n
theorem places_gen (i j : Nat) : Builtin.Slice.slicePlaces (i : Int) (j : Int) 1 = j - i := by
  unfold Builtin.Slice.slicePlaces
  have h1 : (1 : Int) > 0 := by omega
  simp only [h1, if_true, Int.ediv_one]
  split <;> omega
theorem slicePart_ {v : Value} {o : Option Int} {Q : Option Int → Shared → Prop} (p : IsPart v o) (h : Q o s) : wpAny (model prog w) A (Builtin.Slice.slicePartIndex v) Q E s := by
  cases p with
  | none => exact slicePart_none h
  | int i t => exact slicePart_int h
theorem sliceApplied_gen {sl : Addr} {vl vu : Value} {lo hi : Option Int} {n : Nat} {Q : Int × Int × Nat → Shared → Prop} (hs : s.heap.IsSliceOf sl vl vu .none) (pl : IsPart vl lo) (pu : IsPart vu hi)
    (h : Q (((sIx n 0 lo : Nat) : Int), 1, sIx n n hi - sIx n 0 lo) s) : wpAny (model prog w) A (Builtin.Slice.sliceApplied (.ref sl) (pure (n : Int))) Q E s := by
  obtain ⟨os, hos, hcs, hds⟩ := id hs
  unfold Builtin.Slice.sliceApplied Builtin.Slice.sliceFields
  refine wpAny_bind (wpAny_bind (wpAny_field hos hds (x := vl) rfl (wpAny_bind (wpAny_field hos hds (x := vu) rfl (wpAny_bind (wpAny_field hos hds (x := .none) rfl (wpAny_pure ?_)))))))
  refine wpAny_bind (slicePart_none ?_)
  show wpAny _ _ (if ((1 : Int) == 0) = true then _ else _) _ _ s
  rw [if_neg (by decide)]
  refine wpAny_bind (slicePart_ pl (wpAny_bind (slicePart_ pu (wpAny_bind (wpAny_pure ?_)))))
  show wpAny _ _ (match Builtin.Slice.sliceAdjust lo hi 1 (n : Int) with | (lo, hi) => pure (lo, (1 : Int), Builtin.Slice.slicePlaces lo hi 1)) _ _ s
  rw [adjust_gen lo hi n]
  show wpAny _ _ (pure (((sIx n 0 lo : Nat) : Int), (1 : Int), Builtin.Slice.slicePlaces ((sIx n 0 lo : Nat) : Int) ((sIx n n hi : Nat) : Int) 1)) _ _ s
  rw [places_gen]
  exact wpAny_pure h
theorem pick_gen (xs : Array Value) (i k : Nat) : ((List.range k).filterMap fun (m : Nat) => xs[((i : Int) + (m : Int) * 1).toNat]?).toArray = ((xs.toList.drop i).take k).toArray := by
  have e : (fun (m : Nat) => xs[((i : Int) + (m : Int) * 1).toNat]?) = fun m => xs[i + m]? := by
    funext m
    have : ((i : Int) + (m : Int) * 1).toNat = i + m := by omega
    rw [this]
  rw [e]
  have := pick_run xs i k
  rw [List.filterMap_map] at this
  have e2 : ((fun x => xs[x]?) ∘ fun x => i + x) = fun m => xs[i + m]? := rfl
  rw [e2] at this
  rw [this]
theorem getItem_tuple_cut {t sl : Addr} {items : Array Value} {vl vu : Value} {lo hi : Option Int} {Q : Value → Shared → Prop} (ht : IsTup s.heap t items) (hs : s.heap.IsSliceOf sl vl vu .none) (pl : IsPart vl lo) (pu : IsPart vu hi)
    (hw : ¬ (sIx items.size 0 lo = 0 ∧ sIx items.size items.size hi = items.size))
    (h : Q (.ref s.heap.objs.size) { s with heap := s.heap.push { cls := .type "tuple", data := .seq ((items.toList.drop (sIx items.size 0 lo)).take (sIx items.size items.size hi - sIx items.size 0 lo)).toArray } })
    (hsz : items.size ≤ sizeLine) : wpAny (model prog w) A (getItem (.ref t) (.ref sl)) Q E s := by
  have htake : sizeOk (.seq ((items.toList.drop (sIx items.size 0 lo)).take (sIx items.size items.size hi - sIx items.size 0 lo)).toArray) := by
    show ((items.toList.drop (sIx items.size 0 lo)).take (sIx items.size items.size hi - sIx items.size 0 lo)).toArray.size ≤ sizeLine
    rw [List.size_toArray, List.length_take, List.length_drop, Array.length_toList]
    omega
  have hj : sIx items.size items.size hi ≤ items.size := sIx_le _ _ (Nat.le_refl _) hi
  obtain ⟨os, hos, hcs, hds⟩ := id hs
  have hTs : s.TypeIs (.ref sl) "slice" := ⟨os, hos, hcs⟩
  unfold getItem
  try with_reducible refine wpAny_holding ?_
  first | refine wpAny_bind (wpAny_pure ?_) | skip
  refine wpAny_bind (wpAny_sequenceKey ht.typeIs (by decide) ?_)
  refine wpAny_bind (wpAny_callSpecial?_slot (name := Str.ofString "__getitem__") ht.typeIs PyProof.Rows.slot_tuple_getitem
    (wpAny_call_entry PyProof.Rows.slot_tuple_getitem ht.typeIs entry_tuple_getitem ?_ (args_tuple_getitem _ _)))
  show wpAny _ _ (Builtin.Tuple.tupleItemsOf (.ref t) >>= _) _ _ s
  refine wpAny_bind (tupleItemsOf_ ht ?_)
  refine wpAny_bind (wpAny_typeOf hTs ?_)
  rw [if_pos (by decide)]
  refine wpAny_bind (sliceApplied_gen hs pl pu ?_)
  have hno : ¬ ((((sIx items.size 0 lo : Nat) : Int) == 0 && (1 : Int) == 1 && (sIx items.size items.size hi - sIx items.size 0 lo) == items.size) = true) := by
    intro q
    rw [Bool.and_eq_true, Bool.and_eq_true] at q
    have q1 : ((sIx items.size 0 lo : Nat) : Int) = 0 := eq_of_beq q.1.1
    have q2 : sIx items.size items.size hi - sIx items.size 0 lo = items.size := eq_of_beq q.2
    exact hw ⟨by omega, by omega⟩
  show wpAny _ _ (if (((sIx items.size 0 lo : Nat) : Int) == 0 && (1 : Int) == 1 && (sIx items.size items.size hi - sIx items.size 0 lo) == items.size) = true then _ else _) _ _ s
  rw [if_neg hno, pick_gen]
  first
    | exact wpAny_bind (m := Builtin.Tuple.tupleExact _) (wpAny_newObj_type (wpAny_pure ⟨_, rfl, wpAny_pure h⟩) htake)
    | exact wpAny_bind (m := Builtin.Tuple.tupleExact _) (wpAny_newObj_type (wpAny_bind (wpAny_pure (wpAny_pure ⟨_, rfl, wpAny_pure h⟩))) htake)
    | exact wpAny_bind (wpAny_bind (m := Builtin.Tuple.tupleExact _) (wpAny_newObj_type (wpAny_pure (wpAny_pure ⟨_, rfl, wpAny_pure h⟩)) htake))
    | exact wpAny_bind (wpAny_bind (m := Builtin.Tuple.tupleExact _) (wpAny_newObj_type (wpAny_pure ⟨_, rfl, wpAny_pure h⟩) htake))
end
end HT
namespace L2
open PySem PySem.Spec PyProof.Rows
abbrev TO := St → Hp → (Option Int → Hp → Prop) → Prop
def PO (X : Cx) (e : Option Expr) (t : TO) : Prop :=
  ∀ (pins : List (Addr × Obj)) (s : Shared) (σ : St) (H : Hp) (Q : Option Int → Hp → Prop), Inv X pins σ H s → t σ H Q →
    wpAny (model X.prog X.w) X.A (evalPart e X.env) (fun u s' => ∃ o H', Inv X pins σ H' s' ∧ IsPart u o ∧ Q o H') X.xe s
def tNoPart : TO := fun _ H Q => Q none H
def tPart (t : TE) : TO := fun σ H Q => t σ H fun x H1 => ∃ i, x = .int i ∧ Q (some i) H1
section
variable {X : Cx} {e : Expr} {te : TE} {lo hi : Option Expr} {tl th : TO} {pos p2 : Pos}
theorem po_none : PO X none tNoPart := by
  intro pins s σ H Q I h
  rw [evalPart_none]
  exact wpAny_pure ⟨none, H, I, .none, h⟩
theorem po_some (h : PE X e te) : PO X (some e) (tPart te) := by
  intro pins s σ H Q I hw
  rw [evalPart_some]
  refine thn (h pins s σ H _ I hw) fun u s1 ⟨x, H1, I1, r1, q1⟩ => ?_
  obtain ⟨i, rfl, q⟩ := q1
  obtain ⟨t, rfl⟩ := r1
  exact ⟨some i, H1, I1, .int i t, q⟩
def SlR (X : Cx) (r : V → Option Int → Option Int → Hp → VK → Prop) : Prop :=
  ∀ (pins : List (Addr × Obj)) (s : Shared) (σ : St) (H : Hp) (x : V) (v vl vu : Value) (lo hi : Option Int) (sl : Addr) (Q : VK), Inv X pins σ H s → RelV x v → s.heap.IsSliceOf sl vl vu .none → IsPart vl lo → IsPart vu hi → r x lo hi H Q →
    ∃ T id, typeLookup (.type T) "__getitem__" = pure (some (.builtin id)) ∧ s.TypeIs v T ∧ wpAny (model X.prog X.w) X.A (getItem v (.ref sl)) (EP X pins σ Q) X.xe s
def tSl (r : V → Option Int → Option Int → Hp → VK → Prop) (te : TE) (tl th : TO) : TE := fun σ H Q => te σ H fun x H1 => tl σ H1 fun l H2 => th σ H2 fun u H3 => r x l u H3 Q
theorem pe_slice {r : V → Option Int → Option Int → Hp → VK → Prop} (hr : SlR X r) (he : PE X e te) (hl : PO X lo tl) (hu : PO X hi th) : PE X (.Subscript e (.Slice lo hi none p2) pos) (tSl r te tl th) := by
  intro pins s σ H Q I h
  refine Subscript_ (thn (he pins s σ H _ I h) fun v s1 ⟨x, H1, I1, r1, q1⟩ => ?_)
  refine wpAny_Slice (thn (hl pins s1 σ H1 _ I1 q1) fun vl s2 ⟨l, H2, I2, pl, q2⟩ => thn (hu pins s2 σ H2 _ I2 q2) fun vu s3 ⟨u, H3, I3, pu, q3⟩ => ?_)
  rw [evalPart_none]
  refine wpAny_pure ?_
  have I4 : Inv X pins σ H3 { s3 with heap := s3.heap.push { cls := .type "slice", data := .fields #[vl, vu, .none] } } := I3.kept (t' := s3.toks) fun b ob q => Heap.get?_push_of_some _ q
  obtain ⟨T, id, hT, ht, hg⟩ := hr pins { s3 with heap := s3.heap.push { cls := .type "slice", data := .fields #[vl, vu, .none] } } σ H3 x v vl vu l u s3.heap.objs.size Q I4 r1 (Heap.IsSliceOf.new ..) pl pu q3
  show wpAny (model X.prog X.w) X.A (subscriptTail e (.Slice lo hi none p2) v (.ref s3.heap.objs.size)) (EP X pins σ Q) X.xe { s3 with heap := s3.heap.push { cls := .type "slice", data := .fields #[vl, vu, .none] } }
  exact tail_any (ops := [.ref s3.heap.objs.size, v]) ht hT hg (by with_unfolding_all rfl)
def cutV (xs : List V) (lo hi : Option Int) : List V := (xs.drop (HT.sIx xs.length 0 lo)).take (HT.sIx xs.length xs.length hi - HT.sIx xs.length 0 lo)
theorem cutV_length (xs : List V) (lo hi : Option Int) : (cutV xs lo hi).length ≤ xs.length := by
  unfold cutV
  rw [List.length_take, List.length_drop]
  omega
def rSlT (K : PySem.W.Frag) : V → Option Int → Option Int → Hp → VK → Prop := fun x lo hi H Q => ∃ a xs, x = .ref a ∧ SqT K H a xs ∧
  ¬ (HT.sIx xs.length 0 lo = 0 ∧ HT.sIx xs.length xs.length hi = xs.length) ∧ ∀ p, H p = none → Q (.ref p) (upd H p (.tup (cutV xs lo hi)))
theorem sl_tup : SlR X (rSlT X.K) := by
  intro pins s σ H x v vl vu lo hi sl Q I rx hs pl pu h
  obtain ⟨a, xs, rfl, hx, hw, q⟩ := h
  cases rx
  obtain ⟨its, r, ht, hz⟩ := I.tuple hx
  have hlen : its.toArray.size = xs.length := by rw [List.size_toArray]; exact r.length.symm
  refine ⟨"tuple", _, PyProof.Rows.slot_tuple_getitem.lookup, ht.typeIs, ?_⟩
  refine HT.getItem_tuple_cut ht hs pl pu (by rw [hlen]; exact hw) ?_ (by rw [hlen]; exact hz)
  rw [hlen]
  refine ⟨.ref s.heap.objs.size, _, I.laid (t' := s.toks) (o := .tup (cutV xs lo hi)) (fun b ob q => Heap.get?_push_of_some _ q) (Nat.le_refl _) ?_, rfl, q _ (I.hok.fresh (Nat.le_refl _))⟩
  exact ⟨Nat.le_trans (cutV_length xs lo hi) hz, _, (r.drop (HT.sIx xs.length 0 lo)).take (HT.sIx xs.length xs.length hi - HT.sIx xs.length 0 lo), IsTup.new _ _⟩
end
end L2
namespace L2
open PySem PySem.Spec PyProof.Rows
def ixN (n : Nat) (i : Int) : Option Nat := if 0 ≤ i then (if i < n then some i.toNat else none) else if -(n : Int) ≤ i then some (i + n).toNat else none
def atI {α : Type} (xs : List α) (i : Int) : Option α := (ixN xs.length i).bind fun j => xs[j]?
theorem ixN_seq {n : Nat} {i : Int} {j : Nat} (h : ixN n i = some j) : seqIndex? i n = some j ∧ j < n ∧ -(n : Int) ≤ i ∧ i < n := by
  unfold ixN at h
  by_cases h0 : 0 ≤ i
  · rw [if_pos h0] at h
    by_cases h1 : i < n
    · rw [if_pos h1] at h
      have e : i.toNat = j := Option.some.inj h
      exact ⟨by rw [seqIndex_of h0 h1, e], by omega, by omega, h1⟩
    · rw [if_neg h1] at h; cases h
  · rw [if_neg h0] at h
    by_cases h1 : -(n : Int) ≤ i
    · rw [if_pos h1] at h
      have e : (i + n).toNat = j := Option.some.inj h
      exact ⟨by rw [seqIndex_neg (by omega) h1, e], by omega, h1, by omega⟩
    · rw [if_neg h1] at h; cases h
theorem atI_get {α : Type} {xs : List α} {i : Int} {v : α} (h : atI xs i = some v) : ∃ j, seqIndex? i xs.length = some j ∧ xs[j]? = some v ∧ j < xs.length ∧ -(xs.length : Int) ≤ i ∧ i < xs.length := by
  unfold atI at h
  cases e : ixN xs.length i with
  | none => rw [e] at h; cases h
  | some j =>
    rw [e] at h
    obtain ⟨h1, h2, h3, h4⟩ := ixN_seq e
    exact ⟨j, h1, h, h2, h3, h4⟩
theorem atI_nat {α : Type} {xs : List α} {j : Nat} {v : α} (h : xs[j]? = some v) : atI xs (j : Int) = some v := by
  have hj : j < xs.length := (List.getElem?_eq_some_iff.mp h).1
  have e : ixN xs.length (j : Int) = some j := by
    unfold ixN
    rw [if_pos (by omega), if_pos (by omega)]; simp
  unfold atI; rw [e]; exact h
def PlainIx (b : Expr) : Prop := ∀ o i, subscripted b false o i = operate [o, i] (getItem o i)
def IxR (X : Cx) (r : R2) : Prop :=
  ∀ (value slice : Expr) (pins : List (Addr × Obj)) (s : Shared) (σ : St) (H : Hp) (x y : V) (v u : Value) (Q : VK), Inv X pins σ H s → RelV x v → RelV y u → r x y H Q →
    subscripted slice false v u = operate [v, u] (getItem v u) → wpAny (model X.prog X.w) X.A (subscriptTail value slice v u) (EP X pins σ Q) X.xe s
def MtR (X : Cx) (id : String) (r : V → List V → Hp → VK → Prop) : Prop :=
  ∀ (pins : List (Addr × Obj)) (s : Shared) (σ : St) (H : Hp) (x : V) (xs : List V) (v : Value) (us : List Value) (Q : VK), Inv X pins σ H s → RelV x v → Vals xs us → r x xs H Q →
    wpAny (model X.prog X.w) X.A (call (.builtin id) (v :: us)) (EP X pins σ Q) X.xe s
section
variable {X : Cx} {a b : Expr} {ta tb : TE} {pos : Pos}
theorem pe_ix {r : R2} (hr : IxR X r) (ha : PE X a ta) (hb : PE X b tb) (hs : PlainIx b) : PE X (.Subscript a b pos) (tOp r ta tb) := by
  intro pins s σ H Q I h
  exact Subscript_ (binT ha hb I h fun v u s2 x y H2 I2 rx ry q => hr a b pins s2 σ H2 x y v u Q I2 rx ry q (hs _ _))
def rIxL (K : PySem.W.Frag) : R2 := fun x y H Q => ∃ p xs i v, x = .ref p ∧ y = .int i ∧ SqL K H p xs ∧ atI xs i = some v ∧ Q v H
def rIxT (K : PySem.W.Frag) : R2 := fun x y H Q => ∃ p xs i v, x = .ref p ∧ y = .int i ∧ SqT K H p xs ∧ atI xs i = some v ∧ Q v H
theorem ix_list : IxR X (rIxL X.K) := by
  intro value slice pins s σ H x y v u Q I rx ry h hs
  obtain ⟨p, xs, i, z, rfl, rfl, hq, he, q⟩ := h
  cases rx
  obtain ⟨t, rfl⟩ := ry
  obtain ⟨its, r, pl, hz⟩ := I.list hq
  obtain ⟨j, h1, h2, h3, h4, h5⟩ := atI_get he
  obtain ⟨w, ew, rw'⟩ := r.get h2
  have hl := r.length
  have hn := line63
  have fin : EP X pins σ Q w s := ⟨z, H, I, rw', q⟩
  by_cases h0 : 0 ≤ i
  · have hj : i.toNat = j := by
      rw [seqIndex_of h0 h5] at h1
      exact Option.some.inj h1
    exact item_listR pl.isList h0 (by omega) (by rw [hj]; simpa using ew) fin hs
  · have hj : (i + (its.toArray.size : Int)).toNat = j := by
      rw [seqIndex_neg (by omega) h4] at h1
      rw [List.size_toArray, ← hl]
      exact Option.some.inj h1
    exact subscriptTail_builtinR (x := w) pl.isList.typeIs slot_list_getitem.lookup
      (wpAny_getItem_list_neg (Q := fun r s' => r = w ∧ EP X pins σ Q r s') pl.isList (by omega) (by rw [List.size_toArray] <;> omega) (by omega) (by rw [hj]; simpa using ew) ⟨rfl, fin⟩) hs
theorem ix_tup : IxR X (rIxT X.K) := by
  intro value slice pins s σ H x y v u Q I rx ry h hs
  obtain ⟨p, xs, i, z, rfl, rfl, hq, he, q⟩ := h
  cases rx
  obtain ⟨t, rfl⟩ := ry
  obtain ⟨its, r, pl, hz⟩ := I.tuple hq
  obtain ⟨j, h1, h2, h3, h4, h5⟩ := atI_get he
  obtain ⟨w, ew, rw'⟩ := r.get h2
  have hl := r.length
  have hn := line63
  have fin : EP X pins σ Q w s := ⟨z, H, I, rw', q⟩
  exact subscriptTail_builtinR (x := w) pl.typeIs slot_tuple_getitem.lookup
    (getItem_tuple (j := j) (Q := fun r s' => r = w ∧ EP X pins σ Q r s') pl (by omega) (by omega) (by rw [List.size_toArray, ← hl]; exact h1) (by simpa using ew) ⟨rfl, fin⟩) hs
theorem mapSeq_set (its : List Value) (n j : Nat) (u : Value) : Obj.mapSeq (·.setIfInBounds j u) { cls := .type "list", data := .seq its.toArray n } = { cls := .type "list", data := .seq (its.set j u).toArray n } := by
  simp [Obj.mapSeq]
theorem Inv.lst {pins : List (Addr × Obj)} {σ : St} {H : Hp} {s : Shared} {p : Addr} {xs : List V} (I : Inv X pins σ H s) (h : H p = some (.lst xs)) :
    ∃ (its : List Value) (n : Nat), Vals xs its ∧ s.heap.get? p = some { cls := .type "list", data := .seq its.toArray n } ∧ xs.length ≤ sizeLine := by
  obtain ⟨z, its, n, r, e⟩ := I.hok p _ h
  exact ⟨its, n, r, e, z⟩
theorem Inv.lstUpd {pins : List (Addr × Obj)} {σ : St} {H : Hp} {s : Shared} {p : Addr} {xs ys : List V} {its its' : List Value} {n n' : Nat} {f : Obj → Obj} (I : Inv X pins σ H s) (h : H p = some (.lst xs))
    (ho : s.heap.get? p = some { cls := .type "list", data := .seq its.toArray n }) (hf : f { cls := .type "list", data := .seq its.toArray n } = { cls := .type "list", data := .seq its'.toArray n' }) (r : Vals ys its') (hz : ys.length ≤ sizeLine) (t : Nat) :
    Inv X pins σ (upd H p (.lst ys)) { s with heap := s.heap.update p f, toks := t } := by
  have e : (s.heap.update p f).get? p = some { cls := .type "list", data := .seq its'.toArray n' } := by
    rw [Heap.get?_update_self f ho (by rw [hf] <;> rfl), hf]
  refine I.write (x := p) (e := p) (by rw [h]; trivial) (.inl rfl) (fun b u hb q => (Heap.get?_update_other _ _ (Ne.symm hb)).trans q) ⟨_, e⟩ ?_
  exact ⟨hz, its', n', r, e⟩
def rSetL : V → V → V → Hp → (Hp → Prop) → Prop := fun o i v H Q => ∃ p xs k j, o = .ref p ∧ i = .int k ∧ H p = some (.lst xs) ∧ ixN xs.length k = some j ∧ Q (upd H p (.lst (xs.set j v)))
theorem set_list : PSet X rSetL := by
  intro pins s σ H o i v ov iv u Q I ro ri rv h
  obtain ⟨p, xs, k, j, rfl, rfl, hp, hj, q⟩ := h
  cases ro
  obtain ⟨t, rfl⟩ := ri
  obtain ⟨its, n, r, ho, hz⟩ := I.lst hp
  obtain ⟨h1, h2, h3, h4⟩ := ixN_seq hj
  have hl := r.length
  have hn := line63
  have I' : Inv X pins σ (upd H p (.lst (xs.set j v))) { s with heap := s.heap.update p (Obj.mapSeq (·.setIfInBounds j u)) } :=
    I.lstUpd hp ho (mapSeq_set its n j u) (r.set rv j) (by rw [List.length_set]; exact hz) s.toks
  by_cases h0 : 0 ≤ k
  · have hk : k.toNat = j := by
      rw [seqIndex_of h0 h4] at h1
      exact Option.some.inj h1
    exact PySem.W.ki_setAt ho h0 (by omega) (by rw [List.size_toArray, ← hl]; exact h4) (by rw [hk]; exact ⟨_, I', q⟩)
  · have hk : (k + (its.toArray.size : Int)).toNat = j := by
      rw [seqIndex_neg (by omega) h3] at h1
      rw [List.size_toArray, ← hl]
      exact Option.some.inj h1
    exact PySem.W.ki_setBack ho (by omega) (by rw [List.size_toArray, ← hl]; exact h3) (by omega) (by rw [hk]; exact ⟨_, I', q⟩)
theorem slice_bounds (lo hi : Option Int) (n : Nat) : (sliceBounds lo hi none n).1 = ((HT.sIx n 0 lo : Nat) : Int) ∧ (sliceBounds lo hi none n).2.1 = ((HT.sIx n n hi : Nat) : Int) ∧ (sliceBounds lo hi none n).2.2 = 1 := by
  refine ⟨?_, ?_, rfl⟩
  · cases lo with
    | none => simp [sliceBounds, HT.sIx]
    | some i =>
      simp only [sliceBounds, HT.sIx, Option.getD_none, show (1 : Int) > 0 by decide, if_true]
      by_cases h : i < 0
      · simp only [h, if_true] <;> omega
      · simp only [h, if_false] <;> omega
  · cases hi with
    | none => simp [sliceBounds, HT.sIx]
    | some i =>
      simp only [sliceBounds, HT.sIx, Option.getD_none, show (1 : Int) > 0 by decide, if_true]
      by_cases h : i < 0
      · simp only [h, if_true] <;> omega
      · simp only [h, if_false] <;> omega
theorem slicePick_cut (its : List Value) (lo hi : Option Int) : slicePick its.toArray lo hi none = ((its.drop (HT.sIx its.length 0 lo)).take (HT.sIx its.length its.length hi - HT.sIx its.length 0 lo)).toArray := by
  obtain ⟨h1, h2, h3⟩ := slice_bounds lo hi its.toArray.size
  unfold slicePick
  rw [h1, h2, h3]
  simp only [sliceRange_one, pick_run, List.size_toArray] <;> rfl
def rSlL (K : PySem.W.Frag) : V → Option Int → Option Int → Hp → VK → Prop := fun x lo hi H Q => ∃ a xs, x = .ref a ∧ SqL K H a xs ∧ ∀ p, H p = none → Q (.ref p) (upd H p (.lst (cutV xs lo hi)))
theorem sl_list : SlR X (rSlL X.K) := by
  intro pins s σ H x v vl vu lo hi sl Q I rx hs pl pu h
  obtain ⟨a, xs, rfl, hx, q⟩ := h
  cases rx
  obtain ⟨its, r, ht, hz⟩ := I.list hx
  have hlen := r.length
  refine ⟨"list", _, slot_list_getitem.lookup, ht.isList.typeIs, ?_⟩
  refine wpAny_getItem_list_slice ht.isList hs pl pu .none (by simp) ?_ (by rw [List.size_toArray] <;> omega)
  rw [slicePick_cut, ← hlen]
  refine ⟨.ref s.heap.objs.size, _, I.laid (t' := s.toks) (o := .lst (cutV xs lo hi)) (fun b ob q => Heap.get?_push_of_some _ q) (Nat.le_refl _) ?_, rfl, q _ (I.hok.fresh (Nat.le_refl _))⟩
  exact ⟨Nat.le_trans (cutV_length xs lo hi) hz, _, 0, (r.drop (HT.sIx xs.length 0 lo)).take (HT.sIx xs.length xs.length hi - HT.sIx xs.length 0 lo), Heap.get?_push_size _ rfl⟩
def flatV : V → Bool
  | .non => true
  | .bl _ => true
  | .int _ => true
  | .str _ => true
  | _ => false
def eqV : V → V → Bool
  | .non, .non => true
  | .bl a, .bl b => a == b
  | .bl a, .int b => (if a then 1 else 0) == b
  | .int a, .bl b => a == (if b then 1 else 0)
  | .int a, .int b => a == b
  | .str a, .str b => a == b
  | _, _ => false
theorem eqAt_V {A : Around} {s : Shared} {y x : V} {u v : Value} (ry : RelV y u) (rx : RelV x v) (fy : flatV y = true) (fx : flatV x = true) : SeqAt.EqAt A s u v (eqV y x) := by
  cases y with
  | non =>
    cases ry
    cases x with
    | non => cases rx; exact SeqAt.EqAt.same _
    | bl b => cases rx; exact SeqAt.EqAt.none_bool b
    | int b => obtain ⟨t, rfl⟩ := rx; exact SeqAt.EqAt.none_int b t
    | str b => obtain ⟨t, rfl⟩ := rx; exact SeqAt.EqAt.none_str b t
    | _ => exact absurd (show false = true from fx) Bool.false_ne_true
  | bl a =>
    cases ry
    cases x with
    | non => cases rx; exact SeqAt.EqAt.bool_none a
    | bl b => cases rx; exact SeqAt.EqAt.bool_bool a b
    | int b => obtain ⟨t, rfl⟩ := rx; exact SeqAt.EqAt.bool_int a b t
    | str b => obtain ⟨t, rfl⟩ := rx; exact SeqAt.EqAt.bool_str a b t
    | _ => exact absurd (show false = true from fx) Bool.false_ne_true
  | int a =>
    obtain ⟨t', rfl⟩ := ry
    cases x with
    | non => cases rx; exact SeqAt.EqAt.int_none a t'
    | bl b => cases rx; exact SeqAt.EqAt.int_bool a t' b
    | int b => obtain ⟨t, rfl⟩ := rx; exact SeqAt.EqAt.int_int a t' b t
    | str b => obtain ⟨t, rfl⟩ := rx; exact SeqAt.EqAt.int_str a t' b t
    | _ => exact absurd (show false = true from fx) Bool.false_ne_true
  | str a =>
    obtain ⟨t', rfl⟩ := ry
    cases x with
    | non => cases rx; exact SeqAt.EqAt.str_none a t'
    | bl b => cases rx; exact SeqAt.EqAt.str_bool a t' b
    | int b => obtain ⟨t, rfl⟩ := rx; exact SeqAt.EqAt.str_int a t' b t
    | str b => obtain ⟨t, rfl⟩ := rx; exact SeqAt.EqAt.str_str a t' b t
    | _ => exact absurd (show false = true from fx) Bool.false_ne_true
  | _ => exact absurd (show false = true from fy) Bool.false_ne_true
def eqU (x : V) (u : Value) : Bool := match u with
  | .none => eqV .non x
  | .bool b => eqV (.bl b) x
  | .int i _ => eqV (.int i) x
  | .str z _ => eqV (.str z) x
  | _ => false
theorem eqU_of {x y : V} {u : Value} (r : RelV y u) (f : flatV y = true) : eqU x u = eqV y x := by
  cases y with
  | non => cases r; rfl
  | bl b => cases r; rfl
  | int i => obtain ⟨t, rfl⟩ := r; rfl
  | str z => obtain ⟨t, rfl⟩ := r; rfl
  | _ => exact absurd (show false = true from f) Bool.false_ne_true
theorem any_eqU {x : V} : ∀ {xs : List V} {us : List Value}, Vals xs us → xs.all flatV = true → us.any (eqU x) = xs.any fun y => eqV y x
  | _, _, .nil, _ => rfl
  | y :: xs, u :: us, .cons r t, f => by
    rw [List.all_cons, Bool.and_eq_true] at f
    rw [List.any_cons, List.any_cons, eqU_of r f.1, any_eqU t f.2]
theorem mem_eqAt {A : Around} {s : Shared} {x : V} {v : Value} (rx : RelV x v) (fx : flatV x = true) : ∀ {xs : List V} {us : List Value}, Vals xs us → xs.all flatV = true → ∀ u ∈ us, SeqAt.EqAt A s u v (eqU x u)
  | _, _, .nil, _ => fun u hu => by cases hu
  | y :: xs, u :: us, .cons r t, f => fun u' hu => by
    rw [List.all_cons, Bool.and_eq_true] at f
    rcases List.mem_cons.mp hu with rfl | hu
    · rw [eqU_of r f.1]; exact eqAt_V r rx f.1 fx
    · exact mem_eqAt rx fx t f.2 u' hu
def inV (x : V) (xs : List V) : Bool := xs.any fun y => eqV y x
def rIn (K : PySem.W.Frag) (neg : Bool) : R2 := fun x y H Q => ∃ p xs, y = .ref p ∧ (SqL K H p xs ∨ SqT K H p xs) ∧ flatV x = true ∧ xs.all flatV = true ∧ Q (.bl (if neg then !inV x xs else inV x xs)) H
theorem op_in_seq : OpR X (compareOp .In) (rIn X.K false) := by
  intro pins s σ H x y v u Q I rx ry h
  obtain ⟨p, xs, rfl, hq, fx, fs, q⟩ := h
  cases ry
  rcases hq with hq | hq
  · obtain ⟨its, r, pl, hz⟩ := I.list hq
    refine SeqAt.in_listAt (eqU x) pl.isList (fun w hw => mem_eqAt rx fx r fs w (by simpa using hw)) ⟨.bl _, H, I, rfl, ?_⟩
    rw [show its.toArray.any (eqU x) = its.any (eqU x) by simp, any_eqU r fs]
    exact q
  · obtain ⟨its, r, pl, hz⟩ := I.tuple hq
    refine SeqAt.in_tupleAt (eqU x) pl (fun w hw => mem_eqAt rx fx r fs w (by simpa using hw)) ⟨.bl _, H, I, rfl, ?_⟩
    rw [show its.toArray.any (eqU x) = its.any (eqU x) by simp, any_eqU r fs]
    exact q
theorem call_len_seq : CallR X (.builtin "len") (fun xs H Q => ∃ p ys, xs = [.ref p] ∧ (SqL X.K H p ys ∨ SqT X.K H p ys) ∧ Q (.int ys.length) H) := by
  intro pins s σ H xs us Q I r h
  obtain ⟨p, ys, rfl, hq, q⟩ := h
  obtain ⟨u, rfl, rx⟩ := vals1 r
  cases rx
  have hn := line63
  rcases hq with hq | hq
  · obtain ⟨its, r', pl, hz⟩ := I.list hq
    have hlen := r'.length
    exact Calls.call_len_list pl.isList (by simp only [List.size_toArray] <;> omega) ⟨.int ys.length, H, I.tok _, ⟨s.toks + 1, by rw [List.size_toArray, hlen]⟩, q⟩
  · obtain ⟨its, r', pl, hz⟩ := I.tuple hq
    have hlen := r'.length
    exact len_tuple pl (by simp only [List.size_toArray] <;> omega) ⟨.int ys.length, H, I.tok _, ⟨s.toks + 1, by rw [List.size_toArray, hlen]⟩, q⟩
def tyV (K : PySem.W.Frag) (T : String) (x : V) (H : Hp) : Prop := match x with
  | .str _ => T = "str"
  | .int _ => T = "int"
  | .ref p => (T = "list" ∧ ∃ xs, SqL K H p xs) ∨ (T = "tuple" ∧ ∃ o, K.lookup p = some o ∧ o.cls = .type "tuple" ∧ o.dict = none) ∨
      (T = "dict" ∧ ((∃ kvs, H p = some (.dK kvs)) ∨ ∃ kvs, H p = some (.dT kvs))) ∨ (T = "set" ∧ ∃ S n, H p = some (.set S n))
  | _ => False
theorem tyV_is {pins : List (Addr × Obj)} {σ : St} {H : Hp} {s : Shared} {T : String} {x : V} {v : Value} (I : Inv X pins σ H s) (r : RelV x v) (ty : tyV X.K T x H) :
    s.TypeIs v T ∧ ∀ a, v = .ref a → ∃ ob, s.heap.get? a = some ob ∧ ob.dict = none := by
  cases x with
  | str z =>
    obtain ⟨t, rfl⟩ := r
    cases (show T = "str" from ty)
    exact ⟨typeIs_str s z t, fun _ e => nomatch e⟩
  | int i =>
    obtain ⟨t, rfl⟩ := r
    cases (show T = "int" from ty)
    exact ⟨typeIs_int s i t, fun _ e => nomatch e⟩
  | ref p =>
    cases r
    rcases ty with ⟨rfl, xs, hq⟩ | ⟨rfl, o, hk, hc, hd⟩ | ⟨rfl, hk⟩ | ⟨rfl, S, n, hk⟩
    · obtain ⟨its, _, pl, _⟩ := I.list hq
      refine ⟨pl.isList.typeIs, fun a e => ?_⟩
      cases e
      obtain ⟨o, n, e, c, hd, _⟩ := pl
      exact ⟨o, e, hd⟩
    · refine ⟨⟨o, I.kIn p o hk, hc⟩, fun a e => ?_⟩
      cases e
      exact ⟨o, I.kIn _ o hk, hd⟩
    · have z : ∃ o, s.heap.get? p = some o ∧ o.ExactDict := by
        rcases hk with ⟨kvs, hk⟩ | ⟨kvs, hk⟩
        · obtain ⟨_, _, _, _, o, _, _, e, ex, _⟩ := I.hok p _ hk
          exact ⟨o, e, ex⟩
        · obtain ⟨_, _, _, _, o, _, _, e, ex, _⟩ := I.hok p _ hk
          exact ⟨o, e, ex⟩
      obtain ⟨o, e, ex⟩ := z
      refine ⟨⟨o, e, ex.1⟩, fun a e2 => ?_⟩
      cases e2
      exact ⟨o, e, ex.2.1⟩
    · obtain ⟨o, _, _, _, e, ex, _⟩ := I.hok p _ hk
      refine ⟨⟨o, e, ex.1⟩, fun a e2 => ?_⟩
      cases e2
      exact ⟨o, e, ex.2.1⟩
  | _ => exact False.elim ty
def tBM (K : PySem.W.Frag) (T : String) (r : V → List V → Hp → VK → Prop) (to : TE) (t : TA) : TE := fun σ H Q => to σ H fun x H1 => tyV K T x H1 ∧ t σ H1 fun xs H2 => r x xs H2 Q
variable {o e : Expr} {es : List Expr} {to : TE} {t : TA} {name : Str} {apos cpos : Pos} {T id : String} {r : V → List V → Hp → VK → Prop}
theorem pe_bm (pa : PlainAttrs T) (slot : Slot T name id) (hty : typeOf (.builtin id) = pure (.type "method_descriptor")) (hm : MtR X id r) (ho : PE X o to) (ha : PA X (e :: es) t)
    (hbase : attributeBase o name X.env (eval o X.env) = eval o X.env := by rfl)
    (hfew : ((backTo cpos (starEach (e :: es) X.env)).all (fun x => !x.1) && (backToKw cpos (keywordEach [] X.env)).all (fun x => x.1.isSome)
      && decide ((e :: es).length + ([] : List Keyword).length + (if ([] : List Keyword).isEmpty then 0 else 1) < 30)) = true := by rfl)
    (hline : (apos.endLine == cpos.line) = true := by rfl) (hs : starEach (e :: es) X.env = (false, eval e X.env) :: starEach es X.env := by rfl) (hplain : (backTo cpos (starEach es X.env)).any (·.1) = false := by rfl) :
    PE X (.Call (.Attribute o name apos) (e :: es) [] cpos) (tBM X.K T r to t) := by
  intro pins s σ H Q I h
  refine wpAny_Call_method_late hbase hfew hline rfl (thn (ho pins s σ H _ I h) fun v s1 ⟨x, H1, I1, r1, ty, q1⟩ => ?_)
  obtain ⟨h1, h2⟩ := tyV_is I1 r1 ty
  refine ⟨T, id, pa, slot, hty, h1, h2, ?_⟩
  have hA := ha cpos pins s1 σ H1 _ I1 q1
  rw [hs] at hA ⊢
  refine Calls.callWith_builtin (by show (false || (backTo cpos (starEach es X.env)).any (·.1)) = false; rw [hplain] <;> rfl) (Calls.evalArgs_plain ?_)
  exact thn hA fun us s2 ⟨vs, H2, I2, r2, q2⟩ => hm pins s2 σ H2 x vs v us Q I2 r1 r2 q2
end
end L2
namespace L2
open PySem PySem.Spec PyProof.Rows
def MtM (X : Cx) (id : String) (r : V → List V → Hp → VK → Prop) : Prop :=
  ∀ (pins : List (Addr × Obj)) (s : Shared) (σ : St) (H : Hp) (x : V) (xs : List V) (v : Value) (us : List Value) (Q : VK), Inv X pins σ H s → RelV x v → Vals xs us → r x xs H Q →
    wpAny (model X.prog X.w) X.A (call (.builtin id) (v :: us)) (EP X pins σ Q) X.xe s
theorem Vals.one : ∀ {x : V} {us : List Value}, Vals [x] us → ∃ u, us = [u] ∧ RelV x u
  | _, _, .cons r .nil => ⟨_, rfl, r⟩
theorem Vals.two : ∀ {x y : V} {us : List Value}, Vals [x, y] us → ∃ u v, us = [u, v] ∧ RelV x u ∧ RelV y v
  | _, _, _, .cons r (.cons q .nil) => ⟨_, _, rfl, r, q⟩
section
variable {X : Cx} {pins : List (Addr × Obj)} {σ : St} {H : Hp} {s : Shared} {l b : Addr} {xs ys zs : List V}
theorem Inv.lset {its its' : List Value} {n : Nat} {f : Array Value → Array Value} {t' : Nat} (I : Inv X pins σ H s) (hH : H l = some (.lst xs))
    (e : s.heap.get? l = some { cls := .type "list", data := .seq its.toArray n }) (hf : f its.toArray = its'.toArray) (hv : Vals ys its') (hz : ys.length ≤ sizeLine) :
    Inv X pins σ (upd H l (.lst ys)) { s with heap := s.heap.update l (Obj.mapSeq f), toks := t' } := by
  have q := PySem.IsL.update e f
  rw [hf] at q
  refine I.write (x := l) (e := l) (by rw [hH]; exact trivial) (.inl rfl) (fun b' u hb hu => (Heap.get?_update_other s.heap (Obj.mapSeq f) (Ne.symm hb)).trans hu) ⟨_, q⟩ ?_
  exact ⟨hz, its', _, hv, q⟩
theorem Inv.lnew {its : List Value} {t' : Nat} (I : Inv X pins σ H s) (hv : Vals ys its) (hz : ys.length ≤ sizeLine) :
    Inv X pins σ (upd H s.heap.objs.size (.lst ys)) { s with heap := s.heap.push { cls := .type "list", data := .seq its.toArray }, toks := t' } :=
  I.laid (fun _ _ q => Heap.get?_push_of_some _ q) (Nat.le_refl _) ⟨hz, its, 0, hv, Heap.get?_push_size _ rfl⟩
theorem Inv.fresh (I : Inv X pins σ H s) : H s.heap.objs.size = none := I.hok.fresh (Nat.le_refl _)
theorem Inv.lstM (I : Inv X pins σ H s) (hH : H l = some (.lst xs)) : xs.length ≤ sizeLine ∧ ∃ (its : List Value) (n : Nat), Vals xs its ∧ xs.length = its.length ∧ s.heap.get? l = some { cls := .type "list", data := .seq its.toArray n } := by
  obtain ⟨z, its, n, r, e⟩ := I.hok l _ hH
  exact ⟨z, its, n, r, r.length, e⟩
theorem notLongL {n : Nat} (h : n ≤ sizeLine) : Builtin.List.listTooLong n = false := by
  unfold Builtin.List.listTooLong
  exact decide_eq_false (by omega)
end
section
variable {X : Cx}
def rAppend : V → List V → Hp → VK → Prop := fun x vs H Q => ∃ l xs y, x = .ref l ∧ vs = [y] ∧ H l = some (.lst xs) ∧ xs.length < sizeLine ∧ Q .non (upd H l (.lst (xs ++ [y])))
theorem mt_append : MtM X "list.append" rAppend := by
  intro pins s σ H x vs v us Q I rx rv h
  obtain ⟨l, xs, y, rfl, rfl, hH, hz, q⟩ := h
  cases rx
  obtain ⟨u, rfl, ru⟩ := rv.one
  obtain ⟨z, its, n, r, hl, e⟩ := I.lstM hH
  refine call_meets F.slot_list_append ⟨_, e, rfl⟩ F.entry_list_append (F.args_list_append_2 _ _) (PySem.list_append l its.toArray n u (by rw [List.size_toArray]; omega)) ⟨e, ?_⟩
  refine ⟨.non, _, I.lset (its' := its ++ [u]) hH e (by simp) (r.append (.cons ru .nil)) ?_, rfl, q⟩
  rw [List.length_append, List.length_singleton]
  omega
def rExtend : V → List V → Hp → VK → Prop := fun x vs H Q => ∃ l b xs zs, x = .ref l ∧ vs = [.ref b] ∧ H l = some (.lst xs) ∧ H b = some (.lst zs) ∧ xs.length + zs.length ≤ sizeLine ∧ Q .non (upd H l (.lst (xs ++ zs)))
theorem mt_extend : MtM X "list.extend" rExtend := by
  intro pins s σ H x vs v us Q I rx rv h
  obtain ⟨l, b, xs, zs, rfl, rfl, hH, hB, hz, q⟩ := h
  cases rx
  obtain ⟨u, rfl, ru⟩ := rv.one
  cases ru
  obtain ⟨z, its, n, r, hl, e⟩ := I.lstM hH
  obtain ⟨z2, its2, n2, r2, hl2, e2⟩ := I.lstM hB
  have hsz : its.toArray.size + its2.toArray.size ≤ sizeLine := by rw [List.size_toArray, List.size_toArray]; omega
  have hlong : ¬ (!its.toArray.isEmpty && Builtin.List.listTooLong (its.toArray.size + its2.toArray.size)) = true := by
    rw [notLongL hsz, Bool.and_false]
    exact Bool.false_ne_true
  refine call_meets F.slot_list_extend ⟨_, e, rfl⟩ F.entry_list_extend (F.args_list_extend_2 _ _)
    (AutoSeq1.list_extend_list_list_0 l its.toArray n b its2.toArray n2 hlong (by rw [List.size_toArray]; omega) (by omega)) ⟨e, e2, ?_⟩
  refine ⟨.non, _, I.lset (its' := its ++ its2) hH e (by simp) (r.append r2) ?_, rfl, q⟩
  rw [List.length_append]
  omega
def rCat : R2 := fun x y H Q => ∃ l b xs zs, x = .ref l ∧ y = .ref b ∧ H l = some (.lst xs) ∧ H b = some (.lst zs) ∧ xs.length + zs.length ≤ sizeLine ∧ ∀ p, H p = none → Q (.ref p) (upd H p (.lst (xs ++ zs)))
theorem op_cat : OpR X (binaryOp .Add) rCat := by
  intro pins s σ H x y v u Q I rx ry h
  obtain ⟨l, b, xs, zs, rfl, rfl, hH, hB, hz, q⟩ := h
  cases rx
  cases ry
  obtain ⟨z, its, n, r, hl, e⟩ := I.lstM hH
  obtain ⟨z2, its2, n2, r2, hl2, e2⟩ := I.lstM hB
  refine PySem.P.add_list e e2 ?_ (by rw [List.size_toArray, List.size_toArray]; omega)
  have ea : its.toArray ++ its2.toArray = (its ++ its2).toArray := by simp
  rw [ea]
  exact ⟨.ref _, _, I.lnew (t' := s.toks) (r.append r2) (by rw [List.length_append]; omega), rfl, q _ I.fresh⟩
end
section
variable {prog : Program} {w : World} {A : Around} {E : Value → Shared → Prop} {s : Shared}
end
section
variable {X : Cx}
end
end L2
namespace L2
open PySem PySem.Spec PyProof.Rows
section
variable {κ : Type} [DecidableEq κ]
end
section
variable {P : Program} {w : World} {H : Hp} {h : Heap} {a : Addr}
end
section
variable {X : Cx} {pins : List (Addr × Obj)} {σ : St} {H : Hp} {s : Shared} {a : Addr} {y v : V} {u r : Value} {o : Option V} {A : Around} {E : Value → Shared → Prop}
end
section
variable {X : Cx} {pins : List (Addr × Obj)} {σ : St} {H : Hp} {s : Shared} {a : Addr} {kvs : List (Key × V)} {k : Key} {u : Value} {A : Around} {E : Value → Shared → Prop}
end
section
variable {X : Cx} {o i e value : Expr} {pos pos' tpos : Pos} {td ty tv : TE}
end
section
variable {X : Cx} {pos : Pos}
end
section
variable {X : Cx} {pins : List (Addr × Obj)} {σ : St} {H : Hp} {s : Shared} {a : Addr} {y d : V} {u r : Value} {o : Option V} {A : Around} {E : Value → Shared → Prop}
end
section
variable {X : Cx} {o e f : Expr} {apos cpos : Pos} {td ty tx : TE}
end
section
variable {X : Cx} {pins : List (Addr × Obj)} {σ : St} {H : Hp} {s : Shared} {a : Addr} {kvs : List (Key × V)} {A : Around} {E : Value → Shared → Prop}
end
section
variable {X : Cx} {pins : List (Addr × Obj)} {σ : St} {H : Hp} {s : Shared} {a : Addr} {y : V} {u : Value} {A : Around} {E : Value → Shared → Prop}
end
end L2
namespace Att
open PySem PySem.W PySem.Calls PyProof.Rows
theorem ints_of_wellAll {P : Params} {h : Heap} : ∀ (ns : List Int) (vs : List Value), WellAll P h vs (ns.map WData.int) → IntsAre vs ns := by
  intro ns
  induction ns with
  | nil =>
    intro vs w
    rw [List.map_nil] at w
    cases w
    exact .nil
  | cons n ns ih =>
    intro vs w
    rw [List.map_cons] at w
    cases w with
    | cons a b =>
      cases a
      exact .cons _ _ (ih _ b)
theorem script_of {l : OpenLaw} {n : Nat} (hn : l.most = some n) {P : Params} {h : Heap} {args : List WData} {vals : List Value}
    (hpre : l.row.toRowW.claim.pre args = true) (hwl : WellAll P h vals args) :
    ∃ a vs ns, vals = [Value.ref a] ∧ args = [WData.list (ns.map WData.int)] ∧ h.get? a = some { cls := .type "list", data := .seq vs.toArray } ∧ IntsAre vs ns ∧ ns.length ≤ n := by
  have hsh : WShape.hasAll [] args [.list .int] = true := (pre_splitW hpre).1
  have hc : l.pre.holds [] { args := args } = true := (pre_splitW hpre).2
  obtain ⟨d, r, rfl, h1, h2⟩ := hasAllW_cons hsh
  obtain rfl := hasAllW_nil h2
  obtain ⟨xs, rfl, h3⟩ := hasW_list h1
  obtain ⟨ns, rfl⟩ := items_int h3
  have hlen : ns.length ≤ n := by
    unfold OpenLaw.pre at hc
    have h4 : (WTm.not (.lt (.lit (.int (n : Int))) (.len (.arg 0)))).holds [] { args := [.list (ns.map .int)] } = true := by
      have h4 := (holds_andW hc).1
      rw [hn] at h4
      exact h4
    have h5 := condW_of h4 (w_not (w_lt w_lit (w_len_list (w_arg rfl))))
    rw [List.length_map] at h5
    refine Nat.le_of_not_lt fun q => ?_
    have q' : (n : Int) < ((ns.length : Nat) : Int) := by omega
    first
      | (rw [decide_eq_true q'] at h5; exact absurd h5 (by decide))
      | (simp at h5; omega)
  cases hwl with
  | cons w1 w2 =>
    cases w2
    cases w1 with
    | list ho hall => exact ⟨_, _, ns, rfl, rfl, ho, ints_of_wellAll ns _ hall, hlen⟩
theorem post_true (l : OpenLaw) (args : List WData) : l.row.toRowW.claim.post args (.bool true) args = true :=
  postW_of (r := l.row.toRowW) (X := (true == true))
    (show WShape.has [] (.bool true) .bool = true by first | rfl | decide | simp [WShape.has, WShape.arms, WShape.armsAll])
    (show (WTm.eq .res (.lit (.bool true))).value [] { args := args, res := some (.bool true), after := args } = some (.bool (true == true)) from w_eq_bool (w_res rfl) w_lit) rfl
theorem attach_call {l : OpenLaw} {n : Nat} {q : Program} {loose : List Str} {XP : (Str → Option Value) → Heap → Prop} {YP : World → Heap → Prop} {d : DefRec}
    (hn : l.most = some n) (hdf : d.params.defaults = [])
    (call : ∀ (w : World) (s₀ s₁ : Shared) (mg mb : Str → Option Value) (fa : Addr) (o : Obj) (pm cd doc : Value) (a : Addr) (vs : List Value) (ns : List Int),
      Ground q loose [] XP w s₀ mg mb s₁.heap → YP w s₁.heap →
      s₁.heap.get? fa = some o → o.data = .func (docDef d.name d.params d.body d.scope pm cd doc) → s₁.heap.CodeRec cd d.name → mg d.name = some (.ref fa) →
      s₁.heap.get? a = some { cls := .type "list", data := .seq vs.toArray } → IntsAre vs ns → ns.length ≤ n → s₁.gens = #[] →
      codeAny (model l.prog w) callerA (.call (.ref fa) ⟨[.ref a], []⟩) (fun r s' => r = .ok (.ret (.bool true)) ∧ OldK s₁.heap s'.heap ∧ s'.os = s₁.os ∧ AllBare s'.gens) s₁) :
    WalkO q loose XP YP l.row.toRowW d [] (fun f vs => PySem.call f vs) := by
  intro w s₀ s₁ mg mb G Y fa o pm cd doc dV kV ho hd hcd hD hmg hg args vals as hpre hlay hrd hwl hlo
  obtain rfl : dV = .none := Dflts.none hD hdf
  obtain rfl : kV = .none := Dflts.noKw hD
  obtain ⟨a, vs, ns, rfl, rfl, hobj, hints, hlen⟩ := script_of hn hpre hwl
  refine enter_call (codeAny_mono (call w s₀ s₁ mg mb fa o pm cd doc a vs ns G Y ho (fd_plain hd) hcd hmg hobj hints hlen hg) fun r s' hq => ?_)
  obtain ⟨rfl, h2, h3, h4⟩ := hq
  exact ⟨.inl ⟨.bool true, .bool true, [], rfl, fun _ => rfl, .bool true, post_true l _, fun _ => ⟨List.Pairwise.nil, fun _ hm => (nomatch hm)⟩⟩, h2, h3, h4⟩
section
variable {prog : Program} {w : World} {A : Around} {E : Value → Shared → Prop} {s : Shared} {K : Frag}
end
end Att
namespace L2
open PySem PySem.Spec PyProof.Rows
theorem vals_ints : ∀ {vs : List Value} {ns : List Int}, IntsAre vs ns → Vals (ns.map V.int) vs
  | _, _, .nil => .nil
  | _, _, .cons n t h => .cons ⟨t, rfl⟩ (vals_ints h)
def Only (H : Hp) : Prop := ∀ b, H b = none ∨ ∃ o xs, H b = some (.frz o (.lst xs))
theorem law_call {P : Program} {w : World} {K : PySem.W.Frag} {mg mb : Str → Option Value} {CX : CXT} {k : Nat} {fa a : Addr} {fd : FuncData} {x : Str} {sp : Sp} {s₁ : Shared} {vs : List Value} {ns : List Int}
    (KX : K.In s₁.heap) (hns : s₁.heap.Ns mainGlobals mg) (hb : s₁.heap.Ns builtinsNs mb) (hbb : ∀ x : Str, x ≠ "__name__" → mb x = bootBuiltins x) (hlim : s₁.heap.NoLimit) (hg : s₁.gens = #[])
    (ha : s₁.heap.get? a = some { cls := .type "list", data := .seq vs.toArray }) (hi : IntsAre vs ns) (hl : ns.length ≤ sizeLine) (hr : Room k callerA)
    (F : ∀ base : Heap, K.In base → base.Ns mainGlobals mg → FnOk P w K mg base CX k fa fd [x] sp) (hbind : ∀ (s : Shared) (u : Value), BindsTo s fd ⟨[u], []⟩ [(x, u)])
    (hsp : ∀ H : Hp, Only H → SqL K H a (ns.map V.int) → sp [.ref a] H (fun v _ => v = .bl true) fun _ _ _ => False)
    (hCX : ∀ H e s', CX [] H s₁ (fun _ _ _ => False) e s' → False) :
    codeAny (model P w) callerA (.call (.ref fa) ⟨[.ref a], []⟩) (fun r s' => r = .ok (.ret (.bool true)) ∧ OldK s₁.heap s'.heap ∧ s'.os = s₁.os ∧ AllBare s'.gens) s₁ := by
  have rv := vals_ints hi
  have lenV := hi.length
  -- from an abstract heap in which nothing but the script may be tracked
  have core : ∀ H : Hp, Only H → SqL K H a (ns.map V.int) → HOk P w H s₁.heap → (∀ b, H b ≠ none → b = a) → (H a ≠ none → K.lookup a = none) →
      codeAny (model P w) callerA (.call (.ref fa) ⟨[.ref a], []⟩) (fun r s' => r = .ok (.ret (.bool true)) ∧ OldK s₁.heap s'.heap ∧ s'.os = s₁.os ∧ AllBare s'.gens) s₁ := by
    intro H hO hS hok hA hK
    have base_of : ∀ {b : Addr} {o : Obj}, s₁.heap.get? b = some o → H b = none → (hidT s₁.heap H).get? b = some o := fun e n => hidT_get e n
    have noA : ∀ {b : Addr} {o : Obj} {es : Array DictEntry} {ep : Nat}, s₁.heap.get? b = some o → o.data = .dict es ep → H b = none := fun {b o es ep} e d => by
      cases q : H b with
      | none => rfl
      | some u =>
        have e' : b = a := hA b (by rw [q]; simp)
        subst e'
        rw [ha] at e; cases e
        have d' : Data.seq vs.toArray _ = Data.dict es ep := d
        cases d'
    have nsK : ∀ {b : Addr} {m : Str → Option Value}, s₁.heap.Ns b m → (hidT s₁.heap H).Ns b m := fun {b m} ⟨o, es, ep, e, d, r⟩ => ⟨o, es, ep, base_of e (noA e d), d, r⟩
    have hKb : K.In (hidT s₁.heap H) := fun b o e => base_of (KX b o e) (by
      cases q : H b with
      | none => rfl
      | some u =>
        have e' : b = a := hA b (by rw [q]; simp)
        subst e'
        rw [hK (by rw [q]; simp)] at e; cases e)
    have hM : Mod K mg (hidT s₁.heap H) := ⟨hKb, nsK hns, ⟨mb, nsK hb, hbb⟩, let ⟨mc, h1, h2⟩ := hlim; ⟨mc, nsK h1, h2⟩⟩
    have e0 : Env0 P w K mg (hidT s₁.heap H) callerA [] s₁ H := ⟨rfl, hM, fun b o e => of_hidT e, Nat.le_of_eq (hidT_size _ _), trivial, fun b hb => absurd (show b ∈ ([] : List Addr) from hb) (by simp), hok, .of_eq hg⟩
    refine codeAny_mono ((F _ hKb (nsK hns)).run callerA [] s₁ H ⟨[.ref a], []⟩ [.ref a] [.ref a] _ _ hr e0 (hbind s₁ (.ref a)) (.cons rfl .nil) (hsp H hO hS)) fun r s' h => ?_
    cases r with
    | error e => exact (hCX H e s' h).elim
    | ok fl =>
      cases fl with
      | next => exact False.elim h
      | brk => exact False.elim h
      | cont => exact False.elim h
      | ret u =>
        obtain ⟨v, H', os, bare, un, hok', r', q⟩ := h
        have q' : v = .bl true := q
        subst q'
        obtain rfl : u = Value.bool true := r'
        refine ⟨rfl, OldK.of_keep fun b o e => ?_, os, bare⟩
        cases q : H b with
        | none => exact un.keep b o e q (by intro z; exact absurd (show b ∈ ([] : List Addr) from z) (by simp)) (by simp)
        | some u =>
          rcases hO b with z | ⟨ob, xs, z⟩
          · rw [q] at z; cases z
          · have z2 := un.frzs b ob _ z
            obtain ⟨e1, _⟩ := hok b _ z
            obtain ⟨e2, _⟩ := hok' b _ z2
            rw [e] at e1; cases e1
            exact e2
  cases hk : K.lookup a with
  | some o =>
    -- the script is one of the module's own objects
    have e := KX a o hk
    rw [ha] at e
    cases e
    refine core (fun _ => none) (fun _ => .inl rfl) (.inr ⟨_, vs.toArray, _, hk, rfl, rfl, rfl, by rw [List.size_toArray, lenV]; exact hl, by simpa using rv⟩) (fun b u z => by have z' : (none : Option HO) = some u := z; cases z') (fun b z => absurd rfl z) fun z => absurd rfl z
  | none =>
    refine core (fun b => if b = a then some (.frz { cls := .type "list", data := .seq vs.toArray } (.lst (ns.map V.int))) else none) (fun b => ?_) (.inl (.inr ⟨{ cls := .type "list", data := .seq vs.toArray }, if_pos rfl⟩)) (fun b u z => ?_) (fun b z => ?_) fun _ => hk
    · by_cases hb : b = a
      · exact .inr ⟨_, _, if_pos hb⟩
      · exact .inl (if_neg hb)
    · by_cases hb : b = a
      · have z' := (if_pos hb).symm.trans z
        cases z'
        subst hb
        exact ⟨ha, by rw [List.length_map]; exact hl, vs, _, rv, ha⟩
      · have z' := (if_neg hb).symm.trans z
        cases z'
    · by_cases hb : b = a
      · exact hb
      · exact absurd (if_neg hb) z
end L2
namespace L2
open PySem PySem.Spec PyProof.Rows
abbrev KOf {K : PySem.W.Frag} {h : Heap} (_ : K.In h) : PySem.W.Frag := K
theorem walk_of {l : PySem.W.OpenLaw} {n k : Nat} {q : Program} {loose : List Str} {XP : (Str → Option Value) → Heap → Prop} {YP : World → Heap → Prop} {d : DefRec} {K : Params → PySem.W.Frag} {CX : World → CXT} {sp : World → Sp} {x : Str}
    (hn : l.most = some n) (hn2 : n ≤ sizeLine) (hdf : d.params.defaults = []) (hr : Room k callerA)
    (hY : ∀ (w : World) (h : Heap), YP w h → (K w.params).In h)
    (F : ∀ (w : World) (mg : Str → Option Value) (fa : Addr) (h : Heap), (K w.params).In h → h.Ns mainGlobals mg → mg d.name = some (.ref fa) →
      ∃ fd : FuncData, (∀ (s : Shared) (u : Value), BindsTo s fd ⟨[u], []⟩ [(x, u)]) ∧
        ∀ base : Heap, (K w.params).In base → base.Ns mainGlobals mg → FnOk l.prog w (K w.params) mg base (CX w) k fa fd [x] (sp w))
    (hsp : ∀ (w : World) (H : Hp) (a : Addr) (ns : List Int), ns.length ≤ n → Only H → SqL (K w.params) H a (ns.map V.int) → sp w [.ref a] H (fun v _ => v = .bl true) fun _ _ _ => False)
    (hCX : ∀ (w : World) (H : Hp) (s : Shared) (e : Value) (s' : Shared), CX w [] H s (fun _ _ _ => False) e s' → False) :
    PySem.W.WalkO q loose XP YP l.row.toRowW d [] (fun f vs => PySem.call f vs) := by
  refine Att.attach_call hn hdf fun w s₀ s₁ mg mb fa o pm cd doc a vs ns G Y ho hd hcd hmg hobj hints hlen hg => ?_
  have KX := hY w _ Y
  obtain ⟨fd, hb, hF⟩ := F w mg fa _ KX G.T.g hmg
  exact law_call KX G.T.g G.T.b G.T.builtins G.T.nolimit hg hobj hints (Nat.le_trans hlen hn2) hr hF hb (fun H hO hS => hsp w H a ns hlen hO hS) fun H e s' => hCX w H s₁ e s'
theorem walk_ofK {l : PySem.W.OpenLaw} {n k : Nat} {q : Program} {loose : List Str} {XP : (Str → Option Value) → Heap → Prop} {YP : World → Heap → Prop} {d : DefRec} {K : Params → PySem.W.Frag} {CX : CXT} {sp : PySem.W.Frag → Sp} {x : Str}
    (hn : l.most = some n) (hn2 : n ≤ sizeLine) (hdf : d.params.defaults = []) (hr : Room k callerA)
    (hY : ∀ (w : World) (h : Heap), YP w h → (K w.params).In h)
    (F : ∀ (w : World) (mg : Str → Option Value) (fa : Addr) (h : Heap), (K w.params).In h → h.Ns mainGlobals mg → mg d.name = some (.ref fa) →
      ∃ fd : FuncData, (∀ (s : Shared) (u : Value), BindsTo s fd ⟨[u], []⟩ [(x, u)]) ∧
        ∀ base : Heap, (K w.params).In base → base.Ns mainGlobals mg → FnOk l.prog w (K w.params) mg base CX k fa fd [x] (sp (K w.params)))
    (hsp : ∀ (K : PySem.W.Frag) (H : Hp) (a : Addr) (ns : List Int), ns.length ≤ n → Only H → SqL K H a (ns.map V.int) → sp K [.ref a] H (fun v _ => v = .bl true) fun _ _ _ => False)
    (hCX : ∀ (H : Hp) (s : Shared) (e : Value) (s' : Shared), CX [] H s (fun _ _ _ => False) e s' → False) :
    PySem.W.WalkO q loose XP YP l.row.toRowW d [] (fun f vs => PySem.call f vs) :=
  walk_of (K := K) (CX := fun _ => CX) (sp := fun w => sp (K w.params)) hn hn2 hdf hr hY F (fun w H a ns h1 h2 h3 => hsp (K w.params) H a ns h1 h2 h3) fun _ H s e s' => hCX H s e s'
end L2
namespace L2
open PySem PySem.Spec PyProof.Rows
def inClass (s : Stmt) (j : Nat) : Stmt := match s with
  | .ClassDef _ _ _ body _ _ _ _ _ _ _ => body.getD j (.Pass ⟨0, 0, 0, 0⟩)
  | _ => .Pass ⟨0, 0, 0, 0⟩
def defArgs (s : Stmt) : Arguments := match s with
  | .FunctionDef _ a _ _ _ _ _ _ _ _ => a
  | _ => { posonlyargs := [], args := [], vararg := none, kwonlyargs := [], kw_defaults := [], kwarg := none, defaults := [] }
def defBody (s : Stmt) : List Stmt := match s with
  | .FunctionDef _ _ b _ _ _ _ _ _ _ => b
  | _ => []
def defScope (s : Stmt) : Scope := match s with
  | .FunctionDef _ _ _ _ _ _ sc _ _ _ => sc
  | _ => { kind := .function, names := [], isGenerator := false, isCoroutine := false }
abbrev CX0 : CXT := fun _ _ _ _ _ _ => False
abbrev E0 : XK := fun _ _ _ => False
theorem pass0 {X : Cx} : Passes CX0 X E0 := fun _ _ _ _ _ _ _ h => h.elim
structure Fun (K : PySem.W.Frag) (x qual : Str) (st : Stmt) (f : Addr) (fd : FuncData) : Prop where
  ex : ∃ (oc : Value) (od : Option Addr) (kV doc pm : Value) (an : Option Addr) (cdv ct : Value) (osl : Array (Option Value)),
    fd = PySem.W.fnOf x qual (defArgs st) (defBody st) (defScope st) .none kV doc pm an cdv ct ∧ K.lookup f = some ⟨oc, od, .func fd, osl⟩ ∧ PySem.W.codeIn K cdv qual = true
  kp : PySem.W.keepIn K (.ref f) = true
section
variable {P : Program} {w : World} {K : PySem.W.Frag} {mg : Str → Option Value} {base : Heap}
theorem Fun.ok {x qual : Str} {st : Stmt} {f : Addr} {fd : FuncData} {N ps : List Str} {k : Nat} {sp : Sp} (F : Fun K x qual st f fd) (S : FnScope N ps (defScope st)) (len : ∀ vs H Q E, sp vs H Q E → vs.length = ps.length)
    (hbody : ∀ (cdv : Value) (A : Around) (outer : List Env) (s : Shared) (H : Hp) (vs : List V) (Q : VK) (E : XK), Room k (A.deeper (envOfC qual (defScope st) s.heap.objs.size f cdv)) → sp vs H Q E →
      ∃ t, PSs (cxOf CX0 P w K mg base N qual (defScope st) f cdv A outer s H E).nox (defBody st) t ∧ t { nx := fun _ H' => Q .non H', rt := Q } (start N vs) H) : FnOk P w K mg base CX0 (k + 1) f fd ps sp := by
  obtain ⟨oc, od, kV, doc, pm, an, cdv, ct, osl, rfl, lk, hcd⟩ := F.ex
  refine fn_of lk hcd S len fun A outer s H vs Q E hr hsp => ?_
  obtain ⟨t, h, q⟩ := hbody cdv A outer s H vs Q E hr hsp
  exact ⟨t, h.nox, q⟩
theorem Fun.binds {x qual : Str} {st : Stmt} {f : Addr} {fd : FuncData} {ps : List Str} (F : Fun K x qual st f fd)
    (h : ∀ (kV doc pm : Value) (an : Option Addr) (cdv ct : Value) (us : List Value), us.length = ps.length → bindArgs (PySem.W.fnOf x qual (defArgs st) (defBody st) (defScope st) .none kV doc pm an cdv ct) ⟨us, []⟩ = pure (ps.zip us)) : Binds K fd ps [] := by
  obtain ⟨oc, od, kV, doc, pm, an, cdv, ct, osl, rfl, lk, hcd⟩ := F.ex
  exact .all (h kV doc pm an cdv ct)
theorem fun_mk {x qual : Str} {st : Stmt} {f : Addr} {oc : Value} {od an : Option Addr} {osl : Array (Option Value)} {kV doc pm cdv ct : Value} (l : K.lookup f = some ⟨oc, od, .func (PySem.W.fnOf x qual (defArgs st) (defBody st) (defScope st) .none kV doc pm an cdv ct), osl⟩)
    (c : PySem.W.codeIn K cdv qual = true) (k : PySem.W.keepIn K (.ref f) = true) : Fun K x qual st f (PySem.W.fnOf x qual (defArgs st) (defBody st) (defScope st) .none kV doc pm an cdv ct) := ⟨⟨oc, od, kV, doc, pm, an, cdv, ct, osl, rfl, l, c⟩, k⟩
end
theorem small1000 {n : Nat} (h : n ≤ 1000) : n < sizeLine := Nat.lt_of_le_of_lt h (by decide)
section
variable {X : Cx}
theorem pv (i : Nat) {x : Str} {pos : Pos} (hN : X.N[i]? = some x := by rfl) (hv : Vis X.env.scope x := by first | exact Or.inl rfl | exact Or.inr (Or.inl rfl) | exact Or.inr (Or.inr rfl)) (hd : (x == ("__debug__" : Str)) = false := by decide)
    (hcd : (x == ("__classdict__" : Str)) = false := by decide) : PE X (.Name x pos) (tVar i) := pe_var hN hv hd hcd
end
theorem iteF {A B : Prop} (h : B) : if false = true then A else B := by
  rw [if_neg Bool.false_ne_true]
  exact h
theorem iteT {A B : Prop} (h : A) : if true = true then A else B := by
  rw [if_pos rfl]
  exact h
theorem ite2 {c A B : Prop} [Decidable c] (h1 : c → A) (h2 : ¬ c → B) : if c then A else B := by
  by_cases h : c
  · rw [if_pos h]
    exact h1 h
  · rw [if_neg h]
    exact h2 h
def Same (H H' : Hp) : Prop := ∀ b o, H b = some o → H' b = some o
theorem Same.refl (H : Hp) : Same H H := fun _ _ h => h
theorem Same.trans {H H1 H2 : Hp} (a : Same H H1) (b : Same H1 H2) : Same H H2 := fun c o h => b c o (a c o h)
section
variable {κ : Type} [DecidableEq κ]
end
end L2

/-! BExt1 -/
set_option Elab.async false
set_option linter.all false
set_option maxRecDepth 100000
set_option maxHeartbeats 4000000
namespace L2
open PySem PySem.Spec PyProof.Rows
def tSeqM (t u : TS) : TS := fun D σ H => ∃ M : St → Hp → Prop, t { D with nx := M } σ H ∧ ∀ σ' H', M σ' H' → u D σ' H'
theorem pss_cut {X : Cx} {st : Stmt} {rest : List Stmt} {t u : TS} (h1 : PS X st t) (h2 : PSs X rest u) : PSs X (st :: rest) (tSeqM t u) := by
  intro pins s σ H D I h
  obtain ⟨M, h, hM⟩ := h
  refine wpAny_execs_cons (thn (h1 pins s σ H { D with nx := M } I h) fun f s1 q => ?_)
  cases f with
  | next =>
    obtain ⟨σ', H', I', q⟩ := q
    exact h2 pins s1 σ' H' D I' (hM σ' H' q)
  | brk => exact q
  | cont => exact q
  | ret u => exact q
theorem iteB {c : Bool} {A B : Prop} (hc : c = true) (h : A) : if c = true then A else B := by rw [if_pos hc]; exact h
theorem iteN {c : Bool} {A B : Prop} (hc : c = false) (h : B) : if c = true then A else B := by rw [hc]; exact iteF h
def PTs (X : Cx) (ifs : List Expr) (t : TT) : Prop :=
  ∀ (pins : List (Addr × Obj)) (s : Shared) (σ : St) (H : Hp) (Q : Bool → Hp → Prop), Inv X pins σ H s → t σ H Q →
    wpAny (model X.prog X.w) X.A (forIn ifs true fun c r => if r = true then do let ok ← isTrue c X.env (eval c X.env); pure (ForInStep.yield ok) else pure (ForInStep.yield r)) (TP X pins σ Q) X.xe s
def tYes : TT := fun _ H Q => Q true H
theorem pts_nil {X : Cx} : PTs X [] tYes := fun _ _ _ H _ I h => wpAny_tests_nil ⟨H, I, h⟩
theorem pts_one {X : Cx} {c : Expr} {t : TT} (h : PT X c t) : PTs X [c] t := fun pins s σ H Q I hw => wpAny_tests_one (h pins s σ H Q I hw)
section
variable {prog : Program} {w : World} {A : Around} {R : Result → Shared → Prop} {s : Shared}
abbrev NoE : Value → Shared → Prop := fun _ _ => False
theorem ofNoE {α : Type} {m : Sem α} {Q : α → Shared → Prop} {E : Value → Shared → Prop} {s : Shared} (h : wpAny (model prog w) A m Q NoE s) : wpAny (model prog w) A m Q E s :=
  wpAny_mono h (fun _ _ q => q) fun _ _ z => z.elim
def afterItem (prog : Program) (w : World) (A : Around) (env : Env) (tg : Expr) (ifs : List Expr) (elt : Expr) (it acc : Value) (again : Shared → Prop) (v : Value) (s1 : Shared) : Prop :=
  wpAny (model prog w) A (letOwnedTupleGo tg it v) (fun _ s2 => wpAny (model prog w) A (assign tg env v) (fun _ s3 =>
    wpAny (model prog w) A (forIn ifs true fun c r => if r = true then do let ok ← isTrue c env (eval c env); pure (ForInStep.yield ok) else pure (ForInStep.yield r)) (fun ok s4 =>
      if ok = true then wpAny (model prog w) A (eval elt env) (fun x s5 => wpAny (model prog w) A (call (.builtin "list.append") [acc, x]) (fun _ s6 => again s6) NoE s5) NoE s4
      else again s4) NoE s3) NoE s2) NoE s1
theorem block_loop {elt tg iter : Expr} {ifs : List Expr} {scope : Scope} {pos : Pos} {it acc : Value} {env : Env} (J : Nat → Shared → Prop)
    (turn : ∀ n s, J n s → wpAny (model prog w) A (pyNext it) (fun r s1 => match r with
      | none => R (.ok .next) s1
      | some v => afterItem prog w A env tg ifs elt it acc (fun s6 => ∃ m, m < n ∧ J m s6) v s1) NoE s)
    (n : Nat) (h : J n s) : codeAny (model prog w) A (.compLoop (.ListComp elt [⟨tg, iter, ifs, 0⟩] scope pos) 0 it acc env) R s := by
  refine codeAny_loop rfl J (fun n s hJ => ?_) n h
  show wpAny _ A ((compTurn (.ListComp elt [⟨tg, iter, ifs, 0⟩] scope pos) 0 it acc env).onRaise (fun x => do noteFrame x env; theTreesLotGoes x)) _ _ s
  refine wpAny_noted (ofNoE ?_)
  rw [compTurn_list]
  refine wpAny_bind (wpAny_standAt (wpAny_bind (thn (turn n s hJ) fun r s1 h1 => ?_)))
  cases r with
  | none => exact wpAny_pure h1
  | some v =>
    refine wpAny_bind (thn h1 fun _ s2 h2 => wpAny_bind (thn h2 fun _ s3 h3 => wpAny_bind (thn h3 fun ok s4 h4 => ?_)))
    cases ok with
    | false => exact wpAny_pure ⟨rfl, h4⟩
    | true => exact wpAny_bind (wpAny_bind (thn h4 fun x s5 h5 => wpAny_bind (thn h5 fun _ s6 h6 => wpAny_pure (wpAny_pure ⟨rfl, h6⟩))))
end
theorem clos_go {env : Env} : ∀ (names : List (Str × NameKind)) (acc : List (Str × Addr)), (∀ y ∈ names, y.2 = .free → ∃ c, env.cells.lookup y.1 = some c) → (∀ x c, acc.lookup x = some c → env.cells.lookup x = some c) →
    ∃ cl, (forIn names acc (fun (y : Str × NameKind) (cs : List (Str × Addr)) => (if (y.2 == NameKind.free) = true then (do let c ← cellOf env y.1; pure (ForInStep.yield ((y.1, c) :: cs))) else pure (ForInStep.yield cs) : Sem (ForInStep (List (Str × Addr)))))) = (pure cl : Sem (List (Str × Addr))) ∧
      (∀ x c, cl.lookup x = some c → env.cells.lookup x = some c) ∧ (∀ x, (acc.lookup x).isSome = true → (cl.lookup x).isSome = true) ∧ (∀ y ∈ names, y.2 = .free → (cl.lookup y.1).isSome = true)
  | [], acc, _, h2 => ⟨acc, rfl, h2, fun _ h => h, fun y hy => by cases hy⟩
  | (n, k) :: r, acc, h1, h2 => by
    have h1' : ∀ y ∈ r, y.2 = .free → ∃ c, env.cells.lookup y.1 = some c := fun y hy => h1 y (List.mem_cons_of_mem _ hy)
    by_cases hk : k = .free
    · subst hk
      obtain ⟨c, hc⟩ := h1 (n, .free) List.mem_cons_self rfl
      have h2' : ∀ x c', (((n, c) :: acc : List (Str × Addr)).lookup x) = some c' → env.cells.lookup x = some c' := fun x c' e => by
        rw [List.lookup_cons] at e
        by_cases hx : (x == n) = true
        · rw [hx] at e
          cases e
          rw [beq_iff_eq.mp hx]
          exact hc
        · rw [Bool.not_eq_true] at hx
          rw [hx] at e
          exact h2 x c' e
      obtain ⟨cl, e, p1, p2, p3⟩ := clos_go r ((n, c) :: acc) h1' h2'
      refine ⟨cl, ?_, p1, fun x hx => p2 x ?_, fun y hy hf => ?_⟩
      · rw [List.forIn_cons]
        have q : cellOf env n = pure c := by unfold cellOf; rw [hc]
        simp only [beq_self_eq_true, if_true, q, pure_bind]
        exact e
      · rw [List.lookup_cons]
        cases q : x == n with
        | true => rfl
        | false => exact hx
      · rcases List.mem_cons.mp hy with rfl | hy
        · exact p2 n (by rw [List.lookup_cons, beq_self_eq_true]; rfl)
        · exact p3 y hy hf
    · obtain ⟨cl, e, p1, p2, p3⟩ := clos_go r acc h1' h2
      have hb : (k == NameKind.free) = false := by simpa using hk
      refine ⟨cl, ?_, p1, p2, fun y hy hf => ?_⟩
      · rw [List.forIn_cons]
        simp only [hb, Bool.false_eq_true, if_false, pure_bind]
        exact e
      · rcases List.mem_cons.mp hy with rfl | hy
        · exact absurd hf hk
        · exact p3 y hy hf
structure Clos (env : Env) (scope : Scope) (cl : List (Str × Addr)) : Prop where
  eq : closureFor scope env = pure cl
  sub : ∀ x c, cl.lookup x = some c → env.cells.lookup x = some c
  all : ∀ y ∈ scope.names, y.2 = .free → (cl.lookup y.1).isSome = true
theorem clos_of {env : Env} {scope : Scope} (h : ∀ y ∈ scope.names, y.2 = .free → ∃ c, env.cells.lookup y.1 = some c) : ∃ cl, Clos env scope cl := by
  obtain ⟨cl, e, p1, p2, p3⟩ := clos_go (env := env) scope.names [] h (fun x c z => by simp at z)
  refine ⟨cl, ⟨?_, p1, p3⟩⟩
  have q : closureFor scope env = (forIn scope.names [] (fun (y : Str × NameKind) (cs : List (Str × Addr)) => (if (y.2 == NameKind.free) = true then (do let c ← cellOf env y.1; pure (ForInStep.yield ((y.1, c) :: cs))) else pure (ForInStep.yield cs) : Sem (ForInStep (List (Str × Addr))))) >>= fun s => pure s) := rfl
  rw [q, e, pure_bind]
abbrev cxComp (X : Cx) (scope : Scope) (N' : List Str) (cl : List (Str × Addr)) (C : Addr) (s₀ : Shared) (H₀ : Hp) (fp : List Addr) : Cx :=
  { X with N := N', s₀ := s₀, H₀ := H₀, env := compEnvC scope cl C X.env, outer := X.stack, ex := fp, fn := fun _ => false, pn := [], xe := NoE }
structure Blk where
  cl : List (Str × Addr)
  C : Addr
  s₀ : Shared
  H₀ : Hp
  fp : List Addr
abbrev cxB (X : Cx) (scope : Scope) (N' : List Str) (b : Blk) : Cx := cxComp X scope N' b.cl b.C b.s₀ b.H₀ b.fp
def isCF : Option NameKind → Bool
  | some .cell => true
  | some .free => true
  | _ => false
theorem isCF_iff {k : Option NameKind} (h : isCF k = true) : k = some .cell ∨ k = some .free := by
  cases k with
  | none => cases h
  | some k => cases k <;> first | exact .inl rfl | exact .inr rfl | cases h
def capOk (N : List Str) (kd kd' : Str → Option NameKind) (N' : List Str) (t : Nat) : List Nat → Nat → Bool
  | [], k => N'.length == t + k
  | j :: r, k => (match N[j]?, N'[t + k]? with
    | some x, some y => (x == y) && isCF (kd x) && isCF (kd' x)
    | _, _ => false) && capOk N kd kd' N' t r (k + 1)
theorem capOk_len {N : List Str} {kd kd' : Str → Option NameKind} {N' : List Str} {t : Nat} : ∀ {caps : List Nat} {k : Nat}, capOk N kd kd' N' t caps k = true → N'.length = t + k + caps.length
  | [], k, h => by
    have := beq_iff_eq.mp h
    simpa using this
  | j :: r, k, h => by
    have := capOk_len (Bool.and_eq_true_iff.mp h).2
    rw [List.length_cons]
    omega
theorem capOk_at {N : List Str} {kd kd' : Str → Option NameKind} {N' : List Str} {t : Nat} : ∀ {caps : List Nat} {k i j : Nat}, capOk N kd kd' N' t caps k = true → caps[i]? = some j →
    ∃ x, N[j]? = some x ∧ N'[t + k + i]? = some x ∧ isCF (kd x) = true ∧ isCF (kd' x) = true
  | [], _, _, _, _, e => by simp at e
  | j :: r, k, 0, j', h, e => by
    simp at e
    subst e
    have h1 := (Bool.and_eq_true_iff.mp h).1
    cases q : N[j]? with
    | none => rw [q] at h1; cases h1
    | some x =>
      cases q' : N'[t + k]? with
      | none => rw [q, q'] at h1; cases h1
      | some y =>
        rw [q, q'] at h1
        obtain ⟨h2, h3⟩ := Bool.and_eq_true_iff.mp h1
        obtain ⟨h4, h5⟩ := Bool.and_eq_true_iff.mp h2
        obtain rfl : x = y := beq_iff_eq.mp h4
        exact ⟨x, rfl, rfl, h5, h3⟩
  | j :: r, k, i + 1, j', h, e => by
    obtain ⟨x, a, b, c, d⟩ := capOk_at (i := i) (Bool.and_eq_true_iff.mp h).2 (by simpa using e)
    refine ⟨x, a, ?_, c, d⟩
    have q : t + (k + 1) + i = t + k + (i + 1) := by omega
    rw [← q]
    exact b
structure CompOk (X : Cx) (scope : Scope) (N' : List Str) (t : Nat) (caps : List Nat) : Prop where
  kind : scope.kind = .function
  shape : (scope.names.all fun y => (y.2 == .local && scope.names.lookup y.1 == some .local) || (y.2 == .free && isCF (X.env.kindOf y.1)) || (y.2 == .globalImplicit)) = true
  cap : capOk X.N X.env.kindOf (compEnvC scope [] 0 X.env).kindOf N' t caps 0 = true
theorem CompOk.at {X : Cx} {scope : Scope} {N' : List Str} {t : Nat} {caps : List Nat} (S : CompOk X scope N' t caps) {y : Str × NameKind} (hy : y ∈ scope.names) :
    y.2 ≠ .cell ∧ (y.2 = .local → scope.names.lookup y.1 = some .local) ∧ (y.2 = .free → isCF (X.env.kindOf y.1) = true) := by
  have h := List.all_eq_true.mp S.shape y hy
  obtain ⟨n, k⟩ := y
  cases k <;> simp at h <;> simp [h]
def capS (t : Nat) (caps : List Nat) (σ : St) : St := List.replicate t none ++ caps.map fun j => (σ[j]?).join
theorem relabel_cf {scope : Scope} {env : Env} {x : Str} : ∀ {names : List (Str × NameKind)}, (∀ y ∈ names, y.2 ≠ .cell) → isCF ((names.map fun (y : Str × NameKind) => if (y.2 == NameKind.free && env.scope.kind == .function && env.kindOf y.1 == some .cell) = true then (y.1, NameKind.cell) else (y.1, y.2)).lookup x) = true →
    (x, NameKind.free) ∈ names
  | [], _, h => by simp [isCF] at h
  | (n, k) :: r, hn, h => by
    have hr : ∀ y ∈ r, y.2 ≠ .cell := fun y hy => hn y (List.mem_cons_of_mem _ hy)
    have hk : k ≠ .cell := hn (n, k) List.mem_cons_self
    rw [List.map_cons] at h
    by_cases hx : (x == n) = true
    · obtain rfl : x = n := beq_iff_eq.mp hx
      have q : k = .free := by
        by_cases hf : k = .free
        · exact hf
        · exfalso
          have hb : (k == NameKind.free) = false := by simpa using hf
          simp only [hb, Bool.false_and, Bool.false_eq_true, if_false, List.lookup_cons, beq_self_eq_true] at h
          cases k <;> simp [isCF] at h hk hf
      subst q
      exact List.mem_cons_self
    · rw [Bool.not_eq_true] at hx
      refine List.mem_cons_of_mem _ (relabel_cf (scope := scope) (env := env) hr ?_)
      by_cases hc : (k == NameKind.free && env.scope.kind == .function && env.kindOf n == some .cell) = true
      · simp only [hc, if_true, List.lookup_cons, hx] at h
        exact h
      · rw [Bool.not_eq_true] at hc
        simp only [hc, Bool.false_eq_true, if_false, List.lookup_cons, hx] at h
        exact h
def CompR (J : It) (g : TG) (tc : TT) (te : TE) (Q : VK) (D : Addr) (τ0 : St) (H0 : Hp) : Prop :=
  ∃ W : Nat → Nat → List V → St → Hp → Prop, (∃ m, W 0 m [] τ0 H0) ∧ ∀ i m ys τ H, W i m ys τ H →
    (J.stop i H ∧ Q (.ref D) H) ∨ (J.go i H ∧ ∃ N : List V → St → Hp → Prop, (∀ zs τ' H', N zs τ' H' → ∃ m', m' < m ∧ W (i + 1) m' zs τ' H') ∧ ∀ x H3, J.yld i H x H3 → g x τ H3 fun τ2 H4 => tc τ2 H4 fun b H5 =>
      if b = true then te τ2 H5 fun y H6 => H6 D = some (.lst ys) ∧ ys.length < sizeLine ∧ N (ys ++ [y]) τ2 (upd H6 D (.lst (ys ++ [y]))) else N ys τ2 H5)
def tComp (wi : TI) (g : Blk → TG) (tc : Blk → TT) (te : Blk → TE) (t : Nat) (caps : List Nat) : TE := fun σ H Q =>
  wi σ H fun J H1 => ∀ D, H1 D = none → ∀ b : Blk, CompR J (g b) (tc b) (te b) Q D (capS t caps σ) (upd H1 D (.lst []))
theorem comp_by {J : It} {g : TG} {tc : TT} {te : TE} {Q : VK} {D : Addr} {τ0 : St} {H0 : Hp} (n : Nat) (Pv : Nat → List V → St → Hp → Prop) (h0 : Pv 0 [] τ0 H0)
    (hst : ∀ zs τ H, Pv n zs τ H → J.stop n H ∧ Q (.ref D) H)
    (hgo : ∀ i zs τ H, i < n → Pv i zs τ H → J.go i H ∧ ∀ x H3, J.yld i H x H3 → g x τ H3 fun τ2 H4 => tc τ2 H4 fun b H5 =>
      if b = true then te τ2 H5 fun y H6 => H6 D = some (.lst zs) ∧ zs.length < sizeLine ∧ Pv (i + 1) (zs ++ [y]) τ2 (upd H6 D (.lst (zs ++ [y]))) else Pv (i + 1) zs τ2 H5) : CompR J g tc te Q D τ0 H0 := by
  refine ⟨fun i m zs τ H => m = n - i ∧ i ≤ n ∧ Pv i zs τ H, ⟨n, by simp, Nat.zero_le _, h0⟩, ?_⟩
  rintro i m zs τ H ⟨rfl, hi, p⟩
  by_cases hlt : i < n
  · obtain ⟨go, step⟩ := hgo i zs τ H hlt p
    exact .inr ⟨go, Pv (i + 1), fun zs' τ' H' p' => ⟨n - (i + 1), by omega, rfl, hlt, p'⟩, step⟩
  · have e : i = n := by omega
    subst e
    exact .inl (hst zs τ H p)
theorem comp_list {K : PySem.W.Frag} {a : Addr} {xs : List V} {g : TG} {tc : TT} {te : TE} {Q : VK} {D : Addr} {τ0 : St} {H0 : Hp} (Pv : Nat → List V → St → Hp → Prop) (h0 : Pv 0 [] τ0 H0) (hl : ∀ i zs τ H, Pv i zs τ H → SqL K H a xs)
    (hs : ∀ i x zs τ H, xs[i]? = some x → Pv i zs τ H → g x τ H fun τ2 H4 => tc τ2 H4 fun b H5 =>
      if b = true then te τ2 H5 fun y H6 => H6 D = some (.lst zs) ∧ zs.length < sizeLine ∧ Pv (i + 1) (zs ++ [y]) τ2 (upd H6 D (.lst (zs ++ [y]))) else Pv (i + 1) zs τ2 H5)
    (hd : ∀ zs τ H, Pv xs.length zs τ H → Q (.ref D) H) : CompR (Itl K a) g tc te Q D τ0 H0 :=
  comp_by xs.length Pv h0 (fun zs τ H p => ⟨⟨xs, hl _ _ _ _ p, Nat.le_refl _⟩, hd zs τ H p⟩) fun i zs τ H hi p => ⟨⟨xs, xs[i], hl _ _ _ _ p, by simp [hi]⟩, fun x H3 y => by
    obtain ⟨e, y⟩ := y
    subst e
    exact hs i x zs τ _ (y xs (hl _ _ _ _ p)) p⟩
theorem comp_tup {K : PySem.W.Frag} {a : Addr} {xs : List V} {g : TG} {tc : TT} {te : TE} {Q : VK} {D : Addr} {τ0 : St} {H0 : Hp} (Pv : Nat → List V → St → Hp → Prop) (h0 : Pv 0 [] τ0 H0) (hl : ∀ i zs τ H, Pv i zs τ H → SqT K H a xs)
    (hs : ∀ i x zs τ H, xs[i]? = some x → Pv i zs τ H → g x τ H fun τ2 H4 => tc τ2 H4 fun b H5 =>
      if b = true then te τ2 H5 fun y H6 => H6 D = some (.lst zs) ∧ zs.length < sizeLine ∧ Pv (i + 1) (zs ++ [y]) τ2 (upd H6 D (.lst (zs ++ [y]))) else Pv (i + 1) zs τ2 H5)
    (hd : ∀ zs τ H, Pv xs.length zs τ H → Q (.ref D) H) : CompR (Itt K a) g tc te Q D τ0 H0 :=
  comp_by xs.length Pv h0 (fun zs τ H p => ⟨⟨xs, hl _ _ _ _ p, Nat.le_refl _⟩, hd zs τ H p⟩) fun i zs τ H hi p => ⟨⟨xs, xs[i], hl _ _ _ _ p, by simp [hi]⟩, fun x H3 y => by
    obtain ⟨e, y⟩ := y
    subst e
    exact hs i x zs τ _ (y xs (hl _ _ _ _ p)) p⟩
theorem comp_range {lo : Int} {n : Nat} {g : TG} {tc : TT} {te : TE} {Q : VK} {D : Addr} {τ0 : St} {H0 : Hp} (Pv : Nat → List V → St → Hp → Prop) (h0 : Pv 0 [] τ0 H0)
    (hs : ∀ i zs τ H, i < n → Pv i zs τ H → g (.int (lo + i)) τ H fun τ2 H4 => tc τ2 H4 fun b H5 =>
      if b = true then te τ2 H5 fun y H6 => H6 D = some (.lst zs) ∧ zs.length < sizeLine ∧ Pv (i + 1) (zs ++ [y]) τ2 (upd H6 D (.lst (zs ++ [y]))) else Pv (i + 1) zs τ2 H5)
    (hd : ∀ zs τ H, Pv n zs τ H → Q (.ref D) H) : CompR (Itr lo n) g tc te Q D τ0 H0 :=
  comp_by n Pv h0 (fun zs τ H p => ⟨Nat.le_refl _, hd zs τ H p⟩) fun i zs τ H hi p => ⟨hi, fun x H3 y => by
    obtain ⟨e, y⟩ := y
    subst e y
    exact hs i zs τ _ hi p⟩
section
variable {X : Cx} {tg iter elt : Expr} {ifs : List Expr} {scope : Scope} {pos : Pos} {N' : List Str} {t : Nat} {caps : List Nat} {g : Blk → TG} {tc : Blk → TT} {te : Blk → TE} {wi : TI}
theorem FpOk.heap {pins : List (Addr × Obj)} {H H' : Hp} {b : Addr} (f : FpOk X pins H b) (h : H' b = none) : FpOk X pins H' b := ⟨h, f.2⟩
theorem comp_core {cl : List (Str × Addr)} {J : It} {fp : List Addr} {it : Addr} {tn : Nat → Heap → Prop} {pins : List (Addr × Obj)} {σ : St} {H2 : Hp} {s2 : Shared} {Q : VK} {E : Value → Shared → Prop}
    (hc : X.calm = true) (S : CompOk X scope N' t caps) (L : Clos X.env scope cl)
    (hg : ∀ b, PG (cxB X scope N' b) tg (g b)) (ht : ∀ b, PTs (cxB X scope N' b) ifs (tc b)) (he : ∀ b, PE (cxB X scope N' b) elt (te b))
    (I2 : Inv X pins σ H2 s2) (T : Turn X.prog X.w X.K tg J fp it tn) (st2 : tn 0 s2.heap) (f2 : ∀ b ∈ fp, FpOk X pins H2 b)
    (R : ∀ D, H2 D = none → ∀ b, CompR J (g b) (tc b) (te b) Q D (capS t caps σ) (upd H2 D (.lst []))) :
    wpAny (model X.prog X.w) X.A (newList []) (fun acc s3 => wpAny (model X.prog X.w) X.A (newFunctionEnv scope X.env.globals cl [] X.env.qual none .none (some X.env)) (fun cenv s4 =>
      codeAny (model X.prog X.w) X.A (.compStart (.ListComp elt [⟨tg, iter, ifs, 0⟩] scope pos) 0 (.ref it) acc { cenv with scope := relabel scope X.env })
        (fun r s' => ∃ (D : Addr) (H' : Hp) (m : Str → Option Value), acc = .ref D ∧ r = .ok .next ∧ Inv X pins σ H' s' ∧ s'.heap.Ns cenv.locals m ∧ FpOk X pins H' cenv.locals ∧ Q (.ref D) H') s4) E s3) E s2 := by
  refine wpAny_newObj_type ?_
  have I3 : Inv X pins σ (upd H2 s2.heap.objs.size (.lst [])) { s2 with heap := s2.heap.push { cls := .type "list", data := .seq ([] : List Value).toArray } } := I2.lnew (t' := s2.toks) .nil (Nat.zero_le _)
  have hD : H2 s2.heap.objs.size = none := I2.fresh
  have R := R _ hD
  generalize hs3 : ({ s2 with heap := s2.heap.push { cls := .type "list", data := .seq ([] : List Value).toArray } } : Shared) = s3 at I3 ⊢
  generalize hH3 : upd H2 s2.heap.objs.size (.lst []) = H3 at I3 R
  generalize hDD : s2.heap.objs.size = D at R ⊢
  have k3 : ∀ b o, s2.heap.get? b = some o → s3.heap.get? b = some o := fun b o e => by rw [← hs3]; exact Heap.get?_push_of_some _ e
  have st3 : tn 0 s3.heap := T.keep 0 _ _ st2 fun b _ o e => k3 b o e
  have fpn : ∀ b ∈ fp, H3 b = none := fun b hb => by
    obtain ⟨o, e, _⟩ := T.obj 0 _ st2 b hb
    rw [← hH3, upd_ne (Nat.ne_of_lt (Heap.lt_size e))]
    exact (f2 b hb).1
  have f3 : ∀ b ∈ fp, FpOk X pins H3 b := fun b hb => (f2 b hb).heap (fpn b hb)
  refine wpAny_newFunctionEnv (fun y hy => (S.at hy).1) (by intro y hy; simp at hy) (fun h4 hns hsb => ?_) S.kind
  generalize hC : s3.heap.objs.size = C at hns hsb ⊢
  have k4 : ∀ b o, s3.heap.get? b = some o → h4.get? b = some o := fun b o e => hsb.extBut b o (by rw [← hC]; exact Nat.ne_of_lt (Heap.lt_size e)) (Heap.get?_push_of_some _ e)
  have cellsub : ∀ x c, (cxComp X scope N' cl C s3 H3 fp).env.cells.lookup x = some c → X.env.cells.lookup x = some c := L.sub
  have hnc : ∀ y ∈ scope.names, y.2 ≠ .cell := fun y hy => (S.at hy).1
  have fC : ∀ {H' : Hp}, H' C = none → FpOk X pins H' C := fun h => by rw [← hC] at h ⊢; exact I3.fpOk (Nat.le_refl _) h
  have I4 : Inv (cxComp X scope N' cl C s3 H3 fp) [] (capS t caps σ) H3 { s3 with heap := h4, toks := s3.toks + ([] : List (Str × Value)).length } := by
    refine ⟨⟨I3.ok.mod, S.kind, I3.ok.glob, I3.ok.blt, Nat.le_of_eq hC, fun x y c h1 h2 => I3.ok.inj x y c (L.sub _ _ h1) (L.sub _ _ h2), fun x hx => ?_, fun x c h _ => absurd (show false = true from h) Bool.false_ne_true, I3.ok.hd, I3.ok.frames, .inl rfl, fun b hb => ⟨?_, fun x c e => (f3 b hb).2.2.2.2.1 x c (L.sub x c e)⟩,
        I3.bs, Nat.le_trans I3.ok.bsz I3.sz, fun b o e hb => ?_, fun b hb z => ?_, I3.stack, I3.stkFree⟩,
      rfl, I3.bare, Un.kept k4, ⟨_, hns, fun i x v e1 e2 e3 => ?_⟩, fun x c e => ?_, (by rw [← hC]; exact I3.fresh), fun x c e => I3.freeC x c (L.sub x c e), fun p hp => ?_, I3.hok.kept k4, ?_⟩
    · have hx' : isCF ((relabel scope X.env).names.lookup x) = true := by
        rcases hx with q | q
        · rw [show (relabel scope X.env).names.lookup x = some .cell from q]; rfl
        · rw [show (relabel scope X.env).names.lookup x = some .free from q]; rfl
      exact Option.isSome_iff_exists.mp (L.all _ (relabel_cf (scope := scope) hnc hx') rfl)
    · obtain ⟨o, e, _⟩ := T.obj 0 _ st3 b hb
      rw [← hC]
      exact Nat.ne_of_lt (Heap.lt_size e)
    · rcases (f3 b hb).2.2.2.1 with z | z
      · exact I3.ok.noex b o e z
      · exact absurd (Nat.lt_of_lt_of_le (Nat.lt_of_lt_of_le (Heap.lt_size e) I3.ok.bsz) z) (Nat.lt_irrefl _)
    · rcases List.mem_cons.mp (I3.stkSub b z) with q | q
      · exact (f3 b hb).2.1 q
      · exact (f3 b hb).2.2.1 q
    · -- a name that was taken over
      unfold capS at e2
      by_cases hi : i < t
      · rw [List.getElem?_append_left (by simpa using hi), List.getElem?_replicate] at e2
        simp [hi] at e2
      · rw [List.getElem?_append_right (by simpa using hi), List.length_replicate, List.getElem?_map] at e2
        cases q : caps[i - t]? with
        | none => rw [q] at e2; simp at e2
        | some j =>
          rw [q] at e2
          obtain ⟨y, c1, c2, c3, c4⟩ := capOk_at S.cap q
          have ei : t + 0 + (i - t) = i := by omega
          rw [ei] at c2
          have exy : x = y := Option.some.inj ((show N'[i]? = some x from e1).symm.trans c2)
          subst exy
          have e2' : σ[j]? = some (some v) := by
            have e2 : (σ[j]?).join = some v := Option.some.inj e2
            cases r : σ[j]? with
            | none => rw [r] at e2; cases e2
            | some z =>
              rw [r] at e2
              have e2 : z = some v := e2
              rw [e2]
          obtain ⟨m, hn, hl⟩ := I3.loc
          have cf := isCF_iff c3
          obtain ⟨u, ru, lk⟩ := hl j x v c1 e2' (.inr (by
            rcases cf with z | z
            · exact .inl z
            · exact .inr z))
          refine ⟨u, ru, .inr ⟨isCF_iff c4, ?_⟩⟩
          rcases lk with ⟨z, _⟩ | ⟨_, c, ec, zc⟩
          · rcases cf with w | w <;> (rw [z] at w; cases w)
          · have hfree := relabel_cf (scope := scope) (env := X.env) (x := x) hnc c4
            obtain ⟨c', ec'⟩ := Option.isSome_iff_exists.mp (L.all _ hfree rfl)
            have := L.sub _ _ ec'
            rw [show X.env.cells.lookup x = some c from ec] at this
            cases this
            obtain ⟨o, ho, hd⟩ := zc
            exact ⟨c, ec', o, k4 _ _ ho, hd⟩
    · obtain ⟨v, o, ho, hd⟩ := I3.cell x c (L.sub x c e)
      exact ⟨v, o, k4 _ _ ho, hd⟩
    · exact absurd (show p ∈ ([] : List (Addr × Obj)) from hp) (by simp)
    · unfold capS
      rw [List.length_append, List.length_replicate, List.length_map, capOk_len S.cap]
      omega
  obtain ⟨W, ⟨m0, w0⟩, turn⟩ := R ⟨cl, C, s3, H3, fp⟩
  -- back to the frame outside
  have back : ∀ {τ : St} {H' : Hp} {s' : Shared}, Inv (cxComp X scope N' cl C s3 H3 fp) [] τ H' s' → Inv X pins σ H' s' := fun {τ H' s'} J => by
    refine I3.call' (ch := fp) (J.os.trans ?_) J.base J.hok J.bare fun b hb => ⟨(f3 b hb).2.2.2.1, (f3 b hb).2.1, (f3 b hb).2.2.2.2.1, (f3 b hb).2.2.2.2.2⟩
    rfl
  have stat : ∀ {H' : Hp}, (∀ b ∈ fp, H' b = none) → ∀ b ∈ fp, FpOk (cxComp X scope N' cl C s3 H3 fp) [] H' b := fun {H'} hn b hb => by
    refine ⟨hn b hb, (I4.ok.exf b hb).1, I4.ok.exfs b hb, .inl hb, (I4.ok.exf b hb).2, fun p hp => ?_⟩
    exact absurd (show p ∈ ([] : List (Addr × Obj)) from hp) (by simp)
  have loop : codeAny (model X.prog X.w) X.A (.compLoop (.ListComp elt [⟨tg, iter, ifs, 0⟩] scope pos) 0 (.ref it) (.ref D) (compEnvC scope cl C X.env))
      (fun r s' => ∃ (D' : Addr) (H' : Hp) (m : Str → Option Value), Value.ref D = .ref D' ∧ r = .ok .next ∧ Inv X pins σ H' s' ∧ s'.heap.Ns C m ∧ FpOk X pins H' C ∧ Q (.ref D') H') { s3 with heap := h4, toks := s3.toks + ([] : List (Str × Value)).length } := by
    refine block_loop (fun n s' => ∃ i ys τ H', Inv (cxComp X scope N' cl C s3 H3 fp) [] τ H' s' ∧ tn i s'.heap ∧ (∀ b ∈ fp, H' b = none) ∧ W i n ys τ H') ?_ m0 ⟨0, [], _, H3, I4, T.keep 0 _ _ st3 fun b _ o e => k4 b o e, fpn, w0⟩
    rintro n s5 ⟨i, ys, τ, H5, I5, st5, fr5, w5⟩
    rcases turn i n ys τ H5 w5 with ⟨stop, q⟩ | ⟨go, N, hN, step⟩
    · refine thn (T.done (cxComp X scope N' cl C s3 H3 fp) rfl rfl rfl hc i [] s5 τ H5 NoE I5 (stat fr5) st5 stop) fun r s6 ⟨hr, I6⟩ => ?_
      subst hr
      obtain ⟨m, hm, _⟩ := id I6.loc
      exact ⟨D, H5, m, rfl, rfl, back I6, hm, fC I6.free, q⟩
    · refine thn (T.item (cxComp X scope N' cl C s3 H3 fp) rfl rfl rfl hc i [] s5 τ H5 NoE I5 (stat fr5) st5 go) fun r s6 ⟨u, hr, h6⟩ => ?_
      subst hr
      refine thn h6 fun _ s7 ⟨x, H7, I7, r7, y7, st7, fr7⟩ => ?_
      have I7' := I7.pinned (stat fr7) (T.obj _ _ st7)
      have again : ∀ {τ9 : St} {H9 : Hp} {s9 : Shared} {ys9 : List V} {m' : Nat}, Inv (cxComp X scope N' cl C s3 H3 fp) ([] ++ pinsAt fp s7.heap) τ9 H9 s9 → m' < n → W (i + 1) m' ys9 τ9 H9 →
          ∃ m, m < n ∧ ∃ i ys τ H', Inv (cxComp X scope N' cl C s3 H3 fp) [] τ H' s9 ∧ tn i s9.heap ∧ (∀ b ∈ fp, H' b = none) ∧ W i m ys τ H' := fun {τ9 H9 s9 ys9 m'} I9 hm w9 => by
        refine ⟨m', hm, i + 1, ys9, τ9, H9, I9.unpinned, T.keep _ _ _ st7 fun b hb o e => (I9.pin (b, o) (List.mem_append_right _ (List.mem_append_right _ (mem_pinsAt hb e)))).1, fun b hb => ?_, w9⟩
        obtain ⟨o, e, _⟩ := T.obj _ _ st7 b hb
        exact (I9.pin (b, o) (List.mem_append_right _ (List.mem_append_right _ (mem_pinsAt hb e)))).2.1
      refine thn (hg ⟨cl, C, s3, H3, fp⟩ _ s7 τ H7 x u _ I7' r7 (step x H7 y7)) fun _ s8 ⟨τ8, H8, I8, q8⟩ => ?_
      refine thn (ht ⟨cl, C, s3, H3, fp⟩ _ s8 τ8 H8 _ I8 q8) fun ok s9 ⟨H9, I9, q9⟩ => ?_
      cases ok with
      | false =>
        obtain ⟨m', hm, w9⟩ := hN _ _ _ (show N ys τ8 H9 from q9)
        exact again I9 hm w9
      | true =>
        refine thn (he ⟨cl, C, s3, H3, fp⟩ _ s9 τ8 H9 _ I9 q9) fun y s10 ⟨z, H10, I10, r10, hl, hz, q10⟩ => ?_
        refine thn (mt_append _ s10 τ8 H10 (.ref D) [z] (.ref D) [y] (fun v H11 => v = .non ∧ H11 = upd H10 D (.lst (ys ++ [z]))) I10 rfl (.cons r10 .nil) ⟨D, ys, z, rfl, rfl, hl, hz, rfl, rfl⟩) fun _ s11 ⟨v, H11, I11, _, _, e11⟩ => ?_
        subst e11
        obtain ⟨m', hm, w10⟩ := hN _ _ _ q10
        exact again I11 hm w10
  exact codeAny_compStart_list loop (T.self _ 0 _ _ _ (T.keep 0 _ _ st3 fun b _ o e => k4 b o e) loop)
theorem pe_comp (hc : X.calm = true) (S : CompOk X scope N' t caps) (hi : PI X tg iter wi)
    (hg : ∀ b, PG (cxB X scope N' b) tg (g b)) (ht : ∀ b, PTs (cxB X scope N' b) ifs (tc b)) (he : ∀ b, PE (cxB X scope N' b) elt (te b))
    (hs : ∀ x, foldedSetIterable iter X.env x = pure x := by intro _; rfl) : PE X (.ListComp elt [⟨tg, iter, ifs, 0⟩] scope pos) (tComp wi g tc te t caps) := by
  intro pins s σ H Q I h
  obtain ⟨cl, L⟩ := clos_of (env := X.env) (scope := scope) fun y hy hf => I.ok.has y.1 (isCF_iff ((S.at hy).2.2 hf))
  rw [eval_ListComp]
  refine wpAny_comprehension_free (use := none) rfl hs L.eq S.kind (fun y hy => (S.at hy).2.1) (thn (hi pins s σ H _ I h) fun x s1 h1 => thn h1 fun itv s2 h2 => ?_)
  obtain ⟨it, fp, tn, J, H2, rfl, I2, T, st2, f2, R⟩ := h2
  refine thn (comp_core hc S L hg ht he I2 T st2 f2 R) fun acc s3 h3 => thn h3 fun cenv s4 h4 => codeAny_mono h4 fun r s' hr => ?_
  obtain ⟨D, H', m, rfl, rfl, I', hm, fC, q⟩ := hr
  obtain ⟨c0, c1, c2, c3, c4, c5⟩ := fC
  exact ⟨m, hm, fun h' sb => ⟨.ref D, H', I'.turned (t' := s'.toks) (fun b o hb e => sb.extBut b o hb e) c0 c1 c3 c4 c5, rfl, q⟩⟩
theorem ps_setComp {i : Nat} {y : Str} {py spos : Pos} (hc : X.calm = true) (hN : X.N.Nodup) (hiy : X.N[i]? = some y) (hy : Loc X.env.scope y) (S : CompOk X scope N' t caps) (hi : PI X tg iter wi)
    (hg : ∀ b, PG (cxB X scope N' b) tg (g b)) (ht : ∀ b, PTs (cxB X scope N' b) ifs (tc b)) (he : ∀ b, PE (cxB X scope N' b) elt (te b))
    (hsw : swapsWith (.ListComp elt [⟨tg, iter, ifs, 0⟩] scope pos) (some (.Name y py)) spos.line X.env = pure true := by rfl)
    (hs : ∀ x, foldedSetIterable iter X.env x = pure x := by intro _; rfl) (hf : X.fn y = true ∨ X.env.scope.names.lookup y = some .local := by first | exact .inl rfl | exact .inr rfl | assumption) :
    PS X (.Assign [.Name y py] (.ListComp elt [⟨tg, iter, ifs, 0⟩] scope pos) spos) (tAsg (tComp wi g tc te t caps) (gName i)) := by
  intro pins s σ H D' I h
  obtain ⟨cl, L⟩ := clos_of (env := X.env) (scope := scope) fun y hy hf => I.ok.has y.1 (isCF_iff ((S.at hy).2.2 hf))
  rw [exec_Assign_Name_used _ _ _ _ hsw]
  refine wpAny_bind (wpAny_standAt (wpAny_bind ?_))
  show wpAny _ X.A (comprehension (.ListComp elt [⟨tg, iter, ifs, 0⟩] scope pos) scope X.env _ (newList []) false (eval iter X.env) (some (assign (.Name y py) X.env)) >>= fun _ => pure ()) _ _ s
  refine wpAny_bind (thn (Q := fun _ s' => SP X pins D' .next s') ?_ fun _ s' hq => wpAny_pure (wpAny_pure hq))
  refine wpAny_comprehension_free (use := some (assign (.Name y py) X.env)) rfl hs L.eq S.kind (fun y hy => (S.at hy).2.1) (thn (hi pins s σ H _ I h) fun x s1 h1 => thn h1 fun itv s2 h2 => ?_)
  obtain ⟨it, fp, tn, J, H2, rfl, I2, T, st2, f2, R⟩ := h2
  refine thn (comp_core hc S L hg ht he I2 T st2 f2 R) fun acc s3 h3 => thn h3 fun cenv s4 h4 => codeAny_mono h4 fun r s' hr => ?_
  obtain ⟨D, H', m, rfl, rfl, I', hm, fC, q⟩ := hr
  obtain ⟨c0, c1, c2, c3, c4, c5⟩ := fC
  show wpAny _ X.A (assign (.Name y py) X.env (.ref D)) _ _ _
  refine wpAny_assign_Name (store_ok2 I' hN hiy hy (show RelV (.ref D) (.ref D) from rfl) (fun s'' I'' ⟨a, sb, ha⟩ => ?_) hf)
  have hne : cenv.locals ≠ a := by
    rcases ha with z | z
    · rw [z]; exact c1
    · exact fun z' => c4 y a z z'.symm
  refine ⟨m, hm.sameBut sb hne, fun h' sb' => ?_⟩
  exact ⟨_, H', I''.turned (t' := s''.toks) (fun b o hb e => sb'.extBut b o hb e) c0 c1 c3 c4 c5, q⟩
end
end L2

/-! BExt2 -/
set_option Elab.async false
set_option linter.all false
set_option maxRecDepth 100000
set_option maxHeartbeats 4000000
namespace L2
open PySem PySem.Spec PyProof.Rows
def CDivG (i j : Int) : Prop := 0 < j ∧ j.natAbs.log2 < 9000
section
variable {X : Cx}
theorem op_fdivG : OpR X (binaryOp .FloorDiv) (rI CDivG fun i j => .int (i / j)) := opI fun i j _ _ _ _ _ hc q => by
  have e : i.fdiv j = i / j := Int.fdiv_eq_ediv_of_nonneg i (Int.le_of_lt hc.1)
  exact floordiv_int (Ne.symm (Int.ne_of_lt hc.1)) (by rw [e]; exact q) (.inl (PyProof.noPylong_of_log2 hc.2))
def clsV : V → Option Value
  | .ty n => some (.type n)
  | .ref a => some (.ref a)
  | _ => none
theorem clsV_rel {c : V} {cv u : Value} (h : clsV c = some cv) (r : RelV c u) : u = cv := by
  cases c <;> simp [clsV] at h
  · exact (show u = Value.ref _ from r).trans h
  · exact (show u = Value.type _ from r).trans h
def rIsi (K : PySem.W.Frag) : List V → Hp → VK → Prop := fun xs H Q => ∃ x c t cv b, xs = [x, c] ∧ clsV c = some cv ∧ TyOf K H x t ∧ PySem.W.kitOne K t cv = some b ∧ Q (.bl b) H
theorem call_isi : CallR X (.builtin "isinstance") (rIsi X.K) := by
  intro pins s σ H xs us Q I r h
  obtain ⟨x, c, t, cv, b, rfl, hc, ty, e, q⟩ := h
  obtain ⟨u, v, rfl, r1, r2⟩ := r.two
  obtain rfl := clsV_rel hc r2
  exact isinst_ok I r1 ty e fun tk => ⟨.bl b, H, I.tok tk, rfl, q⟩
theorem any_getD (bs : List Bool) : (List.range bs.length).any (fun i => bs.getD i false) = bs.any id := by
  rw [Bool.eq_iff_iff, List.any_eq_true, List.any_eq_true]
  constructor
  · rintro ⟨i, hi, h⟩
    have hi := List.mem_range.mp hi
    exact ⟨bs[i], List.getElem_mem hi, by simpa [List.getD, hi] using h⟩
  · rintro ⟨b, hb, h⟩
    obtain ⟨i, hi, rfl⟩ := List.mem_iff_getElem.mp hb
    exact ⟨i, List.mem_range.mpr hi, by simpa [List.getD, hi] using h⟩
theorem truth_bools {P : Program} {w : World} {A : Around} {bs : List Bool} {its : List Value} (r : Vals (bs.map V.bl) its) : TruthOf P w A (fun i v => its.toArray[i]? = some v) (fun i => bs.getD i false) := by
  intro i v s Q E hv q
  have hv' : its[i]? = some v := by simpa using hv
  have hi : i < its.length := (List.getElem?_eq_some_iff.mp hv').1
  have hl := r.length
  rw [List.length_map] at hl
  have hb : i < bs.length := by omega
  obtain ⟨u, e, ru⟩ := r.get (i := i) (x := V.bl bs[i]) (by simp [hb])
  rw [hv'] at e
  cases e
  cases ru
  refine wpAny_truthy_bool ?_
  simpa [List.getD, hb] using q
def rAllB (K : PySem.W.Frag) (f : List Bool → Bool) : List V → Hp → VK → Prop := fun xs H Q => ∃ a bs, xs = [V.ref a] ∧ SqL K H a (bs.map V.bl) ∧ Q (.bl (f bs)) H
theorem call_anyB (hc : X.calm = true) : CallR X (.builtin "any") (rAllB X.K fun bs => bs.any id) := by
  intro pins s σ H xs us Q I r h
  obtain ⟨a, bs, rfl, ha, q⟩ := h
  obtain ⟨u, rfl, ru⟩ := r.one
  cases ru
  obtain ⟨its, rv, p, hz⟩ := I.list ha
  refine call_any_walk (wpAny_pyIter_list p.isList ?_)
  have hne : a ≠ s.heap.objs.size := by
    obtain ⟨o, n, e, _⟩ := p
    exact Nat.ne_of_lt (Heap.lt_size e)
  refine ⟨_, _, _, _, _, _, _, rfl, Walks.list (A := X.A.in1) (show X.A.in1.handled = none from I.ok.hd hc) s.heap.objs.size a hne its.toArray, ⟨⟨_, Heap.get?_push_size _ rfl, rfl, rfl⟩, p.isList.push _⟩, truth_bools rv, fun h' tk k => ?_⟩
  refine ⟨.bl _, H, I.kept (t' := tk) fun b o e => k b o (by simpa using Nat.ne_of_lt (Heap.lt_size e)) (Heap.get?_push_of_some _ e), rfl, ?_⟩
  have hl := rv.length
  rw [List.length_map] at hl
  rw [List.size_toArray, ← hl, any_getD]
  exact q
end
structure Callee (P : Program) (w : World) (K : PySem.W.Frag) (mg : Str → Option Value) (base : Heap) (x : Str) (f : Addr) (fd : FuncData) (ps : List Str) (k : Nat) (sp : Sp) : Prop where
  ok : FnOk P w K mg base CX0 k f fd ps sp
  g : mg x = some (.ref f)
  kp : PySem.W.keepIn K (.ref f) = true
  b : Binds K fd ps []
structure Maker (P : Program) (w : World) (K : PySem.W.Frag) (mg : Str → Option Value) (base : Heap) (x : Str) (C f : Addr) (fd : FuncData) (ps : List Str) (k : Nat) (sp : Sp) : Prop where
  ok : FnOk P w K mg base CX0 k f fd ps sp
  g : mg x = some (.ref C)
  mm : Mk K C f
  b : Binds K fd ps []
section
variable {X : Cx} {k : Nat} {f C : Addr} {fd : FuncData} {ps : List Str} {sp : Sp} {x m : Str} {p pos apos : Pos} {e o : Expr} {es : List Expr} {ta : TE} {t : TA}
theorem pe_c (c : Callee X.prog X.w X.K X.mg X.base x f fd ps k sp) (hr : Room k X.A) (ha : PA X (e :: es) t) (hg : Gl X x := by rfl) (hdb : (x == ("__debug__" : Str)) = false := by decide)
    (he : starEach (e :: es) X.env = (false, eval e X.env) :: starEach es X.env := by rfl) (hpl : (backTo pos (starEach es X.env)).any (·.1) = false := by rfl) : PE X (.Call (.Name x p) (e :: es) [] pos) (tCall sp [] E0 t) :=
  pe_call c.ok hr hg c.g c.kp c.b .nil pass0 ha hdb he hpl
theorem pe_m (c : Maker X.prog X.w X.K X.mg X.base x C f fd ps k sp) (hr : Room (k + 1) X.A) (ha : PA X (e :: es) t) (hg : Gl X x := by rfl) (hdb : (x == ("__debug__" : Str)) = false := by decide)
    (he : starEach (e :: es) X.env = (false, eval e X.env) :: starEach es X.env := by rfl) (hpl : (backTo pos (starEach es X.env)).any (·.1) = false := by rfl) : PE X (.Call (.Name x p) (e :: es) [] pos) (tMake C sp [] E0 t) :=
  pe_make c.mm c.ok hr hg c.g c.b .nil pass0 ha hdb he hpl
def tMethD (X : Cx) (m : Str) (ta : TE) (t : TA) : TE := fun σ H Q => ta σ H fun x H1 => ∃ (a C dx : Addr) (fs : List (Str × V)) (f : Addr) (fd : FuncData) (ps : List Str) (k : Nat) (sp : Sp), x = .ref a ∧ H1 a = some (.ins C dx fs) ∧ fs.lookup m = none ∧ Cls X.K C ∧ Meth X.K C m f ∧
  FnOk X.prog X.w X.K X.mg X.base CX0 k f fd ps sp ∧ Room k X.A ∧ Binds X.K fd ps [] ∧ t σ H1 fun vs H2 => sp (x :: (vs ++ [])) H2 Q E0
theorem pe_methD {pl : Sem Bool} (he : PE X o ta) (ha : PA X (e :: es) t)
    (hst : starEach (e :: es) X.env = (false, eval e X.env) :: starEach es X.env := by rfl) (hpl : (backTo pos (starEach es X.env)).any (·.1) = false := by rfl)
    (ht : eval (.Call (.Attribute o m apos) (e :: es) [] pos) X.env = (do
      let ov ← eval o X.env
      standAt apos.atName
      let (f, first) ← holding [ov] (getMethod ov m pl)
      callWith pos f first (backTo pos (starEach (e :: es) X.env)) (backToKw pos (keywordEach [] X.env))) := by rfl) :
    PE X (.Call (.Attribute o m apos) (e :: es) [] pos) (tMethD X m ta t) := by
  intro pins s σ H Q I h
  refine PySem.W.methodCall_KW (pl := pl) (thn (he pins s σ H _ I h) fun u s1 ⟨x, H1, I1, rx, a, C, dx, fs, f, fd, ps, k, sp, ex, ea, l, cl, hm, F, hr, hb, q⟩ => ?_) ht
  subst ex
  obtain rfl : u = Value.ref a := rx
  refine getmeth_ok I1 ea cl hm l ?_
  refine PySem.W.callWith_K (first := [.ref a]) (h₀ := X.base) I.ok.mod.kin hm.kp (thn (ha pos pins s1 σ H1 _ I1 q) fun us s2 ⟨vs, H2, I2, r, q2⟩ => ⟨I2.kIn, ?_⟩) hst hpl
  exact run_fn (us := .ref a :: us) (vs := .ref a :: vs) F hr hb .nil pass0 I2 (.cons rfl r) q2
theorem pe_meth0D {pl : Sem Bool} (he : PE X o ta)
    (ht : eval (.Call (.Attribute o m apos) [] [] pos) X.env = (do
      let ov ← eval o X.env
      standAt apos.atName
      let (f, first) ← holding [ov] (getMethod ov m pl)
      callWith pos f first (backTo pos (starEach [] X.env)) (backToKw pos (keywordEach [] X.env))) := by rfl) :
    PE X (.Call (.Attribute o m apos) [] [] pos) (tMethD X m ta tNil) := by
  intro pins s σ H Q I h
  refine PySem.W.methodCall_KW (pl := pl) (thn (he pins s σ H _ I h) fun u s1 ⟨x, H1, I1, rx, a, C, dx, fs, f, fd, ps, k, sp, ex, ea, l, cl, hm, F, hr, hb, q⟩ => ?_) ht
  subst ex
  obtain rfl : u = Value.ref a := rx
  refine getmeth_ok I1 ea cl hm l ?_
  exact PySem.W.callWith_K0 (first := [.ref a]) I1.kIn hm.kp (run_fn (us := [.ref a]) (vs := [.ref a]) F hr hb .nil pass0 I1 (.cons rfl .nil) q)
end
end L2

/-! ZipT -/
set_option Elab.async false
set_option linter.all false
set_option maxHeartbeats 4000000
namespace PySem
namespace Zt
section
variable {prog : Program} {w : World} {A : Around} {E : Value → Shared → Prop} {s : Shared}
end
end Zt
end PySem

/-! ZipN -/
set_option Elab.async false
set_option linter.all false
set_option maxHeartbeats 4000000
namespace PySem
namespace Zt
section
variable {prog : Program} {w : World} {A : Around} {E : Value → Shared → Prop} {s : Shared}
end
end Zt
end PySem

/-! BExt3 -/
set_option Elab.async false
set_option linter.all false
set_option maxRecDepth 100000
set_option maxHeartbeats 4000000
namespace L2
open PySem PySem.Spec PyProof.Rows PySem.Zt
section
variable {X : Cx} {pins : List (Addr × Obj)} {σ : St} {H : Hp} {s : Shared} {a b : Addr} {xs ys : List V}
end
theorem pe_cls {X : Cx} {x : Str} {C : Addr} {pos : Pos} (hm : X.mg x = some (.ref C)) (hg : Gl X x := by rfl) (hd : (x == ("__debug__" : Str)) = false := by decide) : PE X (.Name x pos) (tC (.ref C)) := pe_glob hg hm rfl hd
theorem pe_bty {X : Cx} {x : Str} {n : String} {pos : Pos} (hm : X.mg x = none) (hv : bootBuiltins x = some (.type n)) (hg : Gl X x := by rfl) (hn : x ≠ "__name__" := by decide) (hd : (x == ("__debug__" : Str)) = false := by decide) : PE X (.Name x pos) (tC (.ty n)) := pe_bltn hg hm hv rfl hn hd
theorem bt_len : bootBuiltins "len" = some (.builtin "len") := by decide +kernel
theorem bt_int : bootBuiltins "int" = some (.type "int") := by decide +kernel
theorem bt_min : bootBuiltins "min" = some (.builtin "min") := by decide +kernel
theorem bt_max : bootBuiltins "max" = some (.builtin "max") := by decide +kernel
theorem bt_isinstance : bootBuiltins "isinstance" = some (.builtin "isinstance") := by decide +kernel
theorem bt_any : bootBuiltins "any" = some (.builtin "any") := by decide +kernel
theorem bt_abs : bootBuiltins "abs" = some (.builtin "abs") := by decide +kernel
theorem bt_str : bootBuiltins "str" = some (.type "str") := by decide +kernel
theorem bt_sum : bootBuiltins "sum" = some (.builtin "sum") := by decide +kernel
theorem bt_bool : bootBuiltins "bool" = some (.type "bool") := by decide +kernel
theorem bt_tuple : bootBuiltins "tuple" = some (.type "tuple") := by decide +kernel
theorem bt_ValueError : bootBuiltins "ValueError" = some (.type "ValueError") := by decide +kernel
theorem b01 (k : Bool) : -(2 ^ 64) < (if k = true then (1 : Int) else 0) ∧ (if k = true then (1 : Int) else 0) < 2 ^ 64 := by cases k <;> decide
end L2

/-! BExt4 -/
set_option Elab.async false
set_option linter.all false
set_option maxRecDepth 100000
set_option maxHeartbeats 4000000
namespace L2
open PySem PySem.Spec PyProof.Rows
theorem getD_at {ns : List Int} {i : Nat} (h : i < ns.length) : ns.getD i 0 = ns[i] := by simp [List.getD, h]
theorem vals_at {ns : List Int} {its : List Value} (r : Vals (ns.map V.int) its) {i : Nat} {v : Value} (e : its.toArray[i]? = some v) : ∃ t, v = .int (ns.getD i 0) t := by
  have e' : its[i]? = some v := by simpa using e
  have hi : i < its.length := (List.getElem?_eq_some_iff.mp e').1
  have hl := r.length
  rw [List.length_map] at hl
  have hb : i < ns.length := by omega
  obtain ⟨u, e2, ru⟩ := r.get (i := i) (x := V.int ns[i]) (by simp [hb])
  rw [e'] at e2
  cases e2
  obtain ⟨t, rfl⟩ := ru
  exact ⟨t, by rw [getD_at hb]⟩
theorem best_gt (val : Nat → Int) : ∀ k, argBest (fun i j => decide (val i > val j)) k ≤ k ∧ ∀ j, j ≤ k → val j ≤ val (argBest (fun i j => decide (val i > val j)) k)
  | 0 => ⟨Nat.le_refl _, fun j hj => by rw [Nat.le_zero.mp hj]; exact Int.le_refl _⟩
  | k + 1 => by
    obtain ⟨h1, h2⟩ := best_gt val k
    show (if decide (val (k + 1) > val (argBest _ k)) = true then k + 1 else argBest _ k) ≤ k + 1 ∧ ∀ j, j ≤ k + 1 → val j ≤ val (if decide (val (k + 1) > val (argBest _ k)) = true then k + 1 else argBest _ k)
    by_cases q : val (k + 1) > val (argBest (fun i j => decide (val i > val j)) k)
    · rw [if_pos (decide_eq_true q)]
      refine ⟨Nat.le_refl _, fun j hj => ?_⟩
      by_cases e : j = k + 1
      · rw [e]; exact Int.le_refl _
      · have := h2 j (by omega)
        omega
    · rw [if_neg (fun z => q (of_decide_eq_true z))]
      refine ⟨Nat.le_succ_of_le h1, fun j hj => ?_⟩
      by_cases e : j = k + 1
      · rw [e]; omega
      · exact h2 j (by omega)
section
variable {P : Program} {w : World} {A : Around} {R : Result → Shared → Prop} {I S : Addr} {fp wr : List Addr} {n : Nat} {Is : Nat → Value → Prop} {St : Nat → Heap → Prop} {kw : List (Str × Value)}
end
theorem pre_take (ns : List Int) : ∀ k, preSum (fun i => ns.getD i 0) k = (ns.take k).sum
  | 0 => by simp [preSum]
  | k + 1 => by
    show preSum _ k + ns.getD k 0 = _
    rw [pre_take ns k, List.take_add_one]
    cases q : ns[k]? with
    | none => simp [List.getD, q]
    | some x => simp [List.getD, q]
def rSumI (K : PySem.W.Frag) : List V → Hp → VK → Prop := fun xs H Q => ∃ (a : Addr) (ns : List Int), xs = [V.ref a] ∧ SqL K H a (ns.map V.int) ∧ Q (.int ns.sum) H
section
variable {X : Cx}
theorem call_sumI (hc : X.calm = true) : CallR X (.builtin "sum") (rSumI X.K) := by
  intro pins s σ H xs us Q I r h
  obtain ⟨a, ns, rfl, ha, q⟩ := h
  obtain ⟨u, rfl, ru⟩ := r.one
  cases ru
  obtain ⟨its, rv, p, hz⟩ := I.list ha
  have lt : a < s.heap.objs.size := by
    obtain ⟨_, e, _⟩ := p.isList
    exact Heap.lt_size e
  refine call_sum_walkAnyS (wpAny_pyIter_list p.isList ?_)
  refine ⟨s.heap.objs.size, _, _, _, _, _, _, fun i => ns.getD i 0, rfl, (Walks.list (A := X.A.in1) (show X.A.in1.handled = none from I.ok.hd hc) s.heap.objs.size a (Nat.ne_of_lt lt) its.toArray).toS, ⟨⟨_, Heap.get?_push_size _ rfl, rfl, rfl⟩, p.isList.push _⟩, fun b hb => ?_, fun i v hv => vals_at rv hv, fun s' t' hm => ?_⟩
  · show b < (s.heap.push _).objs.size
    rw [Heap.size_push]
    have z : b = s.heap.objs.size ∨ b = a := by simpa using hb
    rcases z with z | z
    · rw [z]; exact Nat.lt_succ_self _
    · rw [z]; exact Nat.lt_succ_of_lt lt
  · obtain ⟨h', g', d', tk', os'⟩ := s'
    have e1 : g' = s.gens := hm.gens
    have e2 : d' = s.drawn := hm.drawn
    have e3 : os' = s.os := hm.os
    subst e1 e2 e3
    have hl := rv.length
    rw [List.length_map] at hl
    rw [pre_take, List.size_toArray, ← hl, List.take_length]
    exact ⟨.int _, H, I.kept (t' := tk') fun b o e => hm.heap b o (fun z => by
      rw [List.mem_singleton.mp z] at e
      exact Nat.lt_irrefl _ (Heap.lt_size e)) (Heap.get?_push_of_some _ e), ⟨_, rfl⟩, q⟩
end
end L2

/-! BExt5 -/
set_option Elab.async false
set_option linter.all false
set_option maxRecDepth 100000
set_option maxHeartbeats 4000000
namespace L2
open PySem PySem.Spec PyProof.Rows
section
variable {P : Program} {w : World} {A : Around} {E : Value → Shared → Prop}
end
end L2

/-! Em -/
set_option Elab.async false
set_option linter.all false
set_option maxRecDepth 100000
set_option maxHeartbeats 4000000
namespace K04
open PySem L2
inductive Ex where
  | num (i : Int)
  | name (x : Str)
  | two (w : Str) (e f : Ex)
  | mod (e : Ex) (n : Int)
  | less (e f g h : Ex)
def Ex.dep : Ex → Nat
  | .num _ => 1
  | .name _ => 1
  | .two _ e f => max e.dep f.dep + 1
  | .mod e _ => e.dep + 1
  | .less e f g h => max (max e.dep f.dep) (max g.dep h.dep) + 1
theorem Ex.dep_pos : ∀ e : Ex, 1 ≤ e.dep
  | .num _ => Nat.le_refl _
  | .name _ => Nat.le_refl _
  | .two _ _ _ => Nat.le_add_left _ _
  | .mod _ _ => Nat.le_add_left _ _
  | .less _ _ _ _ => Nat.le_add_left _ _
abbrev TwoW (w : Str) : Prop := w = "add" ∨ w = "sub" ∨ w = "min" ∨ w = "max"
def Ex.ok (names : List Str) : Ex → Prop
  | .num i => -100000000000000000000 < i ∧ i < 100000000000000000000
  | .name x => x ∈ names
  | .two w e f => TwoW w ∧ e.ok names ∧ f.ok names
  | .mod e n => (1 ≤ n ∧ n ≤ 1000000000) ∧ e.ok names
  | .less e f g h => e.ok names ∧ f.ok names ∧ g.ok names ∧ h.ok names
def Ext (l : Addr) (H H' : Hp) : Prop := ∀ b o, H b = some o → b ≠ l → H' b = some o
theorem Ext.refl {l : Addr} {H : Hp} : Ext l H H := fun _ _ e _ => e
theorem Ext.trans {l : Addr} {H H1 H2 : Hp} (a : Ext l H H1) (b : Ext l H1 H2) : Ext l H H2 := fun c o e n => b c o (a c o e n) n
theorem Ext.same {l : Addr} {H H' : Hp} (a : Same H H') : Ext l H H' := fun c o e _ => a c o e
theorem Ext.new {l p : Addr} {H : Hp} {o : HO} (h : H p = none) : Ext l H (upd H p o) := fun c u e _ => by rw [upd_ne (ne_of_none e h)]; exact e
theorem Ext.at {l : Addr} {H : Hp} {o : HO} : Ext l H (upd H l o) := fun c u e n => by rw [upd_ne n]; exact e
theorem Same.new {p : Addr} {H : Hp} {o : HO} (h : H p = none) : Same H (upd H p o) := fun c u e => by rw [upd_ne (ne_of_none e h)]; exact e
def StOk (st : List V) : Prop := (∃ a : Int, st = [V.int a]) ∨ ∃ a b c : Int, st = [V.int a, V.int b, V.int c]
def StAt (H : Hp) (l : Addr) : Prop := ∃ st, H l = some (.lst st) ∧ StOk st
theorem StAt.new {H : Hp} {l p : Addr} {o : HO} (s : StAt H l) (h : H p = none) : StAt (upd H p o) l := by
  obtain ⟨st, e, k⟩ := s
  exact ⟨st, by rw [upd_ne (ne_of_none e h)]; exact e, k⟩
theorem StAt.same {H H' : Hp} {l : Addr} (s : StAt H l) (h : Same H H') : StAt H' l := by
  obtain ⟨st, e, k⟩ := s
  exact ⟨st, h _ _ e, k⟩
def Told (H : Hp) : Ex → V → Prop
  | .num i, v => ∃ p, v = .ref p ∧ H p = some (.tup [.str "num", .int i])
  | .name x, v => ∃ p, v = .ref p ∧ H p = some (.tup [.str "name", .str x])
  | .two w e f, v => ∃ p a b, v = .ref p ∧ H p = some (.tup [.str w, a, b]) ∧ Told H e a ∧ Told H f b
  | .mod e n, v => ∃ p a, v = .ref p ∧ H p = some (.tup [.str "mod", a, .int n]) ∧ Told H e a
  | .less e f g h, v => ∃ p a b c d, v = .ref p ∧ H p = some (.tup [.str "less", a, b, c, d]) ∧ Told H e a ∧ Told H f b ∧ Told H g c ∧ Told H h d
theorem Told.mono {H H' : Hp} (k : ∀ b xs, H b = some (.tup xs) → H' b = some (.tup xs)) : ∀ {e : Ex} {v : V}, Told H e v → Told H' e v
  | .num _, _, ⟨p, e, h⟩ => ⟨p, e, k _ _ h⟩
  | .name _, _, ⟨p, e, h⟩ => ⟨p, e, k _ _ h⟩
  | .two _ _ _, _, ⟨p, a, b, e, h, t1, t2⟩ => ⟨p, a, b, e, k _ _ h, t1.mono k, t2.mono k⟩
  | .mod _ _, _, ⟨p, a, e, h, t1⟩ => ⟨p, a, e, k _ _ h, t1.mono k⟩
  | .less _ _ _ _, _, ⟨p, a, b, c, d, e, h, t1, t2, t3, t4⟩ => ⟨p, a, b, c, d, e, k _ _ h, t1.mono k, t2.mono k, t3.mono k, t4.mono k⟩
theorem Told.ext {l : Addr} {H H' : Hp} (s : StAt H l) (k : Ext l H H') {e : Ex} {v : V} (t : Told H e v) : Told H' e v := t.mono fun b xs h => k b _ h fun z => by
  obtain ⟨st, q, _⟩ := s
  rw [z, q] at h
  cases h
theorem Told.same {H H' : Hp} (k : Same H H') {e : Ex} {v : V} (t : Told H e v) : Told H' e v := t.mono fun b xs h => k b _ h
theorem Told.ref {H : Hp} : ∀ {e : Ex} {v : V}, Told H e v → ∃ p xs, v = .ref p ∧ H p = some (.tup xs)
  | .num _, _, ⟨p, e, h⟩ => ⟨p, _, e, h⟩
  | .name _, _, ⟨p, e, h⟩ => ⟨p, _, e, h⟩
  | .two _ _ _, _, ⟨p, a, b, e, h, _⟩ => ⟨p, _, e, h⟩
  | .mod _ _, _, ⟨p, a, e, h, _⟩ => ⟨p, _, e, h⟩
  | .less _ _ _ _, _, ⟨p, a, b, c, d, e, h, _⟩ => ⟨p, _, e, h⟩
theorem eqV_refl {x : V} (h : flatV x = true) : eqV x x = true := by
  cases x <;> simp [flatV] at h <;> simp [eqV]
theorem Same.made {H : Hp} {x dx C : Addr} {fs fs' : List (Str × V)} (nx : H x = none) (ndx : H dx = none) : Same H (upd (upd (upd H dx (.own x)) x (.ins C dx fs')) x (.ins C dx fs)) := fun b o e => by
  rw [upd_ne (ne_of_none e nx), upd_ne (ne_of_none e nx), upd_ne (ne_of_none e ndx)]
  exact e
theorem two_no {w : Str} (h : TwoW w) : decide (V.str w = V.str "num") = false ∧ decide (V.str w = V.str "name") = false ∧ decide (V.str w = V.str "mod") = false ∧ decide (V.str w = V.str "less") = false := by
  rcases h with rfl | rfl | rfl | rfl <;> decide +kernel
theorem log_lt {n : Int} {m : Nat} (h1 : 0 < n) (h2 : n.natAbs < 2 ^ m) (h3 : m ≤ 9000) : n.natAbs.log2 < 9000 := by
  have h0 : n.natAbs ≠ 0 := by omega
  have := (Nat.log2_lt h0 (k := m)).mpr h2
  omega
theorem pick3 {x y z d : Int} (h0 : 0 ≤ d) (h3 : d < 3) : ∃ v, atI [V.int x, V.int y, V.int z] d = some (.int v) ∧ (v = x ∨ v = y ∨ v = z) := by
  have : d = 0 ∨ d = 1 ∨ d = 2 := by omega
  rcases this with rfl | rfl | rfl
  · exact ⟨x, rfl, .inl rfl⟩
  · exact ⟨y, rfl, .inr (.inl rfl)⟩
  · exact ⟨z, rfl, .inr (.inr rfl)⟩
theorem pick2 {x y d : Int} (h0 : 0 ≤ d) (h3 : d < 2) : ∃ v, atI [V.int x, V.int y] d = some (.int v) ∧ (v = x ∨ v = y) := by
  have : d = 0 ∨ d = 1 := by omega
  rcases this with rfl | rfl
  · exact ⟨x, rfl, .inl rfl⟩
  · exact ⟨y, rfl, .inr rfl⟩
theorem pow20 : (10 : Int) ^ (20 : Int).toNat = 100000000000000000000 := by decide
theorem pow9 : (10 : Int) ^ (9 : Int).toNat = 1000000000 := by decide
theorem log_pick {v x y z : Int} (h : v = x ∨ v = y ∨ v = z) (hx : 0 < x ∧ x ≤ 100000000000000000000) (hy : 0 < y ∧ y ≤ 100000000000000000000) (hz : 0 < z ∧ z ≤ 100000000000000000000) : 0 < v ∧ v.natAbs.log2 < 9000 := by
  have hv : 0 < v ∧ v ≤ 100000000000000000000 := by omega
  refine ⟨hv.1, log_lt (m := 67) hv.1 ?_ (by decide)⟩
  have : v.natAbs ≤ 100000000000000000000 := by omega
  exact Nat.lt_of_le_of_lt this (by decide)
theorem pickN {xs : List Str} {d : Int} (h0 : 0 ≤ d) (h1 : d < (xs.map V.str).length) : ∃ x, x ∈ xs ∧ atI (xs.map V.str) d = some (V.str x) := by
  rw [List.length_map] at h1
  have hd : d.toNat < xs.length := by omega
  refine ⟨xs[d.toNat], List.getElem_mem hd, ?_⟩
  unfold atI ixN
  rw [List.length_map, if_pos h0, if_pos h1]
  show (xs.map V.str)[d.toNat]? = _
  simp [hd]
theorem pick4s {d : Int} (h0 : 0 ≤ d) (h4 : d < 4) : ∃ x, TwoW x ∧ atI [V.str "add", V.str "sub", V.str "min", V.str "max"] d = some (V.str x) := by
  have : d = 0 ∨ d = 1 ∨ d = 2 ∨ d = 3 := by omega
  rcases this with rfl | rfl | rfl | rfl
  · exact ⟨"add", .inl rfl, rfl⟩
  · exact ⟨"sub", .inr (.inl rfl), rfl⟩
  · exact ⟨"min", .inr (.inr (.inl rfl)), rfl⟩
  · exact ⟨"max", .inr (.inr (.inr rfl)), rfl⟩
theorem StAt.ne {H : Hp} {l p : Addr} (s : StAt H l) (h : H p = none) : p ≠ l := by
  obtain ⟨st, e, _⟩ := s
  exact (ne_of_none e h).symm
theorem gn_if {i : Nat} {v : V} {τ : St} {H : Hp} {A B : St → Hp → Prop} (h : A (τ.set i (some v)) H) : gName i v τ H fun τ2 H4 => tYes τ2 H4 fun b H5 => if b = true then A τ2 H5 else B τ2 H5 := by
  show if true = true then A (τ.set i (some v)) H else B (τ.set i (some v)) H
  exact iteT h
theorem Told.updL {H : Hp} {D : Addr} {zs : List V} {o : HO} (hD : H D = some (.lst zs)) {e : Ex} {v : V} (t : Told H e v) : Told (upd H D o) e v := t.mono fun b xs h => by
  have hb : b ≠ D := ne_of h hD (by intro z; cases z)
  rw [upd_ne hb]
  exact h
theorem log_1009 : ((1009 : Int).natAbs.log2 < 9000) := by decide
theorem log_2003 : ((2003 : Int).natAbs.log2 < 9000) := by decide
end K04

/-! Gm -/
set_option Elab.async false
set_option linter.all false
set_option maxRecDepth 100000
set_option maxHeartbeats 4000000
namespace K04
open PySem L2
def isIB : V → Bool
  | .int _ => true
  | .bl _ => true
  | _ => false
def isBl : V → Bool
  | .bl _ => true
  | _ => false
def isSt : V → Bool
  | .str _ => true
  | _ => false
def Lf (K : PySem.W.Frag) (H : Hp) (v : V) : Prop := ∃ t, TyOf K H v t ∧ PySem.W.kitOne K t (.type "int") = some (isIB v) ∧ PySem.W.kitOne K t (.type "bool") = some (isBl v) ∧ PySem.W.kitOne K t (.type "str") = some (isSt v)
def whole : V → Bool
  | .int _ => true
  | _ => false
def shortN : V → Bool
  | .int i => decide ((if i < 0 then -i else i) < 100000000000000000000)
  | _ => false
def wordIn (ws : List Str) : V → Bool
  | .str x => inV (.str x) (ws.map V.str)
  | _ => false
def divr : V → Bool
  | .int i => decide (1 ≤ i) && decide (i ≤ 1000000000)
  | _ => false
theorem whole_eq (v : V) : whole v = (isIB v && !isBl v) := by cases v <;> rfl
theorem whole_int {v : V} (h : whole v = true) : ∃ i, v = .int i := by
  cases v <;> simp [whole] at h
  exact ⟨_, rfl⟩
theorem isSt_str {v : V} (h : isSt v = true) : ∃ x, v = .str x := by
  cases v <;> simp [isSt] at h
  exact ⟨_, rfl⟩
theorem inV_str {x : Str} : ∀ {ws : List Str}, inV (.str x) (ws.map V.str) = true ↔ x ∈ ws
  | [] => by simp [inV]
  | w :: ws => by
    have ih := inV_str (x := x) (ws := ws)
    unfold inV at ih ⊢
    rw [List.map_cons, List.any_cons, Bool.or_eq_true, List.mem_cons, ih]
    constructor
    · rintro (h | h)
      · left
        have : V.str w = V.str x := by simpa [eqV] using h
        cases this
        rfl
      · exact .inr h
    · rintro (h | h)
      · left
        subst h
        exact eqV_refl rfl
      · exact .inr h
theorem flat_strs (ws : List Str) : (ws.map V.str).all flatV = true := by
  rw [List.all_eq_true]
  intro v hv
  obtain ⟨x, _, rfl⟩ := List.mem_map.mp hv
  rfl
inductive Gx where
  | num (v : V)
  | name (v : V)
  | two (w : V) (e f : Gx)
  | mod (e : Gx) (n : V)
  | less (e f g h : Gx)
  | oth (v : V)
abbrev twoWs : List Str := ["add", "sub", "min", "max"]
def Gx.sound (names : List Str) : Nat → Gx → Bool
  | 0, _ => false
  | _ + 1, .num v => shortN v
  | _ + 1, .name v => wordIn names v
  | n + 1, .two w e f => wordIn twoWs w && ([e, f].all (Gx.sound names n))
  | n + 1, .mod e v => divr v && Gx.sound names n e
  | n + 1, .less e f g h => [e, f, g, h].all (Gx.sound names n)
  | _ + 1, .oth _ => false
def Ex.gx : Ex → Gx
  | .num i => .num (.int i)
  | .name x => .name (.str x)
  | .two w e f => .two (.str w) e.gx f.gx
  | .mod e n => .mod e.gx (.int n)
  | .less e f g h => .less e.gx f.gx g.gx h.gx
theorem Ex.sound {names : List Str} : ∀ {n : Nat} {e : Ex}, e.ok names → e.dep ≤ n → e.gx.sound names n = true
  | 0, e, _, d => by have := e.dep_pos; omega
  | n + 1, .num i, o, d => by
    obtain ⟨o1, o2⟩ := o
    show decide _ = true
    refine decide_eq_true ?_
    split <;> omega
  | n + 1, .name x, o, d => inV_str.mpr o
  | n + 1, .two w e f, o, d => by
    obtain ⟨hw, o1, o2⟩ := o
    have d : max e.dep f.dep + 1 ≤ n + 1 := d
    have h1 := Ex.sound (n := n) o1 (by omega)
    have h2 := Ex.sound (n := n) o2 (by omega)
    show (inV (.str w) (twoWs.map V.str) && ([e.gx, f.gx].all _)) = true
    have hw' : inV (.str w) (twoWs.map V.str) = true := inV_str.mpr (by rcases hw with rfl | rfl | rfl | rfl <;> simp)
    rw [hw']
    simp [h1, h2]
  | n + 1, .mod e i, o, d => by
    obtain ⟨⟨i1, i2⟩, o1⟩ := o
    have d : e.dep + 1 ≤ n + 1 := d
    have h1 := Ex.sound (n := n) o1 (by omega)
    show ((decide (1 ≤ i) && decide (i ≤ 1000000000)) && e.gx.sound names n) = true
    simp [h1, i1, i2]
  | n + 1, .less e f g h, o, d => by
    obtain ⟨o1, o2, o3, o4⟩ := o
    have d : max (max e.dep f.dep) (max g.dep h.dep) + 1 ≤ n + 1 := d
    have h1 := Ex.sound (n := n) o1 (by omega)
    have h2 := Ex.sound (n := n) o2 (by omega)
    have h3 := Ex.sound (n := n) o3 (by omega)
    have h4 := Ex.sound (n := n) o4 (by omega)
    show ([e.gx, f.gx, g.gx, h.gx].all _) = true
    simp [h1, h2, h3, h4]
def Ex.words : Ex → List Str
  | .num i => [toString i]
  | .name x => [x]
  | .two w e f => w :: (e.words ++ f.words)
  | .mod e n => "mod" :: (e.words ++ [(toString n : Str)])
  | .less e f g h => "less" :: (e.words ++ (f.words ++ (g.words ++ h.words)))
def Ex.size : Ex → Nat
  | .num _ => 1
  | .name _ => 1
  | .two _ e f => 1 + e.size + f.size
  | .mod e _ => 2 + e.size
  | .less e f g h => 1 + e.size + f.size + g.size + h.size
theorem Ex.words_len : ∀ e : Ex, e.words.length = e.size
  | .num _ => rfl
  | .name _ => rfl
  | .two _ e f => by simp [Ex.words, Ex.size, Ex.words_len e, Ex.words_len f]; omega
  | .mod e _ => by simp [Ex.words, Ex.size, Ex.words_len e]; omega
  | .less e f g h => by simp [Ex.words, Ex.size, Ex.words_len e, Ex.words_len f, Ex.words_len g, Ex.words_len h]; omega
end K04

/-! Gm2 -/
set_option Elab.async false
set_option linter.all false
set_option maxRecDepth 100000
set_option maxHeartbeats 4000000
namespace K04
open PySem L2
theorem Gx.of_sound {names : List Str} : ∀ {n : Nat} {g : Gx}, g.sound names n = true → ∃ e : Ex, g = e.gx ∧ e.ok names ∧ e.dep ≤ n
  | 0, _, h => by cases h
  | n + 1, .num v, h => by
    cases v with
    | int i =>
      have h : decide ((if i < 0 then -i else i) < 100000000000000000000) = true := h
      have h := of_decide_eq_true h
      refine ⟨.num i, rfl, ?_, Nat.le_add_left _ _⟩
      split at h
      · constructor <;> omega
      · constructor <;> omega
    | _ => cases h
  | n + 1, .name v, h => by
    cases v with
    | str x => exact ⟨.name x, rfl, inV_str.mp h, Nat.le_add_left _ _⟩
    | _ => cases h
  | n + 1, .two w e f, h => by
    have h : (wordIn twoWs w && ([e, f].all (Gx.sound names n))) = true := h
    rw [Bool.and_eq_true] at h
    obtain ⟨hw, h⟩ := h
    simp only [List.all_cons, List.all_nil, Bool.and_true, Bool.and_eq_true] at h
    obtain ⟨e1, rfl, o1, d1⟩ := Gx.of_sound h.1
    obtain ⟨e2, rfl, o2, d2⟩ := Gx.of_sound h.2
    cases w with
    | str x =>
      refine ⟨.two x e1 e2, rfl, ⟨?_, o1, o2⟩, by show max e1.dep e2.dep + 1 ≤ n + 1; omega⟩
      have hm : x ∈ twoWs := inV_str.mp hw
      simp only [List.mem_cons, List.not_mem_nil, or_false] at hm
      exact hm
    | _ => cases hw
  | n + 1, .mod e v, h => by
    have h : (divr v && Gx.sound names n e) = true := h
    rw [Bool.and_eq_true] at h
    obtain ⟨e1, rfl, o1, d1⟩ := Gx.of_sound h.2
    cases v with
    | int i =>
      have h1 : (decide (1 ≤ i) && decide (i ≤ 1000000000)) = true := h.1
      rw [Bool.and_eq_true] at h1
      exact ⟨.mod e1 i, rfl, ⟨⟨of_decide_eq_true h1.1, of_decide_eq_true h1.2⟩, o1⟩, by show e1.dep + 1 ≤ n + 1; omega⟩
    | _ => cases h.1
  | n + 1, .less e f g k, h => by
    have h : [e, f, g, k].all (Gx.sound names n) = true := h
    simp only [List.all_cons, List.all_nil, Bool.and_true, Bool.and_eq_true] at h
    obtain ⟨h1, h2, h3, h4⟩ := h
    obtain ⟨e1, rfl, o1, d1⟩ := Gx.of_sound h1
    obtain ⟨e2, rfl, o2, d2⟩ := Gx.of_sound h2
    obtain ⟨e3, rfl, o3, d3⟩ := Gx.of_sound h3
    obtain ⟨e4, rfl, o4, d4⟩ := Gx.of_sound h4
    exact ⟨.less e1 e2 e3 e4, rfl, ⟨o1, o2, o3, o4⟩, by show max (max e1.dep e2.dep) (max e3.dep e4.dep) + 1 ≤ n + 1; omega⟩
  | n + 1, .oth _, h => by cases h
theorem Ex.gx_inj : ∀ {e f : Ex}, e.gx = f.gx → e = f
  | .num i, .num j, h => by cases h; rfl
  | .name i, .name j, h => by cases h; rfl
  | .two w e f, .two w' e' f', h => by
    injection h with h1 h2 h3
    cases h1
    rw [Ex.gx_inj h2, Ex.gx_inj h3]
  | .mod e n, .mod e' n', h => by
    injection h with h1 h2
    cases h2
    rw [Ex.gx_inj h1]
  | .less e f g k, .less e' f' g' k', h => by
    injection h with h1 h2 h3 h4
    rw [Ex.gx_inj h1, Ex.gx_inj h2, Ex.gx_inj h3, Ex.gx_inj h4]
theorem pow4 {a b : Nat} (h : a ≤ b) : 4 ^ a ≤ 4 ^ b := Nat.pow_le_pow_right (by decide) h
theorem Ex.size_le : ∀ e : Ex, 3 * e.size + 1 ≤ 4 ^ e.dep
  | .num _ => by show 4 ≤ 4 ^ 1; decide
  | .name _ => by show 4 ≤ 4 ^ 1; decide
  | .two _ e f => by
    have h1 := e.size_le
    have h2 := f.size_le
    have p1 := pow4 (Nat.le_max_left e.dep f.dep)
    have p2 := pow4 (Nat.le_max_right e.dep f.dep)
    show 3 * (1 + e.size + f.size) + 1 ≤ 4 ^ (max e.dep f.dep + 1)
    rw [Nat.pow_succ]
    omega
  | .mod e _ => by
    have h1 := e.size_le
    have h3 := e.dep_pos
    have p1 : 4 ^ 1 ≤ 4 ^ e.dep := pow4 h3
    show 3 * (2 + e.size) + 1 ≤ 4 ^ (e.dep + 1)
    rw [Nat.pow_succ]
    omega
  | .less e f g k => by
    have h1 := e.size_le
    have h2 := f.size_le
    have h3 := g.size_le
    have h4 := k.size_le
    have p1 := pow4 (Nat.le_trans (Nat.le_max_left e.dep f.dep) (Nat.le_max_left _ (max g.dep k.dep)))
    have p2 := pow4 (Nat.le_trans (Nat.le_max_right e.dep f.dep) (Nat.le_max_left _ (max g.dep k.dep)))
    have p3 := pow4 (Nat.le_trans (Nat.le_max_left g.dep k.dep) (Nat.le_max_right (max e.dep f.dep) _))
    have p4 := pow4 (Nat.le_trans (Nat.le_max_right g.dep k.dep) (Nat.le_max_right (max e.dep f.dep) _))
    show 3 * (1 + e.size + f.size + g.size + k.size) + 1 ≤ 4 ^ (max (max e.dep f.dep) (max g.dep k.dep) + 1)
    rw [Nat.pow_succ]
    omega
theorem Ex.size_line {e : Ex} (h : e.dep ≤ 8) : e.size ≤ sizeLine := by
  have h1 := e.size_le
  have h2 : 4 ^ e.dep ≤ 65536 := pow4 h
  have : sizeLine = 16777216 := by decide
  omega
end K04

/-! BExc -/
set_option Elab.async false
set_option linter.all false
set_option maxRecDepth 100000
set_option maxHeartbeats 4000000
namespace L2
open PySem PySem.Spec PyProof.Rows
section
variable {P : Program} {w : World} {H H' : Hp} {h h' : Heap} {a : Addr} {o : HO}
theorem ObjOk.thr (x : ObjOk P w H h a o) : ∃ u, h.get? a = some u := by
  cases o with
  | lst xs => obtain ⟨_, _, _, _, e⟩ := x; exact ⟨_, e⟩
  | tup xs => obtain ⟨_, _, _, _, e, _⟩ := x; exact ⟨_, e⟩
  | dK kvs => obtain ⟨_, _, _, _, o, _, _, e, _⟩ := x; exact ⟨_, e⟩
  | dT kvs => obtain ⟨_, _, _, _, o, _, _, e, _⟩ := x; exact ⟨_, e⟩
  | set S n => obtain ⟨o, _, _, _, e, _⟩ := x; exact ⟨_, e⟩
  | ins C dx fs => obtain ⟨_, _, _, e, _⟩ := x; exact ⟨_, e⟩
  | own y => obtain ⟨_, e⟩ := x; exact ⟨_, e⟩
  | xd fs => obtain ⟨_, ⟨_, _, _, e, _⟩, _⟩ := x; exact ⟨_, e⟩
  | rng lo hi => obtain ⟨_, _, _, e⟩ := x; exact ⟨_, e⟩
  | frz ob u => obtain ⟨e, _⟩ := x; exact ⟨_, e⟩
  | tbl ps => exact ⟨_, show h.get? a = some _ from x⟩
  | met f y => exact ⟨_, show h.get? a = some _ from x⟩
  | ext φ => obtain ⟨_, ⟨_, e⟩, _⟩ := x; exact ⟨_, e⟩
theorem HOk.thr (x : HOk P w H h) (e : H a = some o) : ∃ u, h.get? a = some u := (x a o e).thr
theorem HOk.keptT (x : HOk P w H h) (k : ∀ b u, H b ≠ none → h.get? b = some u → h'.get? b = some u) : HOk P w H h' := fun a o e =>
  (x a o e).stay (fun b u hb q => k b u (by rcases hb with rfl | hb <;> simp_all) q) (fun _ q => q) fun _ _ q => q
end
structure Lies (P : Program) (w : World) (l : List Env) (H : Hp) (s : Shared) (H' : Hp) (s' : Shared) (B : Heap) : Prop where
  os : s'.os = s.os
  bare : AllBare s'.gens
  un : Un (frs l) [] H H' s.heap s'.heap
  hok : HOk P w H' s'.heap
  c1 : ∀ b o, s.heap.get? b = some o → H b = none → b ∉ frs l → B.get? b = some o
  c2 : ∀ b o, H' b ≠ none → s'.heap.get? b = some o → B.get? b = some o
  c3 : ∀ b o, s.heap.get? b = some o → b ∉ frs l → ∃ o', B.get? b = some o'
abbrev CX1 (P : Program) (w : World) : CXT := fun l H s E e s' => ∃ (a : Addr) (cls a0 : Value) (H' : Hp) (B : Heap), e = .ref a ∧ Lies P w l H s H' s' B ∧ Heap.FlyingW B l a cls a0 s'.heap ∧ E cls none H'
section
variable {X : Cx} {pins : List (Addr × Obj)} {σ : St} {H H' : Hp} {s s' : Shared} {B h2 : Heap} {t2 : Nat}
theorem Lies.un2 (I : Inv X pins σ H s) (L : Lies X.prog X.w X.stack H s H' s' B) (st : B.StaysIn h2) (up : s'.heap.UpToSlots h2) : Un (frs X.stack) [] H H' s.heap h2 := by
  have sl : ∀ b o, s.heap.get? b = some o → b ∈ frs X.stack → ∃ z, h2.get? b = some { o with slots := z } := fun b o q hb => by
    obtain ⟨z, e1⟩ := L.un.slot b o q (I.stkFree b hb) hb (by simp)
    obtain ⟨_, o', ho', hd⟩ := I.stack.mem hb
    rw [q] at ho'
    cases ho'
    obtain ⟨z2, e2⟩ := up b _ e1 (fun vs z => hd vs z)
    exact ⟨z2, e2⟩
  refine ⟨fun b o q n hb _ => st b o (L.c1 b o q n hb), fun b o q _ hb _ => sl b o q hb, fun b o q n hx => L.un.free b o q n hx, fun b o q _ => ?_, L.un.tups, L.un.frzs, L.un.tbls⟩
  by_cases hb : b ∈ frs X.stack
  · obtain ⟨z, e⟩ := sl b o q hb
    exact ⟨_, e⟩
  · obtain ⟨o', e⟩ := L.c3 b o q hb
    exact ⟨o', st b o' e⟩
theorem Lies.ok2 {l : List Env} {P : Program} {w : World} (L : Lies P w l H s H' s' B) (st : B.StaysIn h2) : HOk P w H' h2 := L.hok.keptT fun b u hb q => st b u (L.c2 b u hb q)
theorem Lies.inv (I : Inv X pins σ H s) (L : Lies X.prog X.w X.stack H s H' s' B) (st : B.StaysIn h2) (up : s'.heap.UpToSlots h2) : Inv X pins σ H' { s' with heap := h2, toks := t2 } := by
  refine I.call' (s' := { s' with heap := h2, toks := t2 }) (ch := []) L.os (L.un2 I st up) (L.ok2 st) L.bare (fun b z => absurd z (by simp))
theorem Lies.out (I : Inv X pins σ H s) (L : Lies X.prog X.w X.stack H s H' s' B) (st : B.StaysIn h2) (up : s'.heap.UpToSlots h2) (hx : X.ex = []) : Lies X.prog X.w X.outer X.H₀ X.s₀ H' { s' with heap := h2 } B := by
  have J := Lies.inv (t2 := s'.toks) I L st up
  have ns : ∀ b o, X.s₀.heap.get? b = some o → b ∉ frs X.outer → b ∉ frs X.stack := fun b o q hb z => by
    rcases List.mem_cons.mp (I.stkSub b z) with e | e
    · exact absurd (Nat.lt_of_lt_of_le (Heap.lt_size q) I.ok.above) (by rw [e]; exact Nat.lt_irrefl _)
    · exact hb e
  have hn : ∀ b : Addr, b ∉ X.ex := fun b => by rw [hx]; simp
  refine ⟨J.os, J.bare, ?_, J.hok, fun b o q n hb => ?_, fun b o hb q => ?_, fun b o q hb => ?_⟩
  · have := J.base
    rw [hx] at this
    exact this
  · exact L.c1 b o (I.base.keep b o q n hb (hn b)) (I.base.free b o q n (hn b)) (ns b o q hb)
  · cases e : H' b with
    | none => exact absurd e hb
    | some u =>
      obtain ⟨v, hv⟩ := L.hok.thr e
      have z := L.c2 b v hb hv
      have q' : h2.get? b = some o := q
      rw [st b v z] at q'
      cases q'
      exact z
  · obtain ⟨o', e⟩ := I.base.there b o q (hn b)
    exact L.c3 b o' e (ns b o q hb)
theorem lies_new (I : Inv X pins σ H s) (k : ∀ b u, s.heap.get? b = some u → h2.get? b = some u) : Lies X.prog X.w X.stack H s H { s with heap := h2 } (PySem.W.hideAll s.heap (frs X.stack)) := by
  refine ⟨rfl, I.bare, Un.kept k, I.hok.kept k, fun b o q _ hb => PySem.W.hideAll_get _ q hb, fun b o hb q => ?_, fun b o q hb => ⟨o, PySem.W.hideAll_get _ q hb⟩⟩
  cases e : H b with
  | none => exact absurd e hb
  | some u =>
    obtain ⟨v, hv⟩ := I.hok.thr e
    have q' : h2.get? b = some o := q
    rw [k b v hv] at q'
    cases q'
    exact PySem.W.hideAll_get _ hv fun z => hb (I.stkFree b z)
end
section
variable {P : Program} {w : World} {K : PySem.W.Frag} {mg : Str → Option Value} {base : Heap} {N : List Str} {qual : Str} {scope : Scope} {f : Addr} {cd : Value} {A : Around} {outer : List Env} {s0 : Shared} {H0 : Hp} {E : XK}
theorem leave1 {pins : List (Addr × Obj)} {σ : St} {H : Hp} {s : Shared} {h' : Heap} {e : Addr} {cls : Value} {args : List Value} (I : Inv (cxOf (CX1 P w) P w K mg base N qual scope f cd A outer s0 H0 E) pins σ H s)
    (hx : Heap.MadeExcOf s.heap h' e cls args) (q : E cls none H) : (cxOf (CX1 P w) P w K mg base N qual scope f cd A outer s0 H0 E).xe (.ref e) { s with heap := h' } := by
  have hfr := I.ok.frames
  have L := lies_new I hx.keeps
  refine wpAny_leaves_madeW (M := model P w) (A := A.deeper (envOfC qual scope s0.heap.objs.size f cd)) (s := { s with heap := h' }) (outer := outer) (L := s0.heap.objs.size) (base := PySem.W.hideAll s.heap (frs (envOfC qual scope s0.heap.objs.size f cd :: outer))) hfr rfl (fun b o q => PySem.W.of_hideAll _ q)
    (PySem.W.funFrames_hide I.stack fun env he b hb => List.mem_filterMap.mpr ⟨env, he, hb⟩) hx fun h2 t F2 _ _ up => ?_
  exact ⟨e, cls, .ref t, H, _, rfl, L.out I F2.1 up rfl, F2, q⟩
end
end L2

/-! BExc2 -/
set_option Elab.async false
set_option linter.all false
set_option maxRecDepth 100000
set_option maxHeartbeats 4000000
namespace L2
open PySem PySem.Spec PyProof.Rows
abbrev bmVal : List Value := [.type "ValueError", .type "Exception", .type "BaseException", .type "object"]
def XCls (K : PySem.W.Frag) (C : Addr) : Prop := PySem.W.excIn K C bmVal "ValueError.__new__" = true
def XObj (h : Heap) (C : Addr) : Prop := ∃ bm N nm qn bs hd sn sub ab col dd k0 k1 k2 k3 k5 mN, h.get? C = some (excClassObj nm qn C N bs bm hd sn sub ab col dd k0 k1 k2 k3 k5 "ValueError.__new__") ∧ h.Ns N mN ∧ mN "__init__" = none ∧ OwnTail h bmVal bm
theorem XCls.obj {K : PySem.W.Frag} {C : Addr} (x : XCls K C) {h : Heap} (I : K.In h) : XObj h C := by
  unfold XCls PySem.W.excIn at x
  split at x
  case h_2 => cases x
  case h_1 dd cd sl lk =>
    split at x
    case h_2 => cases x
    case h_1 C2 bm k0 k1 k2 k3 nid k5 em es =>
      rw [Bool.and_eq_true, Bool.and_eq_true, Bool.and_eq_true, Bool.and_eq_true, Bool.and_eq_true] at x
      obtain ⟨⟨⟨⟨⟨x1, x2⟩, x3⟩, x4⟩, x5⟩, x6⟩ := x
      cases (beq_iff_eq.mp x1)
      cases (beq_iff_eq.mp x2)
      cases cd with
      | mk nm bs mro ns qn hd sn sub ab col del =>
        have e1 : mro = .ref C :: bm := em
        have e2 : del = false := by
          cases del with
          | false => rfl
          | true => cases x3
        have e3 : sl = #[k0, k1, k2, k3, some (.builtin "ValueError.__new__"), k5] := by
          cases sl with
          | mk l =>
            have e : l = _ := es
            rw [e]
        rw [e1, e2, e3] at lk
        exact ⟨bm, ns, nm, qn, bs, hd, sn, sub, ab, col, dd, k0, k1, k2, k3, k5, _, I _ _ lk, .of_isNs (PySem.W.isNs_of_in I x5), PySem.W.nsMap_none_of_in I x5 (beq_iff_eq.mp x6), PySem.W.tail_of_in I x4⟩
theorem XObj.keeps {h h' : Heap} {C : Addr} (x : XObj h C) (k : ∀ b o, h.get? b = some o → h'.get? b = some o) : XObj h' C := by
  obtain ⟨bm, N, nm, qn, bs, hd, sn, sub, ab, col, dd, k0, k1, k2, k3, k5, mN, h1, h2, h3, h4⟩ := x
  exact ⟨bm, N, nm, qn, bs, hd, sn, sub, ab, col, dd, k0, k1, k2, k3, k5, mN, k _ _ h1, h2.keeps k, h3, h4.keeps k⟩
section
variable {P : Program} {w : World} {K : PySem.W.Frag} {mg : Str → Option Value} {base : Heap} {N : List Str} {qual : Str} {scope : Scope} {f : Addr} {cd : Value} {A : Around} {outer : List Env} {s0 : Shared} {H0 : Hp} {E : XK}
  {x : Str} {C : Addr} {e : Expr} {es : List Expr} {t : TA} {np cpos pos : Pos}
def tRz (C : Addr) (E : XK) (t : TA) : TS := fun _ σ H => t σ H fun vs H1 => vs.length ≤ 1000 ∧ E (.ref C) none H1
theorem ps_raise (hc : (A.deeper (envOfC qual scope s0.heap.objs.size f cd)).handled = none) (c : XCls K C) (hm : mg x = some (.ref C)) (ha : PA (cxOf (CX1 P w) P w K mg base N qual scope f cd A outer s0 H0 E) (e :: es) t)
    (hg : Gl (cxOf (CX1 P w) P w K mg base N qual scope f cd A outer s0 H0 E) x := by rfl)
    (he : starEach (e :: es) (cxOf (CX1 P w) P w K mg base N qual scope f cd A outer s0 H0 E).env = (false, eval e (cxOf (CX1 P w) P w K mg base N qual scope f cd A outer s0 H0 E).env) :: starEach es (cxOf (CX1 P w) P w K mg base N qual scope f cd A outer s0 H0 E).env := by rfl)
    (hpl : (backTo cpos (starEach es (cxOf (CX1 P w) P w K mg base N qual scope f cd A outer s0 H0 E).env)).any (·.1) = false := by rfl) (hdb : (x == ("__debug__" : Str)) = false := by decide) :
    PS (cxOf (CX1 P w) P w K mg base N qual scope f cd A outer s0 H0 E) (.Raise (some (.Call (.Name x np) (e :: es) [] cpos)) none pos) (tRz C E t) := by
  intro pins s σ H D I h
  obtain ⟨bm, Nn, nm, qn, bs, hd, sn, sub, ab, col, dd, k0, k1, k2, k3, k5, mN, h1, h2, h3, h4⟩ := c.obj I.mod.kin
  refine wpAny_Raise_call_subT (C := C) (nm := nm) (q := qn) (N := Nn) (bs := bs) (bm := bm) (hdct := hd) (sn := sn) (sub := sub) (ab := ab) (col := col) (dd := dd) (k0 := k0) (k1 := k1) (k2 := k2) (k3 := k3) (k5 := k5) PySem.F.excBase_ValueError (mN := mN)
    (h4.hasType rfl) hc (by rw [he]; exact hpl) h3 (ld_glob I hg hm ⟨rfl, ?_⟩ hdb)
  have hA := ha cpos pins s σ H _ I h
  rw [he] at hA ⊢
  refine Calls.evalArgs_plain (wpAny_mono hA (fun us s2 hq => ?_) fun _ _ z => z)
  obtain ⟨vs, H1, I1, r1, hl, q⟩ := hq
  refine ⟨rfl, ?_, I1.bk _ _ h1, h2.keeps I1.bk, h4.keeps I1.bk, fun h' e' hx => leave1 I1 hx q⟩
  show us.length ≤ sizeLine
  rw [← r1.length]
  exact Nat.le_of_lt (small1000 hl)
end
end L2

/-! BExc3 -/
set_option Elab.async false
set_option linter.all false
set_option maxRecDepth 100000
set_option maxHeartbeats 4000000
namespace L2
open PySem PySem.Spec PyProof.Rows
def XP (X : Cx) (pins : List (Addr × Obj)) (σ : St) (E : XK) (e : Value) (s' : Shared) : Prop := ∃ H1 s1, Inv X pins σ H1 s1 ∧ CX1 X.prog X.w X.stack H1 s1 E e s'
def PV (X : Cx) (e : Expr) (t : XK → TE) : Prop := ∀ (pins : List (Addr × Obj)) (s : Shared) (σ : St) (H : Hp) (Q : VK) (E : XK), Inv X pins σ H s → t E σ H Q → wpAny (model X.prog X.w) X.A (eval e X.env) (EP X pins σ Q) (XP X pins σ E) s
def PX (X : Cx) (b : List Stmt) (t : XK → TS) : Prop := ∀ (pins : List (Addr × Obj)) (s : Shared) (σ : St) (H : Hp) (D : Ends) (E : XK), Inv X pins σ H s → t E D σ H → wpAny (model X.prog X.w) X.A (execs b X.env) (SP X pins D) (XP X pins σ E) s
section
variable {X : Cx} {k : Nat} {f C : Addr} {fd : FuncData} {ps : List Str} {sp : Sp} {dvs : List V} {ds : List Value} {x : Str} {p pos : Pos} {e : Expr} {es : List Expr} {t : TA}
theorem run_make1 {E : XK} {pins : List (Addr × Obj)} {σ : St} {H : Hp} {s : Shared} {Q : VK} {us : List Value} {vs : List V} (M : Mk X.K C f) (F : FnOk X.prog X.w X.K X.mg X.base (CX1 X.prog X.w) k f fd ps sp) (hr : Room (k + 1) X.A) (hb : Binds X.K fd ps ds) (hd : Vals dvs ds)
    (I : Inv X pins σ H s) (r : Vals vs us)
    (h : ∀ x dx, H x = none → H dx = none → dx ≠ x → sp (.ref x :: (vs ++ dvs)) (upd (upd H dx (.own x)) x (.ins C dx [])) (fun v H2 => v = .non ∧ Q (.ref x) H2) E) :
    wpAny (model X.prog X.w) X.A (call (.ref C) us) (EP X pins σ Q) (XP X pins σ E) s := by
  have hq := h (s.heap.objs.size + 1) s.heap.objs.size (I.hok.fresh (Nat.le_succ _)) (I.hok.fresh (Nat.le_refl _)) (Nat.ne_of_lt (Nat.lt_succ_self _))
  have I2 := Inv.made (C := C) I
  have r2 : Vals (V.ref (s.heap.objs.size + 1) :: (vs ++ dvs)) (Value.ref (s.heap.objs.size + 1) :: (us ++ ds)) := .cons rfl (r.append hd)
  have hl : (Value.ref (s.heap.objs.size + 1) :: us ++ ds).length = ps.length := by
    have e := r2.length
    rw [F.len _ _ _ _ hq] at e
    exact e.symm
  refine wpAny_call (make_map (f := f) I.kIn M.makes M.init (beq_iff_eq.mp M.fn) (codeAny_mono (F.run _ X.stack _ _ ⟨Value.ref (s.heap.objs.size + 1) :: us, []⟩ (Value.ref (s.heap.objs.size + 1) :: (us ++ ds)) _ _ E (hr.make C us [])
    (I2.env0.make C us []) (hb _ (Value.ref (s.heap.objs.size + 1) :: us) I2.kIn hl) r2 hq) fun r s' hq' => ?_))
  cases r with
  | error e => exact ⟨_, _, I2, hq'⟩
  | ok fl =>
    cases fl with
    | ret u =>
      obtain ⟨v, H', I3, rv, ev, q3⟩ := I2.after hq'
      subst ev
      exact ⟨rv, ⟨V.ref (s.heap.objs.size + 1), H', I3, rfl, q3⟩⟩
    | next => exact False.elim hq'
    | brk => exact False.elim hq'
    | cont => exact False.elim hq'
theorem pv_make (M : Mk X.K C f) (F : FnOk X.prog X.w X.K X.mg X.base (CX1 X.prog X.w) k f fd ps sp) (hr : Room (k + 1) X.A) (hm : X.mg x = some (.ref C)) (hb : Binds X.K fd ps [])
    (ha : PA X.nox (e :: es) t) (hg : Gl X x := by rfl) (hdb : (x == ("__debug__" : Str)) = false := by decide) (he : starEach (e :: es) X.env = (false, eval e X.env) :: starEach es X.env := by rfl) (hpl : (backTo pos (starEach es X.env)).any (·.1) = false := by rfl) :
    PV X (.Call (.Name x p) (e :: es) [] pos) (fun E => tMake C sp [] E t) := by
  intro pins s σ H Q E I h
  refine wpAny_Call_Name_kw (ld_glob I hg hm ?_ hdb)
  refine PySem.W.callWith_K (h₀ := X.base) I.ok.mod.kin M.kp (wpAny_mono (ha pos pins s σ H _ (I.wish _) h) (fun us s1 hq => ?_) (fun _ _ z => False.elim z)) he hpl
  obtain ⟨vs, H1, I1, r, q⟩ := hq
  exact ⟨I1.unwish.kIn, run_make1 M F hr hb .nil I1.unwish r q⟩
theorem px_expr {te : XK → TE} (h : PV X e te) (hs : swapsWith e none pos.line X.env = pure false := by rfl) : PX X [.Expr e pos] (fun E => tDrop (te E)) := by
  intro pins s σ H D E I q
  refine wpAny_execs_cons (wpAny_Expr_any (wpAny_mono (h pins s σ H _ E I q) (fun v s1 hq => ?_) fun _ _ z => z) I.quiet hs)
  obtain ⟨y, H1, I1, r1, q1⟩ := hq
  exact wpAny_execs_nil ⟨σ, H1, I1, q1⟩
end
abbrev Cx.inH (X : Cx) (a : Addr) : Cx := { X with A := X.A.mark (some (.ref a)), calm := false, xe := fun _ _ => False }
section
variable {X : Cx} {pins : List (Addr × Obj)} {σ : St} {H : Hp} {s : Shared} {a : Addr}
theorem Inv.inH (I : Inv X pins σ H s) (a : Addr) : Inv (X.inH a) pins σ H s :=
  ⟨⟨I.ok.mod, I.ok.kind, I.ok.glob, I.ok.blt, I.ok.above, I.ok.inj, I.ok.has, I.ok.cab, (fun z => nomatch z), I.ok.frames, I.ok.stk, I.ok.exf, I.ok.bs, I.ok.bsz, I.ok.noex, I.ok.exfs, I.ok.funs, I.ok.frf⟩, I.os, I.bare, I.base, I.loc, I.cell, I.free, I.freeC, I.pin, I.hok, I.len⟩
theorem Inv.unH (ok : X.Ok) (I : Inv (X.inH a) pins σ H s) : Inv X pins σ H s := ⟨ok, I.os, I.bare, I.base, I.loc, I.cell, I.free, I.freeC, I.pin, I.hok, I.len⟩
theorem SP.unH {D : Ends} {f : Flow} {s' : Shared} (ok : X.Ok) (h : SP (X.inH a) pins D f s') : SP X pins D f s' := by
  cases f with
  | next => obtain ⟨σ', H', I, q⟩ := h; exact ⟨σ', H', I.unH ok, q⟩
  | brk => obtain ⟨σ', H', I, q⟩ := h; exact ⟨σ', H', I.unH ok, q⟩
  | cont => obtain ⟨σ', H', I, q⟩ := h; exact ⟨σ', H', I.unH ok, q⟩
  | ret u => obtain ⟨v, σ', H', I, r, q⟩ := h; exact ⟨v, σ', H', I.unH ok, r, q⟩
end
end L2
namespace L2
open PySem PySem.Spec PyProof.Rows
structure Maker1 (P : Program) (w : World) (K : PySem.W.Frag) (mg : Str → Option Value) (base : Heap) (x : Str) (C f : Addr) (fd : FuncData) (ps : List Str) (k : Nat) (sp : Sp) : Prop where
  ok : FnOk P w K mg base (CX1 P w) k f fd ps sp
  g : mg x = some (.ref C)
  mm : Mk K C f
  b : Binds K fd ps []
section
variable {X : Cx} {k : Nat} {f C : Addr} {fd : FuncData} {ps : List Str} {sp : Sp} {x : Str} {p pos : Pos} {e : Expr} {es : List Expr} {t : TA}
theorem pv_m (c : Maker1 X.prog X.w X.K X.mg X.base x C f fd ps k sp) (hr : Room (k + 1) X.A) (ha : PA X.nox (e :: es) t) (hg : Gl X x := by rfl) (hdb : (x == ("__debug__" : Str)) = false := by decide)
    (he : starEach (e :: es) X.env = (false, eval e X.env) :: starEach es X.env := by rfl) (hpl : (backTo pos (starEach es X.env)).any (·.1) = false := by rfl) : PV X (.Call (.Name x p) (e :: es) [] pos) (fun E => tMake C sp [] E t) :=
  pv_make c.mm c.ok hr c.g c.b ha hg hdb he hpl
end
section
variable {P : Program} {w : World} {K : PySem.W.Frag} {mg : Str → Option Value} {base : Heap}
theorem Fun.ok1 {x qual : Str} {st : Stmt} {f : Addr} {fd : FuncData} {N ps : List Str} {k : Nat} {sp : Sp} (F : Fun K x qual st f fd) (S : FnScope N ps (defScope st)) (len : ∀ vs H Q E, sp vs H Q E → vs.length = ps.length)
    (hbody : ∀ (cdv : Value) (A : Around) (outer : List Env) (s : Shared) (H : Hp) (vs : List V) (Q : VK) (E : XK), Room k (A.deeper (envOfC qual (defScope st) s.heap.objs.size f cdv)) → sp vs H Q E →
      ∃ t, PSs (cxOf (CX1 P w) P w K mg base N qual (defScope st) f cdv A outer s H E) (defBody st) t ∧ t { nx := fun _ H' => Q .non H', rt := Q } (start N vs) H) : FnOk P w K mg base (CX1 P w) (k + 1) f fd ps sp := by
  obtain ⟨oc, od, kV, doc, pm, an, cdv, ct, osl, rfl, lk, hcd⟩ := F.ex
  exact fn_of lk hcd S len fun A outer s H vs Q E hr hsp => hbody cdv A outer s H vs Q E hr hsp
end
end L2

/-! BExc4 -/
set_option Elab.async false
set_option linter.all false
set_option maxRecDepth 100000
set_option maxHeartbeats 4000000
namespace L2
open PySem PySem.W PySem.Spec PySem.Calls PyProof.Rows PySem.Builtin PySem.Builtin.ObjectAttr PySem.Builtin.Getset_descriptor
def ObC (x C : Addr) (h : Heap) : Prop := ∃ o, h.get? x = some o ∧ o.cls = .ref C
structure XIs (K : Frag) (C : Addr) : Prop where
  ga : findIn K (.ref C) "__getattribute__" = some (some (.builtin "BaseException.__getattribute__"))
  gt : findIn K (.ref C) "__getattr__" = some none
  ha : findIn K (.ref C) "__class__" = some (some (.builtin "object.__class__"))
  hn : specialIn K (.builtin "object.__class__") "__get__" = some (some (.builtin "getset_descriptor.__get__"))
  htk : takesIn K (.builtin "object.__class__") = some true
  hm : mroIn K C (.type "object") = some true
  hb : mroIn K C (.type "BaseException") = some true
  hd : hasDictIn K C = true
section
variable {K : Frag} {M : Model} {h : Heap} {x C : Addr} {name : Str}
theorem ObC.type (I : ObC x C h) : Looks M h (typeOf (.ref x)) (.ref C) := by
  obtain ⟨o, h1, h2⟩ := I
  rw [← h2]
  exact (Looks.ld h1).andThen .now
theorem find_data {a g : Value} (X : K.In h) (ha : findIn K (.ref C) name = some (some a)) (hg : specialIn K a "__get__" = some (some g)) (hd : takesIn K a = some true) :
    Looks M h (find (.ref x) (.ref C) name) (.bind g a) := by
  have L2 : Looks M h (getOf (some a)) (some g) := looks_specialIn X hg
  have L3 : Looks M h (dataDescriptor? (some a) (some g)) (some (g, a)) := (looks_takesIn X hd).andThen .now
  exact (looks_findIn X ha).andThen (L2.andThen (L3.andThen (Looks.tag .now)))
end
section
variable {prog : Program} {w : World} {A : Around} {E : Value → Shared → Prop} {K : Frag} {x C : Addr} {s : Shared}
theorem cls_got {R : Result → Shared → Prop} {tp : Value} (X : K.In s.heap) (I : ObC x C s.heap) (hm : mroIn K C (.type "object") = some true) (k : R (.ok (.ret (.ref C))) s) :
    codeAny (model prog w) A (.call (.builtin "getset_descriptor.__get__") ⟨[.builtin "object.__class__", .ref x, tp], []⟩) R s := by
  obtain ⟨hh, gg, dr, tt, ss⟩ := s
  have T0 := I.type (M := model prog w)
  have T1 := looks_mroIn (M := model prog w) X hm
  refine codeAny_call_builtin KF.slot_gs.plain KF.entry_gs ?_
  refine KF.slot_gs.check _ _ _ _ _ _ _ _ KF.type_class (KF.args_gs _ _ _) ?_
  unfold Builtin.«getset_descriptor.__get__»
  unfold descrGet
  rw [dga_obj]
  refine wpAny_bind (wpAny_pure ?_)
  unfold descrGetter descrCheckInstance
  unfold descrNameAndClass isInstance
  simp only [KF.owner_class]
  repeat lk
  refine ⟨Code.quiet_builtin _ (by decide +kernel), ?_⟩
  refine codeAny_builtin KF.entry_class ?_
  unfold Builtin.«object.__class__»
  unfold shownTypeOf
  repeat lk
  exact k
theorem ga_check {nameV : Value} {Q : Unit → Shared → Prop} (X : K.In s.heap) (I : ObC x C s.heap) (hb : mroIn K C (.type "BaseException") = some true) (k : Q () s) :
    wpAny (model prog w) A (checkBuiltinCall "BaseException.__getattribute__" ⟨[.ref x, nameV], []⟩) Q E s := by
  have T0 := I.type (M := model prog w)
  have T1 := looks_mroIn (M := model prog w) X hb
  have hk : builtinKind "BaseException.__getattribute__" = some .slot := by decide +kernel
  have hsplit : splitId "BaseException.__getattribute__" = some ("BaseException", "__getattribute__") := by decide +kernel
  have ha := F.args_bexc_ga (.ref x) nameV
  obtain ⟨hh, gg, dr, tt, ss⟩ := s
  simp only [checkBuiltinCall, hk, hsplit]
  refine wpAny_bind ?_
  unfold isInstance
  repeat lk
  exact k
theorem cls_entry {tk : Tok} {Q : Fin → Shared → Prop} (X : K.In s.heap) (I : ObC x C s.heap) (c : XIs K C) (k : Q (.done (.ret (.ref C))) s) :
    wpAny (model prog w) A (Builtin.«object.__getattribute__» ⟨[.ref x, .str "__class__" tk], []⟩) Q E s := by
  have T0 := I.type (M := model prog w)
  have T1 := find_data (M := model prog w) (x := x) X c.ha c.hn c.htk
  obtain ⟨hh, gg, dr, tt, ss⟩ := s
  unfold Builtin.«object.__getattribute__»
  repeat lk
  refine wpAny_run (h := none) ?_
  exact cls_got X I c.hm (wpAny_pure (wpAny_pure k))
theorem cls_by {tk : Tok} {Q : Value → Shared → Prop} (X : K.In s.heap) (I : ObC x C s.heap) (c : XIs K C) (k : Q (.ref C) s) :
    wpAny (model prog w) A (getAttrBy (.ref x) (.str "__class__" tk) false) Q E s := by
  have T0 := I.type (M := model prog w)
  have T1 := looks_findIn (M := model prog w) X c.ga
  have T2 := looks_findIn (M := model prog w) X c.gt
  have f3 := F.attr_ValueError.ga.bind (.ref x)
  obtain ⟨hh, gg, dr, tt, ss⟩ := s
  unfold getAttrBy
  refine wpAny_holding (wpAny_bind (T0.at (wpAny_bind (T1.at ?_))))
  show wpAny _ _ (if (onTheHeap (Value.ref C) && Value.builtin "BaseException.__getattribute__" == Value.builtin "object.__getattribute__") = true then _ else _) _ _ _
  have z : (Value.builtin "BaseException.__getattribute__" == Value.builtin "object.__getattribute__") = false := by decide +kernel
  rw [z, Bool.and_false, if_neg Bool.false_ne_true]
  unfold getAttrByItsOwn
  refine wpAny_bind (T2.at ?_)
  refine wpAny_bind (wpAny_attempt (wpAny_holding ?_))
  show wpAny _ _ (boundAndCalled _ _ _) _ _ _
  unfold boundAndCalled
  rw [f3]
  refine wpAny_bind (wpAny_pure (wpAny_call ?_))
  refine codeAny_call_builtin F.attr_ValueError.ga.plain F.entry_bexc_ga ?_
  exact ga_check X I c.hb (cls_entry X I c (wpAny_pure k))
theorem cls_attr {Q : Option Value → Shared → Prop} (X : K.In s.heap) (I : ObC x C s.heap) (c : XIs K C) (k : Q (some (.ref C)) { s with toks := s.toks + 1 }) :
    wpAny (model prog w) A (getAttr? (.ref x) "__class__") Q E s := by
  obtain ⟨hh, gg, dr, tt, ss⟩ := s
  unfold getAttr? getAttrBy?
  refine wpAny_bind (wpAny_mkText (wpAny_bind (wpAny_attempt ?_)))
  exact cls_by (s := ⟨hh, gg, dr, tt + 1, ss⟩) X I c (wpAny_pure k)
theorem kitx_exc (c : XIs K C) : KitX K (.ref x) (.ref C) (ObC x C) where
  ty := fun _ _ _ I => I.type
  it := fun _ _ X _ => by
    obtain ⟨cd, hc, _⟩ := any_some c.hd
    unfold clsIn at hc
    split at hc
    · rename_i ho
      intro A' Q' E' s' k q
      unfold isType loadHead
      exact wpAny_bind (wpAny_loadPart (k _ _ (X _ _ ho)) (wpAny_pure q))
    · cases hc
  ne := fun h tp dd its n sl X htp => by
    obtain ⟨cd, hc, _⟩ := any_some c.hd
    refine Bool.eq_false_iff.mpr fun q => ?_
    cases Value.ref.inj (beq_iff_eq.mp q)
    unfold clsIn at hc
    split at hc
    · rename_i ho
      cases (X _ _ ho).symm.trans htp
    · cases hc
  ca := fun X I k => cls_attr X I c k
end
section
variable {X : Cx}
def rIsiX (K : Frag) : List V → Hp → VK → Prop := fun xs H Q => ∃ (x C : Addr) (c : V) (cv : Value) (b : Bool), xs = [.ref x, c] ∧ clsV c = some cv ∧ H x = some (.ext (ObC x C)) ∧ XIs K C ∧ kitOne K (.ref C) cv = some b ∧ Q (.bl b) H
theorem call_isiX : CallR X (.builtin "isinstance") (rIsiX X.K) := by
  intro pins s σ H xs us Q I r h
  obtain ⟨x, C, c, cv, b, rfl, hc, hx, xi, e, q⟩ := h
  obtain ⟨u, v, rfl, r1, r2⟩ := r.two
  obtain rfl := clsV_rel hc r2
  cases (show u = Value.ref x from r1)
  obtain ⟨p, _, _⟩ := (show ObjOk X.prog X.w H s.heap x (.ext (ObC x C)) from I.hok x _ hx)
  exact kia_one (kitx_exc xi) I.kIn p e (fun z => nomatch z) fun tk => ⟨.bl b, H, I.tok tk, rfl, q⟩
theorem call_isiK {K : Frag} (h : X.K = K) : CallR X (.builtin "isinstance") (rIsiX K) := by
  subst h
  exact call_isiX
end
end L2

/-! BExc5 -/
set_option Elab.async false
set_option linter.all false
set_option maxRecDepth 100000
set_option maxHeartbeats 4000000
namespace L2
open PySem PySem.Spec PyProof.Rows
section
variable {X : Cx} {pins : List (Addr × Obj)} {σ : St} {H : Hp} {s : Shared}
theorem Inv.addX {a C : Addr} (I : Inv X pins σ H s) (h0 : ∀ b o, X.s₀.heap.get? b = some o → b ∉ X.ex → b ≠ a) (hn : H a = none) (hl : X.env.locals ≠ a) (hc : ∀ x c, X.env.cells.lookup x = some c → c ≠ a) (hp : ∀ p ∈ X.pn ++ pins, p.1 ≠ a) (ob : ObC a C s.heap) :
    Inv X pins σ (upd H a (.ext (ObC a C))) s := by
  have ne : ∀ {b : Addr} {u : HO}, H b = some u → b ≠ a := fun e => ne_of_none e hn
  refine ⟨I.ok, I.os, I.bare, ⟨I.base.keep, I.base.slot, fun b o q n hx => ?_, I.base.there, fun b xs q => ?_, fun b o u q => ?_, fun b ps q => ?_⟩, I.loc, I.cell, ?_, fun x c e => ?_, fun p hq => ?_, fun b u e => ?_, I.len⟩
  · rw [upd_ne (h0 b o q hx)]
    exact I.base.free b o q n hx
  · have := I.base.tups b xs q
    rw [upd_ne (ne this)]
    exact this
  · have := I.base.frzs b o u q
    rw [upd_ne (ne this)]
    exact this
  · obtain ⟨more, this⟩ := I.base.tbls b ps q
    exact ⟨more, by rw [upd_ne (ne this)]; exact this⟩
  · rw [upd_ne hl]
    exact I.free
  · rw [upd_ne (hc x c e)]
    exact I.freeC x c e
  · obtain ⟨e, n, n1, n2, d⟩ := I.pin p hq
    exact ⟨e, by rw [upd_ne (hp p hq)]; exact n, n1, n2, d⟩
  · by_cases hb : b = a
    · subst hb
      rw [upd_same] at e
      cases e
      refine ⟨ob, ?_, fun h1 h2 p q => ?_⟩
      · obtain ⟨o, e, _⟩ := ob
        exact ⟨o, e⟩
      · obtain ⟨o, e, c⟩ := p
        exact ⟨o, q o e, c⟩
    · rw [upd_ne hb] at e
      exact (I.hok b u e).stay (fun c v _ q => q) (fun c q => by rw [upd_ne (ne_of_none q hn)]; exact q) fun c xs q => by rw [upd_ne (ne_of_none q hn)]; exact q
theorem unbind_ok {M : Model} {A : Around} {E : Value → Shared → Prop} {i : Nat} {x : Str} {Q : Unit → Shared → Prop} (I : Inv X pins σ H s) (hN : X.N.Nodup) (hi : X.N[i]? = some x) (hk : X.env.scope.names.lookup x = some .local) {v : V} (hv : σ[i]? = some (some v))
    (h : ∀ s', Inv X pins (σ.set i none) H s' → Q () s') : wpAny M A (unbindName X.env x) Q E s := by
  obtain ⟨m, hn, hl⟩ := id I.loc
  have hcls : (X.env.scope.kind == .class || (X.env.scope.kind == .module && X.env.locals != X.env.globals)) = false := by rw [I.ok.kind]; rfl
  have cne := I.cne
  have hm : ∃ u, m x = some u := by
    obtain ⟨u, _, q⟩ := hl i x v hi hv (.inl hk)
    rcases q with ⟨_, e⟩ | ⟨k, _⟩
    · exact ⟨u, e⟩
    · have hk' : X.env.kindOf x = some .local := hk
      rw [hk'] at k
      rcases k with k | k <;> cases k
  obtain ⟨u0, hm⟩ := hm
  obtain ⟨oL, _, _, hoL, _⟩ := id hn
  refine wpAny_unbindName_local hk hn hm hcls fun h' u' hn' hs => ?_
  have tracked : HOk X.prog X.w H h' := fun b ob e => by
    refine (I.hok b ob e).stay (fun c w' hc q => (hs.2 c ?_).trans q) (fun _ q => q) fun _ _ q => q
    rintro rfl
    have hfree := I.free
    rcases hc with rfl | hc
    · rw [hfree] at e; cases e
    · rw [hfree] at hc; cases hc
  refine h _ ⟨I.ok, I.os, I.bare, ⟨fun b o e n hb hx => ?_, fun b o e n hb hx => ?_, I.base.free, fun b o e hx => ?_, I.base.tups, I.base.frzs, I.base.tbls⟩, ⟨_, hn', fun j y v' e1 e2 e3 => ?_⟩, fun y c e => ?_, I.free, I.freeC, fun p hp => ?_, tracked, by simpa using I.len⟩
  · exact (hs.2 b (Nat.ne_of_lt (Nat.lt_of_lt_of_le (Heap.lt_size e) I.ok.above))).trans (I.base.keep b o e n hb hx)
  · obtain ⟨sl, e1⟩ := I.base.slot b o e n hb hx
    exact ⟨sl, (hs.2 b (Nat.ne_of_lt (Nat.lt_of_lt_of_le (Heap.lt_size e) I.ok.above))).trans e1⟩
  · obtain ⟨o', e1⟩ := I.base.there b o e hx
    exact ⟨o', (hs.2 b (Nat.ne_of_lt (Nat.lt_of_lt_of_le (Heap.lt_size e) I.ok.above))).trans e1⟩
  · by_cases hj : j = i
    · subst hj
      rw [List.getElem?_set] at e2
      simp at e2
    · rw [List.getElem?_set_ne (Ne.symm hj)] at e2
      obtain ⟨u', r', q⟩ := hl j y v' e1 e2 e3
      refine ⟨u', r', ?_⟩
      rcases q with ⟨k, e⟩ | ⟨k, c, e, z⟩
      · refine .inl ⟨k, ?_⟩
        have : y ≠ x := fun e => hj (nodup_ix hN e1 (e ▸ hi))
        simp [this, e]
      · exact .inr ⟨k, c, e, z.sameBut hs (cne y c e)⟩
  · obtain ⟨w', z⟩ := I.cell y c e
    exact ⟨w', z.sameBut hs (cne y c e)⟩
  · obtain ⟨e, n, ne, nf, d⟩ := I.pin p hp
    exact ⟨(hs.2 p.1 ne).trans e, n, ne, nf, d⟩
theorem goes_ok {M : Model} {A : Around} {E : Value → Shared → Prop} {i : Nat} {x : Str} {pos : Pos} {Q : Unit → Shared → Prop} (I : Inv X pins σ H s) (hN : X.N.Nodup) (hi : X.N[i]? = some x) (hk : X.env.scope.names.lookup x = some .local)
    (h : ∀ s', Inv X pins (σ.set i none) H s' → Q () s') : wpAny M A (do bindName X.env x .none; unbindBehindTheSuite X.env x pos) Q E s := by
  have hiσ : i < σ.length := by rw [I.len]; exact (List.getElem?_eq_some_iff.mp hi).1
  refine wpAny_bind (wpAny_bindName (store_ok (v := .non) I hN hi (.inl hk) rfl (fun s1 I1 => ?_) (.inr hk)))
  unfold unbindBehindTheSuite
  refine wpAny_onRaise (unbind_ok I1 hN hi hk (v := .non) (List.getElem?_set_self hiσ) fun s2 I2 => h s2 ?_)
  rw [List.set_set] at I2
  exact I2
end
abbrev Ends.sans (D : Ends) (i : Nat) : Ends := { nx := fun σ H => D.nx (σ.set i none) H, rt := D.rt, bk := fun σ H => D.bk (σ.set i none) H, ct := fun σ H => D.ct (σ.set i none) H }
def tTryAs (C : Addr) (i : Nat) (tb : XK → TS) (th : TS) : TS := fun D σ H => tb (fun cls _ H' => cls = .ref C ∧ ∀ a, H' a = none → th (D.sans i) (σ.set i (some (.ref a))) (upd H' a (.ext (ObC a C)))) D σ H
theorem ps_tryAs {X : Cx} {body suite : List Stmt} {b0 : Stmt} {i : Nat} {x n : Str} {C : Addr} {np hpos pos : Pos} {tb : XK → TS} {th : TS} (hst : X.stack = X.env :: X.outer) (hfr : X.env.frame = some X.env.locals) (hN : X.N.Nodup) (hi : X.N[i]? = some n) (hk : X.env.scope.names.lookup n = some .local)
    (c : XCls X.K C) (hm : X.mg x = some (.ref C)) (hb : PX X body tb) (hh : ∀ a, PSs (X.inH a) (b0 :: suite) th) (hg : Gl X x := by rfl) (hdb : (x == ("__debug__" : Str)) = false := by decide) :
    PS X (.Try body [.ExceptHandler (some (.Name x np)) (some n) (b0 :: suite) hpos] [] [] pos) (tTryAs C i tb th) := by
  intro pins s σ H D I h
  refine wpAny_Try_except (wpAny_mono (hb pins s σ H D _ I h) (fun fl s1 q => ?_) (fun e s1 hx => ?_))
  · cases fl with
    | next => exact wpAny_execs_nil q
    | ret v => exact q
    | brk => exact q
    | cont => exact q
  · obtain ⟨H1, s2, I1, a, cls, a0, H', B, rfl, L, F, rfl, hts⟩ := hx
    obtain ⟨sh, sg, sd, stk, sos⟩ := s1
    -- the exception is younger than the call
    have young : s2.heap.get? a = none := by
      cases e : s2.heap.get? a with
      | none => rfl
      | some o =>
        obtain ⟨_, f2, f3, oe, vs, _, _, _, he, _, hd, _⟩ := id F
        by_cases hf : a ∈ frs X.stack
        · obtain ⟨_, o', ho', hnf⟩ := f3.mem hf
          have z := ho'.symm.trans he
          cases z
          exact absurd hd (hnf vs)
        · obtain ⟨o', e'⟩ := L.c3 a o e hf
          rw [f2] at e'
          cases e'
    have Ha : H' a = none := by
      cases e : H' a with
      | none => rfl
      | some o =>
        obtain ⟨u, hu⟩ := L.hok.thr e
        have := L.c2 a u (by rw [e]; intro z; cases z) hu
        rw [F.2.1] at this
        cases this
    have F' := F
    rw [hst] at F'
    refine wpAny_looks_onW (s := ⟨sh, sg, sd, stk, sos⟩) (outer := X.outer) (L := X.env.locals) (by rw [I.ok.frames, hst]) hfr F' fun h4 Hd4 up4 => wpAny_landsW (s := ⟨h4, sg, sd, stk, sos⟩) Hd4 fun h5 F5 up5 => ?_
    have up := up4.trans up5
    have I5 : Inv X pins σ H' ⟨h5, sg, sd, stk, sos⟩ := Lies.inv (t2 := stk) I1 L F5.1 up
    have J5 := I5.inH a
    refine wpAny_handleBy_cons (codeAny_handlers_test (ld_glob J5 hg hm ?_ hdb)) (by intro q; cases q)
    obtain ⟨bm, Nn, nm, qn, bs, hd, sn, sub, ab, col, dd, k0, k1, k2, k3, k5, mN, h1, h2, h3, h4'⟩ := (c.obj I.mod.kin).keeps I5.bk
    obtain ⟨ob, hob, hobc⟩ := F5.there
    refine wpAny_excMatches_sub_self h1 hob hobc (h4'.hasType rfl) ?_
    refine codeAny_handlers_suite_as (lands_againW (s := ⟨h5, sg, sd, stk, sos⟩) F5 fun h6 F6 up6 => ?_)
    have I6 : Inv X pins σ H' ⟨h6, sg, sd, stk, sos⟩ := Lies.inv (t2 := stk) I1 L F6.1 (up.trans up6)
    have I7 : Inv X pins σ (upd H' a (.ext (ObC a C))) ⟨h6, sg, sd, stk, sos⟩ := by
      refine I6.addX (fun b o e hx z => ?_) Ha (fun z => ?_) (fun y k e z => ?_) (fun p hp z => ?_) F6.there
      · obtain ⟨o', e'⟩ := I1.base.there b o e hx
        rw [z, young] at e'
        cases e'
      · obtain ⟨m, ⟨o, _, _, e, _⟩, _⟩ := I1.loc
        rw [z, young] at e
        cases e
      · obtain ⟨w', o, e', _⟩ := I1.cell y k e
        rw [z, young] at e'
        cases e'
      · have := (I1.pin p hp).1
        rw [z, young] at this
        cases this
    refine store_ok (v := .ref a) I7 hN hi (.inl hk) rfl (fun s8 I8 => ?_) (.inr hk)
    refine wpAny_mono (hh a pins _ _ _ (D.sans i) (I8.inH a) (hts a Ha)) (fun fl s9 q => ?_) (fun _ _ z => False.elim z)
    have q := SP.unH (X := X) I.ok q
    cases fl with
    | next =>
      obtain ⟨σ', H9, I9, q⟩ := q
      exact goes_ok I9 hN hi hk fun s' I' => ⟨_, _, I', q⟩
    | brk =>
      obtain ⟨σ', H9, I9, q⟩ := q
      exact goes_ok I9 hN hi hk fun s' I' => ⟨_, _, I', q⟩
    | cont =>
      obtain ⟨σ', H9, I9, q⟩ := q
      exact goes_ok I9 hN hi hk fun s' I' => ⟨_, _, I', q⟩
    | ret u =>
      obtain ⟨v, σ', H9, I9, r, q⟩ := q
      exact goes_ok I9 hN hi hk fun s' I' => ⟨v, _, _, I', r, q⟩
end L2

/-! BExt6 -/
set_option Elab.async false
set_option linter.all false
set_option maxRecDepth 100000
set_option maxHeartbeats 4000000
namespace L2
open PySem PySem.Spec PyProof.Rows
section
variable {X : Cx} {C : Addr} {x : Str} {p pos : Pos}
def tBare (C : Addr) : TE := fun _ H Q => ∀ y dx, H y = none → H dx = none → dx ≠ y → Q (.ref y) (upd (upd H dx (.own y)) y (.ins C dx []))
theorem pe_bare (hm : PySem.W.makesIn X.K C = true) (hi : PySem.W.findIn X.K (.ref C) "__init__" = some (some (.builtin "object.__init__"))) (kp : PySem.W.keepIn X.K (.ref C) = true) (ho : PySem.W.mroIn X.K C (.type "object") = some true)
    (g : X.mg x = some (.ref C)) (hg : Gl X x := by rfl) (hdb : (x == ("__debug__" : Str)) = false := by decide) : PE X (.Call (.Name x p) [] [] pos) (tBare C) := by
  intro pins s σ H Q I h
  refine wpAny_Call_Name_kw (ld_glob I hg g ?_ hdb)
  refine PySem.W.callWith_K0 I.kIn kp ?_
  have hq := h (s.heap.objs.size + 1) s.heap.objs.size (I.hok.fresh (Nat.le_succ _)) (I.hok.fresh (Nat.le_refl _)) (Nat.ne_of_lt (Nat.lt_succ_self _))
  have I2 := Inv.made (C := C) I
  refine wpAny_call (make_map0 I.kIn hm hi (fun self => PySem.W.Looks.of_pure (PySem.W.oi_bind self)) ?_)
  have e2 : ((s.heap.push PySem.W.emptyDict).push (PySem.W.instObj C s.heap.objs.size)).get? (s.heap.objs.size + 1) = some (PySem.W.instObj C s.heap.objs.size) := by
    have := Heap.get?_push_size (s.heap.push PySem.W.emptyDict) (o := PySem.W.instObj C s.heap.objs.size) rfl
    rwa [Heap.size_push] at this
  have t1 : PySem.W.Looks (model X.prog X.w) ((s.heap.push PySem.W.emptyDict).push (PySem.W.instObj C s.heap.objs.size)) (typeOf (.ref (s.heap.objs.size + 1))) (.ref C) := (PySem.W.Looks.ld e2).andThen .now
  have t2 : PySem.W.Looks (model X.prog X.w) ((s.heap.push PySem.W.emptyDict).push (PySem.W.instObj C s.heap.objs.size)) (isInstance (.ref (s.heap.objs.size + 1)) (.type "object")) true := t1.andThen (PySem.W.looks_mroIn I2.kIn ho)
  refine codeAny_call_builtin PySem.W.oi_plain PySem.W.entry_oi ?_
  refine @PySem.W.check_slot (model X.prog X.w) _ _ _ "object.__init__" "object" "__init__" (.ref (s.heap.objs.size + 1)) [] [] _ PySem.W.oi_kind PySem.W.oi_split t2 (PySem.W.oi_args (.ref (s.heap.objs.size + 1))) ?_
  rw [PySem.W.oi_run]
  exact wpAny_pure ⟨rfl, V.ref (s.heap.objs.size + 1), _, I2, rfl, hq⟩
end
end L2

/-! BExt7 -/
set_option Elab.async false
set_option linter.all false
namespace L2
open PySem
section
variable {X : Cx} {es : List Expr} {t : TA} {te : TE}
theorem pa_C {c j pos} (ha : PE X (.Constant c j pos) te) (hr : PA X es t) : PA X (.Constant c j pos :: es) (tCons te t) := pa_cons ha hr rfl
theorem pa_T {xs c pos} (ha : PE X (.Tuple xs c pos) te) (hr : PA X es t) : PA X (.Tuple xs c pos :: es) (tCons te t) := pa_cons ha hr rfl
theorem pa_K {f xs ks pos} (ha : PE X (.Call f xs ks pos) te) (hr : PA X es t) : PA X (.Call f xs ks pos :: es) (tCons te t) := pa_cons ha hr rfl
theorem pa_B {l o r pos} (ha : PE X (.BinOp l o r pos) te) (hr : PA X es t) : PA X (.BinOp l o r pos :: es) (tCons te t) := pa_cons ha hr rfl
theorem pa_U {o r pos} (ha : PE X (.UnaryOp o r pos) te) (hr : PA X es t) : PA X (.UnaryOp o r pos :: es) (tCons te t) := pa_cons ha hr rfl
theorem pa_N {x pos} (ha : PE X (.Name x pos) te) (hr : PA X es t) : PA X (.Name x pos :: es) (tCons te t) := pa_cons ha hr rfl
end
end L2

/-! BWrap -/
set_option Elab.async false
set_option linter.all false
namespace L2
open PySem PySem.Spec PyProof.Rows
structure Bx (p : Prop) : Prop where
  of : p
theorem bx_in {X : Cx} {body : List Stmt} {q : TS → Prop} {t : TS} (h : Bx (PSs X body t)) (k : q t) : ∃ t, PSs X body t ∧ q t := ⟨t, h.of, k⟩
theorem w_pt {X : Cx} {e : Expr} {t : TT} (h : Bx (PW X e t)) : Bx (PT X e t) := ⟨h.of.pt⟩
section
variable {X : Cx}
theorem w_pe_int {i j pos} : Bx (PE X (.Constant (.int i) j pos) (tC (.int i))) := ⟨pe_int⟩
theorem w_pe_bl {b j pos} : Bx (PE X (.Constant (.bool b) j pos) (tC (.bl b))) := ⟨pe_bl⟩
theorem w_pe_non {j pos} : Bx (PE X (.Constant .none j pos) (tC .non)) := ⟨pe_non⟩
theorem w_pe_str {x j pos} : Bx (PE X (.Constant (.str x) j pos) (tC (.str x))) := ⟨pe_str⟩
end
section
variable {X : Cx}
variable {a b : Expr} {ta tb : TE} {pos : Pos}
theorem w_pt_val {e : Expr} {t : TE} (h : Bx (PE X e t)) (he : ∀ whole, isTrue e X.env whole = (do let v ← whole; standAt e.pos; holding [v] (truthy v)) := by intro _; rfl) : Bx (PT X e (tB t)) := ⟨pt_val h.of he⟩
end
section
variable {X : Cx}
variable {a b : Expr} {ta tb : TE} {pos : Pos}
variable {tA tB' : TT} {rest : List Expr}
theorem w_pw_or1 (ha : Bx (PT X a tA)) : Bx (PW X (.BoolOp .Or [a] pos) tA) := ⟨pw_or1 ha.of⟩
theorem w_pw_or (ha : Bx (PT X a tA)) (hb : Bx (PW X (.BoolOp .Or (b :: rest) pos) tB')) : Bx (PW X (.BoolOp .Or (a :: b :: rest) pos) (tOr tA tB')) := ⟨pw_or ha.of hb.of⟩
theorem w_pt_not (ha : Bx (PT X a tA)) : Bx (PT X (.UnaryOp .Not a pos) (tNot tA)) := ⟨pt_not ha.of⟩
theorem w_pe_not (ha : Bx (PE X a ta)) : Bx (PE X (.UnaryOp .Not a pos) (tNotV ta)) := ⟨pe_not ha.of⟩
end
section
variable {X : Cx} {st : Stmt} {rest : List Stmt} {t u : TS} {e : Expr} {te : TE} {pos : Pos}
theorem w_pss_nil  : Bx (PSs X [] tNext) := ⟨pss_nil⟩
theorem w_pss_cons (h1 : Bx (PS X st t)) (h2 : Bx (PSs X rest u)) : Bx (PSs X (st :: rest) (tSeq t u)) := ⟨pss_cons h1.of h2.of⟩
theorem w_pss_one (h1 : Bx (PS X st t)) : Bx (PSs X [st] t) := ⟨pss_one h1.of⟩
theorem w_ps_expr (he : Bx (PE X e te)) (hs : swapsWith e none pos.line X.env = pure false := by rfl) : Bx (PS X (.Expr e pos) (tDrop te)) := ⟨ps_expr he.of hs⟩
theorem w_ps_ret (he : Bx (PE X e te)) : Bx (PS X (.Return (some e) pos) (tRet te)) := ⟨ps_ret he.of⟩
theorem w_ps_if {c : Expr} {a b : List Stmt} {tc : TT} (hc : Bx (PT X c tc)) (ha : Bx (PSs X a t)) (hb : Bx (PSs X b u)) : Bx (PS X (.If c a b pos) (tIfS tc t u)) := ⟨ps_if hc.of ha.of hb.of⟩
end
section
variable {X : Cx} {pos : Pos}
theorem w_ps_set {i : Nat} {x : Str} {e : Expr} {te : TE} {pos' : Pos} (hN : X.N.Nodup) (hi : X.N[i]? = some x) (hx : Loc X.env.scope x) (he : Bx (PE X e te)) (hs : swapsWith e (some (.Name x pos')) pos.line X.env = pure false := by rfl) (hf : X.fn x = true ∨ X.env.scope.names.lookup x = some .local := by first | exact .inl rfl | exact .inr rfl | assumption) : Bx (PS X (.Assign [.Name x pos'] e pos) (tAsg te (gName i))) := ⟨ps_set hN hi hx he.of hs hf⟩
end
section
variable {X : Cx} {tg : Expr}
theorem w_pi_list {l : Expr} {tl : TE} (hl : Bx (PE X l tl)) : Bx (PI X tg l (iList X.K tl)) := ⟨pi_list hl.of⟩
theorem w_pi_range1 {a : Expr} {ta : TA} {p pos : Pos} (hg : Gl X "range") (hm : X.mg "range" = none) (ha : Bx (PA X [a] ta)) (hs : starEach [a] X.env = [(false, eval a X.env)] := by rfl) : Bx (PI X tg (.Call (.Name "range" p) [a] [] pos) (iRng1 ta)) := ⟨pi_range1 hg hm ha.of hs⟩
theorem w_pi_range2 {a b : Expr} {ta : TA} {p pos : Pos} (hg : Gl X "range") (hm : X.mg "range" = none) (ha : Bx (PA X [a, b] ta)) (hs : starEach [a, b] X.env = [(false, eval a X.env), (false, eval b X.env)] := by rfl) (hs2 : starEach [b] X.env = [(false, eval b X.env)] := by rfl) : Bx (PI X tg (.Call (.Name "range" p) [a, b] [] pos) (iRng2 ta)) := ⟨pi_range2 hg hm ha.of hs hs2⟩
theorem w_ps_for {iter : Expr} {body : List Stmt} {wi : TI} {g : TG} {tb : TS} {pos : Pos} (hp : PassesOwn (model X.prog X.w) X.A X.env X.xe) (hc : X.calm = true) (hi : Bx (PI X tg iter wi)) (hg : PG X tg g) (hb : Bx (PSs X body tb)) (hs : ∀ x, foldedSetIterable iter X.env x = pure x := by intro _; rfl) : Bx (PS X (.For tg iter body [] pos) (tFor wi g tb)) := ⟨ps_for hp hc hi.of hg hb.of hs⟩
end
section
variable {X : Cx} {a b c : Expr} {ta tb tc : TE} {pos : Pos}
theorem w_pe_op {op : Operator} {r : R2} (ho : OpR X (binaryOp op) r) (ha : Bx (PE X a ta)) (hb : Bx (PE X b tb)) : Bx (PE X (.BinOp a op b pos) (tOp r ta tb)) := ⟨pe_op ho ha.of hb.of⟩
theorem w_pe_un {op : UnaryOp} {r : V → Hp → VK → Prop} (ho : UnR X (unaryOp op) r) (ha : Bx (PE X a ta)) : Bx (PE X (.UnaryOp op a pos) (tUn r ta)) := ⟨pe_un ho ha.of⟩
theorem w_pt_cmpR {op : CmpOp} {r : R2} (ho : OpR X (compareOp op) r) (ha : Bx (PE X a ta)) (hb : Bx (PE X b tb)) (hm : behindInMarks op b = false) : Bx (PT X (.Compare a [op] [b] pos) (tTest (tOp r ta tb))) := ⟨pt_cmpR ho ha.of hb.of hm⟩
end
section
variable {X : Cx} {o e value : Expr} {f : Str} {pos pos' tpos : Pos} {ta tv : TE}
end
section
variable {X : Cx} {e : Expr} {es : List Expr} {te : TE} {t : TA} {pos : Pos}
theorem w_pa_nil  : Bx (PA X [] tNil) := ⟨pa_nil⟩
theorem w_pa_cons (ha : Bx (PE X e te)) (hr : Bx (PA X es t)) (hs : starEach (e :: es) X.env = (false, eval e X.env) :: starEach es X.env := by rfl) : Bx (PA X (e :: es) (tCons te t)) := ⟨pa_cons ha.of hr.of hs⟩
theorem w_pe_tup {x1} (h : Bx (PA X es t)) : Bx (PE X (.Tuple es x1 pos) (tTup t)) := ⟨pe_tup h.of⟩
theorem w_pe_lst (h : Bx (PA X es t)) : Bx (PE X (.List es pos) (tLst t)) := ⟨pe_lst h.of⟩
end
section
variable {X : Cx} {CX : CXT} {k : Nat} {f C : Addr} {fd : FuncData} {ps : List Str} {sp : Sp} {dvs : List V} {ds : List Value} {E : XK} {x m : Str} {p pos apos : Pos} {e o : Expr} {es : List Expr} {ta : TE} {t : TA}
end
section
variable {X : Cx} {CX : CXT} {k : Nat} {f C : Addr} {fd : FuncData} {ps ks : List Str} {sp : Sp} {E : XK} {x m : Str} {p pos apos kpos : Pos} {e o : Expr} {es : List Expr} {kws : List Keyword} {te ta : TE} {t tk : TA} {nm : Option Str}
end
section
variable {X : Cx} {CX : CXT} {k : Nat} {f C : Addr} {fd : FuncData} {ps ks : List Str} {sp : Sp} {E : XK} {x m : Str} {p pos apos kpos : Pos} {e o : Expr} {es : List Expr} {kws : List Keyword} {te ta : TE} {t tk : TA} {nm : Option Str}
variable {g : List Value → List Value → List Value} {gV : List V → List V → List V}
end
section
variable {X : Cx} {x : Str} {p pos : Pos} {e : Expr} {es : List Expr} {t : TA} {id T : String} {r : List V → Hp → VK → Prop}
theorem w_pe_callB (hc : CallR X (.builtin id) r) (hg : Gl X x) (hm : X.mg x = none) (hv : bootBuiltins x = some (.builtin id)) (ha : Bx (PA X (e :: es) t)) (hn : x ≠ "__name__" := by decide) (hdb : (x == ("__debug__" : Str)) = false := by decide) (he : starEach (e :: es) X.env = (false, eval e X.env) :: starEach es X.env := by rfl) (hpl : (backTo pos (starEach es X.env)).any (·.1) = false := by rfl) : Bx (PE X (.Call (.Name x p) (e :: es) [] pos) (tCB r t)) := ⟨pe_callB hc hg hm hv ha.of hn hdb he hpl⟩
end
section
variable {X : Cx} {e : Expr} {te : TE} {lo hi : Option Expr} {tl th : TO} {pos p2 : Pos}
theorem w_po_none  : Bx (PO X none tNoPart) := ⟨po_none⟩
theorem w_po_some (h : Bx (PE X e te)) : Bx (PO X (some e) (tPart te)) := ⟨po_some h.of⟩
theorem w_pe_slice {r : V → Option Int → Option Int → Hp → VK → Prop} (hr : SlR X r) (he : Bx (PE X e te)) (hl : Bx (PO X lo tl)) (hu : Bx (PO X hi th)) : Bx (PE X (.Subscript e (.Slice lo hi none p2) pos) (tSl r te tl th)) := ⟨pe_slice hr he.of hl.of hu.of⟩
end
section
variable {X : Cx} {a b : Expr} {ta tb : TE} {pos : Pos}
theorem w_pe_ix {r : R2} (hr : IxR X r) (ha : Bx (PE X a ta)) (hb : Bx (PE X b tb)) (hs : PlainIx b) : Bx (PE X (.Subscript a b pos) (tOp r ta tb)) := ⟨pe_ix hr ha.of hb.of hs⟩
end
section
variable {X : Cx} {a b : Expr} {ta tb : TE} {pos : Pos}
variable {o e : Expr} {es : List Expr} {to : TE} {t : TA} {name : Str} {apos cpos : Pos} {T id : String} {r : V → List V → Hp → VK → Prop}
theorem w_pe_bm (pa : PlainAttrs T) (slot : Slot T name id) (hty : typeOf (.builtin id) = pure (.type "method_descriptor")) (hm : MtR X id r) (ho : Bx (PE X o to)) (ha : Bx (PA X (e :: es) t)) (hbase : attributeBase o name X.env (eval o X.env) = eval o X.env := by rfl) (hfew : ((backTo cpos (starEach (e :: es) X.env)).all (fun x => !x.1) && (backToKw cpos (keywordEach [] X.env)).all (fun x => x.1.isSome)
      && decide ((e :: es).length + ([] : List Keyword).length + (if ([] : List Keyword).isEmpty then 0 else 1) < 30)) = true := by rfl) (hline : (apos.endLine == cpos.line) = true := by rfl) (hs : starEach (e :: es) X.env = (false, eval e X.env) :: starEach es X.env := by rfl) (hplain : (backTo cpos (starEach es X.env)).any (·.1) = false := by rfl) : Bx (PE X (.Call (.Attribute o name apos) (e :: es) [] cpos) (tBM X.K T r to t)) := ⟨pe_bm pa slot hty hm ho.of ha.of hbase hfew hline hs hplain⟩
end
section
variable {X : Cx} {o i e value : Expr} {pos pos' tpos : Pos} {td ty tv : TE}
end
section
variable {X : Cx} {pos : Pos}
end
section
end
section
variable {X : Cx} {o e f : Expr} {apos cpos : Pos} {td ty tx : TE}
end
section
variable {X : Cx}
theorem w_pv (i : Nat) {x : Str} {pos : Pos} (hN : X.N[i]? = some x := by rfl) (hv : Vis X.env.scope x := by first | exact Or.inl rfl | exact Or.inr (Or.inl rfl) | exact Or.inr (Or.inr rfl)) (hd : (x == ("__debug__" : Str)) = false := by decide) (hcd : (x == ("__classdict__" : Str)) = false := by decide) : Bx (PE X (.Name x pos) (tVar i)) := ⟨pv i hN hv hd hcd⟩
end
section
theorem w_pss_cut {X : Cx} {st : Stmt} {rest : List Stmt} {t u : TS} (h1 : Bx (PS X st t)) (h2 : Bx (PSs X rest u)) : Bx (PSs X (st :: rest) (tSeqM t u)) := ⟨pss_cut h1.of h2.of⟩
theorem w_pts_nil {X : Cx} : Bx (PTs X [] tYes) := ⟨pts_nil⟩
end
section
variable {X : Cx} {tg iter elt : Expr} {ifs : List Expr} {scope : Scope} {pos : Pos} {N' : List Str} {t : Nat} {caps : List Nat} {g : Blk → TG} {tc : Blk → TT} {te : Blk → TE} {wi : TI}
theorem w_pe_comp (hc : X.calm = true) (S : CompOk X scope N' t caps) (hi : Bx (PI X tg iter wi)) (hg : ∀ b, PG (cxB X scope N' b) tg (g b)) (ht : ∀ b, Bx (PTs (cxB X scope N' b) ifs (tc b))) (he : ∀ b, Bx (PE (cxB X scope N' b) elt (te b))) (hs : ∀ x, foldedSetIterable iter X.env x = pure x := by intro _; rfl) : Bx (PE X (.ListComp elt [⟨tg, iter, ifs, 0⟩] scope pos) (tComp wi g tc te t caps)) := ⟨pe_comp hc S hi.of hg (fun x0 => (ht x0).of) (fun x0 => (he x0).of) hs⟩
theorem w_ps_setComp {i : Nat} {y : Str} {py spos : Pos} (hc : X.calm = true) (hN : X.N.Nodup) (hiy : X.N[i]? = some y) (hy : Loc X.env.scope y) (S : CompOk X scope N' t caps) (hi : Bx (PI X tg iter wi)) (hg : ∀ b, PG (cxB X scope N' b) tg (g b)) (ht : ∀ b, Bx (PTs (cxB X scope N' b) ifs (tc b))) (he : ∀ b, Bx (PE (cxB X scope N' b) elt (te b))) (hsw : swapsWith (.ListComp elt [⟨tg, iter, ifs, 0⟩] scope pos) (some (.Name y py)) spos.line X.env = pure true := by rfl) (hs : ∀ x, foldedSetIterable iter X.env x = pure x := by intro _; rfl) (hf : X.fn y = true ∨ X.env.scope.names.lookup y = some .local := by first | exact .inl rfl | exact .inr rfl | assumption) : Bx (PS X (.Assign [.Name y py] (.ListComp elt [⟨tg, iter, ifs, 0⟩] scope pos) spos) (tAsg (tComp wi g tc te t caps) (gName i))) := ⟨ps_setComp hc hN hiy hy S hi.of hg (fun x0 => (ht x0).of) (fun x0 => (he x0).of) hsw hs hf⟩
end
section
variable {X : Cx} {k : Nat} {f C : Addr} {fd : FuncData} {ps : List Str} {sp : Sp} {x m : Str} {p pos apos : Pos} {e o : Expr} {es : List Expr} {ta : TE} {t : TA}
theorem w_pe_c (c : Callee X.prog X.w X.K X.mg X.base x f fd ps k sp) (hr : Room k X.A) (ha : Bx (PA X (e :: es) t)) (hg : Gl X x := by rfl) (hdb : (x == ("__debug__" : Str)) = false := by decide) (he : starEach (e :: es) X.env = (false, eval e X.env) :: starEach es X.env := by rfl) (hpl : (backTo pos (starEach es X.env)).any (·.1) = false := by rfl) : Bx (PE X (.Call (.Name x p) (e :: es) [] pos) (tCall sp [] E0 t)) := ⟨pe_c c hr ha.of hg hdb he hpl⟩
theorem w_pe_m (c : Maker X.prog X.w X.K X.mg X.base x C f fd ps k sp) (hr : Room (k + 1) X.A) (ha : Bx (PA X (e :: es) t)) (hg : Gl X x := by rfl) (hdb : (x == ("__debug__" : Str)) = false := by decide) (he : starEach (e :: es) X.env = (false, eval e X.env) :: starEach es X.env := by rfl) (hpl : (backTo pos (starEach es X.env)).any (·.1) = false := by rfl) : Bx (PE X (.Call (.Name x p) (e :: es) [] pos) (tMake C sp [] E0 t)) := ⟨pe_m c hr ha.of hg hdb he hpl⟩
end
section
end
section
variable {P : Program} {w : World} {A : Around} {R : Result → Shared → Prop} {I S : Addr} {fp wr : List Addr} {n : Nat} {Is : Nat → Value → Prop} {St : Nat → Heap → Prop} {kw : List (Str × Value)}
end
section
variable {X : Cx} {C : Addr} {x : Str} {p pos : Pos}
theorem w_pe_bare (hm : PySem.W.makesIn X.K C = true) (hi : PySem.W.findIn X.K (.ref C) "__init__" = some (some (.builtin "object.__init__"))) (kp : PySem.W.keepIn X.K (.ref C) = true) (ho : PySem.W.mroIn X.K C (.type "object") = some true) (g : X.mg x = some (.ref C)) (hg : Gl X x := by rfl) (hdb : (x == ("__debug__" : Str)) = false := by decide) : Bx (PE X (.Call (.Name x p) [] [] pos) (tBare C)) := ⟨pe_bare hm hi kp ho g hg hdb⟩
end
section
variable {X : Cx} {es : List Expr} {t : TA} {te : TE}
theorem w_pa_C {c j pos} (ha : Bx (PE X (.Constant c j pos) te)) (hr : Bx (PA X es t)) : Bx (PA X (.Constant c j pos :: es) (tCons te t)) := ⟨pa_C ha.of hr.of⟩
theorem w_pa_T {xs c pos} (ha : Bx (PE X (.Tuple xs c pos) te)) (hr : Bx (PA X es t)) : Bx (PA X (.Tuple xs c pos :: es) (tCons te t)) := ⟨pa_T ha.of hr.of⟩
theorem w_pa_K {f xs ks pos} (ha : Bx (PE X (.Call f xs ks pos) te)) (hr : Bx (PA X es t)) : Bx (PA X (.Call f xs ks pos :: es) (tCons te t)) := ⟨pa_K ha.of hr.of⟩
theorem w_pa_B {l o r pos} (ha : Bx (PE X (.BinOp l o r pos) te)) (hr : Bx (PA X es t)) : Bx (PA X (.BinOp l o r pos :: es) (tCons te t)) := ⟨pa_B ha.of hr.of⟩
theorem w_pa_U {o r pos} (ha : Bx (PE X (.UnaryOp o r pos) te)) (hr : Bx (PA X es t)) : Bx (PA X (.UnaryOp o r pos :: es) (tCons te t)) := ⟨pa_U ha.of hr.of⟩
theorem w_pa_N {x pos} (ha : Bx (PE X (.Name x pos) te)) (hr : Bx (PA X es t)) : Bx (PA X (.Name x pos :: es) (tCons te t)) := ⟨pa_N ha.of hr.of⟩
end
section
variable {P : Program} {w : World} {K : PySem.W.Frag} {mg : Str → Option Value} {base : Heap} {N : List Str} {qual : Str} {scope : Scope} {f : Addr} {cd : Value} {A : Around} {outer : List Env} {s0 : Shared} {H0 : Hp} {E : XK}
end
section
variable {X : Cx} {k : Nat} {f C : Addr} {fd : FuncData} {ps : List Str} {sp : Sp} {dvs : List V} {ds : List Value} {x : Str} {p pos : Pos} {e : Expr} {es : List Expr} {t : TA}
end
section
end
section
variable {X : Cx} {k : Nat} {f C : Addr} {fd : FuncData} {ps : List Str} {sp : Sp} {x : Str} {p pos : Pos} {e : Expr} {es : List Expr} {t : TA}
end
section
end
end L2

/-! K06a -/
set_option Elab.async false
set_option linter.all false
set_option maxRecDepth 100000
set_option maxHeartbeats 4000000
namespace K04
open PySem L2
def top (i : Nat) : Stmt := PySem.Challenge.pw_beatless_k06_programs_refused.main.body.getD i (.Pass ⟨0, 0, 0, 0⟩)
abbrev st_is_whole : Stmt := top 17
abbrev st_is_short_number : Stmt := top 25
abbrev st_is_word_of : Stmt := top 26
abbrev st_is_divisor : Stmt := top 27
abbrev st_are_sound : Stmt := top 28
abbrev st_is_sound : Stmt := top 29
abbrev st_count_words : Stmt := top 30
abbrev st__law_cell_at : Stmt := top 33
abbrev st__law_digit : Stmt := top 34
abbrev st__law_expr : Stmt := top 35
abbrev st__law_made : Stmt := top 36
abbrev st__law_fits : Stmt := top 37
abbrev st__law_size : Stmt := top 38
abbrev st__law_four : Stmt := top 39
abbrev st__law_odd : Stmt := top 41
abbrev st__law_within : Stmt := top 42
abbrev st__law_refused : Stmt := top 43
abbrev st_law : Stmt := top 44
abbrev st_Num___init__ : Stmt := inClass (top 11) 0
abbrev st_Num_reckon : Stmt := inClass (top 11) 1
abbrev st_Num_words : Stmt := inClass (top 11) 3
abbrev st_Name___init__ : Stmt := inClass (top 12) 0
abbrev st_Name_reckon : Stmt := inClass (top 12) 1
abbrev st_Name_words : Stmt := inClass (top 12) 3
abbrev st_Two___init__ : Stmt := inClass (top 13) 0
abbrev st_Two_reckon : Stmt := inClass (top 13) 1
abbrev st_Two_words : Stmt := inClass (top 13) 3
abbrev st_Mod___init__ : Stmt := inClass (top 14) 0
abbrev st_Mod_reckon : Stmt := inClass (top 14) 1
abbrev st_Mod_words : Stmt := inClass (top 14) 3
abbrev st_Less___init__ : Stmt := inClass (top 15) 0
abbrev st_Less_reckon : Stmt := inClass (top 15) 1
abbrev st_Less_words : Stmt := inClass (top 15) 3
abbrev st_Program___init__ : Stmt := inClass (top 31) 0
theorem sc_is_whole : FnScope ["value"] ["value"] (defScope st_is_whole) := ⟨rfl, rfl, rfl, by decide +kernel, rfl, by decide +kernel, by decide +kernel⟩
theorem sc_is_short_number : FnScope ["value"] ["value"] (defScope st_is_short_number) := ⟨rfl, rfl, rfl, by decide +kernel, rfl, by decide +kernel, by decide +kernel⟩
theorem sc_is_word_of : FnScope ["word", "words"] ["word", "words"] (defScope st_is_word_of) := ⟨rfl, rfl, rfl, by decide +kernel, rfl, by decide +kernel, by decide +kernel⟩
theorem sc_is_divisor : FnScope ["number"] ["number"] (defScope st_is_divisor) := ⟨rfl, rfl, rfl, by decide +kernel, rfl, by decide +kernel, by decide +kernel⟩
theorem sc_are_sound : FnScope ["parts", "names", "deep", "part"] ["parts", "names", "deep"] (defScope st_are_sound) := ⟨rfl, rfl, rfl, by decide +kernel, rfl, by decide +kernel, by decide +kernel⟩
theorem sc_is_sound : FnScope ["expr", "names", "deep"] ["expr", "names", "deep"] (defScope st_is_sound) := ⟨rfl, rfl, rfl, by decide +kernel, rfl, by decide +kernel, by decide +kernel⟩
theorem sc_count_words : FnScope ["exprs"] ["exprs"] (defScope st_count_words) := ⟨rfl, rfl, rfl, by decide +kernel, rfl, by decide +kernel, by decide +kernel⟩
theorem sc__law_cell_at : FnScope ["_law_script", "_law_k"] ["_law_script", "_law_k"] (defScope st__law_cell_at) := ⟨rfl, rfl, rfl, by decide +kernel, rfl, by decide +kernel, by decide +kernel⟩
theorem sc__law_digit : FnScope ["_law_state", "_law_base", "_law_cell", "_law_found", "_law_number"] ["_law_state", "_law_base"] (defScope st__law_digit) := ⟨rfl, rfl, rfl, by decide +kernel, rfl, by decide +kernel, by decide +kernel⟩
theorem sc__law_expr : FnScope ["_law_state", "_law_names", "_law_deep", "_law_kind", "_law_number", "_law_word", "_law_one", "_law_parts"] ["_law_state", "_law_names", "_law_deep"] (defScope st__law_expr) := ⟨rfl, rfl, rfl, by decide +kernel, rfl, by decide +kernel, by decide +kernel⟩
theorem sc__law_made : FnScope ["_law_told"] ["_law_told"] (defScope st__law_made) := ⟨rfl, rfl, rfl, by decide +kernel, rfl, by decide +kernel, by decide +kernel⟩
theorem sc__law_fits : FnScope ["_law_state", "_law_names", "_law_deep", "_law_told"] ["_law_state", "_law_names", "_law_deep"] (defScope st__law_fits) := ⟨rfl, rfl, rfl, by decide +kernel, rfl, by decide +kernel, by decide +kernel⟩
theorem sc__law_size : FnScope ["_law_told"] ["_law_told"] (defScope st__law_size) := ⟨rfl, rfl, rfl, by decide +kernel, rfl, by decide +kernel, by decide +kernel⟩
theorem sc__law_four : FnScope ["_law_state", "_law_ahead", "_law_at_send", "_law_at_end", "_law_start", "_law_send", "_law_when"] ["_law_state"] (defScope st__law_four) := ⟨rfl, rfl, rfl, by decide +kernel, rfl, by decide +kernel, by decide +kernel⟩
theorem sc__law_odd : FnScope ["_law_at", "_law_found", "_law_word", "_law_number", "_law_thing", "_law_deep", "_law_k", "_law_wide"] ["_law_at"] (defScope st__law_odd) := ⟨rfl, rfl, rfl, by decide +kernel, rfl, by decide +kernel, by decide +kernel⟩
theorem sc__law_within : FnScope ["_law_odd_here", "_law_way"] ["_law_odd_here", "_law_way"] (defScope st__law_within) := ⟨rfl, rfl, rfl, by decide +kernel, rfl, by decide +kernel, by decide +kernel⟩
theorem sc__law_refused : FnScope ["_law_exprs", "_law_others", "e"] ["_law_exprs"] (defScope st__law_refused) := ⟨rfl, rfl, rfl, by decide +kernel, rfl, by decide +kernel, by decide +kernel⟩
theorem sc_law : FnScope ["_law_script", "_law_exprs", "_law_k", "_law_cell", "_law_at", "_law_menu", "_law_odd_here"] ["_law_script"] (defScope st_law) := ⟨rfl, rfl, rfl, by decide +kernel, rfl, by decide +kernel, by decide +kernel⟩
theorem sc_Num___init__ : FnScope ["self", "value"] ["self", "value"] (defScope st_Num___init__) := ⟨rfl, rfl, rfl, by decide +kernel, rfl, by decide +kernel, by decide +kernel⟩
theorem sc_Num_words : FnScope ["self"] ["self"] (defScope st_Num_words) := ⟨rfl, rfl, rfl, by decide +kernel, rfl, by decide +kernel, by decide +kernel⟩
theorem sc_Name___init__ : FnScope ["self", "word"] ["self", "word"] (defScope st_Name___init__) := ⟨rfl, rfl, rfl, by decide +kernel, rfl, by decide +kernel, by decide +kernel⟩
theorem sc_Name_words : FnScope ["self"] ["self"] (defScope st_Name_words) := ⟨rfl, rfl, rfl, by decide +kernel, rfl, by decide +kernel, by decide +kernel⟩
theorem sc_Two___init__ : FnScope ["self", "word", "one", "other"] ["self", "word", "one", "other"] (defScope st_Two___init__) := ⟨rfl, rfl, rfl, by decide +kernel, rfl, by decide +kernel, by decide +kernel⟩
theorem sc_Two_words : FnScope ["self"] ["self"] (defScope st_Two_words) := ⟨rfl, rfl, rfl, by decide +kernel, rfl, by decide +kernel, by decide +kernel⟩
theorem sc_Mod___init__ : FnScope ["self", "inner", "number"] ["self", "inner", "number"] (defScope st_Mod___init__) := ⟨rfl, rfl, rfl, by decide +kernel, rfl, by decide +kernel, by decide +kernel⟩
theorem sc_Mod_words : FnScope ["self"] ["self"] (defScope st_Mod_words) := ⟨rfl, rfl, rfl, by decide +kernel, rfl, by decide +kernel, by decide +kernel⟩
theorem sc_Less___init__ : FnScope ["self", "one", "other", "third", "fourth"] ["self", "one", "other", "third", "fourth"] (defScope st_Less___init__) := ⟨rfl, rfl, rfl, by decide +kernel, rfl, by decide +kernel, by decide +kernel⟩
theorem sc_Less_words : FnScope ["self"] ["self"] (defScope st_Less_words) := ⟨rfl, rfl, rfl, by decide +kernel, rfl, by decide +kernel, by decide +kernel⟩
theorem sc_Program___init__ : FnScope ["self", "start", "send", "when", "renew"] ["self", "start", "send", "when", "renew"] (defScope st_Program___init__) := ⟨rfl, rfl, rfl, by decide +kernel, rfl, by decide +kernel, by decide +kernel⟩
structure Ad where
  f_is_whole : Addr
  d_is_whole : FuncData
  f_is_short_number : Addr
  d_is_short_number : FuncData
  f_is_word_of : Addr
  d_is_word_of : FuncData
  f_is_divisor : Addr
  d_is_divisor : FuncData
  f_are_sound : Addr
  d_are_sound : FuncData
  f_is_sound : Addr
  d_is_sound : FuncData
  f_count_words : Addr
  d_count_words : FuncData
  f__law_cell_at : Addr
  d__law_cell_at : FuncData
  f__law_digit : Addr
  d__law_digit : FuncData
  f__law_expr : Addr
  d__law_expr : FuncData
  f__law_made : Addr
  d__law_made : FuncData
  f__law_fits : Addr
  d__law_fits : FuncData
  f__law_size : Addr
  d__law_size : FuncData
  f__law_four : Addr
  d__law_four : FuncData
  f__law_odd : Addr
  d__law_odd : FuncData
  f__law_within : Addr
  d__law_within : FuncData
  f__law_refused : Addr
  d__law_refused : FuncData
  f_law : Addr
  d_law : FuncData
  f_Num___init__ : Addr
  d_Num___init__ : FuncData
  f_Num_reckon : Addr
  d_Num_reckon : FuncData
  f_Num_words : Addr
  d_Num_words : FuncData
  f_Name___init__ : Addr
  d_Name___init__ : FuncData
  f_Name_reckon : Addr
  d_Name_reckon : FuncData
  f_Name_words : Addr
  d_Name_words : FuncData
  f_Two___init__ : Addr
  d_Two___init__ : FuncData
  f_Two_reckon : Addr
  d_Two_reckon : FuncData
  f_Two_words : Addr
  d_Two_words : FuncData
  f_Mod___init__ : Addr
  d_Mod___init__ : FuncData
  f_Mod_reckon : Addr
  d_Mod_reckon : FuncData
  f_Mod_words : Addr
  d_Mod_words : FuncData
  f_Less___init__ : Addr
  d_Less___init__ : FuncData
  f_Less_reckon : Addr
  d_Less_reckon : FuncData
  f_Less_words : Addr
  d_Less_words : FuncData
  f_Program___init__ : Addr
  d_Program___init__ : FuncData
  c_Expr : Addr
  c_Num : Addr
  c_Name : Addr
  c_Two : Addr
  c_Mod : Addr
  c_Less : Addr
  c_Program : Addr
  c_NoProgram : Addr
  c_NoWeb : Addr
  c_NoHand : Addr
  c_NoText : Addr
  c_NoWay : Addr
  c_NoRound : Addr
  c_BeatlessError : Addr
  t_START_NAMES : Addr
  t_SEND_NAMES : Addr
  t_RENEW_NAMES : Addr
  t_TWO_WORDS : Addr
  t_MOST_WORDS : Tok
  t_MOST_DEEP : Tok
structure Txt (K : PySem.W.Frag) (mg : Str → Option Value) (a : Ad) : Prop where
  n_len : mg "len" = none
  n_int : mg "int" = none
  n_min : mg "min" = none
  n_max : mg "max" = none
  n_range : mg "range" = none
  n_isinstance : mg "isinstance" = none
  n_any : mg "any" = none
  n_abs : mg "abs" = none
  n_str : mg "str" = none
  n_sum : mg "sum" = none
  n_bool : mg "bool" = none
  n_tuple : mg "tuple" = none
  n_ValueError : mg "ValueError" = none
  F_is_whole : Fun K "is_whole" "is_whole" st_is_whole a.f_is_whole a.d_is_whole
  b_is_whole : Binds K a.d_is_whole ["value"] []
  g_is_whole : mg "is_whole" = some (.ref a.f_is_whole)
  F_is_short_number : Fun K "is_short_number" "is_short_number" st_is_short_number a.f_is_short_number a.d_is_short_number
  b_is_short_number : Binds K a.d_is_short_number ["value"] []
  g_is_short_number : mg "is_short_number" = some (.ref a.f_is_short_number)
  F_is_word_of : Fun K "is_word_of" "is_word_of" st_is_word_of a.f_is_word_of a.d_is_word_of
  b_is_word_of : Binds K a.d_is_word_of ["word", "words"] []
  g_is_word_of : mg "is_word_of" = some (.ref a.f_is_word_of)
  F_is_divisor : Fun K "is_divisor" "is_divisor" st_is_divisor a.f_is_divisor a.d_is_divisor
  b_is_divisor : Binds K a.d_is_divisor ["number"] []
  g_is_divisor : mg "is_divisor" = some (.ref a.f_is_divisor)
  F_are_sound : Fun K "are_sound" "are_sound" st_are_sound a.f_are_sound a.d_are_sound
  b_are_sound : Binds K a.d_are_sound ["parts", "names", "deep"] []
  g_are_sound : mg "are_sound" = some (.ref a.f_are_sound)
  F_is_sound : Fun K "is_sound" "is_sound" st_is_sound a.f_is_sound a.d_is_sound
  b_is_sound : Binds K a.d_is_sound ["expr", "names", "deep"] []
  g_is_sound : mg "is_sound" = some (.ref a.f_is_sound)
  F_count_words : Fun K "count_words" "count_words" st_count_words a.f_count_words a.d_count_words
  b_count_words : Binds K a.d_count_words ["exprs"] []
  g_count_words : mg "count_words" = some (.ref a.f_count_words)
  F__law_cell_at : Fun K "_law_cell_at" "_law_cell_at" st__law_cell_at a.f__law_cell_at a.d__law_cell_at
  b__law_cell_at : Binds K a.d__law_cell_at ["_law_script", "_law_k"] []
  g__law_cell_at : mg "_law_cell_at" = some (.ref a.f__law_cell_at)
  F__law_digit : Fun K "_law_digit" "_law_digit" st__law_digit a.f__law_digit a.d__law_digit
  b__law_digit : Binds K a.d__law_digit ["_law_state", "_law_base"] []
  g__law_digit : mg "_law_digit" = some (.ref a.f__law_digit)
  F__law_expr : Fun K "_law_expr" "_law_expr" st__law_expr a.f__law_expr a.d__law_expr
  b__law_expr : Binds K a.d__law_expr ["_law_state", "_law_names", "_law_deep"] []
  g__law_expr : mg "_law_expr" = some (.ref a.f__law_expr)
  F__law_made : Fun K "_law_made" "_law_made" st__law_made a.f__law_made a.d__law_made
  b__law_made : Binds K a.d__law_made ["_law_told"] []
  g__law_made : mg "_law_made" = some (.ref a.f__law_made)
  F__law_fits : Fun K "_law_fits" "_law_fits" st__law_fits a.f__law_fits a.d__law_fits
  b__law_fits : Binds K a.d__law_fits ["_law_state", "_law_names", "_law_deep"] []
  g__law_fits : mg "_law_fits" = some (.ref a.f__law_fits)
  F__law_size : Fun K "_law_size" "_law_size" st__law_size a.f__law_size a.d__law_size
  b__law_size : Binds K a.d__law_size ["_law_told"] []
  g__law_size : mg "_law_size" = some (.ref a.f__law_size)
  F__law_four : Fun K "_law_four" "_law_four" st__law_four a.f__law_four a.d__law_four
  b__law_four : Binds K a.d__law_four ["_law_state"] []
  g__law_four : mg "_law_four" = some (.ref a.f__law_four)
  F__law_odd : Fun K "_law_odd" "_law_odd" st__law_odd a.f__law_odd a.d__law_odd
  b__law_odd : Binds K a.d__law_odd ["_law_at"] []
  g__law_odd : mg "_law_odd" = some (.ref a.f__law_odd)
  F__law_within : Fun K "_law_within" "_law_within" st__law_within a.f__law_within a.d__law_within
  b__law_within : Binds K a.d__law_within ["_law_odd_here", "_law_way"] []
  g__law_within : mg "_law_within" = some (.ref a.f__law_within)
  F__law_refused : Fun K "_law_refused" "_law_refused" st__law_refused a.f__law_refused a.d__law_refused
  b__law_refused : Binds K a.d__law_refused ["_law_exprs"] []
  g__law_refused : mg "_law_refused" = some (.ref a.f__law_refused)
  F_law : Fun K "law" "law" st_law a.f_law a.d_law
  b_law : Binds K a.d_law ["_law_script"] []
  b0_law : ∀ (s : Shared) (u : Value), BindsTo s a.d_law ⟨[u], []⟩ [("_law_script", u)]
  g_law : mg "law" = some (.ref a.f_law)
  F_Num___init__ : Fun K "__init__" "Num.__init__" st_Num___init__ a.f_Num___init__ a.d_Num___init__
  b_Num___init__ : Binds K a.d_Num___init__ ["self", "value"] []
  F_Num_reckon : Fun K "reckon" "Num.reckon" st_Num_reckon a.f_Num_reckon a.d_Num_reckon
  b_Num_reckon : Binds K a.d_Num_reckon ["self", "worths"] []
  mt_Num_reckon : Meth K a.c_Num "reckon" a.f_Num_reckon
  F_Num_words : Fun K "words" "Num.words" st_Num_words a.f_Num_words a.d_Num_words
  b_Num_words : Binds K a.d_Num_words ["self"] []
  mt_Num_words : Meth K a.c_Num "words" a.f_Num_words
  F_Name___init__ : Fun K "__init__" "Name.__init__" st_Name___init__ a.f_Name___init__ a.d_Name___init__
  b_Name___init__ : Binds K a.d_Name___init__ ["self", "word"] []
  F_Name_reckon : Fun K "reckon" "Name.reckon" st_Name_reckon a.f_Name_reckon a.d_Name_reckon
  b_Name_reckon : Binds K a.d_Name_reckon ["self", "worths"] []
  mt_Name_reckon : Meth K a.c_Name "reckon" a.f_Name_reckon
  F_Name_words : Fun K "words" "Name.words" st_Name_words a.f_Name_words a.d_Name_words
  b_Name_words : Binds K a.d_Name_words ["self"] []
  mt_Name_words : Meth K a.c_Name "words" a.f_Name_words
  F_Two___init__ : Fun K "__init__" "Two.__init__" st_Two___init__ a.f_Two___init__ a.d_Two___init__
  b_Two___init__ : Binds K a.d_Two___init__ ["self", "word", "one", "other"] []
  F_Two_reckon : Fun K "reckon" "Two.reckon" st_Two_reckon a.f_Two_reckon a.d_Two_reckon
  b_Two_reckon : Binds K a.d_Two_reckon ["self", "worths"] []
  mt_Two_reckon : Meth K a.c_Two "reckon" a.f_Two_reckon
  F_Two_words : Fun K "words" "Two.words" st_Two_words a.f_Two_words a.d_Two_words
  b_Two_words : Binds K a.d_Two_words ["self"] []
  mt_Two_words : Meth K a.c_Two "words" a.f_Two_words
  F_Mod___init__ : Fun K "__init__" "Mod.__init__" st_Mod___init__ a.f_Mod___init__ a.d_Mod___init__
  b_Mod___init__ : Binds K a.d_Mod___init__ ["self", "inner", "number"] []
  F_Mod_reckon : Fun K "reckon" "Mod.reckon" st_Mod_reckon a.f_Mod_reckon a.d_Mod_reckon
  b_Mod_reckon : Binds K a.d_Mod_reckon ["self", "worths"] []
  mt_Mod_reckon : Meth K a.c_Mod "reckon" a.f_Mod_reckon
  F_Mod_words : Fun K "words" "Mod.words" st_Mod_words a.f_Mod_words a.d_Mod_words
  b_Mod_words : Binds K a.d_Mod_words ["self"] []
  mt_Mod_words : Meth K a.c_Mod "words" a.f_Mod_words
  F_Less___init__ : Fun K "__init__" "Less.__init__" st_Less___init__ a.f_Less___init__ a.d_Less___init__
  b_Less___init__ : Binds K a.d_Less___init__ ["self", "one", "other", "third", "fourth"] []
  F_Less_reckon : Fun K "reckon" "Less.reckon" st_Less_reckon a.f_Less_reckon a.d_Less_reckon
  b_Less_reckon : Binds K a.d_Less_reckon ["self", "worths"] []
  mt_Less_reckon : Meth K a.c_Less "reckon" a.f_Less_reckon
  F_Less_words : Fun K "words" "Less.words" st_Less_words a.f_Less_words a.d_Less_words
  b_Less_words : Binds K a.d_Less_words ["self"] []
  mt_Less_words : Meth K a.c_Less "words" a.f_Less_words
  F_Program___init__ : Fun K "__init__" "Program.__init__" st_Program___init__ a.f_Program___init__ a.d_Program___init__
  b_Program___init__ : Binds K a.d_Program___init__ ["self", "start", "send", "when", "renew"] []
  g_Expr : mg "Expr" = some (.ref a.c_Expr)
  g_Num : mg "Num" = some (.ref a.c_Num)
  cl_Num : Cls K a.c_Num
  mk_Num : Mk K a.c_Num a.f_Num___init__
  ty_Num : ∀ (H : Hp) (p dx : Addr) (fs : List (Str × V)), H p = some (.ins a.c_Num dx fs) → TyOf K H (.ref p) (.ref a.c_Num)
  na_Num_value : NoAttr K a.c_Num "value"
  g_Name : mg "Name" = some (.ref a.c_Name)
  cl_Name : Cls K a.c_Name
  mk_Name : Mk K a.c_Name a.f_Name___init__
  ty_Name : ∀ (H : Hp) (p dx : Addr) (fs : List (Str × V)), H p = some (.ins a.c_Name dx fs) → TyOf K H (.ref p) (.ref a.c_Name)
  na_Name_word : NoAttr K a.c_Name "word"
  g_Two : mg "Two" = some (.ref a.c_Two)
  cl_Two : Cls K a.c_Two
  mk_Two : Mk K a.c_Two a.f_Two___init__
  ty_Two : ∀ (H : Hp) (p dx : Addr) (fs : List (Str × V)), H p = some (.ins a.c_Two dx fs) → TyOf K H (.ref p) (.ref a.c_Two)
  na_Two_word : NoAttr K a.c_Two "word"
  na_Two_one : NoAttr K a.c_Two "one"
  na_Two_other : NoAttr K a.c_Two "other"
  g_Mod : mg "Mod" = some (.ref a.c_Mod)
  cl_Mod : Cls K a.c_Mod
  mk_Mod : Mk K a.c_Mod a.f_Mod___init__
  ty_Mod : ∀ (H : Hp) (p dx : Addr) (fs : List (Str × V)), H p = some (.ins a.c_Mod dx fs) → TyOf K H (.ref p) (.ref a.c_Mod)
  na_Mod_inner : NoAttr K a.c_Mod "inner"
  na_Mod_number : NoAttr K a.c_Mod "number"
  g_Less : mg "Less" = some (.ref a.c_Less)
  cl_Less : Cls K a.c_Less
  mk_Less : Mk K a.c_Less a.f_Less___init__
  ty_Less : ∀ (H : Hp) (p dx : Addr) (fs : List (Str × V)), H p = some (.ins a.c_Less dx fs) → TyOf K H (.ref p) (.ref a.c_Less)
  na_Less_one : NoAttr K a.c_Less "one"
  na_Less_other : NoAttr K a.c_Less "other"
  na_Less_third : NoAttr K a.c_Less "third"
  na_Less_fourth : NoAttr K a.c_Less "fourth"
  g_Program : mg "Program" = some (.ref a.c_Program)
  cl_Program : Cls K a.c_Program
  mk_Program : Mk K a.c_Program a.f_Program___init__
  ty_Program : ∀ (H : Hp) (p dx : Addr) (fs : List (Str × V)), H p = some (.ins a.c_Program dx fs) → TyOf K H (.ref p) (.ref a.c_Program)
  na_Program_start : NoAttr K a.c_Program "start"
  na_Program_send : NoAttr K a.c_Program "send"
  na_Program_when : NoAttr K a.c_Program "when"
  na_Program_renew : NoAttr K a.c_Program "renew"
  k_Num_Num : PySem.W.kitOne K (.ref a.c_Num) (.ref a.c_Num) = some true
  k_Name_Num : PySem.W.kitOne K (.ref a.c_Name) (.ref a.c_Num) = some false
  k_Name_Name : PySem.W.kitOne K (.ref a.c_Name) (.ref a.c_Name) = some true
  k_Two_Num : PySem.W.kitOne K (.ref a.c_Two) (.ref a.c_Num) = some false
  k_Two_Name : PySem.W.kitOne K (.ref a.c_Two) (.ref a.c_Name) = some false
  k_Two_Two : PySem.W.kitOne K (.ref a.c_Two) (.ref a.c_Two) = some true
  k_Mod_Num : PySem.W.kitOne K (.ref a.c_Mod) (.ref a.c_Num) = some false
  k_Mod_Name : PySem.W.kitOne K (.ref a.c_Mod) (.ref a.c_Name) = some false
  k_Mod_Two : PySem.W.kitOne K (.ref a.c_Mod) (.ref a.c_Two) = some false
  k_Mod_Mod : PySem.W.kitOne K (.ref a.c_Mod) (.ref a.c_Mod) = some true
  k_Less_Num : PySem.W.kitOne K (.ref a.c_Less) (.ref a.c_Num) = some false
  k_Less_Name : PySem.W.kitOne K (.ref a.c_Less) (.ref a.c_Name) = some false
  k_Less_Two : PySem.W.kitOne K (.ref a.c_Less) (.ref a.c_Two) = some false
  k_Less_Mod : PySem.W.kitOne K (.ref a.c_Less) (.ref a.c_Mod) = some false
  k_Less_Less : PySem.W.kitOne K (.ref a.c_Less) (.ref a.c_Less) = some true
  k_tint_tint : PySem.W.kitOne K (.type "int") (.type "int") = some true
  k_tint_tbool : PySem.W.kitOne K (.type "int") (.type "bool") = some false
  k_tstr_tstr : PySem.W.kitOne K (.type "str") (.type "str") = some true
  k_ttuple_ttuple : PySem.W.kitOne K (.type "tuple") (.type "tuple") = some true
  k_tint_ttuple : PySem.W.kitOne K (.type "int") (.type "tuple") = some false
  k_tstr_ttuple : PySem.W.kitOne K (.type "str") (.type "tuple") = some false
  k_tint_tstr : PySem.W.kitOne K (.type "int") (.type "str") = some false
  k_tstr_tint : PySem.W.kitOne K (.type "str") (.type "int") = some false
  k_tstr_tbool : PySem.W.kitOne K (.type "str") (.type "bool") = some false
  k_tNoneType_Num : PySem.W.kitOne K (.type "NoneType") (.ref a.c_Num) = some false
  k_tNoneType_Name : PySem.W.kitOne K (.type "NoneType") (.ref a.c_Name) = some false
  k_tNoneType_Two : PySem.W.kitOne K (.type "NoneType") (.ref a.c_Two) = some false
  k_tNoneType_Mod : PySem.W.kitOne K (.type "NoneType") (.ref a.c_Mod) = some false
  k_tNoneType_Less : PySem.W.kitOne K (.type "NoneType") (.ref a.c_Less) = some false
  k_tint_Num : PySem.W.kitOne K (.type "int") (.ref a.c_Num) = some false
  k_tint_Name : PySem.W.kitOne K (.type "int") (.ref a.c_Name) = some false
  k_tint_Two : PySem.W.kitOne K (.type "int") (.ref a.c_Two) = some false
  k_tint_Mod : PySem.W.kitOne K (.type "int") (.ref a.c_Mod) = some false
  k_tint_Less : PySem.W.kitOne K (.type "int") (.ref a.c_Less) = some false
  k_tstr_Num : PySem.W.kitOne K (.type "str") (.ref a.c_Num) = some false
  k_tstr_Name : PySem.W.kitOne K (.type "str") (.ref a.c_Name) = some false
  k_tstr_Two : PySem.W.kitOne K (.type "str") (.ref a.c_Two) = some false
  k_tstr_Mod : PySem.W.kitOne K (.type "str") (.ref a.c_Mod) = some false
  k_tstr_Less : PySem.W.kitOne K (.type "str") (.ref a.c_Less) = some false
  k_ttuple_Num : PySem.W.kitOne K (.type "tuple") (.ref a.c_Num) = some false
  k_ttuple_Name : PySem.W.kitOne K (.type "tuple") (.ref a.c_Name) = some false
  k_ttuple_Two : PySem.W.kitOne K (.type "tuple") (.ref a.c_Two) = some false
  k_ttuple_Mod : PySem.W.kitOne K (.type "tuple") (.ref a.c_Mod) = some false
  k_ttuple_Less : PySem.W.kitOne K (.type "tuple") (.ref a.c_Less) = some false
  k_tbool_Num : PySem.W.kitOne K (.type "bool") (.ref a.c_Num) = some false
  k_tbool_Name : PySem.W.kitOne K (.type "bool") (.ref a.c_Name) = some false
  k_tbool_Two : PySem.W.kitOne K (.type "bool") (.ref a.c_Two) = some false
  k_tbool_Mod : PySem.W.kitOne K (.type "bool") (.ref a.c_Mod) = some false
  k_tbool_Less : PySem.W.kitOne K (.type "bool") (.ref a.c_Less) = some false
  k_Expr_Num : PySem.W.kitOne K (.ref a.c_Expr) (.ref a.c_Num) = some false
  k_Expr_Name : PySem.W.kitOne K (.ref a.c_Expr) (.ref a.c_Name) = some false
  k_Expr_Two : PySem.W.kitOne K (.ref a.c_Expr) (.ref a.c_Two) = some false
  k_Expr_Mod : PySem.W.kitOne K (.ref a.c_Expr) (.ref a.c_Mod) = some false
  k_Expr_Less : PySem.W.kitOne K (.ref a.c_Expr) (.ref a.c_Less) = some false
  k_tNoneType_tint : PySem.W.kitOne K (.type "NoneType") (.type "int") = some false
  k_tNoneType_tbool : PySem.W.kitOne K (.type "NoneType") (.type "bool") = some false
  k_tNoneType_tstr : PySem.W.kitOne K (.type "NoneType") (.type "str") = some false
  k_ttuple_tint : PySem.W.kitOne K (.type "tuple") (.type "int") = some false
  k_ttuple_tbool : PySem.W.kitOne K (.type "tuple") (.type "bool") = some false
  k_ttuple_tstr : PySem.W.kitOne K (.type "tuple") (.type "str") = some false
  k_tbool_tint : PySem.W.kitOne K (.type "bool") (.type "int") = some true
  k_tbool_tbool : PySem.W.kitOne K (.type "bool") (.type "bool") = some true
  k_tbool_tstr : PySem.W.kitOne K (.type "bool") (.type "str") = some false
  k_Num_tint : PySem.W.kitOne K (.ref a.c_Num) (.type "int") = some false
  k_Num_tbool : PySem.W.kitOne K (.ref a.c_Num) (.type "bool") = some false
  k_Num_tstr : PySem.W.kitOne K (.ref a.c_Num) (.type "str") = some false
  k_NoProgram_NoWeb : PySem.W.kitOne K (.ref a.c_NoProgram) (.ref a.c_NoWeb) = some false
  k_NoProgram_NoHand : PySem.W.kitOne K (.ref a.c_NoProgram) (.ref a.c_NoHand) = some false
  k_NoProgram_NoText : PySem.W.kitOne K (.ref a.c_NoProgram) (.ref a.c_NoText) = some false
  k_NoProgram_NoWay : PySem.W.kitOne K (.ref a.c_NoProgram) (.ref a.c_NoWay) = some false
  k_NoProgram_NoRound : PySem.W.kitOne K (.ref a.c_NoProgram) (.ref a.c_NoRound) = some false
  k_NoProgram_BeatlessError : PySem.W.kitOne K (.ref a.c_NoProgram) (.ref a.c_BeatlessError) = some true
  k_NoProgram_tValueError : PySem.W.kitOne K (.ref a.c_NoProgram) (.type "ValueError") = some true
  g_START_NAMES : mg "START_NAMES" = some (.ref a.t_START_NAMES)
  s_START_NAMES : ∀ H : Hp, SqT K H a.t_START_NAMES [V.str "me", V.str "lines"]
  g_SEND_NAMES : mg "SEND_NAMES" = some (.ref a.t_SEND_NAMES)
  s_SEND_NAMES : ∀ H : Hp, SqT K H a.t_SEND_NAMES [V.str "worth", V.str "me", V.str "round", V.str "lines", V.str "to"]
  g_RENEW_NAMES : mg "RENEW_NAMES" = some (.ref a.t_RENEW_NAMES)
  s_RENEW_NAMES : ∀ H : Hp, SqT K H a.t_RENEW_NAMES [V.str "worth", V.str "me", V.str "round", V.str "lines", V.str "sum", V.str "least", V.str "most", V.str "count"]
  g_TWO_WORDS : mg "TWO_WORDS" = some (.ref a.t_TWO_WORDS)
  s_TWO_WORDS : ∀ H : Hp, SqT K H a.t_TWO_WORDS [V.str "add", V.str "sub", V.str "min", V.str "max"]
  g_MOST_WORDS : mg "MOST_WORDS" = some (.int 60 a.t_MOST_WORDS)
  g_MOST_DEEP : mg "MOST_DEEP" = some (.int 8 a.t_MOST_DEEP)
  g_NoProgram : mg "NoProgram" = some (.ref a.c_NoProgram)
  xc_NoProgram : XCls K a.c_NoProgram
  g_NoWeb : mg "NoWeb" = some (.ref a.c_NoWeb)
  g_NoHand : mg "NoHand" = some (.ref a.c_NoHand)
  g_NoText : mg "NoText" = some (.ref a.c_NoText)
  g_NoWay : mg "NoWay" = some (.ref a.c_NoWay)
  g_NoRound : mg "NoRound" = some (.ref a.c_NoRound)
  g_BeatlessError : mg "BeatlessError" = some (.ref a.c_BeatlessError)
  xi_NoProgram : XIs K a.c_NoProgram
  mb_Expr : PySem.W.makesIn K a.c_Expr = true
  ib_Expr : PySem.W.findIn K (.ref a.c_Expr) "__init__" = some (some (.builtin "object.__init__"))
  kb_Expr : PySem.W.keepIn K (.ref a.c_Expr) = true
  ob_Expr : PySem.W.mroIn K a.c_Expr (.type "object") = some true
  ty_Expr : ∀ (H : Hp) (p dx : Addr) (fs : List (Str × V)), H p = some (.ins a.c_Expr dx fs) → TyOf K H (.ref p) (.ref a.c_Expr)
def Made (a : Ad) (H : Hp) : Ex → V → Prop
  | .num i, v => ∃ p dx, v = .ref p ∧ H p = some (.ins a.c_Num dx [("value", .int i)])
  | .name x, v => ∃ p dx, v = .ref p ∧ H p = some (.ins a.c_Name dx [("word", .str x)])
  | .two w e f, v => ∃ p dx u1 u2, v = .ref p ∧ H p = some (.ins a.c_Two dx [("word", .str w), ("one", u1), ("other", u2)]) ∧ Made a H e u1 ∧ Made a H f u2
  | .mod e n, v => ∃ p dx u1, v = .ref p ∧ H p = some (.ins a.c_Mod dx [("inner", u1), ("number", .int n)]) ∧ Made a H e u1
  | .less e f g h, v => ∃ p dx u1 u2 u3 u4, v = .ref p ∧ H p = some (.ins a.c_Less dx [("one", u1), ("other", u2), ("third", u3), ("fourth", u4)]) ∧ Made a H e u1 ∧ Made a H f u2 ∧ Made a H g u3 ∧ Made a H h u4
theorem Made.mono {a : Ad} {H H' : Hp} (k : ∀ b C dx fs, H b = some (.ins C dx fs) → H' b = some (.ins C dx fs)) : ∀ {e : Ex} {v : V}, Made a H e v → Made a H' e v
  | .num _, _, ⟨p, dx, e, h⟩ => ⟨p, dx, e, k _ _ _ _ h⟩
  | .name _, _, ⟨p, dx, e, h⟩ => ⟨p, dx, e, k _ _ _ _ h⟩
  | .two _ _ _, _, ⟨p, dx, u1, u2, e, h, t1, t2⟩ => ⟨p, dx, u1, u2, e, k _ _ _ _ h, t1.mono k, t2.mono k⟩
  | .mod _ _, _, ⟨p, dx, u1, e, h, t1⟩ => ⟨p, dx, u1, e, k _ _ _ _ h, t1.mono k⟩
  | .less _ _ _ _, _, ⟨p, dx, u1, u2, u3, u4, e, h, t1, t2, t3, t4⟩ => ⟨p, dx, u1, u2, u3, u4, e, k _ _ _ _ h, t1.mono k, t2.mono k, t3.mono k, t4.mono k⟩
theorem Made.same {a : Ad} {H H' : Hp} (k : Same H H') {e : Ex} {v : V} (t : Made a H e v) : Made a H' e v := t.mono fun b C dx fs h => k b _ h
section
variable {P : Program} {w : World} {K : PySem.W.Frag} {mg : Str → Option Value} {base : Heap} {a : Ad}
def spI1 (C : Addr) (x : Str) : Sp := fun vs H Q _ => ∃ (p dx : Addr) (v : V), vs = [.ref p, v] ∧ H p = some (.ins C dx []) ∧ Q .non (upd H p (.ins C dx [(x, v)]))
def spI2 (C : Addr) (x y : Str) : Sp := fun vs H Q _ => ∃ (p dx : Addr) (v u : V), vs = [.ref p, v, u] ∧ H p = some (.ins C dx []) ∧ Q .non (upd H p (.ins C dx [(x, v), (y, u)]))
def spI3 (C : Addr) (x y z : Str) : Sp := fun vs H Q _ => ∃ (p dx : Addr) (v u t : V), vs = [.ref p, v, u, t] ∧ H p = some (.ins C dx []) ∧ Q .non (upd H p (.ins C dx [(x, v), (y, u), (z, t)]))
def spI4 (C : Addr) (x y z o : Str) : Sp := fun vs H Q _ => ∃ (p dx : Addr) (v u t r : V), vs = [.ref p, v, u, t, r] ∧ H p = some (.ins C dx []) ∧ Q .non (upd H p (.ins C dx [(x, v), (y, u), (z, t), (o, r)]))
theorem ok_Num_init (T : Txt K mg a) : FnOk P w K mg base CX0 1 a.f_Num___init__ a.d_Num___init__ ["self", "value"] (spI1 a.c_Num "value") := by
  refine T.F_Num___init__.ok sc_Num___init__ (fun vs H Q E h => ?_) (fun cdv A outer s H vs Q E hr h => ?_)
  · obtain ⟨p, dx, v, rfl, _⟩ := h
    rfl
  · obtain ⟨p, dx, v, rfl, hp, k⟩ := h
    refine ⟨_, (pss_one (ps_fld (pv 0) (pv 1) rfl)), ?_⟩
    refine ⟨_, rfl, _, rfl, p, a.c_Num, dx, _, rfl, hp, T.cl_Num, T.na_Num_value, (by show 0 < 1000; decide), ?_⟩
    exact k
theorem ok_Name_init (T : Txt K mg a) : FnOk P w K mg base CX0 1 a.f_Name___init__ a.d_Name___init__ ["self", "word"] (spI1 a.c_Name "word") := by
  refine T.F_Name___init__.ok sc_Name___init__ (fun vs H Q E h => ?_) (fun cdv A outer s H vs Q E hr h => ?_)
  · obtain ⟨p, dx, v, rfl, _⟩ := h
    rfl
  · obtain ⟨p, dx, v, rfl, hp, k⟩ := h
    refine ⟨_, (pss_one (ps_fld (pv 0) (pv 1) rfl)), ?_⟩
    refine ⟨_, rfl, _, rfl, p, a.c_Name, dx, _, rfl, hp, T.cl_Name, T.na_Name_word, (by show 0 < 1000; decide), ?_⟩
    exact k
theorem ok_Two_init (T : Txt K mg a) : FnOk P w K mg base CX0 1 a.f_Two___init__ a.d_Two___init__ ["self", "word", "one", "other"] (spI3 a.c_Two "word" "one" "other") := by
  refine T.F_Two___init__.ok sc_Two___init__ (fun vs H Q E h => ?_) (fun cdv A outer s H vs Q E hr h => ?_)
  · obtain ⟨p, dx, v, u, t, rfl, _⟩ := h
    rfl
  · obtain ⟨p, dx, v, u, t, rfl, hp, k⟩ := h
    refine ⟨_, (pss_cons (ps_fld (pv 0) (pv 1) rfl)
      (pss_cons (ps_fld (pv 0) (pv 2) rfl)
      (pss_one (ps_fld (pv 0) (pv 3) rfl)))), ?_⟩
    refine ⟨_, rfl, _, rfl, p, a.c_Two, dx, _, rfl, hp, T.cl_Two, T.na_Two_word, (by show 0 < 1000; decide), ?_⟩
    refine ⟨_, rfl, _, rfl, p, a.c_Two, dx, _, rfl, upd_same, T.cl_Two, T.na_Two_one, (by show 1 < 1000; decide), ?_⟩
    refine ⟨_, rfl, _, rfl, p, a.c_Two, dx, _, rfl, upd_same, T.cl_Two, T.na_Two_other, (by show 2 < 1000; decide), ?_⟩
    rw [upd_upd, upd_upd]
    exact k
theorem ok_Mod_init (T : Txt K mg a) : FnOk P w K mg base CX0 1 a.f_Mod___init__ a.d_Mod___init__ ["self", "inner", "number"] (spI2 a.c_Mod "inner" "number") := by
  refine T.F_Mod___init__.ok sc_Mod___init__ (fun vs H Q E h => ?_) (fun cdv A outer s H vs Q E hr h => ?_)
  · obtain ⟨p, dx, v, u, rfl, _⟩ := h
    rfl
  · obtain ⟨p, dx, v, u, rfl, hp, k⟩ := h
    refine ⟨_, (pss_cons (ps_fld (pv 0) (pv 1) rfl)
      (pss_one (ps_fld (pv 0) (pv 2) rfl))), ?_⟩
    refine ⟨_, rfl, _, rfl, p, a.c_Mod, dx, _, rfl, hp, T.cl_Mod, T.na_Mod_inner, (by show 0 < 1000; decide), ?_⟩
    refine ⟨_, rfl, _, rfl, p, a.c_Mod, dx, _, rfl, upd_same, T.cl_Mod, T.na_Mod_number, (by show 1 < 1000; decide), ?_⟩
    rw [upd_upd]
    exact k
theorem ok_Less_init (T : Txt K mg a) : FnOk P w K mg base CX0 1 a.f_Less___init__ a.d_Less___init__ ["self", "one", "other", "third", "fourth"] (spI4 a.c_Less "one" "other" "third" "fourth") := by
  refine T.F_Less___init__.ok sc_Less___init__ (fun vs H Q E h => ?_) (fun cdv A outer s H vs Q E hr h => ?_)
  · obtain ⟨p, dx, v, u, t, r, rfl, _⟩ := h
    rfl
  · obtain ⟨p, dx, v, u, t, r, rfl, hp, k⟩ := h
    refine ⟨_, (pss_cons (ps_fld (pv 0) (pv 1) rfl)
      (pss_cons (ps_fld (pv 0) (pv 2) rfl)
      (pss_cons (ps_fld (pv 0) (pv 3) rfl)
      (pss_one (ps_fld (pv 0) (pv 4) rfl))))), ?_⟩
    refine ⟨_, rfl, _, rfl, p, a.c_Less, dx, _, rfl, hp, T.cl_Less, T.na_Less_one, (by show 0 < 1000; decide), ?_⟩
    refine ⟨_, rfl, _, rfl, p, a.c_Less, dx, _, rfl, upd_same, T.cl_Less, T.na_Less_other, (by show 1 < 1000; decide), ?_⟩
    refine ⟨_, rfl, _, rfl, p, a.c_Less, dx, _, rfl, upd_same, T.cl_Less, T.na_Less_third, (by show 2 < 1000; decide), ?_⟩
    refine ⟨_, rfl, _, rfl, p, a.c_Less, dx, _, rfl, upd_same, T.cl_Less, T.na_Less_fourth, (by show 3 < 1000; decide), ?_⟩
    rw [upd_upd, upd_upd, upd_upd]
    exact k
end
end K04

/-! K06b -/
set_option Elab.async false
set_option linter.all false
set_option maxRecDepth 100000
set_option maxHeartbeats 4000000
namespace K04
open PySem L2
section
variable {P : Program} {w : World} {K : PySem.W.Frag} {mg : Str → Option Value} {base : Heap} {a : Ad}
def spDigit : Sp := fun vs H Q _ => ∃ (l : Addr) (n : Int), vs = [.ref l, .int n] ∧ StAt H l ∧ 0 < n ∧ n.natAbs.log2 < 9000 ∧ ∀ (d : Int) (H' : Hp), 0 ≤ d → d < n → StAt H' l → Ext l H H' → Q (.int d) H'
theorem ok_digit (T : Txt K mg a) : FnOk P w K mg base CX0 1 a.f__law_digit a.d__law_digit ["_law_state", "_law_base"] spDigit := by
  refine T.F__law_digit.ok sc__law_digit (fun vs H Q E h => ?_) (fun cdv A outer s H vs Q E hr h => ?_)
  · obtain ⟨l, n, rfl, _⟩ := h
    rfl
  · obtain ⟨l, n, rfl, ⟨st, hst, ok⟩, hn, hlog, k⟩ := h
    refine ⟨_, (pss_cut (ps_if (pt_cmpR op_eq (pe_callB call_len_seq (by rfl) T.n_len bt_len (pa_N (pv 0) pa_nil)) pe_int (nomark _))
        (pss_cons (ps_set (i := 2) sc__law_digit.nd rfl (Or.inl rfl) (pe_ix ix_list (pv 0) pe_int (fun _ _ => rfl)))
        (pss_cons (ps_asg (pe_op op_mul (pv 2) (pe_callTy call_int1 (by rfl) T.n_int bt_int (pa_cons (pe_cmpR op_ge (pv 2) (pe_op op_pow pe_int pe_int) (nomark _)) pa_nil))) (pg_sub (pv 0) pe_int set_list))
        (pss_one (ps_expr (pe_bm PySem.F.plainAttrs_list PySem.F.slot_list_extend PySem.F.type_list_extend mt_extend (pv 0) (pa_cons (pe_lst (pa_B (pe_op op_mod (pv 2) pe_int) (pa_C pe_int pa_nil))) pa_nil))))))
        pss_nil)
      (pss_cons (ps_if (pt_cmpR op_gt (pe_ix ix_list (pv 0) pe_int (fun _ _ => rfl)) pe_int (nomark _))
        (pss_cons (ps_set (i := 3) sc__law_digit.nd rfl (Or.inl rfl) (pe_op op_mod (pe_ix ix_list (pv 0) pe_int (fun _ _ => rfl)) (pv 1)))
        (pss_cons (ps_asg (pe_op op_fdivG (pe_ix ix_list (pv 0) pe_int (fun _ _ => rfl)) (pv 1)) (pg_sub (pv 0) pe_int set_list))
        (pss_one (ps_ret (pv 3)))))
        pss_nil)
      (pss_cons (ps_asg (pe_op op_add (pe_ix ix_list (pv 0) pe_int (fun _ _ => rfl)) pe_int) (pg_sub (pv 0) pe_int set_list))
      (pss_cons (ps_set (i := 4) sc__law_digit.nd rfl (Or.inl rfl) (pe_op op_mod (pe_op op_mul (pe_op op_add (pe_op op_add (pe_ix ix_list (pv 0) pe_int (fun _ _ => rfl)) (pe_op op_mul pe_int (pe_ix ix_list (pv 0) pe_int (fun _ _ => rfl)))) pe_int) pe_int) pe_int))
      (pss_cons (ps_set (i := 4) sc__law_digit.nd rfl (Or.inl rfl) (pe_op op_mod (pe_op op_mul (pv 4) (pe_op op_add (pe_op op_fdivG (pv 4) pe_int) pe_int)) pe_int))
      (pss_one (ps_ret (pe_op op_mod (pe_op op_mod (pe_op op_mul (pv 4) (pe_op op_add (pe_op op_fdivG (pv 4) pe_int) pe_int)) pe_int) (pv 1))))))))), ?_⟩
    refine ⟨fun σ' H' => ∃ (c0 : Option V) (x y z : Int), σ' = [some (.ref l), some (.int n), c0, none, none] ∧ H' l = some (.lst [.int x, .int y, .int z]) ∧ Ext l H H', ?_, ?_⟩
    · -- if len(_law_state) == 1:
      refine ⟨_, rfl, l, st, rfl, .inl (SqL.of hst), rfl, _, rfl, ?_⟩
      rcases ok with ⟨x, rfl⟩ | ⟨x, y, z, rfl⟩
      · refine iteB rfl ?_
        refine ⟨_, rfl, l, _, 0, _, rfl, rfl, SqL.of hst, rfl, _, rfl, _, rfl, _, _, rfl, rfl, ⟨by decide, by decide, by decide⟩, _, _, rfl, rfl, .inr ⟨_, rfl, _, _, rfl, rfl, .inr (b01 _), _, rfl, l, _, 0, 0, rfl, rfl, hst, rfl, ?_⟩⟩
        · refine ⟨_, rfl, .inl ⟨rfl, _, SqL.of upd_same⟩, _, rfl, _, _, rfl, rfl, (by show (0 : Int) < 2147483647; decide), (by show 2 ≤ sizeLine; decide), fun p hp => ?_⟩
          have hpl : p ≠ l := by
            intro z
            rw [z, upd_same] at hp
            cases hp
          have hp0 : H p = none := by rw [upd_ne hpl] at hp; exact hp
          refine ⟨l, p, [_], [_, _], rfl, rfl, (upd_ne hpl.symm).trans upd_same, upd_same, (by show 1 + 2 ≤ sizeLine; decide), ?_⟩
          refine ⟨_, _, _, _, rfl, upd_same, fun b o e nb => ?_⟩
          rw [upd_ne nb, upd_ne (ne_of_none e hp0), upd_ne nb]
          exact e
      · refine iteN rfl ?_
        exact ⟨none, x, y, z, rfl, hst, Ext.refl⟩
    · rintro σ' H1 ⟨c0, x, y, z, rfl, hst, hx⟩
      -- if _law_state[0] > 0:
      refine ⟨_, rfl, l, _, 0, _, rfl, rfl, SqL.of hst, rfl, _, _, rfl, rfl, _, rfl, ?_⟩
      refine ite2 (fun q => ?_) (fun q => ?_)
      · refine ⟨_, rfl, l, _, 0, _, rfl, rfl, SqL.of hst, rfl, _, rfl, _, _, rfl, rfl, hn, _, rfl, l, _, 0, _, rfl, rfl, SqL.of hst, rfl, _, rfl, _, _, rfl, rfl, ⟨hn, hlog⟩, _, rfl, l, _, 0, 0, rfl, rfl, hst, rfl, _, rfl, ?_⟩
        exact k _ _ (Int.emod_nonneg _ (Int.ne_of_gt hn)) (Int.emod_lt_of_pos _ hn) ⟨_, upd_same, .inr ⟨_, _, _, rfl⟩⟩ (hx.trans Ext.at)
      · refine ⟨_, rfl, l, _, 2, _, rfl, rfl, SqL.of hst, rfl, _, _, rfl, rfl, _, rfl, l, _, 2, 2, rfl, rfl, hst, rfl, ?_⟩
        refine ⟨_, rfl, l, _, 1, _, rfl, rfl, SqL.of upd_same, rfl, _, rfl, l, _, 2, _, rfl, rfl, SqL.of upd_same, rfl, _, _, rfl, rfl, .inl ⟨by decide, by decide⟩, _, _, rfl, rfl, _, _, rfl, rfl, _, _, rfl, rfl, .inr ⟨by decide, by decide⟩, _, _, rfl, rfl, (by show (0 : Int) < 2147483647; decide), ?_⟩
        generalize hv : (y + 7919 * (z + 1) + 1) * 48271 % 2147483647 = v
        have v1 : 0 ≤ v := by rw [← hv]; exact Int.emod_nonneg _ (by decide)
        have v2 : v < 2147483647 := by rw [← hv]; exact Int.emod_lt_of_pos _ (by decide)
        refine ⟨_, rfl, _, rfl, _, _, rfl, rfl, ⟨by show (0 : Int) < 1009; decide, log_1009⟩, _, _, rfl, rfl, _, _, rfl, rfl, .inl ⟨by omega, by omega⟩, _, _, rfl, rfl, (by show (0 : Int) < 2147483647; decide), ?_⟩
        generalize hu : v * (v / 1009 + 69621) % 2147483647 = u
        have u1 : 0 ≤ u := by rw [← hu]; exact Int.emod_nonneg _ (by decide)
        have u2 : u < 2147483647 := by rw [← hu]; exact Int.emod_lt_of_pos _ (by decide)
        refine ⟨_, rfl, _, rfl, _, _, rfl, rfl, ⟨by show (0 : Int) < 2003; decide, log_2003⟩, _, _, rfl, rfl, _, _, rfl, rfl, .inl ⟨by omega, by omega⟩, _, _, rfl, rfl, (by show (0 : Int) < 2147483399; decide), _, rfl, _, _, rfl, rfl, hn, ?_⟩
        exact k _ _ (Int.emod_nonneg _ (Int.ne_of_gt hn)) (Int.emod_lt_of_pos _ hn) ⟨_, upd_same, .inr ⟨_, _, _, rfl⟩⟩ (hx.trans Ext.at)
abbrev isNum (e : Ex) : Prop := ∃ i, e = .num i
abbrev isName (e : Ex) : Prop := ∃ x, e = .name x
abbrev isTwo (e : Ex) : Prop := ∃ w e1 e2, e = .two w e1 e2
abbrev isMod (e : Ex) : Prop := ∃ e1 n, e = .mod e1 n
abbrev isLess (e : Ex) : Prop := ∃ e1 e2 e3 e4, e = .less e1 e2 e3 e4
end
end K04

/-! K06g -/
set_option Elab.async false
set_option linter.all false
set_option maxRecDepth 100000
set_option maxHeartbeats 4000000
namespace K04
open PySem L2
section
variable {P : Program} {w : World} {K : PySem.W.Frag} {mg : Str → Option Value} {base : Heap} {a : Ad}
def spLf (K : PySem.W.Frag) (f : V → Bool) : Sp := fun vs H Q _ => ∃ v, vs = [v] ∧ Lf K H v ∧ Q (.bl (f v)) H
theorem ok_is_whole (T : Txt K mg a) : FnOk P w K mg base CX0 1 a.f_is_whole a.d_is_whole ["value"] (spLf K whole) := by
  refine T.F_is_whole.ok sc_is_whole (fun vs H Q E h => ?_) (fun cdv A outer s H vs Q E hr h => ?_)
  · obtain ⟨v, rfl, _⟩ := h
    rfl
  · obtain ⟨v, rfl, ⟨t, ty, k1, k2, _⟩, k⟩ := h
    refine ⟨_, (pss_one (ps_ret (pe_and (pe_callB call_isi (by rfl) T.n_isinstance bt_isinstance (pa_N (pv 0) (pa_N (pe_bty T.n_int bt_int) pa_nil))) (pe_one (pe_not (pe_callB call_isi (by rfl) T.n_isinstance bt_isinstance (pa_N (pv 0) (pa_N (pe_bty T.n_bool bt_bool) pa_nil)))))))), ?_⟩
    rw [whole_eq] at k
    refine ⟨_, rfl, _, _, _, _, _, rfl, rfl, ty, k1, _, rfl, ?_⟩
    by_cases q : isIB v = true
    · rw [q] at k
      exact iteB q ⟨_, rfl, _, _, _, _, _, rfl, rfl, ty, k2, _, rfl, k⟩
    · have q := Bool.eq_false_iff.mpr q
      rw [q] at k
      exact iteN q k
theorem ok_is_short (T : Txt K mg a) : FnOk P w K mg base CX0 2 a.f_is_short_number a.d_is_short_number ["value"] (spLf K shortN) := by
  have c_is_whole : Callee P w K mg base "is_whole" a.f_is_whole a.d_is_whole ["value"] 1 (spLf K whole) := ⟨ok_is_whole T, T.g_is_whole, T.F_is_whole.kp, T.b_is_whole⟩
  refine T.F_is_short_number.ok sc_is_short_number (fun vs H Q E h => ?_) (fun cdv A outer s H vs Q E hr h => ?_)
  · obtain ⟨v, rfl, _⟩ := h
    rfl
  · obtain ⟨v, rfl, lf, k⟩ := h
    refine ⟨_, (pss_one (ps_ret (pe_and (pe_c c_is_whole (hr.mono (by omega)) (pa_N (pv 0) pa_nil)) (pe_one (pe_cmpR op_lt (pe_callB call_abs (by rfl) T.n_abs bt_abs (pa_N (pv 0) pa_nil)) (pe_op op_pow pe_int pe_int) (nomark _)))))), ?_⟩
    refine ⟨_, rfl, v, rfl, lf, _, rfl, ?_⟩
    by_cases q : whole v = true
    · obtain ⟨i, rfl⟩ := whole_int q
      refine iteB q ⟨_, rfl, i, rfl, _, _, rfl, rfl, ⟨by decide, by decide, by decide⟩, _, _, rfl, rfl, ?_⟩
      rw [pow20]
      exact k
    · have q := Bool.eq_false_iff.mpr q
      refine iteN q ?_
      have e : shortN v = false := by cases v <;> first | rfl | simp [whole] at q
      rw [e] at k
      exact k
theorem ok_is_divisor (T : Txt K mg a) : FnOk P w K mg base CX0 2 a.f_is_divisor a.d_is_divisor ["number"] (spLf K divr) := by
  have c_is_whole : Callee P w K mg base "is_whole" a.f_is_whole a.d_is_whole ["value"] 1 (spLf K whole) := ⟨ok_is_whole T, T.g_is_whole, T.F_is_whole.kp, T.b_is_whole⟩
  refine T.F_is_divisor.ok sc_is_divisor (fun vs H Q E h => ?_) (fun cdv A outer s H vs Q E hr h => ?_)
  · obtain ⟨v, rfl, _⟩ := h
    rfl
  · obtain ⟨v, rfl, lf, k⟩ := h
    refine ⟨_, (pss_one (ps_ret (pe_and (pe_c c_is_whole (hr.mono (by omega)) (pa_N (pv 0) pa_nil)) (pe_and (pe_cmpR op_ge (pv 0) pe_int (nomark _)) (pe_one (pe_cmpR op_le (pv 0) (pe_op op_pow pe_int pe_int) (nomark _))))))), ?_⟩
    refine ⟨_, rfl, v, rfl, lf, _, rfl, ?_⟩
    by_cases q : whole v = true
    · obtain ⟨i, rfl⟩ := whole_int q
      have k' : Q (.bl (decide (1 ≤ i) && decide (i ≤ 1000000000))) H := k
      refine iteB q ⟨_, rfl, _, _, rfl, rfl, _, rfl, ?_⟩
      by_cases q1 : (1 : Int) ≤ i
      · refine iteB (decide_eq_true q1) ⟨_, rfl, _, _, rfl, rfl, ⟨by decide, by decide, by decide⟩, _, _, rfl, rfl, ?_⟩
        rw [decide_eq_true q1, Bool.true_and] at k'
        rw [pow9]
        exact k'
      · refine iteN (decide_eq_false q1) ?_
        rw [decide_eq_false q1, Bool.false_and] at k'
        exact k'
    · have q := Bool.eq_false_iff.mpr q
      refine iteN q ?_
      have e : divr v = false := by cases v <;> first | rfl | simp [whole] at q
      rw [e] at k
      exact k
def spWord (K : PySem.W.Frag) : Sp := fun vs H Q _ => ∃ (v : V) (p : Addr) (ws : List Str), vs = [v, .ref p] ∧ Lf K H v ∧ SqT K H p (ws.map V.str) ∧ Q (.bl (wordIn ws v)) H
theorem ok_is_word (T : Txt K mg a) : FnOk P w K mg base CX0 1 a.f_is_word_of a.d_is_word_of ["word", "words"] (spWord K) := by
  refine T.F_is_word_of.ok sc_is_word_of (fun vs H Q E h => ?_) (fun cdv A outer s H vs Q E hr h => ?_)
  · obtain ⟨v, p, ws, rfl, _⟩ := h
    rfl
  · obtain ⟨v, p, ws, rfl, ⟨t, ty, _, _, k3⟩, hp, k⟩ := h
    refine ⟨_, (pss_one (ps_ret (pe_and (pe_callB call_isi (by rfl) T.n_isinstance bt_isinstance (pa_N (pv 0) (pa_N (pe_bty T.n_str bt_str) pa_nil))) (pe_one (pe_cmpR op_in_seq (pv 0) (pv 1) (by with_unfolding_all rfl)))))), ?_⟩
    refine ⟨_, rfl, _, _, _, _, _, rfl, rfl, ty, k3, _, rfl, ?_⟩
    by_cases q : isSt v = true
    · obtain ⟨x, rfl⟩ := isSt_str q
      exact iteB q ⟨_, rfl, _, rfl, p, _, rfl, .inr hp, rfl, flat_strs ws, k⟩
    · have q := Bool.eq_false_iff.mpr q
      refine iteN q ?_
      have e : wordIn ws v = false := by cases v <;> first | rfl | simp [isSt] at q
      rw [e] at k
      exact k
end
end K04

/-! K06h -/
set_option Elab.async false
set_option linter.all false
set_option maxRecDepth 100000
set_option maxHeartbeats 4000000
namespace K04
open PySem L2
theorem TyOf.same {K : PySem.W.Frag} {H H' : Hp} {v : V} {t : Value} (s : Same H H') (h : TyOf K H v t) : TyOf K H' v t := by
  cases h with
  | non => exact .non
  | bl x => exact .bl x
  | int i => exact .int i
  | str x => exact .str x
  | flt x => exact .flt x
  | lst e => exact .lst (s _ _ e)
  | frz e => exact .frz (s _ _ e)
  | tup e => exact .tup (s _ _ e)
  | dK e => exact .dK (s _ _ e)
  | dT e => exact .dT (s _ _ e)
  | ins e cl ha hn htk hm => exact .ins (s _ _ e) cl ha hn htk hm
theorem Lf.same {K : PySem.W.Frag} {H H' : Hp} {v : V} (s : Same H H') (h : Lf K H v) : Lf K H' v := by
  obtain ⟨t, ty, k⟩ := h
  exact ⟨t, TyOf.same s ty, k⟩
section
variable {P : Program} {w : World} {K : PySem.W.Frag} {mg : Str → Option Value} {base : Heap} {a : Ad}
def GMade (K : PySem.W.Frag) (a : Ad) (H : Hp) : Gx → V → Prop
  | .num v, r => ∃ p dx, r = .ref p ∧ H p = some (.ins a.c_Num dx [("value", v)]) ∧ Lf K H v
  | .name v, r => ∃ p dx, r = .ref p ∧ H p = some (.ins a.c_Name dx [("word", v)]) ∧ Lf K H v
  | .two wd e f, r => ∃ p dx u1 u2, r = .ref p ∧ H p = some (.ins a.c_Two dx [("word", wd), ("one", u1), ("other", u2)]) ∧ Lf K H wd ∧ GMade K a H e u1 ∧ GMade K a H f u2
  | .mod e n, r => ∃ p dx u1, r = .ref p ∧ H p = some (.ins a.c_Mod dx [("inner", u1), ("number", n)]) ∧ Lf K H n ∧ GMade K a H e u1
  | .less e f g h, r => ∃ p dx u1 u2 u3 u4, r = .ref p ∧ H p = some (.ins a.c_Less dx [("one", u1), ("other", u2), ("third", u3), ("fourth", u4)]) ∧ GMade K a H e u1 ∧ GMade K a H f u2 ∧ GMade K a H g u3 ∧ GMade K a H h u4
  | .oth v, r => r = v ∧ ∃ t, TyOf K H v t ∧ PySem.W.kitOne K t (.ref a.c_Num) = some false ∧ PySem.W.kitOne K t (.ref a.c_Name) = some false ∧ PySem.W.kitOne K t (.ref a.c_Two) = some false ∧ PySem.W.kitOne K t (.ref a.c_Mod) = some false ∧ PySem.W.kitOne K t (.ref a.c_Less) = some false
theorem GMade.same {H H' : Hp} (s : Same H H') : ∀ {g : Gx} {r : V}, GMade K a H g r → GMade K a H' g r
  | .num _, _, ⟨p, dx, e, h, l⟩ => ⟨p, dx, e, s _ _ h, l.same s⟩
  | .name _, _, ⟨p, dx, e, h, l⟩ => ⟨p, dx, e, s _ _ h, l.same s⟩
  | .two _ _ _, _, ⟨p, dx, u1, u2, e, h, l, t1, t2⟩ => ⟨p, dx, u1, u2, e, s _ _ h, l.same s, t1.same s, t2.same s⟩
  | .mod _ _, _, ⟨p, dx, u1, e, h, l, t1⟩ => ⟨p, dx, u1, e, s _ _ h, l.same s, t1.same s⟩
  | .less _ _ _ _, _, ⟨p, dx, u1, u2, u3, u4, e, h, t1, t2, t3, t4⟩ => ⟨p, dx, u1, u2, u3, u4, e, s _ _ h, t1.same s, t2.same s, t3.same s, t4.same s⟩
  | .oth _, _, ⟨e, t, ty, k⟩ => ⟨e, t, TyOf.same s ty, k⟩
theorem lf_int (T : Txt K mg a) {H : Hp} (i : Int) : Lf K H (.int i) := ⟨_, .int i, T.k_tint_tint, T.k_tint_tbool, T.k_tint_tstr⟩
theorem lf_str (T : Txt K mg a) {H : Hp} (x : Str) : Lf K H (.str x) := ⟨_, .str x, T.k_tstr_tint, T.k_tstr_tbool, T.k_tstr_tstr⟩
theorem Made.gx (T : Txt K mg a) {H : Hp} : ∀ {e : Ex} {r : V}, Made a H e r → GMade K a H e.gx r
  | .num i, _, ⟨p, dx, e, h⟩ => ⟨p, dx, e, h, lf_int T i⟩
  | .name x, _, ⟨p, dx, e, h⟩ => ⟨p, dx, e, h, lf_str T x⟩
  | .two w _ _, _, ⟨p, dx, u1, u2, e, h, t1, t2⟩ => ⟨p, dx, u1, u2, e, h, lf_str T w, t1.gx T, t2.gx T⟩
  | .mod _ n, _, ⟨p, dx, u1, e, h, t1⟩ => ⟨p, dx, u1, e, h, lf_int T n, t1.gx T⟩
  | .less _ _ _ _, _, ⟨p, dx, u1, u2, u3, u4, e, h, t1, t2, t3, t4⟩ => ⟨p, dx, u1, u2, u3, u4, e, h, t1.gx T, t2.gx T, t3.gx T, t4.gx T⟩
def GMs (K : PySem.W.Frag) (a : Ad) (H : Hp) (rs : List V) (gs : List Gx) : Prop := rs.length = gs.length ∧ ∀ (i : Nat) r, rs[i]? = some r → ∃ g, gs[i]? = some g ∧ GMade K a H g r
def spSound (K : PySem.W.Frag) (a : Ad) (n : Nat) : Sp := fun vs H Q _ => ∃ (g : Gx) (r : V) (nm : Addr) (names : List Str) (d : Int), vs = [r, .ref nm, .int d] ∧ GMade K a H g r ∧ (∀ H, SqT K H nm (names.map V.str)) ∧ 0 ≤ d ∧ d < n ∧ ∀ H', Same H H' → Q (.bl (g.sound names d.toNat)) H'
def spAre (K : PySem.W.Frag) (a : Ad) (n : Nat) : Sp := fun vs H Q _ => ∃ (l : Addr) (rs : List V) (gs : List Gx) (nm : Addr) (names : List Str) (d : Int), vs = [.ref l, .ref nm, .int d] ∧ H l = some (.lst rs) ∧ GMs K a H rs gs ∧ (∀ H, SqT K H nm (names.map V.str)) ∧ 0 ≤ d ∧ d < n ∧ ∀ H', Same H H' → Q (.bl (gs.all (Gx.sound names d.toNat))) H'
theorem ok_are (T : Txt K mg a) {n : Nat} (I : FnOk P w K mg base CX0 (2 * n + 1) a.f_is_sound a.d_is_sound ["expr", "names", "deep"] (spSound K a n)) : FnOk P w K mg base CX0 (2 * n + 2) a.f_are_sound a.d_are_sound ["parts", "names", "deep"] (spAre K a n) := by
  have c_is_sound : Callee P w K mg base "is_sound" a.f_is_sound a.d_is_sound ["expr", "names", "deep"] (2 * n + 1) (spSound K a n) := ⟨I, T.g_is_sound, T.F_is_sound.kp, T.b_is_sound⟩
  refine T.F_are_sound.ok sc_are_sound (fun vs H Q E h => ?_) (fun cdv A outer s H vs Q E hr h => ?_)
  · obtain ⟨l, rs, gs, nm, names, d, rfl, _⟩ := h
    rfl
  · obtain ⟨l, rs, gs, nm, names, d, rfl, hl, ⟨hlen, hgm⟩, hn, d0, d1, k⟩ := h
    refine ⟨_, (pss_cons (ps_for PassesOwn.never rfl (pi_list (pv 0)) (pg_name (i := 3) sc_are_sound.nd rfl (Or.inl rfl))
        (pss_one (ps_if (pt_not (pt_val (pe_c c_is_sound (hr.mono (by omega)) (pa_N (pv 3) (pa_N (pv 1) (pa_N (pv 2) pa_nil))))))
          (pss_one (ps_ret pe_bl))
          pss_nil)))
      (pss_one (ps_ret pe_bl))), ?_⟩
    refine ⟨_, rfl, l, rfl, ⟨_, SqL.of hl⟩, ?_⟩
    refine for_list (K := K) (a := l) (xs := rs) (fun i σ H' => ∃ o, σ = [some (.ref l), some (.ref nm), some (.int d), o] ∧ Same H H' ∧ (gs.take i).all (Gx.sound names d.toNat) = true) ?_ ?_ ?_ ?_
    · exact ⟨none, rfl, Same.refl H, by simp⟩
    · rintro i σ H' _ ⟨o, _, sm, _⟩
      exact SqL.of (sm _ _ hl)
    · rintro i x σ H' hi ⟨o, rfl, sm, ha⟩
      obtain ⟨g, hg, gm⟩ := hgm i x hi
      refine ⟨_, rfl, _, rfl, _, rfl, g, x, nm, names, d, rfl, gm.same sm, hn, d0, d1, fun H1 s1 => ⟨_, rfl, ?_⟩⟩
      have hi' : i < gs.length := (List.getElem?_eq_some_iff.mp hg).1
      by_cases q : g.sound names d.toNat = true
      · refine iteN (by rw [q]; rfl) ?_
        refine ⟨_, rfl, sm.trans s1, ?_⟩
        rw [List.take_add_one, hg, List.all_append, ha]
        simp [q]
      · have q := Bool.eq_false_iff.mpr q
        refine iteB (by rw [q]; rfl) ?_
        have e : gs.all (Gx.sound names d.toNat) = false := by
          rw [List.all_eq_false]
          exact ⟨g, List.mem_of_getElem? hg, by rw [q]; simp⟩
        have := k H1 (sm.trans s1)
        rw [e] at this
        exact this
    · rintro σ H' ⟨o, rfl, sm, ha⟩
      rw [hlen, List.take_length] at ha
      have := k H' sm
      rw [ha] at this
      exact this
theorem gms2 {H : Hp} {u1 u2 : V} {g1 g2 : Gx} (h1 : GMade K a H g1 u1) (h2 : GMade K a H g2 u2) : GMs K a H [u1, u2] [g1, g2] := ⟨rfl, fun i r e => by
  match i, e with
  | 0, e => cases e; exact ⟨_, rfl, h1⟩
  | 1, e => cases e; exact ⟨_, rfl, h2⟩
  | _ + 2, e => simp at e⟩
theorem gms4 {H : Hp} {u1 u2 u3 u4 : V} {g1 g2 g3 g4 : Gx} (h1 : GMade K a H g1 u1) (h2 : GMade K a H g2 u2) (h3 : GMade K a H g3 u3) (h4 : GMade K a H g4 u4) : GMs K a H [u1, u2, u3, u4] [g1, g2, g3, g4] := ⟨rfl, fun i r e => by
  match i, e with
  | 0, e => cases e; exact ⟨_, rfl, h1⟩
  | 1, e => cases e; exact ⟨_, rfl, h2⟩
  | 2, e => cases e; exact ⟨_, rfl, h3⟩
  | 3, e => cases e; exact ⟨_, rfl, h4⟩
  | _ + 4, e => simp at e⟩
theorem ok_is_sound (T : Txt K mg a) {n : Nat} (I : FnOk P w K mg base CX0 (2 * n + 1) a.f_is_sound a.d_is_sound ["expr", "names", "deep"] (spSound K a n)) : FnOk P w K mg base CX0 (2 * n + 3) a.f_is_sound a.d_is_sound ["expr", "names", "deep"] (spSound K a (n + 1)) := by
  have c_is_sound : Callee P w K mg base "is_sound" a.f_is_sound a.d_is_sound ["expr", "names", "deep"] (2 * n + 1) (spSound K a n) := ⟨I, T.g_is_sound, T.F_is_sound.kp, T.b_is_sound⟩
  have c_are_sound : Callee P w K mg base "are_sound" a.f_are_sound a.d_are_sound ["parts", "names", "deep"] (2 * n + 2) (spAre K a n) := ⟨ok_are T I, T.g_are_sound, T.F_are_sound.kp, T.b_are_sound⟩
  have c_is_short_number : Callee P w K mg base "is_short_number" a.f_is_short_number a.d_is_short_number ["value"] 2 (spLf K shortN) := ⟨ok_is_short T, T.g_is_short_number, T.F_is_short_number.kp, T.b_is_short_number⟩
  have c_is_divisor : Callee P w K mg base "is_divisor" a.f_is_divisor a.d_is_divisor ["number"] 2 (spLf K divr) := ⟨ok_is_divisor T, T.g_is_divisor, T.F_is_divisor.kp, T.b_is_divisor⟩
  have c_is_word_of : Callee P w K mg base "is_word_of" a.f_is_word_of a.d_is_word_of ["word", "words"] 1 (spWord K) := ⟨ok_is_word T, T.g_is_word_of, T.F_is_word_of.kp, T.b_is_word_of⟩
  refine T.F_is_sound.ok sc_is_sound (fun vs H Q E h => ?_) (fun cdv A outer s H vs Q E hr h => ?_)
  · obtain ⟨g, r, nm, names, d, rfl, _⟩ := h
    rfl
  · obtain ⟨g, r, nm, names, d, rfl, gm, hn, d0, d1, k⟩ := h
    refine ⟨_, (pss_cons (ps_if (pt_cmpR op_eq (pv 2) pe_int (nomark _))
        (pss_one (ps_ret pe_bl))
        pss_nil)
      (pss_cons (ps_if (pt_val (pe_callB call_isi (by rfl) T.n_isinstance bt_isinstance (pa_N (pv 0) (pa_N (pe_cls T.g_Num) pa_nil))))
        (pss_one (ps_ret (pe_c c_is_short_number (hr.mono (by omega)) (pa_cons (pe_fld (pv 0) rfl) pa_nil))))
        pss_nil)
      (pss_cons (ps_if (pt_val (pe_callB call_isi (by rfl) T.n_isinstance bt_isinstance (pa_N (pv 0) (pa_N (pe_cls T.g_Name) pa_nil))))
        (pss_one (ps_ret (pe_c c_is_word_of (hr.mono (by omega)) (pa_cons (pe_fld (pv 0) rfl) (pa_N (pv 1) pa_nil)))))
        pss_nil)
      (pss_cons (ps_if (pt_val (pe_callB call_isi (by rfl) T.n_isinstance bt_isinstance (pa_N (pv 0) (pa_N (pe_cls T.g_Two) pa_nil))))
        (pss_one (ps_ret (pe_and (pe_c c_is_word_of (hr.mono (by omega)) (pa_cons (pe_fld (pv 0) rfl) (pa_N (pe_glob (v := .ref a.t_TWO_WORDS) rfl T.g_TWO_WORDS rfl) pa_nil))) (pe_one (pe_c c_are_sound (hr.mono (by omega)) (pa_cons (pe_lst (pa_cons (pe_fld (pv 0) rfl) (pa_cons (pe_fld (pv 0) rfl) pa_nil))) (pa_N (pv 1) (pa_B (pe_op op_sub (pv 2) pe_int) pa_nil))))))))
        pss_nil)
      (pss_cons (ps_if (pt_val (pe_callB call_isi (by rfl) T.n_isinstance bt_isinstance (pa_N (pv 0) (pa_N (pe_cls T.g_Mod) pa_nil))))
        (pss_one (ps_ret (pe_and (pe_c c_is_divisor (hr.mono (by omega)) (pa_cons (pe_fld (pv 0) rfl) pa_nil)) (pe_one (pe_c c_is_sound (hr.mono (by omega)) (pa_cons (pe_fld (pv 0) rfl) (pa_N (pv 1) (pa_B (pe_op op_sub (pv 2) pe_int) pa_nil))))))))
        pss_nil)
      (pss_cons (ps_if (pt_val (pe_callB call_isi (by rfl) T.n_isinstance bt_isinstance (pa_N (pv 0) (pa_N (pe_cls T.g_Less) pa_nil))))
        (pss_one (ps_ret (pe_c c_are_sound (hr.mono (by omega)) (pa_cons (pe_lst (pa_cons (pe_fld (pv 0) rfl) (pa_cons (pe_fld (pv 0) rfl) (pa_cons (pe_fld (pv 0) rfl) (pa_cons (pe_fld (pv 0) rfl) pa_nil))))) (pa_N (pv 1) (pa_B (pe_op op_sub (pv 2) pe_int) pa_nil))))))
        pss_nil)
      (pss_one (ps_ret pe_bl)))))))), ?_⟩
    refine ⟨_, rfl, rfl, _, rfl, ?_⟩
    refine ite2 (fun q => ?_) (fun q => ?_)
    · have e : d = 0 := by simpa using q
      subst e
      exact k H (Same.refl H)
    have hd : d ≠ 0 := fun e => q (by subst e; rfl)
    have e1 : d.toNat = (d - 1).toNat + 1 := by omega
    rw [e1] at k
    have b0 : 0 ≤ d - 1 := by omega
    have b1 : d - 1 < n := by omega
    cases g with
    | num v =>
      obtain ⟨p, dx, rfl, hp, lf⟩ := gm
      refine ⟨_, rfl, _, _, _, _, _, rfl, rfl, T.ty_Num H p dx _ hp, T.k_Num_Num, _, rfl, iteT ?_⟩
      exact ⟨_, rfl, p, _, dx, _, _, rfl, hp, T.cl_Num, T.na_Num_value, rfl, v, rfl, lf, k H (Same.refl H)⟩
    | name v =>
      obtain ⟨p, dx, rfl, hp, lf⟩ := gm
      refine ⟨_, rfl, _, _, _, _, _, rfl, rfl, T.ty_Name H p dx _ hp, T.k_Name_Num, _, rfl, iteF ?_⟩
      refine ⟨_, rfl, _, _, _, _, _, rfl, rfl, T.ty_Name H p dx _ hp, T.k_Name_Name, _, rfl, iteT ?_⟩
      exact ⟨_, rfl, p, _, dx, _, _, rfl, hp, T.cl_Name, T.na_Name_word, rfl, _, rfl, v, nm, names, rfl, lf, hn H, k H (Same.refl H)⟩
    | two wd g1 g2 =>
      obtain ⟨p, dx, u1, u2, rfl, hp, lf, m1, m2⟩ := gm
      refine ⟨_, rfl, _, _, _, _, _, rfl, rfl, T.ty_Two H p dx _ hp, T.k_Two_Num, _, rfl, iteF ?_⟩
      refine ⟨_, rfl, _, _, _, _, _, rfl, rfl, T.ty_Two H p dx _ hp, T.k_Two_Name, _, rfl, iteF ?_⟩
      refine ⟨_, rfl, _, _, _, _, _, rfl, rfl, T.ty_Two H p dx _ hp, T.k_Two_Two, _, rfl, iteT ?_⟩
      refine ⟨_, rfl, p, _, dx, _, _, rfl, hp, T.cl_Two, T.na_Two_word, rfl, wd, _, twoWs, rfl, lf, T.s_TWO_WORDS H, _, rfl, ?_⟩
      have k' : ∀ H', Same H H' → Q (.bl (wordIn twoWs wd && ([g1, g2].all (Gx.sound names (d - 1).toNat)))) H' := k
      by_cases qw : wordIn twoWs wd = true
      · rw [qw] at k'
        refine iteB qw ?_
        refine ⟨_, rfl, p, _, dx, _, _, rfl, hp, T.cl_Two, T.na_Two_one, rfl, _, rfl, p, _, dx, _, _, rfl, hp, T.cl_Two, T.na_Two_other, rfl, (by show 2 ≤ sizeLine; decide), fun lp hlp => ?_⟩
        have s1 := Same.new (o := HO.lst [u1, u2]) hlp
        exact ⟨_, rfl, _, rfl, _, _, rfl, rfl, lp, _, _, nm, names, d - 1, rfl, upd_same, gms2 (m1.same s1) (m2.same s1), hn, b0, b1, fun H2 s2 => k' H2 (s1.trans s2)⟩
      · have qw := Bool.eq_false_iff.mpr qw
        rw [qw] at k'
        exact iteN qw (k' H (Same.refl H))
    | mod g1 v =>
      obtain ⟨p, dx, u1, rfl, hp, lf, m1⟩ := gm
      refine ⟨_, rfl, _, _, _, _, _, rfl, rfl, T.ty_Mod H p dx _ hp, T.k_Mod_Num, _, rfl, iteF ?_⟩
      refine ⟨_, rfl, _, _, _, _, _, rfl, rfl, T.ty_Mod H p dx _ hp, T.k_Mod_Name, _, rfl, iteF ?_⟩
      refine ⟨_, rfl, _, _, _, _, _, rfl, rfl, T.ty_Mod H p dx _ hp, T.k_Mod_Two, _, rfl, iteF ?_⟩
      refine ⟨_, rfl, _, _, _, _, _, rfl, rfl, T.ty_Mod H p dx _ hp, T.k_Mod_Mod, _, rfl, iteT ?_⟩
      refine ⟨_, rfl, p, _, dx, _, _, rfl, hp, T.cl_Mod, T.na_Mod_number, rfl, v, rfl, lf, _, rfl, ?_⟩
      have k' : ∀ H', Same H H' → Q (.bl (divr v && g1.sound names (d - 1).toNat)) H' := k
      by_cases qw : divr v = true
      · rw [qw] at k'
        refine iteB qw ?_
        exact ⟨_, rfl, p, _, dx, _, _, rfl, hp, T.cl_Mod, T.na_Mod_inner, rfl, _, rfl, _, rfl, _, _, rfl, rfl, g1, u1, nm, names, d - 1, rfl, m1, hn, b0, b1, k'⟩
      · have qw := Bool.eq_false_iff.mpr qw
        rw [qw] at k'
        exact iteN qw (k' H (Same.refl H))
    | less g1 g2 g3 g4 =>
      obtain ⟨p, dx, u1, u2, u3, u4, rfl, hp, m1, m2, m3, m4⟩ := gm
      refine ⟨_, rfl, _, _, _, _, _, rfl, rfl, T.ty_Less H p dx _ hp, T.k_Less_Num, _, rfl, iteF ?_⟩
      refine ⟨_, rfl, _, _, _, _, _, rfl, rfl, T.ty_Less H p dx _ hp, T.k_Less_Name, _, rfl, iteF ?_⟩
      refine ⟨_, rfl, _, _, _, _, _, rfl, rfl, T.ty_Less H p dx _ hp, T.k_Less_Two, _, rfl, iteF ?_⟩
      refine ⟨_, rfl, _, _, _, _, _, rfl, rfl, T.ty_Less H p dx _ hp, T.k_Less_Mod, _, rfl, iteF ?_⟩
      refine ⟨_, rfl, _, _, _, _, _, rfl, rfl, T.ty_Less H p dx _ hp, T.k_Less_Less, _, rfl, iteT ?_⟩
      refine ⟨_, rfl, p, _, dx, _, _, rfl, hp, T.cl_Less, T.na_Less_one, rfl, _, rfl, p, _, dx, _, _, rfl, hp, T.cl_Less, T.na_Less_other, rfl, _, rfl, p, _, dx, _, _, rfl, hp, T.cl_Less, T.na_Less_third, rfl, _, rfl, p, _, dx, _, _, rfl, hp, T.cl_Less, T.na_Less_fourth, rfl, (by show 4 ≤ sizeLine; decide), fun lp hlp => ?_⟩
      have s1 := Same.new (o := HO.lst [u1, u2, u3, u4]) hlp
      exact ⟨_, rfl, _, rfl, _, _, rfl, rfl, lp, _, _, nm, names, d - 1, rfl, upd_same, gms4 (m1.same s1) (m2.same s1) (m3.same s1) (m4.same s1), hn, b0, b1, fun H2 s2 => k H2 (s1.trans s2)⟩
    | oth v =>
      obtain ⟨rfl, t, ty, n1, n2, n3, n4, n5⟩ := gm
      refine ⟨_, rfl, _, _, _, _, _, rfl, rfl, ty, n1, _, rfl, iteF ?_⟩
      refine ⟨_, rfl, _, _, _, _, _, rfl, rfl, ty, n2, _, rfl, iteF ?_⟩
      refine ⟨_, rfl, _, _, _, _, _, rfl, rfl, ty, n3, _, rfl, iteF ?_⟩
      refine ⟨_, rfl, _, _, _, _, _, rfl, rfl, ty, n4, _, rfl, iteF ?_⟩
      refine ⟨_, rfl, _, _, _, _, _, rfl, rfl, ty, n5, _, rfl, iteF ?_⟩
      exact k H (Same.refl H)
theorem sound0 {k : Nat} : FnOk P w K mg base CX0 k a.f_is_sound a.d_is_sound ["expr", "names", "deep"] (spSound K a 0) :=
  ⟨fun vs H Q E h => by
    obtain ⟨g, r, nm, names, d, rfl, _⟩ := h
    rfl, fun A outer s H args us vs Q E _ _ _ _ h => by
    obtain ⟨g, r, nm, names, d, _, _, _, d0, d1, _⟩ := h
    exact absurd d1 (by simp; omega)⟩
theorem sounds (T : Txt K mg a) : ∀ n, FnOk P w K mg base CX0 (2 * n + 1) a.f_is_sound a.d_is_sound ["expr", "names", "deep"] (spSound K a n)
  | 0 => sound0
  | n + 1 => ok_is_sound T (sounds T n)
end
end K04

/-! K06i -/
set_option Elab.async false
set_option linter.all false
set_option maxRecDepth 100000
set_option maxHeartbeats 4000000
namespace K04
open PySem L2
theorem log_num {i : Int} (h : -100000000000000000000 < i ∧ i < 100000000000000000000) : i.natAbs.log2 < 1920 := by
  by_cases h0 : i.natAbs = 0
  · rw [h0]; decide
  · have := (Nat.log2_lt h0 (k := 67)).mpr (Nat.lt_of_le_of_lt (show i.natAbs ≤ 100000000000000000000 by omega) (by decide))
    omega
section
variable {P : Program} {w : World} {K : PySem.W.Frag} {mg : Str → Option Value} {base : Heap} {a : Ad}
def spWords (a : Ad) (n : Nat) (Kd : Ex → Prop) : Sp := fun vs H Q _ => ∃ (e : Ex) (r : V) (names : List Str), vs = [r] ∧ Kd e ∧ Made a H e r ∧ e.ok names ∧ e.dep ≤ n ∧ e.size ≤ sizeLine ∧ ∀ p H', H' p = some (.lst (e.words.map V.str)) → Same H H' → Q (.ref p) H'
structure Wordss (P : Program) (w : World) (K : PySem.W.Frag) (mg : Str → Option Value) (base : Heap) (a : Ad) (n : Nat) : Prop where
  num : FnOk P w K mg base CX0 (n + 1) a.f_Num_words a.d_Num_words ["self"] (spWords a n isNum)
  name : FnOk P w K mg base CX0 (n + 1) a.f_Name_words a.d_Name_words ["self"] (spWords a n isName)
  two : FnOk P w K mg base CX0 (n + 1) a.f_Two_words a.d_Two_words ["self"] (spWords a n isTwo)
  mod : FnOk P w K mg base CX0 (n + 1) a.f_Mod_words a.d_Mod_words ["self"] (spWords a n isMod)
  less : FnOk P w K mg base CX0 (n + 1) a.f_Less_words a.d_Less_words ["self"] (spWords a n isLess)
theorem Wordss.call {n : Nat} (R : Wordss P w K mg base a n) (T : Txt K mg a) {A : Around} (hr : Room (n + 1) A) {H : Hp} {e : Ex} {x : V} {names : List Str} (hM : Made a H e x) (ho : e.ok names) (hd : e.dep ≤ n) (hs : e.size ≤ sizeLine) :
    ∃ (p C dx : Addr) (fs : List (Str × V)) (f : Addr) (fd : FuncData) (ps : List Str) (k : Nat) (sp : Sp), x = .ref p ∧ H p = some (.ins C dx fs) ∧ fs.lookup ("words" : Str) = none ∧ Cls K C ∧ Meth K C "words" f ∧ FnOk P w K mg base CX0 k f fd ps sp ∧ Room k A ∧ Binds K fd ps [] ∧
      ∀ Q : VK, (∀ p H', H' p = some (.lst (e.words.map V.str)) → Same H H' → Q (.ref p) H') → sp (x :: ([] ++ [])) H Q E0 := by
  cases e with
  | num i =>
    obtain ⟨p, dx, rfl, hp⟩ := id hM
    exact ⟨p, _, dx, _, _, _, _, _, _, rfl, hp, rfl, T.cl_Num, T.mt_Num_words, R.num, hr, T.b_Num_words, fun Q q => ⟨_, _, names, rfl, ⟨_, rfl⟩, hM, ho, hd, hs, q⟩⟩
  | name i =>
    obtain ⟨p, dx, rfl, hp⟩ := id hM
    exact ⟨p, _, dx, _, _, _, _, _, _, rfl, hp, rfl, T.cl_Name, T.mt_Name_words, R.name, hr, T.b_Name_words, fun Q q => ⟨_, _, names, rfl, ⟨_, rfl⟩, hM, ho, hd, hs, q⟩⟩
  | two i e1 e2 =>
    obtain ⟨p, dx, u1, u2, rfl, hp, _⟩ := id hM
    exact ⟨p, _, dx, _, _, _, _, _, _, rfl, hp, rfl, T.cl_Two, T.mt_Two_words, R.two, hr, T.b_Two_words, fun Q q => ⟨_, _, names, rfl, ⟨_, _, _, rfl⟩, hM, ho, hd, hs, q⟩⟩
  | mod e1 i =>
    obtain ⟨p, dx, u1, rfl, hp, _⟩ := id hM
    exact ⟨p, _, dx, _, _, _, _, _, _, rfl, hp, rfl, T.cl_Mod, T.mt_Mod_words, R.mod, hr, T.b_Mod_words, fun Q q => ⟨_, _, names, rfl, ⟨_, _, rfl⟩, hM, ho, hd, hs, q⟩⟩
  | less e1 e2 e3 e4 =>
    obtain ⟨p, dx, u1, u2, u3, u4, rfl, hp, _⟩ := id hM
    exact ⟨p, _, dx, _, _, _, _, _, _, rfl, hp, rfl, T.cl_Less, T.mt_Less_words, R.less, hr, T.b_Less_words, fun Q q => ⟨_, _, names, rfl, ⟨_, _, _, _, rfl⟩, hM, ho, hd, hs, q⟩⟩
theorem ok_Num_words (T : Txt K mg a) (n : Nat) : FnOk P w K mg base CX0 (n + 1) a.f_Num_words a.d_Num_words ["self"] (spWords a n isNum) := by
  refine T.F_Num_words.ok sc_Num_words (fun vs H Q E h => ?_) (fun cdv A outer s H vs Q E hr h => ?_)
  · obtain ⟨e, r, names, rfl, _⟩ := h
    rfl
  · obtain ⟨e, r, names, rfl, ⟨i, rfl⟩, ⟨p, dx, rfl, hp⟩, ho, _, _, k⟩ := h
    refine ⟨_, (pss_one (ps_ret (pe_lst (pa_K (pe_callTy call_str_int (by rfl) T.n_str bt_str (pa_cons (pe_fld (pv 0) rfl) pa_nil)) pa_nil)))), ?_⟩
    refine ⟨_, rfl, p, _, dx, _, _, rfl, hp, T.cl_Num, T.na_Num_value, rfl, i, rfl, log_num ho, (by show 1 ≤ sizeLine; decide), fun q hq => ?_⟩
    exact k _ _ upd_same (Same.new hq)
theorem ok_Name_words (T : Txt K mg a) (n : Nat) : FnOk P w K mg base CX0 (n + 1) a.f_Name_words a.d_Name_words ["self"] (spWords a n isName) := by
  refine T.F_Name_words.ok sc_Name_words (fun vs H Q E h => ?_) (fun cdv A outer s H vs Q E hr h => ?_)
  · obtain ⟨e, r, names, rfl, _⟩ := h
    rfl
  · obtain ⟨e, r, names, rfl, ⟨i, rfl⟩, ⟨p, dx, rfl, hp⟩, ho, _, _, k⟩ := h
    refine ⟨_, (pss_one (ps_ret (pe_lst (pa_cons (pe_fld (pv 0) rfl) pa_nil)))), ?_⟩
    refine ⟨_, rfl, p, _, dx, _, _, rfl, hp, T.cl_Name, T.na_Name_word, rfl, (by show 1 ≤ sizeLine; decide), fun q hq => ?_⟩
    exact k _ _ upd_same (Same.new hq)
theorem ok_Two_words (T : Txt K mg a) {n : Nat} (R : Wordss P w K mg base a n) : FnOk P w K mg base CX0 (n + 2) a.f_Two_words a.d_Two_words ["self"] (spWords a (n + 1) isTwo) := by
  refine T.F_Two_words.ok sc_Two_words (fun vs H Q E h => ?_) (fun cdv A outer s H vs Q E hr h => ?_)
  · obtain ⟨e, r, names, rfl, _⟩ := h
    rfl
  · obtain ⟨e, r, names, rfl, ⟨wd, e1, e2, rfl⟩, ⟨p, dx, u1, u2, rfl, hp, m1, m2⟩, ⟨_, o1, o2⟩, hdep, hz, k⟩ := h
    have hdep : max e1.dep e2.dep + 1 ≤ n + 1 := hdep
    have hz : 1 + e1.size + e2.size ≤ sizeLine := hz
    have l1 := e1.words_len
    have l2 := e2.words_len
    refine ⟨_, (pss_one (ps_ret (pe_op op_cat (pe_op op_cat (pe_lst (pa_cons (pe_fld (pv 0) rfl) pa_nil)) (pe_meth0D (pe_fld (pv 0) rfl))) (pe_meth0D (pe_fld (pv 0) rfl))))), ?_⟩
    refine ⟨_, rfl, p, _, dx, _, _, rfl, hp, T.cl_Two, T.na_Two_word, rfl, (by show 1 ≤ sizeLine; decide), fun q0 hq0 => ?_⟩
    have s0 := Same.new (o := HO.lst [V.str wd]) hq0
    refine ⟨_, rfl, p, _, dx, _, _, rfl, s0 _ _ hp, T.cl_Two, T.na_Two_one, rfl, ?_⟩
    obtain ⟨p1, c1, x1, f1, f2, f3, f4, f5, f6, q1, q2, q3, q4, q5, q6, q7, q8, q9⟩ := R.call T hr (m1.same s0) o1 (by omega) (by omega)
    refine ⟨p1, c1, x1, f1, f2, f3, f4, f5, f6, q1, q2, q3, q4, q5, q6, q7, q8, q9 _ fun w1 H1 t1 s1 => ?_⟩
    refine ⟨q0, w1, _, _, rfl, rfl, s1 _ _ upd_same, t1, (by simp [l1]; omega), fun q2 hq2 => ?_⟩
    have s2 := s0.trans (s1.trans (Same.new (o := HO.lst ([V.str wd] ++ e1.words.map V.str)) hq2))
    refine ⟨_, rfl, p, _, dx, _, _, rfl, s2 _ _ hp, T.cl_Two, T.na_Two_other, rfl, ?_⟩
    obtain ⟨p1, c1, x1, f1, f2, f3, f4, f5, f6, z1, z2, z3, z4, z5, z6, z7, z8, z9⟩ := R.call T hr (m2.same s2) o2 (by omega) (by omega)
    refine ⟨p1, c1, x1, f1, f2, f3, f4, f5, f6, z1, z2, z3, z4, z5, z6, z7, z8, z9 _ fun w2 H2 t2 s3 => ?_⟩
    refine ⟨q2, w2, _, _, rfl, rfl, s3 _ _ upd_same, t2, (by simp [l1, l2]; omega), fun q4 hq4 => ?_⟩
    refine k _ _ ?_ (s2.trans (s3.trans (Same.new hq4)))
    rw [upd_same]
    simp [Ex.words]
theorem ok_Mod_words (T : Txt K mg a) {n : Nat} (R : Wordss P w K mg base a n) : FnOk P w K mg base CX0 (n + 2) a.f_Mod_words a.d_Mod_words ["self"] (spWords a (n + 1) isMod) := by
  refine T.F_Mod_words.ok sc_Mod_words (fun vs H Q E h => ?_) (fun cdv A outer s H vs Q E hr h => ?_)
  · obtain ⟨e, r, names, rfl, _⟩ := h
    rfl
  · obtain ⟨e, r, names, rfl, ⟨e1, i, rfl⟩, ⟨p, dx, u1, rfl, hp, m1⟩, ⟨⟨i1, i2⟩, o1⟩, hdep, hz, k⟩ := h
    have hdep : e1.dep + 1 ≤ n + 1 := hdep
    have hz : 2 + e1.size ≤ sizeLine := hz
    have l1 := e1.words_len
    refine ⟨_, (pss_one (ps_ret (pe_op op_cat (pe_op op_cat (pe_lst (pa_C pe_str pa_nil)) (pe_meth0D (pe_fld (pv 0) rfl))) (pe_lst (pa_K (pe_callTy call_str_int (by rfl) T.n_str bt_str (pa_cons (pe_fld (pv 0) rfl) pa_nil)) pa_nil))))), ?_⟩
    refine ⟨by show 1 ≤ sizeLine; decide, fun q0 hq0 => ?_⟩
    have s0 := Same.new (o := HO.lst [V.str "mod"]) hq0
    refine ⟨_, rfl, p, _, dx, _, _, rfl, s0 _ _ hp, T.cl_Mod, T.na_Mod_inner, rfl, ?_⟩
    obtain ⟨p1, c1, x1, f1, f2, f3, f4, f5, f6, q1, q2, q3, q4, q5, q6, q7, q8, q9⟩ := R.call T hr (m1.same s0) o1 (by omega) (by omega)
    refine ⟨p1, c1, x1, f1, f2, f3, f4, f5, f6, q1, q2, q3, q4, q5, q6, q7, q8, q9 _ fun w1 H1 t1 s1 => ?_⟩
    refine ⟨q0, w1, _, _, rfl, rfl, s1 _ _ upd_same, t1, (by simp [l1]; omega), fun q2 hq2 => ?_⟩
    have s2 := s0.trans (s1.trans (Same.new (o := HO.lst ([V.str "mod"] ++ e1.words.map V.str)) hq2))
    refine ⟨_, rfl, p, _, dx, _, _, rfl, s2 _ _ hp, T.cl_Mod, T.na_Mod_number, rfl, i, rfl, log_num (by omega), (by show 1 ≤ sizeLine; decide), fun q3 hq3 => ?_⟩
    refine ⟨q2, q3, _, _, rfl, rfl, (Same.new hq3) _ _ upd_same, upd_same, (by simp [l1]; omega), fun q4 hq4 => ?_⟩
    refine k _ _ ?_ (s2.trans ((Same.new hq3).trans (Same.new hq4)))
    rw [upd_same]
    simp [Ex.words]
theorem ok_Less_words (T : Txt K mg a) {n : Nat} (R : Wordss P w K mg base a n) : FnOk P w K mg base CX0 (n + 2) a.f_Less_words a.d_Less_words ["self"] (spWords a (n + 1) isLess) := by
  refine T.F_Less_words.ok sc_Less_words (fun vs H Q E h => ?_) (fun cdv A outer s H vs Q E hr h => ?_)
  · obtain ⟨e, r, names, rfl, _⟩ := h
    rfl
  · obtain ⟨e, r, names, rfl, ⟨e1, e2, e3, e4, rfl⟩, ⟨p, dx, u1, u2, u3, u4, rfl, hp, m1, m2, m3, m4⟩, ⟨o1, o2, o3, o4⟩, hdep, hz, k⟩ := h
    have hdep : max (max e1.dep e2.dep) (max e3.dep e4.dep) + 1 ≤ n + 1 := hdep
    have hz : 1 + e1.size + e2.size + e3.size + e4.size ≤ sizeLine := hz
    have l1 := e1.words_len
    have l2 := e2.words_len
    have l3 := e3.words_len
    have l4 := e4.words_len
    refine ⟨_, (pss_one (ps_ret (pe_op op_cat (pe_op op_cat (pe_op op_cat (pe_op op_cat (pe_lst (pa_C pe_str pa_nil)) (pe_meth0D (pe_fld (pv 0) rfl))) (pe_meth0D (pe_fld (pv 0) rfl))) (pe_meth0D (pe_fld (pv 0) rfl))) (pe_meth0D (pe_fld (pv 0) rfl))))), ?_⟩
    refine ⟨by show 1 ≤ sizeLine; decide, fun q0 hq0 => ?_⟩
    have s0 := Same.new (o := HO.lst [V.str "less"]) hq0
    refine ⟨_, rfl, p, _, dx, _, _, rfl, s0 _ _ hp, T.cl_Less, T.na_Less_one, rfl, ?_⟩
    obtain ⟨p1, c1, x1, f1, f2, f3, f4, f5, f6, z1, z2, z3, z4, z5, z6, z7, z8, z9⟩ := R.call T hr (m1.same s0) o1 (by omega) (by omega)
    refine ⟨p1, c1, x1, f1, f2, f3, f4, f5, f6, z1, z2, z3, z4, z5, z6, z7, z8, z9 _ fun w1 H1 t1 y1 => ?_⟩
    refine ⟨q0, w1, _, _, rfl, rfl, y1 _ _ upd_same, t1, (by simp [l1, l2, l3, l4]; omega), fun q1 hq1 => ?_⟩
    have s1 := s0.trans (y1.trans (Same.new (o := HO.lst ([V.str "less"] ++ e1.words.map V.str)) hq1))
    refine ⟨_, rfl, p, _, dx, _, _, rfl, s1 _ _ hp, T.cl_Less, T.na_Less_other, rfl, ?_⟩
    obtain ⟨p1, c1, x1, f1, f2, f3, f4, f5, f6, z1, z2, z3, z4, z5, z6, z7, z8, z9⟩ := R.call T hr (m2.same s1) o2 (by omega) (by omega)
    refine ⟨p1, c1, x1, f1, f2, f3, f4, f5, f6, z1, z2, z3, z4, z5, z6, z7, z8, z9 _ fun w2 H2 t2 y2 => ?_⟩
    refine ⟨q1, w2, _, _, rfl, rfl, y2 _ _ upd_same, t2, (by simp [l1, l2, l3, l4]; omega), fun q2 hq2 => ?_⟩
    have s2 := s1.trans (y2.trans (Same.new (o := HO.lst (([V.str "less"] ++ e1.words.map V.str) ++ e2.words.map V.str)) hq2))
    refine ⟨_, rfl, p, _, dx, _, _, rfl, s2 _ _ hp, T.cl_Less, T.na_Less_third, rfl, ?_⟩
    obtain ⟨p1, c1, x1, f1, f2, f3, f4, f5, f6, z1, z2, z3, z4, z5, z6, z7, z8, z9⟩ := R.call T hr (m3.same s2) o3 (by omega) (by omega)
    refine ⟨p1, c1, x1, f1, f2, f3, f4, f5, f6, z1, z2, z3, z4, z5, z6, z7, z8, z9 _ fun w3 H3 t3 y3 => ?_⟩
    refine ⟨q2, w3, _, _, rfl, rfl, y3 _ _ upd_same, t3, (by simp [l1, l2, l3, l4]; omega), fun q3 hq3 => ?_⟩
    have s3 := s2.trans (y3.trans (Same.new (o := HO.lst ((([V.str "less"] ++ e1.words.map V.str) ++ e2.words.map V.str) ++ e3.words.map V.str)) hq3))
    refine ⟨_, rfl, p, _, dx, _, _, rfl, s3 _ _ hp, T.cl_Less, T.na_Less_fourth, rfl, ?_⟩
    obtain ⟨p1, c1, x1, f1, f2, f3, f4, f5, f6, z1, z2, z3, z4, z5, z6, z7, z8, z9⟩ := R.call T hr (m4.same s3) o4 (by omega) (by omega)
    refine ⟨p1, c1, x1, f1, f2, f3, f4, f5, f6, z1, z2, z3, z4, z5, z6, z7, z8, z9 _ fun w4 H4 t4 y4 => ?_⟩
    refine ⟨q3, w4, _, _, rfl, rfl, y4 _ _ upd_same, t4, (by simp [l1, l2, l3, l4]; omega), fun q4 hq4 => ?_⟩
    refine k _ _ ?_ (s3.trans (y4.trans (Same.new hq4)))
    rw [upd_same]
    simp [Ex.words]
theorem no_depW {f : Addr} {fd : FuncData} {ps : List Str} {Kd : Ex → Prop} {k : Nat} (hl : ps.length = 1) : FnOk P w K mg base CX0 k f fd ps (spWords a 0 Kd) :=
  ⟨fun vs H Q E h => by
    obtain ⟨e, r, names, rfl, _⟩ := h
    exact hl.symm, fun A outer s H args us vs Q E _ _ _ _ h => by
    obtain ⟨e, r, names, _, _, _, _, hd, _⟩ := h
    have := e.dep_pos
    omega⟩
theorem wordss (T : Txt K mg a) : ∀ n, Wordss P w K mg base a n
  | 0 => ⟨no_depW rfl, no_depW rfl, no_depW rfl, no_depW rfl, no_depW rfl⟩
  | n + 1 => ⟨ok_Num_words T (n + 1), ok_Name_words T (n + 1), ok_Two_words T (wordss T n), ok_Mod_words T (wordss T n), ok_Less_words T (wordss T n)⟩
end
end K04

/-! K06j -/
set_option Elab.async false
set_option linter.all false
set_option maxRecDepth 100000
set_option maxHeartbeats 4000000
namespace K04
open PySem L2
section
variable {P : Program} {w : World} {K : PySem.W.Frag} {mg : Str → Option Value} {base : Heap} {a : Ad}
def MadeAll (a : Ad) (H : Hp) (n : Nat) (rs : List V) (es : List Ex) : Prop := rs.length = es.length ∧ ∀ (i : Nat) r, rs[i]? = some r → ∃ e names, es[i]? = some e ∧ Made a H e r ∧ e.ok names ∧ e.dep ≤ n ∧ e.size ≤ sizeLine
def sizes (es : List Ex) : List Int := es.map fun e => (e.size : Int)
def spCount (a : Ad) (n : Nat) : Sp := fun vs H Q _ => ∃ (l : Addr) (rs : List V) (es : List Ex), vs = [.ref l] ∧ H l = some (.lst rs) ∧ rs.length ≤ 1000 ∧ MadeAll a H n rs es ∧ ∀ H', Same H H' → Q (.int (sizes es).sum) H'
theorem ok_count (T : Txt K mg a) (n : Nat) : FnOk P w K mg base CX0 (n + 2) a.f_count_words a.d_count_words ["exprs"] (spCount a n) := by
  have WW : Wordss P w K mg base a n := wordss T n
  refine T.F_count_words.ok sc_count_words (fun vs H Q E h => ?_) (fun cdv A outer s H vs Q E hr h => ?_)
  · obtain ⟨l, rs, es, rfl, _⟩ := h
    rfl
  · obtain ⟨l, rs, es, rfl, hl, hz, ⟨hlen, hm⟩, k⟩ := h
    refine ⟨_, (pss_one (ps_ret (pe_callB (call_sumI rfl) (by rfl) T.n_sum bt_sum (pa_cons (pe_comp rfl (N' := ["expr"]) (t := 1) (caps := []) ⟨rfl, rfl, rfl⟩ (pi_list (pv 0)) (fun _ => (pg_name (i := 0) (show (["expr"] : List Str).Nodup by decide +kernel) rfl (Or.inl rfl))) (fun _ => pts_nil) (fun _ => (pe_callB call_len_seq (by rfl) T.n_len bt_len (pa_K (pe_meth0D (pv 0)) pa_nil)))) pa_nil)))), ?_⟩
    refine ⟨_, rfl, l, rfl, ⟨_, SqL.of hl⟩, fun D hD _ => ?_⟩
    refine comp_list (K := K) (a := l) (xs := rs) (fun i zs τ H' => ∃ o, τ = [o] ∧ i ≤ rs.length ∧ zs = ((sizes es).take i).map V.int ∧ H' D = some (.lst zs) ∧ Same H H') ?_ ?_ ?_ ?_
    · exact ⟨none, rfl, Nat.zero_le _, by simp, upd_same, Same.new hD⟩
    · rintro i zs τ H' ⟨o, _, _, _, _, sm⟩
      exact SqL.of (sm _ _ hl)
    · rintro i x zs τ H' hi ⟨o, rfl, _, rfl, hD', sm⟩
      obtain ⟨e, names, he, m, ok, dd, sz⟩ := hm i x hi
      have hi' : i < rs.length := (List.getElem?_eq_some_iff.mp hi).1
      refine gn_if ?_
      refine ⟨_, rfl, ?_⟩
      obtain ⟨p1, c1, x1, f1, f2, f3, f4, f5, f6, z1, z2, z3, z4, z5, z6, z7, z8, z9⟩ := WW.call T (A := A.deeper (PyProof.Rows.envOfC "count_words" (defScope st_count_words) s.heap.objs.size a.f_count_words cdv)) hr (m.same sm) ok dd sz
      refine ⟨p1, c1, x1, f1, f2, f3, f4, f5, f6, z1, z2, z3, z4, z5, z6, z7, z8, z9 _ fun p H1 t1 s1 => ?_⟩
      have ez : (sizes es)[i]? = some ((e.size : Nat) : Int) := by unfold sizes; rw [List.getElem?_map, he]; rfl
      refine ⟨p, _, rfl, .inl (SqL.of t1), s1 _ _ hD', ?_, some x, rfl, hi', ?_, upd_same, ?_⟩
      · rw [List.length_map]
        exact small1000 (Nat.le_trans (List.length_take_le _ _) (by omega))
      · rw [List.take_add_one, ez, List.map_append, List.length_map, e.words_len]
        rfl
      · have s2 := sm.trans s1
        intro b o e
        have hb : b ≠ D := ne_of_none e hD
        rw [upd_ne hb]
        exact s2 b o e
    · rintro zs τ H' ⟨o, rfl, _, rfl, hD', sm⟩
      have el : (sizes es).take rs.length = sizes es := List.take_of_length_le (by unfold sizes; rw [List.length_map, hlen]; exact Nat.le_refl _)
      rw [el] at hD'
      exact ⟨D, sizes es, rfl, SqL.of hD', k H' sm⟩
abbrev startNs : List Str := ["me", "lines"]
abbrev sendNs : List Str := ["worth", "me", "round", "lines", "to"]
abbrev renewNs : List Str := ["worth", "me", "round", "lines", "sum", "least", "most", "count"]
theorem GMade.made {H : Hp} : ∀ {e : Ex} {r : V}, GMade K a H e.gx r → Made a H e r
  | .num i, _, ⟨p, dx, e, h, _⟩ => ⟨p, dx, e, h⟩
  | .name x, _, ⟨p, dx, e, h, _⟩ => ⟨p, dx, e, h⟩
  | .two w _ _, _, ⟨p, dx, u1, u2, e, h, _, t1, t2⟩ => ⟨p, dx, u1, u2, e, h, t1.made, t2.made⟩
  | .mod _ n, _, ⟨p, dx, u1, e, h, _, t1⟩ => ⟨p, dx, u1, e, h, t1.made⟩
  | .less _ _ _ _, _, ⟨p, dx, u1, u2, u3, u4, e, h, t1, t2, t3, t4⟩ => ⟨p, dx, u1, u2, u3, u4, e, h, t1.made, t2.made, t3.made, t4.made⟩
def Good4 (g1 g2 g3 g4 : Gx) : Prop := ∃ e1 e2 e3 e4 : Ex, (g1 = e1.gx ∧ g2 = e2.gx ∧ g3 = e3.gx ∧ g4 = e4.gx) ∧ (e1.ok startNs ∧ e2.ok sendNs ∧ e3.ok sendNs ∧ e4.ok renewNs) ∧ (e1.dep ≤ 8 ∧ e2.dep ≤ 8 ∧ e3.dep ≤ 8 ∧ e4.dep ≤ 8) ∧ e1.size + e2.size + e3.size + e4.size ≤ 60
def spProg1 (K : PySem.W.Frag) (a : Ad) : Sp := fun vs H Q E => ∃ (p dx : Addr) (r1 r2 r3 r4 : V) (g1 g2 g3 g4 : Gx), vs = [.ref p, r1, r2, r3, r4] ∧ H p = some (.ins a.c_Program dx []) ∧ (GMade K a H g1 r1 ∧ GMade K a H g2 r2 ∧ GMade K a H g3 r3 ∧ GMade K a H g4 r4) ∧
  (Good4 g1 g2 g3 g4 → ∀ H', Same H H' → Q .non (upd H' p (.ins a.c_Program dx [("start", r1), ("send", r2), ("when", r3), ("renew", r4)]))) ∧ (¬ Good4 g1 g2 g3 g4 → ∀ H', Same H H' → E (.ref a.c_NoProgram) none H')
theorem ok_prog1 (T : Txt K mg a) : FnOk P w K mg base (CX1 P w) 22 a.f_Program___init__ a.d_Program___init__ ["self", "start", "send", "when", "renew"] (spProg1 K a) := by
  have c_is_sound : Callee P w K mg base "is_sound" a.f_is_sound a.d_is_sound ["expr", "names", "deep"] 19 (spSound K a 9) := ⟨sounds T 9, T.g_is_sound, T.F_is_sound.kp, T.b_is_sound⟩
  have c_are_sound : Callee P w K mg base "are_sound" a.f_are_sound a.d_are_sound ["parts", "names", "deep"] 20 (spAre K a 9) := ⟨ok_are T (sounds T 9), T.g_are_sound, T.F_are_sound.kp, T.b_are_sound⟩
  have c_count_words : Callee P w K mg base "count_words" a.f_count_words a.d_count_words ["exprs"] 10 (spCount a 8) := ⟨ok_count T 8, T.g_count_words, T.F_count_words.kp, T.b_count_words⟩
  refine T.F_Program___init__.ok1 sc_Program___init__ (fun vs H Q E h => ?_) (fun cdv A outer s H vs Q E hr h => ?_)
  · obtain ⟨p, dx, r1, r2, r3, r4, g1, g2, g3, g4, rfl, _⟩ := h
    rfl
  · obtain ⟨p, dx, r1, r2, r3, r4, g1, g2, g3, g4, rfl, hp, ⟨m1, m2, m3, m4⟩, k, kx⟩ := h
    refine ⟨_, (pss_cons (ps_if (pt_not (pt_val (pe_c c_is_sound (hr.mono (by omega)) (pa_N (pv 1) (pa_N (pe_glob (v := .ref a.t_START_NAMES) rfl T.g_START_NAMES rfl) (pa_N (pe_glob (v := .int 8) rfl T.g_MOST_DEEP ⟨_, rfl⟩) pa_nil))))))
        (pss_one (ps_raise hr.hd T.xc_NoProgram T.g_NoProgram (pa_C pe_str pa_nil)))
        pss_nil)
      (pss_cons (ps_if (pt_not (pt_val (pe_c c_are_sound (hr.mono (by omega)) (pa_cons (pe_lst (pa_N (pv 2) (pa_N (pv 3) pa_nil))) (pa_N (pe_glob (v := .ref a.t_SEND_NAMES) rfl T.g_SEND_NAMES rfl) (pa_N (pe_glob (v := .int 8) rfl T.g_MOST_DEEP ⟨_, rfl⟩) pa_nil))))))
        (pss_one (ps_raise hr.hd T.xc_NoProgram T.g_NoProgram (pa_C pe_str pa_nil)))
        pss_nil)
      (pss_cons (ps_if (pt_not (pt_val (pe_c c_is_sound (hr.mono (by omega)) (pa_N (pv 4) (pa_N (pe_glob (v := .ref a.t_RENEW_NAMES) rfl T.g_RENEW_NAMES rfl) (pa_N (pe_glob (v := .int 8) rfl T.g_MOST_DEEP ⟨_, rfl⟩) pa_nil))))))
        (pss_one (ps_raise hr.hd T.xc_NoProgram T.g_NoProgram (pa_C pe_str pa_nil)))
        pss_nil)
      (pss_cons (ps_if (pt_cmpR op_gt (pe_c c_count_words (hr.mono (by omega)) (pa_cons (pe_lst (pa_N (pv 1) (pa_N (pv 2) (pa_N (pv 3) (pa_N (pv 4) pa_nil))))) pa_nil)) (pe_glob (v := .int 60) rfl T.g_MOST_WORDS ⟨_, rfl⟩) (nomark _))
        (pss_one (ps_raise hr.hd T.xc_NoProgram T.g_NoProgram (pa_C pe_str pa_nil)))
        pss_nil)
      (pss_cons (ps_fld (pv 0) (pv 1) rfl)
      (pss_cons (ps_fld (pv 0) (pv 2) rfl)
      (pss_cons (ps_fld (pv 0) (pv 3) rfl)
      (pss_one (ps_fld (pv 0) (pv 4) rfl))))))))), ?_⟩
    refine ⟨_, rfl, g1, r1, _, startNs, 8, rfl, m1, T.s_START_NAMES, by decide, by decide, fun H1 s1 => ⟨_, rfl, ?_⟩⟩
    by_cases q1 : g1.sound startNs (8 : Int).toNat = true
    case neg =>
      refine iteB (by rw [Bool.not_eq_true] at q1; rw [q1]; rfl) ⟨by show 1 ≤ 1000; decide, kx ?_ H1 s1⟩
      rintro ⟨e1, e2, e3, e4, ⟨rfl, _⟩, ⟨o1, _⟩, ⟨d1, _⟩, _⟩
      exact q1 (Ex.sound o1 d1)
    refine iteN (by rw [q1]; rfl) ?_
    refine ⟨_, rfl, _, rfl, (by show 2 ≤ sizeLine; decide), fun lp hlp => ?_⟩
    have s2 := s1.trans (Same.new (o := HO.lst [r2, r3]) hlp)
    refine ⟨lp, _, _, _, sendNs, 8, rfl, upd_same, gms2 (m2.same s2) (m3.same s2), T.s_SEND_NAMES, by decide, by decide, fun H3 s3 => ⟨_, rfl, ?_⟩⟩
    have s3 := s2.trans s3
    by_cases q2 : g2.sound sendNs (8 : Int).toNat = true
    case neg =>
      refine iteB (by rw [Bool.not_eq_true] at q2; rw [List.all_cons, q2]; rfl) ⟨by show 1 ≤ 1000; decide, kx ?_ H3 s3⟩
      rintro ⟨e1, e2, e3, e4, ⟨_, rfl, _⟩, ⟨_, o1, _⟩, ⟨_, d1, _⟩, _⟩
      exact q2 (Ex.sound o1 d1)
    by_cases q3 : g3.sound sendNs (8 : Int).toNat = true
    case neg =>
      refine iteB (by rw [Bool.not_eq_true] at q3; rw [List.all_cons, List.all_cons, q2, q3]; rfl) ⟨by show 1 ≤ 1000; decide, kx ?_ H3 s3⟩
      rintro ⟨e1, e2, e3, e4, ⟨_, _, rfl, _⟩, ⟨_, _, o1, _⟩, ⟨_, _, d1, _⟩, _⟩
      exact q3 (Ex.sound o1 d1)
    refine iteN (by rw [List.all_cons, List.all_cons, q2, q3]; rfl) ?_
    refine ⟨_, rfl, g4, r4, _, renewNs, 8, rfl, m4.same s3, T.s_RENEW_NAMES, by decide, by decide, fun H4 s4 => ⟨_, rfl, ?_⟩⟩
    have s4 := s3.trans s4
    by_cases q4 : g4.sound renewNs (8 : Int).toNat = true
    case neg =>
      refine iteB (by rw [Bool.not_eq_true] at q4; rw [q4]; rfl) ⟨by show 1 ≤ 1000; decide, kx ?_ H4 s4⟩
      rintro ⟨e1, e2, e3, e4, ⟨_, _, _, rfl⟩, ⟨_, _, _, o1⟩, ⟨_, _, _, d1⟩, _⟩
      exact q4 (Ex.sound o1 d1)
    refine iteN (by rw [q4]; rfl) ?_
    obtain ⟨e1, rfl, o1, d1⟩ := Gx.of_sound q1
    obtain ⟨e2, rfl, o2, d2⟩ := Gx.of_sound q2
    obtain ⟨e3, rfl, o3, d3⟩ := Gx.of_sound q3
    obtain ⟨e4, rfl, o4, d4⟩ := Gx.of_sound q4
    have m1 := m1.made
    have m2 := m2.made
    have m3 := m3.made
    have m4 := m4.made
    refine ⟨_, rfl, _, rfl, _, rfl, _, rfl, (by show 4 ≤ sizeLine; decide), fun lq hlq => ?_⟩
    have s5 := s4.trans (Same.new (o := HO.lst [r1, r2, r3, r4]) hlq)
    refine ⟨lq, _, [e1, e2, e3, e4], rfl, upd_same, by simp, ⟨rfl, fun i r hi => ?_⟩, fun H6 s6 => ⟨_, _, rfl, rfl, _, rfl, ?_⟩⟩
    · match i, hi with
      | 0, hi => cases hi; exact ⟨e1, _, rfl, m1.same s5, o1, d1, Ex.size_line d1⟩
      | 1, hi => cases hi; exact ⟨e2, _, rfl, m2.same s5, o2, d2, Ex.size_line d2⟩
      | 2, hi => cases hi; exact ⟨e3, _, rfl, m3.same s5, o3, d3, Ex.size_line d3⟩
      | 3, hi => cases hi; exact ⟨e4, _, rfl, m4.same s5, o4, d4, Ex.size_line d4⟩
      | _ + 4, hi => simp at hi
    have s6 := s5.trans s6
    have es : (sizes [e1, e2, e3, e4]).sum = (e1.size + e2.size + e3.size + e4.size : Nat) := by
      simp [sizes]
      omega
    rw [es]
    by_cases hz : e1.size + e2.size + e3.size + e4.size ≤ 60
    case neg =>
      refine iteB (decide_eq_true (by show ((e1.size + e2.size + e3.size + e4.size : Nat) : Int) > 60; omega)) ⟨by show 1 ≤ 1000; decide, kx ?_ H6 s6⟩
      rintro ⟨f1, f2, f3, f4, ⟨h1, h2, h3, h4⟩, _, _, z⟩
      cases Ex.gx_inj h1
      cases Ex.gx_inj h2
      cases Ex.gx_inj h3
      cases Ex.gx_inj h4
      exact hz z
    refine iteN (decide_eq_false (by show ¬ ((e1.size + e2.size + e3.size + e4.size : Nat) : Int) > 60; omega)) ?_
    refine ⟨_, rfl, _, rfl, p, a.c_Program, dx, _, rfl, s6 _ _ hp, T.cl_Program, T.na_Program_start, (by show 0 < 1000; decide), ?_⟩
    refine ⟨_, rfl, _, rfl, p, a.c_Program, dx, _, rfl, upd_same, T.cl_Program, T.na_Program_send, (by show 1 < 1000; decide), ?_⟩
    refine ⟨_, rfl, _, rfl, p, a.c_Program, dx, _, rfl, upd_same, T.cl_Program, T.na_Program_when, (by show 2 < 1000; decide), ?_⟩
    refine ⟨_, rfl, _, rfl, p, a.c_Program, dx, _, rfl, upd_same, T.cl_Program, T.na_Program_renew, (by show 3 < 1000; decide), ?_⟩
    rw [upd_upd, upd_upd, upd_upd]
    exact k ⟨e1, e2, e3, e4, ⟨rfl, rfl, rfl, rfl⟩, ⟨o1, o2, o3, o4⟩, ⟨d1, d2, d3, d4⟩, hz⟩ H6 s6
end
end K04

/-! K06c -/
set_option Elab.async false
set_option linter.all false
set_option maxRecDepth 100000
set_option maxHeartbeats 4000000
namespace K04
open PySem L2
section
variable {P : Program} {w : World} {K : PySem.W.Frag} {mg : Str → Option Value} {base : Heap} {a : Ad}
def spMade (a : Ad) (n : Nat) : Sp := fun vs H Q _ => ∃ (e : Ex) (v : V) (names : List Str), vs = [v] ∧ Told H e v ∧ e.dep ≤ n ∧ e.ok names ∧ ∀ r H', Made a H' e r → Same H H' → Q r H'
theorem ok_made (T : Txt K mg a) : ∀ n, FnOk P w K mg base CX0 (n + 2) a.f__law_made a.d__law_made ["_law_told"] (spMade a n)
  | 0 => ⟨fun vs H Q E h => by
      obtain ⟨e, v, names, rfl, _⟩ := h
      rfl, fun A outer s H args us vs Q E _ _ _ _ h => by
      obtain ⟨e, v, names, _, _, hd, _⟩ := h
      have := e.dep_pos
      omega⟩
  | n + 1 => by
    have c__law_made : Callee P w K mg base "_law_made" a.f__law_made a.d__law_made ["_law_told"] (n + 2) (spMade a n) := ⟨ok_made T n, T.g__law_made, T.F__law_made.kp, T.b__law_made⟩
    have m_Num : Maker P w K mg base "Num" a.c_Num a.f_Num___init__ a.d_Num___init__ ["self", "value"] 1 (spI1 a.c_Num "value") := ⟨ok_Num_init T, T.g_Num, T.mk_Num, T.b_Num___init__⟩
    have m_Name : Maker P w K mg base "Name" a.c_Name a.f_Name___init__ a.d_Name___init__ ["self", "word"] 1 (spI1 a.c_Name "word") := ⟨ok_Name_init T, T.g_Name, T.mk_Name, T.b_Name___init__⟩
    have m_Two : Maker P w K mg base "Two" a.c_Two a.f_Two___init__ a.d_Two___init__ ["self", "word", "one", "other"] 1 (spI3 a.c_Two "word" "one" "other") := ⟨ok_Two_init T, T.g_Two, T.mk_Two, T.b_Two___init__⟩
    have m_Mod : Maker P w K mg base "Mod" a.c_Mod a.f_Mod___init__ a.d_Mod___init__ ["self", "inner", "number"] 1 (spI2 a.c_Mod "inner" "number") := ⟨ok_Mod_init T, T.g_Mod, T.mk_Mod, T.b_Mod___init__⟩
    have m_Less : Maker P w K mg base "Less" a.c_Less a.f_Less___init__ a.d_Less___init__ ["self", "one", "other", "third", "fourth"] 1 (spI4 a.c_Less "one" "other" "third" "fourth") := ⟨ok_Less_init T, T.g_Less, T.mk_Less, T.b_Less___init__⟩
    refine T.F__law_made.ok sc__law_made (fun vs H Q E h => ?_) (fun cdv A outer s H vs Q E hr h => ?_)
    · obtain ⟨e, v, names, rfl, _⟩ := h
      rfl
    · obtain ⟨e, v, names, rfl, ht, hdep, ho, k⟩ := h
      refine ⟨_, (pss_cons (ps_if (pt_cmpR op_eq (pe_ix ix_tup (pv 0) pe_int (fun _ _ => rfl)) pe_str (nomark _))
        (pss_one (ps_ret (pe_m m_Num (hr.mono (by omega)) (pa_cons (pe_ix ix_tup (pv 0) pe_int (fun _ _ => rfl)) pa_nil))))
        pss_nil)
      (pss_cons (ps_if (pt_cmpR op_eq (pe_ix ix_tup (pv 0) pe_int (fun _ _ => rfl)) pe_str (nomark _))
        (pss_one (ps_ret (pe_m m_Name (hr.mono (by omega)) (pa_cons (pe_ix ix_tup (pv 0) pe_int (fun _ _ => rfl)) pa_nil))))
        pss_nil)
      (pss_cons (ps_if (pt_cmpR op_eq (pe_ix ix_tup (pv 0) pe_int (fun _ _ => rfl)) pe_str (nomark _))
        (pss_one (ps_ret (pe_m m_Mod (hr.mono (by omega)) (pa_K (pe_c c__law_made (hr.mono (by omega)) (pa_cons (pe_ix ix_tup (pv 0) pe_int (fun _ _ => rfl)) pa_nil)) (pa_cons (pe_ix ix_tup (pv 0) pe_int (fun _ _ => rfl)) pa_nil)))))
        pss_nil)
      (pss_cons (ps_if (pt_cmpR op_eq (pe_ix ix_tup (pv 0) pe_int (fun _ _ => rfl)) pe_str (nomark _))
        (pss_one (ps_ret (pe_m m_Less (hr.mono (by omega)) (pa_K (pe_c c__law_made (hr.mono (by omega)) (pa_cons (pe_ix ix_tup (pv 0) pe_int (fun _ _ => rfl)) pa_nil)) (pa_K (pe_c c__law_made (hr.mono (by omega)) (pa_cons (pe_ix ix_tup (pv 0) pe_int (fun _ _ => rfl)) pa_nil)) (pa_K (pe_c c__law_made (hr.mono (by omega)) (pa_cons (pe_ix ix_tup (pv 0) pe_int (fun _ _ => rfl)) pa_nil)) (pa_K (pe_c c__law_made (hr.mono (by omega)) (pa_cons (pe_ix ix_tup (pv 0) pe_int (fun _ _ => rfl)) pa_nil)) pa_nil)))))))
        pss_nil)
      (pss_one (ps_ret (pe_m m_Two (hr.mono (by omega)) (pa_cons (pe_ix ix_tup (pv 0) pe_int (fun _ _ => rfl)) (pa_K (pe_c c__law_made (hr.mono (by omega)) (pa_cons (pe_ix ix_tup (pv 0) pe_int (fun _ _ => rfl)) pa_nil)) (pa_K (pe_c c__law_made (hr.mono (by omega)) (pa_cons (pe_ix ix_tup (pv 0) pe_int (fun _ _ => rfl)) pa_nil)) pa_nil)))))))))), ?_⟩
      cases e with
      | num i =>
        obtain ⟨p, rfl, hp⟩ := ht
        refine ⟨_, rfl, p, _, 0, _, rfl, rfl, SqT.of hp, rfl, rfl, _, rfl, iteB (by decide +kernel) ?_⟩
        refine ⟨_, rfl, p, _, 1, _, rfl, rfl, SqT.of hp, rfl, fun x dx nx ndx nex => ⟨x, dx, _, rfl, upd_same, rfl, ?_⟩⟩
        exact k _ _ ⟨x, dx, rfl, upd_same⟩ (Same.made nx ndx)
      | name i =>
        obtain ⟨p, rfl, hp⟩ := ht
        refine ⟨_, rfl, p, _, 0, _, rfl, rfl, SqT.of hp, rfl, rfl, _, rfl, iteN (by decide +kernel) ?_⟩
        refine ⟨_, rfl, p, _, 0, _, rfl, rfl, SqT.of hp, rfl, rfl, _, rfl, iteB (by decide +kernel) ?_⟩
        refine ⟨_, rfl, p, _, 1, _, rfl, rfl, SqT.of hp, rfl, fun x dx nx ndx nex => ⟨x, dx, _, rfl, upd_same, rfl, ?_⟩⟩
        exact k _ _ ⟨x, dx, rfl, upd_same⟩ (Same.made nx ndx)
      | mod e1 i =>
        obtain ⟨p, u1, rfl, hp, t1⟩ := ht
        obtain ⟨_, o1⟩ := ho
        have hdep : e1.dep + 1 ≤ n + 1 := hdep
        refine ⟨_, rfl, p, _, 0, _, rfl, rfl, SqT.of hp, rfl, rfl, _, rfl, iteN (by decide +kernel) ?_⟩
        refine ⟨_, rfl, p, _, 0, _, rfl, rfl, SqT.of hp, rfl, rfl, _, rfl, iteN (by decide +kernel) ?_⟩
        refine ⟨_, rfl, p, _, 0, _, rfl, rfl, SqT.of hp, rfl, rfl, _, rfl, iteB (by decide +kernel) ?_⟩
        refine ⟨_, rfl, p, _, 1, _, rfl, rfl, SqT.of hp, rfl, e1, _, names, rfl, t1, by omega, o1, fun r1 H1 m1 s1 => ?_⟩
        refine ⟨_, rfl, p, _, 2, _, rfl, rfl, SqT.of (s1 _ _ hp), rfl, fun x dx nx ndx nex => ⟨x, dx, _, _, rfl, upd_same, rfl, ?_⟩⟩
        exact k _ _ ⟨x, dx, r1, rfl, upd_same, m1.same (Same.made nx ndx)⟩ (s1.trans (Same.made nx ndx))
      | less e1 e2 e3 e4 =>
        obtain ⟨p, u1, u2, u3, u4, rfl, hp, t1, t2, t3, t4⟩ := ht
        obtain ⟨o1, o2, o3, o4⟩ := ho
        have hdep : max (max e1.dep e2.dep) (max e3.dep e4.dep) + 1 ≤ n + 1 := hdep
        refine ⟨_, rfl, p, _, 0, _, rfl, rfl, SqT.of hp, rfl, rfl, _, rfl, iteN (by decide +kernel) ?_⟩
        refine ⟨_, rfl, p, _, 0, _, rfl, rfl, SqT.of hp, rfl, rfl, _, rfl, iteN (by decide +kernel) ?_⟩
        refine ⟨_, rfl, p, _, 0, _, rfl, rfl, SqT.of hp, rfl, rfl, _, rfl, iteN (by decide +kernel) ?_⟩
        refine ⟨_, rfl, p, _, 0, _, rfl, rfl, SqT.of hp, rfl, rfl, _, rfl, iteB (by decide +kernel) ?_⟩
        refine ⟨_, rfl, p, _, 1, _, rfl, rfl, SqT.of hp, rfl, e1, _, names, rfl, t1, by omega, o1, fun r1 H1 m1 s1 => ?_⟩
        refine ⟨_, rfl, p, _, 2, _, rfl, rfl, SqT.of (s1 _ _ hp), rfl, e2, _, names, rfl, t2.same s1, by omega, o2, fun r2 H2 m2 s2 => ?_⟩
        have s12 := s1.trans s2
        refine ⟨_, rfl, p, _, 3, _, rfl, rfl, SqT.of (s12 _ _ hp), rfl, e3, _, names, rfl, t3.same s12, by omega, o3, fun r3 H3 m3 s3 => ?_⟩
        have s123 := s12.trans s3
        refine ⟨_, rfl, p, _, 4, _, rfl, rfl, SqT.of (s123 _ _ hp), rfl, e4, _, names, rfl, t4.same s123, by omega, o4, fun r4 H4 m4 s4 => ?_⟩
        refine fun x dx nx ndx nex => ⟨x, dx, _, _, _, _, rfl, upd_same, rfl, ?_⟩
        have s5 : Same H4 _ := Same.made (C := a.c_Less) (fs := [("one", r1), ("other", r2), ("third", r3), ("fourth", r4)]) (fs' := []) nx ndx
        exact k _ _ ⟨x, dx, r1, r2, r3, r4, rfl, upd_same, m1.same (s2.trans (s3.trans (s4.trans s5))), m2.same (s3.trans (s4.trans s5)), m3.same (s4.trans s5), m4.same s5⟩ (s123.trans (s4.trans s5))
      | two wd e1 e2 =>
        obtain ⟨p, u1, u2, rfl, hp, t1, t2⟩ := ht
        obtain ⟨hw, o1, o2⟩ := ho
        have hdep : max e1.dep e2.dep + 1 ≤ n + 1 := hdep
        obtain ⟨w1, w2, w3, w4⟩ := two_no hw
        refine ⟨_, rfl, p, _, 0, _, rfl, rfl, SqT.of hp, rfl, rfl, _, rfl, iteN w1 ?_⟩
        refine ⟨_, rfl, p, _, 0, _, rfl, rfl, SqT.of hp, rfl, rfl, _, rfl, iteN w2 ?_⟩
        refine ⟨_, rfl, p, _, 0, _, rfl, rfl, SqT.of hp, rfl, rfl, _, rfl, iteN w3 ?_⟩
        refine ⟨_, rfl, p, _, 0, _, rfl, rfl, SqT.of hp, rfl, rfl, _, rfl, iteN w4 ?_⟩
        refine ⟨_, rfl, p, _, 0, _, rfl, rfl, SqT.of hp, rfl, ?_⟩
        refine ⟨_, rfl, p, _, 1, _, rfl, rfl, SqT.of hp, rfl, e1, _, names, rfl, t1, by omega, o1, fun r1 H1 m1 s1 => ?_⟩
        refine ⟨_, rfl, p, _, 2, _, rfl, rfl, SqT.of (s1 _ _ hp), rfl, e2, _, names, rfl, t2.same s1, by omega, o2, fun r2 H2 m2 s2 => ?_⟩
        refine fun x dx nx ndx nex => ⟨x, dx, _, _, _, rfl, upd_same, rfl, ?_⟩
        have s5 : Same H2 _ := Same.made (C := a.c_Two) (fs := [("word", V.str wd), ("one", r1), ("other", r2)]) (fs' := []) nx ndx
        exact k _ _ ⟨x, dx, r1, r2, rfl, upd_same, m1.same (s2.trans s5), m2.same s5⟩ ((s1.trans s2).trans s5)
end
end K04

/-! K06f -/
set_option Elab.async false
set_option linter.all false
set_option maxRecDepth 100000
set_option maxHeartbeats 4000000
namespace K04
open PySem L2
section
variable {P : Program} {w : World} {K : PySem.W.Frag} {mg : Str → Option Value} {base : Heap} {a : Ad}
def spExpr (n : Nat) : Sp := fun vs H Q _ => ∃ (l nm : Addr) (names : List Str) (deep : Int), vs = [.ref l, .ref nm, .int deep] ∧ StAt H l ∧ H nm = some (.lst (names.map V.str)) ∧ nm ≠ l ∧ 0 < names.length ∧ names.length ≤ 100 ∧ 1 ≤ deep ∧ deep ≤ n ∧
  ∀ (e : Ex) (v : V) (H' : Hp), Told H' e v → e.ok names → e.dep ≤ n → StAt H' l → Ext l H H' → Q v H'
theorem ok_expr (T : Txt K mg a) : ∀ n, FnOk P w K mg base CX0 (n + 2) a.f__law_expr a.d__law_expr ["_law_state", "_law_names", "_law_deep"] (spExpr n)
  | 0 => ⟨fun vs H Q E h => by
      obtain ⟨l, nm, names, deep, rfl, _⟩ := h
      rfl, fun A outer s H args us vs Q E _ _ _ _ h => by
      obtain ⟨l, nm, names, deep, _, _, _, _, _, _, h1, h2, _⟩ := h
      omega⟩
  | n + 1 => by
    have c__law_digit : Callee P w K mg base "_law_digit" a.f__law_digit a.d__law_digit ["_law_state", "_law_base"] 1 spDigit := ⟨ok_digit T, T.g__law_digit, T.F__law_digit.kp, T.b__law_digit⟩
    have c__law_expr : Callee P w K mg base "_law_expr" a.f__law_expr a.d__law_expr ["_law_state", "_law_names", "_law_deep"] (n + 2) (spExpr n) := ⟨ok_expr T n, T.g__law_expr, T.F__law_expr.kp, T.b__law_expr⟩
    refine T.F__law_expr.ok sc__law_expr (fun vs H Q E h => ?_) (fun cdv A outer s H vs Q E hr h => ?_)
    · obtain ⟨l, nm, names, deep, rfl, _⟩ := h
      rfl
    · obtain ⟨l, nm, names, deep, rfl, hs, hnm, hne, hn0, hn1, hd1, hd2, k⟩ := h
      refine ⟨_, (pss_cons (ps_set (i := 3) sc__law_expr.nd rfl (Or.inl rfl) (pe_c c__law_digit (hr.mono (by omega)) (pa_N (pv 0) (pa_C pe_int pa_nil))))
      (pss_cons (ps_if (PW.pt (pw_or (pt_cmpR op_lt (pv 2) pe_int (nomark _)) (pw_or1 (pt_cmpR op_lt (pv 3) pe_int (nomark _)))))
        (pss_cons (ps_if (pt_cmpR op_eq (pe_op op_mod (pv 3) pe_int) pe_int (nomark _))
          (pss_one (ps_ret (pe_tup (pa_C pe_str (pa_cons (pe_ix ix_list (pv 1) (pe_c c__law_digit (hr.mono (by omega)) (pa_N (pv 0) (pa_K (pe_callB call_len_seq (by rfl) T.n_len bt_len (pa_N (pv 1) pa_nil)) pa_nil))) (fun _ _ => rfl)) pa_nil)))))
          pss_nil)
        (pss_cons (ps_set (i := 4) sc__law_expr.nd rfl (Or.inl rfl) (pe_c c__law_digit (hr.mono (by omega)) (pa_N (pv 0) (pa_cons (pe_ix ix_list (pe_lst (pa_C pe_int (pa_C pe_int (pa_B (pe_op op_pow pe_int pe_int) pa_nil)))) (pe_c c__law_digit (hr.mono (by omega)) (pa_N (pv 0) (pa_C pe_int pa_nil))) (fun _ _ => rfl)) pa_nil))))
        (pss_one (ps_ret (pe_tup (pa_C pe_str (pa_cons (pe_ix ix_list (pe_lst (pa_N (pv 4) (pa_B (pe_op op_sub pe_int (pv 4)) pa_nil))) (pe_c c__law_digit (hr.mono (by omega)) (pa_N (pv 0) (pa_C pe_int pa_nil))) (fun _ _ => rfl)) pa_nil)))))))
        pss_nil)
      (pss_cons (ps_if (pt_cmpR op_lt (pv 3) pe_int (nomark _))
        (pss_cons (ps_set (i := 5) sc__law_expr.nd rfl (Or.inl rfl) (pe_ix ix_list (pe_lst (pa_C pe_str (pa_C pe_str (pa_C pe_str (pa_C pe_str pa_nil))))) (pe_c c__law_digit (hr.mono (by omega)) (pa_N (pv 0) (pa_C pe_int pa_nil))) (fun _ _ => rfl)))
        (pss_cons (ps_set (i := 6) sc__law_expr.nd rfl (Or.inl rfl) (pe_c c__law_expr (hr.mono (by omega)) (pa_N (pv 0) (pa_N (pv 1) (pa_B (pe_op op_sub (pv 2) pe_int) pa_nil)))))
        (pss_one (ps_ret (pe_tup (pa_N (pv 5) (pa_N (pv 6) (pa_K (pe_c c__law_expr (hr.mono (by omega)) (pa_N (pv 0) (pa_N (pv 1) (pa_B (pe_op op_sub (pv 2) pe_int) pa_nil)))) pa_nil))))))))
        pss_nil)
      (pss_cons (ps_if (pt_cmpR op_eq (pv 3) pe_int (nomark _))
        (pss_cons (ps_set (i := 4) sc__law_expr.nd rfl (Or.inl rfl) (pe_op op_add pe_int (pe_c c__law_digit (hr.mono (by omega)) (pa_N (pv 0) (pa_cons (pe_ix ix_list (pe_lst (pa_C pe_int (pa_C pe_int (pa_B (pe_op op_pow pe_int pe_int) pa_nil)))) (pe_c c__law_digit (hr.mono (by omega)) (pa_N (pv 0) (pa_C pe_int pa_nil))) (fun _ _ => rfl)) pa_nil)))))
        (pss_one (ps_ret (pe_tup (pa_C pe_str (pa_K (pe_c c__law_expr (hr.mono (by omega)) (pa_N (pv 0) (pa_N (pv 1) (pa_B (pe_op op_sub (pv 2) pe_int) pa_nil)))) (pa_N (pv 4) pa_nil)))))))
        pss_nil)
      (pss_cons (ps_if (pt_cmpR op_eq (pv 3) pe_int (nomark _))
        (pss_one (ps_ret (pe_tup (pa_C pe_str (pa_cons (pe_ix ix_list (pv 1) (pe_c c__law_digit (hr.mono (by omega)) (pa_N (pv 0) (pa_K (pe_callB call_len_seq (by rfl) T.n_len bt_len (pa_N (pv 1) pa_nil)) pa_nil))) (fun _ _ => rfl)) pa_nil)))))
        pss_nil)
      (pss_cons (ps_setComp (i := 7) rfl sc__law_expr.nd rfl (Or.inl rfl) (N' := ["_law_k", "_law_state", "_law_names", "_law_deep"]) (t := 1) (caps := [0, 1, 2]) ⟨rfl, rfl, rfl⟩ (pi_range1 rfl T.n_range (pa_C pe_int pa_nil)) (fun _ => (pg_name (i := 0) (show (["_law_k", "_law_state", "_law_names", "_law_deep"] : List Str).Nodup by decide +kernel) rfl (Or.inl rfl))) (fun _ => pts_nil) (fun _ => (pe_c c__law_expr (hr.mono (by omega)) (pa_N (pv 1) (pa_N (pv 2) (pa_K (pe_callB (call_min2 rfl) (by rfl) T.n_min bt_min (pa_C pe_int (pa_B (pe_op op_sub (pv 3) pe_int) pa_nil))) pa_nil))))))
      (pss_one (ps_ret (pe_tup (pa_C pe_str (pa_cons (pe_ix ix_list (pv 7) pe_int (fun _ _ => rfl)) (pa_cons (pe_ix ix_list (pv 7) pe_int (fun _ _ => rfl)) (pa_cons (pe_ix ix_list (pv 7) pe_int (fun _ _ => rfl)) (pa_cons (pe_ix ix_list (pv 7) pe_int (fun _ _ => rfl)) pa_nil)))))))))))))), ?_⟩
      refine ⟨_, rfl, l, 10, rfl, hs, by decide, by decide, fun kd H1 k0 k1 s1 x1 => ?_⟩
      have hnm1 := x1 _ _ hnm hne
      refine ⟨_, rfl, _, _, rfl, rfl, _, rfl, ?_⟩
      by_cases hl : deep < 2 ∨ kd < 3
      · have alt : ∀ {A B C : Prop}, (deep < 2 → A) → (¬ deep < 2 → C) → if decide (deep < 2) = true then A else C := fun f g => by
          by_cases z : deep < 2
          · exact iteB (decide_eq_true z) (f z)
          · exact iteN (decide_eq_false z) (g z)
        refine alt (B := True) (fun z => iteT ?_) (fun z => ⟨_, rfl, _, _, rfl, rfl, _, rfl, iteB (decide_eq_true (hl.resolve_left z)) ?_⟩)
        all_goals
          refine ⟨_, rfl, _, _, rfl, rfl, (by show (0 : Int) < 2; decide), rfl, _, rfl, ?_⟩
          refine ite2 (fun _ => ?_) (fun _ => ?_)
          · refine ⟨_, rfl, _, rfl, _, rfl, nm, _, rfl, .inl (SqL.of hnm1), l, _, rfl, s1, (by rw [List.length_map]; omega), log_lt (m := 8) (by rw [List.length_map]; omega) (by rw [List.length_map]; omega) (by decide), fun d2 H2 g1 g2 s2 x2 => ?_⟩
            obtain ⟨x, hx, ea⟩ := pickN g1 g2
            refine ⟨nm, _, d2, _, rfl, rfl, SqL.of (x2 _ _ hnm1 hne), ea, (by show 2 ≤ sizeLine; decide), fun p hp => ?_⟩
            exact k (.name x) _ _ ⟨p, rfl, upd_same⟩ hx (Nat.le_add_left _ _) (s2.new hp) ((x1.trans x2).trans (Ext.new hp))
          · refine ⟨_, rfl, _, _, rfl, rfl, ⟨by decide, by decide, by decide⟩, (by show 3 ≤ sizeLine; decide), fun p1 hp1 => ?_⟩
            refine ⟨_, rfl, l, 3, rfl, s1.new hp1, by decide, by decide, fun d1 H2 g1 g2 s2 x2 => ?_⟩
            have n1 := s1.ne hp1
            obtain ⟨v1, a1, b1⟩ := pick3 (x := 10) (y := 1000) (z := (10 : Int) ^ (20 : Int).toNat) g1 g2
            rw [pow20] at b1
            obtain ⟨c1, c2⟩ := log_pick b1 (by decide) (by decide) (by decide)
            refine ⟨p1, _, d1, _, rfl, rfl, SqL.of (x2 _ _ upd_same n1), a1, ?_⟩
            refine ⟨l, v1, rfl, s2, c1, c2, fun d2 H3 g3 g4 s3 x3 => ?_⟩
            refine ⟨_, rfl, _, rfl, _, _, rfl, rfl, (by show 2 ≤ sizeLine; decide), fun p2 hp2 => ?_⟩
            have n2 := s3.ne hp2
            refine ⟨_, rfl, l, 2, rfl, s3.new hp2, by decide, by decide, fun d3 H4 g5 g6 s4 x4 => ?_⟩
            obtain ⟨v2, a2, b2⟩ := pick2 (x := d2) (y := 0 - d2) g5 g6
            refine ⟨p2, _, d3, _, rfl, rfl, SqL.of (x4 _ _ upd_same n2), a2, (by show 2 ≤ sizeLine; decide), fun p hp => ?_⟩
            exact k (.num v2) _ _ ⟨p, rfl, upd_same⟩ (by show -100000000000000000000 < v2 ∧ v2 < 100000000000000000000; omega) (Nat.le_add_left _ _) (s4.new hp) ((((x1.trans (Ext.new hp1)).trans x2).trans (x3.trans (Ext.new hp2))).trans (x4.trans (Ext.new hp)))
      · have hl1 : ¬ deep < 2 := fun z => hl (.inl z)
        have hl2 : ¬ kd < 3 := fun z => hl (.inr z)
        refine iteN (decide_eq_false hl1) ⟨_, rfl, _, _, rfl, rfl, _, rfl, iteN (decide_eq_false hl2) ?_⟩
        refine ⟨_, rfl, _, _, rfl, rfl, _, rfl, ?_⟩
        refine ite2 (fun _ => ?_) (fun h7 => ?_)
        · refine ⟨by show 4 ≤ sizeLine; decide, fun p1 hp1 => ?_⟩
          refine ⟨_, rfl, l, 4, rfl, s1.new hp1, by decide, by decide, fun d1 H2 g1 g2 s2 x2 => ?_⟩
          have n1 := s1.ne hp1
          obtain ⟨wd, hw, aw⟩ := pick4s g1 g2
          have X2 : Ext l H H2 := (x1.trans (Ext.new hp1)).trans x2
          refine ⟨p1, _, d1, _, rfl, rfl, SqL.of (x2 _ _ upd_same n1), aw, ?_⟩
          refine ⟨_, rfl, _, rfl, _, rfl, _, _, rfl, rfl, l, nm, names, deep - 1, rfl, s2, X2 _ _ hnm hne, hne, hn0, hn1, by omega, by omega, fun e1 v1 H3 t1 o1 de1 s3 x3 => ?_⟩
          refine ⟨_, rfl, _, rfl, _, rfl, _, rfl, _, rfl, _, _, rfl, rfl, l, nm, names, deep - 1, rfl, s3, (X2.trans x3) _ _ hnm hne, hne, hn0, hn1, by omega, by omega, fun e2 v2 H4 t2 o2 de2 s4 x4 => ?_⟩
          refine ⟨by show 3 ≤ sizeLine; decide, fun p hp => ?_⟩
          have y5 := Same.new (o := HO.tup [V.str wd, v1, v2]) hp
          exact k (.two wd e1 e2) _ _ ⟨p, v1, v2, rfl, upd_same, (t1.ext s3 x4).same y5, t2.same y5⟩ ⟨hw, o1, o2⟩ (by show max e1.dep e2.dep + 1 ≤ n + 1; omega) (s4.new hp) (((X2.trans x3).trans x4).trans (Ext.new hp))
        refine ⟨_, rfl, rfl, _, rfl, ?_⟩
        refine ite2 (fun _ => ?_) (fun h8 => ?_)
        · refine ⟨_, rfl, _, _, rfl, rfl, ⟨by decide, by decide, by decide⟩, (by show 3 ≤ sizeLine; decide), fun p1 hp1 => ?_⟩
          refine ⟨_, rfl, l, 3, rfl, s1.new hp1, by decide, by decide, fun d1 H2 g1 g2 s2 x2 => ?_⟩
          have n1 := s1.ne hp1
          obtain ⟨v1, a1, b1⟩ := pick3 (x := 3) (y := 100) (z := (10 : Int) ^ (9 : Int).toNat) g1 g2
          rw [pow9] at b1
          obtain ⟨c1, c2⟩ := log_pick b1 (by decide) (by decide) (by decide)
          refine ⟨p1, _, d1, _, rfl, rfl, SqL.of (x2 _ _ upd_same n1), a1, ?_⟩
          refine ⟨l, v1, rfl, s2, c1, c2, fun d2 H3 g3 g4 s3 x3 => ?_⟩
          have X3 : Ext l H H3 := ((x1.trans (Ext.new hp1)).trans x2).trans x3
          refine ⟨_, _, rfl, rfl, _, rfl, _, rfl, _, rfl, _, _, rfl, rfl, l, nm, names, deep - 1, rfl, s3, X3 _ _ hnm hne, hne, hn0, hn1, by omega, by omega, fun e1 v2 H4 t1 o1 de1 s4 x4 => ?_⟩
          refine ⟨_, rfl, (by show 3 ≤ sizeLine; decide), fun p hp => ?_⟩
          exact k (.mod e1 (1 + d2)) _ _ ⟨p, v2, rfl, upd_same, t1.same (Same.new hp)⟩ ⟨⟨by omega, by omega⟩, o1⟩ (by show e1.dep + 1 ≤ n + 1; omega) (s4.new hp) ((X3.trans x4).trans (Ext.new hp))
        refine ⟨_, rfl, rfl, _, rfl, ?_⟩
        refine ite2 (fun _ => ?_) (fun h9 => ?_)
        · refine ⟨_, rfl, _, rfl, _, rfl, nm, _, rfl, .inl (SqL.of hnm1), l, _, rfl, s1, (by rw [List.length_map]; omega), log_lt (m := 8) (by rw [List.length_map]; omega) (by rw [List.length_map]; omega) (by decide), fun d2 H2 g1 g2 s2 x2 => ?_⟩
          obtain ⟨x, hx, ea⟩ := pickN g1 g2
          refine ⟨nm, _, d2, _, rfl, rfl, SqL.of (x2 _ _ hnm1 hne), ea, (by show 2 ≤ sizeLine; decide), fun p hp => ?_⟩
          exact k (.name x) _ _ ⟨p, rfl, upd_same⟩ hx (Nat.le_add_left _ _) (s2.new hp) ((x1.trans x2).trans (Ext.new hp))
        refine ⟨4, rfl, by decide, by decide, fun D hD _ => ?_⟩
        have hDl := s1.ne hD
        refine comp_range (lo := 0) (n := 4) (fun i zs τ H' => ∃ o, τ = [o, some (.ref l), some (.ref nm), some (.int deep)] ∧ zs.length = i ∧ H' D = some (.lst zs) ∧ StAt H' l ∧ Ext l H1 H' ∧ ∀ v ∈ zs, ∃ e, Told H' e v ∧ e.ok names ∧ e.dep ≤ n) ?_ ?_ ?_
        · exact ⟨none, rfl, rfl, upd_same, s1.new hD, Ext.new hD, fun v hv => by cases hv⟩
        · rintro i zs τ H2 hi ⟨o, rfl, hz, hD2, s2, x2, hv⟩
          refine gn_if ?_
          refine ⟨_, rfl, _, rfl, _, rfl, _, _, rfl, rfl, 2, deep - 1, rfl, l, nm, names, _, rfl, s2, x2 _ _ hnm1 hne, hne, hn0, hn1, ?_, ?_, fun e v H6 t6 o6 d6 s6 x6 => ⟨x6 _ _ hD2 hDl, small1000 (by omega), some (V.int (0 + i)), rfl, by simp [hz], upd_same, ?_, ?_, fun v' hv' => ?_⟩⟩
          · by_cases q : deep - 1 < 2
            · rw [if_pos q]; omega
            · rw [if_neg q]; omega
          · by_cases q : deep - 1 < 2
            · rw [if_pos q]; omega
            · rw [if_neg q]; omega
          · obtain ⟨st, e, ok⟩ := s6
            exact ⟨st, by rw [upd_ne hDl.symm]; exact e, ok⟩
          · intro b o e nb
            rw [upd_ne (ne_of_none e hD)]
            exact (x2.trans x6) b o e nb
          · have hD6 := x6 _ _ hD2 hDl
            rcases List.mem_append.mp hv' with h | h
            · obtain ⟨e', t', o', d'⟩ := hv v' h
              exact ⟨e', (t'.ext s2 x6).updL hD6, o', d'⟩
            · rw [List.mem_singleton.mp h]
              exact ⟨e, t6.updL hD6, o6, d6⟩
        · rintro zs τ H2 ⟨o, _, hz, hD2, s2, x2, hv⟩
          match zs, hz with
          | [z1, z2, z3, z4], _ =>
            obtain ⟨e1, t1, o1, d1⟩ := hv z1 (by simp)
            obtain ⟨e2, t2, o2, d2⟩ := hv z2 (by simp)
            obtain ⟨e3, t3, o3, d3⟩ := hv z3 (by simp)
            obtain ⟨e4, t4, o4, d4⟩ := hv z4 (by simp)
            refine ⟨_, rfl, D, _, 0, _, rfl, rfl, SqL.of hD2, rfl, _, rfl, D, _, 1, _, rfl, rfl, SqL.of hD2, rfl, _, rfl, D, _, 2, _, rfl, rfl, SqL.of hD2, rfl, _, rfl, D, _, 3, _, rfl, rfl, SqL.of hD2, rfl, (by show 5 ≤ sizeLine; decide), fun p hp => ?_⟩
            have y := Same.new (o := HO.tup [V.str "less", z1, z2, z3, z4]) hp
            exact k (.less e1 e2 e3 e4) _ _ ⟨p, z1, z2, z3, z4, rfl, upd_same, t1.same y, t2.same y, t3.same y, t4.same y⟩ ⟨o1, o2, o3, o4⟩ (by show max (max e1.dep e2.dep) (max e3.dep e4.dep) + 1 ≤ n + 1; omega) (s2.new hp) ((x1.trans x2).trans (Ext.new hp))
end
end K04

/-! K06l -/
set_option Elab.async false
set_option linter.all false
set_option maxRecDepth 100000
set_option maxHeartbeats 4000000
namespace K04
open PySem L2
def PartsAre (H : Hp) (n : Nat) (names : List Str) (parts : List V) (qs : List (Option Ex)) : Prop := parts.length = qs.length ∧ ∀ (i : Nat) x, parts[i]? = some x → (∃ e, qs[i]? = some (some e) ∧ Told H e x ∧ e.ok names ∧ e.dep ≤ n) ∨ (qs[i]? = some none ∧ ∃ m, x = .int m)
def partSum (qs : List (Option Ex)) : Int := ((qs.filterMap id).map fun e => (e.size : Int)).sum
def leafW (w : Str) : Bool := inV (.str w) [V.str "num", V.str "name"]
theorem Told.parts {H : Hp} {n : Nat} : ∀ {e : Ex} {v : V} {names : List Str}, Told H e v → e.ok names → e.dep ≤ n + 1 →
    ∃ (p : Addr) (wd : Str) (parts : List V), v = .ref p ∧ H p = some (.tup (.str wd :: parts)) ∧ ((leafW wd = true ∧ e.size = 1) ∨ (leafW wd = false ∧ 1 ≤ parts.length ∧ parts.length ≤ 4 ∧ ∃ qs, PartsAre H n names parts qs ∧ (e.size : Int) = 1 + (if wd = "mod" then 1 else 0) + partSum qs))
  | .num i, _, _, ⟨p, e, h⟩, _, _ => ⟨p, "num", _, e, h, .inl ⟨by decide +kernel, rfl⟩⟩
  | .name i, _, _, ⟨p, e, h⟩, _, _ => ⟨p, "name", _, e, h, .inl ⟨by decide +kernel, rfl⟩⟩
  | .two w e f, _, _, ⟨p, a1, b1, e1, h1, s1, s2⟩, o, d => by
    obtain ⟨hw, o1, o2⟩ := o
    have d : max e.dep f.dep + 1 ≤ n + 1 := d
    have nm : w ≠ "mod" := by rcases hw with rfl | rfl | rfl | rfl <;> decide +kernel
    refine ⟨p, w, _, e1, h1, .inr ⟨by rcases hw with rfl | rfl | rfl | rfl <;> decide +kernel, by simp, by simp, [some e, some f], ⟨rfl, fun i x hi => ?_⟩, ?_⟩⟩
    · match i, hi with
      | 0, hi => cases hi; exact .inl ⟨e, rfl, s1, o1, by omega⟩
      | 1, hi => cases hi; exact .inl ⟨f, rfl, s2, o2, by omega⟩
      | _ + 2, hi => simp at hi
    · rw [if_neg nm]
      show ((1 + e.size + f.size : Nat) : Int) = _
      simp [partSum]
      omega
  | .mod e m, _, _, ⟨p, a1, e1, h1, s1⟩, ⟨_, o1⟩, d => by
    have d : e.dep + 1 ≤ n + 1 := d
    refine ⟨p, "mod", _, e1, h1, .inr ⟨by decide +kernel, by simp, by simp, [some e, none], ⟨rfl, fun i x hi => ?_⟩, ?_⟩⟩
    · match i, hi with
      | 0, hi => cases hi; exact .inl ⟨e, rfl, s1, o1, by omega⟩
      | 1, hi => cases hi; exact .inr ⟨rfl, m, rfl⟩
      | _ + 2, hi => simp at hi
    · rw [if_pos rfl]
      show ((2 + e.size : Nat) : Int) = _
      simp [partSum]
  | .less e f g k, _, _, ⟨p, a1, b1, c1, d1, e1, h1, s1, s2, s3, s4⟩, ⟨o1, o2, o3, o4⟩, d => by
    have d : max (max e.dep f.dep) (max g.dep k.dep) + 1 ≤ n + 1 := d
    refine ⟨p, "less", _, e1, h1, .inr ⟨by decide +kernel, by simp, by simp, [some e, some f, some g, some k], ⟨rfl, fun i x hi => ?_⟩, ?_⟩⟩
    · match i, hi with
      | 0, hi => cases hi; exact .inl ⟨e, rfl, s1, o1, by omega⟩
      | 1, hi => cases hi; exact .inl ⟨f, rfl, s2, o2, by omega⟩
      | 2, hi => cases hi; exact .inl ⟨g, rfl, s3, o3, by omega⟩
      | 3, hi => cases hi; exact .inl ⟨k, rfl, s4, o4, by omega⟩
      | _ + 4, hi => simp at hi
    · rw [if_neg (by decide +kernel)]
      show ((1 + e.size + f.size + g.size + k.size : Nat) : Int) = _
      simp [partSum]
      omega
end K04

/-! K06m -/
set_option Elab.async false
set_option linter.all false
set_option maxRecDepth 100000
set_option maxHeartbeats 4000000
namespace K04
open PySem L2
theorem cut1 {x : V} {xs : List V} : cutV (x :: xs) (some 1) none = xs := by
  have h1 : HT.sIx (x :: xs).length 0 (some 1) = 1 := by
    unfold HT.sIx
    simp
  have h2 : HT.sIx (x :: xs).length (x :: xs).length none = xs.length + 1 := rfl
  unfold cutV
  rw [h1, h2]
  simp
theorem at0 {x : V} {xs : List V} : atI (x :: xs) 0 = some x := by
  unfold atI ixN
  simp
section
variable {P : Program} {w : World} {K : PySem.W.Frag} {mg : Str → Option Value} {base : Heap} {a : Ad}
def spSize (n : Nat) : Sp := fun vs H Q _ => ∃ (e : Ex) (v : V) (names : List Str), vs = [v] ∧ Told H e v ∧ e.ok names ∧ e.dep ≤ n ∧ ∀ H', Same H H' → Q (.int e.size) H'
theorem ok_size (T : Txt K mg a) : ∀ n, FnOk P w K mg base CX0 (n + 1) a.f__law_size a.d__law_size ["_law_told"] (spSize n)
  | 0 => ⟨fun vs H Q E h => by
      obtain ⟨e, v, names, rfl, _⟩ := h
      rfl, fun A outer s H args us vs Q E _ _ _ _ h => by
      obtain ⟨e, v, names, _, _, _, hd, _⟩ := h
      have := e.dep_pos
      omega⟩
  | n + 1 => by
    have c__law_size : Callee P w K mg base "_law_size" a.f__law_size a.d__law_size ["_law_told"] (n + 1) (spSize n) := ⟨ok_size T n, T.g__law_size, T.F__law_size.kp, T.b__law_size⟩
    refine T.F__law_size.ok sc__law_size (fun vs H Q E h => ?_) (fun cdv A outer s H vs Q E hr h => ?_)
    · obtain ⟨e, v, names, rfl, _⟩ := h
      rfl
    · obtain ⟨e, v, names, rfl, ht, ho, hdep, k⟩ := h
      obtain ⟨p, wd, parts, rfl, hp, alt⟩ := ht.parts ho hdep
      refine ⟨_, (pss_cons (ps_if (pt_cmpR op_in_seq (pe_ix ix_tup (pv 0) pe_int (fun _ _ => rfl)) (pe_lst (pa_C pe_str (pa_C pe_str pa_nil))) (by with_unfolding_all rfl))
        (pss_one (ps_ret pe_int))
        pss_nil)
      (pss_one (ps_ret (pe_op op_add (pe_op op_add pe_int (pe_callTy call_int1 (by rfl) T.n_int bt_int (pa_cons (pe_cmpR op_eq (pe_ix ix_tup (pv 0) pe_int (fun _ _ => rfl)) pe_str (nomark _)) pa_nil))) (pe_callB (call_sumI rfl) (by rfl) T.n_sum bt_sum (pa_cons (pe_comp rfl (N' := ["_law_part"]) (t := 1) (caps := []) ⟨rfl, rfl, rfl⟩ (pi_tup (pe_slice sl_tup (pv 0) (po_some pe_int) po_none)) (fun _ => (pg_name (i := 0) (show (["_law_part"] : List Str).Nodup by decide +kernel) rfl (Or.inl rfl))) (fun _ => (pts_one (pt_val (pe_callB call_isi (by rfl) T.n_isinstance bt_isinstance (pa_N (pv 0) (pa_N (pe_bty T.n_tuple bt_tuple) pa_nil)))))) (fun _ => (pe_c c__law_size (hr.mono (by omega)) (pa_N (pv 0) pa_nil)))) pa_nil)))))), ?_⟩
      refine ⟨_, rfl, p, _, 0, _, rfl, rfl, SqT.of hp, at0, (by show 2 ≤ sizeLine; decide), fun q0 hq0 => ?_⟩
      have s0 := Same.new (o := HO.lst [V.str "num", V.str "name"]) hq0
      refine ⟨q0, _, rfl, .inl (SqL.of upd_same), rfl, rfl, _, rfl, ?_⟩
      rcases alt with ⟨lw, sz⟩ | ⟨lw, l1, l4, qs, ⟨hlen, hq⟩, sz⟩
      · refine iteB lw ?_
        have := k _ s0
        rw [sz] at this
        exact this
      · refine iteN lw ?_
        refine ⟨_, rfl, p, _, 0, _, rfl, rfl, SqT.of (s0 _ _ hp), at0, rfl, .inr ⟨_, rfl, _, _, rfl, rfl, ?_⟩⟩
        refine ⟨_, rfl, _, rfl, p, _, rfl, SqT.of (s0 _ _ hp), (fun z => by
          have h1 : HT.sIx (V.str wd :: parts).length 0 (some 1) = 1 := by
            unfold HT.sIx
            simp
          rw [h1] at z
          exact absurd z.1 (by decide)), fun lt hlt => ?_⟩
        rw [cut1]
        have s1 := s0.trans (Same.new (o := HO.tup parts) hlt)
        refine ⟨lt, rfl, ⟨_, SqT.of upd_same⟩, fun D hD _ => ?_⟩
        refine comp_tup (K := K) (a := lt) (xs := parts) (fun i zs τ H' => ∃ o, τ = [o] ∧ i ≤ parts.length ∧ zs = (((qs.take i).filterMap id).map fun e => V.int (e.size : Int)) ∧ H' D = some (.lst zs) ∧ Same (upd (upd H q0 (HO.lst [V.str "num", V.str "name"])) lt (HO.tup parts)) H') ?_ ?_ ?_ ?_
        · exact ⟨none, rfl, Nat.zero_le _, by simp, upd_same, Same.new hD⟩
        · rintro i zs τ H' ⟨o, _, _, _, _, sm⟩
          exact SqT.of (sm _ _ upd_same)
        · rintro i x zs τ H' hi ⟨o, rfl, _, rfl, hD', sm⟩
          have hi' : i < parts.length := (List.getElem?_eq_some_iff.mp hi).1
          have s2 := s1.trans sm
          rcases hq i x hi with ⟨e', he, te, oe, de⟩ | ⟨he, m, rfl⟩
          · obtain ⟨pe, xs, rfl, hpe⟩ := te.ref
            refine ⟨_, rfl, _, _, _, _, _, rfl, rfl, TyOf.tup (s2 _ _ hpe), T.k_ttuple_ttuple, _, rfl, iteT ?_⟩
            refine ⟨_, rfl, e', _, names, rfl, te.same s2, oe, de, fun H3 s3 => ⟨s3 _ _ hD', ?_, some (.ref pe), rfl, hi', ?_, upd_same, ?_⟩⟩
            · rw [List.length_map]
              exact small1000 (Nat.le_trans (List.length_filterMap_le _ _) (Nat.le_trans (List.length_take_le _ _) (by omega)))
            · rw [List.take_add_one, he]
              simp
            · intro b o e
              have hb : b ≠ D := ne_of_none e hD
              rw [upd_ne hb]
              exact s3 b o (sm b o e)
          · refine ⟨_, rfl, _, _, _, _, _, rfl, rfl, TyOf.int m, T.k_tint_ttuple, _, rfl, iteF ?_⟩
            exact ⟨_, rfl, hi', by rw [List.take_add_one, he]; simp, hD', sm⟩
        · rintro zs τ H' ⟨o, rfl, _, rfl, hD', sm⟩
          rw [hlen, List.take_length] at hD'
          refine ⟨D, (qs.filterMap id).map fun e => (e.size : Int), rfl, SqL.of (by rw [List.map_map]; exact hD'), _, _, rfl, rfl, ?_⟩
          have k' := k H' (s1.trans sm)
          rw [sz] at k'
          have e2 : (if decide (V.str wd = V.str "mod") = true then (1 : Int) else 0) = (if wd = "mod" then 1 else 0) := by
            by_cases q : wd = "mod"
            · rw [if_pos q, if_pos (by rw [q]; simp)]
            · rw [if_neg q, if_neg (by simpa using q)]
          rw [← e2] at k'
          exact k'
end
end K04

/-! K06n -/
set_option Elab.async false
set_option linter.all false
set_option maxRecDepth 100000
set_option maxHeartbeats 4000000
namespace K04
open PySem L2
section
variable {P : Program} {w : World} {K : PySem.W.Frag} {mg : Str → Option Value} {base : Heap} {a : Ad}
def spFits (n : Nat) : Sp := fun vs H Q _ => ∃ (l nm : Addr) (x0 : Str) (names : List Str) (deep : Int), vs = [.ref l, .ref nm, .int deep] ∧ StAt H l ∧ H nm = some (.lst ((x0 :: names).map V.str)) ∧ nm ≠ l ∧ names.length < 100 ∧ 1 ≤ deep ∧ deep ≤ n ∧
  ∀ (e : Ex) (v : V) (H' : Hp), Told H' e v → e.ok (x0 :: names) → e.dep ≤ n → e.size ≤ 15 → StAt H' l → Ext l H H' → Q v H'
theorem ok_fits (T : Txt K mg a) (n : Nat) : FnOk P w K mg base CX0 (n + 3) a.f__law_fits a.d__law_fits ["_law_state", "_law_names", "_law_deep"] (spFits n) := by
  have c__law_expr : Callee P w K mg base "_law_expr" a.f__law_expr a.d__law_expr ["_law_state", "_law_names", "_law_deep"] (n + 2) (spExpr n) := ⟨ok_expr T n, T.g__law_expr, T.F__law_expr.kp, T.b__law_expr⟩
  have c__law_size : Callee P w K mg base "_law_size" a.f__law_size a.d__law_size ["_law_told"] (n + 1) (spSize n) := ⟨ok_size T n, T.g__law_size, T.F__law_size.kp, T.b__law_size⟩
  refine T.F__law_fits.ok sc__law_fits (fun vs H Q E h => ?_) (fun cdv A outer s H vs Q E hr h => ?_)
  · obtain ⟨l, nm, x0, names, deep, rfl, _⟩ := h
    rfl
  · obtain ⟨l, nm, x0, names, deep, rfl, hs, hnm, hne, hn, d1, d2, k⟩ := h
    refine ⟨_, (pss_cons (ps_set (i := 3) sc__law_fits.nd rfl (Or.inl rfl) (pe_c c__law_expr (hr.mono (by omega)) (pa_N (pv 0) (pa_N (pv 1) (pa_N (pv 2) pa_nil)))))
      (pss_cons (ps_if (pt_cmpR op_gt (pe_c c__law_size (hr.mono (by omega)) (pa_N (pv 3) pa_nil)) pe_int (nomark _))
        (pss_one (ps_ret (pe_tup (pa_C pe_str (pa_cons (pe_ix ix_list (pv 1) pe_int (fun _ _ => rfl)) pa_nil)))))
        pss_nil)
      (pss_one (ps_ret (pv 3))))), ?_⟩
    refine ⟨_, rfl, _, rfl, _, rfl, l, nm, x0 :: names, deep, rfl, hs, hnm, hne, (by simp), (by simp; omega), d1, d2, fun e v H1 t1 o1 dd s1 x1 => ?_⟩
    refine ⟨_, rfl, e, v, x0 :: names, rfl, t1, o1, dd, fun H2 s2 => ⟨_, _, rfl, rfl, _, rfl, ?_⟩⟩
    have hs2 := s1.same s2
    have x2 : Ext l H H2 := x1.trans (Ext.same s2)
    refine ite2 (fun q => ?_) (fun q => ?_)
    · refine ⟨_, rfl, nm, _, 0, V.str x0, rfl, rfl, SqL.of (x2 _ _ hnm hne), at0, (by show 2 ≤ sizeLine; decide), fun p hp => ?_⟩
      have := e.dep_pos
      exact k (.name x0) _ _ ⟨p, rfl, upd_same⟩ (List.mem_cons_self) (by show 1 ≤ n; omega) (by show 1 ≤ 15; decide) (hs2.new hp) (x2.trans (Ext.new hp))
    · have q' : ¬ ((e.size : Int) > 15) := fun z => q (decide_eq_true z)
      exact ⟨_, rfl, k e v H2 (t1.same s2) o1 dd (by omega) hs2 x2⟩
def spFour : Sp := fun vs H Q _ => ∃ (l : Addr), vs = [.ref l] ∧ StAt H l ∧
  ∀ (q : Addr) (v1 v2 v3 v4 : V) (e1 e2 e3 e4 : Ex) (H' : Hp), H q = none → H' q = some (.lst [v1, v2, v3, v4]) → (Told H' e1 v1 ∧ e1.ok startNs ∧ e1.dep ≤ 4 ∧ e1.size ≤ 15) → (Told H' e2 v2 ∧ e2.ok sendNs ∧ e2.dep ≤ 4 ∧ e2.size ≤ 15) → (Told H' e3 v3 ∧ e3.ok sendNs ∧ e3.dep ≤ 4 ∧ e3.size ≤ 15) → (Told H' e4 v4 ∧ e4.ok renewNs ∧ e4.dep ≤ 4 ∧ e4.size ≤ 15) →
    StAt H' l → Ext l H H' → Q (.ref q) H'
theorem ok_four (T : Txt K mg a) : FnOk P w K mg base CX0 8 a.f__law_four a.d__law_four ["_law_state"] spFour := by
  have c__law_fits : Callee P w K mg base "_law_fits" a.f__law_fits a.d__law_fits ["_law_state", "_law_names", "_law_deep"] 7 (spFits 4) := ⟨ok_fits T 4, T.g__law_fits, T.F__law_fits.kp, T.b__law_fits⟩
  refine T.F__law_four.ok sc__law_four (fun vs H Q E h => ?_) (fun cdv A outer s H vs Q E hr h => ?_)
  · obtain ⟨l, rfl, _⟩ := h
    rfl
  · obtain ⟨l, rfl, hs, k⟩ := h
    refine ⟨_, (pss_cons (ps_set (i := 1) sc__law_four.nd rfl (Or.inl rfl) (pe_lst (pa_C pe_str (pa_C pe_str pa_nil))))
      (pss_cons (ps_set (i := 2) sc__law_four.nd rfl (Or.inl rfl) (pe_lst (pa_C pe_str (pa_C pe_str (pa_C pe_str (pa_C pe_str (pa_C pe_str pa_nil)))))))
      (pss_cons (ps_set (i := 3) sc__law_four.nd rfl (Or.inl rfl) (pe_lst (pa_C pe_str (pa_C pe_str (pa_C pe_str (pa_C pe_str (pa_C pe_str (pa_C pe_str (pa_C pe_str (pa_C pe_str pa_nil))))))))))
      (pss_cons (ps_set (i := 4) sc__law_four.nd rfl (Or.inl rfl) (pe_c c__law_fits (hr.mono (by omega)) (pa_N (pv 0) (pa_N (pv 1) (pa_C pe_int pa_nil)))))
      (pss_cons (ps_set (i := 5) sc__law_four.nd rfl (Or.inl rfl) (pe_c c__law_fits (hr.mono (by omega)) (pa_N (pv 0) (pa_N (pv 2) (pa_C pe_int pa_nil)))))
      (pss_cons (ps_set (i := 6) sc__law_four.nd rfl (Or.inl rfl) (pe_c c__law_fits (hr.mono (by omega)) (pa_N (pv 0) (pa_N (pv 2) (pa_C pe_int pa_nil)))))
      (pss_one (ps_ret (pe_lst (pa_N (pv 4) (pa_N (pv 5) (pa_N (pv 6) (pa_K (pe_c c__law_fits (hr.mono (by omega)) (pa_N (pv 0) (pa_N (pv 3) (pa_C pe_int pa_nil)))) pa_nil))))))))))))), ?_⟩
    refine ⟨by show 2 ≤ sizeLine; decide, fun n1 h1 => ?_⟩
    have s1 := hs.new (o := HO.lst (startNs.map V.str)) h1
    refine ⟨by show 5 ≤ sizeLine; decide, fun n2 h2 => ?_⟩
    have s2 := s1.new (o := HO.lst (sendNs.map V.str)) h2
    refine ⟨by show 8 ≤ sizeLine; decide, fun n3 h3 => ?_⟩
    have s3 := s2.new (o := HO.lst (renewNs.map V.str)) h3
    have e1 := hs.ne h1
    have e2 := s1.ne h2
    have e3 := s2.ne h3
    have x3 : Ext l H _ := ((Ext.new (l := l) (o := HO.lst (startNs.map V.str)) h1).trans (Ext.new (o := HO.lst (sendNs.map V.str)) h2)).trans (Ext.new (o := HO.lst (renewNs.map V.str)) h3)
    have g1 := (Same.new (o := HO.lst (renewNs.map V.str)) h3) _ _ ((Same.new (o := HO.lst (sendNs.map V.str)) h2) _ _ (upd_same (H := H) (a := n1) (o := HO.lst (startNs.map V.str))))
    have g2 := (Same.new (o := HO.lst (renewNs.map V.str)) h3) _ _ (upd_same (H := upd H n1 (HO.lst (startNs.map V.str))) (a := n2) (o := HO.lst (sendNs.map V.str)))
    have g3 := upd_same (H := upd (upd H n1 (HO.lst (startNs.map V.str))) n2 (HO.lst (sendNs.map V.str))) (a := n3) (o := HO.lst (renewNs.map V.str))
    refine ⟨_, rfl, _, rfl, l, n1, "me", ["lines"], 4, rfl, s3, g1, e1, by decide, by decide, by decide, fun a1 v1 H4 t1 o1 d1 z1 s4 x4 => ?_⟩
    refine ⟨_, rfl, _, rfl, l, n2, "worth", ["me", "round", "lines", "to"], 4, rfl, s4, x4 _ _ g2 e2, e2, by decide, by decide, by decide, fun a2 v2 H5 t2 o2 d2 z2 s5 x5 => ?_⟩
    refine ⟨_, rfl, _, rfl, l, n2, "worth", ["me", "round", "lines", "to"], 4, rfl, s5, (x4.trans x5) _ _ g2 e2, e2, by decide, by decide, by decide, fun a3 v3 H6 t3 o3 d3 z3 s6 x6 => ?_⟩
    refine ⟨_, rfl, _, rfl, _, rfl, _, rfl, _, rfl, l, n3, "worth", ["me", "round", "lines", "sum", "least", "most", "count"], 4, rfl, s6, ((x4.trans x5).trans x6) _ _ g3 e3, e3, by decide, by decide, by decide, fun a4 v4 H7 t4 o4 d4 z4 s7 x7 => ?_⟩
    refine ⟨by show 4 ≤ sizeLine; decide, fun q hq => ?_⟩
    have y := Same.new (o := HO.lst [v1, v2, v3, v4]) hq
    have x37 := ((x4.trans x5).trans x6).trans x7
    have hq0 : H q = none := by
      cases e : H q with
      | none => rfl
      | some o =>
        have hql := s7.ne hq
        rw [(x3.trans x37) _ _ e hql] at hq
        cases hq
    exact k q v1 v2 v3 v4 a1 a2 a3 a4 _ hq0 upd_same ⟨(t1.ext s4 ((x5.trans x6).trans x7)).same y, o1, d1, z1⟩ ⟨(t2.ext s5 (x6.trans x7)).same y, o2, d2, z2⟩ ⟨(t3.ext s6 x7).same y, o3, d3, z3⟩ ⟨t4.same y, o4, d4, z4⟩ (s7.new hq) ((x3.trans x37).trans (Ext.new hq))
end
end K04

/-! K06r -/
set_option Elab.async false
set_option linter.all false
set_option maxRecDepth 100000
set_option maxHeartbeats 4000000
namespace K04
open PySem L2
section
variable {C : Addr} {x y z o : Str} {H : Hp} {R : Addr → Hp → Prop} {E : XK} {v u t r : V}
theorem mk1 (h : ∀ (p dx : Addr) (H' : Hp), H' p = some (.ins C dx [(x, v)]) → Same H H' → R p H') : ∀ q dx, H q = none → H dx = none → dx ≠ q → spI1 C x (.ref q :: ([v] ++ [])) (upd (upd H dx (.own q)) q (.ins C dx [])) (fun v H2 => v = .non ∧ R q H2) E :=
  fun q dx nx ndx _ => ⟨q, dx, v, rfl, upd_same, rfl, h q dx _ upd_same (Same.made nx ndx)⟩
theorem mk2 (h : ∀ (p dx : Addr) (H' : Hp), H' p = some (.ins C dx [(x, v), (y, u)]) → Same H H' → R p H') : ∀ q dx, H q = none → H dx = none → dx ≠ q → spI2 C x y (.ref q :: ([v, u] ++ [])) (upd (upd H dx (.own q)) q (.ins C dx [])) (fun v H2 => v = .non ∧ R q H2) E :=
  fun q dx nx ndx _ => ⟨q, dx, v, u, rfl, upd_same, rfl, h q dx _ upd_same (Same.made nx ndx)⟩
theorem mk3 (h : ∀ (p dx : Addr) (H' : Hp), H' p = some (.ins C dx [(x, v), (y, u), (z, t)]) → Same H H' → R p H') : ∀ q dx, H q = none → H dx = none → dx ≠ q → spI3 C x y z (.ref q :: ([v, u, t] ++ [])) (upd (upd H dx (.own q)) q (.ins C dx [])) (fun v H2 => v = .non ∧ R q H2) E :=
  fun q dx nx ndx _ => ⟨q, dx, v, u, t, rfl, upd_same, rfl, h q dx _ upd_same (Same.made nx ndx)⟩
theorem mk4 (h : ∀ (p dx : Addr) (H' : Hp), H' p = some (.ins C dx [(x, v), (y, u), (z, t), (o, r)]) → Same H H' → R p H') : ∀ q dx, H q = none → H dx = none → dx ≠ q → spI4 C x y z o (.ref q :: ([v, u, t, r] ++ [])) (upd (upd H dx (.own q)) q (.ins C dx [])) (fun v H2 => v = .non ∧ R q H2) E :=
  fun q dx nx ndx _ => ⟨q, dx, v, u, t, r, rfl, upd_same, rfl, h q dx _ upd_same (Same.made nx ndx)⟩
end
theorem pickV {xs : List V} {d : Int} (h0 : 0 ≤ d) (h1 : d < xs.length) : ∃ v, atI xs d = some v ∧ v ∈ xs := by
  obtain ⟨n, rfl⟩ : ∃ n : Nat, d = n := ⟨d.toNat, by omega⟩
  have hn : n < xs.length := by omega
  exact ⟨xs[n], atI_nat (by simp [hn]), List.getElem_mem hn⟩
def nmO : Nat → List Str
  | 0 => startNs
  | 1 => sendNs
  | 2 => sendNs
  | _ => renewNs
def Bad (at_ : Nat) (g : Gx) : Prop := (∀ n, n ≤ 8 → g.sound (nmO at_) n = false) ∨ ∃ e : Ex, g = e.gx ∧ 60 < e.size
theorem Bad.two1 {at_ : Nat} {g : Gx} (h : Bad at_ g) (w : Str) (f : Ex) : Bad at_ (.two (.str w) g f.gx) := by
  rcases h with h | ⟨e, rfl, z⟩
  · refine .inl fun n hn => ?_
    cases n with
    | zero => rfl
    | succ n =>
      show (wordIn twoWs (.str w) && ([g, f.gx].all (Gx.sound (nmO at_) n))) = false
      rw [List.all_cons, h n (by omega), Bool.false_and, Bool.and_false]
  · exact .inr ⟨.two w e f, rfl, by show 60 < 1 + e.size + f.size; omega⟩
theorem Bad.two2 {at_ : Nat} {g : Gx} (h : Bad at_ g) (w : Str) (f : Ex) : Bad at_ (.two (.str w) f.gx g) := by
  rcases h with h | ⟨e, rfl, z⟩
  · refine .inl fun n hn => ?_
    cases n with
    | zero => rfl
    | succ n =>
      show (wordIn twoWs (.str w) && ([f.gx, g].all (Gx.sound (nmO at_) n))) = false
      rw [List.all_cons, List.all_cons, h n (by omega), Bool.false_and, Bool.and_false, Bool.and_false]
  · exact .inr ⟨.two w f e, rfl, by show 60 < 1 + f.size + e.size; omega⟩
theorem Bad.mod {at_ : Nat} {g : Gx} (h : Bad at_ g) (i : Int) : Bad at_ (.mod g (.int i)) := by
  rcases h with h | ⟨e, rfl, z⟩
  · refine .inl fun n hn => ?_
    cases n with
    | zero => rfl
    | succ n =>
      show (divr (.int i) && Gx.sound (nmO at_) n g) = false
      rw [h n (by omega), Bool.and_false]
  · exact .inr ⟨.mod e i, rfl, by show 60 < 2 + e.size; omega⟩
theorem Bad.less1 {at_ : Nat} {g : Gx} (h : Bad at_ g) (e2 e3 e4 : Ex) : Bad at_ (.less g e2.gx e3.gx e4.gx) := by
  rcases h with h | ⟨e, rfl, z⟩
  · refine .inl fun n hn => ?_
    cases n with
    | zero => rfl
    | succ n =>
      show [g, e2.gx, e3.gx, e4.gx].all (Gx.sound (nmO at_) n) = false
      rw [List.all_cons, h n (by omega), Bool.false_and]
  · exact .inr ⟨.less e e2 e3 e4, rfl, by show 60 < 1 + e.size + e2.size + e3.size + e4.size; omega⟩
theorem Bad.less3 {at_ : Nat} {g : Gx} (h : Bad at_ g) (e1 e2 e4 : Ex) : Bad at_ (.less e1.gx e2.gx g e4.gx) := by
  rcases h with h | ⟨e, rfl, z⟩
  · refine .inl fun n hn => ?_
    cases n with
    | zero => rfl
    | succ n =>
      show [e1.gx, e2.gx, g, e4.gx].all (Gx.sound (nmO at_) n) = false
      rw [List.all_cons, List.all_cons, List.all_cons, h n (by omega), Bool.false_and, Bool.and_false, Bool.and_false]
  · exact .inr ⟨.less e1 e2 e e4, rfl, by show 60 < 1 + e1.size + e2.size + e.size + e4.size; omega⟩
theorem Bad.less4 {at_ : Nat} {g : Gx} (h : Bad at_ g) (e1 e2 e3 : Ex) : Bad at_ (.less e1.gx e2.gx e3.gx g) := by
  rcases h with h | ⟨e, rfl, z⟩
  · refine .inl fun n hn => ?_
    cases n with
    | zero => rfl
    | succ n =>
      show [e1.gx, e2.gx, e3.gx, g].all (Gx.sound (nmO at_) n) = false
      rw [List.all_cons, List.all_cons, List.all_cons, List.all_cons, h n (by omega), Bool.false_and, Bool.and_false, Bool.and_false, Bool.and_false]
  · exact .inr ⟨.less e1 e2 e3 e, rfl, by show 60 < 1 + e1.size + e2.size + e3.size + e.size; omega⟩
theorem Bad.not1 {g : Gx} (h : Bad 0 g) {g2 g3 g4 : Gx} : ¬ Good4 g g2 g3 g4 := by
  rintro ⟨e1, e2, e3, e4, ⟨rfl, _⟩, ⟨o, _⟩, ⟨d, _⟩, z⟩
  rcases h with h | ⟨e, he, z'⟩
  · have := h 8 (by decide)
    rw [show nmO 0 = startNs from rfl, Ex.sound o d] at this
    cases this
  · cases Ex.gx_inj he
    omega
theorem Bad.not2 {g : Gx} (h : Bad 1 g) {g1 g3 g4 : Gx} : ¬ Good4 g1 g g3 g4 := by
  rintro ⟨e1, e2, e3, e4, ⟨_, rfl, _⟩, ⟨_, o, _⟩, ⟨_, d, _⟩, z⟩
  rcases h with h | ⟨e, he, z'⟩
  · have := h 8 (by decide)
    rw [show nmO 1 = sendNs from rfl, Ex.sound o d] at this
    cases this
  · cases Ex.gx_inj he
    omega
theorem Bad.not3 {g : Gx} (h : Bad 2 g) {g1 g2 g4 : Gx} : ¬ Good4 g1 g2 g g4 := by
  rintro ⟨e1, e2, e3, e4, ⟨_, _, rfl, _⟩, ⟨_, _, o, _⟩, ⟨_, _, d, _⟩, z⟩
  rcases h with h | ⟨e, he, z'⟩
  · have := h 8 (by decide)
    rw [show nmO 2 = sendNs from rfl, Ex.sound o d] at this
    cases this
  · cases Ex.gx_inj he
    omega
theorem Bad.not4 {g : Gx} (h : Bad 3 g) {g1 g2 g3 : Gx} : ¬ Good4 g1 g2 g3 g := by
  rintro ⟨e1, e2, e3, e4, ⟨_, _, _, rfl⟩, ⟨_, _, _, o⟩, ⟨_, _, _, d⟩, z⟩
  rcases h with h | ⟨e, he, z'⟩
  · have := h 8 (by decide)
    rw [show nmO 3 = renewNs from rfl, Ex.sound o d] at this
    cases this
  · cases Ex.gx_inj he
    omega
section
variable {P : Program} {w : World} {K : PySem.W.Frag} {mg : Str → Option Value} {base : Heap} {a : Ad}
theorem gNum (T : Txt K mg a) {H : Hp} {p dx : Addr} (i : Int) (h : H p = some (.ins a.c_Num dx [("value", .int i)])) : GMade K a H (Ex.num i).gx (.ref p) := ⟨p, dx, rfl, h, lf_int T i⟩
def spWithin (K : PySem.W.Frag) (a : Ad) : Sp := fun vs H Q _ => ∃ (r : V) (i : Int) (at_ : Nat) (g : Gx), vs = [r, .int i] ∧ GMade K a H g r ∧ Bad at_ g ∧ ∀ (g' : Gx) (r' : V) (H' : Hp), GMade K a H' g' r' → Bad at_ g' → Same H H' → Q r' H'
theorem ok_within (T : Txt K mg a) : FnOk P w K mg base CX0 3 a.f__law_within a.d__law_within ["_law_odd_here", "_law_way"] (spWithin K a) := by
  have m_Num : Maker P w K mg base "Num" a.c_Num a.f_Num___init__ a.d_Num___init__ ["self", "value"] 1 (spI1 a.c_Num "value") := ⟨ok_Num_init T, T.g_Num, T.mk_Num, T.b_Num___init__⟩
  have m_Two : Maker P w K mg base "Two" a.c_Two a.f_Two___init__ a.d_Two___init__ ["self", "word", "one", "other"] 1 (spI3 a.c_Two "word" "one" "other") := ⟨ok_Two_init T, T.g_Two, T.mk_Two, T.b_Two___init__⟩
  have m_Mod : Maker P w K mg base "Mod" a.c_Mod a.f_Mod___init__ a.d_Mod___init__ ["self", "inner", "number"] 1 (spI2 a.c_Mod "inner" "number") := ⟨ok_Mod_init T, T.g_Mod, T.mk_Mod, T.b_Mod___init__⟩
  have m_Less : Maker P w K mg base "Less" a.c_Less a.f_Less___init__ a.d_Less___init__ ["self", "one", "other", "third", "fourth"] 1 (spI4 a.c_Less "one" "other" "third" "fourth") := ⟨ok_Less_init T, T.g_Less, T.mk_Less, T.b_Less___init__⟩
  refine T.F__law_within.ok sc__law_within (fun vs H Q E h => ?_) (fun cdv A outer s H vs Q E hr h => ?_)
  · obtain ⟨r, i, at_, g, rfl, _⟩ := h
    rfl
  · obtain ⟨r, i, at_, g, rfl, hg, hb, k⟩ := h
    refine ⟨_, (pss_cons (ps_if (pt_cmpR op_eq (pv 1) pe_int (nomark _))
        (pss_one (ps_ret (pe_m m_Two (hr.mono (by omega)) (pa_C pe_str (pa_K (pe_m m_Num (hr.mono (by omega)) (pa_C pe_int pa_nil)) (pa_K (pe_m m_Two (hr.mono (by omega)) (pa_C pe_str (pa_N (pv 0) (pa_K (pe_m m_Num (hr.mono (by omega)) (pa_C pe_int pa_nil)) pa_nil)))) pa_nil))))))
        pss_nil)
      (pss_cons (ps_if (pt_cmpR op_eq (pv 1) pe_int (nomark _))
        (pss_one (ps_ret (pe_m m_Less (hr.mono (by omega)) (pa_K (pe_m m_Num (hr.mono (by omega)) (pa_C pe_int pa_nil)) (pa_K (pe_m m_Num (hr.mono (by omega)) (pa_C pe_int pa_nil)) (pa_N (pv 0) (pa_K (pe_m m_Num (hr.mono (by omega)) (pa_C pe_int pa_nil)) pa_nil)))))))
        pss_nil)
      (pss_cons (ps_if (pt_cmpR op_eq (pv 1) pe_int (nomark _))
        (pss_one (ps_ret (pe_m m_Mod (hr.mono (by omega)) (pa_K (pe_m m_Less (hr.mono (by omega)) (pa_K (pe_m m_Num (hr.mono (by omega)) (pa_C pe_int pa_nil)) (pa_K (pe_m m_Num (hr.mono (by omega)) (pa_C pe_int pa_nil)) (pa_K (pe_m m_Num (hr.mono (by omega)) (pa_C pe_int pa_nil)) (pa_N (pv 0) pa_nil))))) (pa_C pe_int pa_nil)))))
        pss_nil)
      (pss_one (ps_ret (pv 0)))))), ?_⟩
    refine ⟨_, rfl, rfl, _, rfl, ?_⟩
    refine ite2 (fun _ => ?_) (fun _ => ?_)
    · refine mk1 fun p1 d1 H1 h1 s1 => ?_
      refine ⟨_, rfl, mk1 fun p2 d2 H2 h2 s2 => ?_⟩
      refine mk3 fun p3 d3 H3 h3 s3 => ?_
      refine mk3 fun p4 d4 H4 h4 s4 => ?_
      have t3 := s3.trans s4
      have t2 := s2.trans t3
      refine k _ _ _ ?_ ((hb.two1 "sub" (.num 2)).two2 "max" (.num 3)) (s1.trans t2)
      exact ⟨p4, d4, _, _, rfl, h4, lf_str T _, gNum T 3 (t2 _ _ h1), ⟨p3, d3, _, _, rfl, s4 _ _ h3, lf_str T _, hg.same (s1.trans t2), gNum T 2 (t3 _ _ h2)⟩⟩
    refine ⟨_, rfl, rfl, _, rfl, ?_⟩
    refine ite2 (fun _ => ?_) (fun _ => ?_)
    · refine mk1 fun p1 d1 H1 h1 s1 => ?_
      refine mk1 fun p2 d2 H2 h2 s2 => ?_
      refine ⟨_, rfl, mk1 fun p3 d3 H3 h3 s3 => ?_⟩
      refine mk4 fun p4 d4 H4 h4 s4 => ?_
      have t3 := s3.trans s4
      have t2 := s2.trans t3
      refine k _ _ _ ?_ (hb.less3 (.num 3) (.num 4) (.num 2)) (s1.trans t2)
      exact ⟨p4, d4, _, _, _, _, rfl, h4, gNum T 3 (t2 _ _ h1), gNum T 4 (t3 _ _ h2), hg.same (s1.trans t2), gNum T 2 (s4 _ _ h3)⟩
    refine ⟨_, rfl, rfl, _, rfl, ?_⟩
    refine ite2 (fun _ => ?_) (fun _ => ?_)
    · refine mk1 fun p1 d1 H1 h1 s1 => ?_
      refine mk1 fun p2 d2 H2 h2 s2 => ?_
      refine mk1 fun p3 d3 H3 h3 s3 => ?_
      refine ⟨_, rfl, mk4 fun p4 d4 H4 h4 s4 => ?_⟩
      refine mk2 fun p5 d5 H5 h5 s5 => ?_
      have t4 := s4.trans s5
      have t3 := s3.trans t4
      have t2 := s2.trans t3
      refine k _ _ _ ?_ ((hb.less4 (.num 3) (.num 4) (.num 1)).mod 5) (s1.trans t2)
      exact ⟨p5, d5, _, rfl, h5, lf_int T _, ⟨p4, d4, _, _, _, _, rfl, s5 _ _ h4, gNum T 3 (t2 _ _ h1), gNum T 4 (t3 _ _ h2), gNum T 1 (t4 _ _ h3), hg.same (s1.trans t2)⟩⟩
    · exact ⟨_, rfl, k g r H hg hb (Same.refl H)⟩
def spRef (K : PySem.W.Frag) (a : Ad) : Sp := fun vs H Q _ => ∃ (l : Addr) (r1 r2 r3 r4 : V) (g1 g2 g3 g4 : Gx), vs = [.ref l] ∧ H l = some (.lst [r1, r2, r3, r4]) ∧ (GMade K a H g1 r1 ∧ GMade K a H g2 r2 ∧ GMade K a H g3 r3 ∧ GMade K a H g4 r4) ∧
  (Good4 g1 g2 g3 g4 → ∀ H', Same H H' → Q (.bl false) H') ∧ (¬ Good4 g1 g2 g3 g4 → ∀ H', Same H H' → Q (.bl true) H')
theorem ok_ref (T : Txt K mg a) : FnOk P w K mg base CX0 24 a.f__law_refused a.d__law_refused ["_law_exprs"] (spRef K a) := by
  have mx_Program : Maker1 P w K mg base "Program" a.c_Program a.f_Program___init__ a.d_Program___init__ ["self", "start", "send", "when", "renew"] 22 (spProg1 K a) := ⟨ok_prog1 T, T.g_Program, T.mk_Program, T.b_Program___init__⟩
  refine T.F__law_refused.ok sc__law_refused (fun vs H Q E h => ?_) (fun cdv A outer s H vs Q E hr h => ?_)
  · obtain ⟨l, r1, r2, r3, r4, g1, g2, g3, g4, rfl, _⟩ := h
    rfl
  · obtain ⟨l, r1, r2, r3, r4, g1, g2, g3, g4, rfl, hl, ⟨m1, m2, m3, m4⟩, k, kx⟩ := h
    refine ⟨_, (pss_cons (ps_set (i := 1) sc__law_refused.nd rfl (Or.inl rfl) (pe_lst (pa_C pe_bl pa_nil)))
      (pss_cut (ps_tryAs (i := 2) rfl rfl sc__law_refused.nd rfl rfl T.xc_NoProgram T.g_NoProgram (px_expr (pv_m mx_Program (hr.mono (by omega)) (pa_cons (pe_ix ix_list (pv 0) pe_int (fun _ _ => rfl)) (pa_cons (pe_ix ix_list (pv 0) pe_int (fun _ _ => rfl)) (pa_cons (pe_ix ix_list (pv 0) pe_int (fun _ _ => rfl)) (pa_cons (pe_ix ix_list (pv 0) pe_int (fun _ _ => rfl)) pa_nil)))))) (fun _ => (pss_cons (ps_set (i := 1) sc__law_refused.nd rfl (Or.inl rfl) (pe_lst (pa_K (pe_callB (call_isiK (K := K) rfl) (by rfl) T.n_isinstance bt_isinstance (pa_N (pv 2) (pa_N (pe_cls T.g_NoWeb) pa_nil))) (pa_K (pe_callB (call_isiK (K := K) rfl) (by rfl) T.n_isinstance bt_isinstance (pa_N (pv 2) (pa_N (pe_cls T.g_NoHand) pa_nil))) (pa_K (pe_callB (call_isiK (K := K) rfl) (by rfl) T.n_isinstance bt_isinstance (pa_N (pv 2) (pa_N (pe_cls T.g_NoText) pa_nil))) (pa_K (pe_callB (call_isiK (K := K) rfl) (by rfl) T.n_isinstance bt_isinstance (pa_N (pv 2) (pa_N (pe_cls T.g_NoWay) pa_nil))) pa_nil))))))
        (pss_one (ps_set (i := 1) sc__law_refused.nd rfl (Or.inl rfl) (pe_op op_cat (pv 1) (pe_lst (pa_K (pe_callB (call_isiK (K := K) rfl) (by rfl) T.n_isinstance bt_isinstance (pa_N (pv 2) (pa_N (pe_cls T.g_NoRound) pa_nil))) (pa_U (pe_not (pe_callB (call_isiK (K := K) rfl) (by rfl) T.n_isinstance bt_isinstance (pa_N (pv 2) (pa_N (pe_cls T.g_BeatlessError) pa_nil)))) (pa_U (pe_not (pe_callB (call_isiK (K := K) rfl) (by rfl) T.n_isinstance bt_isinstance (pa_N (pv 2) (pa_N (pe_bty T.n_ValueError bt_ValueError) pa_nil)))) pa_nil))))))))))
      (pss_one (ps_ret (pe_not (pe_callB (call_anyB rfl) (by rfl) T.n_any bt_any (pa_N (pv 1) pa_nil))))))), ?_⟩
    refine ⟨by show 1 ≤ sizeLine; decide, fun p hp => ?_⟩
    have y := Same.new (o := HO.lst [V.bl true]) hp
    refine ⟨fun σ' H' => ∃ (q : Addr) (bs : List Bool) (o2 : Option V), σ' = [some (.ref l), some (.ref q), o2] ∧ H' q = some (.lst (bs.map V.bl)) ∧ Q (.bl (!(bs.any id))) H', ?_, ?_⟩
    · refine ⟨_, rfl, l, _, 0, _, rfl, rfl, SqL.of (y _ _ hl), rfl, _, rfl, l, _, 1, _, rfl, rfl, SqL.of (y _ _ hl), rfl, _, rfl, l, _, 2, _, rfl, rfl, SqL.of (y _ _ hl), rfl, _, rfl, l, _, 3, _, rfl, rfl, SqL.of (y _ _ hl), rfl, fun x dx nx ndx nex => ?_⟩
      have sN : Same _ (upd (upd (upd H p (HO.lst [V.bl true])) dx (.own x)) x (.ins a.c_Program dx [])) := fun b o e => by
        rw [upd_ne (ne_of_none e nx), upd_ne (ne_of_none e ndx)]
        exact e
      have sM := y.trans sN
      refine ⟨x, dx, r1, r2, r3, r4, g1, g2, g3, g4, rfl, upd_same, ⟨m1.same sM, m2.same sM, m3.same sM, m4.same sM⟩, fun hg H' s' => ⟨rfl, ?_⟩, fun hg H' s' => ⟨rfl, fun ax hax => ?_⟩⟩
      · refine ⟨p, [true], none, rfl, ?_, k hg _ fun b o e => ?_⟩
        · rw [upd_ne (ne_of_none upd_same nx)]
          exact s' _ _ (sN _ _ upd_same)
        · rw [upd_ne (ne_of_none (y _ _ e) nx)]
          exact (sM.trans s') b o e
      · have hX : upd H' ax (.ext (ObC ax a.c_NoProgram)) ax = some (.ext (ObC ax a.c_NoProgram)) := upd_same
        have sX := Same.new (o := HO.ext (ObC ax a.c_NoProgram)) hax
        refine ⟨_, rfl, ax, a.c_NoProgram, _, _, _, rfl, rfl, hX, T.xi_NoProgram, T.k_NoProgram_NoWeb, _, rfl, ax, a.c_NoProgram, _, _, _, rfl, rfl, hX, T.xi_NoProgram, T.k_NoProgram_NoHand, _, rfl, ax, a.c_NoProgram, _, _, _, rfl, rfl, hX, T.xi_NoProgram, T.k_NoProgram_NoText, _, rfl, ax, a.c_NoProgram, _, _, _, rfl, rfl, hX, T.xi_NoProgram, T.k_NoProgram_NoWay, (by show 4 ≤ sizeLine; decide), fun p1 hp1 => ?_⟩
        have y1 := Same.new (o := HO.lst [V.bl false, V.bl false, V.bl false, V.bl false]) hp1
        refine ⟨_, rfl, _, rfl, ax, a.c_NoProgram, _, _, _, rfl, rfl, y1 _ _ hX, T.xi_NoProgram, T.k_NoProgram_NoRound, _, rfl, ax, a.c_NoProgram, _, _, _, rfl, rfl, y1 _ _ hX, T.xi_NoProgram, T.k_NoProgram_BeatlessError, _, rfl, _, rfl, ax, a.c_NoProgram, _, _, _, rfl, rfl, y1 _ _ hX, T.xi_NoProgram, T.k_NoProgram_tValueError, _, rfl, (by show 3 ≤ sizeLine; decide), fun p2 hp2 => ?_⟩
        have y2 := Same.new (o := HO.lst [V.bl false, V.bl (!true), V.bl (!true)]) hp2
        refine ⟨p1, p2, _, _, rfl, rfl, y2 _ _ upd_same, upd_same, (by show 4 + 3 ≤ sizeLine; decide), fun p3 hp3 => ?_⟩
        refine ⟨p3, [false, false, false, false, false, false, false], none, rfl, upd_same, ?_⟩
        exact kx hg _ ((((sM.trans s').trans sX).trans y1).trans (y2.trans (Same.new hp3)))
    · rintro σ' H' ⟨q, bs, o2, rfl, hq, kq⟩
      exact ⟨_, rfl, q, bs, rfl, SqL.of hq, _, rfl, kq⟩
end
end K04

/-! K06o -/
set_option Elab.async false
set_option linter.all false
set_option maxRecDepth 100000
set_option maxHeartbeats 4000000
namespace K04
open PySem L2
theorem bad_num {at_ : Nat} {v : V} (h : shortN v = false) : Bad at_ (.num v) := .inl fun n _ => by
  cases n with
  | zero => rfl
  | succ n => exact h
theorem bad_name {at_ : Nat} {v : V} (h : wordIn (nmO at_) v = false) : Bad at_ (.name v) := .inl fun n _ => by
  cases n with
  | zero => rfl
  | succ n => exact h
theorem bad_two {at_ : Nat} {v : V} {e f : Gx} (h : wordIn twoWs v = false) : Bad at_ (.two v e f) := .inl fun n _ => by
  cases n with
  | zero => rfl
  | succ n =>
    show (wordIn twoWs v && _) = false
    rw [h, Bool.false_and]
theorem bad_mod {at_ : Nat} {v : V} {e : Gx} (h : divr v = false) : Bad at_ (.mod e v) := .inl fun n _ => by
  cases n with
  | zero => rfl
  | succ n =>
    show (divr v && _) = false
    rw [h, Bool.false_and]
theorem bad_oth {at_ : Nat} {v : V} : Bad at_ (.oth v) := .inl fun n _ => by cases n <;> rfl
theorem bad_deep {at_ : Nat} {e : Ex} (h : 8 < e.dep) : Bad at_ e.gx := .inl fun n hn => by
  cases q : e.gx.sound (nmO at_) n with
  | false => rfl
  | true =>
    obtain ⟨f, h1, _, h2⟩ := Gx.of_sound q
    cases Ex.gx_inj h1
    omega
theorem wordIn_no {ws : List Str} {x : Str} (h : ws.contains x = false) : wordIn ws (.str x) = false := by
  cases q : wordIn ws (.str x) with
  | false => rfl
  | true =>
    have : x ∈ ws := inV_str.mp q
    rw [← List.contains_iff_mem, h] at this
    cases this
theorem nm_no {x : Str} (h1 : startNs.contains x = false) (h2 : sendNs.contains x = false) (h3 : renewNs.contains x = false) : ∀ at_ : Nat, wordIn (nmO at_) (.str x) = false
  | 0 => wordIn_no h1
  | 1 => wordIn_no h2
  | 2 => wordIn_no h2
  | _ + 3 => wordIn_no h3
theorem TyOf.updL {K : PySem.W.Frag} {H : Hp} {D : Addr} {zs zs' : List V} {v : V} {t : Value} (hD : H D = some (.lst zs)) (h : TyOf K H v t) : TyOf K (upd H D (.lst zs')) v t := by
  cases h with
  | non => exact .non
  | bl x => exact .bl x
  | int i => exact .int i
  | str x => exact .str x
  | flt x => exact .flt x
  | @lst a xs e =>
    by_cases q : a = D
    · subst q
      exact .lst upd_same
    · exact .lst (by rw [upd_ne q]; exact e)
  | frz e => exact .frz (by rw [upd_ne (ne_of e hD (by intro z; cases z))]; exact e)
  | tup e => exact .tup (by rw [upd_ne (ne_of e hD (by intro z; cases z))]; exact e)
  | dK e => exact .dK (by rw [upd_ne (ne_of e hD (by intro z; cases z))]; exact e)
  | dT e => exact .dT (by rw [upd_ne (ne_of e hD (by intro z; cases z))]; exact e)
  | ins e cl ha hn htk hm => exact .ins (by rw [upd_ne (ne_of e hD (by intro z; cases z))]; exact e) cl ha hn htk hm
theorem Lf.updL {K : PySem.W.Frag} {H : Hp} {D : Addr} {zs zs' : List V} {v : V} (hD : H D = some (.lst zs)) (h : Lf K H v) : Lf K (upd H D (.lst zs')) v := by
  obtain ⟨t, ty, k⟩ := h
  exact ⟨t, TyOf.updL hD ty, k⟩
section
variable {P : Program} {w : World} {K : PySem.W.Frag} {mg : Str → Option Value} {base : Heap} {a : Ad}
theorem GMade.updL {H : Hp} {D : Addr} {zs zs' : List V} (hD : H D = some (.lst zs)) : ∀ {g : Gx} {r : V}, GMade K a H g r → GMade K a (upd H D (.lst zs')) g r := by
  have k : ∀ {b C dx : Addr} {fs : List (Str × V)}, H b = some (.ins C dx fs) → upd H D (.lst zs') b = some (.ins C dx fs) := fun e => by
    rw [upd_ne (ne_of e hD (by intro z; cases z))]
    exact e
  intro g
  induction g with
  | num v => exact fun ⟨p, dx, e, h, l⟩ => ⟨p, dx, e, k h, l.updL hD⟩
  | name v => exact fun ⟨p, dx, e, h, l⟩ => ⟨p, dx, e, k h, l.updL hD⟩
  | two wd e f i1 i2 => exact fun ⟨p, dx, u1, u2, e, h, l, t1, t2⟩ => ⟨p, dx, u1, u2, e, k h, l.updL hD, i1 t1, i2 t2⟩
  | mod e v i1 => exact fun ⟨p, dx, u1, e, h, l, t1⟩ => ⟨p, dx, u1, e, k h, l.updL hD, i1 t1⟩
  | less _ _ _ _ i1 i2 i3 i4 => exact fun ⟨p, dx, u1, u2, u3, u4, e, h, t1, t2, t3, t4⟩ => ⟨p, dx, u1, u2, u3, u4, e, k h, i1 t1, i2 t2, i3 t3, i4 t4⟩
  | oth v => exact fun ⟨e, t, ty, q⟩ => ⟨e, t, TyOf.updL hD ty, q⟩
def Menu (K : PySem.W.Frag) (a : Ad) (at_ : Nat) (H : Hp) (rs : List V) : Prop := ∀ r ∈ rs, ∃ g, GMade K a H g r ∧ Bad at_ g
theorem Menu.same {at_ : Nat} {H H' : Hp} {rs : List V} (h : Menu K a at_ H rs) (s : Same H H') : Menu K a at_ H' rs := fun r hr => by
  obtain ⟨g, m, b⟩ := h r hr
  exact ⟨g, m.same s, b⟩
theorem Menu.updL {at_ : Nat} {H : Hp} {D : Addr} {zs zs' : List V} {rs : List V} (h : Menu K a at_ H rs) (hD : H D = some (.lst zs)) : Menu K a at_ (upd H D (.lst zs')) rs := fun r hr => by
  obtain ⟨g, m, b⟩ := h r hr
  exact ⟨g, m.updL hD, b⟩
theorem Menu.app {at_ : Nat} {H : Hp} {rs ss : List V} (h1 : Menu K a at_ H rs) (h2 : Menu K a at_ H ss) : Menu K a at_ H (rs ++ ss) := fun r hr => (List.mem_append.mp hr).elim (h1 r) (h2 r)
theorem Menu.one {at_ : Nat} {H : Hp} {r : V} {g : Gx} (m : GMade K a H g r) (b : Bad at_ g) : Menu K a at_ H [r] := fun r' hr => by rw [List.mem_singleton.mp hr]; exact ⟨g, m, b⟩
def OddAt (K : PySem.W.Frag) (a : Ad) (at_ : Nat) (H : Hp) (k : Nat) (D : Addr) (H' : Hp) : Prop := ∃ rs, H' D = some (.lst rs) ∧ 0 < rs.length ∧ rs.length ≤ k ∧ Menu K a at_ H' rs ∧ H D = none ∧ Same H H'
theorem OddAt.same {at_ k : Nat} {H H1 H2 : Hp} {D : Addr} (h : OddAt K a at_ H k D H1) (s : Same H1 H2) : OddAt K a at_ H k D H2 := by
  obtain ⟨rs, h1, h2, h3, h4, h5, h6⟩ := h
  exact ⟨rs, s _ _ h1, h2, h3, h4.same s, h5, h6.trans s⟩
theorem OddAt.push {at_ k : Nat} {H H1 H2 : Hp} {D : Addr} {rs : List V} {g : Gx} {r : V} (hrs : H1 D = some (.lst rs)) (h : OddAt K a at_ H k D H1) (s : Same H1 H2) (m : GMade K a H2 g r) (b : Bad at_ g) : OddAt K a at_ H (k + 1) D (upd H2 D (.lst (rs ++ [r]))) := by
  obtain ⟨rs', h1, h2, h3, h4, h5, h6⟩ := h
  rw [hrs] at h1
  cases h1
  refine ⟨rs ++ [r], upd_same, by simp, by simp; omega, (Menu.app (h4.same s) (Menu.one m b)).updL (s _ _ hrs), h5, fun c o e => ?_⟩
  rw [upd_ne (ne_of_none e h5)]
  exact (h6.trans s) c o e
theorem OddAt.cat {at_ k : Nat} {H H1 H2 : Hp} {D p : Addr} {rs ss : List V} (hrs : H1 D = some (.lst rs)) (h : OddAt K a at_ H k D H1) (s : Same H1 H2) (m : Menu K a at_ H2 ss) (hp : H2 p = none) : OddAt K a at_ H (k + ss.length) p (upd H2 p (.lst (rs ++ ss))) := by
  obtain ⟨rs', h1, h2, h3, h4, h5, h6⟩ := h
  rw [hrs] at h1
  cases h1
  have y := Same.new (o := HO.lst (rs ++ ss)) hp
  refine ⟨rs ++ ss, upd_same, by simp; omega, by simp; omega, (Menu.app (h4.same s) m).same y, ?_, (h6.trans s).trans y⟩
  cases e : H p with
  | none => rfl
  | some o => cases ((h6.trans s) _ _ e).symm.trans hp
theorem lf_non (T : Txt K mg a) {H : Hp} : Lf K H .non := ⟨_, .non, T.k_tNoneType_tint, T.k_tNoneType_tbool, T.k_tNoneType_tstr⟩
theorem lf_bl (T : Txt K mg a) {H : Hp} (b : Bool) : Lf K H (.bl b) := ⟨_, .bl b, T.k_tbool_tint, T.k_tbool_tbool, T.k_tbool_tstr⟩
theorem lf_tup (T : Txt K mg a) {H : Hp} {p : Addr} {xs : List V} (h : H p = some (.tup xs)) : Lf K H (.ref p) := ⟨_, .tup h, T.k_ttuple_tint, T.k_ttuple_tbool, T.k_ttuple_tstr⟩
theorem lf_Num (T : Txt K mg a) {H : Hp} {p dx : Addr} {fs : List (Str × V)} (h : H p = some (.ins a.c_Num dx fs)) : Lf K H (.ref p) := ⟨_, T.ty_Num H p dx fs h, T.k_Num_tint, T.k_Num_tbool, T.k_Num_tstr⟩
theorem compMk1 {C q D : Addr} {x : Str} {xs : List V} {H : Hp} {Q : VK} {at_ : Nat} (mkG : V → Gx) (hC : ∀ (H' : Hp) (p dx : Addr) (v : V), H' p = some (.ins C dx [(x, v)]) → Lf K H' v → GMade K a H' (mkG v) (.ref p))
    (hq : H q = some (.lst xs)) (hD : H D = none) (hlen : xs.length ≤ 100) (hlf : ∀ v ∈ xs, Lf K H v) (hb : ∀ v ∈ xs, Bad at_ (mkG v))
    (k : ∀ rs H', H' D = some (.lst rs) → rs.length = xs.length → Menu K a at_ H' rs → Same H H' → Q (.ref D) H') :
    CompR (Itl K q) (gName 0) tYes (tMake C (spI1 C x) [] E0 (tCons (tVar 0) tNil)) Q D [none] (upd H D (.lst [])) := by
  refine comp_list (K := K) (a := q) (xs := xs) (fun j rs τ H' => ∃ o, τ = [o] ∧ rs.length = j ∧ H' D = some (.lst rs) ∧ Same H H' ∧ Menu K a at_ H' rs) ?_ ?_ ?_ ?_
  · exact ⟨none, rfl, rfl, upd_same, Same.new hD, fun r hr => by cases hr⟩
  · rintro j rs τ H' ⟨o, _, _, _, sm, _⟩
    exact SqL.of (sm _ _ hq)
  · rintro j v rs τ H' hj ⟨o, rfl, hl, hD', sm, hm⟩
    have hv := List.mem_of_getElem? hj
    have hj' : j < xs.length := (List.getElem?_eq_some_iff.mp hj).1
    refine gn_if ?_
    refine ⟨_, rfl, mk1 fun p dp H'' hp sp => ?_⟩
    have hD'' := sp _ _ hD'
    refine ⟨hD'', small1000 (by omega), some v, rfl, by simp [hl], upd_same, fun b o e => ?_, ?_⟩
    · rw [upd_ne (ne_of_none e hD)]
      exact (sm.trans sp) b o e
    · exact (Menu.app (hm.same sp) (Menu.one (hC _ _ _ _ hp ((hlf v hv).same (sm.trans sp))) (hb v hv))).updL hD''
  · rintro rs τ H' ⟨o, _, hl, hD', sm, hm⟩
    exact k rs H' hD' hl hm sm
end
end K04

/-! K06p -/
set_option Elab.async false
set_option linter.all false
set_option maxRecDepth 100000
set_option maxHeartbeats 8000000
namespace K04
open PySem L2
theorem and2 {c : Bool} {A B : Prop} (h1 : c = false → B) (h2 : c = true → A) : if c = true then A else B := by
  cases c with
  | true => exact iteT (h2 rfl)
  | false => exact iteF (h1 rfl)
theorem free_of {H H' : Hp} {D : Addr} (s : Same H H') (h : H' D = none) : H D = none := by
  cases e : H D with
  | none => rfl
  | some o => cases (s _ _ e).symm.trans h
theorem szL {n : Nat} (h : n ≤ 1000) : n ≤ sizeLine := Nat.le_of_lt (small1000 h)
theorem OddAt.le {K : PySem.W.Frag} {a : Ad} {at_ k l : Nat} {H H' : Hp} {D : Addr} (h : OddAt K a at_ H k D H') (hk : k ≤ l) : OddAt K a at_ H l D H' := by
  obtain ⟨rs, h1, h2, h3, h4⟩ := h
  exact ⟨rs, h1, h2, by omega, h4⟩
section
variable {P : Program} {w : World} {K : PySem.W.Frag} {mg : Str → Option Value} {base : Heap} {a : Ad}
def Oth (K : PySem.W.Frag) (a : Ad) (H : Hp) (v : V) : Prop := GMade K a H (.oth v) v
theorem oth_non (T : Txt K mg a) {H : Hp} : Oth K a H .non := ⟨rfl, _, .non, T.k_tNoneType_Num, T.k_tNoneType_Name, T.k_tNoneType_Two, T.k_tNoneType_Mod, T.k_tNoneType_Less⟩
theorem oth_int (T : Txt K mg a) {H : Hp} (i : Int) : Oth K a H (.int i) := ⟨rfl, _, .int i, T.k_tint_Num, T.k_tint_Name, T.k_tint_Two, T.k_tint_Mod, T.k_tint_Less⟩
theorem oth_str (T : Txt K mg a) {H : Hp} (x : Str) : Oth K a H (.str x) := ⟨rfl, _, .str x, T.k_tstr_Num, T.k_tstr_Name, T.k_tstr_Two, T.k_tstr_Mod, T.k_tstr_Less⟩
theorem oth_bl (T : Txt K mg a) {H : Hp} (x : Bool) : Oth K a H (.bl x) := ⟨rfl, _, .bl x, T.k_tbool_Num, T.k_tbool_Name, T.k_tbool_Two, T.k_tbool_Mod, T.k_tbool_Less⟩
theorem oth_tup (T : Txt K mg a) {H : Hp} {p : Addr} {xs : List V} (h : H p = some (.tup xs)) : Oth K a H (.ref p) := ⟨rfl, _, .tup h, T.k_ttuple_Num, T.k_ttuple_Name, T.k_ttuple_Two, T.k_ttuple_Mod, T.k_ttuple_Less⟩
theorem oth_Expr (T : Txt K mg a) {H : Hp} {p dx : Addr} {fs : List (Str × V)} (h : H p = some (.ins a.c_Expr dx fs)) : Oth K a H (.ref p) := ⟨rfl, _, T.ty_Expr H p dx fs h, T.k_Expr_Num, T.k_Expr_Name, T.k_Expr_Two, T.k_Expr_Mod, T.k_Expr_Less⟩
def spOdd (K : PySem.W.Frag) (a : Ad) : Sp := fun vs H Q _ => ∃ n : Nat, vs = [.int n] ∧ n < 4 ∧ ∀ (p : Addr) (H' : Hp), OddAt K a n H 1000 p H' → Q (.ref p) H'
theorem ok_odd (T : Txt K mg a) : FnOk P w K mg base CX0 3 a.f__law_odd a.d__law_odd ["_law_at"] (spOdd K a) := by
  have m_Num : Maker P w K mg base "Num" a.c_Num a.f_Num___init__ a.d_Num___init__ ["self", "value"] 1 (spI1 a.c_Num "value") := ⟨ok_Num_init T, T.g_Num, T.mk_Num, T.b_Num___init__⟩
  have m_Name : Maker P w K mg base "Name" a.c_Name a.f_Name___init__ a.d_Name___init__ ["self", "word"] 1 (spI1 a.c_Name "word") := ⟨ok_Name_init T, T.g_Name, T.mk_Name, T.b_Name___init__⟩
  have m_Two : Maker P w K mg base "Two" a.c_Two a.f_Two___init__ a.d_Two___init__ ["self", "word", "one", "other"] 1 (spI3 a.c_Two "word" "one" "other") := ⟨ok_Two_init T, T.g_Two, T.mk_Two, T.b_Two___init__⟩
  have m_Mod : Maker P w K mg base "Mod" a.c_Mod a.f_Mod___init__ a.d_Mod___init__ ["self", "inner", "number"] 1 (spI2 a.c_Mod "inner" "number") := ⟨ok_Mod_init T, T.g_Mod, T.mk_Mod, T.b_Mod___init__⟩
  have m_Less : Maker P w K mg base "Less" a.c_Less a.f_Less___init__ a.d_Less___init__ ["self", "one", "other", "third", "fourth"] 1 (spI4 a.c_Less "one" "other" "third" "fourth") := ⟨ok_Less_init T, T.g_Less, T.mk_Less, T.b_Less___init__⟩
  refine T.F__law_odd.ok sc__law_odd (fun vs H Q E h => ?_) (fun cdv A outer s H vs Q E hr h => ?_)
  · obtain ⟨n, rfl, _⟩ := h
    rfl
  · obtain ⟨n, rfl, hn4, kk⟩ := h
    refine bx_in (w_pss_cons (w_ps_setComp (i := 1) rfl sc__law_odd.nd rfl (Or.inl rfl) (N' := ["_law_name"]) (t := 1) (caps := []) ⟨rfl, rfl, rfl⟩ (w_pi_list (w_pe_lst (w_pa_C w_pe_str (w_pa_C w_pe_str (w_pa_C w_pe_str (w_pa_C w_pe_str (w_pa_C w_pe_non (w_pa_C w_pe_int (w_pa_C w_pe_str (w_pa_T (w_pe_tup (w_pa_C w_pe_str w_pa_nil)) (w_pa_C w_pe_str w_pa_nil))))))))))) (fun _ => (pg_name (i := 0) (show (["_law_name"] : List Str).Nodup by decide +kernel) rfl (Or.inl rfl))) (fun _ => w_pts_nil) (fun _ => (w_pe_m m_Name (hr.mono (by omega)) (w_pa_N (w_pv 0) w_pa_nil))))
      (w_pss_cut (w_ps_if (w_pt_cmpR op_eq (w_pv 0) w_pe_int (nomark _))
        (w_pss_one (w_ps_set (i := 1) sc__law_odd.nd rfl (Or.inl rfl) (w_pe_op op_cat (w_pv 1) (w_pe_comp rfl (N' := ["_law_name"]) (t := 1) (caps := []) ⟨rfl, rfl, rfl⟩ (w_pi_list (w_pe_lst (w_pa_C w_pe_str (w_pa_C w_pe_str (w_pa_C w_pe_str (w_pa_C w_pe_str (w_pa_C w_pe_str (w_pa_C w_pe_str (w_pa_C w_pe_str w_pa_nil))))))))) (fun _ => (pg_name (i := 0) (show (["_law_name"] : List Str).Nodup by decide +kernel) rfl (Or.inl rfl))) (fun _ => w_pts_nil) (fun _ => (w_pe_m m_Name (hr.mono (by omega)) (w_pa_N (w_pv 0) w_pa_nil)))))))
        w_pss_nil)
      (w_pss_cut (w_ps_if (w_pt (w_pw_or (w_pt_cmpR op_eq (w_pv 0) w_pe_int (nomark _)) (w_pw_or1 (w_pt_cmpR op_eq (w_pv 0) w_pe_int (nomark _)))))
        (w_pss_one (w_ps_set (i := 1) sc__law_odd.nd rfl (Or.inl rfl) (w_pe_op op_cat (w_pv 1) (w_pe_comp rfl (N' := ["_law_name"]) (t := 1) (caps := []) ⟨rfl, rfl, rfl⟩ (w_pi_list (w_pe_lst (w_pa_C w_pe_str (w_pa_C w_pe_str (w_pa_C w_pe_str (w_pa_C w_pe_str w_pa_nil)))))) (fun _ => (pg_name (i := 0) (show (["_law_name"] : List Str).Nodup by decide +kernel) rfl (Or.inl rfl))) (fun _ => w_pts_nil) (fun _ => (w_pe_m m_Name (hr.mono (by omega)) (w_pa_N (w_pv 0) w_pa_nil)))))))
        w_pss_nil)
      (w_pss_cut (w_ps_if (w_pt_cmpR op_eq (w_pv 0) w_pe_int (nomark _))
        (w_pss_one (w_ps_expr (w_pe_bm PySem.F.plainAttrs_list PySem.F.slot_list_append PySem.F.type_list_append mt_append (w_pv 1) (w_pa_K (w_pe_m m_Name (hr.mono (by omega)) (w_pa_C w_pe_str w_pa_nil)) w_pa_nil))))
        w_pss_nil)
      (w_pss_cons (w_ps_set (i := 1) sc__law_odd.nd rfl (Or.inl rfl) (w_pe_op op_cat (w_pv 1) (w_pe_comp rfl (N' := ["_law_number"]) (t := 1) (caps := []) ⟨rfl, rfl, rfl⟩ (w_pi_list (w_pe_lst (w_pa_B (w_pe_op op_pow w_pe_int w_pe_int) (w_pa_U (w_pe_un un_neg (w_pe_op op_pow w_pe_int w_pe_int)) (w_pa_B (w_pe_op op_pow w_pe_int w_pe_int) (w_pa_C w_pe_bl (w_pa_C w_pe_bl (w_pa_C w_pe_str (w_pa_C w_pe_non (w_pa_T (w_pe_tup (w_pa_C w_pe_int (w_pa_C w_pe_int w_pa_nil))) w_pa_nil)))))))))) (fun _ => (pg_name (i := 0) (show (["_law_number"] : List Str).Nodup by decide +kernel) rfl (Or.inl rfl))) (fun _ => w_pts_nil) (fun _ => (w_pe_m m_Num (hr.mono (by omega)) (w_pa_N (w_pv 0) w_pa_nil))))))
      (w_pss_cut (w_ps_for PassesOwn.never rfl (w_pi_list (w_pe_lst (w_pa_C w_pe_str (w_pa_C w_pe_str (w_pa_C w_pe_non (w_pa_C w_pe_str (w_pa_C w_pe_str (w_pa_C w_pe_str (w_pa_C w_pe_int (w_pa_T (w_pe_tup (w_pa_C w_pe_str w_pa_nil)) w_pa_nil)))))))))) (pg_name (i := 2) sc__law_odd.nd rfl (Or.inl rfl))
        (w_pss_one (w_ps_expr (w_pe_bm PySem.F.plainAttrs_list PySem.F.slot_list_append PySem.F.type_list_append mt_append (w_pv 1) (w_pa_K (w_pe_m m_Two (hr.mono (by omega)) (w_pa_N (w_pv 2) (w_pa_K (w_pe_m m_Num (hr.mono (by omega)) (w_pa_C w_pe_int w_pa_nil)) (w_pa_K (w_pe_m m_Num (hr.mono (by omega)) (w_pa_C w_pe_int w_pa_nil)) w_pa_nil)))) w_pa_nil)))))
      (w_pss_cut (w_ps_for PassesOwn.never rfl (w_pi_list (w_pe_lst (w_pa_C w_pe_int (w_pa_U (w_pe_un un_neg w_pe_int) (w_pa_B (w_pe_op op_add (w_pe_op op_pow w_pe_int w_pe_int) w_pe_int) (w_pa_C w_pe_bl (w_pa_C w_pe_str (w_pa_C w_pe_non (w_pa_K (w_pe_m m_Num (hr.mono (by omega)) (w_pa_C w_pe_int w_pa_nil)) w_pa_nil))))))))) (pg_name (i := 3) sc__law_odd.nd rfl (Or.inl rfl))
        (w_pss_one (w_ps_expr (w_pe_bm PySem.F.plainAttrs_list PySem.F.slot_list_append PySem.F.type_list_append mt_append (w_pv 1) (w_pa_K (w_pe_m m_Mod (hr.mono (by omega)) (w_pa_K (w_pe_m m_Num (hr.mono (by omega)) (w_pa_C w_pe_int w_pa_nil)) (w_pa_N (w_pv 3) w_pa_nil))) w_pa_nil)))))
      (w_pss_cut (w_ps_for PassesOwn.never rfl (w_pi_list (w_pe_lst (w_pa_C w_pe_non (w_pa_C w_pe_int (w_pa_C w_pe_str (w_pa_T (w_pe_tup (w_pa_C w_pe_str (w_pa_C w_pe_int w_pa_nil))) (w_pa_C w_pe_bl (w_pa_K (w_pe_bare T.mb_Expr T.ib_Expr T.kb_Expr T.ob_Expr T.g_Expr) w_pa_nil)))))))) (pg_name (i := 4) sc__law_odd.nd rfl (Or.inl rfl))
        (w_pss_cons (w_ps_set (i := 1) sc__law_odd.nd rfl (Or.inl rfl) (w_pe_op op_cat (w_pv 1) (w_pe_lst (w_pa_N (w_pv 4) (w_pa_K (w_pe_m m_Two (hr.mono (by omega)) (w_pa_C w_pe_str (w_pa_N (w_pv 4) (w_pa_K (w_pe_m m_Num (hr.mono (by omega)) (w_pa_C w_pe_int w_pa_nil)) w_pa_nil)))) (w_pa_K (w_pe_m m_Two (hr.mono (by omega)) (w_pa_C w_pe_str (w_pa_K (w_pe_m m_Num (hr.mono (by omega)) (w_pa_C w_pe_int w_pa_nil)) (w_pa_N (w_pv 4) w_pa_nil)))) (w_pa_K (w_pe_m m_Mod (hr.mono (by omega)) (w_pa_N (w_pv 4) (w_pa_C w_pe_int w_pa_nil))) w_pa_nil)))))))
        (w_pss_one (w_ps_set (i := 1) sc__law_odd.nd rfl (Or.inl rfl) (w_pe_op op_cat (w_pv 1) (w_pe_lst (w_pa_K (w_pe_m m_Less (hr.mono (by omega)) (w_pa_N (w_pv 4) (w_pa_K (w_pe_m m_Num (hr.mono (by omega)) (w_pa_C w_pe_int w_pa_nil)) (w_pa_K (w_pe_m m_Num (hr.mono (by omega)) (w_pa_C w_pe_int w_pa_nil)) (w_pa_K (w_pe_m m_Num (hr.mono (by omega)) (w_pa_C w_pe_int w_pa_nil)) w_pa_nil))))) (w_pa_K (w_pe_m m_Less (hr.mono (by omega)) (w_pa_K (w_pe_m m_Num (hr.mono (by omega)) (w_pa_C w_pe_int w_pa_nil)) (w_pa_K (w_pe_m m_Num (hr.mono (by omega)) (w_pa_C w_pe_int w_pa_nil)) (w_pa_K (w_pe_m m_Num (hr.mono (by omega)) (w_pa_C w_pe_int w_pa_nil)) (w_pa_N (w_pv 4) w_pa_nil))))) w_pa_nil))))))))
      (w_pss_cons (w_ps_set (i := 5) sc__law_odd.nd rfl (Or.inl rfl) (w_pe_m m_Num (hr.mono (by omega)) (w_pa_C w_pe_int w_pa_nil)))
      (w_pss_cut (w_ps_for PassesOwn.never rfl (w_pi_range1 rfl T.n_range (w_pa_C w_pe_int w_pa_nil)) (pg_name (i := 6) sc__law_odd.nd rfl (Or.inl rfl))
        (w_pss_one (w_ps_set (i := 5) sc__law_odd.nd rfl (Or.inl rfl) (w_pe_ix ix_list (w_pe_lst (w_pa_K (w_pe_m m_Mod (hr.mono (by omega)) (w_pa_N (w_pv 5) (w_pa_C w_pe_int w_pa_nil))) (w_pa_K (w_pe_m m_Two (hr.mono (by omega)) (w_pa_C w_pe_str (w_pa_K (w_pe_m m_Num (hr.mono (by omega)) (w_pa_C w_pe_int w_pa_nil)) (w_pa_N (w_pv 5) w_pa_nil)))) w_pa_nil))) (w_pe_op op_mod (w_pv 6) w_pe_int) (fun _ _ => rfl)))))
      (w_pss_cons (w_ps_set (i := 7) sc__law_odd.nd rfl (Or.inl rfl) (w_pe_m m_Num (hr.mono (by omega)) (w_pa_C w_pe_int w_pa_nil)))
      (w_pss_cut (w_ps_for PassesOwn.never rfl (w_pi_range1 rfl T.n_range (w_pa_C w_pe_int w_pa_nil)) (pg_name (i := 6) sc__law_odd.nd rfl (Or.inl rfl))
        (w_pss_one (w_ps_set (i := 7) sc__law_odd.nd rfl (Or.inl rfl) (w_pe_m m_Less (hr.mono (by omega)) (w_pa_N (w_pv 7) (w_pa_N (w_pv 7) (w_pa_N (w_pv 7) (w_pa_N (w_pv 7) w_pa_nil))))))))
      (w_pss_one (w_ps_ret (w_pe_op op_cat (w_pv 1) (w_pe_lst (w_pa_N (w_pv 5) (w_pa_K (w_pe_m m_Two (hr.mono (by omega)) (w_pa_C w_pe_str (w_pa_N (w_pv 7) (w_pa_K (w_pe_m m_Two (hr.mono (by omega)) (w_pa_C w_pe_str (w_pa_N (w_pv 7) (w_pa_N (w_pv 7) w_pa_nil)))) w_pa_nil)))) w_pa_nil)))))))))))))))))) ?_
    have isL : ∀ {H' : Hp} (D : Addr) (rs : List V), H' D = some (.lst rs) → tyV K "list" (.ref D) H' := fun D rs h => .inl ⟨rfl, _, SqL.of h⟩
    have cName : ∀ (H' : Hp) (p dx : Addr) (v : V), H' p = some (.ins a.c_Name dx [("word", v)]) → Lf K H' v → GMade K a H' (Gx.name v) (.ref p) := fun H' p dx v h l => ⟨p, dx, rfl, h, l⟩
    have cNum : ∀ (H' : Hp) (p dx : Addr) (v : V), H' p = some (.ins a.c_Num dx [("value", v)]) → Lf K H' v → GMade K a H' (Gx.num v) (.ref p) := fun H' p dx v h l => ⟨p, dx, rfl, h, l⟩
    -- names that are none
    refine ⟨by show 1 ≤ sizeLine; decide, fun t1 ht1 => ?_⟩
    refine ⟨by show 9 ≤ sizeLine; decide, fun q1 hq1 => ?_⟩
    refine ⟨q1, rfl, ⟨_, SqL.of upd_same⟩, fun D1 hD1 _ => ?_⟩
    refine compMk1 (at_ := n) Gx.name cName upd_same hD1 (by simp) (fun v hv => ?_) (fun v hv => ?_) (fun rs H1 h1 l1 m1 s1 => ?_)
    · simp only [List.mem_cons, List.not_mem_nil, or_false] at hv
      rcases hv with rfl | rfl | rfl | rfl | rfl | rfl | rfl | rfl | rfl
      all_goals first | exact lf_str T _ | exact lf_non T | exact lf_int T _ | exact lf_tup T ((Same.new hq1) _ _ upd_same)
    · simp only [List.mem_cons, List.not_mem_nil, or_false] at hv
      rcases hv with rfl | rfl | rfl | rfl | rfl | rfl | rfl | rfl | rfl
      all_goals first | exact bad_name rfl | exact bad_name (nm_no (by decide +kernel) (by decide +kernel) (by decide +kernel) n)
    have s0 := ((Same.new ht1).trans (Same.new hq1)).trans s1
    have o1 : OddAt K a n H 9 D1 H1 := ⟨rs, h1, by rw [l1]; show 0 < 9; omega, by rw [l1]; show 9 ≤ 9; omega, m1, free_of ((Same.new ht1).trans (Same.new hq1)) hD1, s0⟩
    refine ⟨fun σ' H' => ∃ D, σ' = [some (.int n), some (.ref D), none, none, none, none, none, none] ∧ OddAt K a n H 20 D H', ?_, ?_⟩
    · refine ⟨_, rfl, rfl, _, rfl, ite2 (fun z => ?_) (fun z => ⟨D1, rfl, o1.le (by decide)⟩)⟩
      have z : V.int (n : Int) = V.int 0 := of_decide_eq_true z
      have n0 : n = 0 := by injection z with z; omega
      subst n0
      refine ⟨_, rfl, (by show 7 ≤ sizeLine; decide), fun q hq => ?_⟩
      refine ⟨q, rfl, ⟨_, SqL.of upd_same⟩, fun D hD _ => ?_⟩
      refine compMk1 (at_ := 0) Gx.name cName upd_same hD (by simp) (fun v hv => ?_) (fun v hv => ?_) (fun rs2 H2 h2 l2 m2 s2 => ?_)
      · simp only [List.mem_cons, List.not_mem_nil, or_false] at hv
        rcases hv with rfl | rfl | rfl | rfl | rfl | rfl | rfl
        all_goals exact lf_str T _
      · simp only [List.mem_cons, List.not_mem_nil, or_false] at hv
        rcases hv with rfl | rfl | rfl | rfl | rfl | rfl | rfl
        all_goals exact bad_name (wordIn_no (by decide +kernel))
      have sq := (Same.new hq).trans s2
      have l2' : rs2.length = 7 := l2
      have l1' : rs.length = 9 := l1
      exact ⟨D1, D, rs, rs2, rfl, rfl, sq _ _ h1, h2, szL (by omega), fun p hp => ⟨p, rfl, (OddAt.cat h1 o1 sq m2 hp).le (by omega)⟩⟩
    rintro σ' H2 ⟨D2, rfl, o2⟩
    refine ⟨fun σ' H' => ∃ D, σ' = [some (.int n), some (.ref D), none, none, none, none, none, none] ∧ OddAt K a n H 30 D H', ?_, ?_⟩
    · have wn : n = 1 ∨ n = 2 → ∀ v ∈ [V.str "sum", V.str "least", V.str "most", V.str "count"], Bad n (Gx.name v) := fun hn v hv => by
        simp only [List.mem_cons, List.not_mem_nil, or_false] at hv
        rcases hn with rfl | rfl
        · rcases hv with rfl | rfl | rfl | rfl
          all_goals exact bad_name (wordIn_no (by decide +kernel))
        · rcases hv with rfl | rfl | rfl | rfl
          all_goals exact bad_name (wordIn_no (by decide +kernel))
      have ln : ∀ (H : Hp), ∀ v ∈ [V.str "sum", V.str "least", V.str "most", V.str "count"], Lf K H v := fun H v hv => by
        simp only [List.mem_cons, List.not_mem_nil, or_false] at hv
        rcases hv with rfl | rfl | rfl | rfl
        all_goals exact lf_str T _
      obtain ⟨rs2, hr1, hr2, hr3, hr4⟩ := id o2
      refine ⟨_, rfl, rfl, _, rfl, ?_⟩
      refine and2 (fun z => ⟨_, rfl, rfl, _, rfl, ?_⟩) (fun z => iteT ?_)
      · refine ite2 (fun z2 => ?_) (fun z2 => ⟨D2, rfl, o2.le (by decide)⟩)
        have z2 : V.int (n : Int) = V.int 2 := of_decide_eq_true z2
        have n2 : n = 2 := by injection z2 with z2; omega
        refine ⟨_, rfl, (by show 4 ≤ sizeLine; decide), fun q hq => ?_⟩
        refine ⟨q, rfl, ⟨_, SqL.of upd_same⟩, fun D hD _ => ?_⟩
        refine compMk1 (at_ := n) Gx.name cName upd_same hD (by simp) (ln _) (wn (.inr n2)) (fun rs3 H3 h3 l3 m3 s3 => ?_)
        have sq := (Same.new hq).trans s3
        have l3' : rs3.length = 4 := l3
        exact ⟨D2, D, rs2, rs3, rfl, rfl, sq _ _ hr1, h3, szL (by omega), fun p hp => ⟨p, rfl, (OddAt.cat hr1 o2 sq m3 hp).le (by omega)⟩⟩
      · have z : V.int (n : Int) = V.int 1 := of_decide_eq_true z
        have n1 : n = 1 := by injection z with z; omega
        refine ⟨_, rfl, (by show 4 ≤ sizeLine; decide), fun q hq => ?_⟩
        refine ⟨q, rfl, ⟨_, SqL.of upd_same⟩, fun D hD _ => ?_⟩
        refine compMk1 (at_ := n) Gx.name cName upd_same hD (by simp) (ln _) (wn (.inl n1)) (fun rs3 H3 h3 l3 m3 s3 => ?_)
        have sq := (Same.new hq).trans s3
        have l3' : rs3.length = 4 := l3
        exact ⟨D2, D, rs2, rs3, rfl, rfl, sq _ _ hr1, h3, szL (by omega), fun p hp => ⟨p, rfl, (OddAt.cat hr1 o2 sq m3 hp).le (by omega)⟩⟩
    rintro σ' H3 ⟨D3, rfl, o3⟩
    refine ⟨fun σ' H' => ∃ D, σ' = [some (.int n), some (.ref D), none, none, none, none, none, none] ∧ OddAt K a n H 40 D H', ?_, ?_⟩
    · obtain ⟨rs3, hr1, hr2, hr3, hr4⟩ := id o3
      refine ⟨_, rfl, rfl, _, rfl, ite2 (fun z => ?_) (fun z => ⟨D3, rfl, o3.le (by decide)⟩)⟩
      have z : V.int (n : Int) = V.int 3 := of_decide_eq_true z
      have n3 : n = 3 := by injection z with z; omega
      subst n3
      refine ⟨_, rfl, isL _ _ hr1, mk1 fun p1 d1 H5 h5 s5 => ?_⟩
      exact ⟨D3, rs3, _, rfl, rfl, s5 _ _ hr1, Nat.lt_of_le_of_lt hr3 (by decide), D3, rfl, (OddAt.push hr1 o3 s5 (cName _ _ _ _ h5 (lf_str T _)) (bad_name (wordIn_no (by decide +kernel)))).le (by omega)⟩
    rintro σ' H4 ⟨D4, rfl, o4⟩
    -- numbers that are none
    obtain ⟨rs4, hq1, hq2, hq3, hq4⟩ := id o4
    refine ⟨_, rfl, 10, 20, rfl, rfl, ⟨by decide, by decide, by decide⟩, 10, 20, rfl, rfl, ⟨by decide, by decide, by decide⟩, _, rfl, 10, 60, rfl, rfl, ⟨by decide, by decide, by decide⟩, (by show 2 ≤ sizeLine; decide), fun t5 ht5 => ?_⟩
    refine ⟨(by show 8 ≤ sizeLine; decide), fun q5 hq5 => ?_⟩
    refine ⟨q5, rfl, ⟨_, SqL.of upd_same⟩, fun D hD _ => ?_⟩
    refine compMk1 (at_ := n) Gx.num cNum upd_same hD (by show 8 ≤ 100; omega) (fun v hv => ?_) (fun v hv => ?_) (fun rs5 H5 h5 l5 m5 s5 => ?_)
    · simp only [List.mem_cons, List.not_mem_nil, or_false] at hv
      rcases hv with rfl | rfl | rfl | rfl | rfl | rfl | rfl | rfl
      all_goals first | exact lf_int T _ | exact lf_bl T _ | exact lf_str T _ | exact lf_non T | exact lf_tup T ((Same.new hq5) _ _ upd_same)
    · simp only [List.mem_cons, List.not_mem_nil, or_false] at hv
      rcases hv with rfl | rfl | rfl | rfl | rfl | rfl | rfl | rfl
      all_goals first | exact bad_num rfl | exact bad_num (by decide +kernel)
    have sq5 := ((Same.new ht5).trans (Same.new hq5)).trans s5
    have l5' : rs5.length = 8 := l5
    refine ⟨D4, D, rs4, rs5, rfl, rfl, sq5 _ _ hq1, h5, szL (by omega), fun p hp => ?_⟩
    have o5 := (OddAt.cat hq1 o4 sq5 m5 hp).le (l := 48) (by omega)
    revert o5
    generalize upd H5 p (HO.lst (rs4 ++ rs5)) = H6
    intro o5
    -- words that are none
    refine ⟨fun σ' H' => ∃ D o2, σ' = [some (.int n), some (.ref D), o2, none, none, none, none, none] ∧ OddAt K a n H 56 D H', ?_, ?_⟩
    · refine ⟨(by show 1 ≤ sizeLine; decide), fun t hts => ?_⟩
      refine ⟨(by show 8 ≤ sizeLine; decide), fun q hqs => ?_⟩
      refine ⟨q, rfl, ⟨_, SqL.of upd_same⟩, ?_⟩
      have qp : q ≠ p := by
        obtain ⟨rs6, e, _⟩ := o5
        exact fun z => by subst z; cases (Same.new hts _ _ e).symm.trans hqs
      refine for_list (K := K) (a := q) (xs := [V.str "mul", V.str "", V.non, V.str "Add", V.str "less", V.str "mod", V.int 3, V.ref t]) (fun i σ' H' => ∃ o2, σ' = [some (.int n), some (.ref p), o2, none, none, none, none, none] ∧ OddAt K a n H (48 + i) p H' ∧ H' q = some (.lst [V.str "mul", V.str "", V.non, V.str "Add", V.str "less", V.str "mod", V.int 3, V.ref t]) ∧ H' t = some (.tup [V.str "add"])) ?_ ?_ ?_ ?_
      · exact ⟨none, rfl, o5.same ((Same.new (o := HO.tup [V.str "add"]) hts).trans (Same.new hqs)), upd_same, (Same.new hqs) _ _ upd_same⟩
      · rintro i σ' H' _ ⟨o2, rfl, _, e, _⟩
        exact SqL.of e
      · rintro i v σ' H' hi ⟨o2, rfl, od, e, et⟩
        have hv := List.mem_of_getElem? hi
        have hi' : i < 8 := (List.getElem?_eq_some_iff.mp hi).1
        obtain ⟨rs6, e1, e2, e3, e4⟩ := id od
        refine ⟨_, rfl, isL _ _ e1, _, rfl, mk1 fun p1 d1 H7 h7 s7 => ?_⟩
        refine mk1 fun p2 d2 H8 h8 s8 => ?_
        refine mk3 fun p3 d3 H9 h9 s9 => ?_
        have s89 := s8.trans s9
        have s79 := s7.trans s89
        refine ⟨p, rs6, _, rfl, rfl, s79 _ _ e1, small1000 (by omega), some v, rfl, ?_, ?_, ?_⟩
        · refine OddAt.push e1 od s79 (g := .two v (Ex.num 1).gx (Ex.num 2).gx) ⟨p3, d3, _, _, rfl, h9, ?_, gNum T 1 (s89 _ _ h7), gNum T 2 (s9 _ _ h8)⟩ (bad_two ?_)
          · simp only [List.mem_cons, List.not_mem_nil, or_false] at hv
            rcases hv with rfl | rfl | rfl | rfl | rfl | rfl | rfl | rfl
            all_goals first | exact lf_str T _ | exact lf_non T | exact lf_int T _ | exact lf_tup T (s79 _ _ et)
          · simp only [List.mem_cons, List.not_mem_nil, or_false] at hv
            rcases hv with rfl | rfl | rfl | rfl | rfl | rfl | rfl | rfl
            all_goals first | rfl | exact wordIn_no (by decide +kernel)
        · rw [upd_ne qp]
          exact s79 _ _ e
        · rw [upd_ne (ne_of et e1 (by intro z; cases z))]
          exact s79 _ _ et
      · rintro σ' H' ⟨o2, rfl, od, _, _⟩
        exact ⟨p, o2, rfl, od⟩
    rintro σ' H7 ⟨D7, o2, rfl, o7⟩
    -- divisors that are none
    refine ⟨fun σ' H' => ∃ o3, σ' = [some (.int n), some (.ref D7), o2, o3, none, none, none, none] ∧ OddAt K a n H 63 D7 H', ?_, ?_⟩
    · refine ⟨1, rfl, 10, 9, rfl, rfl, ⟨by decide, by decide, by decide⟩, _, _, rfl, rfl, mk1 fun p1 d1 H8 h8 s8 => ?_⟩
      refine ⟨(by show 7 ≤ sizeLine; decide), fun q hqs => ?_⟩
      refine ⟨q, rfl, ⟨_, SqL.of upd_same⟩, ?_⟩
      have qp : q ≠ D7 := by
        obtain ⟨rs6, e, _⟩ := o7
        exact fun z => by subst z; cases (s8 _ _ e).symm.trans hqs
      refine for_list (K := K) (a := q) (xs := [V.int 0, V.int (-1), V.int (10 ^ (9 : Int).toNat + 1), V.bl true, V.str "7", V.non, V.ref p1]) (fun i σ' H' => ∃ o3, σ' = [some (.int n), some (.ref D7), o2, o3, none, none, none, none] ∧ OddAt K a n H (56 + i) D7 H' ∧ H' q = some (.lst [V.int 0, V.int (-1), V.int (10 ^ (9 : Int).toNat + 1), V.bl true, V.str "7", V.non, V.ref p1]) ∧ H' p1 = some (.ins a.c_Num d1 [("value", .int 7)])) ?_ ?_ ?_ ?_
      · exact ⟨none, rfl, o7.same (s8.trans (Same.new hqs)), upd_same, (Same.new hqs) _ _ h8⟩
      · rintro i σ' H' _ ⟨o3, rfl, _, e, _⟩
        exact SqL.of e
      · rintro i v σ' H' hi ⟨o3, rfl, od, e, et⟩
        have hv := List.mem_of_getElem? hi
        have hi' : i < 7 := (List.getElem?_eq_some_iff.mp hi).1
        obtain ⟨rs6, e1, e2, e3, e4⟩ := id od
        refine ⟨_, rfl, isL _ _ e1, mk1 fun p2 d2 H9 h9 s9 => ?_⟩
        refine ⟨_, rfl, mk2 fun p3 d3 H10 h10 s10 => ?_⟩
        have s91 := s9.trans s10
        refine ⟨D7, rs6, _, rfl, rfl, s91 _ _ e1, small1000 (by omega), some v, rfl, ?_, ?_, ?_⟩
        · refine OddAt.push e1 od s91 (g := .mod (Ex.num 5).gx v) ⟨p3, d3, _, rfl, h10, ?_, gNum T 5 (s10 _ _ h9)⟩ (bad_mod ?_)
          · simp only [List.mem_cons, List.not_mem_nil, or_false] at hv
            rcases hv with rfl | rfl | rfl | rfl | rfl | rfl | rfl
            all_goals first | exact lf_int T _ | exact lf_bl T _ | exact lf_str T _ | exact lf_non T | exact lf_Num T (s91 _ _ et)
          · simp only [List.mem_cons, List.not_mem_nil, or_false] at hv
            rcases hv with rfl | rfl | rfl | rfl | rfl | rfl | rfl
            all_goals first | rfl | decide +kernel
        · rw [upd_ne qp]
          exact s91 _ _ e
        · rw [upd_ne (ne_of et e1 (by intro z; cases z))]
          exact s91 _ _ et
      · rintro σ' H' ⟨o3, rfl, od, _, _⟩
        exact ⟨o3, rfl, od⟩
    rintro σ' H8 ⟨o3, rfl, o8⟩
    -- things that are none
    refine ⟨fun σ' H' => ∃ D o4, σ' = [some (.int n), some (.ref D), o2, o3, o4, none, none, none] ∧ OddAt K a n H 100 D H', ?_, ?_⟩
    · refine ⟨(by show 2 ≤ sizeLine; decide), fun t hts => ?_⟩
      intro x dx nx ndx nex
      have sM : Same (upd H8 t (HO.tup [V.str "num", V.int 5])) (upd (upd (upd H8 t (HO.tup [V.str "num", V.int 5])) dx (.own x)) x (.ins a.c_Expr dx [])) := fun b o e => by
        rw [upd_ne (ne_of_none e nx), upd_ne (ne_of_none e ndx)]
        exact e
      refine ⟨(by show 6 ≤ sizeLine; decide), fun q hqs => ?_⟩
      refine ⟨q, rfl, ⟨_, SqL.of upd_same⟩, ?_⟩
      refine for_list (K := K) (a := q) (xs := [V.non, V.int 5, V.str "me", V.ref t, V.bl true, V.ref x]) (fun i σ' H' => ∃ D o4, σ' = [some (.int n), some (.ref D), o2, o3, o4, none, none, none] ∧ OddAt K a n H (63 + 6 * i) D H' ∧ H' q = some (.lst [V.non, V.int 5, V.str "me", V.ref t, V.bl true, V.ref x]) ∧ H' t = some (.tup [V.str "num", V.int 5]) ∧ H' x = some (.ins a.c_Expr dx [])) ?_ ?_ ?_ ?_
      · exact ⟨D7, none, rfl, o8.same (((Same.new (o := HO.tup [V.str "num", V.int 5]) hts).trans sM).trans (Same.new hqs)), upd_same, (Same.new hqs) _ _ (sM _ _ upd_same), (Same.new hqs) _ _ upd_same⟩
      · rintro i σ' H' _ ⟨D, o4, rfl, _, e, _⟩
        exact SqL.of e
      · rintro i v σ' H' hi ⟨D, o4, rfl, od, e, et, ex⟩
        have hv := List.mem_of_getElem? hi
        have hi' : i < 6 := (List.getElem?_eq_some_iff.mp hi).1
        obtain ⟨rs6, e1, e2, e3, e4⟩ := id od
        have hO : Oth K a H' v := by
          simp only [List.mem_cons, List.not_mem_nil, or_false] at hv
          rcases hv with rfl | rfl | rfl | rfl | rfl | rfl
          · exact oth_non T
          · exact oth_int T _
          · exact oth_str T _
          · exact oth_tup T et
          · exact oth_bl T _
          · exact oth_Expr T ex
        have hB : Bad n (.oth v) := bad_oth
        refine ⟨_, rfl, _, rfl, _, rfl, mk1 fun p1 d1 H9 h9 s9 => ?_⟩
        refine mk3 fun p2 d2 H10 h10 s10 => ?_
        refine mk1 fun p3 d3 H11 h11 s11 => ?_
        refine ⟨_, rfl, mk3 fun p4 d4 H12 h12 s12 => ?_⟩
        refine ⟨_, rfl, mk2 fun p5 d5 H13 h13 s13 => ?_⟩
        refine ⟨(by show 4 ≤ sizeLine; decide), fun l hl => ?_⟩
        have sl := Same.new (o := HO.lst [v, V.ref p2, V.ref p4, V.ref p5]) hl
        have t13 := s13.trans sl
        have t12 := s12.trans t13
        have t11 := s11.trans t12
        have t10 := s10.trans t11
        have t9 := s9.trans t10
        have M1 : Menu K a n (upd H13 l (HO.lst [v, V.ref p2, V.ref p4, V.ref p5])) [v, V.ref p2, V.ref p4, V.ref p5] := by
          have g0 := hO.same t9
          refine Menu.app (ss := [V.ref p2, V.ref p4, V.ref p5]) (Menu.one g0 hB) (Menu.app (rs := [V.ref p2]) (ss := [V.ref p4, V.ref p5]) (Menu.one (g := .two (.str "add") (.oth v) (Ex.num 1).gx) ⟨p2, d2, _, _, rfl, t11 _ _ h10, lf_str T _, g0, gNum T 1 (t10 _ _ h9)⟩ (hB.two1 "add" (.num 1))) (Menu.app (rs := [V.ref p4]) (ss := [V.ref p5]) (Menu.one (g := .two (.str "min") (Ex.num 1).gx (.oth v)) ⟨p4, d4, _, _, rfl, t13 _ _ h12, lf_str T _, gNum T 1 (t12 _ _ h11), g0⟩ (hB.two2 "min" (.num 1))) (Menu.one (g := .mod (.oth v) (.int 5)) ⟨p5, d5, _, rfl, sl _ _ h13, lf_int T _, g0⟩ (hB.mod 5))))
        refine ⟨D, l, rs6, _, rfl, rfl, t9 _ _ e1, upd_same, szL (by show rs6.length + 4 ≤ 1000; omega), fun D' hD' => ?_⟩
        have od' := (OddAt.cat e1 od t9 M1 hD').le (l := 67 + 6 * i) (by show 63 + 6 * i + 4 ≤ _; omega)
        have sD := t9.trans (Same.new (o := HO.lst (rs6 ++ [v, V.ref p2, V.ref p4, V.ref p5])) hD')
        have hO' := hO.same sD
        have e' := sD _ _ e
        have et' := sD _ _ et
        have ex' := sD _ _ ex
        clear M1
        revert od' hO' e' et' ex'
        generalize upd (upd H13 l (HO.lst [v, V.ref p2, V.ref p4, V.ref p5])) D' (HO.lst (rs6 ++ [v, V.ref p2, V.ref p4, V.ref p5])) = G0
        intro od' hO' e' et' ex'
        obtain ⟨rs7, f1, f2, f3, f4⟩ := id od'
        refine ⟨_, rfl, _, rfl, mk1 fun a1 b1 G1 g1 u1 => ?_⟩
        refine mk1 fun a2 b2 G2 g2 u2 => ?_
        refine mk1 fun a3 b3 G3 g3 u3 => ?_
        refine mk4 fun a4 b4 G4 g4 u4 => ?_
        refine mk1 fun a5 b5 G5 g5 u5 => ?_
        refine mk1 fun a6 b6 G6 g6 u6 => ?_
        refine mk1 fun a7 b7 G7 g7 u7 => ?_
        refine ⟨_, rfl, mk4 fun a8 b8 G8 g8 u8 => ?_⟩
        refine ⟨(by show 2 ≤ sizeLine; decide), fun l2 hl2 => ?_⟩
        have ul := Same.new (o := HO.lst [V.ref a4, V.ref a8]) hl2
        have v8 := u8.trans ul
        have v7 := u7.trans v8
        have v6 := u6.trans v7
        have v5 := u5.trans v6
        have v4 := u4.trans v5
        have v3 := u3.trans v4
        have v2 := u2.trans v3
        have v1 := u1.trans v2
        have g0 := hO'.same v1
        have M2 : Menu K a n (upd G8 l2 (HO.lst [V.ref a4, V.ref a8])) [V.ref a4, V.ref a8] :=
          Menu.app (rs := [V.ref a4]) (ss := [V.ref a8]) (Menu.one (g := .less (.oth v) (Ex.num 1).gx (Ex.num 1).gx (Ex.num 1).gx) ⟨a4, b4, _, _, _, _, rfl, v5 _ _ g4, g0, gNum T 1 (v2 _ _ g1), gNum T 1 (v3 _ _ g2), gNum T 1 (v4 _ _ g3)⟩ (hB.less1 (.num 1) (.num 1) (.num 1))) (Menu.one (g := .less (Ex.num 1).gx (Ex.num 1).gx (Ex.num 1).gx (.oth v)) ⟨a8, b8, _, _, _, _, rfl, ul _ _ g8, gNum T 1 (v6 _ _ g5), gNum T 1 (v7 _ _ g6), gNum T 1 (v8 _ _ g7), g0⟩ (hB.less4 (.num 1) (.num 1) (.num 1)))
        refine ⟨D', l2, rs7, _, rfl, rfl, v1 _ _ f1, upd_same, szL (by show rs7.length + 2 ≤ 1000; omega), fun D'' hD'' => ?_⟩
        have sE := v1.trans (Same.new (o := HO.lst (rs7 ++ [V.ref a4, V.ref a8])) hD'')
        exact ⟨D'', some v, rfl, (OddAt.cat f1 od' v1 M2 hD'').le (by show 67 + 6 * i + 2 ≤ _; omega), sE _ _ e', sE _ _ et', sE _ _ ex'⟩
      · rintro σ' H' ⟨D, o4, rfl, od, _⟩
        exact ⟨D, o4, rfl, od.le (by show 63 + 6 * 6 ≤ 100; omega)⟩
    rintro σ' H9 ⟨D9, o4, rfl, o9⟩
    -- too deep
    refine mk1 fun p0 d0 H10 h10 s10 => ?_
    refine ⟨fun σ' H' => ∃ (e : Ex) (r : V) (o6 : Option V), σ' = [some (.int n), some (.ref D9), o2, o3, o4, some r, o6, none] ∧ OddAt K a n H 100 D9 H' ∧ GMade K a H' e.gx r ∧ e.dep = 9, ?_, ?_⟩
    · refine ⟨8, rfl, by decide, by decide, ?_⟩
      refine for_range (lo := 0) (n := (8 : Int).toNat) (fun i σ' H' => ∃ (e : Ex) (r : V) (o6 : Option V), σ' = [some (.int n), some (.ref D9), o2, o3, o4, some r, o6, none] ∧ OddAt K a n H 100 D9 H' ∧ GMade K a H' e.gx r ∧ e.dep = i + 1) ?_ ?_ ?_
      · exact ⟨.num 1, .ref p0, none, rfl, o9.same s10, gNum T 1 h10, rfl⟩
      · rintro i σ' H' hi ⟨e, r, o6, rfl, od, me, de⟩
        refine ⟨_, rfl, mk2 fun p1 d1 H1 h1 s1 => ?_⟩
        refine mk1 fun p2 d2 H2 h2 s2 => ?_
        refine ⟨_, rfl, mk3 fun p3 d3 H3 h3 s3 => ?_⟩
        refine ⟨by show 2 ≤ sizeLine; decide, fun lp hlp => ?_⟩
        have sp := Same.new (o := HO.lst [V.ref p1, V.ref p3]) hlp
        have t3 := s3.trans sp
        have t2 := s2.trans t3
        have t1 := s1.trans t2
        refine ⟨_, rfl, _, _, rfl, rfl, (by show (0 : Int) < 2; decide), ?_⟩
        have z0 : 0 ≤ (0 + (i : Int)) % 2 := by omega
        have z1 : (0 + (i : Int)) % 2 < 2 := by omega
        obtain ⟨v, ha, hv⟩ := pickV (xs := [V.ref p1, V.ref p3]) z0 z1
        refine ⟨lp, _, _, v, rfl, rfl, SqL.of upd_same, ha, ?_⟩
        simp only [List.mem_cons, List.not_mem_nil, or_false] at hv
        have me' := me.same t1
        rcases hv with rfl | rfl
        · exact ⟨.mod e 7, _, _, rfl, od.same t1, ⟨p1, d1, _, rfl, t2 _ _ h1, lf_int T _, me'⟩, by show e.dep + 1 = _; omega⟩
        · exact ⟨.two "add" (.num 1) e, _, _, rfl, od.same t1, ⟨p3, d3, _, _, rfl, sp _ _ h3, lf_str T _, gNum T 1 (t3 _ _ h2), me'⟩, by show max 1 e.dep + 1 = _; omega⟩
      · rintro σ' H' ⟨e, r, o6, rfl, od, me, de⟩
        exact ⟨e, r, o6, rfl, od, me, de⟩
    rintro σ' H11 ⟨e, r, o6, rfl, o11, me, de⟩
    -- too wide
    refine mk1 fun p1 d1 H12 h12 s12 => ?_
    refine ⟨fun σ' H' => ∃ (f : Ex) (r' : V) (o6 : Option V), σ' = [some (.int n), some (.ref D9), o2, o3, o4, some r, o6, some r'] ∧ OddAt K a n H 100 D9 H' ∧ GMade K a H' e.gx r ∧ GMade K a H' f.gx r' ∧ f.size = 21, ?_, ?_⟩
    · refine ⟨2, rfl, by decide, by decide, ?_⟩
      refine for_range (lo := 0) (n := (2 : Int).toNat) (fun i σ' H' => ∃ (f : Ex) (r' : V) (o6 : Option V), σ' = [some (.int n), some (.ref D9), o2, o3, o4, some r, o6, some r'] ∧ OddAt K a n H 100 D9 H' ∧ GMade K a H' e.gx r ∧ GMade K a H' f.gx r' ∧ 3 * f.size + 1 = 4 ^ (i + 1)) ?_ ?_ ?_
      · exact ⟨.num 1, .ref p1, o6, rfl, o11.same s12, me.same s12, gNum T 1 h12, rfl⟩
      · rintro i σ' H' hi ⟨f, r', o6, rfl, od, me, mf, zf⟩
        refine ⟨_, rfl, _, rfl, _, rfl, _, rfl, mk4 fun p2 d2 H2 h2 s2 => ?_⟩
        have mf' := mf.same s2
        refine ⟨.less f f f f, _, _, rfl, od.same s2, me.same s2, ⟨p2, d2, _, _, _, _, rfl, h2, mf', mf', mf', mf'⟩, ?_⟩
        rw [Nat.pow_succ]
        show 3 * (1 + f.size + f.size + f.size + f.size) + 1 = _
        omega
      · rintro σ' H' ⟨f, r', o6, rfl, od, me, mf, zf⟩
        have zf : 3 * f.size + 1 = 64 := zf
        exact ⟨f, r', o6, rfl, od, me, mf, by omega⟩
    rintro σ' H13 ⟨f, r', o6', rfl, o13, me, mf, zf⟩
    obtain ⟨rs9, e1, e2, e3, e4⟩ := id o13
    refine ⟨_, rfl, _, rfl, _, rfl, _, rfl, _, rfl, mk3 fun p2 d2 H14 h14 s14 => ?_⟩
    refine mk3 fun p3 d3 H15 h15 s15 => ?_
    refine ⟨(by show 2 ≤ sizeLine; decide), fun l hl => ?_⟩
    have sl := Same.new (o := HO.lst [r, V.ref p3]) hl
    have t15 := s15.trans sl
    have t14 := s14.trans t15
    have M : Menu K a n (upd H15 l (HO.lst [r, V.ref p3])) [r, V.ref p3] := by
      refine Menu.app (rs := [r]) (ss := [V.ref p3]) (Menu.one (me.same t14) (bad_deep (by omega))) (Menu.one (g := (Ex.two "add" f (.two "min" f f)).gx) ⟨p3, d3, _, _, rfl, sl _ _ h15, lf_str T _, mf.same t14, ⟨p2, d2, _, _, rfl, t15 _ _ h14, lf_str T _, mf.same t14, mf.same t14⟩⟩ (.inr ⟨_, rfl, ?_⟩))
      show 60 < 1 + f.size + (1 + f.size + f.size)
      omega
    exact ⟨D9, l, rs9, _, rfl, rfl, t14 _ _ e1, upd_same, szL (by show rs9.length + 2 ≤ 1000; omega), fun p hp => kk p _ ((OddAt.cat e1 o13 t14 M hp).le (by show 100 + 2 ≤ 1000; omega))⟩
end
end K04

/-! K06q -/
set_option Elab.async false
set_option linter.all false
set_option maxRecDepth 100000
set_option maxHeartbeats 4000000
namespace K04
open PySem L2
theorem Same.ofExt {l : Addr} {H H1 H2 : Hp} (s : Same H H1) (hl : H l = none) (x : Ext l H1 H2) : Same H H2 := fun b o e => x b o (s b o e) (ne_of_none e hl)
theorem Same.updF {p : Addr} {H H' : Hp} {o : HO} (x : Same H H') (h : H p = none) : Same H (upd H' p o) := fun b u e => by
  rw [upd_ne (ne_of_none e h)]
  exact x b u e
theorem lt4 {i : Nat} (h : i < 4) : i = 0 ∨ i = 1 ∨ i = 2 ∨ i = 3 := by omega
theorem splice4 {rs : List V} {r : V} {i : Nat} (hl : rs.length = 4) (hi : i < 4) : cutV rs none (some (i : Int)) ++ [r] ++ cutV rs (some ((i : Int) + 1)) none = rs.set i r := by
  match rs, hl with
  | [a, b, c, d], _ =>
    rcases lt4 hi with rfl | rfl | rfl | rfl <;> rfl
theorem sqSame {K : PySem.W.Frag} {H H' : Hp} {b : Addr} {xs : List V} (h : SqL K H b xs) (s : Same H H') : SqL K H' b xs := by
  rcases h with (h | ⟨o, h⟩) | h
  · exact .inl (.inl (s _ _ h))
  · exact .inl (.inr ⟨o, s _ _ h⟩)
  · exact .inr h
section
variable {P : Program} {w : World} {K : PySem.W.Frag} {mg : Str → Option Value} {base : Heap} {a : Ad}
theorem Made.updL {H : Hp} {D : Addr} {zs : List V} {o : HO} (hD : H D = some (.lst zs)) {e : Ex} {v : V} (t : Made a H e v) : Made a (L2.upd H D o) e v := t.mono fun b C dx fs h => by
  have hb : b ≠ D := ne_of h hD (by intro z; cases z)
  rw [upd_ne hb]
  exact h
def spCell (K : PySem.W.Frag) : Sp := fun vs H Q _ => ∃ (l : Addr) (ns : List Int) (k : Int), vs = [.ref l, .int k] ∧ SqL K H l (ns.map V.int) ∧ 0 ≤ k ∧ ∀ i : Int, Q (.int i) H
theorem ok_cell (T : Txt K mg a) : FnOk P w K mg base CX0 1 a.f__law_cell_at a.d__law_cell_at ["_law_script", "_law_k"] (spCell K) := by
  refine T.F__law_cell_at.ok sc__law_cell_at (fun vs H Q E h => ?_) (fun cdv A outer s H vs Q E hr h => ?_)
  · obtain ⟨l, ns, k, rfl, _⟩ := h
    rfl
  · obtain ⟨l, ns, k, rfl, hl, k0, q⟩ := h
    refine ⟨_, (pss_cons (ps_if (pt_cmpR op_lt (pv 1) (pe_callB call_len_seq (by rfl) T.n_len bt_len (pa_N (pv 0) pa_nil)) (nomark _))
        (pss_one (ps_ret (pe_ix ix_list (pv 0) (pv 1) (fun _ _ => rfl))))
        pss_nil)
      (pss_one (ps_ret pe_int))), ?_⟩
    refine ⟨_, rfl, _, rfl, l, _, rfl, .inl hl, _, _, rfl, rfl, _, rfl, ?_⟩
    rw [List.length_map]
    refine ite2 (fun z => ?_) (fun z => ?_)
    · have z : k < ns.length := of_decide_eq_true z
      obtain ⟨n, rfl⟩ : ∃ n : Nat, k = n := ⟨k.toNat, by omega⟩
      have hn : n < ns.length := by omega
      refine ⟨_, rfl, _, rfl, l, _, _, V.int ns[n], rfl, rfl, hl, atI_nat (by simp [hn]), ?_⟩
      exact q _
    · exact q 0
def spLaw (K : PySem.W.Frag) : Sp := fun vs H Q _ => ∃ (a : Addr) (ns : List Int), vs = [.ref a] ∧ SqL K H a (ns.map V.int) ∧ ns.length ≤ 63 ∧ ∀ H', Q (.bl true) H'
theorem sp_law_of {K : PySem.W.Frag} {H : Hp} {a : Addr} {ns : List Int} (hl : ns.length ≤ 63) (hO : Only H) (hS : SqL K H a (ns.map V.int)) : spLaw K [.ref a] H (fun v _ => v = .bl true) fun _ _ _ => False := ⟨a, ns, rfl, hS, hl, fun _ => rfl⟩
theorem ok_law (T : Txt K mg a) : FnOk P w K mg base CX0 27 a.f_law a.d_law ["_law_script"] (spLaw K) := by
  have c__law_cell_at : Callee P w K mg base "_law_cell_at" a.f__law_cell_at a.d__law_cell_at ["_law_script", "_law_k"] 1 (spCell K) := ⟨ok_cell T, T.g__law_cell_at, T.F__law_cell_at.kp, T.b__law_cell_at⟩
  have c__law_four : Callee P w K mg base "_law_four" a.f__law_four a.d__law_four ["_law_state"] 8 spFour := ⟨ok_four T, T.g__law_four, T.F__law_four.kp, T.b__law_four⟩
  have c__law_made : Callee P w K mg base "_law_made" a.f__law_made a.d__law_made ["_law_told"] 6 (spMade a 4) := ⟨ok_made T 4, T.g__law_made, T.F__law_made.kp, T.b__law_made⟩
  have c__law_refused : Callee P w K mg base "_law_refused" a.f__law_refused a.d__law_refused ["_law_exprs"] 24 (spRef K a) := ⟨ok_ref T, T.g__law_refused, T.F__law_refused.kp, T.b__law_refused⟩
  have c__law_odd : Callee P w K mg base "_law_odd" a.f__law_odd a.d__law_odd ["_law_at"] 3 (spOdd K a) := ⟨ok_odd T, T.g__law_odd, T.F__law_odd.kp, T.b__law_odd⟩
  have c__law_within : Callee P w K mg base "_law_within" a.f__law_within a.d__law_within ["_law_odd_here", "_law_way"] 3 (spWithin K a) := ⟨ok_within T, T.g__law_within, T.F__law_within.kp, T.b__law_within⟩
  refine T.F_law.ok sc_law (fun vs H Q E h => ?_) (fun cdv A outer s H vs Q E hr h => ?_)
  · obtain ⟨x, ns, rfl, _⟩ := h
    rfl
  · obtain ⟨sc, ns, rfl, hS, hlen, k⟩ := h
    refine bx_in (w_pss_cons (w_ps_setComp (i := 1) rfl sc_law.nd rfl (Or.inl rfl) (N' := ["_law_told"]) (t := 1) (caps := []) ⟨rfl, rfl, rfl⟩ (w_pi_list (w_pe_c c__law_four (hr.mono (by omega)) (w_pa_cons (w_pe_lst (w_pa_K (w_pe_c c__law_cell_at (hr.mono (by omega)) (w_pa_N (w_pv 0) (w_pa_C w_pe_int w_pa_nil))) w_pa_nil)) w_pa_nil))) (fun _ => (pg_name (i := 0) (show (["_law_told"] : List Str).Nodup by decide +kernel) rfl (Or.inl rfl))) (fun _ => w_pts_nil) (fun _ => (w_pe_c c__law_made (hr.mono (by omega)) (w_pa_N (w_pv 0) w_pa_nil))))
      (w_pss_cons (w_ps_if (w_pt_val (w_pe_c c__law_refused (hr.mono (by omega)) (w_pa_N (w_pv 1) w_pa_nil)))
        (w_pss_one (w_ps_ret w_pe_bl))
        w_pss_nil)
      (w_pss_cons (w_ps_for PassesOwn.never rfl (w_pi_range2 rfl T.n_range (w_pa_C w_pe_int (w_pa_K (w_pe_callB (call_max2 rfl) (by rfl) T.n_max bt_max (w_pa_C w_pe_int (w_pa_K (w_pe_callB (call_min2 rfl) (by rfl) T.n_min bt_min (w_pa_C w_pe_int (w_pa_K (w_pe_callB call_len_seq (by rfl) T.n_len bt_len (w_pa_N (w_pv 0) w_pa_nil)) w_pa_nil))) w_pa_nil))) w_pa_nil))) (pg_name (i := 2) sc_law.nd rfl (Or.inl rfl))
        (w_pss_cons (w_ps_set (i := 3) sc_law.nd rfl (Or.inl rfl) (w_pe_op op_add (w_pe_c c__law_cell_at (hr.mono (by omega)) (w_pa_N (w_pv 0) (w_pa_N (w_pv 2) w_pa_nil))) (w_pe_op op_mul w_pe_int (w_pv 2))))
        (w_pss_cons (w_ps_set (i := 4) sc_law.nd rfl (Or.inl rfl) (w_pe_op op_mod (w_pv 3) w_pe_int))
        (w_pss_cons (w_ps_set (i := 5) sc_law.nd rfl (Or.inl rfl) (w_pe_c c__law_odd (hr.mono (by omega)) (w_pa_N (w_pv 4) w_pa_nil)))
        (w_pss_cons (w_ps_set (i := 6) sc_law.nd rfl (Or.inl rfl) (w_pe_c c__law_within (hr.mono (by omega)) (w_pa_cons (w_pe_ix ix_list (w_pv 5) (w_pe_op op_mod (w_pe_op op_fdivG (w_pv 3) w_pe_int) (w_pe_callB call_len_seq (by rfl) T.n_len bt_len (w_pa_N (w_pv 5) w_pa_nil))) (fun _ _ => rfl)) (w_pa_B (w_pe_op op_mod (w_pe_op op_fdivG (w_pv 3) w_pe_int) w_pe_int) w_pa_nil))))
        (w_pss_one (w_ps_if (w_pt_not (w_pt_val (w_pe_c c__law_refused (hr.mono (by omega)) (w_pa_B (w_pe_op op_cat (w_pe_op op_cat (w_pe_slice sl_list (w_pv 1) w_po_none (w_po_some (w_pv 4))) (w_pe_lst (w_pa_N (w_pv 6) w_pa_nil))) (w_pe_slice sl_list (w_pv 1) (w_po_some (w_pe_op op_add (w_pv 4) w_pe_int)) w_po_none)) w_pa_nil))))
          (w_pss_one (w_ps_ret w_pe_bl))
          w_pss_nil)))))))
      (w_pss_one (w_ps_ret (w_pe_not (w_pe_c c__law_refused (hr.mono (by omega)) (w_pa_N (w_pv 1) w_pa_nil)))))))) ?_
    refine ⟨_, rfl, sc, ns, 0, rfl, hS, by omega, fun c => ?_⟩
    refine ⟨(by show 1 ≤ sizeLine; decide), fun l hl => ?_⟩
    have hs1 : StAt (L2.upd H l (.lst [V.int c])) l := ⟨_, upd_same, .inl ⟨c, rfl⟩⟩
    refine ⟨l, rfl, hs1, fun q v1 v2 v3 v4 e1 e2 e3 e4 H2 nq hq t1 t2 t3 t4 s2 x2 => ?_⟩
    obtain ⟨t1, o1', d1, z1⟩ := t1
    obtain ⟨t2, o2', d2, z2⟩ := t2
    obtain ⟨t3, o3', d3, z3⟩ := t3
    obtain ⟨t4, o4', d4, z4⟩ := t4
    have X2 : Same H H2 := Same.ofExt (Same.new hl) hl x2
    refine ⟨q, rfl, ⟨_, SqL.of hq⟩, fun D hD _ => ?_⟩
    have tolds : ∀ (i : Nat) x, [v1, v2, v3, v4][i]? = some x → ∃ e names, [e1, e2, e3, e4][i]? = some e ∧ Told H2 e x ∧ e.ok names ∧ e.dep ≤ 4 := fun i x hi => by
      match i, hi with
      | 0, hi => cases hi; exact ⟨e1, _, rfl, t1, o1', d1⟩
      | 1, hi => cases hi; exact ⟨e2, _, rfl, t2, o2', d2⟩
      | 2, hi => cases hi; exact ⟨e3, _, rfl, t3, o3', d3⟩
      | 3, hi => cases hi; exact ⟨e4, _, rfl, t4, o4', d4⟩
      | _ + 4, hi => simp at hi
    refine comp_list (K := K) (a := q) (xs := [v1, v2, v3, v4]) (fun i zs τ H' => ∃ o, τ = [o] ∧ zs.length = i ∧ i ≤ 4 ∧ H' D = some (.lst zs) ∧ Same H2 H' ∧ ∀ (j : Nat) z, zs[j]? = some z → ∃ e, [e1, e2, e3, e4][j]? = some e ∧ Made a H' e z) ?_ ?_ ?_ ?_
    · exact ⟨none, rfl, rfl, Nat.zero_le _, upd_same, Same.new hD, fun j z hz => by simp at hz⟩
    · rintro i zs τ H' ⟨o, _, _, _, _, sm, _⟩
      exact SqL.of (sm _ _ hq)
    · rintro i x zs τ H' hi ⟨o, rfl, hz, _, hD', sm, hm⟩
      have hi4 : i < 4 := (List.getElem?_eq_some_iff.mp hi).1
      obtain ⟨e, names, he, ht, ho, hdp⟩ := tolds i x hi
      refine gn_if ?_
      refine ⟨_, rfl, e, x, names, rfl, ht.same sm, hdp, ho, fun r H6 m6 s6 => ⟨s6 _ _ hD', small1000 (by omega), some x, rfl, by simp [hz], hi4, upd_same, Same.updF (sm.trans s6) hD, fun j z hj => ?_⟩⟩
      have hD6 := s6 _ _ hD'
      by_cases q : j < zs.length
      · rw [List.getElem?_append_left q] at hj
        obtain ⟨e', he', m'⟩ := hm j z hj
        exact ⟨e', he', (m'.same s6).updL hD6⟩
      · rw [List.getElem?_append_right (by omega)] at hj
        obtain ⟨n, hn⟩ : ∃ n, n = j - zs.length := ⟨_, rfl⟩
        rw [← hn] at hj
        cases n with
        | zero =>
          cases hj
          have : j = i := by omega
          subst this
          exact ⟨e, he, m6.updL hD6⟩
        | succ n => simp at hj
    · rintro zs τ H3 ⟨o, rfl, hz, _, hD3, sm, hm⟩
      match zs, hz, hD3, hm with
      | [r1, r2, r3, r4], _, hD3, hm =>
      obtain ⟨e, he, m1⟩ := hm 0 r1 rfl
      cases he
      obtain ⟨e, he, m2⟩ := hm 1 r2 rfl
      cases he
      obtain ⟨e, he, m3⟩ := hm 2 r3 rfl
      cases he
      obtain ⟨e, he, m4⟩ := hm 3 r4 rfl
      cases he
      have g1 := m1.gx T
      have g2 := m2.gx T
      have g3 := m3.gx T
      have g4 := m4.gx T
      have good : Good4 e1.gx e2.gx e3.gx e4.gx := ⟨e1, e2, e3, e4, ⟨rfl, rfl, rfl, rfl⟩, ⟨o1', o2', o3', o4'⟩, ⟨by omega, by omega, by omega, by omega⟩, by omega⟩
      have hS3 := sqSame hS (X2.trans sm)
      refine ⟨_, rfl, D, r1, r2, r3, r4, _, _, _, _, rfl, hD3, ⟨g1, g2, g3, g4⟩, fun _ H4 s4 => ?_, fun z => absurd good z⟩
      refine ⟨_, rfl, iteN rfl ?_⟩
      have hD4 := s4 _ _ hD3
      have hS4 := sqSame hS3 s4
      have q1 := g1.same s4
      have q2 := g2.same s4
      have q3 := g3.same s4
      have q4 := g4.same s4
      refine ⟨_, rfl, sc, _, rfl, .inl hS4, 40, _, rfl, 2, _, rfl, 1, _, rfl, ⟨by decide, by decide, ?_, ?_⟩, ?_⟩
      · rw [List.length_map]
        repeat' split
        all_goals omega
      · rw [List.length_map]
        repeat' split
        all_goals omega
      refine for_range (lo := 1) (fun i σ H' => ∃ (o2 o3 o4 o5 o6 : Option V), σ = [some (.ref sc), some (.ref D), o2, o3, o4, o5, o6] ∧ Same H4 H') ?_ ?_ ?_
      · exact ⟨none, none, none, none, none, rfl, Same.refl H4⟩
      · rintro i σ H5 hi ⟨o2, o3, o4, o5, o6, rfl, s5⟩
        refine ⟨_, rfl, _, rfl, sc, ns, _, rfl, sqSame hS4 s5, by omega, fun c' => ?_⟩
        refine ⟨_, rfl, 7, _, rfl, rfl, .inl ⟨by decide, by decide⟩, _, _, rfl, rfl, ?_⟩
        refine ⟨_, rfl, _, _, rfl, rfl, (by show (0 : Int) < 4; decide), ?_⟩
        obtain ⟨cell, hcell⟩ : ∃ x, c' + 7 * (1 + (i : Int)) = x := ⟨_, rfl⟩
        obtain ⟨at_, hat⟩ : ∃ m : Nat, cell % 4 = m := ⟨(cell % 4).toNat, by omega⟩
        have hlt : at_ < 4 := by omega
        show gName 4 (V.int ((c' + 7 * (1 + (i : Int))) % 4)) [some (.ref sc), some (.ref D), some (.int (1 + (i : Int))), some (.int (c' + 7 * (1 + (i : Int)))), o4, o5, o6] H5 _
        rw [hcell, hat]
        refine ⟨_, rfl, at_, rfl, hlt, fun p H6 od => ?_⟩
        obtain ⟨rs, f1, f2, f3, f4, f5, f6⟩ := od
        have w0 : 0 ≤ cell / 16 % (rs.length : Int) := Int.emod_nonneg _ (by omega)
        have w1 : cell / 16 % (rs.length : Int) < rs.length := Int.emod_lt_of_pos _ (by omega)
        obtain ⟨v, ha, hv⟩ := pickV w0 w1
        obtain ⟨g, mg', bg⟩ := f4 v hv
        refine ⟨_, rfl, _, rfl, _, _, rfl, rfl, ⟨by decide, by decide⟩, _, rfl, p, rs, rfl, .inl (SqL.of f1), _, _, rfl, rfl, (by show (0 : Int) < _; omega), p, rs, _, v, rfl, rfl, SqL.of f1, ha, _, rfl, _, _, rfl, rfl, ⟨by decide, by decide⟩, _, _, rfl, rfl, (by show (0 : Int) < 4; decide), v, _, at_, g, rfl, mg', bg, fun g' r' H7 m7 b7 s7 => ?_⟩
        have s47 := (s5.trans f6).trans s7
        have hD7 := s47 _ _ hD4
        refine ⟨_, rfl, _, rfl, _, rfl, D, _, rfl, SqL.of hD7, fun pa hpa => ?_⟩
        have sa := Same.new (o := HO.lst (cutV [r1, r2, r3, r4] none (some (at_ : Int)))) hpa
        refine ⟨_, rfl, (by show 1 ≤ sizeLine; decide), fun pb hpb => ?_⟩
        have sb := Same.new (o := HO.lst [r']) hpb
        refine ⟨pa, pb, _, _, rfl, rfl, sb _ _ upd_same, upd_same, ?_, fun pc hpc => ?_⟩
        · have := cutV_length [r1, r2, r3, r4] none (some (at_ : Int))
          simp only [List.length_cons, List.length_nil] at this ⊢
          exact szL (by omega)
        have sc' := Same.new (o := HO.lst (cutV [r1, r2, r3, r4] none (some (at_ : Int)) ++ [r'])) hpc
        have hDc := sc' _ _ (sb _ _ (sa _ _ hD7))
        refine ⟨_, rfl, _, rfl, _, _, rfl, rfl, _, rfl, D, _, rfl, SqL.of hDc, fun pe hpe => ?_⟩
        have se := Same.new (o := HO.lst (cutV [r1, r2, r3, r4] (some ((at_ : Int) + 1)) none)) hpe
        refine ⟨pc, pe, _, _, rfl, rfl, se _ _ upd_same, upd_same, ?_, fun pf hpf => ?_⟩
        · have h1 := cutV_length [r1, r2, r3, r4] none (some (at_ : Int))
          have h2 := cutV_length [r1, r2, r3, r4] (some ((at_ : Int) + 1)) none
          rw [List.length_append]
          simp only [List.length_cons, List.length_nil] at h1 h2 ⊢
          exact szL (by omega)
        rw [splice4 rfl hlt]
        have sf := Same.new (o := HO.lst ([r1, r2, r3, r4].set at_ r')) hpf
        have st := (((sa.trans sb).trans sc').trans se).trans sf
        have s4f := s47.trans st
        have M := m7.same st
        have q1' := q1.same s4f
        have q2' := q2.same s4f
        have q3' := q3.same s4f
        have q4' := q4.same s4f
        rcases lt4 hlt with rfl | rfl | rfl | rfl
        · exact ⟨pf, _, _, _, _, _, _, _, _, rfl, upd_same, ⟨M, q2', q3', q4'⟩, fun z => absurd z b7.not1, fun _ H8 s8 => ⟨_, rfl, iteN rfl ⟨_, _, _, _, _, rfl, s4f.trans s8⟩⟩⟩
        · exact ⟨pf, _, _, _, _, _, _, _, _, rfl, upd_same, ⟨q1', M, q3', q4'⟩, fun z => absurd z b7.not2, fun _ H8 s8 => ⟨_, rfl, iteN rfl ⟨_, _, _, _, _, rfl, s4f.trans s8⟩⟩⟩
        · exact ⟨pf, _, _, _, _, _, _, _, _, rfl, upd_same, ⟨q1', q2', M, q4'⟩, fun z => absurd z b7.not3, fun _ H8 s8 => ⟨_, rfl, iteN rfl ⟨_, _, _, _, _, rfl, s4f.trans s8⟩⟩⟩
        · exact ⟨pf, _, _, _, _, _, _, _, _, rfl, upd_same, ⟨q1', q2', q3', M⟩, fun z => absurd z b7.not4, fun _ H8 s8 => ⟨_, rfl, iteN rfl ⟨_, _, _, _, _, rfl, s4f.trans s8⟩⟩⟩
      · rintro σ H5 ⟨o2, o3, o4, o5, o6, rfl, s5⟩
        refine ⟨_, rfl, D, r1, r2, r3, r4, _, _, _, _, rfl, s5 _ _ hD4, ⟨q1.same s5, q2.same s5, q3.same s5, q4.same s5⟩, fun _ H8 s8 => ?_, fun z => absurd good z⟩
        exact ⟨_, rfl, k _⟩
end
end K04

/-! Hx_k06 -/
set_option Elab.async false
set_option linter.all false
set_option maxRecDepth 100000
set_option maxHeartbeats 4000000
noncomputable section
namespace Hd
open PySem PySem.W PySem.Calls PyProof.Rows
def tt {α : Type} (_ : α) : Bool := true
def S (i : Nat) : Stmt := PySem.Challenge.pw_beatless_k06_programs_refused.main.body.getD i (.Pass ⟨0, 0, 0, 0⟩)
def en (P : Params) (x : Str) (t : Tok) (v : Value) : DictEntry := ⟨PyData.keyHash P x, .str x t, v⟩
def fd (n q : Str) (s : Stmt) (g : Addr) (cl : List (Str × Addr)) (d k c m : Value) (an : Option Addr) (cd ct : Value) (b : Addr) : FuncData :=
  ⟨n, q, L2.defArgs s, .stmts (L2.defBody s), L2.defScope s, g, cl, d, k, c, m, an, cd, ct, b⟩
abbrev an : Option Value := (Option.some (.ref 6))
def env : Env := { scope := PySem.Challenge.pw_beatless_k06_programs_refused.main.scope, locals := mainNs, globals := mainNs, cells := [], code := (.ref 13), frame := some 14 }
abbrev bE : List Stmt := behindTheImports PySem.Challenge.pw_beatless_k06_programs_refused
abbrev cE : Code := .body bE env
abbrev qE : Pos := (Pos.mk 0 0 0 0)
abbrev B : List Frame := [topFrame qE]
def s0 (w : World) (os : OsState) : Shared := ⟨boot_heap w.params, ⟨[]⟩, boot_drawn, boot_toks, os⟩
def o0 (P : Params) : Obj := (Obj.mk (.type "tuple") (Option.none) (Data.seq #[] 0) #[])
def o1 (P : Params) : Obj := (Obj.mk .none (Option.none) (Data.fields #[]) #[])
def o2 (P : Params) : Obj := (Obj.mk (.type "code") (Option.none) (Data.fields #[(.str "<module>" 182), (.str "<module>" 183), (.str "/claim/cut.py" 184), (.int (1 : Int) 0), (.int (0 : Int) 0), (.int (0 : Int) 0), (.int (0 : Int) 0), (.int (0 : Int) 0), (.ref 11), (.bool Bool.false), (.int (181 : Int) 0), (.ref 12), .none, .none, .none, .none, (.int (185 : Int) 0), (.int (1 : Int) 0), (.str "/claim/cut.py" 186)]) #[])
def o3 (P : Params) : Obj := (Obj.mk (.type "frame") (Option.none) Data.plain #[(Option.some (.ref 13)), (Option.some (.ref 3)), (Option.some (.ref 3)), (Option.none), (Option.some (.str "__main__" 164)), (Option.none), (Option.some (.ref 0))])
def t0 (P : Params) : BT := .node (boot_o_7 P) .nil .nil
def t1 (P : Params) : BT := .node (o0 P) .nil .nil
def t2 (P : Params) : BT := .node (boot_o_3 P) (t0 P) (t1 P)
def t3 (P : Params) : BT := .node (boot_o_9 P) .nil .nil
def t4 (P : Params) : BT := .node (o2 P) .nil .nil
def t5 (P : Params) : BT := .node (boot_o_5 P) (t3 P) (t4 P)
def t6 (P : Params) : BT := .node (boot_o_1 P) (t2 P) (t5 P)
def t7 (P : Params) : BT := .node (boot_o_8 P) .nil .nil
def t8 (P : Params) : BT := .node (o1 P) .nil .nil
def t9 (P : Params) : BT := .node (boot_o_4 P) (t7 P) (t8 P)
def t10 (P : Params) : BT := .node (boot_o_10 P) .nil .nil
def t11 (P : Params) : BT := .node (o3 P) .nil .nil
def t12 (P : Params) : BT := .node (boot_o_6 P) (t10 P) (t11 P)
def t13 (P : Params) : BT := .node (boot_o_2 P) (t9 P) (t12 P)
def t14 (P : Params) : BT := .node (boot_o_0 P) (t6 P) (t13 P)
def sa (w : World) (os : OsState) : SharedT := ⟨(t14 w.params), 15, (Life.mk [] [] [] 0 [] [] Bool.false #[] [] 0 Bool.false Bool.false Bool.false (0 : Int) [(2000 : Int), (10 : Int), (10 : Int)] Bool.false 0 Bool.true [] [] 0 Bool.false), ⟨[]⟩, (Drawn.mk 0 0 0 0), 187, os⟩
def La (w : World) (os : OsState) : Option (Shared × Thread) := topGo treeTable PySem.Challenge.pw_beatless_k06_programs_refused w 11 an 12 (s0 w os) (topStub PySem.Challenge.pw_beatless_k06_programs_refused)
def Ra (w : World) (os : OsState) : Option (Shared × Thread) := some ((sa w os).abs, ⟨denote treeTable cE, cE, (Pos.mk 0 0 0 0), B⟩)
theorem qa : tt (Hd.La, Hd.Ra) = true := by k_qdec
theorem ra : ∀ w, PySem.W.Fast.tw11367235000924431832 w = PySem.W.Fast.tw15912052731592885781 w := fun w => by kernel_rfl
theorem ea (w : World) (os : OsState) : Hd.La w os = Hd.Ra w os :=
  (congrFun (congrFun PySem.W.Fast.te11367235000924431832 w) os).trans ((congrFun (ra w) os).trans (congrFun (congrFun PySem.W.Fast.te15912052731592885781 w) os).symm)
def sb0 (w : World) (os : OsState) : SharedT := ⟨(t14 w.params), 15, (Life.mk [] [] [] 0 [] [] Bool.false #[] [] 0 Bool.false Bool.false Bool.false (0 : Int) [(2000 : Int), (10 : Int), (10 : Int)] Bool.false 0 Bool.true [] [] 0 Bool.false), ⟨[]⟩, (Drawn.mk 0 0 0 0), 187, os⟩
def Lb (w : World) (os : OsState) : Option (Flow × SharedT × Code × Pos) := segRunT treeTable PySem.Challenge.pw_beatless_k06_programs_refused w 11 an 1 1 (sa w os) (blockOf bE env cE (Pos.mk 0 0 0 0) B)
def Rb (w : World) (os : OsState) : Option (Flow × SharedT × Code × Pos) := some (.next, sb0 w os, cE, (Pos.mk 0 0 0 0))
theorem qb : tt (Hd.Lb, Hd.Rb) = true := by k_qdec
theorem rb : ∀ w, PySem.W.Fast.tw16430817790641568776 w = PySem.W.Fast.tw15716482383535360375 w := fun w => by kernel_rfl
theorem eb (w : World) (os : OsState) : Hd.Lb w os = Hd.Rb w os :=
  (congrFun (congrFun PySem.W.Fast.te16430817790641568776 w) os).trans ((congrFun (rb w) os).trans (congrFun (congrFun PySem.W.Fast.te15716482383535360375 w) os).symm)
def sts0 : List Stmt := [S 0, S 1, S 2]
def o4 (P : Params) : Obj := (Obj.mk (.type "dict") (Option.none) (Data.dict #[en P "__name__" 165 (.str "beatless.errors" 194), en P "__doc__" 166 .none, en P "__package__" 167 .none, en P "__loader__" 168 (.builtin "__main__.__loader__#opaque"), en P "__spec__" 169 .none, en P "__annotations__" 170 (.ref 6), en P "__builtins__" 171 (.ref 4), en P "__file__" 173 (.str "/claim/cut.py" 172), en P "__cached__" 174 .none, en P "_wall" 193 (.ref 21), en P "BeatlessError" 213 (.ref 31)] 11) #[])
def o5 (P : Params) : Obj := (Obj.mk .none (Option.none) (Data.fields #[(.int (1 : Int) 0), (.int (0 : Int) 0), (.ref 20), (.int (5 : Int) 0), (.int (0 : Int) 0), (.ref 27)]) #[])
def o6 (P : Params) : Obj := (Obj.mk (.type "tuple") (Option.none) (Data.seq #[] 0) #[])
def o7 (P : Params) : Obj := (Obj.mk .none (Option.none) (Data.fields #[]) #[])
def o8 (P : Params) : Obj := (Obj.mk (.type "tuple") (Option.none) (Data.seq #[(.str "k" 190)] 0) #[])
def o9 (P : Params) : Obj := (Obj.mk (.type "tuple") (Option.none) (Data.seq #[] 0) #[])
def o10 (P : Params) : Obj := (Obj.mk .none (Option.none) (Data.func (fd "_wall" "_wall" (S 0) 0 [] .none .none .none .none (Option.none) .none .none 0)) #[])
def o11 (P : Params) : Obj := (Obj.mk (.type "code") (Option.none) (Data.fields #[(.str "_wall" 187), (.str "_wall" 188), (.str "/claim/cut.py" 189), (.int (1 : Int) 0), (.int (1 : Int) 0), (.int (0 : Int) 0), (.int (0 : Int) 0), (.int (3 : Int) 0), (.ref 15), (.bool Bool.true), (.int (181 : Int) 0), (.ref 16), .none, (.ref 17), (.ref 18), (.ref 19), (.int (191 : Int) 0), (.int (1 : Int) 0), (.str "/claim/cut.py" 192)]) #[])
def o12 (P : Params) : Obj := (Obj.mk (.type "function") (Option.none) (Data.func (fd "_wall" "_wall" (S 0) 3 [] .none .none .none (.str "__main__" 164) (Option.none) (.ref 20) .none 0)) #[])
def o13 (P : Params) : Obj := (Obj.mk (.type "tuple") (Option.none) (Data.seq #[(.type "ValueError")] 0) #[])
def o14 (P : Params) : Obj := (Obj.mk (.type "builtin_function_or_method") (Option.none) (Data.fields #[(.builtin "type.__prepare__"), (.type "type")]) #[])
def o15 (P : Params) : Obj := (Obj.mk (.type "dict") (Option.none) (Data.dict #[en P "__module__" 203 (.str "beatless.errors" 194), en P "__qualname__" 205 (.str "BeatlessError" 204), en P "__firstlineno__" 207 (.int (5 : Int) 206), en P "__static_attributes__" 208 (.ref 29)] 4) #[])
def o16 (P : Params) : Obj := (Obj.mk (.type "tuple") (Option.none) (Data.seq #[] 0) #[])
def o17 (P : Params) : Obj := (Obj.mk .none (Option.none) (Data.fields #[]) #[])
def o18 (P : Params) : Obj := (Obj.mk (.type "code") (Option.none) (Data.fields #[(.str "BeatlessError" 198), (.str "BeatlessError" 199), (.str "/claim/cut.py" 200), (.int (5 : Int) 0), (.int (0 : Int) 0), (.int (0 : Int) 0), (.int (0 : Int) 0), (.int (0 : Int) 0), (.ref 25), (.bool Bool.false), (.int (181 : Int) 0), (.ref 26), .none, .none, .none, .none, (.int (201 : Int) 0), (.int (5 : Int) 0), (.str "/claim/cut.py" 202)]) #[])
def o19 (P : Params) : Obj := (Obj.mk (.type "frame") (Option.none) Data.plain #[(Option.some (.ref 27)), (Option.some (.ref 3)), (Option.some (.ref 24)), (Option.none), (Option.some (.str "beatless.errors" 194)), (Option.none), (Option.some (.ref 0))])
def o20 (P : Params) : Obj := (Obj.mk (.type "tuple") (Option.none) (Data.seq #[] 0) #[])
def o21 (P : Params) : Obj := (Obj.mk (.type "dict") (Option.none) (Data.dict #[en P "__module__" 203 (.str "beatless.errors" 194), en P "__firstlineno__" 207 (.int (5 : Int) 206), en P "__static_attributes__" 208 (.ref 29), en P "__weakref__" 210 (.ref 32), en P "__doc__" 211 .none] 3) #[])
def o22 (P : Params) : Obj := (Obj.mk (.type "type") (Option.none) (Data.cls (ClassData.mk "BeatlessError" [(.type "ValueError")] [(.ref 31), (.type "ValueError"), (.type "Exception"), (.type "BaseException"), (.type "object")] 30 "BeatlessError" Bool.true [] [] Bool.false (Option.none) Bool.false)) #[(Option.some (.ref 22)), (Option.none), (Option.some (.str "BeatlessError" 196)), (Option.some (.str "BeatlessError" 204)), (Option.some (.builtin "ValueError.__new__")), (Option.some (.bool Bool.true))])
def o23 (P : Params) : Obj := (Obj.mk (.type "getset_descriptor") (Option.none) (Data.fields #[(.str "__weakref__" 209), (.ref 31), (.builtin "ExceptionGroup.__weakref__"), .none]) #[])
def o24 (P : Params) : Obj := (Obj.mk (.type "super") (Option.none) (Data.fields #[(.ref 31), (.ref 31), (.ref 31)]) #[])
def o25 (P : Params) : Obj := (Obj.mk (.type "builtin_function_or_method") (Option.none) (Data.fields #[(.builtin "object.__init_subclass__"), (.ref 31)]) #[])
def t15 (P : Params) : BT := .node (o22 P) .nil .nil
def t16 (P : Params) : BT := .node (o6 P) (t15 P) .nil
def t17 (P : Params) : BT := .node (o14 P) .nil .nil
def t18 (P : Params) : BT := .node (boot_o_7 P) (t16 P) (t17 P)
def t19 (P : Params) : BT := .node (o10 P) .nil .nil
def t20 (P : Params) : BT := .node (o18 P) .nil .nil
def t21 (P : Params) : BT := .node (o0 P) (t19 P) (t20 P)
def t22 (P : Params) : BT := .node (o4 P) (t18 P) (t21 P)
def t23 (P : Params) : BT := .node (o24 P) .nil .nil
def t24 (P : Params) : BT := .node (o8 P) (t23 P) .nil
def t25 (P : Params) : BT := .node (o16 P) .nil .nil
def t26 (P : Params) : BT := .node (boot_o_9 P) (t24 P) (t25 P)
def t27 (P : Params) : BT := .node (o12 P) .nil .nil
def t28 (P : Params) : BT := .node (o20 P) .nil .nil
def t29 (P : Params) : BT := .node (o2 P) (t27 P) (t28 P)
def t30 (P : Params) : BT := .node (boot_o_5 P) (t26 P) (t29 P)
def t31 (P : Params) : BT := .node (boot_o_1 P) (t22 P) (t30 P)
def t32 (P : Params) : BT := .node (o23 P) .nil .nil
def t33 (P : Params) : BT := .node (o7 P) (t32 P) .nil
def t34 (P : Params) : BT := .node (o15 P) .nil .nil
def t35 (P : Params) : BT := .node (boot_o_8 P) (t33 P) (t34 P)
def t36 (P : Params) : BT := .node (o11 P) .nil .nil
def t37 (P : Params) : BT := .node (o19 P) .nil .nil
def t38 (P : Params) : BT := .node (o5 P) (t36 P) (t37 P)
def t39 (P : Params) : BT := .node (boot_o_4 P) (t35 P) (t38 P)
def t40 (P : Params) : BT := .node (o25 P) .nil .nil
def t41 (P : Params) : BT := .node (o9 P) (t40 P) .nil
def t42 (P : Params) : BT := .node (o17 P) .nil .nil
def t43 (P : Params) : BT := .node (boot_o_10 P) (t41 P) (t42 P)
def t44 (P : Params) : BT := .node (o13 P) .nil .nil
def t45 (P : Params) : BT := .node (o21 P) .nil .nil
def t46 (P : Params) : BT := .node (o3 P) (t44 P) (t45 P)
def t47 (P : Params) : BT := .node (boot_o_6 P) (t43 P) (t46 P)
def t48 (P : Params) : BT := .node (boot_o_2 P) (t39 P) (t47 P)
def t49 (P : Params) : BT := .node (boot_o_0 P) (t31 P) (t48 P)
def sb1 (w : World) (os : OsState) : SharedT := ⟨(t49 w.params), 35, (Life.mk [] [] [] 0 [] [] Bool.false #[] [] 0 Bool.false Bool.false Bool.false (0 : Int) [(2000 : Int), (10 : Int), (10 : Int)] Bool.false 0 Bool.true [] [] 0 Bool.false), ⟨[]⟩, (Drawn.mk 0 0 0 0), 214, os⟩
def L0 (w : World) (os : OsState) : Option (Flow × SharedT × Code × Pos) := segRunT treeTable PySem.Challenge.pw_beatless_k06_programs_refused w 11 an 1 225 (sb0 w os) (piecesOf sts0 env cE (Pos.mk 0 0 0 0) B)
def R0 (w : World) (os : OsState) : Option (Flow × SharedT × Code × Pos) := some (.next, sb1 w os, cE, (Pos.mk 5 0 6 8))
theorem q0 : tt (Hd.L0, Hd.R0) = true := by k_qdec
theorem r0 : ∀ w, PySem.W.Fast.tw4453942571644881324 w = PySem.W.Fast.tw13470614248104656481 w := fun w => by kernel_rfl
theorem e0 (w : World) (os : OsState) : Hd.L0 w os = Hd.R0 w os :=
  (congrFun (congrFun PySem.W.Fast.te4453942571644881324 w) os).trans ((congrFun (r0 w) os).trans (congrFun (congrFun PySem.W.Fast.te13470614248104656481 w) os).symm)
def sts1 : List Stmt := [S 3]
def o26 (P : Params) : Obj := (Obj.mk (.type "dict") (Option.none) (Data.dict #[en P "__name__" 165 (.str "beatless.errors" 194), en P "__doc__" 166 .none, en P "__package__" 167 .none, en P "__loader__" 168 (.builtin "__main__.__loader__#opaque"), en P "__spec__" 169 .none, en P "__annotations__" 170 (.ref 6), en P "__builtins__" 171 (.ref 4), en P "__file__" 173 (.str "/claim/cut.py" 172), en P "__cached__" 174 .none, en P "_wall" 193 (.ref 21), en P "BeatlessError" 213 (.ref 31), en P "NoWeb" 229 (.ref 44)] 12) #[])
def o27 (P : Params) : Obj := (Obj.mk .none (Option.none) (Data.fields #[(.int (1 : Int) 0), (.int (0 : Int) 0), (.ref 20), (.int (5 : Int) 0), (.int (0 : Int) 0), (.ref 27), (.int (7 : Int) 0), (.int (0 : Int) 0), (.ref 40)]) #[])
def o28 (P : Params) : Obj := (Obj.mk (.type "type") (Option.none) (Data.cls (ClassData.mk "BeatlessError" [(.type "ValueError")] [(.ref 31), (.type "ValueError"), (.type "Exception"), (.type "BaseException"), (.type "object")] 30 "BeatlessError" Bool.true [] [(.ref 44)] Bool.false (Option.none) Bool.false)) #[(Option.some (.ref 22)), (Option.none), (Option.some (.str "BeatlessError" 196)), (Option.some (.str "BeatlessError" 204)), (Option.some (.builtin "ValueError.__new__")), (Option.some (.bool Bool.true))])
def o29 (P : Params) : Obj := (Obj.mk (.type "tuple") (Option.none) (Data.seq #[(.ref 31)] 0) #[])
def o30 (P : Params) : Obj := (Obj.mk (.type "builtin_function_or_method") (Option.none) (Data.fields #[(.builtin "type.__prepare__"), (.type "type")]) #[])
def o31 (P : Params) : Obj := (Obj.mk (.type "dict") (Option.none) (Data.dict #[en P "__module__" 221 (.str "beatless.errors" 194), en P "__qualname__" 223 (.str "NoWeb" 222), en P "__firstlineno__" 225 (.int (7 : Int) 224), en P "__static_attributes__" 226 (.ref 42)] 4) #[])
def o32 (P : Params) : Obj := (Obj.mk (.type "tuple") (Option.none) (Data.seq #[] 0) #[])
def o33 (P : Params) : Obj := (Obj.mk .none (Option.none) (Data.fields #[]) #[])
def o34 (P : Params) : Obj := (Obj.mk (.type "code") (Option.none) (Data.fields #[(.str "NoWeb" 216), (.str "NoWeb" 217), (.str "/claim/cut.py" 218), (.int (7 : Int) 0), (.int (0 : Int) 0), (.int (0 : Int) 0), (.int (0 : Int) 0), (.int (0 : Int) 0), (.ref 38), (.bool Bool.false), (.int (181 : Int) 0), (.ref 39), .none, .none, .none, .none, (.int (219 : Int) 0), (.int (7 : Int) 0), (.str "/claim/cut.py" 220)]) #[])
def o35 (P : Params) : Obj := (Obj.mk (.type "frame") (Option.none) Data.plain #[(Option.some (.ref 40)), (Option.some (.ref 3)), (Option.some (.ref 37)), (Option.none), (Option.some (.str "beatless.errors" 194)), (Option.none), (Option.some (.ref 0))])
def o36 (P : Params) : Obj := (Obj.mk (.type "tuple") (Option.none) (Data.seq #[] 0) #[])
def o37 (P : Params) : Obj := (Obj.mk (.type "dict") (Option.none) (Data.dict #[en P "__module__" 221 (.str "beatless.errors" 194), en P "__firstlineno__" 225 (.int (7 : Int) 224), en P "__static_attributes__" 226 (.ref 42), en P "__doc__" 227 .none] 2) #[])
def o38 (P : Params) : Obj := (Obj.mk (.type "type") (Option.none) (Data.cls (ClassData.mk "NoWeb" [(.ref 31)] [(.ref 44), (.ref 31), (.type "ValueError"), (.type "Exception"), (.type "BaseException"), (.type "object")] 43 "NoWeb" Bool.true [] [] Bool.false (Option.none) Bool.false)) #[(Option.some (.ref 35)), (Option.none), (Option.some (.str "NoWeb" 214)), (Option.some (.str "NoWeb" 222)), (Option.some (.builtin "ValueError.__new__")), (Option.some (.bool Bool.true))])
def o39 (P : Params) : Obj := (Obj.mk (.type "super") (Option.none) (Data.fields #[(.ref 44), (.ref 44), (.ref 44)]) #[])
def o40 (P : Params) : Obj := (Obj.mk (.type "builtin_function_or_method") (Option.none) (Data.fields #[(.builtin "object.__init_subclass__"), (.ref 44)]) #[])
def t50 (P : Params) : BT := .node (o28 P) .nil .nil
def t51 (P : Params) : BT := .node (o6 P) (t50 P) .nil
def t52 (P : Params) : BT := .node (o33 P) .nil .nil
def t53 (P : Params) : BT := .node (o14 P) (t52 P) .nil
def t54 (P : Params) : BT := .node (boot_o_7 P) (t51 P) (t53 P)
def t55 (P : Params) : BT := .node (o29 P) .nil .nil
def t56 (P : Params) : BT := .node (o10 P) (t55 P) .nil
def t57 (P : Params) : BT := .node (o37 P) .nil .nil
def t58 (P : Params) : BT := .node (o18 P) (t57 P) .nil
def t59 (P : Params) : BT := .node (o0 P) (t56 P) (t58 P)
def t60 (P : Params) : BT := .node (o26 P) (t54 P) (t59 P)
def t61 (P : Params) : BT := .node (o35 P) .nil .nil
def t62 (P : Params) : BT := .node (o16 P) (t61 P) .nil
def t63 (P : Params) : BT := .node (boot_o_9 P) (t24 P) (t62 P)
def t64 (P : Params) : BT := .node (o31 P) .nil .nil
def t65 (P : Params) : BT := .node (o12 P) (t64 P) .nil
def t66 (P : Params) : BT := .node (o39 P) .nil .nil
def t67 (P : Params) : BT := .node (o20 P) (t66 P) .nil
def t68 (P : Params) : BT := .node (o2 P) (t65 P) (t67 P)
def t69 (P : Params) : BT := .node (boot_o_5 P) (t63 P) (t68 P)
def t70 (P : Params) : BT := .node (boot_o_1 P) (t60 P) (t69 P)
def t71 (P : Params) : BT := .node (o34 P) .nil .nil
def t72 (P : Params) : BT := .node (o15 P) (t71 P) .nil
def t73 (P : Params) : BT := .node (boot_o_8 P) (t33 P) (t72 P)
def t74 (P : Params) : BT := .node (o30 P) .nil .nil
def t75 (P : Params) : BT := .node (o11 P) (t74 P) .nil
def t76 (P : Params) : BT := .node (o38 P) .nil .nil
def t77 (P : Params) : BT := .node (o19 P) (t76 P) .nil
def t78 (P : Params) : BT := .node (o27 P) (t75 P) (t77 P)
def t79 (P : Params) : BT := .node (boot_o_4 P) (t73 P) (t78 P)
def t80 (P : Params) : BT := .node (o36 P) .nil .nil
def t81 (P : Params) : BT := .node (o17 P) (t80 P) .nil
def t82 (P : Params) : BT := .node (boot_o_10 P) (t41 P) (t81 P)
def t83 (P : Params) : BT := .node (o32 P) .nil .nil
def t84 (P : Params) : BT := .node (o13 P) (t83 P) .nil
def t85 (P : Params) : BT := .node (o40 P) .nil .nil
def t86 (P : Params) : BT := .node (o21 P) (t85 P) .nil
def t87 (P : Params) : BT := .node (o3 P) (t84 P) (t86 P)
def t88 (P : Params) : BT := .node (boot_o_6 P) (t82 P) (t87 P)
def t89 (P : Params) : BT := .node (boot_o_2 P) (t79 P) (t88 P)
def t90 (P : Params) : BT := .node (boot_o_0 P) (t70 P) (t89 P)
def sb2 (w : World) (os : OsState) : SharedT := ⟨(t90 w.params), 47, (Life.mk [] [] [] 0 [] [] Bool.false #[] [] 0 Bool.false Bool.false Bool.false (0 : Int) [(2000 : Int), (10 : Int), (10 : Int)] Bool.false 0 Bool.true [] [] 0 Bool.false), ⟨[]⟩, (Drawn.mk 0 0 0 0), 230, os⟩
def L1 (w : World) (os : OsState) : Option (Flow × SharedT × Code × Pos) := segRunT treeTable PySem.Challenge.pw_beatless_k06_programs_refused w 11 an 1 214 (sb1 w os) (piecesOf sts1 env cE (Pos.mk 5 0 6 8) B)
def R1 (w : World) (os : OsState) : Option (Flow × SharedT × Code × Pos) := some (.next, sb2 w os, cE, (Pos.mk 7 0 8 8))
theorem q1 : tt (Hd.L1, Hd.R1) = true := by k_qdec
theorem r1 : ∀ w, PySem.W.Fast.tw6387051279210280424 w = PySem.W.Fast.tw17943070361625844382 w := fun w => by kernel_rfl
theorem e1 (w : World) (os : OsState) : Hd.L1 w os = Hd.R1 w os :=
  (congrFun (congrFun PySem.W.Fast.te6387051279210280424 w) os).trans ((congrFun (r1 w) os).trans (congrFun (congrFun PySem.W.Fast.te17943070361625844382 w) os).symm)
def sts2 : List Stmt := [S 4]
def o41 (P : Params) : Obj := (Obj.mk (.type "dict") (Option.none) (Data.dict #[en P "__name__" 165 (.str "beatless.errors" 194), en P "__doc__" 166 .none, en P "__package__" 167 .none, en P "__loader__" 168 (.builtin "__main__.__loader__#opaque"), en P "__spec__" 169 .none, en P "__annotations__" 170 (.ref 6), en P "__builtins__" 171 (.ref 4), en P "__file__" 173 (.str "/claim/cut.py" 172), en P "__cached__" 174 .none, en P "_wall" 193 (.ref 21), en P "BeatlessError" 213 (.ref 31), en P "NoWeb" 229 (.ref 44), en P "NoHand" 245 (.ref 56)] 13) #[])
def o42 (P : Params) : Obj := (Obj.mk .none (Option.none) (Data.fields #[(.int (1 : Int) 0), (.int (0 : Int) 0), (.ref 20), (.int (5 : Int) 0), (.int (0 : Int) 0), (.ref 27), (.int (7 : Int) 0), (.int (0 : Int) 0), (.ref 40), (.int (9 : Int) 0), (.int (0 : Int) 0), (.ref 52)]) #[])
def o43 (P : Params) : Obj := (Obj.mk (.type "type") (Option.none) (Data.cls (ClassData.mk "BeatlessError" [(.type "ValueError")] [(.ref 31), (.type "ValueError"), (.type "Exception"), (.type "BaseException"), (.type "object")] 30 "BeatlessError" Bool.true [] [(.ref 44), (.ref 56)] Bool.false (Option.none) Bool.false)) #[(Option.some (.ref 22)), (Option.none), (Option.some (.str "BeatlessError" 196)), (Option.some (.str "BeatlessError" 204)), (Option.some (.builtin "ValueError.__new__")), (Option.some (.bool Bool.true))])
def o44 (P : Params) : Obj := (Obj.mk (.type "tuple") (Option.none) (Data.seq #[(.ref 31)] 0) #[])
def o45 (P : Params) : Obj := (Obj.mk (.type "builtin_function_or_method") (Option.none) (Data.fields #[(.builtin "type.__prepare__"), (.type "type")]) #[])
def o46 (P : Params) : Obj := (Obj.mk (.type "dict") (Option.none) (Data.dict #[en P "__module__" 237 (.str "beatless.errors" 194), en P "__qualname__" 239 (.str "NoHand" 238), en P "__firstlineno__" 241 (.int (9 : Int) 240), en P "__static_attributes__" 242 (.ref 54)] 4) #[])
def o47 (P : Params) : Obj := (Obj.mk (.type "tuple") (Option.none) (Data.seq #[] 0) #[])
def o48 (P : Params) : Obj := (Obj.mk .none (Option.none) (Data.fields #[]) #[])
def o49 (P : Params) : Obj := (Obj.mk (.type "code") (Option.none) (Data.fields #[(.str "NoHand" 232), (.str "NoHand" 233), (.str "/claim/cut.py" 234), (.int (9 : Int) 0), (.int (0 : Int) 0), (.int (0 : Int) 0), (.int (0 : Int) 0), (.int (0 : Int) 0), (.ref 50), (.bool Bool.false), (.int (181 : Int) 0), (.ref 51), .none, .none, .none, .none, (.int (235 : Int) 0), (.int (9 : Int) 0), (.str "/claim/cut.py" 236)]) #[])
def o50 (P : Params) : Obj := (Obj.mk (.type "frame") (Option.none) Data.plain #[(Option.some (.ref 52)), (Option.some (.ref 3)), (Option.some (.ref 49)), (Option.none), (Option.some (.str "beatless.errors" 194)), (Option.none), (Option.some (.ref 0))])
def o51 (P : Params) : Obj := (Obj.mk (.type "tuple") (Option.none) (Data.seq #[] 0) #[])
def o52 (P : Params) : Obj := (Obj.mk (.type "dict") (Option.none) (Data.dict #[en P "__module__" 237 (.str "beatless.errors" 194), en P "__firstlineno__" 241 (.int (9 : Int) 240), en P "__static_attributes__" 242 (.ref 54), en P "__doc__" 243 .none] 2) #[])
def o53 (P : Params) : Obj := (Obj.mk (.type "type") (Option.none) (Data.cls (ClassData.mk "NoHand" [(.ref 31)] [(.ref 56), (.ref 31), (.type "ValueError"), (.type "Exception"), (.type "BaseException"), (.type "object")] 55 "NoHand" Bool.true [] [] Bool.false (Option.none) Bool.false)) #[(Option.some (.ref 47)), (Option.none), (Option.some (.str "NoHand" 230)), (Option.some (.str "NoHand" 238)), (Option.some (.builtin "ValueError.__new__")), (Option.some (.bool Bool.true))])
def o54 (P : Params) : Obj := (Obj.mk (.type "super") (Option.none) (Data.fields #[(.ref 56), (.ref 56), (.ref 56)]) #[])
def o55 (P : Params) : Obj := (Obj.mk (.type "builtin_function_or_method") (Option.none) (Data.fields #[(.builtin "object.__init_subclass__"), (.ref 56)]) #[])
def t91 (P : Params) : BT := .node (o43 P) .nil .nil
def t92 (P : Params) : BT := .node (o44 P) .nil .nil
def t93 (P : Params) : BT := .node (o6 P) (t91 P) (t92 P)
def t94 (P : Params) : BT := .node (o52 P) .nil .nil
def t95 (P : Params) : BT := .node (o14 P) (t52 P) (t94 P)
def t96 (P : Params) : BT := .node (boot_o_7 P) (t93 P) (t95 P)
def t97 (P : Params) : BT := .node (o48 P) .nil .nil
def t98 (P : Params) : BT := .node (o10 P) (t55 P) (t97 P)
def t99 (P : Params) : BT := .node (o0 P) (t98 P) (t58 P)
def t100 (P : Params) : BT := .node (o41 P) (t96 P) (t99 P)
def t101 (P : Params) : BT := .node (o46 P) .nil .nil
def t102 (P : Params) : BT := .node (o8 P) (t23 P) (t101 P)
def t103 (P : Params) : BT := .node (o54 P) .nil .nil
def t104 (P : Params) : BT := .node (o16 P) (t61 P) (t103 P)
def t105 (P : Params) : BT := .node (boot_o_9 P) (t102 P) (t104 P)
def t106 (P : Params) : BT := .node (o50 P) .nil .nil
def t107 (P : Params) : BT := .node (o12 P) (t64 P) (t106 P)
def t108 (P : Params) : BT := .node (o2 P) (t107 P) (t67 P)
def t109 (P : Params) : BT := .node (boot_o_5 P) (t105 P) (t108 P)
def t110 (P : Params) : BT := .node (boot_o_1 P) (t100 P) (t109 P)
def t111 (P : Params) : BT := .node (o45 P) .nil .nil
def t112 (P : Params) : BT := .node (o7 P) (t32 P) (t111 P)
def t113 (P : Params) : BT := .node (o53 P) .nil .nil
def t114 (P : Params) : BT := .node (o15 P) (t71 P) (t113 P)
def t115 (P : Params) : BT := .node (boot_o_8 P) (t112 P) (t114 P)
def t116 (P : Params) : BT := .node (o49 P) .nil .nil
def t117 (P : Params) : BT := .node (o11 P) (t74 P) (t116 P)
def t118 (P : Params) : BT := .node (o42 P) (t117 P) (t77 P)
def t119 (P : Params) : BT := .node (boot_o_4 P) (t115 P) (t118 P)
def t120 (P : Params) : BT := .node (o47 P) .nil .nil
def t121 (P : Params) : BT := .node (o9 P) (t40 P) (t120 P)
def t122 (P : Params) : BT := .node (o55 P) .nil .nil
def t123 (P : Params) : BT := .node (o17 P) (t80 P) (t122 P)
def t124 (P : Params) : BT := .node (boot_o_10 P) (t121 P) (t123 P)
def t125 (P : Params) : BT := .node (o51 P) .nil .nil
def t126 (P : Params) : BT := .node (o13 P) (t83 P) (t125 P)
def t127 (P : Params) : BT := .node (o3 P) (t126 P) (t86 P)
def t128 (P : Params) : BT := .node (boot_o_6 P) (t124 P) (t127 P)
def t129 (P : Params) : BT := .node (boot_o_2 P) (t119 P) (t128 P)
def t130 (P : Params) : BT := .node (boot_o_0 P) (t110 P) (t129 P)
def sb3 (w : World) (os : OsState) : SharedT := ⟨(t130 w.params), 59, (Life.mk [] [] [] 0 [] [] Bool.false #[] [] 0 Bool.false Bool.false Bool.false (0 : Int) [(2000 : Int), (10 : Int), (10 : Int)] Bool.false 0 Bool.true [] [] 0 Bool.false), ⟨[]⟩, (Drawn.mk 0 0 0 0), 246, os⟩
def L2 (w : World) (os : OsState) : Option (Flow × SharedT × Code × Pos) := segRunT treeTable PySem.Challenge.pw_beatless_k06_programs_refused w 11 an 1 214 (sb2 w os) (piecesOf sts2 env cE (Pos.mk 7 0 8 8) B)
def R2 (w : World) (os : OsState) : Option (Flow × SharedT × Code × Pos) := some (.next, sb3 w os, cE, (Pos.mk 9 0 10 8))
theorem q2 : tt (Hd.L2, Hd.R2) = true := by k_qdec
theorem r2 : ∀ w, PySem.W.Fast.tw9171306275460833034 w = PySem.W.Fast.tw12913952840628719863 w := fun w => by kernel_rfl
theorem e2 (w : World) (os : OsState) : Hd.L2 w os = Hd.R2 w os :=
  (congrFun (congrFun PySem.W.Fast.te9171306275460833034 w) os).trans ((congrFun (r2 w) os).trans (congrFun (congrFun PySem.W.Fast.te12913952840628719863 w) os).symm)
def sts3 : List Stmt := [S 5]
def o56 (P : Params) : Obj := (Obj.mk (.type "dict") (Option.none) (Data.dict #[en P "__name__" 165 (.str "beatless.errors" 194), en P "__doc__" 166 .none, en P "__package__" 167 .none, en P "__loader__" 168 (.builtin "__main__.__loader__#opaque"), en P "__spec__" 169 .none, en P "__annotations__" 170 (.ref 6), en P "__builtins__" 171 (.ref 4), en P "__file__" 173 (.str "/claim/cut.py" 172), en P "__cached__" 174 .none, en P "_wall" 193 (.ref 21), en P "BeatlessError" 213 (.ref 31), en P "NoWeb" 229 (.ref 44), en P "NoHand" 245 (.ref 56), en P "NoProgram" 261 (.ref 68)] 14) #[])
def o57 (P : Params) : Obj := (Obj.mk .none (Option.none) (Data.fields #[(.int (1 : Int) 0), (.int (0 : Int) 0), (.ref 20), (.int (5 : Int) 0), (.int (0 : Int) 0), (.ref 27), (.int (7 : Int) 0), (.int (0 : Int) 0), (.ref 40), (.int (9 : Int) 0), (.int (0 : Int) 0), (.ref 52), (.int (11 : Int) 0), (.int (0 : Int) 0), (.ref 64)]) #[])
def o58 (P : Params) : Obj := (Obj.mk (.type "type") (Option.none) (Data.cls (ClassData.mk "BeatlessError" [(.type "ValueError")] [(.ref 31), (.type "ValueError"), (.type "Exception"), (.type "BaseException"), (.type "object")] 30 "BeatlessError" Bool.true [] [(.ref 44), (.ref 56), (.ref 68)] Bool.false (Option.none) Bool.false)) #[(Option.some (.ref 22)), (Option.none), (Option.some (.str "BeatlessError" 196)), (Option.some (.str "BeatlessError" 204)), (Option.some (.builtin "ValueError.__new__")), (Option.some (.bool Bool.true))])
def o59 (P : Params) : Obj := (Obj.mk (.type "tuple") (Option.none) (Data.seq #[(.ref 31)] 0) #[])
def o60 (P : Params) : Obj := (Obj.mk (.type "builtin_function_or_method") (Option.none) (Data.fields #[(.builtin "type.__prepare__"), (.type "type")]) #[])
def o61 (P : Params) : Obj := (Obj.mk (.type "dict") (Option.none) (Data.dict #[en P "__module__" 253 (.str "beatless.errors" 194), en P "__qualname__" 255 (.str "NoProgram" 254), en P "__firstlineno__" 257 (.int (11 : Int) 256), en P "__static_attributes__" 258 (.ref 66)] 4) #[])
def o62 (P : Params) : Obj := (Obj.mk (.type "tuple") (Option.none) (Data.seq #[] 0) #[])
def o63 (P : Params) : Obj := (Obj.mk .none (Option.none) (Data.fields #[]) #[])
def o64 (P : Params) : Obj := (Obj.mk (.type "code") (Option.none) (Data.fields #[(.str "NoProgram" 248), (.str "NoProgram" 249), (.str "/claim/cut.py" 250), (.int (11 : Int) 0), (.int (0 : Int) 0), (.int (0 : Int) 0), (.int (0 : Int) 0), (.int (0 : Int) 0), (.ref 62), (.bool Bool.false), (.int (181 : Int) 0), (.ref 63), .none, .none, .none, .none, (.int (251 : Int) 0), (.int (11 : Int) 0), (.str "/claim/cut.py" 252)]) #[])
def o65 (P : Params) : Obj := (Obj.mk (.type "frame") (Option.none) Data.plain #[(Option.some (.ref 64)), (Option.some (.ref 3)), (Option.some (.ref 61)), (Option.none), (Option.some (.str "beatless.errors" 194)), (Option.none), (Option.some (.ref 0))])
def o66 (P : Params) : Obj := (Obj.mk (.type "tuple") (Option.none) (Data.seq #[] 0) #[])
def o67 (P : Params) : Obj := (Obj.mk (.type "dict") (Option.none) (Data.dict #[en P "__module__" 253 (.str "beatless.errors" 194), en P "__firstlineno__" 257 (.int (11 : Int) 256), en P "__static_attributes__" 258 (.ref 66), en P "__doc__" 259 .none] 2) #[])
def o68 (P : Params) : Obj := (Obj.mk (.type "type") (Option.none) (Data.cls (ClassData.mk "NoProgram" [(.ref 31)] [(.ref 68), (.ref 31), (.type "ValueError"), (.type "Exception"), (.type "BaseException"), (.type "object")] 67 "NoProgram" Bool.true [] [] Bool.false (Option.none) Bool.false)) #[(Option.some (.ref 59)), (Option.none), (Option.some (.str "NoProgram" 246)), (Option.some (.str "NoProgram" 254)), (Option.some (.builtin "ValueError.__new__")), (Option.some (.bool Bool.true))])
def o69 (P : Params) : Obj := (Obj.mk (.type "super") (Option.none) (Data.fields #[(.ref 68), (.ref 68), (.ref 68)]) #[])
def o70 (P : Params) : Obj := (Obj.mk (.type "builtin_function_or_method") (Option.none) (Data.fields #[(.builtin "object.__init_subclass__"), (.ref 68)]) #[])
def t131 (P : Params) : BT := .node (o63 P) .nil .nil
def t132 (P : Params) : BT := .node (o58 P) (t131 P) .nil
def t133 (P : Params) : BT := .node (o6 P) (t132 P) (t92 P)
def t134 (P : Params) : BT := .node (boot_o_7 P) (t133 P) (t95 P)
def t135 (P : Params) : BT := .node (o67 P) .nil .nil
def t136 (P : Params) : BT := .node (o29 P) (t135 P) .nil
def t137 (P : Params) : BT := .node (o10 P) (t136 P) (t97 P)
def t138 (P : Params) : BT := .node (o59 P) .nil .nil
def t139 (P : Params) : BT := .node (o18 P) (t57 P) (t138 P)
def t140 (P : Params) : BT := .node (o0 P) (t137 P) (t139 P)
def t141 (P : Params) : BT := .node (o56 P) (t134 P) (t140 P)
def t142 (P : Params) : BT := .node (o65 P) .nil .nil
def t143 (P : Params) : BT := .node (o24 P) (t142 P) .nil
def t144 (P : Params) : BT := .node (o8 P) (t143 P) (t101 P)
def t145 (P : Params) : BT := .node (boot_o_9 P) (t144 P) (t104 P)
def t146 (P : Params) : BT := .node (o69 P) .nil .nil
def t147 (P : Params) : BT := .node (o31 P) (t146 P) .nil
def t148 (P : Params) : BT := .node (o12 P) (t147 P) (t106 P)
def t149 (P : Params) : BT := .node (o61 P) .nil .nil
def t150 (P : Params) : BT := .node (o20 P) (t66 P) (t149 P)
def t151 (P : Params) : BT := .node (o2 P) (t148 P) (t150 P)
def t152 (P : Params) : BT := .node (boot_o_5 P) (t145 P) (t151 P)
def t153 (P : Params) : BT := .node (boot_o_1 P) (t141 P) (t152 P)
def t154 (P : Params) : BT := .node (o64 P) .nil .nil
def t155 (P : Params) : BT := .node (o23 P) (t154 P) .nil
def t156 (P : Params) : BT := .node (o7 P) (t155 P) (t111 P)
def t157 (P : Params) : BT := .node (boot_o_8 P) (t156 P) (t114 P)
def t158 (P : Params) : BT := .node (o68 P) .nil .nil
def t159 (P : Params) : BT := .node (o30 P) (t158 P) .nil
def t160 (P : Params) : BT := .node (o11 P) (t159 P) (t116 P)
def t161 (P : Params) : BT := .node (o60 P) .nil .nil
def t162 (P : Params) : BT := .node (o19 P) (t76 P) (t161 P)
def t163 (P : Params) : BT := .node (o57 P) (t160 P) (t162 P)
def t164 (P : Params) : BT := .node (boot_o_4 P) (t157 P) (t163 P)
def t165 (P : Params) : BT := .node (o66 P) .nil .nil
def t166 (P : Params) : BT := .node (o25 P) (t165 P) .nil
def t167 (P : Params) : BT := .node (o9 P) (t166 P) (t120 P)
def t168 (P : Params) : BT := .node (boot_o_10 P) (t167 P) (t123 P)
def t169 (P : Params) : BT := .node (o70 P) .nil .nil
def t170 (P : Params) : BT := .node (o32 P) (t169 P) .nil
def t171 (P : Params) : BT := .node (o13 P) (t170 P) (t125 P)
def t172 (P : Params) : BT := .node (o62 P) .nil .nil
def t173 (P : Params) : BT := .node (o21 P) (t85 P) (t172 P)
def t174 (P : Params) : BT := .node (o3 P) (t171 P) (t173 P)
def t175 (P : Params) : BT := .node (boot_o_6 P) (t168 P) (t174 P)
def t176 (P : Params) : BT := .node (boot_o_2 P) (t164 P) (t175 P)
def t177 (P : Params) : BT := .node (boot_o_0 P) (t153 P) (t176 P)
def sb4 (w : World) (os : OsState) : SharedT := ⟨(t177 w.params), 71, (Life.mk [] [] [] 0 [] [] Bool.false #[] [] 0 Bool.false Bool.false Bool.false (0 : Int) [(2000 : Int), (10 : Int), (10 : Int)] Bool.false 0 Bool.true [] [] 0 Bool.false), ⟨[]⟩, (Drawn.mk 0 0 0 0), 262, os⟩
def L3 (w : World) (os : OsState) : Option (Flow × SharedT × Code × Pos) := segRunT treeTable PySem.Challenge.pw_beatless_k06_programs_refused w 11 an 1 214 (sb3 w os) (piecesOf sts3 env cE (Pos.mk 9 0 10 8) B)
def R3 (w : World) (os : OsState) : Option (Flow × SharedT × Code × Pos) := some (.next, sb4 w os, cE, (Pos.mk 11 0 12 8))
theorem q3 : tt (Hd.L3, Hd.R3) = true := by k_qdec
theorem r3 : ∀ w, PySem.W.Fast.tw6196771281854559479 w = PySem.W.Fast.tw4539841377621278456 w := fun w => by kernel_rfl
theorem e3 (w : World) (os : OsState) : Hd.L3 w os = Hd.R3 w os :=
  (congrFun (congrFun PySem.W.Fast.te6196771281854559479 w) os).trans ((congrFun (r3 w) os).trans (congrFun (congrFun PySem.W.Fast.te4539841377621278456 w) os).symm)
def sts4 : List Stmt := [S 6]
def o71 (P : Params) : Obj := (Obj.mk (.type "dict") (Option.none) (Data.dict #[en P "__name__" 165 (.str "beatless.errors" 194), en P "__doc__" 166 .none, en P "__package__" 167 .none, en P "__loader__" 168 (.builtin "__main__.__loader__#opaque"), en P "__spec__" 169 .none, en P "__annotations__" 170 (.ref 6), en P "__builtins__" 171 (.ref 4), en P "__file__" 173 (.str "/claim/cut.py" 172), en P "__cached__" 174 .none, en P "_wall" 193 (.ref 21), en P "BeatlessError" 213 (.ref 31), en P "NoWeb" 229 (.ref 44), en P "NoHand" 245 (.ref 56), en P "NoProgram" 261 (.ref 68), en P "NoText" 286 (.ref 87)] 15) #[])
def o72 (P : Params) : Obj := (Obj.mk .none (Option.none) (Data.fields #[(.int (1 : Int) 0), (.int (0 : Int) 0), (.ref 20), (.int (5 : Int) 0), (.int (0 : Int) 0), (.ref 27), (.int (7 : Int) 0), (.int (0 : Int) 0), (.ref 40), (.int (9 : Int) 0), (.int (0 : Int) 0), (.ref 52), (.int (11 : Int) 0), (.int (0 : Int) 0), (.ref 64), (.int (13 : Int) 0), (.int (0 : Int) 0), (.ref 76)]) #[])
def o73 (P : Params) : Obj := (Obj.mk (.type "type") (Option.none) (Data.cls (ClassData.mk "BeatlessError" [(.type "ValueError")] [(.ref 31), (.type "ValueError"), (.type "Exception"), (.type "BaseException"), (.type "object")] 30 "BeatlessError" Bool.true [] [(.ref 44), (.ref 56), (.ref 68), (.ref 87)] Bool.false (Option.none) Bool.false)) #[(Option.some (.ref 22)), (Option.none), (Option.some (.str "BeatlessError" 196)), (Option.some (.str "BeatlessError" 204)), (Option.some (.builtin "ValueError.__new__")), (Option.some (.bool Bool.true))])
def o74 (P : Params) : Obj := (Obj.mk (.type "tuple") (Option.none) (Data.seq #[(.ref 31)] 0) #[])
def o75 (P : Params) : Obj := (Obj.mk (.type "builtin_function_or_method") (Option.none) (Data.fields #[(.builtin "type.__prepare__"), (.type "type")]) #[])
def o76 (P : Params) : Obj := (Obj.mk (.type "dict") (Option.none) (Data.dict #[en P "__module__" 269 (.str "beatless.errors" 194), en P "__qualname__" 271 (.str "NoText" 270), en P "__firstlineno__" 273 (.int (13 : Int) 272), en P "__init__" 281 (.ref 84), en P "__static_attributes__" 283 (.ref 85)] 5) #[])
def o77 (P : Params) : Obj := (Obj.mk (.type "tuple") (Option.none) (Data.seq #[] 0) #[])
def o78 (P : Params) : Obj := (Obj.mk .none (Option.none) (Data.fields #[(.int (15 : Int) 0), (.int (4 : Int) 0), (.ref 83)]) #[])
def o79 (P : Params) : Obj := (Obj.mk (.type "code") (Option.none) (Data.fields #[(.str "NoText" 264), (.str "NoText" 265), (.str "/claim/cut.py" 266), (.int (13 : Int) 0), (.int (0 : Int) 0), (.int (0 : Int) 0), (.int (0 : Int) 0), (.int (0 : Int) 0), (.ref 74), (.bool Bool.false), (.int (181 : Int) 0), (.ref 75), .none, .none, .none, .none, (.int (267 : Int) 0), (.int (13 : Int) 0), (.str "/claim/cut.py" 268)]) #[])
def o80 (P : Params) : Obj := (Obj.mk (.type "frame") (Option.none) Data.plain #[(Option.some (.ref 76)), (Option.some (.ref 3)), (Option.some (.ref 73)), (Option.none), (Option.some (.str "beatless.errors" 194)), (Option.none), (Option.some (.ref 0))])
def o81 (P : Params) : Obj := (Obj.mk (.type "tuple") (Option.none) (Data.seq #[] 0) #[])
def o82 (P : Params) : Obj := (Obj.mk .none (Option.none) (Data.fields #[]) #[])
def o83 (P : Params) : Obj := (Obj.mk (.type "tuple") (Option.none) (Data.seq #[(.str "self" 277), (.str "row" 278)] 0) #[])
def o84 (P : Params) : Obj := (Obj.mk (.type "tuple") (Option.none) (Data.seq #[] 0) #[])
def o85 (P : Params) : Obj := (Obj.mk .none (Option.none) (Data.func (fd "__init__" "NoText.__init__" (L2.inClass (S 6) 0) 0 [] .none .none .none .none (Option.none) .none .none 0)) #[])
def o86 (P : Params) : Obj := (Obj.mk (.type "code") (Option.none) (Data.fields #[(.str "__init__" 274), (.str "NoText.__init__" 275), (.str "/claim/cut.py" 276), (.int (15 : Int) 0), (.int (2 : Int) 0), (.int (0 : Int) 0), (.int (0 : Int) 0), (.int (3 : Int) 0), (.ref 78), (.bool Bool.true), (.int (181 : Int) 0), (.ref 79), .none, (.ref 80), (.ref 81), (.ref 82), (.int (279 : Int) 0), (.int (15 : Int) 0), (.str "/claim/cut.py" 280)]) #[])
def o87 (P : Params) : Obj := (Obj.mk (.type "function") (Option.none) (Data.func (fd "__init__" "NoText.__init__" (L2.inClass (S 6) 0) 3 [] .none .none .none (.str "beatless.errors" 194) (Option.none) (.ref 83) .none 0)) #[])
def o88 (P : Params) : Obj := (Obj.mk (.type "tuple") (Option.none) (Data.seq #[(.str "row" 282)] 0) #[])
def o89 (P : Params) : Obj := (Obj.mk (.type "dict") (Option.none) (Data.dict #[en P "__module__" 269 (.str "beatless.errors" 194), en P "__firstlineno__" 273 (.int (13 : Int) 272), en P "__init__" 281 (.ref 84), en P "__static_attributes__" 283 (.ref 85), en P "__doc__" 284 .none] 2) #[])
def o90 (P : Params) : Obj := (Obj.mk (.type "type") (Option.none) (Data.cls (ClassData.mk "NoText" [(.ref 31)] [(.ref 87), (.ref 31), (.type "ValueError"), (.type "Exception"), (.type "BaseException"), (.type "object")] 86 "NoText" Bool.true [] [] Bool.false (Option.none) Bool.false)) #[(Option.some (.ref 71)), (Option.none), (Option.some (.str "NoText" 262)), (Option.some (.str "NoText" 270)), (Option.some (.builtin "ValueError.__new__")), (Option.some (.bool Bool.true))])
def o91 (P : Params) : Obj := (Obj.mk (.type "super") (Option.none) (Data.fields #[(.ref 87), (.ref 87), (.ref 87)]) #[])
def o92 (P : Params) : Obj := (Obj.mk (.type "builtin_function_or_method") (Option.none) (Data.fields #[(.builtin "object.__init_subclass__"), (.ref 87)]) #[])
def t178 (P : Params) : BT := .node (o73 P) (t131 P) .nil
def t179 (P : Params) : BT := .node (o82 P) .nil .nil
def t180 (P : Params) : BT := .node (o44 P) (t179 P) .nil
def t181 (P : Params) : BT := .node (o6 P) (t178 P) (t180 P)
def t182 (P : Params) : BT := .node (o74 P) .nil .nil
def t183 (P : Params) : BT := .node (o33 P) (t182 P) .nil
def t184 (P : Params) : BT := .node (o90 P) .nil .nil
def t185 (P : Params) : BT := .node (o52 P) (t184 P) .nil
def t186 (P : Params) : BT := .node (o14 P) (t183 P) (t185 P)
def t187 (P : Params) : BT := .node (boot_o_7 P) (t181 P) (t186 P)
def t188 (P : Params) : BT := .node (o86 P) .nil .nil
def t189 (P : Params) : BT := .node (o48 P) (t188 P) .nil
def t190 (P : Params) : BT := .node (o10 P) (t136 P) (t189 P)
def t191 (P : Params) : BT := .node (o78 P) .nil .nil
def t192 (P : Params) : BT := .node (o37 P) (t191 P) .nil
def t193 (P : Params) : BT := .node (o18 P) (t192 P) (t138 P)
def t194 (P : Params) : BT := .node (o0 P) (t190 P) (t193 P)
def t195 (P : Params) : BT := .node (o71 P) (t187 P) (t194 P)
def t196 (P : Params) : BT := .node (o84 P) .nil .nil
def t197 (P : Params) : BT := .node (o46 P) (t196 P) .nil
def t198 (P : Params) : BT := .node (o8 P) (t143 P) (t197 P)
def t199 (P : Params) : BT := .node (o76 P) .nil .nil
def t200 (P : Params) : BT := .node (o35 P) (t199 P) .nil
def t201 (P : Params) : BT := .node (o92 P) .nil .nil
def t202 (P : Params) : BT := .node (o54 P) (t201 P) .nil
def t203 (P : Params) : BT := .node (o16 P) (t200 P) (t202 P)
def t204 (P : Params) : BT := .node (boot_o_9 P) (t198 P) (t203 P)
def t205 (P : Params) : BT := .node (o88 P) .nil .nil
def t206 (P : Params) : BT := .node (o50 P) (t205 P) .nil
def t207 (P : Params) : BT := .node (o12 P) (t147 P) (t206 P)
def t208 (P : Params) : BT := .node (o80 P) .nil .nil
def t209 (P : Params) : BT := .node (o39 P) (t208 P) .nil
def t210 (P : Params) : BT := .node (o20 P) (t209 P) (t149 P)
def t211 (P : Params) : BT := .node (o2 P) (t207 P) (t210 P)
def t212 (P : Params) : BT := .node (boot_o_5 P) (t204 P) (t211 P)
def t213 (P : Params) : BT := .node (boot_o_1 P) (t195 P) (t212 P)
def t214 (P : Params) : BT := .node (o83 P) .nil .nil
def t215 (P : Params) : BT := .node (o45 P) (t214 P) .nil
def t216 (P : Params) : BT := .node (o7 P) (t155 P) (t215 P)
def t217 (P : Params) : BT := .node (o75 P) .nil .nil
def t218 (P : Params) : BT := .node (o34 P) (t217 P) .nil
def t219 (P : Params) : BT := .node (o91 P) .nil .nil
def t220 (P : Params) : BT := .node (o53 P) (t219 P) .nil
def t221 (P : Params) : BT := .node (o15 P) (t218 P) (t220 P)
def t222 (P : Params) : BT := .node (boot_o_8 P) (t216 P) (t221 P)
def t223 (P : Params) : BT := .node (o87 P) .nil .nil
def t224 (P : Params) : BT := .node (o49 P) (t223 P) .nil
def t225 (P : Params) : BT := .node (o11 P) (t159 P) (t224 P)
def t226 (P : Params) : BT := .node (o79 P) .nil .nil
def t227 (P : Params) : BT := .node (o38 P) (t226 P) .nil
def t228 (P : Params) : BT := .node (o19 P) (t227 P) (t161 P)
def t229 (P : Params) : BT := .node (o72 P) (t225 P) (t228 P)
def t230 (P : Params) : BT := .node (boot_o_4 P) (t222 P) (t229 P)
def t231 (P : Params) : BT := .node (o85 P) .nil .nil
def t232 (P : Params) : BT := .node (o47 P) (t231 P) .nil
def t233 (P : Params) : BT := .node (o9 P) (t166 P) (t232 P)
def t234 (P : Params) : BT := .node (o77 P) .nil .nil
def t235 (P : Params) : BT := .node (o36 P) (t234 P) .nil
def t236 (P : Params) : BT := .node (o17 P) (t235 P) (t122 P)
def t237 (P : Params) : BT := .node (boot_o_10 P) (t233 P) (t236 P)
def t238 (P : Params) : BT := .node (o89 P) .nil .nil
def t239 (P : Params) : BT := .node (o51 P) (t238 P) .nil
def t240 (P : Params) : BT := .node (o13 P) (t170 P) (t239 P)
def t241 (P : Params) : BT := .node (o81 P) .nil .nil
def t242 (P : Params) : BT := .node (o40 P) (t241 P) .nil
def t243 (P : Params) : BT := .node (o21 P) (t242 P) (t172 P)
def t244 (P : Params) : BT := .node (o3 P) (t240 P) (t243 P)
def t245 (P : Params) : BT := .node (boot_o_6 P) (t237 P) (t244 P)
def t246 (P : Params) : BT := .node (boot_o_2 P) (t230 P) (t245 P)
def t247 (P : Params) : BT := .node (boot_o_0 P) (t213 P) (t246 P)
def sb5 (w : World) (os : OsState) : SharedT := ⟨(t247 w.params), 90, (Life.mk [] [] [] 0 [] [] Bool.false #[] [] 0 Bool.false Bool.false Bool.false (0 : Int) [(2000 : Int), (10 : Int), (10 : Int)] Bool.false 0 Bool.true [] [] 0 Bool.false), ⟨[]⟩, (Drawn.mk 0 0 0 0), 287, os⟩
def L4 (w : World) (os : OsState) : Option (Flow × SharedT × Code × Pos) := segRunT treeTable PySem.Challenge.pw_beatless_k06_programs_refused w 11 an 1 246 (sb4 w os) (piecesOf sts4 env cE (Pos.mk 11 0 12 8) B)
def R4 (w : World) (os : OsState) : Option (Flow × SharedT × Code × Pos) := some (.next, sb5 w os, cE, (Pos.mk 13 0 16 22))
theorem q4 : tt (Hd.L4, Hd.R4) = true := by k_qdec
theorem r4 : ∀ w, PySem.W.Fast.tw18063231807419426806 w = PySem.W.Fast.tw9930642381628883879 w := fun w => by kernel_rfl
theorem e4 (w : World) (os : OsState) : Hd.L4 w os = Hd.R4 w os :=
  (congrFun (congrFun PySem.W.Fast.te18063231807419426806 w) os).trans ((congrFun (r4 w) os).trans (congrFun (congrFun PySem.W.Fast.te9930642381628883879 w) os).symm)
def sts5 : List Stmt := [S 7]
def o93 (P : Params) : Obj := (Obj.mk (.type "dict") (Option.none) (Data.dict #[en P "__name__" 165 (.str "beatless.errors" 194), en P "__doc__" 166 .none, en P "__package__" 167 .none, en P "__loader__" 168 (.builtin "__main__.__loader__#opaque"), en P "__spec__" 169 .none, en P "__annotations__" 170 (.ref 6), en P "__builtins__" 171 (.ref 4), en P "__file__" 173 (.str "/claim/cut.py" 172), en P "__cached__" 174 .none, en P "_wall" 193 (.ref 21), en P "BeatlessError" 213 (.ref 31), en P "NoWeb" 229 (.ref 44), en P "NoHand" 245 (.ref 56), en P "NoProgram" 261 (.ref 68), en P "NoText" 286 (.ref 87), en P "NoWay" 302 (.ref 99)] 16) #[])
def o94 (P : Params) : Obj := (Obj.mk .none (Option.none) (Data.fields #[(.int (1 : Int) 0), (.int (0 : Int) 0), (.ref 20), (.int (5 : Int) 0), (.int (0 : Int) 0), (.ref 27), (.int (7 : Int) 0), (.int (0 : Int) 0), (.ref 40), (.int (9 : Int) 0), (.int (0 : Int) 0), (.ref 52), (.int (11 : Int) 0), (.int (0 : Int) 0), (.ref 64), (.int (13 : Int) 0), (.int (0 : Int) 0), (.ref 76), (.int (17 : Int) 0), (.int (0 : Int) 0), (.ref 95)]) #[])
def o95 (P : Params) : Obj := (Obj.mk (.type "type") (Option.none) (Data.cls (ClassData.mk "BeatlessError" [(.type "ValueError")] [(.ref 31), (.type "ValueError"), (.type "Exception"), (.type "BaseException"), (.type "object")] 30 "BeatlessError" Bool.true [] [(.ref 44), (.ref 56), (.ref 68), (.ref 87), (.ref 99)] Bool.false (Option.none) Bool.false)) #[(Option.some (.ref 22)), (Option.none), (Option.some (.str "BeatlessError" 196)), (Option.some (.str "BeatlessError" 204)), (Option.some (.builtin "ValueError.__new__")), (Option.some (.bool Bool.true))])
def o96 (P : Params) : Obj := (Obj.mk (.type "tuple") (Option.none) (Data.seq #[(.ref 31)] 0) #[])
def o97 (P : Params) : Obj := (Obj.mk (.type "builtin_function_or_method") (Option.none) (Data.fields #[(.builtin "type.__prepare__"), (.type "type")]) #[])
def o98 (P : Params) : Obj := (Obj.mk (.type "dict") (Option.none) (Data.dict #[en P "__module__" 294 (.str "beatless.errors" 194), en P "__qualname__" 296 (.str "NoWay" 295), en P "__firstlineno__" 298 (.int (17 : Int) 297), en P "__static_attributes__" 299 (.ref 97)] 4) #[])
def o99 (P : Params) : Obj := (Obj.mk (.type "tuple") (Option.none) (Data.seq #[] 0) #[])
def o100 (P : Params) : Obj := (Obj.mk .none (Option.none) (Data.fields #[]) #[])
def o101 (P : Params) : Obj := (Obj.mk (.type "code") (Option.none) (Data.fields #[(.str "NoWay" 289), (.str "NoWay" 290), (.str "/claim/cut.py" 291), (.int (17 : Int) 0), (.int (0 : Int) 0), (.int (0 : Int) 0), (.int (0 : Int) 0), (.int (0 : Int) 0), (.ref 93), (.bool Bool.false), (.int (181 : Int) 0), (.ref 94), .none, .none, .none, .none, (.int (292 : Int) 0), (.int (17 : Int) 0), (.str "/claim/cut.py" 293)]) #[])
def o102 (P : Params) : Obj := (Obj.mk (.type "frame") (Option.none) Data.plain #[(Option.some (.ref 95)), (Option.some (.ref 3)), (Option.some (.ref 92)), (Option.none), (Option.some (.str "beatless.errors" 194)), (Option.none), (Option.some (.ref 0))])
def o103 (P : Params) : Obj := (Obj.mk (.type "tuple") (Option.none) (Data.seq #[] 0) #[])
def o104 (P : Params) : Obj := (Obj.mk (.type "dict") (Option.none) (Data.dict #[en P "__module__" 294 (.str "beatless.errors" 194), en P "__firstlineno__" 298 (.int (17 : Int) 297), en P "__static_attributes__" 299 (.ref 97), en P "__doc__" 300 .none] 2) #[])
def o105 (P : Params) : Obj := (Obj.mk (.type "type") (Option.none) (Data.cls (ClassData.mk "NoWay" [(.ref 31)] [(.ref 99), (.ref 31), (.type "ValueError"), (.type "Exception"), (.type "BaseException"), (.type "object")] 98 "NoWay" Bool.true [] [] Bool.false (Option.none) Bool.false)) #[(Option.some (.ref 90)), (Option.none), (Option.some (.str "NoWay" 287)), (Option.some (.str "NoWay" 295)), (Option.some (.builtin "ValueError.__new__")), (Option.some (.bool Bool.true))])
def o106 (P : Params) : Obj := (Obj.mk (.type "super") (Option.none) (Data.fields #[(.ref 99), (.ref 99), (.ref 99)]) #[])
def o107 (P : Params) : Obj := (Obj.mk (.type "builtin_function_or_method") (Option.none) (Data.fields #[(.builtin "object.__init_subclass__"), (.ref 99)]) #[])
def t248 (P : Params) : BT := .node (o101 P) .nil .nil
def t249 (P : Params) : BT := .node (o95 P) (t131 P) (t248 P)
def t250 (P : Params) : BT := .node (o6 P) (t249 P) (t180 P)
def t251 (P : Params) : BT := .node (boot_o_7 P) (t250 P) (t186 P)
def t252 (P : Params) : BT := .node (o105 P) .nil .nil
def t253 (P : Params) : BT := .node (o29 P) (t135 P) (t252 P)
def t254 (P : Params) : BT := .node (o10 P) (t253 P) (t189 P)
def t255 (P : Params) : BT := .node (o97 P) .nil .nil
def t256 (P : Params) : BT := .node (o59 P) (t255 P) .nil
def t257 (P : Params) : BT := .node (o18 P) (t192 P) (t256 P)
def t258 (P : Params) : BT := .node (o0 P) (t254 P) (t257 P)
def t259 (P : Params) : BT := .node (o93 P) (t251 P) (t258 P)
def t260 (P : Params) : BT := .node (o103 P) .nil .nil
def t261 (P : Params) : BT := .node (o24 P) (t142 P) (t260 P)
def t262 (P : Params) : BT := .node (o8 P) (t261 P) (t197 P)
def t263 (P : Params) : BT := .node (boot_o_9 P) (t262 P) (t203 P)
def t264 (P : Params) : BT := .node (o107 P) .nil .nil
def t265 (P : Params) : BT := .node (o31 P) (t146 P) (t264 P)
def t266 (P : Params) : BT := .node (o12 P) (t265 P) (t206 P)
def t267 (P : Params) : BT := .node (o99 P) .nil .nil
def t268 (P : Params) : BT := .node (o61 P) (t267 P) .nil
def t269 (P : Params) : BT := .node (o20 P) (t209 P) (t268 P)
def t270 (P : Params) : BT := .node (o2 P) (t266 P) (t269 P)
def t271 (P : Params) : BT := .node (boot_o_5 P) (t263 P) (t270 P)
def t272 (P : Params) : BT := .node (boot_o_1 P) (t259 P) (t271 P)
def t273 (P : Params) : BT := .node (o102 P) .nil .nil
def t274 (P : Params) : BT := .node (o23 P) (t154 P) (t273 P)
def t275 (P : Params) : BT := .node (o7 P) (t274 P) (t215 P)
def t276 (P : Params) : BT := .node (boot_o_8 P) (t275 P) (t221 P)
def t277 (P : Params) : BT := .node (o106 P) .nil .nil
def t278 (P : Params) : BT := .node (o30 P) (t158 P) (t277 P)
def t279 (P : Params) : BT := .node (o11 P) (t278 P) (t224 P)
def t280 (P : Params) : BT := .node (o98 P) .nil .nil
def t281 (P : Params) : BT := .node (o60 P) (t280 P) .nil
def t282 (P : Params) : BT := .node (o19 P) (t227 P) (t281 P)
def t283 (P : Params) : BT := .node (o94 P) (t279 P) (t282 P)
def t284 (P : Params) : BT := .node (boot_o_4 P) (t276 P) (t283 P)
def t285 (P : Params) : BT := .node (o104 P) .nil .nil
def t286 (P : Params) : BT := .node (o25 P) (t165 P) (t285 P)
def t287 (P : Params) : BT := .node (o9 P) (t286 P) (t232 P)
def t288 (P : Params) : BT := .node (o96 P) .nil .nil
def t289 (P : Params) : BT := .node (o55 P) (t288 P) .nil
def t290 (P : Params) : BT := .node (o17 P) (t235 P) (t289 P)
def t291 (P : Params) : BT := .node (boot_o_10 P) (t287 P) (t290 P)
def t292 (P : Params) : BT := .node (o100 P) .nil .nil
def t293 (P : Params) : BT := .node (o62 P) (t292 P) .nil
def t294 (P : Params) : BT := .node (o21 P) (t242 P) (t293 P)
def t295 (P : Params) : BT := .node (o3 P) (t240 P) (t294 P)
def t296 (P : Params) : BT := .node (boot_o_6 P) (t291 P) (t295 P)
def t297 (P : Params) : BT := .node (boot_o_2 P) (t284 P) (t296 P)
def t298 (P : Params) : BT := .node (boot_o_0 P) (t272 P) (t297 P)
def sb6 (w : World) (os : OsState) : SharedT := ⟨(t298 w.params), 102, (Life.mk [] [] [] 0 [] [] Bool.false #[] [] 0 Bool.false Bool.false Bool.false (0 : Int) [(2000 : Int), (10 : Int), (10 : Int)] Bool.false 0 Bool.true [] [] 0 Bool.false), ⟨[]⟩, (Drawn.mk 0 0 0 0), 303, os⟩
def L5 (w : World) (os : OsState) : Option (Flow × SharedT × Code × Pos) := segRunT treeTable PySem.Challenge.pw_beatless_k06_programs_refused w 11 an 1 214 (sb5 w os) (piecesOf sts5 env cE (Pos.mk 13 0 16 22) B)
def R5 (w : World) (os : OsState) : Option (Flow × SharedT × Code × Pos) := some (.next, sb6 w os, cE, (Pos.mk 17 0 18 8))
theorem q5 : tt (Hd.L5, Hd.R5) = true := by k_qdec
theorem r5 : ∀ w, PySem.W.Fast.tw7289443652863241282 w = PySem.W.Fast.tw2540258914238199871 w := fun w => by kernel_rfl
theorem e5 (w : World) (os : OsState) : Hd.L5 w os = Hd.R5 w os :=
  (congrFun (congrFun PySem.W.Fast.te7289443652863241282 w) os).trans ((congrFun (r5 w) os).trans (congrFun (congrFun PySem.W.Fast.te2540258914238199871 w) os).symm)
def sts6 : List Stmt := [S 8, S 9]
def o108 (P : Params) : Obj := (Obj.mk (.type "dict") (Option.none) (Data.dict #[en P "__name__" 165 (.str "beatless.exprs" 319), en P "__doc__" 166 .none, en P "__package__" 167 .none, en P "__loader__" 168 (.builtin "__main__.__loader__#opaque"), en P "__spec__" 169 .none, en P "__annotations__" 170 (.ref 6), en P "__builtins__" 171 (.ref 4), en P "__file__" 173 (.str "/claim/cut.py" 172), en P "__cached__" 174 .none, en P "_wall" 193 (.ref 21), en P "BeatlessError" 213 (.ref 31), en P "NoWeb" 229 (.ref 44), en P "NoHand" 245 (.ref 56), en P "NoProgram" 261 (.ref 68), en P "NoText" 286 (.ref 87), en P "NoWay" 302 (.ref 99), en P "NoRound" 318 (.ref 111)] 17) #[])
def o109 (P : Params) : Obj := (Obj.mk .none (Option.none) (Data.fields #[(.int (1 : Int) 0), (.int (0 : Int) 0), (.ref 20), (.int (5 : Int) 0), (.int (0 : Int) 0), (.ref 27), (.int (7 : Int) 0), (.int (0 : Int) 0), (.ref 40), (.int (9 : Int) 0), (.int (0 : Int) 0), (.ref 52), (.int (11 : Int) 0), (.int (0 : Int) 0), (.ref 64), (.int (13 : Int) 0), (.int (0 : Int) 0), (.ref 76), (.int (17 : Int) 0), (.int (0 : Int) 0), (.ref 95), (.int (19 : Int) 0), (.int (0 : Int) 0), (.ref 107)]) #[])
def o110 (P : Params) : Obj := (Obj.mk (.type "type") (Option.none) (Data.cls (ClassData.mk "BeatlessError" [(.type "ValueError")] [(.ref 31), (.type "ValueError"), (.type "Exception"), (.type "BaseException"), (.type "object")] 30 "BeatlessError" Bool.true [] [(.ref 44), (.ref 56), (.ref 68), (.ref 87), (.ref 99), (.ref 111)] Bool.false (Option.none) Bool.false)) #[(Option.some (.ref 22)), (Option.none), (Option.some (.str "BeatlessError" 196)), (Option.some (.str "BeatlessError" 204)), (Option.some (.builtin "ValueError.__new__")), (Option.some (.bool Bool.true))])
def o111 (P : Params) : Obj := (Obj.mk (.type "tuple") (Option.none) (Data.seq #[(.ref 31)] 0) #[])
def o112 (P : Params) : Obj := (Obj.mk (.type "builtin_function_or_method") (Option.none) (Data.fields #[(.builtin "type.__prepare__"), (.type "type")]) #[])
def o113 (P : Params) : Obj := (Obj.mk (.type "dict") (Option.none) (Data.dict #[en P "__module__" 310 (.str "beatless.errors" 194), en P "__qualname__" 312 (.str "NoRound" 311), en P "__firstlineno__" 314 (.int (19 : Int) 313), en P "__static_attributes__" 315 (.ref 109)] 4) #[])
def o114 (P : Params) : Obj := (Obj.mk (.type "tuple") (Option.none) (Data.seq #[] 0) #[])
def o115 (P : Params) : Obj := (Obj.mk .none (Option.none) (Data.fields #[]) #[])
def o116 (P : Params) : Obj := (Obj.mk (.type "code") (Option.none) (Data.fields #[(.str "NoRound" 305), (.str "NoRound" 306), (.str "/claim/cut.py" 307), (.int (19 : Int) 0), (.int (0 : Int) 0), (.int (0 : Int) 0), (.int (0 : Int) 0), (.int (0 : Int) 0), (.ref 105), (.bool Bool.false), (.int (181 : Int) 0), (.ref 106), .none, .none, .none, .none, (.int (308 : Int) 0), (.int (19 : Int) 0), (.str "/claim/cut.py" 309)]) #[])
def o117 (P : Params) : Obj := (Obj.mk (.type "frame") (Option.none) Data.plain #[(Option.some (.ref 107)), (Option.some (.ref 3)), (Option.some (.ref 104)), (Option.none), (Option.some (.str "beatless.errors" 194)), (Option.none), (Option.some (.ref 0))])
def o118 (P : Params) : Obj := (Obj.mk (.type "tuple") (Option.none) (Data.seq #[] 0) #[])
def o119 (P : Params) : Obj := (Obj.mk (.type "dict") (Option.none) (Data.dict #[en P "__module__" 310 (.str "beatless.errors" 194), en P "__firstlineno__" 314 (.int (19 : Int) 313), en P "__static_attributes__" 315 (.ref 109), en P "__doc__" 316 .none] 2) #[])
def o120 (P : Params) : Obj := (Obj.mk (.type "type") (Option.none) (Data.cls (ClassData.mk "NoRound" [(.ref 31)] [(.ref 111), (.ref 31), (.type "ValueError"), (.type "Exception"), (.type "BaseException"), (.type "object")] 110 "NoRound" Bool.true [] [] Bool.false (Option.none) Bool.false)) #[(Option.some (.ref 102)), (Option.none), (Option.some (.str "NoRound" 303)), (Option.some (.str "NoRound" 311)), (Option.some (.builtin "ValueError.__new__")), (Option.some (.bool Bool.true))])
def o121 (P : Params) : Obj := (Obj.mk (.type "super") (Option.none) (Data.fields #[(.ref 111), (.ref 111), (.ref 111)]) #[])
def o122 (P : Params) : Obj := (Obj.mk (.type "builtin_function_or_method") (Option.none) (Data.fields #[(.builtin "object.__init_subclass__"), (.ref 111)]) #[])
def t299 (P : Params) : BT := .node (o110 P) (t131 P) (t248 P)
def t300 (P : Params) : BT := .node (o120 P) .nil .nil
def t301 (P : Params) : BT := .node (o44 P) (t179 P) (t300 P)
def t302 (P : Params) : BT := .node (o6 P) (t299 P) (t301 P)
def t303 (P : Params) : BT := .node (o112 P) .nil .nil
def t304 (P : Params) : BT := .node (o33 P) (t182 P) (t303 P)
def t305 (P : Params) : BT := .node (o14 P) (t304 P) (t185 P)
def t306 (P : Params) : BT := .node (boot_o_7 P) (t302 P) (t305 P)
def t307 (P : Params) : BT := .node (o116 P) .nil .nil
def t308 (P : Params) : BT := .node (o37 P) (t191 P) (t307 P)
def t309 (P : Params) : BT := .node (o18 P) (t308 P) (t256 P)
def t310 (P : Params) : BT := .node (o0 P) (t254 P) (t309 P)
def t311 (P : Params) : BT := .node (o108 P) (t306 P) (t310 P)
def t312 (P : Params) : BT := .node (o122 P) .nil .nil
def t313 (P : Params) : BT := .node (o46 P) (t196 P) (t312 P)
def t314 (P : Params) : BT := .node (o8 P) (t261 P) (t313 P)
def t315 (P : Params) : BT := .node (o114 P) .nil .nil
def t316 (P : Params) : BT := .node (o35 P) (t199 P) (t315 P)
def t317 (P : Params) : BT := .node (o16 P) (t316 P) (t202 P)
def t318 (P : Params) : BT := .node (boot_o_9 P) (t314 P) (t317 P)
def t319 (P : Params) : BT := .node (o118 P) .nil .nil
def t320 (P : Params) : BT := .node (o39 P) (t208 P) (t319 P)
def t321 (P : Params) : BT := .node (o20 P) (t320 P) (t268 P)
def t322 (P : Params) : BT := .node (o2 P) (t266 P) (t321 P)
def t323 (P : Params) : BT := .node (boot_o_5 P) (t318 P) (t322 P)
def t324 (P : Params) : BT := .node (boot_o_1 P) (t311 P) (t323 P)
def t325 (P : Params) : BT := .node (o121 P) .nil .nil
def t326 (P : Params) : BT := .node (o45 P) (t214 P) (t325 P)
def t327 (P : Params) : BT := .node (o7 P) (t274 P) (t326 P)
def t328 (P : Params) : BT := .node (o113 P) .nil .nil
def t329 (P : Params) : BT := .node (o34 P) (t217 P) (t328 P)
def t330 (P : Params) : BT := .node (o15 P) (t329 P) (t220 P)
def t331 (P : Params) : BT := .node (boot_o_8 P) (t327 P) (t330 P)
def t332 (P : Params) : BT := .node (o117 P) .nil .nil
def t333 (P : Params) : BT := .node (o38 P) (t226 P) (t332 P)
def t334 (P : Params) : BT := .node (o19 P) (t333 P) (t281 P)
def t335 (P : Params) : BT := .node (o109 P) (t279 P) (t334 P)
def t336 (P : Params) : BT := .node (boot_o_4 P) (t331 P) (t335 P)
def t337 (P : Params) : BT := .node (o115 P) .nil .nil
def t338 (P : Params) : BT := .node (o36 P) (t234 P) (t337 P)
def t339 (P : Params) : BT := .node (o17 P) (t338 P) (t289 P)
def t340 (P : Params) : BT := .node (boot_o_10 P) (t287 P) (t339 P)
def t341 (P : Params) : BT := .node (o111 P) .nil .nil
def t342 (P : Params) : BT := .node (o32 P) (t169 P) (t341 P)
def t343 (P : Params) : BT := .node (o13 P) (t342 P) (t239 P)
def t344 (P : Params) : BT := .node (o119 P) .nil .nil
def t345 (P : Params) : BT := .node (o40 P) (t241 P) (t344 P)
def t346 (P : Params) : BT := .node (o21 P) (t345 P) (t293 P)
def t347 (P : Params) : BT := .node (o3 P) (t343 P) (t346 P)
def t348 (P : Params) : BT := .node (boot_o_6 P) (t340 P) (t347 P)
def t349 (P : Params) : BT := .node (boot_o_2 P) (t336 P) (t348 P)
def t350 (P : Params) : BT := .node (boot_o_0 P) (t324 P) (t349 P)
def sb7 (w : World) (os : OsState) : SharedT := ⟨(t350 w.params), 114, (Life.mk [] [] [] 0 [] [] Bool.false #[] [] 0 Bool.false Bool.false Bool.false (0 : Int) [(2000 : Int), (10 : Int), (10 : Int)] Bool.false 0 Bool.true [] [] 0 Bool.false), ⟨[]⟩, (Drawn.mk 0 0 0 0), 321, os⟩
def L6 (w : World) (os : OsState) : Option (Flow × SharedT × Code × Pos) := segRunT treeTable PySem.Challenge.pw_beatless_k06_programs_refused w 11 an 1 223 (sb6 w os) (piecesOf sts6 env cE (Pos.mk 17 0 18 8) B)
def R6 (w : World) (os : OsState) : Option (Flow × SharedT × Code × Pos) := some (.next, sb7 w os, cE, (Pos.mk 21 0 21 8))
theorem q6 : tt (Hd.L6, Hd.R6) = true := by k_qdec
theorem r6 : ∀ w, PySem.W.Fast.tw11518265509499319272 w = PySem.W.Fast.tw3345738777826418175 w := fun w => by kernel_rfl
theorem e6 (w : World) (os : OsState) : Hd.L6 w os = Hd.R6 w os :=
  (congrFun (congrFun PySem.W.Fast.te11518265509499319272 w) os).trans ((congrFun (r6 w) os).trans (congrFun (congrFun PySem.W.Fast.te3345738777826418175 w) os).symm)
def sts7 : List Stmt := [S 10]
def o123 (P : Params) : Obj := (Obj.mk (.type "dict") (Option.none) (Data.dict #[en P "__name__" 165 (.str "beatless.exprs" 319), en P "__doc__" 166 .none, en P "__package__" 167 .none, en P "__loader__" 168 (.builtin "__main__.__loader__#opaque"), en P "__spec__" 169 .none, en P "__annotations__" 170 (.ref 6), en P "__builtins__" 171 (.ref 4), en P "__file__" 173 (.str "/claim/cut.py" 172), en P "__cached__" 174 .none, en P "_wall" 193 (.ref 21), en P "BeatlessError" 213 (.ref 31), en P "NoWeb" 229 (.ref 44), en P "NoHand" 245 (.ref 56), en P "NoProgram" 261 (.ref 68), en P "NoText" 286 (.ref 87), en P "NoWay" 302 (.ref 99), en P "NoRound" 318 (.ref 111), en P "Expr" 340 (.ref 123)] 18) #[])
def o124 (P : Params) : Obj := (Obj.mk .none (Option.none) (Data.fields #[(.int (1 : Int) 0), (.int (0 : Int) 0), (.ref 20), (.int (5 : Int) 0), (.int (0 : Int) 0), (.ref 27), (.int (7 : Int) 0), (.int (0 : Int) 0), (.ref 40), (.int (9 : Int) 0), (.int (0 : Int) 0), (.ref 52), (.int (11 : Int) 0), (.int (0 : Int) 0), (.ref 64), (.int (13 : Int) 0), (.int (0 : Int) 0), (.ref 76), (.int (17 : Int) 0), (.int (0 : Int) 0), (.ref 95), (.int (19 : Int) 0), (.int (0 : Int) 0), (.ref 107), (.int (22 : Int) 0), (.int (0 : Int) 0), (.ref 119)]) #[])
def o125 (P : Params) : Obj := (Obj.mk (.type "tuple") (Option.none) (Data.seq #[] 0) #[])
def o126 (P : Params) : Obj := (Obj.mk (.type "builtin_function_or_method") (Option.none) (Data.fields #[(.builtin "type.__prepare__"), (.type "type")]) #[])
def o127 (P : Params) : Obj := (Obj.mk (.type "dict") (Option.none) (Data.dict #[en P "__module__" 328 (.str "beatless.exprs" 319), en P "__qualname__" 330 (.str "Expr" 329), en P "__firstlineno__" 332 (.int (22 : Int) 331), en P "__static_attributes__" 333 (.ref 121)] 4) #[])
def o128 (P : Params) : Obj := (Obj.mk (.type "tuple") (Option.none) (Data.seq #[] 0) #[])
def o129 (P : Params) : Obj := (Obj.mk .none (Option.none) (Data.fields #[]) #[])
def o130 (P : Params) : Obj := (Obj.mk (.type "code") (Option.none) (Data.fields #[(.str "Expr" 323), (.str "Expr" 324), (.str "/claim/cut.py" 325), (.int (22 : Int) 0), (.int (0 : Int) 0), (.int (0 : Int) 0), (.int (0 : Int) 0), (.int (0 : Int) 0), (.ref 117), (.bool Bool.false), (.int (181 : Int) 0), (.ref 118), .none, .none, .none, .none, (.int (326 : Int) 0), (.int (22 : Int) 0), (.str "/claim/cut.py" 327)]) #[])
def o131 (P : Params) : Obj := (Obj.mk (.type "frame") (Option.none) Data.plain #[(Option.some (.ref 119)), (Option.some (.ref 3)), (Option.some (.ref 116)), (Option.none), (Option.some (.str "beatless.exprs" 319)), (Option.none), (Option.some (.ref 0))])
def o132 (P : Params) : Obj := (Obj.mk (.type "tuple") (Option.none) (Data.seq #[] 0) #[])
def o133 (P : Params) : Obj := (Obj.mk (.type "dict") (Option.none) (Data.dict #[en P "__module__" 328 (.str "beatless.exprs" 319), en P "__firstlineno__" 332 (.int (22 : Int) 331), en P "__static_attributes__" 333 (.ref 121), en P "__dict__" 335 (.ref 124), en P "__weakref__" 337 (.ref 125), en P "__doc__" 338 .none] 4) #[])
def o134 (P : Params) : Obj := (Obj.mk (.type "type") (Option.none) (Data.cls (ClassData.mk "Expr" [(.type "object")] [(.ref 123), (.type "object")] 122 "Expr" Bool.true [] [] Bool.false (Option.none) Bool.false)) #[(Option.none), (Option.none), (Option.some (.str "Expr" 321)), (Option.some (.str "Expr" 329)), (Option.some (.builtin "object.__new__")), (Option.some (.bool Bool.true))])
def o135 (P : Params) : Obj := (Obj.mk (.type "getset_descriptor") (Option.none) (Data.fields #[(.str "__dict__" 334), (.ref 123), (.builtin "function.__dict__"), (.builtin "function.__dict__#set")]) #[])
def o136 (P : Params) : Obj := (Obj.mk (.type "getset_descriptor") (Option.none) (Data.fields #[(.str "__weakref__" 336), (.ref 123), (.builtin "ExceptionGroup.__weakref__"), .none]) #[])
def o137 (P : Params) : Obj := (Obj.mk (.type "super") (Option.none) (Data.fields #[(.ref 123), (.ref 123), (.ref 123)]) #[])
def o138 (P : Params) : Obj := (Obj.mk (.type "builtin_function_or_method") (Option.none) (Data.fields #[(.builtin "object.__init_subclass__"), (.ref 123)]) #[])
def t351 (P : Params) : BT := .node (o138 P) .nil .nil
def t352 (P : Params) : BT := .node (o63 P) (t351 P) .nil
def t353 (P : Params) : BT := .node (o110 P) (t352 P) (t248 P)
def t354 (P : Params) : BT := .node (o6 P) (t353 P) (t301 P)
def t355 (P : Params) : BT := .node (o130 P) .nil .nil
def t356 (P : Params) : BT := .node (o52 P) (t184 P) (t355 P)
def t357 (P : Params) : BT := .node (o14 P) (t304 P) (t356 P)
def t358 (P : Params) : BT := .node (boot_o_7 P) (t354 P) (t357 P)
def t359 (P : Params) : BT := .node (o126 P) .nil .nil
def t360 (P : Params) : BT := .node (o48 P) (t188 P) (t359 P)
def t361 (P : Params) : BT := .node (o10 P) (t253 P) (t360 P)
def t362 (P : Params) : BT := .node (o134 P) .nil .nil
def t363 (P : Params) : BT := .node (o59 P) (t255 P) (t362 P)
def t364 (P : Params) : BT := .node (o18 P) (t308 P) (t363 P)
def t365 (P : Params) : BT := .node (o0 P) (t361 P) (t364 P)
def t366 (P : Params) : BT := .node (o123 P) (t358 P) (t365 P)
def t367 (P : Params) : BT := .node (o132 P) .nil .nil
def t368 (P : Params) : BT := .node (o54 P) (t201 P) (t367 P)
def t369 (P : Params) : BT := .node (o16 P) (t316 P) (t368 P)
def t370 (P : Params) : BT := .node (boot_o_9 P) (t314 P) (t369 P)
def t371 (P : Params) : BT := .node (o128 P) .nil .nil
def t372 (P : Params) : BT := .node (o50 P) (t205 P) (t371 P)
def t373 (P : Params) : BT := .node (o12 P) (t265 P) (t372 P)
def t374 (P : Params) : BT := .node (o136 P) .nil .nil
def t375 (P : Params) : BT := .node (o61 P) (t267 P) (t374 P)
def t376 (P : Params) : BT := .node (o20 P) (t320 P) (t375 P)
def t377 (P : Params) : BT := .node (o2 P) (t373 P) (t376 P)
def t378 (P : Params) : BT := .node (boot_o_5 P) (t370 P) (t377 P)
def t379 (P : Params) : BT := .node (boot_o_1 P) (t366 P) (t378 P)
def t380 (P : Params) : BT := .node (o131 P) .nil .nil
def t381 (P : Params) : BT := .node (o53 P) (t219 P) (t380 P)
def t382 (P : Params) : BT := .node (o15 P) (t329 P) (t381 P)
def t383 (P : Params) : BT := .node (boot_o_8 P) (t327 P) (t382 P)
def t384 (P : Params) : BT := .node (o127 P) .nil .nil
def t385 (P : Params) : BT := .node (o49 P) (t223 P) (t384 P)
def t386 (P : Params) : BT := .node (o11 P) (t278 P) (t385 P)
def t387 (P : Params) : BT := .node (o135 P) .nil .nil
def t388 (P : Params) : BT := .node (o60 P) (t280 P) (t387 P)
def t389 (P : Params) : BT := .node (o19 P) (t333 P) (t388 P)
def t390 (P : Params) : BT := .node (o124 P) (t386 P) (t389 P)
def t391 (P : Params) : BT := .node (boot_o_4 P) (t383 P) (t390 P)
def t392 (P : Params) : BT := .node (o125 P) .nil .nil
def t393 (P : Params) : BT := .node (o47 P) (t231 P) (t392 P)
def t394 (P : Params) : BT := .node (o9 P) (t286 P) (t393 P)
def t395 (P : Params) : BT := .node (o133 P) .nil .nil
def t396 (P : Params) : BT := .node (o55 P) (t288 P) (t395 P)
def t397 (P : Params) : BT := .node (o17 P) (t338 P) (t396 P)
def t398 (P : Params) : BT := .node (boot_o_10 P) (t394 P) (t397 P)
def t399 (P : Params) : BT := .node (o129 P) .nil .nil
def t400 (P : Params) : BT := .node (o51 P) (t238 P) (t399 P)
def t401 (P : Params) : BT := .node (o13 P) (t342 P) (t400 P)
def t402 (P : Params) : BT := .node (o137 P) .nil .nil
def t403 (P : Params) : BT := .node (o62 P) (t292 P) (t402 P)
def t404 (P : Params) : BT := .node (o21 P) (t345 P) (t403 P)
def t405 (P : Params) : BT := .node (o3 P) (t401 P) (t404 P)
def t406 (P : Params) : BT := .node (boot_o_6 P) (t398 P) (t405 P)
def t407 (P : Params) : BT := .node (boot_o_2 P) (t391 P) (t406 P)
def t408 (P : Params) : BT := .node (boot_o_0 P) (t379 P) (t407 P)
def sb8 (w : World) (os : OsState) : SharedT := ⟨(t408 w.params), 128, (Life.mk [] [] [] 0 [] [] Bool.false #[] [] 0 Bool.false Bool.false Bool.false (0 : Int) [(2000 : Int), (10 : Int), (10 : Int)] Bool.false 0 Bool.true [] [] 0 Bool.false), ⟨[]⟩, (Drawn.mk 0 0 0 0), 341, os⟩
def L7 (w : World) (os : OsState) : Option (Flow × SharedT × Code × Pos) := segRunT treeTable PySem.Challenge.pw_beatless_k06_programs_refused w 11 an 1 191 (sb7 w os) (piecesOf sts7 env cE (Pos.mk 21 0 21 8) B)
def R7 (w : World) (os : OsState) : Option (Flow × SharedT × Code × Pos) := some (.next, sb8 w os, cE, (Pos.mk 22 0 23 8))
theorem q7 : tt (Hd.L7, Hd.R7) = true := by k_qdec
theorem r7 : ∀ w, PySem.W.Fast.tw9490284035958612641 w = PySem.W.Fast.tw15626045330170987150 w := fun w => by kernel_rfl
theorem e7 (w : World) (os : OsState) : Hd.L7 w os = Hd.R7 w os :=
  (congrFun (congrFun PySem.W.Fast.te9490284035958612641 w) os).trans ((congrFun (r7 w) os).trans (congrFun (congrFun PySem.W.Fast.te15626045330170987150 w) os).symm)
def sts8 : List Stmt := [S 11]
def o139 (P : Params) : Obj := (Obj.mk (.type "dict") (Option.none) (Data.dict #[en P "__name__" 165 (.str "beatless.exprs" 319), en P "__doc__" 166 .none, en P "__package__" 167 .none, en P "__loader__" 168 (.builtin "__main__.__loader__#opaque"), en P "__spec__" 169 .none, en P "__annotations__" 170 (.ref 6), en P "__builtins__" 171 (.ref 4), en P "__file__" 173 (.str "/claim/cut.py" 172), en P "__cached__" 174 .none, en P "_wall" 193 (.ref 21), en P "BeatlessError" 213 (.ref 31), en P "NoWeb" 229 (.ref 44), en P "NoHand" 245 (.ref 56), en P "NoProgram" 261 (.ref 68), en P "NoText" 286 (.ref 87), en P "NoWay" 302 (.ref 99), en P "NoRound" 318 (.ref 111), en P "Expr" 340 (.ref 123), en P "Num" 387 (.ref 165)] 19) #[])
def o140 (P : Params) : Obj := (Obj.mk .none (Option.none) (Data.fields #[(.int (1 : Int) 0), (.int (0 : Int) 0), (.ref 20), (.int (5 : Int) 0), (.int (0 : Int) 0), (.ref 27), (.int (7 : Int) 0), (.int (0 : Int) 0), (.ref 40), (.int (9 : Int) 0), (.int (0 : Int) 0), (.ref 52), (.int (11 : Int) 0), (.int (0 : Int) 0), (.ref 64), (.int (13 : Int) 0), (.int (0 : Int) 0), (.ref 76), (.int (17 : Int) 0), (.int (0 : Int) 0), (.ref 95), (.int (19 : Int) 0), (.int (0 : Int) 0), (.ref 107), (.int (22 : Int) 0), (.int (0 : Int) 0), (.ref 119), (.int (24 : Int) 0), (.int (0 : Int) 0), (.ref 133)]) #[])
def o141 (P : Params) : Obj := (Obj.mk (.type "type") (Option.none) (Data.cls (ClassData.mk "Expr" [(.type "object")] [(.ref 123), (.type "object")] 122 "Expr" Bool.true [] [(.ref 165)] Bool.false (Option.none) Bool.false)) #[(Option.none), (Option.none), (Option.some (.str "Expr" 321)), (Option.some (.str "Expr" 329)), (Option.some (.builtin "object.__new__")), (Option.some (.bool Bool.true))])
def o142 (P : Params) : Obj := (Obj.mk (.type "tuple") (Option.none) (Data.seq #[(.ref 123)] 0) #[])
def o143 (P : Params) : Obj := (Obj.mk (.type "builtin_function_or_method") (Option.none) (Data.fields #[(.builtin "type.__prepare__"), (.type "type")]) #[])
def o144 (P : Params) : Obj := (Obj.mk (.type "dict") (Option.none) (Data.dict #[en P "__module__" 348 (.str "beatless.exprs" 319), en P "__qualname__" 350 (.str "Num" 349), en P "__firstlineno__" 352 (.int (24 : Int) 351), en P "__init__" 360 (.ref 141), en P "reckon" 368 (.ref 148), en P "told" 375 (.ref 155), en P "words" 382 (.ref 162), en P "__static_attributes__" 384 (.ref 163)] 8) #[])
def o145 (P : Params) : Obj := (Obj.mk (.type "tuple") (Option.none) (Data.seq #[] 0) #[])
def o146 (P : Params) : Obj := (Obj.mk .none (Option.none) (Data.fields #[(.int (26 : Int) 0), (.int (4 : Int) 0), (.ref 140), (.int (29 : Int) 0), (.int (4 : Int) 0), (.ref 147), (.int (32 : Int) 0), (.int (4 : Int) 0), (.ref 154), (.int (35 : Int) 0), (.int (4 : Int) 0), (.ref 161)]) #[])
def o147 (P : Params) : Obj := (Obj.mk (.type "code") (Option.none) (Data.fields #[(.str "Num" 343), (.str "Num" 344), (.str "/claim/cut.py" 345), (.int (24 : Int) 0), (.int (0 : Int) 0), (.int (0 : Int) 0), (.int (0 : Int) 0), (.int (0 : Int) 0), (.ref 131), (.bool Bool.false), (.int (181 : Int) 0), (.ref 132), .none, .none, .none, .none, (.int (346 : Int) 0), (.int (24 : Int) 0), (.str "/claim/cut.py" 347)]) #[])
def o148 (P : Params) : Obj := (Obj.mk (.type "frame") (Option.none) Data.plain #[(Option.some (.ref 133)), (Option.some (.ref 3)), (Option.some (.ref 130)), (Option.none), (Option.some (.str "beatless.exprs" 319)), (Option.none), (Option.some (.ref 0))])
def o149 (P : Params) : Obj := (Obj.mk (.type "tuple") (Option.none) (Data.seq #[] 0) #[])
def o150 (P : Params) : Obj := (Obj.mk .none (Option.none) (Data.fields #[]) #[])
def o151 (P : Params) : Obj := (Obj.mk (.type "tuple") (Option.none) (Data.seq #[(.str "self" 356), (.str "value" 357)] 0) #[])
def o152 (P : Params) : Obj := (Obj.mk (.type "tuple") (Option.none) (Data.seq #[] 0) #[])
def o153 (P : Params) : Obj := (Obj.mk .none (Option.none) (Data.func (fd "__init__" "Num.__init__" (L2.inClass (S 11) 0) 0 [] .none .none .none .none (Option.none) .none .none 0)) #[])
def o154 (P : Params) : Obj := (Obj.mk (.type "code") (Option.none) (Data.fields #[(.str "__init__" 353), (.str "Num.__init__" 354), (.str "/claim/cut.py" 355), (.int (26 : Int) 0), (.int (2 : Int) 0), (.int (0 : Int) 0), (.int (0 : Int) 0), (.int (3 : Int) 0), (.ref 135), (.bool Bool.true), (.int (181 : Int) 0), (.ref 136), .none, (.ref 137), (.ref 138), (.ref 139), (.int (358 : Int) 0), (.int (26 : Int) 0), (.str "/claim/cut.py" 359)]) #[])
def o155 (P : Params) : Obj := (Obj.mk (.type "function") (Option.none) (Data.func (fd "__init__" "Num.__init__" (L2.inClass (S 11) 0) 3 [] .none .none .none (.str "beatless.exprs" 319) (Option.none) (.ref 140) .none 0)) #[])
def o156 (P : Params) : Obj := (Obj.mk (.type "tuple") (Option.none) (Data.seq #[] 0) #[])
def o157 (P : Params) : Obj := (Obj.mk .none (Option.none) (Data.fields #[]) #[])
def o158 (P : Params) : Obj := (Obj.mk (.type "tuple") (Option.none) (Data.seq #[(.str "self" 364), (.str "worths" 365)] 0) #[])
def o159 (P : Params) : Obj := (Obj.mk (.type "tuple") (Option.none) (Data.seq #[] 0) #[])
def o160 (P : Params) : Obj := (Obj.mk .none (Option.none) (Data.func (fd "reckon" "Num.reckon" (L2.inClass (S 11) 1) 0 [] .none .none .none .none (Option.none) .none .none 0)) #[])
def o161 (P : Params) : Obj := (Obj.mk (.type "code") (Option.none) (Data.fields #[(.str "reckon" 361), (.str "Num.reckon" 362), (.str "/claim/cut.py" 363), (.int (29 : Int) 0), (.int (2 : Int) 0), (.int (0 : Int) 0), (.int (0 : Int) 0), (.int (3 : Int) 0), (.ref 142), (.bool Bool.true), (.int (181 : Int) 0), (.ref 143), .none, (.ref 144), (.ref 145), (.ref 146), (.int (366 : Int) 0), (.int (29 : Int) 0), (.str "/claim/cut.py" 367)]) #[])
def o162 (P : Params) : Obj := (Obj.mk (.type "function") (Option.none) (Data.func (fd "reckon" "Num.reckon" (L2.inClass (S 11) 1) 3 [] .none .none .none (.str "beatless.exprs" 319) (Option.none) (.ref 147) .none 0)) #[])
def o163 (P : Params) : Obj := (Obj.mk (.type "tuple") (Option.none) (Data.seq #[] 0) #[])
def o164 (P : Params) : Obj := (Obj.mk .none (Option.none) (Data.fields #[]) #[])
def o165 (P : Params) : Obj := (Obj.mk (.type "tuple") (Option.none) (Data.seq #[(.str "self" 372)] 0) #[])
def o166 (P : Params) : Obj := (Obj.mk (.type "tuple") (Option.none) (Data.seq #[] 0) #[])
def o167 (P : Params) : Obj := (Obj.mk .none (Option.none) (Data.func (fd "told" "Num.told" (L2.inClass (S 11) 2) 0 [] .none .none .none .none (Option.none) .none .none 0)) #[])
def o168 (P : Params) : Obj := (Obj.mk (.type "code") (Option.none) (Data.fields #[(.str "told" 369), (.str "Num.told" 370), (.str "/claim/cut.py" 371), (.int (32 : Int) 0), (.int (1 : Int) 0), (.int (0 : Int) 0), (.int (0 : Int) 0), (.int (3 : Int) 0), (.ref 149), (.bool Bool.true), (.int (181 : Int) 0), (.ref 150), .none, (.ref 151), (.ref 152), (.ref 153), (.int (373 : Int) 0), (.int (32 : Int) 0), (.str "/claim/cut.py" 374)]) #[])
def o169 (P : Params) : Obj := (Obj.mk (.type "function") (Option.none) (Data.func (fd "told" "Num.told" (L2.inClass (S 11) 2) 3 [] .none .none .none (.str "beatless.exprs" 319) (Option.none) (.ref 154) .none 0)) #[])
def o170 (P : Params) : Obj := (Obj.mk (.type "tuple") (Option.none) (Data.seq #[] 0) #[])
def o171 (P : Params) : Obj := (Obj.mk .none (Option.none) (Data.fields #[]) #[])
def o172 (P : Params) : Obj := (Obj.mk (.type "tuple") (Option.none) (Data.seq #[(.str "self" 379)] 0) #[])
def o173 (P : Params) : Obj := (Obj.mk (.type "tuple") (Option.none) (Data.seq #[] 0) #[])
def o174 (P : Params) : Obj := (Obj.mk .none (Option.none) (Data.func (fd "words" "Num.words" (L2.inClass (S 11) 3) 0 [] .none .none .none .none (Option.none) .none .none 0)) #[])
def o175 (P : Params) : Obj := (Obj.mk (.type "code") (Option.none) (Data.fields #[(.str "words" 376), (.str "Num.words" 377), (.str "/claim/cut.py" 378), (.int (35 : Int) 0), (.int (1 : Int) 0), (.int (0 : Int) 0), (.int (0 : Int) 0), (.int (3 : Int) 0), (.ref 156), (.bool Bool.true), (.int (181 : Int) 0), (.ref 157), .none, (.ref 158), (.ref 159), (.ref 160), (.int (380 : Int) 0), (.int (35 : Int) 0), (.str "/claim/cut.py" 381)]) #[])
def o176 (P : Params) : Obj := (Obj.mk (.type "function") (Option.none) (Data.func (fd "words" "Num.words" (L2.inClass (S 11) 3) 3 [] .none .none .none (.str "beatless.exprs" 319) (Option.none) (.ref 161) .none 0)) #[])
def o177 (P : Params) : Obj := (Obj.mk (.type "tuple") (Option.none) (Data.seq #[(.str "value" 383)] 0) #[])
def o178 (P : Params) : Obj := (Obj.mk (.type "dict") (Option.none) (Data.dict #[en P "__module__" 348 (.str "beatless.exprs" 319), en P "__firstlineno__" 352 (.int (24 : Int) 351), en P "__init__" 360 (.ref 141), en P "reckon" 368 (.ref 148), en P "told" 375 (.ref 155), en P "words" 382 (.ref 162), en P "__static_attributes__" 384 (.ref 163), en P "__doc__" 385 .none] 2) #[])
def o179 (P : Params) : Obj := (Obj.mk (.type "type") (Option.none) (Data.cls (ClassData.mk "Num" [(.ref 123)] [(.ref 165), (.ref 123), (.type "object")] 164 "Num" Bool.true [] [] Bool.false (Option.none) Bool.false)) #[(Option.some (.ref 128)), (Option.none), (Option.some (.str "Num" 341)), (Option.some (.str "Num" 349)), (Option.some (.builtin "object.__new__")), (Option.some (.bool Bool.true))])
def o180 (P : Params) : Obj := (Obj.mk (.type "super") (Option.none) (Data.fields #[(.ref 165), (.ref 165), (.ref 165)]) #[])
def o181 (P : Params) : Obj := (Obj.mk (.type "builtin_function_or_method") (Option.none) (Data.fields #[(.builtin "object.__init_subclass__"), (.ref 165)]) #[])
def t409 (P : Params) : BT := .node (o173 P) .nil .nil
def t410 (P : Params) : BT := .node (o101 P) (t409 P) .nil
def t411 (P : Params) : BT := .node (o110 P) (t352 P) (t410 P)
def t412 (P : Params) : BT := .node (o157 P) .nil .nil
def t413 (P : Params) : BT := .node (o82 P) (t412 P) .nil
def t414 (P : Params) : BT := .node (o44 P) (t413 P) (t300 P)
def t415 (P : Params) : BT := .node (o6 P) (t411 P) (t414 P)
def t416 (P : Params) : BT := .node (o149 P) .nil .nil
def t417 (P : Params) : BT := .node (o74 P) (t416 P) .nil
def t418 (P : Params) : BT := .node (o181 P) .nil .nil
def t419 (P : Params) : BT := .node (o112 P) (t418 P) .nil
def t420 (P : Params) : BT := .node (o33 P) (t417 P) (t419 P)
def t421 (P : Params) : BT := .node (o165 P) .nil .nil
def t422 (P : Params) : BT := .node (o90 P) (t421 P) .nil
def t423 (P : Params) : BT := .node (o52 P) (t422 P) (t355 P)
def t424 (P : Params) : BT := .node (o14 P) (t420 P) (t423 P)
def t425 (P : Params) : BT := .node (boot_o_7 P) (t415 P) (t424 P)
def t426 (P : Params) : BT := .node (o145 P) .nil .nil
def t427 (P : Params) : BT := .node (o67 P) (t426 P) .nil
def t428 (P : Params) : BT := .node (o177 P) .nil .nil
def t429 (P : Params) : BT := .node (o105 P) (t428 P) .nil
def t430 (P : Params) : BT := .node (o29 P) (t427 P) (t429 P)
def t431 (P : Params) : BT := .node (o161 P) .nil .nil
def t432 (P : Params) : BT := .node (o86 P) (t431 P) .nil
def t433 (P : Params) : BT := .node (o48 P) (t432 P) (t359 P)
def t434 (P : Params) : BT := .node (o10 P) (t430 P) (t433 P)
def t435 (P : Params) : BT := .node (o153 P) .nil .nil
def t436 (P : Params) : BT := .node (o78 P) (t435 P) .nil
def t437 (P : Params) : BT := .node (o37 P) (t436 P) (t307 P)
def t438 (P : Params) : BT := .node (o169 P) .nil .nil
def t439 (P : Params) : BT := .node (o97 P) (t438 P) .nil
def t440 (P : Params) : BT := .node (o141 P) .nil .nil
def t441 (P : Params) : BT := .node (o59 P) (t439 P) (t440 P)
def t442 (P : Params) : BT := .node (o18 P) (t437 P) (t441 P)
def t443 (P : Params) : BT := .node (o0 P) (t434 P) (t442 P)
def t444 (P : Params) : BT := .node (o139 P) (t425 P) (t443 P)
def t445 (P : Params) : BT := .node (o143 P) .nil .nil
def t446 (P : Params) : BT := .node (o65 P) (t445 P) .nil
def t447 (P : Params) : BT := .node (o175 P) .nil .nil
def t448 (P : Params) : BT := .node (o103 P) (t447 P) .nil
def t449 (P : Params) : BT := .node (o24 P) (t446 P) (t448 P)
def t450 (P : Params) : BT := .node (o159 P) .nil .nil
def t451 (P : Params) : BT := .node (o84 P) (t450 P) .nil
def t452 (P : Params) : BT := .node (o46 P) (t451 P) (t312 P)
def t453 (P : Params) : BT := .node (o8 P) (t449 P) (t452 P)
def t454 (P : Params) : BT := .node (o151 P) .nil .nil
def t455 (P : Params) : BT := .node (o76 P) (t454 P) .nil
def t456 (P : Params) : BT := .node (o35 P) (t455 P) (t315 P)
def t457 (P : Params) : BT := .node (o167 P) .nil .nil
def t458 (P : Params) : BT := .node (o92 P) (t457 P) .nil
def t459 (P : Params) : BT := .node (o54 P) (t458 P) (t367 P)
def t460 (P : Params) : BT := .node (o16 P) (t456 P) (t459 P)
def t461 (P : Params) : BT := .node (boot_o_9 P) (t453 P) (t460 P)
def t462 (P : Params) : BT := .node (o147 P) .nil .nil
def t463 (P : Params) : BT := .node (o69 P) (t462 P) .nil
def t464 (P : Params) : BT := .node (o179 P) .nil .nil
def t465 (P : Params) : BT := .node (o107 P) (t464 P) .nil
def t466 (P : Params) : BT := .node (o31 P) (t463 P) (t465 P)
def t467 (P : Params) : BT := .node (o163 P) .nil .nil
def t468 (P : Params) : BT := .node (o88 P) (t467 P) .nil
def t469 (P : Params) : BT := .node (o50 P) (t468 P) (t371 P)
def t470 (P : Params) : BT := .node (o12 P) (t466 P) (t469 P)
def t471 (P : Params) : BT := .node (o155 P) .nil .nil
def t472 (P : Params) : BT := .node (o80 P) (t471 P) .nil
def t473 (P : Params) : BT := .node (o39 P) (t472 P) (t319 P)
def t474 (P : Params) : BT := .node (o171 P) .nil .nil
def t475 (P : Params) : BT := .node (o99 P) (t474 P) .nil
def t476 (P : Params) : BT := .node (o61 P) (t475 P) (t374 P)
def t477 (P : Params) : BT := .node (o20 P) (t473 P) (t476 P)
def t478 (P : Params) : BT := .node (o2 P) (t470 P) (t477 P)
def t479 (P : Params) : BT := .node (boot_o_5 P) (t461 P) (t478 P)
def t480 (P : Params) : BT := .node (boot_o_1 P) (t444 P) (t479 P)
def t481 (P : Params) : BT := .node (o142 P) .nil .nil
def t482 (P : Params) : BT := .node (o64 P) (t481 P) .nil
def t483 (P : Params) : BT := .node (o174 P) .nil .nil
def t484 (P : Params) : BT := .node (o102 P) (t483 P) .nil
def t485 (P : Params) : BT := .node (o23 P) (t482 P) (t484 P)
def t486 (P : Params) : BT := .node (o158 P) .nil .nil
def t487 (P : Params) : BT := .node (o83 P) (t486 P) .nil
def t488 (P : Params) : BT := .node (o45 P) (t487 P) (t325 P)
def t489 (P : Params) : BT := .node (o7 P) (t485 P) (t488 P)
def t490 (P : Params) : BT := .node (o150 P) .nil .nil
def t491 (P : Params) : BT := .node (o75 P) (t490 P) .nil
def t492 (P : Params) : BT := .node (o34 P) (t491 P) (t328 P)
def t493 (P : Params) : BT := .node (o166 P) .nil .nil
def t494 (P : Params) : BT := .node (o91 P) (t493 P) .nil
def t495 (P : Params) : BT := .node (o53 P) (t494 P) (t380 P)
def t496 (P : Params) : BT := .node (o15 P) (t492 P) (t495 P)
def t497 (P : Params) : BT := .node (boot_o_8 P) (t489 P) (t496 P)
def t498 (P : Params) : BT := .node (o146 P) .nil .nil
def t499 (P : Params) : BT := .node (o68 P) (t498 P) .nil
def t500 (P : Params) : BT := .node (o178 P) .nil .nil
def t501 (P : Params) : BT := .node (o106 P) (t500 P) .nil
def t502 (P : Params) : BT := .node (o30 P) (t499 P) (t501 P)
def t503 (P : Params) : BT := .node (o162 P) .nil .nil
def t504 (P : Params) : BT := .node (o87 P) (t503 P) .nil
def t505 (P : Params) : BT := .node (o49 P) (t504 P) (t384 P)
def t506 (P : Params) : BT := .node (o11 P) (t502 P) (t505 P)
def t507 (P : Params) : BT := .node (o154 P) .nil .nil
def t508 (P : Params) : BT := .node (o79 P) (t507 P) .nil
def t509 (P : Params) : BT := .node (o38 P) (t508 P) (t332 P)
def t510 (P : Params) : BT := .node (o170 P) .nil .nil
def t511 (P : Params) : BT := .node (o98 P) (t510 P) .nil
def t512 (P : Params) : BT := .node (o60 P) (t511 P) (t387 P)
def t513 (P : Params) : BT := .node (o19 P) (t509 P) (t512 P)
def t514 (P : Params) : BT := .node (o140 P) (t506 P) (t513 P)
def t515 (P : Params) : BT := .node (boot_o_4 P) (t497 P) (t514 P)
def t516 (P : Params) : BT := .node (o144 P) .nil .nil
def t517 (P : Params) : BT := .node (o66 P) (t516 P) .nil
def t518 (P : Params) : BT := .node (o176 P) .nil .nil
def t519 (P : Params) : BT := .node (o104 P) (t518 P) .nil
def t520 (P : Params) : BT := .node (o25 P) (t517 P) (t519 P)
def t521 (P : Params) : BT := .node (o160 P) .nil .nil
def t522 (P : Params) : BT := .node (o85 P) (t521 P) .nil
def t523 (P : Params) : BT := .node (o47 P) (t522 P) (t392 P)
def t524 (P : Params) : BT := .node (o9 P) (t520 P) (t523 P)
def t525 (P : Params) : BT := .node (o152 P) .nil .nil
def t526 (P : Params) : BT := .node (o77 P) (t525 P) .nil
def t527 (P : Params) : BT := .node (o36 P) (t526 P) (t337 P)
def t528 (P : Params) : BT := .node (o168 P) .nil .nil
def t529 (P : Params) : BT := .node (o96 P) (t528 P) .nil
def t530 (P : Params) : BT := .node (o55 P) (t529 P) (t395 P)
def t531 (P : Params) : BT := .node (o17 P) (t527 P) (t530 P)
def t532 (P : Params) : BT := .node (boot_o_10 P) (t524 P) (t531 P)
def t533 (P : Params) : BT := .node (o148 P) .nil .nil
def t534 (P : Params) : BT := .node (o70 P) (t533 P) .nil
def t535 (P : Params) : BT := .node (o180 P) .nil .nil
def t536 (P : Params) : BT := .node (o111 P) (t535 P) .nil
def t537 (P : Params) : BT := .node (o32 P) (t534 P) (t536 P)
def t538 (P : Params) : BT := .node (o164 P) .nil .nil
def t539 (P : Params) : BT := .node (o89 P) (t538 P) .nil
def t540 (P : Params) : BT := .node (o51 P) (t539 P) (t399 P)
def t541 (P : Params) : BT := .node (o13 P) (t537 P) (t540 P)
def t542 (P : Params) : BT := .node (o156 P) .nil .nil
def t543 (P : Params) : BT := .node (o81 P) (t542 P) .nil
def t544 (P : Params) : BT := .node (o40 P) (t543 P) (t344 P)
def t545 (P : Params) : BT := .node (o172 P) .nil .nil
def t546 (P : Params) : BT := .node (o100 P) (t545 P) .nil
def t547 (P : Params) : BT := .node (o62 P) (t546 P) (t402 P)
def t548 (P : Params) : BT := .node (o21 P) (t544 P) (t547 P)
def t549 (P : Params) : BT := .node (o3 P) (t541 P) (t548 P)
def t550 (P : Params) : BT := .node (boot_o_6 P) (t532 P) (t549 P)
def t551 (P : Params) : BT := .node (boot_o_2 P) (t515 P) (t550 P)
def t552 (P : Params) : BT := .node (boot_o_0 P) (t480 P) (t551 P)
def sb9 (w : World) (os : OsState) : SharedT := ⟨(t552 w.params), 168, (Life.mk [] [] [] 0 [] [] Bool.false #[] [] 0 Bool.false Bool.false Bool.false (0 : Int) [(2000 : Int), (10 : Int), (10 : Int)] Bool.false 0 Bool.true [] [] 0 Bool.false), ⟨[]⟩, (Drawn.mk 0 0 0 0), 388, os⟩
def L8 (w : World) (os : OsState) : Option (Flow × SharedT × Code × Pos) := segRunT treeTable PySem.Challenge.pw_beatless_k06_programs_refused w 11 an 1 340 (sb8 w os) (piecesOf sts8 env cE (Pos.mk 22 0 23 8) B)
def R8 (w : World) (os : OsState) : Option (Flow × SharedT × Code × Pos) := some (.next, sb9 w os, cE, (Pos.mk 24 0 36 32))
theorem q8 : tt (Hd.L8, Hd.R8) = true := by k_qdec
theorem r8 : ∀ w, PySem.W.Fast.tw7116466485190837356 w = PySem.W.Fast.tw7334724712773792873 w := fun w => by kernel_rfl
theorem e8 (w : World) (os : OsState) : Hd.L8 w os = Hd.R8 w os :=
  (congrFun (congrFun PySem.W.Fast.te7116466485190837356 w) os).trans ((congrFun (r8 w) os).trans (congrFun (congrFun PySem.W.Fast.te7334724712773792873 w) os).symm)
def sts9 : List Stmt := [S 12]
def o182 (P : Params) : Obj := (Obj.mk (.type "dict") (Option.none) (Data.dict #[en P "__name__" 165 (.str "beatless.exprs" 319), en P "__doc__" 166 .none, en P "__package__" 167 .none, en P "__loader__" 168 (.builtin "__main__.__loader__#opaque"), en P "__spec__" 169 .none, en P "__annotations__" 170 (.ref 6), en P "__builtins__" 171 (.ref 4), en P "__file__" 173 (.str "/claim/cut.py" 172), en P "__cached__" 174 .none, en P "_wall" 193 (.ref 21), en P "BeatlessError" 213 (.ref 31), en P "NoWeb" 229 (.ref 44), en P "NoHand" 245 (.ref 56), en P "NoProgram" 261 (.ref 68), en P "NoText" 286 (.ref 87), en P "NoWay" 302 (.ref 99), en P "NoRound" 318 (.ref 111), en P "Expr" 340 (.ref 123), en P "Num" 387 (.ref 165), en P "Name" 434 (.ref 205)] 20) #[])
def o183 (P : Params) : Obj := (Obj.mk .none (Option.none) (Data.fields #[(.int (1 : Int) 0), (.int (0 : Int) 0), (.ref 20), (.int (5 : Int) 0), (.int (0 : Int) 0), (.ref 27), (.int (7 : Int) 0), (.int (0 : Int) 0), (.ref 40), (.int (9 : Int) 0), (.int (0 : Int) 0), (.ref 52), (.int (11 : Int) 0), (.int (0 : Int) 0), (.ref 64), (.int (13 : Int) 0), (.int (0 : Int) 0), (.ref 76), (.int (17 : Int) 0), (.int (0 : Int) 0), (.ref 95), (.int (19 : Int) 0), (.int (0 : Int) 0), (.ref 107), (.int (22 : Int) 0), (.int (0 : Int) 0), (.ref 119), (.int (24 : Int) 0), (.int (0 : Int) 0), (.ref 133), (.int (37 : Int) 0), (.int (0 : Int) 0), (.ref 173)]) #[])
def o184 (P : Params) : Obj := (Obj.mk (.type "type") (Option.none) (Data.cls (ClassData.mk "Expr" [(.type "object")] [(.ref 123), (.type "object")] 122 "Expr" Bool.true [] [(.ref 165), (.ref 205)] Bool.false (Option.none) Bool.false)) #[(Option.none), (Option.none), (Option.some (.str "Expr" 321)), (Option.some (.str "Expr" 329)), (Option.some (.builtin "object.__new__")), (Option.some (.bool Bool.true))])
def o185 (P : Params) : Obj := (Obj.mk (.type "tuple") (Option.none) (Data.seq #[(.ref 123)] 0) #[])
def o186 (P : Params) : Obj := (Obj.mk (.type "builtin_function_or_method") (Option.none) (Data.fields #[(.builtin "type.__prepare__"), (.type "type")]) #[])
def o187 (P : Params) : Obj := (Obj.mk (.type "dict") (Option.none) (Data.dict #[en P "__module__" 395 (.str "beatless.exprs" 319), en P "__qualname__" 397 (.str "Name" 396), en P "__firstlineno__" 399 (.int (37 : Int) 398), en P "__init__" 407 (.ref 181), en P "reckon" 415 (.ref 188), en P "told" 422 (.ref 195), en P "words" 429 (.ref 202), en P "__static_attributes__" 431 (.ref 203)] 8) #[])
def o188 (P : Params) : Obj := (Obj.mk (.type "tuple") (Option.none) (Data.seq #[] 0) #[])
def o189 (P : Params) : Obj := (Obj.mk .none (Option.none) (Data.fields #[(.int (39 : Int) 0), (.int (4 : Int) 0), (.ref 180), (.int (42 : Int) 0), (.int (4 : Int) 0), (.ref 187), (.int (45 : Int) 0), (.int (4 : Int) 0), (.ref 194), (.int (48 : Int) 0), (.int (4 : Int) 0), (.ref 201)]) #[])
def o190 (P : Params) : Obj := (Obj.mk (.type "code") (Option.none) (Data.fields #[(.str "Name" 390), (.str "Name" 391), (.str "/claim/cut.py" 392), (.int (37 : Int) 0), (.int (0 : Int) 0), (.int (0 : Int) 0), (.int (0 : Int) 0), (.int (0 : Int) 0), (.ref 171), (.bool Bool.false), (.int (181 : Int) 0), (.ref 172), .none, .none, .none, .none, (.int (393 : Int) 0), (.int (37 : Int) 0), (.str "/claim/cut.py" 394)]) #[])
def o191 (P : Params) : Obj := (Obj.mk (.type "frame") (Option.none) Data.plain #[(Option.some (.ref 173)), (Option.some (.ref 3)), (Option.some (.ref 170)), (Option.none), (Option.some (.str "beatless.exprs" 319)), (Option.none), (Option.some (.ref 0))])
def o192 (P : Params) : Obj := (Obj.mk (.type "tuple") (Option.none) (Data.seq #[] 0) #[])
def o193 (P : Params) : Obj := (Obj.mk .none (Option.none) (Data.fields #[]) #[])
def o194 (P : Params) : Obj := (Obj.mk (.type "tuple") (Option.none) (Data.seq #[(.str "self" 403), (.str "word" 404)] 0) #[])
def o195 (P : Params) : Obj := (Obj.mk (.type "tuple") (Option.none) (Data.seq #[] 0) #[])
def o196 (P : Params) : Obj := (Obj.mk .none (Option.none) (Data.func (fd "__init__" "Name.__init__" (L2.inClass (S 12) 0) 0 [] .none .none .none .none (Option.none) .none .none 0)) #[])
def o197 (P : Params) : Obj := (Obj.mk (.type "code") (Option.none) (Data.fields #[(.str "__init__" 400), (.str "Name.__init__" 401), (.str "/claim/cut.py" 402), (.int (39 : Int) 0), (.int (2 : Int) 0), (.int (0 : Int) 0), (.int (0 : Int) 0), (.int (3 : Int) 0), (.ref 175), (.bool Bool.true), (.int (181 : Int) 0), (.ref 176), .none, (.ref 177), (.ref 178), (.ref 179), (.int (405 : Int) 0), (.int (39 : Int) 0), (.str "/claim/cut.py" 406)]) #[])
def o198 (P : Params) : Obj := (Obj.mk (.type "function") (Option.none) (Data.func (fd "__init__" "Name.__init__" (L2.inClass (S 12) 0) 3 [] .none .none .none (.str "beatless.exprs" 319) (Option.none) (.ref 180) .none 0)) #[])
def o199 (P : Params) : Obj := (Obj.mk (.type "tuple") (Option.none) (Data.seq #[] 0) #[])
def o200 (P : Params) : Obj := (Obj.mk .none (Option.none) (Data.fields #[]) #[])
def o201 (P : Params) : Obj := (Obj.mk (.type "tuple") (Option.none) (Data.seq #[(.str "self" 411), (.str "worths" 412)] 0) #[])
def o202 (P : Params) : Obj := (Obj.mk (.type "tuple") (Option.none) (Data.seq #[] 0) #[])
def o203 (P : Params) : Obj := (Obj.mk .none (Option.none) (Data.func (fd "reckon" "Name.reckon" (L2.inClass (S 12) 1) 0 [] .none .none .none .none (Option.none) .none .none 0)) #[])
def o204 (P : Params) : Obj := (Obj.mk (.type "code") (Option.none) (Data.fields #[(.str "reckon" 408), (.str "Name.reckon" 409), (.str "/claim/cut.py" 410), (.int (42 : Int) 0), (.int (2 : Int) 0), (.int (0 : Int) 0), (.int (0 : Int) 0), (.int (3 : Int) 0), (.ref 182), (.bool Bool.true), (.int (181 : Int) 0), (.ref 183), .none, (.ref 184), (.ref 185), (.ref 186), (.int (413 : Int) 0), (.int (42 : Int) 0), (.str "/claim/cut.py" 414)]) #[])
def o205 (P : Params) : Obj := (Obj.mk (.type "function") (Option.none) (Data.func (fd "reckon" "Name.reckon" (L2.inClass (S 12) 1) 3 [] .none .none .none (.str "beatless.exprs" 319) (Option.none) (.ref 187) .none 0)) #[])
def o206 (P : Params) : Obj := (Obj.mk (.type "tuple") (Option.none) (Data.seq #[] 0) #[])
def o207 (P : Params) : Obj := (Obj.mk .none (Option.none) (Data.fields #[]) #[])
def o208 (P : Params) : Obj := (Obj.mk (.type "tuple") (Option.none) (Data.seq #[(.str "self" 419)] 0) #[])
def o209 (P : Params) : Obj := (Obj.mk (.type "tuple") (Option.none) (Data.seq #[] 0) #[])
def o210 (P : Params) : Obj := (Obj.mk .none (Option.none) (Data.func (fd "told" "Name.told" (L2.inClass (S 12) 2) 0 [] .none .none .none .none (Option.none) .none .none 0)) #[])
def o211 (P : Params) : Obj := (Obj.mk (.type "code") (Option.none) (Data.fields #[(.str "told" 416), (.str "Name.told" 417), (.str "/claim/cut.py" 418), (.int (45 : Int) 0), (.int (1 : Int) 0), (.int (0 : Int) 0), (.int (0 : Int) 0), (.int (3 : Int) 0), (.ref 189), (.bool Bool.true), (.int (181 : Int) 0), (.ref 190), .none, (.ref 191), (.ref 192), (.ref 193), (.int (420 : Int) 0), (.int (45 : Int) 0), (.str "/claim/cut.py" 421)]) #[])
def o212 (P : Params) : Obj := (Obj.mk (.type "function") (Option.none) (Data.func (fd "told" "Name.told" (L2.inClass (S 12) 2) 3 [] .none .none .none (.str "beatless.exprs" 319) (Option.none) (.ref 194) .none 0)) #[])
def o213 (P : Params) : Obj := (Obj.mk (.type "tuple") (Option.none) (Data.seq #[] 0) #[])
def o214 (P : Params) : Obj := (Obj.mk .none (Option.none) (Data.fields #[]) #[])
def o215 (P : Params) : Obj := (Obj.mk (.type "tuple") (Option.none) (Data.seq #[(.str "self" 426)] 0) #[])
def o216 (P : Params) : Obj := (Obj.mk (.type "tuple") (Option.none) (Data.seq #[] 0) #[])
def o217 (P : Params) : Obj := (Obj.mk .none (Option.none) (Data.func (fd "words" "Name.words" (L2.inClass (S 12) 3) 0 [] .none .none .none .none (Option.none) .none .none 0)) #[])
def o218 (P : Params) : Obj := (Obj.mk (.type "code") (Option.none) (Data.fields #[(.str "words" 423), (.str "Name.words" 424), (.str "/claim/cut.py" 425), (.int (48 : Int) 0), (.int (1 : Int) 0), (.int (0 : Int) 0), (.int (0 : Int) 0), (.int (3 : Int) 0), (.ref 196), (.bool Bool.true), (.int (181 : Int) 0), (.ref 197), .none, (.ref 198), (.ref 199), (.ref 200), (.int (427 : Int) 0), (.int (48 : Int) 0), (.str "/claim/cut.py" 428)]) #[])
def o219 (P : Params) : Obj := (Obj.mk (.type "function") (Option.none) (Data.func (fd "words" "Name.words" (L2.inClass (S 12) 3) 3 [] .none .none .none (.str "beatless.exprs" 319) (Option.none) (.ref 201) .none 0)) #[])
def o220 (P : Params) : Obj := (Obj.mk (.type "tuple") (Option.none) (Data.seq #[(.str "word" 430)] 0) #[])
def o221 (P : Params) : Obj := (Obj.mk (.type "dict") (Option.none) (Data.dict #[en P "__module__" 395 (.str "beatless.exprs" 319), en P "__firstlineno__" 399 (.int (37 : Int) 398), en P "__init__" 407 (.ref 181), en P "reckon" 415 (.ref 188), en P "told" 422 (.ref 195), en P "words" 429 (.ref 202), en P "__static_attributes__" 431 (.ref 203), en P "__doc__" 432 .none] 2) #[])
def o222 (P : Params) : Obj := (Obj.mk (.type "type") (Option.none) (Data.cls (ClassData.mk "Name" [(.ref 123)] [(.ref 205), (.ref 123), (.type "object")] 204 "Name" Bool.true [] [] Bool.false (Option.none) Bool.false)) #[(Option.some (.ref 168)), (Option.none), (Option.some (.str "Name" 388)), (Option.some (.str "Name" 396)), (Option.some (.builtin "object.__new__")), (Option.some (.bool Bool.true))])
def o223 (P : Params) : Obj := (Obj.mk (.type "super") (Option.none) (Data.fields #[(.ref 205), (.ref 205), (.ref 205)]) #[])
def o224 (P : Params) : Obj := (Obj.mk (.type "builtin_function_or_method") (Option.none) (Data.fields #[(.builtin "object.__init_subclass__"), (.ref 205)]) #[])
def t553 (P : Params) : BT := .node (o208 P) .nil .nil
def t554 (P : Params) : BT := .node (o63 P) (t351 P) (t553 P)
def t555 (P : Params) : BT := .node (o110 P) (t554 P) (t410 P)
def t556 (P : Params) : BT := .node (o224 P) .nil .nil
def t557 (P : Params) : BT := .node (o82 P) (t412 P) (t556 P)
def t558 (P : Params) : BT := .node (o192 P) .nil .nil
def t559 (P : Params) : BT := .node (o120 P) (t558 P) .nil
def t560 (P : Params) : BT := .node (o44 P) (t557 P) (t559 P)
def t561 (P : Params) : BT := .node (o6 P) (t555 P) (t560 P)
def t562 (P : Params) : BT := .node (o216 P) .nil .nil
def t563 (P : Params) : BT := .node (o74 P) (t416 P) (t562 P)
def t564 (P : Params) : BT := .node (o33 P) (t563 P) (t419 P)
def t565 (P : Params) : BT := .node (o200 P) .nil .nil
def t566 (P : Params) : BT := .node (o130 P) (t565 P) .nil
def t567 (P : Params) : BT := .node (o52 P) (t422 P) (t566 P)
def t568 (P : Params) : BT := .node (o14 P) (t564 P) (t567 P)
def t569 (P : Params) : BT := .node (boot_o_7 P) (t561 P) (t568 P)
def t570 (P : Params) : BT := .node (o212 P) .nil .nil
def t571 (P : Params) : BT := .node (o67 P) (t426 P) (t570 P)
def t572 (P : Params) : BT := .node (o29 P) (t571 P) (t429 P)
def t573 (P : Params) : BT := .node (o196 P) .nil .nil
def t574 (P : Params) : BT := .node (o126 P) (t573 P) .nil
def t575 (P : Params) : BT := .node (o48 P) (t432 P) (t574 P)
def t576 (P : Params) : BT := .node (o10 P) (t572 P) (t575 P)
def t577 (P : Params) : BT := .node (o220 P) .nil .nil
def t578 (P : Params) : BT := .node (o78 P) (t435 P) (t577 P)
def t579 (P : Params) : BT := .node (o188 P) .nil .nil
def t580 (P : Params) : BT := .node (o116 P) (t579 P) .nil
def t581 (P : Params) : BT := .node (o37 P) (t578 P) (t580 P)
def t582 (P : Params) : BT := .node (o204 P) .nil .nil
def t583 (P : Params) : BT := .node (o184 P) (t582 P) .nil
def t584 (P : Params) : BT := .node (o59 P) (t439 P) (t583 P)
def t585 (P : Params) : BT := .node (o18 P) (t581 P) (t584 P)
def t586 (P : Params) : BT := .node (o0 P) (t576 P) (t585 P)
def t587 (P : Params) : BT := .node (o182 P) (t569 P) (t586 P)
def t588 (P : Params) : BT := .node (o210 P) .nil .nil
def t589 (P : Params) : BT := .node (o65 P) (t445 P) (t588 P)
def t590 (P : Params) : BT := .node (o24 P) (t589 P) (t448 P)
def t591 (P : Params) : BT := .node (o194 P) .nil .nil
def t592 (P : Params) : BT := .node (o122 P) (t591 P) .nil
def t593 (P : Params) : BT := .node (o46 P) (t451 P) (t592 P)
def t594 (P : Params) : BT := .node (o8 P) (t590 P) (t593 P)
def t595 (P : Params) : BT := .node (o218 P) .nil .nil
def t596 (P : Params) : BT := .node (o76 P) (t454 P) (t595 P)
def t597 (P : Params) : BT := .node (o186 P) .nil .nil
def t598 (P : Params) : BT := .node (o114 P) (t597 P) .nil
def t599 (P : Params) : BT := .node (o35 P) (t596 P) (t598 P)
def t600 (P : Params) : BT := .node (o202 P) .nil .nil
def t601 (P : Params) : BT := .node (o132 P) (t600 P) .nil
def t602 (P : Params) : BT := .node (o54 P) (t458 P) (t601 P)
def t603 (P : Params) : BT := .node (o16 P) (t599 P) (t602 P)
def t604 (P : Params) : BT := .node (boot_o_9 P) (t594 P) (t603 P)
def t605 (P : Params) : BT := .node (o214 P) .nil .nil
def t606 (P : Params) : BT := .node (o69 P) (t462 P) (t605 P)
def t607 (P : Params) : BT := .node (o31 P) (t606 P) (t465 P)
def t608 (P : Params) : BT := .node (o198 P) .nil .nil
def t609 (P : Params) : BT := .node (o128 P) (t608 P) .nil
def t610 (P : Params) : BT := .node (o50 P) (t468 P) (t609 P)
def t611 (P : Params) : BT := .node (o12 P) (t607 P) (t610 P)
def t612 (P : Params) : BT := .node (o222 P) .nil .nil
def t613 (P : Params) : BT := .node (o80 P) (t471 P) (t612 P)
def t614 (P : Params) : BT := .node (o190 P) .nil .nil
def t615 (P : Params) : BT := .node (o118 P) (t614 P) .nil
def t616 (P : Params) : BT := .node (o39 P) (t613 P) (t615 P)
def t617 (P : Params) : BT := .node (o206 P) .nil .nil
def t618 (P : Params) : BT := .node (o136 P) (t617 P) .nil
def t619 (P : Params) : BT := .node (o61 P) (t475 P) (t618 P)
def t620 (P : Params) : BT := .node (o20 P) (t616 P) (t619 P)
def t621 (P : Params) : BT := .node (o2 P) (t611 P) (t620 P)
def t622 (P : Params) : BT := .node (boot_o_5 P) (t604 P) (t621 P)
def t623 (P : Params) : BT := .node (boot_o_1 P) (t587 P) (t622 P)
def t624 (P : Params) : BT := .node (o209 P) .nil .nil
def t625 (P : Params) : BT := .node (o64 P) (t481 P) (t624 P)
def t626 (P : Params) : BT := .node (o23 P) (t625 P) (t484 P)
def t627 (P : Params) : BT := .node (o193 P) .nil .nil
def t628 (P : Params) : BT := .node (o121 P) (t627 P) .nil
def t629 (P : Params) : BT := .node (o45 P) (t487 P) (t628 P)
def t630 (P : Params) : BT := .node (o7 P) (t626 P) (t629 P)
def t631 (P : Params) : BT := .node (o217 P) .nil .nil
def t632 (P : Params) : BT := .node (o75 P) (t490 P) (t631 P)
def t633 (P : Params) : BT := .node (o185 P) .nil .nil
def t634 (P : Params) : BT := .node (o113 P) (t633 P) .nil
def t635 (P : Params) : BT := .node (o34 P) (t632 P) (t634 P)
def t636 (P : Params) : BT := .node (o201 P) .nil .nil
def t637 (P : Params) : BT := .node (o131 P) (t636 P) .nil
def t638 (P : Params) : BT := .node (o53 P) (t494 P) (t637 P)
def t639 (P : Params) : BT := .node (o15 P) (t635 P) (t638 P)
def t640 (P : Params) : BT := .node (boot_o_8 P) (t630 P) (t639 P)
def t641 (P : Params) : BT := .node (o213 P) .nil .nil
def t642 (P : Params) : BT := .node (o68 P) (t498 P) (t641 P)
def t643 (P : Params) : BT := .node (o30 P) (t642 P) (t501 P)
def t644 (P : Params) : BT := .node (o197 P) .nil .nil
def t645 (P : Params) : BT := .node (o127 P) (t644 P) .nil
def t646 (P : Params) : BT := .node (o49 P) (t504 P) (t645 P)
def t647 (P : Params) : BT := .node (o11 P) (t643 P) (t646 P)
def t648 (P : Params) : BT := .node (o221 P) .nil .nil
def t649 (P : Params) : BT := .node (o79 P) (t507 P) (t648 P)
def t650 (P : Params) : BT := .node (o189 P) .nil .nil
def t651 (P : Params) : BT := .node (o117 P) (t650 P) .nil
def t652 (P : Params) : BT := .node (o38 P) (t649 P) (t651 P)
def t653 (P : Params) : BT := .node (o205 P) .nil .nil
def t654 (P : Params) : BT := .node (o135 P) (t653 P) .nil
def t655 (P : Params) : BT := .node (o60 P) (t511 P) (t654 P)
def t656 (P : Params) : BT := .node (o19 P) (t652 P) (t655 P)
def t657 (P : Params) : BT := .node (o183 P) (t647 P) (t656 P)
def t658 (P : Params) : BT := .node (boot_o_4 P) (t640 P) (t657 P)
def t659 (P : Params) : BT := .node (o211 P) .nil .nil
def t660 (P : Params) : BT := .node (o66 P) (t516 P) (t659 P)
def t661 (P : Params) : BT := .node (o25 P) (t660 P) (t519 P)
def t662 (P : Params) : BT := .node (o195 P) .nil .nil
def t663 (P : Params) : BT := .node (o125 P) (t662 P) .nil
def t664 (P : Params) : BT := .node (o47 P) (t522 P) (t663 P)
def t665 (P : Params) : BT := .node (o9 P) (t661 P) (t664 P)
def t666 (P : Params) : BT := .node (o219 P) .nil .nil
def t667 (P : Params) : BT := .node (o77 P) (t525 P) (t666 P)
def t668 (P : Params) : BT := .node (o187 P) .nil .nil
def t669 (P : Params) : BT := .node (o115 P) (t668 P) .nil
def t670 (P : Params) : BT := .node (o36 P) (t667 P) (t669 P)
def t671 (P : Params) : BT := .node (o203 P) .nil .nil
def t672 (P : Params) : BT := .node (o133 P) (t671 P) .nil
def t673 (P : Params) : BT := .node (o55 P) (t529 P) (t672 P)
def t674 (P : Params) : BT := .node (o17 P) (t670 P) (t673 P)
def t675 (P : Params) : BT := .node (boot_o_10 P) (t665 P) (t674 P)
def t676 (P : Params) : BT := .node (o215 P) .nil .nil
def t677 (P : Params) : BT := .node (o70 P) (t533 P) (t676 P)
def t678 (P : Params) : BT := .node (o32 P) (t677 P) (t536 P)
def t679 (P : Params) : BT := .node (o199 P) .nil .nil
def t680 (P : Params) : BT := .node (o129 P) (t679 P) .nil
def t681 (P : Params) : BT := .node (o51 P) (t539 P) (t680 P)
def t682 (P : Params) : BT := .node (o13 P) (t678 P) (t681 P)
def t683 (P : Params) : BT := .node (o223 P) .nil .nil
def t684 (P : Params) : BT := .node (o81 P) (t542 P) (t683 P)
def t685 (P : Params) : BT := .node (o191 P) .nil .nil
def t686 (P : Params) : BT := .node (o119 P) (t685 P) .nil
def t687 (P : Params) : BT := .node (o40 P) (t684 P) (t686 P)
def t688 (P : Params) : BT := .node (o207 P) .nil .nil
def t689 (P : Params) : BT := .node (o137 P) (t688 P) .nil
def t690 (P : Params) : BT := .node (o62 P) (t546 P) (t689 P)
def t691 (P : Params) : BT := .node (o21 P) (t687 P) (t690 P)
def t692 (P : Params) : BT := .node (o3 P) (t682 P) (t691 P)
def t693 (P : Params) : BT := .node (boot_o_6 P) (t675 P) (t692 P)
def t694 (P : Params) : BT := .node (boot_o_2 P) (t658 P) (t693 P)
def t695 (P : Params) : BT := .node (boot_o_0 P) (t623 P) (t694 P)
def sb10 (w : World) (os : OsState) : SharedT := ⟨(t695 w.params), 208, (Life.mk [] [] [] 0 [] [] Bool.false #[] [] 0 Bool.false Bool.false Bool.false (0 : Int) [(2000 : Int), (10 : Int), (10 : Int)] Bool.false 0 Bool.true [] [] 0 Bool.false), ⟨[]⟩, (Drawn.mk 0 0 0 0), 435, os⟩
def L9 (w : World) (os : OsState) : Option (Flow × SharedT × Code × Pos) := segRunT treeTable PySem.Challenge.pw_beatless_k06_programs_refused w 11 an 1 340 (sb9 w os) (piecesOf sts9 env cE (Pos.mk 24 0 36 32) B)
def R9 (w : World) (os : OsState) : Option (Flow × SharedT × Code × Pos) := some (.next, sb10 w os, cE, (Pos.mk 37 0 49 26))
theorem q9 : tt (Hd.L9, Hd.R9) = true := by k_qdec
theorem r9 : ∀ w, PySem.W.Fast.tw16134767483146388640 w = PySem.W.Fast.tw11929225935839250262 w := fun w => by kernel_rfl
theorem e9 (w : World) (os : OsState) : Hd.L9 w os = Hd.R9 w os :=
  (congrFun (congrFun PySem.W.Fast.te16134767483146388640 w) os).trans ((congrFun (r9 w) os).trans (congrFun (congrFun PySem.W.Fast.te11929225935839250262 w) os).symm)
def sts10 : List Stmt := [S 13]
def o225 (P : Params) : Obj := (Obj.mk (.type "dict") (Option.none) (Data.dict #[en P "__name__" 165 (.str "beatless.exprs" 319), en P "__doc__" 166 .none, en P "__package__" 167 .none, en P "__loader__" 168 (.builtin "__main__.__loader__#opaque"), en P "__spec__" 169 .none, en P "__annotations__" 170 (.ref 6), en P "__builtins__" 171 (.ref 4), en P "__file__" 173 (.str "/claim/cut.py" 172), en P "__cached__" 174 .none, en P "_wall" 193 (.ref 21), en P "BeatlessError" 213 (.ref 31), en P "NoWeb" 229 (.ref 44), en P "NoHand" 245 (.ref 56), en P "NoProgram" 261 (.ref 68), en P "NoText" 286 (.ref 87), en P "NoWay" 302 (.ref 99), en P "NoRound" 318 (.ref 111), en P "Expr" 340 (.ref 123), en P "Num" 387 (.ref 165), en P "Name" 434 (.ref 205), en P "Two" 487 (.ref 245)] 21) #[])
def o226 (P : Params) : Obj := (Obj.mk .none (Option.none) (Data.fields #[(.int (1 : Int) 0), (.int (0 : Int) 0), (.ref 20), (.int (5 : Int) 0), (.int (0 : Int) 0), (.ref 27), (.int (7 : Int) 0), (.int (0 : Int) 0), (.ref 40), (.int (9 : Int) 0), (.int (0 : Int) 0), (.ref 52), (.int (11 : Int) 0), (.int (0 : Int) 0), (.ref 64), (.int (13 : Int) 0), (.int (0 : Int) 0), (.ref 76), (.int (17 : Int) 0), (.int (0 : Int) 0), (.ref 95), (.int (19 : Int) 0), (.int (0 : Int) 0), (.ref 107), (.int (22 : Int) 0), (.int (0 : Int) 0), (.ref 119), (.int (24 : Int) 0), (.int (0 : Int) 0), (.ref 133), (.int (37 : Int) 0), (.int (0 : Int) 0), (.ref 173), (.int (50 : Int) 0), (.int (0 : Int) 0), (.ref 213)]) #[])
def o227 (P : Params) : Obj := (Obj.mk (.type "type") (Option.none) (Data.cls (ClassData.mk "Expr" [(.type "object")] [(.ref 123), (.type "object")] 122 "Expr" Bool.true [] [(.ref 165), (.ref 205), (.ref 245)] Bool.false (Option.none) Bool.false)) #[(Option.none), (Option.none), (Option.some (.str "Expr" 321)), (Option.some (.str "Expr" 329)), (Option.some (.builtin "object.__new__")), (Option.some (.bool Bool.true))])
def o228 (P : Params) : Obj := (Obj.mk (.type "tuple") (Option.none) (Data.seq #[(.ref 123)] 0) #[])
def o229 (P : Params) : Obj := (Obj.mk (.type "builtin_function_or_method") (Option.none) (Data.fields #[(.builtin "type.__prepare__"), (.type "type")]) #[])
def o230 (P : Params) : Obj := (Obj.mk (.type "dict") (Option.none) (Data.dict #[en P "__module__" 442 (.str "beatless.exprs" 319), en P "__qualname__" 444 (.str "Two" 443), en P "__firstlineno__" 446 (.int (50 : Int) 445), en P "__init__" 456 (.ref 221), en P "reckon" 466 (.ref 228), en P "told" 473 (.ref 235), en P "words" 480 (.ref 242), en P "__static_attributes__" 484 (.ref 243)] 8) #[])
def o231 (P : Params) : Obj := (Obj.mk (.type "tuple") (Option.none) (Data.seq #[] 0) #[])
def o232 (P : Params) : Obj := (Obj.mk .none (Option.none) (Data.fields #[(.int (52 : Int) 0), (.int (4 : Int) 0), (.ref 220), (.int (57 : Int) 0), (.int (4 : Int) 0), (.ref 227), (.int (68 : Int) 0), (.int (4 : Int) 0), (.ref 234), (.int (71 : Int) 0), (.int (4 : Int) 0), (.ref 241)]) #[])
def o233 (P : Params) : Obj := (Obj.mk (.type "code") (Option.none) (Data.fields #[(.str "Two" 437), (.str "Two" 438), (.str "/claim/cut.py" 439), (.int (50 : Int) 0), (.int (0 : Int) 0), (.int (0 : Int) 0), (.int (0 : Int) 0), (.int (0 : Int) 0), (.ref 211), (.bool Bool.false), (.int (181 : Int) 0), (.ref 212), .none, .none, .none, .none, (.int (440 : Int) 0), (.int (50 : Int) 0), (.str "/claim/cut.py" 441)]) #[])
def o234 (P : Params) : Obj := (Obj.mk (.type "frame") (Option.none) Data.plain #[(Option.some (.ref 213)), (Option.some (.ref 3)), (Option.some (.ref 210)), (Option.none), (Option.some (.str "beatless.exprs" 319)), (Option.none), (Option.some (.ref 0))])
def o235 (P : Params) : Obj := (Obj.mk (.type "tuple") (Option.none) (Data.seq #[] 0) #[])
def o236 (P : Params) : Obj := (Obj.mk .none (Option.none) (Data.fields #[]) #[])
def o237 (P : Params) : Obj := (Obj.mk (.type "tuple") (Option.none) (Data.seq #[(.str "self" 450), (.str "word" 451), (.str "one" 452), (.str "other" 453)] 0) #[])
def o238 (P : Params) : Obj := (Obj.mk (.type "tuple") (Option.none) (Data.seq #[] 0) #[])
def o239 (P : Params) : Obj := (Obj.mk .none (Option.none) (Data.func (fd "__init__" "Two.__init__" (L2.inClass (S 13) 0) 0 [] .none .none .none .none (Option.none) .none .none 0)) #[])
def o240 (P : Params) : Obj := (Obj.mk (.type "code") (Option.none) (Data.fields #[(.str "__init__" 447), (.str "Two.__init__" 448), (.str "/claim/cut.py" 449), (.int (52 : Int) 0), (.int (4 : Int) 0), (.int (0 : Int) 0), (.int (0 : Int) 0), (.int (3 : Int) 0), (.ref 215), (.bool Bool.true), (.int (181 : Int) 0), (.ref 216), .none, (.ref 217), (.ref 218), (.ref 219), (.int (454 : Int) 0), (.int (52 : Int) 0), (.str "/claim/cut.py" 455)]) #[])
def o241 (P : Params) : Obj := (Obj.mk (.type "function") (Option.none) (Data.func (fd "__init__" "Two.__init__" (L2.inClass (S 13) 0) 3 [] .none .none .none (.str "beatless.exprs" 319) (Option.none) (.ref 220) .none 0)) #[])
def o242 (P : Params) : Obj := (Obj.mk (.type "tuple") (Option.none) (Data.seq #[] 0) #[])
def o243 (P : Params) : Obj := (Obj.mk .none (Option.none) (Data.fields #[]) #[])
def o244 (P : Params) : Obj := (Obj.mk (.type "tuple") (Option.none) (Data.seq #[(.str "self" 460), (.str "worths" 461), (.str "one" 462), (.str "other" 463)] 0) #[])
def o245 (P : Params) : Obj := (Obj.mk (.type "tuple") (Option.none) (Data.seq #[] 0) #[])
def o246 (P : Params) : Obj := (Obj.mk .none (Option.none) (Data.func (fd "reckon" "Two.reckon" (L2.inClass (S 13) 1) 0 [] .none .none .none .none (Option.none) .none .none 0)) #[])
def o247 (P : Params) : Obj := (Obj.mk (.type "code") (Option.none) (Data.fields #[(.str "reckon" 457), (.str "Two.reckon" 458), (.str "/claim/cut.py" 459), (.int (57 : Int) 0), (.int (2 : Int) 0), (.int (0 : Int) 0), (.int (0 : Int) 0), (.int (3 : Int) 0), (.ref 222), (.bool Bool.true), (.int (181 : Int) 0), (.ref 223), .none, (.ref 224), (.ref 225), (.ref 226), (.int (464 : Int) 0), (.int (57 : Int) 0), (.str "/claim/cut.py" 465)]) #[])
def o248 (P : Params) : Obj := (Obj.mk (.type "function") (Option.none) (Data.func (fd "reckon" "Two.reckon" (L2.inClass (S 13) 1) 3 [] .none .none .none (.str "beatless.exprs" 319) (Option.none) (.ref 227) .none 0)) #[])
def o249 (P : Params) : Obj := (Obj.mk (.type "tuple") (Option.none) (Data.seq #[] 0) #[])
def o250 (P : Params) : Obj := (Obj.mk .none (Option.none) (Data.fields #[]) #[])
def o251 (P : Params) : Obj := (Obj.mk (.type "tuple") (Option.none) (Data.seq #[(.str "self" 470)] 0) #[])
def o252 (P : Params) : Obj := (Obj.mk (.type "tuple") (Option.none) (Data.seq #[] 0) #[])
def o253 (P : Params) : Obj := (Obj.mk .none (Option.none) (Data.func (fd "told" "Two.told" (L2.inClass (S 13) 2) 0 [] .none .none .none .none (Option.none) .none .none 0)) #[])
def o254 (P : Params) : Obj := (Obj.mk (.type "code") (Option.none) (Data.fields #[(.str "told" 467), (.str "Two.told" 468), (.str "/claim/cut.py" 469), (.int (68 : Int) 0), (.int (1 : Int) 0), (.int (0 : Int) 0), (.int (0 : Int) 0), (.int (3 : Int) 0), (.ref 229), (.bool Bool.true), (.int (181 : Int) 0), (.ref 230), .none, (.ref 231), (.ref 232), (.ref 233), (.int (471 : Int) 0), (.int (68 : Int) 0), (.str "/claim/cut.py" 472)]) #[])
def o255 (P : Params) : Obj := (Obj.mk (.type "function") (Option.none) (Data.func (fd "told" "Two.told" (L2.inClass (S 13) 2) 3 [] .none .none .none (.str "beatless.exprs" 319) (Option.none) (.ref 234) .none 0)) #[])
def o256 (P : Params) : Obj := (Obj.mk (.type "tuple") (Option.none) (Data.seq #[] 0) #[])
def o257 (P : Params) : Obj := (Obj.mk .none (Option.none) (Data.fields #[]) #[])
def o258 (P : Params) : Obj := (Obj.mk (.type "tuple") (Option.none) (Data.seq #[(.str "self" 477)] 0) #[])
def o259 (P : Params) : Obj := (Obj.mk (.type "tuple") (Option.none) (Data.seq #[] 0) #[])
def o260 (P : Params) : Obj := (Obj.mk .none (Option.none) (Data.func (fd "words" "Two.words" (L2.inClass (S 13) 3) 0 [] .none .none .none .none (Option.none) .none .none 0)) #[])
def o261 (P : Params) : Obj := (Obj.mk (.type "code") (Option.none) (Data.fields #[(.str "words" 474), (.str "Two.words" 475), (.str "/claim/cut.py" 476), (.int (71 : Int) 0), (.int (1 : Int) 0), (.int (0 : Int) 0), (.int (0 : Int) 0), (.int (3 : Int) 0), (.ref 236), (.bool Bool.true), (.int (181 : Int) 0), (.ref 237), .none, (.ref 238), (.ref 239), (.ref 240), (.int (478 : Int) 0), (.int (71 : Int) 0), (.str "/claim/cut.py" 479)]) #[])
def o262 (P : Params) : Obj := (Obj.mk (.type "function") (Option.none) (Data.func (fd "words" "Two.words" (L2.inClass (S 13) 3) 3 [] .none .none .none (.str "beatless.exprs" 319) (Option.none) (.ref 241) .none 0)) #[])
def o263 (P : Params) : Obj := (Obj.mk (.type "tuple") (Option.none) (Data.seq #[(.str "one" 481), (.str "other" 482), (.str "word" 483)] 0) #[])
def o264 (P : Params) : Obj := (Obj.mk (.type "dict") (Option.none) (Data.dict #[en P "__module__" 442 (.str "beatless.exprs" 319), en P "__firstlineno__" 446 (.int (50 : Int) 445), en P "__init__" 456 (.ref 221), en P "reckon" 466 (.ref 228), en P "told" 473 (.ref 235), en P "words" 480 (.ref 242), en P "__static_attributes__" 484 (.ref 243), en P "__doc__" 485 .none] 2) #[])
def o265 (P : Params) : Obj := (Obj.mk (.type "type") (Option.none) (Data.cls (ClassData.mk "Two" [(.ref 123)] [(.ref 245), (.ref 123), (.type "object")] 244 "Two" Bool.true [] [] Bool.false (Option.none) Bool.false)) #[(Option.some (.ref 208)), (Option.none), (Option.some (.str "Two" 435)), (Option.some (.str "Two" 443)), (Option.some (.builtin "object.__new__")), (Option.some (.bool Bool.true))])
def o266 (P : Params) : Obj := (Obj.mk (.type "super") (Option.none) (Data.fields #[(.ref 245), (.ref 245), (.ref 245)]) #[])
def o267 (P : Params) : Obj := (Obj.mk (.type "builtin_function_or_method") (Option.none) (Data.fields #[(.builtin "object.__init_subclass__"), (.ref 245)]) #[])
def t696 (P : Params) : BT := .node (o243 P) .nil .nil
def t697 (P : Params) : BT := .node (o101 P) (t409 P) (t696 P)
def t698 (P : Params) : BT := .node (o110 P) (t554 P) (t697 P)
def t699 (P : Params) : BT := .node (o259 P) .nil .nil
def t700 (P : Params) : BT := .node (o120 P) (t558 P) (t699 P)
def t701 (P : Params) : BT := .node (o44 P) (t557 P) (t700 P)
def t702 (P : Params) : BT := .node (o6 P) (t698 P) (t701 P)
def t703 (P : Params) : BT := .node (o251 P) .nil .nil
def t704 (P : Params) : BT := .node (o112 P) (t418 P) (t703 P)
def t705 (P : Params) : BT := .node (o33 P) (t563 P) (t704 P)
def t706 (P : Params) : BT := .node (o235 P) .nil .nil
def t707 (P : Params) : BT := .node (o90 P) (t421 P) (t706 P)
def t708 (P : Params) : BT := .node (o267 P) .nil .nil
def t709 (P : Params) : BT := .node (o130 P) (t565 P) (t708 P)
def t710 (P : Params) : BT := .node (o52 P) (t707 P) (t709 P)
def t711 (P : Params) : BT := .node (o14 P) (t705 P) (t710 P)
def t712 (P : Params) : BT := .node (boot_o_7 P) (t702 P) (t711 P)
def t713 (P : Params) : BT := .node (o247 P) .nil .nil
def t714 (P : Params) : BT := .node (o105 P) (t428 P) (t713 P)
def t715 (P : Params) : BT := .node (o29 P) (t571 P) (t714 P)
def t716 (P : Params) : BT := .node (o231 P) .nil .nil
def t717 (P : Params) : BT := .node (o86 P) (t431 P) (t716 P)
def t718 (P : Params) : BT := .node (o263 P) .nil .nil
def t719 (P : Params) : BT := .node (o126 P) (t573 P) (t718 P)
def t720 (P : Params) : BT := .node (o48 P) (t717 P) (t719 P)
def t721 (P : Params) : BT := .node (o10 P) (t715 P) (t720 P)
def t722 (P : Params) : BT := .node (o255 P) .nil .nil
def t723 (P : Params) : BT := .node (o116 P) (t579 P) (t722 P)
def t724 (P : Params) : BT := .node (o37 P) (t578 P) (t723 P)
def t725 (P : Params) : BT := .node (o239 P) .nil .nil
def t726 (P : Params) : BT := .node (o97 P) (t438 P) (t725 P)
def t727 (P : Params) : BT := .node (o227 P) (t582 P) .nil
def t728 (P : Params) : BT := .node (o59 P) (t726 P) (t727 P)
def t729 (P : Params) : BT := .node (o18 P) (t724 P) (t728 P)
def t730 (P : Params) : BT := .node (o0 P) (t721 P) (t729 P)
def t731 (P : Params) : BT := .node (o225 P) (t712 P) (t730 P)
def t732 (P : Params) : BT := .node (o245 P) .nil .nil
def t733 (P : Params) : BT := .node (o103 P) (t447 P) (t732 P)
def t734 (P : Params) : BT := .node (o24 P) (t589 P) (t733 P)
def t735 (P : Params) : BT := .node (o229 P) .nil .nil
def t736 (P : Params) : BT := .node (o84 P) (t450 P) (t735 P)
def t737 (P : Params) : BT := .node (o261 P) .nil .nil
def t738 (P : Params) : BT := .node (o122 P) (t591 P) (t737 P)
def t739 (P : Params) : BT := .node (o46 P) (t736 P) (t738 P)
def t740 (P : Params) : BT := .node (o8 P) (t734 P) (t739 P)
def t741 (P : Params) : BT := .node (o253 P) .nil .nil
def t742 (P : Params) : BT := .node (o114 P) (t597 P) (t741 P)
def t743 (P : Params) : BT := .node (o35 P) (t596 P) (t742 P)
def t744 (P : Params) : BT := .node (o237 P) .nil .nil
def t745 (P : Params) : BT := .node (o92 P) (t457 P) (t744 P)
def t746 (P : Params) : BT := .node (o54 P) (t745 P) (t601 P)
def t747 (P : Params) : BT := .node (o16 P) (t743 P) (t746 P)
def t748 (P : Params) : BT := .node (boot_o_9 P) (t740 P) (t747 P)
def t749 (P : Params) : BT := .node (o249 P) .nil .nil
def t750 (P : Params) : BT := .node (o107 P) (t464 P) (t749 P)
def t751 (P : Params) : BT := .node (o31 P) (t606 P) (t750 P)
def t752 (P : Params) : BT := .node (o233 P) .nil .nil
def t753 (P : Params) : BT := .node (o88 P) (t467 P) (t752 P)
def t754 (P : Params) : BT := .node (o265 P) .nil .nil
def t755 (P : Params) : BT := .node (o128 P) (t608 P) (t754 P)
def t756 (P : Params) : BT := .node (o50 P) (t753 P) (t755 P)
def t757 (P : Params) : BT := .node (o12 P) (t751 P) (t756 P)
def t758 (P : Params) : BT := .node (o257 P) .nil .nil
def t759 (P : Params) : BT := .node (o118 P) (t614 P) (t758 P)
def t760 (P : Params) : BT := .node (o39 P) (t613 P) (t759 P)
def t761 (P : Params) : BT := .node (o241 P) .nil .nil
def t762 (P : Params) : BT := .node (o99 P) (t474 P) (t761 P)
def t763 (P : Params) : BT := .node (o61 P) (t762 P) (t618 P)
def t764 (P : Params) : BT := .node (o20 P) (t760 P) (t763 P)
def t765 (P : Params) : BT := .node (o2 P) (t757 P) (t764 P)
def t766 (P : Params) : BT := .node (boot_o_5 P) (t748 P) (t765 P)
def t767 (P : Params) : BT := .node (boot_o_1 P) (t731 P) (t766 P)
def t768 (P : Params) : BT := .node (o244 P) .nil .nil
def t769 (P : Params) : BT := .node (o102 P) (t483 P) (t768 P)
def t770 (P : Params) : BT := .node (o23 P) (t625 P) (t769 P)
def t771 (P : Params) : BT := .node (o228 P) .nil .nil
def t772 (P : Params) : BT := .node (o83 P) (t486 P) (t771 P)
def t773 (P : Params) : BT := .node (o260 P) .nil .nil
def t774 (P : Params) : BT := .node (o121 P) (t627 P) (t773 P)
def t775 (P : Params) : BT := .node (o45 P) (t772 P) (t774 P)
def t776 (P : Params) : BT := .node (o7 P) (t770 P) (t775 P)
def t777 (P : Params) : BT := .node (o252 P) .nil .nil
def t778 (P : Params) : BT := .node (o113 P) (t633 P) (t777 P)
def t779 (P : Params) : BT := .node (o34 P) (t632 P) (t778 P)
def t780 (P : Params) : BT := .node (o236 P) .nil .nil
def t781 (P : Params) : BT := .node (o91 P) (t493 P) (t780 P)
def t782 (P : Params) : BT := .node (o53 P) (t781 P) (t637 P)
def t783 (P : Params) : BT := .node (o15 P) (t779 P) (t782 P)
def t784 (P : Params) : BT := .node (boot_o_8 P) (t776 P) (t783 P)
def t785 (P : Params) : BT := .node (o248 P) .nil .nil
def t786 (P : Params) : BT := .node (o106 P) (t500 P) (t785 P)
def t787 (P : Params) : BT := .node (o30 P) (t642 P) (t786 P)
def t788 (P : Params) : BT := .node (o232 P) .nil .nil
def t789 (P : Params) : BT := .node (o87 P) (t503 P) (t788 P)
def t790 (P : Params) : BT := .node (o264 P) .nil .nil
def t791 (P : Params) : BT := .node (o127 P) (t644 P) (t790 P)
def t792 (P : Params) : BT := .node (o49 P) (t789 P) (t791 P)
def t793 (P : Params) : BT := .node (o11 P) (t787 P) (t792 P)
def t794 (P : Params) : BT := .node (o256 P) .nil .nil
def t795 (P : Params) : BT := .node (o117 P) (t650 P) (t794 P)
def t796 (P : Params) : BT := .node (o38 P) (t649 P) (t795 P)
def t797 (P : Params) : BT := .node (o240 P) .nil .nil
def t798 (P : Params) : BT := .node (o98 P) (t510 P) (t797 P)
def t799 (P : Params) : BT := .node (o60 P) (t798 P) (t654 P)
def t800 (P : Params) : BT := .node (o19 P) (t796 P) (t799 P)
def t801 (P : Params) : BT := .node (o226 P) (t793 P) (t800 P)
def t802 (P : Params) : BT := .node (boot_o_4 P) (t784 P) (t801 P)
def t803 (P : Params) : BT := .node (o246 P) .nil .nil
def t804 (P : Params) : BT := .node (o104 P) (t518 P) (t803 P)
def t805 (P : Params) : BT := .node (o25 P) (t660 P) (t804 P)
def t806 (P : Params) : BT := .node (o230 P) .nil .nil
def t807 (P : Params) : BT := .node (o85 P) (t521 P) (t806 P)
def t808 (P : Params) : BT := .node (o262 P) .nil .nil
def t809 (P : Params) : BT := .node (o125 P) (t662 P) (t808 P)
def t810 (P : Params) : BT := .node (o47 P) (t807 P) (t809 P)
def t811 (P : Params) : BT := .node (o9 P) (t805 P) (t810 P)
def t812 (P : Params) : BT := .node (o254 P) .nil .nil
def t813 (P : Params) : BT := .node (o115 P) (t668 P) (t812 P)
def t814 (P : Params) : BT := .node (o36 P) (t667 P) (t813 P)
def t815 (P : Params) : BT := .node (o238 P) .nil .nil
def t816 (P : Params) : BT := .node (o96 P) (t528 P) (t815 P)
def t817 (P : Params) : BT := .node (o55 P) (t816 P) (t672 P)
def t818 (P : Params) : BT := .node (o17 P) (t814 P) (t817 P)
def t819 (P : Params) : BT := .node (boot_o_10 P) (t811 P) (t818 P)
def t820 (P : Params) : BT := .node (o250 P) .nil .nil
def t821 (P : Params) : BT := .node (o111 P) (t535 P) (t820 P)
def t822 (P : Params) : BT := .node (o32 P) (t677 P) (t821 P)
def t823 (P : Params) : BT := .node (o234 P) .nil .nil
def t824 (P : Params) : BT := .node (o89 P) (t538 P) (t823 P)
def t825 (P : Params) : BT := .node (o266 P) .nil .nil
def t826 (P : Params) : BT := .node (o129 P) (t679 P) (t825 P)
def t827 (P : Params) : BT := .node (o51 P) (t824 P) (t826 P)
def t828 (P : Params) : BT := .node (o13 P) (t822 P) (t827 P)
def t829 (P : Params) : BT := .node (o258 P) .nil .nil
def t830 (P : Params) : BT := .node (o119 P) (t685 P) (t829 P)
def t831 (P : Params) : BT := .node (o40 P) (t684 P) (t830 P)
def t832 (P : Params) : BT := .node (o242 P) .nil .nil
def t833 (P : Params) : BT := .node (o100 P) (t545 P) (t832 P)
def t834 (P : Params) : BT := .node (o62 P) (t833 P) (t689 P)
def t835 (P : Params) : BT := .node (o21 P) (t831 P) (t834 P)
def t836 (P : Params) : BT := .node (o3 P) (t828 P) (t835 P)
def t837 (P : Params) : BT := .node (boot_o_6 P) (t819 P) (t836 P)
def t838 (P : Params) : BT := .node (boot_o_2 P) (t802 P) (t837 P)
def t839 (P : Params) : BT := .node (boot_o_0 P) (t767 P) (t838 P)
def sb11 (w : World) (os : OsState) : SharedT := ⟨(t839 w.params), 248, (Life.mk [] [] [] 0 [] [] Bool.false #[] [] 0 Bool.false Bool.false Bool.false (0 : Int) [(2000 : Int), (10 : Int), (10 : Int)] Bool.false 0 Bool.true [] [] 0 Bool.false), ⟨[]⟩, (Drawn.mk 0 0 0 0), 488, os⟩
def L10 (w : World) (os : OsState) : Option (Flow × SharedT × Code × Pos) := segRunT treeTable PySem.Challenge.pw_beatless_k06_programs_refused w 11 an 1 346 (sb10 w os) (piecesOf sts10 env cE (Pos.mk 37 0 49 26) B)
def R10 (w : World) (os : OsState) : Option (Flow × SharedT × Code × Pos) := some (.next, sb11 w os, cE, (Pos.mk 50 0 72 66))
theorem q10 : tt (Hd.L10, Hd.R10) = true := by k_qdec
theorem r10 : ∀ w, PySem.W.Fast.tw8817224096938630680 w = PySem.W.Fast.tw7136840460202682750 w := fun w => by kernel_rfl
theorem e10 (w : World) (os : OsState) : Hd.L10 w os = Hd.R10 w os :=
  (congrFun (congrFun PySem.W.Fast.te8817224096938630680 w) os).trans ((congrFun (r10 w) os).trans (congrFun (congrFun PySem.W.Fast.te7136840460202682750 w) os).symm)
def sts11 : List Stmt := [S 14]
def o268 (P : Params) : Obj := (Obj.mk (.type "dict") (Option.none) (Data.dict #[en P "__name__" 165 (.str "beatless.exprs" 319), en P "__doc__" 166 .none, en P "__package__" 167 .none, en P "__loader__" 168 (.builtin "__main__.__loader__#opaque"), en P "__spec__" 169 .none, en P "__annotations__" 170 (.ref 6), en P "__builtins__" 171 (.ref 4), en P "__file__" 173 (.str "/claim/cut.py" 172), en P "__cached__" 174 .none, en P "_wall" 193 (.ref 21), en P "BeatlessError" 213 (.ref 31), en P "NoWeb" 229 (.ref 44), en P "NoHand" 245 (.ref 56), en P "NoProgram" 261 (.ref 68), en P "NoText" 286 (.ref 87), en P "NoWay" 302 (.ref 99), en P "NoRound" 318 (.ref 111), en P "Expr" 340 (.ref 123), en P "Num" 387 (.ref 165), en P "Name" 434 (.ref 205), en P "Two" 487 (.ref 245), en P "Mod" 536 (.ref 285)] 22) #[])
def o269 (P : Params) : Obj := (Obj.mk .none (Option.none) (Data.fields #[(.int (1 : Int) 0), (.int (0 : Int) 0), (.ref 20), (.int (5 : Int) 0), (.int (0 : Int) 0), (.ref 27), (.int (7 : Int) 0), (.int (0 : Int) 0), (.ref 40), (.int (9 : Int) 0), (.int (0 : Int) 0), (.ref 52), (.int (11 : Int) 0), (.int (0 : Int) 0), (.ref 64), (.int (13 : Int) 0), (.int (0 : Int) 0), (.ref 76), (.int (17 : Int) 0), (.int (0 : Int) 0), (.ref 95), (.int (19 : Int) 0), (.int (0 : Int) 0), (.ref 107), (.int (22 : Int) 0), (.int (0 : Int) 0), (.ref 119), (.int (24 : Int) 0), (.int (0 : Int) 0), (.ref 133), (.int (37 : Int) 0), (.int (0 : Int) 0), (.ref 173), (.int (50 : Int) 0), (.int (0 : Int) 0), (.ref 213), (.int (73 : Int) 0), (.int (0 : Int) 0), (.ref 253)]) #[])
def o270 (P : Params) : Obj := (Obj.mk (.type "type") (Option.none) (Data.cls (ClassData.mk "Expr" [(.type "object")] [(.ref 123), (.type "object")] 122 "Expr" Bool.true [] [(.ref 165), (.ref 205), (.ref 245), (.ref 285)] Bool.false (Option.none) Bool.false)) #[(Option.none), (Option.none), (Option.some (.str "Expr" 321)), (Option.some (.str "Expr" 329)), (Option.some (.builtin "object.__new__")), (Option.some (.bool Bool.true))])
def o271 (P : Params) : Obj := (Obj.mk (.type "tuple") (Option.none) (Data.seq #[(.ref 123)] 0) #[])
def o272 (P : Params) : Obj := (Obj.mk (.type "builtin_function_or_method") (Option.none) (Data.fields #[(.builtin "type.__prepare__"), (.type "type")]) #[])
def o273 (P : Params) : Obj := (Obj.mk (.type "dict") (Option.none) (Data.dict #[en P "__module__" 495 (.str "beatless.exprs" 319), en P "__qualname__" 497 (.str "Mod" 496), en P "__firstlineno__" 499 (.int (73 : Int) 498), en P "__init__" 508 (.ref 261), en P "reckon" 516 (.ref 268), en P "told" 523 (.ref 275), en P "words" 530 (.ref 282), en P "__static_attributes__" 533 (.ref 283)] 8) #[])
def o274 (P : Params) : Obj := (Obj.mk (.type "tuple") (Option.none) (Data.seq #[] 0) #[])
def o275 (P : Params) : Obj := (Obj.mk .none (Option.none) (Data.fields #[(.int (75 : Int) 0), (.int (4 : Int) 0), (.ref 260), (.int (79 : Int) 0), (.int (4 : Int) 0), (.ref 267), (.int (82 : Int) 0), (.int (4 : Int) 0), (.ref 274), (.int (85 : Int) 0), (.int (4 : Int) 0), (.ref 281)]) #[])
def o276 (P : Params) : Obj := (Obj.mk (.type "code") (Option.none) (Data.fields #[(.str "Mod" 490), (.str "Mod" 491), (.str "/claim/cut.py" 492), (.int (73 : Int) 0), (.int (0 : Int) 0), (.int (0 : Int) 0), (.int (0 : Int) 0), (.int (0 : Int) 0), (.ref 251), (.bool Bool.false), (.int (181 : Int) 0), (.ref 252), .none, .none, .none, .none, (.int (493 : Int) 0), (.int (73 : Int) 0), (.str "/claim/cut.py" 494)]) #[])
def o277 (P : Params) : Obj := (Obj.mk (.type "frame") (Option.none) Data.plain #[(Option.some (.ref 253)), (Option.some (.ref 3)), (Option.some (.ref 250)), (Option.none), (Option.some (.str "beatless.exprs" 319)), (Option.none), (Option.some (.ref 0))])
def o278 (P : Params) : Obj := (Obj.mk (.type "tuple") (Option.none) (Data.seq #[] 0) #[])
def o279 (P : Params) : Obj := (Obj.mk .none (Option.none) (Data.fields #[]) #[])
def o280 (P : Params) : Obj := (Obj.mk (.type "tuple") (Option.none) (Data.seq #[(.str "self" 503), (.str "inner" 504), (.str "number" 505)] 0) #[])
def o281 (P : Params) : Obj := (Obj.mk (.type "tuple") (Option.none) (Data.seq #[] 0) #[])
def o282 (P : Params) : Obj := (Obj.mk .none (Option.none) (Data.func (fd "__init__" "Mod.__init__" (L2.inClass (S 14) 0) 0 [] .none .none .none .none (Option.none) .none .none 0)) #[])
def o283 (P : Params) : Obj := (Obj.mk (.type "code") (Option.none) (Data.fields #[(.str "__init__" 500), (.str "Mod.__init__" 501), (.str "/claim/cut.py" 502), (.int (75 : Int) 0), (.int (3 : Int) 0), (.int (0 : Int) 0), (.int (0 : Int) 0), (.int (3 : Int) 0), (.ref 255), (.bool Bool.true), (.int (181 : Int) 0), (.ref 256), .none, (.ref 257), (.ref 258), (.ref 259), (.int (506 : Int) 0), (.int (75 : Int) 0), (.str "/claim/cut.py" 507)]) #[])
def o284 (P : Params) : Obj := (Obj.mk (.type "function") (Option.none) (Data.func (fd "__init__" "Mod.__init__" (L2.inClass (S 14) 0) 3 [] .none .none .none (.str "beatless.exprs" 319) (Option.none) (.ref 260) .none 0)) #[])
def o285 (P : Params) : Obj := (Obj.mk (.type "tuple") (Option.none) (Data.seq #[] 0) #[])
def o286 (P : Params) : Obj := (Obj.mk .none (Option.none) (Data.fields #[]) #[])
def o287 (P : Params) : Obj := (Obj.mk (.type "tuple") (Option.none) (Data.seq #[(.str "self" 512), (.str "worths" 513)] 0) #[])
def o288 (P : Params) : Obj := (Obj.mk (.type "tuple") (Option.none) (Data.seq #[] 0) #[])
def o289 (P : Params) : Obj := (Obj.mk .none (Option.none) (Data.func (fd "reckon" "Mod.reckon" (L2.inClass (S 14) 1) 0 [] .none .none .none .none (Option.none) .none .none 0)) #[])
def o290 (P : Params) : Obj := (Obj.mk (.type "code") (Option.none) (Data.fields #[(.str "reckon" 509), (.str "Mod.reckon" 510), (.str "/claim/cut.py" 511), (.int (79 : Int) 0), (.int (2 : Int) 0), (.int (0 : Int) 0), (.int (0 : Int) 0), (.int (3 : Int) 0), (.ref 262), (.bool Bool.true), (.int (181 : Int) 0), (.ref 263), .none, (.ref 264), (.ref 265), (.ref 266), (.int (514 : Int) 0), (.int (79 : Int) 0), (.str "/claim/cut.py" 515)]) #[])
def o291 (P : Params) : Obj := (Obj.mk (.type "function") (Option.none) (Data.func (fd "reckon" "Mod.reckon" (L2.inClass (S 14) 1) 3 [] .none .none .none (.str "beatless.exprs" 319) (Option.none) (.ref 267) .none 0)) #[])
def o292 (P : Params) : Obj := (Obj.mk (.type "tuple") (Option.none) (Data.seq #[] 0) #[])
def o293 (P : Params) : Obj := (Obj.mk .none (Option.none) (Data.fields #[]) #[])
def o294 (P : Params) : Obj := (Obj.mk (.type "tuple") (Option.none) (Data.seq #[(.str "self" 520)] 0) #[])
def o295 (P : Params) : Obj := (Obj.mk (.type "tuple") (Option.none) (Data.seq #[] 0) #[])
def o296 (P : Params) : Obj := (Obj.mk .none (Option.none) (Data.func (fd "told" "Mod.told" (L2.inClass (S 14) 2) 0 [] .none .none .none .none (Option.none) .none .none 0)) #[])
def o297 (P : Params) : Obj := (Obj.mk (.type "code") (Option.none) (Data.fields #[(.str "told" 517), (.str "Mod.told" 518), (.str "/claim/cut.py" 519), (.int (82 : Int) 0), (.int (1 : Int) 0), (.int (0 : Int) 0), (.int (0 : Int) 0), (.int (3 : Int) 0), (.ref 269), (.bool Bool.true), (.int (181 : Int) 0), (.ref 270), .none, (.ref 271), (.ref 272), (.ref 273), (.int (521 : Int) 0), (.int (82 : Int) 0), (.str "/claim/cut.py" 522)]) #[])
def o298 (P : Params) : Obj := (Obj.mk (.type "function") (Option.none) (Data.func (fd "told" "Mod.told" (L2.inClass (S 14) 2) 3 [] .none .none .none (.str "beatless.exprs" 319) (Option.none) (.ref 274) .none 0)) #[])
def o299 (P : Params) : Obj := (Obj.mk (.type "tuple") (Option.none) (Data.seq #[] 0) #[])
def o300 (P : Params) : Obj := (Obj.mk .none (Option.none) (Data.fields #[]) #[])
def o301 (P : Params) : Obj := (Obj.mk (.type "tuple") (Option.none) (Data.seq #[(.str "self" 527)] 0) #[])
def o302 (P : Params) : Obj := (Obj.mk (.type "tuple") (Option.none) (Data.seq #[] 0) #[])
def o303 (P : Params) : Obj := (Obj.mk .none (Option.none) (Data.func (fd "words" "Mod.words" (L2.inClass (S 14) 3) 0 [] .none .none .none .none (Option.none) .none .none 0)) #[])
def o304 (P : Params) : Obj := (Obj.mk (.type "code") (Option.none) (Data.fields #[(.str "words" 524), (.str "Mod.words" 525), (.str "/claim/cut.py" 526), (.int (85 : Int) 0), (.int (1 : Int) 0), (.int (0 : Int) 0), (.int (0 : Int) 0), (.int (3 : Int) 0), (.ref 276), (.bool Bool.true), (.int (181 : Int) 0), (.ref 277), .none, (.ref 278), (.ref 279), (.ref 280), (.int (528 : Int) 0), (.int (85 : Int) 0), (.str "/claim/cut.py" 529)]) #[])
def o305 (P : Params) : Obj := (Obj.mk (.type "function") (Option.none) (Data.func (fd "words" "Mod.words" (L2.inClass (S 14) 3) 3 [] .none .none .none (.str "beatless.exprs" 319) (Option.none) (.ref 281) .none 0)) #[])
def o306 (P : Params) : Obj := (Obj.mk (.type "tuple") (Option.none) (Data.seq #[(.str "inner" 531), (.str "number" 532)] 0) #[])
def o307 (P : Params) : Obj := (Obj.mk (.type "dict") (Option.none) (Data.dict #[en P "__module__" 495 (.str "beatless.exprs" 319), en P "__firstlineno__" 499 (.int (73 : Int) 498), en P "__init__" 508 (.ref 261), en P "reckon" 516 (.ref 268), en P "told" 523 (.ref 275), en P "words" 530 (.ref 282), en P "__static_attributes__" 533 (.ref 283), en P "__doc__" 534 .none] 2) #[])
def o308 (P : Params) : Obj := (Obj.mk (.type "type") (Option.none) (Data.cls (ClassData.mk "Mod" [(.ref 123)] [(.ref 285), (.ref 123), (.type "object")] 284 "Mod" Bool.true [] [] Bool.false (Option.none) Bool.false)) #[(Option.some (.ref 248)), (Option.none), (Option.some (.str "Mod" 488)), (Option.some (.str "Mod" 496)), (Option.some (.builtin "object.__new__")), (Option.some (.bool Bool.true))])
def o309 (P : Params) : Obj := (Obj.mk (.type "super") (Option.none) (Data.fields #[(.ref 285), (.ref 285), (.ref 285)]) #[])
def o310 (P : Params) : Obj := (Obj.mk (.type "builtin_function_or_method") (Option.none) (Data.fields #[(.builtin "object.__init_subclass__"), (.ref 285)]) #[])
def t840 (P : Params) : BT := .node (o278 P) .nil .nil
def t841 (P : Params) : BT := .node (o138 P) (t840 P) .nil
def t842 (P : Params) : BT := .node (o63 P) (t841 P) (t553 P)
def t843 (P : Params) : BT := .node (o310 P) .nil .nil
def t844 (P : Params) : BT := .node (o173 P) (t843 P) .nil
def t845 (P : Params) : BT := .node (o101 P) (t844 P) (t696 P)
def t846 (P : Params) : BT := .node (o110 P) (t842 P) (t845 P)
def t847 (P : Params) : BT := .node (o294 P) .nil .nil
def t848 (P : Params) : BT := .node (o157 P) (t847 P) .nil
def t849 (P : Params) : BT := .node (o82 P) (t848 P) (t556 P)
def t850 (P : Params) : BT := .node (o44 P) (t849 P) (t700 P)
def t851 (P : Params) : BT := .node (o6 P) (t846 P) (t850 P)
def t852 (P : Params) : BT := .node (o286 P) .nil .nil
def t853 (P : Params) : BT := .node (o149 P) (t852 P) .nil
def t854 (P : Params) : BT := .node (o74 P) (t853 P) (t562 P)
def t855 (P : Params) : BT := .node (o33 P) (t854 P) (t704 P)
def t856 (P : Params) : BT := .node (o302 P) .nil .nil
def t857 (P : Params) : BT := .node (o165 P) (t856 P) .nil
def t858 (P : Params) : BT := .node (o90 P) (t857 P) (t706 P)
def t859 (P : Params) : BT := .node (o52 P) (t858 P) (t709 P)
def t860 (P : Params) : BT := .node (o14 P) (t855 P) (t859 P)
def t861 (P : Params) : BT := .node (boot_o_7 P) (t851 P) (t860 P)
def t862 (P : Params) : BT := .node (o282 P) .nil .nil
def t863 (P : Params) : BT := .node (o145 P) (t862 P) .nil
def t864 (P : Params) : BT := .node (o67 P) (t863 P) (t570 P)
def t865 (P : Params) : BT := .node (o29 P) (t864 P) (t714 P)
def t866 (P : Params) : BT := .node (o298 P) .nil .nil
def t867 (P : Params) : BT := .node (o161 P) (t866 P) .nil
def t868 (P : Params) : BT := .node (o86 P) (t867 P) (t716 P)
def t869 (P : Params) : BT := .node (o48 P) (t868 P) (t719 P)
def t870 (P : Params) : BT := .node (o10 P) (t865 P) (t869 P)
def t871 (P : Params) : BT := .node (o290 P) .nil .nil
def t872 (P : Params) : BT := .node (o153 P) (t871 P) .nil
def t873 (P : Params) : BT := .node (o78 P) (t872 P) (t577 P)
def t874 (P : Params) : BT := .node (o37 P) (t873 P) (t723 P)
def t875 (P : Params) : BT := .node (o306 P) .nil .nil
def t876 (P : Params) : BT := .node (o169 P) (t875 P) .nil
def t877 (P : Params) : BT := .node (o97 P) (t876 P) (t725 P)
def t878 (P : Params) : BT := .node (o274 P) .nil .nil
def t879 (P : Params) : BT := .node (o270 P) (t582 P) (t878 P)
def t880 (P : Params) : BT := .node (o59 P) (t877 P) (t879 P)
def t881 (P : Params) : BT := .node (o18 P) (t874 P) (t880 P)
def t882 (P : Params) : BT := .node (o0 P) (t870 P) (t881 P)
def t883 (P : Params) : BT := .node (o268 P) (t861 P) (t882 P)
def t884 (P : Params) : BT := .node (o280 P) .nil .nil
def t885 (P : Params) : BT := .node (o143 P) (t884 P) .nil
def t886 (P : Params) : BT := .node (o65 P) (t885 P) (t588 P)
def t887 (P : Params) : BT := .node (o24 P) (t886 P) (t733 P)
def t888 (P : Params) : BT := .node (o296 P) .nil .nil
def t889 (P : Params) : BT := .node (o159 P) (t888 P) .nil
def t890 (P : Params) : BT := .node (o84 P) (t889 P) (t735 P)
def t891 (P : Params) : BT := .node (o46 P) (t890 P) (t738 P)
def t892 (P : Params) : BT := .node (o8 P) (t887 P) (t891 P)
def t893 (P : Params) : BT := .node (o288 P) .nil .nil
def t894 (P : Params) : BT := .node (o151 P) (t893 P) .nil
def t895 (P : Params) : BT := .node (o76 P) (t894 P) (t595 P)
def t896 (P : Params) : BT := .node (o35 P) (t895 P) (t742 P)
def t897 (P : Params) : BT := .node (o304 P) .nil .nil
def t898 (P : Params) : BT := .node (o167 P) (t897 P) .nil
def t899 (P : Params) : BT := .node (o92 P) (t898 P) (t744 P)
def t900 (P : Params) : BT := .node (o272 P) .nil .nil
def t901 (P : Params) : BT := .node (o132 P) (t600 P) (t900 P)
def t902 (P : Params) : BT := .node (o54 P) (t899 P) (t901 P)
def t903 (P : Params) : BT := .node (o16 P) (t896 P) (t902 P)
def t904 (P : Params) : BT := .node (boot_o_9 P) (t892 P) (t903 P)
def t905 (P : Params) : BT := .node (o284 P) .nil .nil
def t906 (P : Params) : BT := .node (o147 P) (t905 P) .nil
def t907 (P : Params) : BT := .node (o69 P) (t906 P) (t605 P)
def t908 (P : Params) : BT := .node (o31 P) (t907 P) (t750 P)
def t909 (P : Params) : BT := .node (o300 P) .nil .nil
def t910 (P : Params) : BT := .node (o163 P) (t909 P) .nil
def t911 (P : Params) : BT := .node (o88 P) (t910 P) (t752 P)
def t912 (P : Params) : BT := .node (o50 P) (t911 P) (t755 P)
def t913 (P : Params) : BT := .node (o12 P) (t908 P) (t912 P)
def t914 (P : Params) : BT := .node (o292 P) .nil .nil
def t915 (P : Params) : BT := .node (o155 P) (t914 P) .nil
def t916 (P : Params) : BT := .node (o80 P) (t915 P) (t612 P)
def t917 (P : Params) : BT := .node (o39 P) (t916 P) (t759 P)
def t918 (P : Params) : BT := .node (o308 P) .nil .nil
def t919 (P : Params) : BT := .node (o171 P) (t918 P) .nil
def t920 (P : Params) : BT := .node (o99 P) (t919 P) (t761 P)
def t921 (P : Params) : BT := .node (o276 P) .nil .nil
def t922 (P : Params) : BT := .node (o136 P) (t617 P) (t921 P)
def t923 (P : Params) : BT := .node (o61 P) (t920 P) (t922 P)
def t924 (P : Params) : BT := .node (o20 P) (t917 P) (t923 P)
def t925 (P : Params) : BT := .node (o2 P) (t913 P) (t924 P)
def t926 (P : Params) : BT := .node (boot_o_5 P) (t904 P) (t925 P)
def t927 (P : Params) : BT := .node (boot_o_1 P) (t883 P) (t926 P)
def t928 (P : Params) : BT := .node (o279 P) .nil .nil
def t929 (P : Params) : BT := .node (o142 P) (t928 P) .nil
def t930 (P : Params) : BT := .node (o64 P) (t929 P) (t624 P)
def t931 (P : Params) : BT := .node (o23 P) (t930 P) (t769 P)
def t932 (P : Params) : BT := .node (o295 P) .nil .nil
def t933 (P : Params) : BT := .node (o158 P) (t932 P) .nil
def t934 (P : Params) : BT := .node (o83 P) (t933 P) (t771 P)
def t935 (P : Params) : BT := .node (o45 P) (t934 P) (t774 P)
def t936 (P : Params) : BT := .node (o7 P) (t931 P) (t935 P)
def t937 (P : Params) : BT := .node (o287 P) .nil .nil
def t938 (P : Params) : BT := .node (o150 P) (t937 P) .nil
def t939 (P : Params) : BT := .node (o75 P) (t938 P) (t631 P)
def t940 (P : Params) : BT := .node (o34 P) (t939 P) (t778 P)
def t941 (P : Params) : BT := .node (o303 P) .nil .nil
def t942 (P : Params) : BT := .node (o166 P) (t941 P) .nil
def t943 (P : Params) : BT := .node (o91 P) (t942 P) (t780 P)
def t944 (P : Params) : BT := .node (o271 P) .nil .nil
def t945 (P : Params) : BT := .node (o131 P) (t636 P) (t944 P)
def t946 (P : Params) : BT := .node (o53 P) (t943 P) (t945 P)
def t947 (P : Params) : BT := .node (o15 P) (t940 P) (t946 P)
def t948 (P : Params) : BT := .node (boot_o_8 P) (t936 P) (t947 P)
def t949 (P : Params) : BT := .node (o283 P) .nil .nil
def t950 (P : Params) : BT := .node (o146 P) (t949 P) .nil
def t951 (P : Params) : BT := .node (o68 P) (t950 P) (t641 P)
def t952 (P : Params) : BT := .node (o30 P) (t951 P) (t786 P)
def t953 (P : Params) : BT := .node (o299 P) .nil .nil
def t954 (P : Params) : BT := .node (o162 P) (t953 P) .nil
def t955 (P : Params) : BT := .node (o87 P) (t954 P) (t788 P)
def t956 (P : Params) : BT := .node (o49 P) (t955 P) (t791 P)
def t957 (P : Params) : BT := .node (o11 P) (t952 P) (t956 P)
def t958 (P : Params) : BT := .node (o291 P) .nil .nil
def t959 (P : Params) : BT := .node (o154 P) (t958 P) .nil
def t960 (P : Params) : BT := .node (o79 P) (t959 P) (t648 P)
def t961 (P : Params) : BT := .node (o38 P) (t960 P) (t795 P)
def t962 (P : Params) : BT := .node (o307 P) .nil .nil
def t963 (P : Params) : BT := .node (o170 P) (t962 P) .nil
def t964 (P : Params) : BT := .node (o98 P) (t963 P) (t797 P)
def t965 (P : Params) : BT := .node (o275 P) .nil .nil
def t966 (P : Params) : BT := .node (o135 P) (t653 P) (t965 P)
def t967 (P : Params) : BT := .node (o60 P) (t964 P) (t966 P)
def t968 (P : Params) : BT := .node (o19 P) (t961 P) (t967 P)
def t969 (P : Params) : BT := .node (o269 P) (t957 P) (t968 P)
def t970 (P : Params) : BT := .node (boot_o_4 P) (t948 P) (t969 P)
def t971 (P : Params) : BT := .node (o281 P) .nil .nil
def t972 (P : Params) : BT := .node (o144 P) (t971 P) .nil
def t973 (P : Params) : BT := .node (o66 P) (t972 P) (t659 P)
def t974 (P : Params) : BT := .node (o25 P) (t973 P) (t804 P)
def t975 (P : Params) : BT := .node (o297 P) .nil .nil
def t976 (P : Params) : BT := .node (o160 P) (t975 P) .nil
def t977 (P : Params) : BT := .node (o85 P) (t976 P) (t806 P)
def t978 (P : Params) : BT := .node (o47 P) (t977 P) (t809 P)
def t979 (P : Params) : BT := .node (o9 P) (t974 P) (t978 P)
def t980 (P : Params) : BT := .node (o289 P) .nil .nil
def t981 (P : Params) : BT := .node (o152 P) (t980 P) .nil
def t982 (P : Params) : BT := .node (o77 P) (t981 P) (t666 P)
def t983 (P : Params) : BT := .node (o36 P) (t982 P) (t813 P)
def t984 (P : Params) : BT := .node (o305 P) .nil .nil
def t985 (P : Params) : BT := .node (o168 P) (t984 P) .nil
def t986 (P : Params) : BT := .node (o96 P) (t985 P) (t815 P)
def t987 (P : Params) : BT := .node (o273 P) .nil .nil
def t988 (P : Params) : BT := .node (o133 P) (t671 P) (t987 P)
def t989 (P : Params) : BT := .node (o55 P) (t986 P) (t988 P)
def t990 (P : Params) : BT := .node (o17 P) (t983 P) (t989 P)
def t991 (P : Params) : BT := .node (boot_o_10 P) (t979 P) (t990 P)
def t992 (P : Params) : BT := .node (o285 P) .nil .nil
def t993 (P : Params) : BT := .node (o148 P) (t992 P) .nil
def t994 (P : Params) : BT := .node (o70 P) (t993 P) (t676 P)
def t995 (P : Params) : BT := .node (o32 P) (t994 P) (t821 P)
def t996 (P : Params) : BT := .node (o301 P) .nil .nil
def t997 (P : Params) : BT := .node (o164 P) (t996 P) .nil
def t998 (P : Params) : BT := .node (o89 P) (t997 P) (t823 P)
def t999 (P : Params) : BT := .node (o51 P) (t998 P) (t826 P)
def t1000 (P : Params) : BT := .node (o13 P) (t995 P) (t999 P)
def t1001 (P : Params) : BT := .node (o293 P) .nil .nil
def t1002 (P : Params) : BT := .node (o156 P) (t1001 P) .nil
def t1003 (P : Params) : BT := .node (o81 P) (t1002 P) (t683 P)
def t1004 (P : Params) : BT := .node (o40 P) (t1003 P) (t830 P)
def t1005 (P : Params) : BT := .node (o309 P) .nil .nil
def t1006 (P : Params) : BT := .node (o172 P) (t1005 P) .nil
def t1007 (P : Params) : BT := .node (o100 P) (t1006 P) (t832 P)
def t1008 (P : Params) : BT := .node (o277 P) .nil .nil
def t1009 (P : Params) : BT := .node (o137 P) (t688 P) (t1008 P)
def t1010 (P : Params) : BT := .node (o62 P) (t1007 P) (t1009 P)
def t1011 (P : Params) : BT := .node (o21 P) (t1004 P) (t1010 P)
def t1012 (P : Params) : BT := .node (o3 P) (t1000 P) (t1011 P)
def t1013 (P : Params) : BT := .node (boot_o_6 P) (t991 P) (t1012 P)
def t1014 (P : Params) : BT := .node (boot_o_2 P) (t970 P) (t1013 P)
def t1015 (P : Params) : BT := .node (boot_o_0 P) (t927 P) (t1014 P)
def sb12 (w : World) (os : OsState) : SharedT := ⟨(t1015 w.params), 288, (Life.mk [] [] [] 0 [] [] Bool.false #[] [] 0 Bool.false Bool.false Bool.false (0 : Int) [(2000 : Int), (10 : Int), (10 : Int)] Bool.false 0 Bool.true [] [] 0 Bool.false), ⟨[]⟩, (Drawn.mk 0 0 0 0), 537, os⟩
def L11 (w : World) (os : OsState) : Option (Flow × SharedT × Code × Pos) := segRunT treeTable PySem.Challenge.pw_beatless_k06_programs_refused w 11 an 1 342 (sb11 w os) (piecesOf sts11 env cE (Pos.mk 50 0 72 66) B)
def R11 (w : World) (os : OsState) : Option (Flow × SharedT × Code × Pos) := some (.next, sb12 w os, cE, (Pos.mk 73 0 86 64))
theorem q11 : tt (Hd.L11, Hd.R11) = true := by k_qdec
theorem r11 : ∀ w, PySem.W.Fast.tw6997996825916537589 w = PySem.W.Fast.tw759711974134613322 w := fun w => by kernel_rfl
theorem e11 (w : World) (os : OsState) : Hd.L11 w os = Hd.R11 w os :=
  (congrFun (congrFun PySem.W.Fast.te6997996825916537589 w) os).trans ((congrFun (r11 w) os).trans (congrFun (congrFun PySem.W.Fast.te759711974134613322 w) os).symm)
def sts12 : List Stmt := [S 15, S 16, S 17, S 18]
def o311 (P : Params) : Obj := (Obj.mk (.type "dict") (Option.none) (Data.dict #[en P "__name__" 165 (.str "beatless.programs" 599), en P "__doc__" 166 .none, en P "__package__" 167 .none, en P "__loader__" 168 (.builtin "__main__.__loader__#opaque"), en P "__spec__" 169 .none, en P "__annotations__" 170 (.ref 6), en P "__builtins__" 171 (.ref 4), en P "__file__" 173 (.str "/claim/cut.py" 172), en P "__cached__" 174 .none, en P "_wall" 193 (.ref 21), en P "BeatlessError" 213 (.ref 31), en P "NoWeb" 229 (.ref 44), en P "NoHand" 245 (.ref 56), en P "NoProgram" 261 (.ref 68), en P "NoText" 286 (.ref 87), en P "NoWay" 302 (.ref 99), en P "NoRound" 318 (.ref 111), en P "Expr" 340 (.ref 123), en P "Num" 387 (.ref 165), en P "Name" 434 (.ref 205), en P "Two" 487 (.ref 245), en P "Mod" 536 (.ref 285), en P "Less" 589 (.ref 325), en P "is_whole" 598 (.ref 334)] 24) #[])
def o312 (P : Params) : Obj := (Obj.mk .none (Option.none) (Data.fields #[(.int (1 : Int) 0), (.int (0 : Int) 0), (.ref 20), (.int (5 : Int) 0), (.int (0 : Int) 0), (.ref 27), (.int (7 : Int) 0), (.int (0 : Int) 0), (.ref 40), (.int (9 : Int) 0), (.int (0 : Int) 0), (.ref 52), (.int (11 : Int) 0), (.int (0 : Int) 0), (.ref 64), (.int (13 : Int) 0), (.int (0 : Int) 0), (.ref 76), (.int (17 : Int) 0), (.int (0 : Int) 0), (.ref 95), (.int (19 : Int) 0), (.int (0 : Int) 0), (.ref 107), (.int (22 : Int) 0), (.int (0 : Int) 0), (.ref 119), (.int (24 : Int) 0), (.int (0 : Int) 0), (.ref 133), (.int (37 : Int) 0), (.int (0 : Int) 0), (.ref 173), (.int (50 : Int) 0), (.int (0 : Int) 0), (.ref 213), (.int (73 : Int) 0), (.int (0 : Int) 0), (.ref 253), (.int (87 : Int) 0), (.int (0 : Int) 0), (.ref 293), (.int (106 : Int) 0), (.int (0 : Int) 0), (.ref 333)]) #[])
def o313 (P : Params) : Obj := (Obj.mk (.type "type") (Option.none) (Data.cls (ClassData.mk "Expr" [(.type "object")] [(.ref 123), (.type "object")] 122 "Expr" Bool.true [] [(.ref 165), (.ref 205), (.ref 245), (.ref 285), (.ref 325)] Bool.false (Option.none) Bool.false)) #[(Option.none), (Option.none), (Option.some (.str "Expr" 321)), (Option.some (.str "Expr" 329)), (Option.some (.builtin "object.__new__")), (Option.some (.bool Bool.true))])
def o314 (P : Params) : Obj := (Obj.mk (.type "tuple") (Option.none) (Data.seq #[(.ref 123)] 0) #[])
def o315 (P : Params) : Obj := (Obj.mk (.type "builtin_function_or_method") (Option.none) (Data.fields #[(.builtin "type.__prepare__"), (.type "type")]) #[])
def o316 (P : Params) : Obj := (Obj.mk (.type "dict") (Option.none) (Data.dict #[en P "__module__" 544 (.str "beatless.exprs" 319), en P "__qualname__" 546 (.str "Less" 545), en P "__firstlineno__" 548 (.int (87 : Int) 547), en P "__init__" 559 (.ref 301), en P "reckon" 567 (.ref 308), en P "told" 574 (.ref 315), en P "words" 581 (.ref 322), en P "__static_attributes__" 586 (.ref 323)] 8) #[])
def o317 (P : Params) : Obj := (Obj.mk (.type "tuple") (Option.none) (Data.seq #[] 0) #[])
def o318 (P : Params) : Obj := (Obj.mk .none (Option.none) (Data.fields #[(.int (89 : Int) 0), (.int (4 : Int) 0), (.ref 300), (.int (95 : Int) 0), (.int (4 : Int) 0), (.ref 307), (.int (100 : Int) 0), (.int (4 : Int) 0), (.ref 314), (.int (103 : Int) 0), (.int (4 : Int) 0), (.ref 321)]) #[])
def o319 (P : Params) : Obj := (Obj.mk (.type "code") (Option.none) (Data.fields #[(.str "Less" 539), (.str "Less" 540), (.str "/claim/cut.py" 541), (.int (87 : Int) 0), (.int (0 : Int) 0), (.int (0 : Int) 0), (.int (0 : Int) 0), (.int (0 : Int) 0), (.ref 291), (.bool Bool.false), (.int (181 : Int) 0), (.ref 292), .none, .none, .none, .none, (.int (542 : Int) 0), (.int (87 : Int) 0), (.str "/claim/cut.py" 543)]) #[])
def o320 (P : Params) : Obj := (Obj.mk (.type "frame") (Option.none) Data.plain #[(Option.some (.ref 293)), (Option.some (.ref 3)), (Option.some (.ref 290)), (Option.none), (Option.some (.str "beatless.exprs" 319)), (Option.none), (Option.some (.ref 0))])
def o321 (P : Params) : Obj := (Obj.mk (.type "tuple") (Option.none) (Data.seq #[] 0) #[])
def o322 (P : Params) : Obj := (Obj.mk .none (Option.none) (Data.fields #[]) #[])
def o323 (P : Params) : Obj := (Obj.mk (.type "tuple") (Option.none) (Data.seq #[(.str "self" 552), (.str "one" 553), (.str "other" 554), (.str "third" 555), (.str "fourth" 556)] 0) #[])
def o324 (P : Params) : Obj := (Obj.mk (.type "tuple") (Option.none) (Data.seq #[] 0) #[])
def o325 (P : Params) : Obj := (Obj.mk .none (Option.none) (Data.func (fd "__init__" "Less.__init__" (L2.inClass (S 15) 0) 0 [] .none .none .none .none (Option.none) .none .none 0)) #[])
def o326 (P : Params) : Obj := (Obj.mk (.type "code") (Option.none) (Data.fields #[(.str "__init__" 549), (.str "Less.__init__" 550), (.str "/claim/cut.py" 551), (.int (89 : Int) 0), (.int (5 : Int) 0), (.int (0 : Int) 0), (.int (0 : Int) 0), (.int (3 : Int) 0), (.ref 295), (.bool Bool.true), (.int (181 : Int) 0), (.ref 296), .none, (.ref 297), (.ref 298), (.ref 299), (.int (557 : Int) 0), (.int (89 : Int) 0), (.str "/claim/cut.py" 558)]) #[])
def o327 (P : Params) : Obj := (Obj.mk (.type "function") (Option.none) (Data.func (fd "__init__" "Less.__init__" (L2.inClass (S 15) 0) 3 [] .none .none .none (.str "beatless.exprs" 319) (Option.none) (.ref 300) .none 0)) #[])
def o328 (P : Params) : Obj := (Obj.mk (.type "tuple") (Option.none) (Data.seq #[] 0) #[])
def o329 (P : Params) : Obj := (Obj.mk .none (Option.none) (Data.fields #[]) #[])
def o330 (P : Params) : Obj := (Obj.mk (.type "tuple") (Option.none) (Data.seq #[(.str "self" 563), (.str "worths" 564)] 0) #[])
def o331 (P : Params) : Obj := (Obj.mk (.type "tuple") (Option.none) (Data.seq #[] 0) #[])
def o332 (P : Params) : Obj := (Obj.mk .none (Option.none) (Data.func (fd "reckon" "Less.reckon" (L2.inClass (S 15) 1) 0 [] .none .none .none .none (Option.none) .none .none 0)) #[])
def o333 (P : Params) : Obj := (Obj.mk (.type "code") (Option.none) (Data.fields #[(.str "reckon" 560), (.str "Less.reckon" 561), (.str "/claim/cut.py" 562), (.int (95 : Int) 0), (.int (2 : Int) 0), (.int (0 : Int) 0), (.int (0 : Int) 0), (.int (3 : Int) 0), (.ref 302), (.bool Bool.true), (.int (181 : Int) 0), (.ref 303), .none, (.ref 304), (.ref 305), (.ref 306), (.int (565 : Int) 0), (.int (95 : Int) 0), (.str "/claim/cut.py" 566)]) #[])
def o334 (P : Params) : Obj := (Obj.mk (.type "function") (Option.none) (Data.func (fd "reckon" "Less.reckon" (L2.inClass (S 15) 1) 3 [] .none .none .none (.str "beatless.exprs" 319) (Option.none) (.ref 307) .none 0)) #[])
def o335 (P : Params) : Obj := (Obj.mk (.type "tuple") (Option.none) (Data.seq #[] 0) #[])
def o336 (P : Params) : Obj := (Obj.mk .none (Option.none) (Data.fields #[]) #[])
def o337 (P : Params) : Obj := (Obj.mk (.type "tuple") (Option.none) (Data.seq #[(.str "self" 571)] 0) #[])
def o338 (P : Params) : Obj := (Obj.mk (.type "tuple") (Option.none) (Data.seq #[] 0) #[])
def o339 (P : Params) : Obj := (Obj.mk .none (Option.none) (Data.func (fd "told" "Less.told" (L2.inClass (S 15) 2) 0 [] .none .none .none .none (Option.none) .none .none 0)) #[])
def o340 (P : Params) : Obj := (Obj.mk (.type "code") (Option.none) (Data.fields #[(.str "told" 568), (.str "Less.told" 569), (.str "/claim/cut.py" 570), (.int (100 : Int) 0), (.int (1 : Int) 0), (.int (0 : Int) 0), (.int (0 : Int) 0), (.int (3 : Int) 0), (.ref 309), (.bool Bool.true), (.int (181 : Int) 0), (.ref 310), .none, (.ref 311), (.ref 312), (.ref 313), (.int (572 : Int) 0), (.int (100 : Int) 0), (.str "/claim/cut.py" 573)]) #[])
def o341 (P : Params) : Obj := (Obj.mk (.type "function") (Option.none) (Data.func (fd "told" "Less.told" (L2.inClass (S 15) 2) 3 [] .none .none .none (.str "beatless.exprs" 319) (Option.none) (.ref 314) .none 0)) #[])
def o342 (P : Params) : Obj := (Obj.mk (.type "tuple") (Option.none) (Data.seq #[] 0) #[])
def o343 (P : Params) : Obj := (Obj.mk .none (Option.none) (Data.fields #[]) #[])
def o344 (P : Params) : Obj := (Obj.mk (.type "tuple") (Option.none) (Data.seq #[(.str "self" 578)] 0) #[])
def o345 (P : Params) : Obj := (Obj.mk (.type "tuple") (Option.none) (Data.seq #[] 0) #[])
def o346 (P : Params) : Obj := (Obj.mk .none (Option.none) (Data.func (fd "words" "Less.words" (L2.inClass (S 15) 3) 0 [] .none .none .none .none (Option.none) .none .none 0)) #[])
def o347 (P : Params) : Obj := (Obj.mk (.type "code") (Option.none) (Data.fields #[(.str "words" 575), (.str "Less.words" 576), (.str "/claim/cut.py" 577), (.int (103 : Int) 0), (.int (1 : Int) 0), (.int (0 : Int) 0), (.int (0 : Int) 0), (.int (3 : Int) 0), (.ref 316), (.bool Bool.true), (.int (181 : Int) 0), (.ref 317), .none, (.ref 318), (.ref 319), (.ref 320), (.int (579 : Int) 0), (.int (103 : Int) 0), (.str "/claim/cut.py" 580)]) #[])
def o348 (P : Params) : Obj := (Obj.mk (.type "function") (Option.none) (Data.func (fd "words" "Less.words" (L2.inClass (S 15) 3) 3 [] .none .none .none (.str "beatless.exprs" 319) (Option.none) (.ref 321) .none 0)) #[])
def o349 (P : Params) : Obj := (Obj.mk (.type "tuple") (Option.none) (Data.seq #[(.str "fourth" 582), (.str "one" 583), (.str "other" 584), (.str "third" 585)] 0) #[])
def o350 (P : Params) : Obj := (Obj.mk (.type "dict") (Option.none) (Data.dict #[en P "__module__" 544 (.str "beatless.exprs" 319), en P "__firstlineno__" 548 (.int (87 : Int) 547), en P "__init__" 559 (.ref 301), en P "reckon" 567 (.ref 308), en P "told" 574 (.ref 315), en P "words" 581 (.ref 322), en P "__static_attributes__" 586 (.ref 323), en P "__doc__" 587 .none] 2) #[])
def o351 (P : Params) : Obj := (Obj.mk (.type "type") (Option.none) (Data.cls (ClassData.mk "Less" [(.ref 123)] [(.ref 325), (.ref 123), (.type "object")] 324 "Less" Bool.true [] [] Bool.false (Option.none) Bool.false)) #[(Option.some (.ref 288)), (Option.none), (Option.some (.str "Less" 537)), (Option.some (.str "Less" 545)), (Option.some (.builtin "object.__new__")), (Option.some (.bool Bool.true))])
def o352 (P : Params) : Obj := (Obj.mk (.type "super") (Option.none) (Data.fields #[(.ref 325), (.ref 325), (.ref 325)]) #[])
def o353 (P : Params) : Obj := (Obj.mk (.type "builtin_function_or_method") (Option.none) (Data.fields #[(.builtin "object.__init_subclass__"), (.ref 325)]) #[])
def o354 (P : Params) : Obj := (Obj.mk (.type "tuple") (Option.none) (Data.seq #[] 0) #[])
def o355 (P : Params) : Obj := (Obj.mk .none (Option.none) (Data.fields #[]) #[])
def o356 (P : Params) : Obj := (Obj.mk (.type "tuple") (Option.none) (Data.seq #[(.str "value" 595)] 0) #[])
def o357 (P : Params) : Obj := (Obj.mk (.type "tuple") (Option.none) (Data.seq #[] 0) #[])
def o358 (P : Params) : Obj := (Obj.mk .none (Option.none) (Data.func (fd "is_whole" "is_whole" (S 17) 0 [] .none .none .none .none (Option.none) .none .none 0)) #[])
def o359 (P : Params) : Obj := (Obj.mk (.type "code") (Option.none) (Data.fields #[(.str "is_whole" 592), (.str "is_whole" 593), (.str "/claim/cut.py" 594), (.int (106 : Int) 0), (.int (1 : Int) 0), (.int (0 : Int) 0), (.int (0 : Int) 0), (.int (3 : Int) 0), (.ref 328), (.bool Bool.true), (.int (181 : Int) 0), (.ref 329), .none, (.ref 330), (.ref 331), (.ref 332), (.int (596 : Int) 0), (.int (106 : Int) 0), (.str "/claim/cut.py" 597)]) #[])
def o360 (P : Params) : Obj := (Obj.mk (.type "function") (Option.none) (Data.func (fd "is_whole" "is_whole" (S 17) 3 [] .none .none .none (.str "beatless.wholes" 590) (Option.none) (.ref 333) .none 0)) #[])
def t1016 (P : Params) : BT := .node (o345 P) .nil .nil
def t1017 (P : Params) : BT := .node (o208 P) (t1016 P) .nil
def t1018 (P : Params) : BT := .node (o63 P) (t841 P) (t1017 P)
def t1019 (P : Params) : BT := .node (o110 P) (t1018 P) (t845 P)
def t1020 (P : Params) : BT := .node (o329 P) .nil .nil
def t1021 (P : Params) : BT := .node (o192 P) (t1020 P) .nil
def t1022 (P : Params) : BT := .node (o120 P) (t1021 P) (t699 P)
def t1023 (P : Params) : BT := .node (o44 P) (t849 P) (t1022 P)
def t1024 (P : Params) : BT := .node (o6 P) (t1019 P) (t1023 P)
def t1025 (P : Params) : BT := .node (o353 P) .nil .nil
def t1026 (P : Params) : BT := .node (o216 P) (t1025 P) .nil
def t1027 (P : Params) : BT := .node (o74 P) (t853 P) (t1026 P)
def t1028 (P : Params) : BT := .node (o321 P) .nil .nil
def t1029 (P : Params) : BT := .node (o181 P) (t1028 P) .nil
def t1030 (P : Params) : BT := .node (o112 P) (t1029 P) (t703 P)
def t1031 (P : Params) : BT := .node (o33 P) (t1027 P) (t1030 P)
def t1032 (P : Params) : BT := .node (o337 P) .nil .nil
def t1033 (P : Params) : BT := .node (o200 P) (t1032 P) .nil
def t1034 (P : Params) : BT := .node (o130 P) (t1033 P) (t708 P)
def t1035 (P : Params) : BT := .node (o52 P) (t858 P) (t1034 P)
def t1036 (P : Params) : BT := .node (o14 P) (t1031 P) (t1035 P)
def t1037 (P : Params) : BT := .node (boot_o_7 P) (t1024 P) (t1036 P)
def t1038 (P : Params) : BT := .node (o349 P) .nil .nil
def t1039 (P : Params) : BT := .node (o212 P) (t1038 P) .nil
def t1040 (P : Params) : BT := .node (o67 P) (t863 P) (t1039 P)
def t1041 (P : Params) : BT := .node (o317 P) .nil .nil
def t1042 (P : Params) : BT := .node (o177 P) (t1041 P) .nil
def t1043 (P : Params) : BT := .node (o105 P) (t1042 P) (t713 P)
def t1044 (P : Params) : BT := .node (o29 P) (t1040 P) (t1043 P)
def t1045 (P : Params) : BT := .node (o333 P) .nil .nil
def t1046 (P : Params) : BT := .node (o196 P) (t1045 P) .nil
def t1047 (P : Params) : BT := .node (o126 P) (t1046 P) (t718 P)
def t1048 (P : Params) : BT := .node (o48 P) (t868 P) (t1047 P)
def t1049 (P : Params) : BT := .node (o10 P) (t1044 P) (t1048 P)
def t1050 (P : Params) : BT := .node (o357 P) .nil .nil
def t1051 (P : Params) : BT := .node (o220 P) (t1050 P) .nil
def t1052 (P : Params) : BT := .node (o78 P) (t872 P) (t1051 P)
def t1053 (P : Params) : BT := .node (o325 P) .nil .nil
def t1054 (P : Params) : BT := .node (o188 P) (t1053 P) .nil
def t1055 (P : Params) : BT := .node (o116 P) (t1054 P) (t722 P)
def t1056 (P : Params) : BT := .node (o37 P) (t1052 P) (t1055 P)
def t1057 (P : Params) : BT := .node (o341 P) .nil .nil
def t1058 (P : Params) : BT := .node (o204 P) (t1057 P) .nil
def t1059 (P : Params) : BT := .node (o313 P) (t1058 P) (t878 P)
def t1060 (P : Params) : BT := .node (o59 P) (t877 P) (t1059 P)
def t1061 (P : Params) : BT := .node (o18 P) (t1056 P) (t1060 P)
def t1062 (P : Params) : BT := .node (o0 P) (t1049 P) (t1061 P)
def t1063 (P : Params) : BT := .node (o311 P) (t1037 P) (t1062 P)
def t1064 (P : Params) : BT := .node (o347 P) .nil .nil
def t1065 (P : Params) : BT := .node (o210 P) (t1064 P) .nil
def t1066 (P : Params) : BT := .node (o65 P) (t885 P) (t1065 P)
def t1067 (P : Params) : BT := .node (o315 P) .nil .nil
def t1068 (P : Params) : BT := .node (o175 P) (t1067 P) .nil
def t1069 (P : Params) : BT := .node (o103 P) (t1068 P) (t732 P)
def t1070 (P : Params) : BT := .node (o24 P) (t1066 P) (t1069 P)
def t1071 (P : Params) : BT := .node (o331 P) .nil .nil
def t1072 (P : Params) : BT := .node (o194 P) (t1071 P) .nil
def t1073 (P : Params) : BT := .node (o122 P) (t1072 P) (t737 P)
def t1074 (P : Params) : BT := .node (o46 P) (t890 P) (t1073 P)
def t1075 (P : Params) : BT := .node (o8 P) (t1070 P) (t1074 P)
def t1076 (P : Params) : BT := .node (o355 P) .nil .nil
def t1077 (P : Params) : BT := .node (o218 P) (t1076 P) .nil
def t1078 (P : Params) : BT := .node (o76 P) (t894 P) (t1077 P)
def t1079 (P : Params) : BT := .node (o323 P) .nil .nil
def t1080 (P : Params) : BT := .node (o186 P) (t1079 P) .nil
def t1081 (P : Params) : BT := .node (o114 P) (t1080 P) (t741 P)
def t1082 (P : Params) : BT := .node (o35 P) (t1078 P) (t1081 P)
def t1083 (P : Params) : BT := .node (o339 P) .nil .nil
def t1084 (P : Params) : BT := .node (o202 P) (t1083 P) .nil
def t1085 (P : Params) : BT := .node (o132 P) (t1084 P) (t900 P)
def t1086 (P : Params) : BT := .node (o54 P) (t899 P) (t1085 P)
def t1087 (P : Params) : BT := .node (o16 P) (t1082 P) (t1086 P)
def t1088 (P : Params) : BT := .node (boot_o_9 P) (t1075 P) (t1087 P)
def t1089 (P : Params) : BT := .node (o351 P) .nil .nil
def t1090 (P : Params) : BT := .node (o214 P) (t1089 P) .nil
def t1091 (P : Params) : BT := .node (o69 P) (t906 P) (t1090 P)
def t1092 (P : Params) : BT := .node (o319 P) .nil .nil
def t1093 (P : Params) : BT := .node (o179 P) (t1092 P) .nil
def t1094 (P : Params) : BT := .node (o107 P) (t1093 P) (t749 P)
def t1095 (P : Params) : BT := .node (o31 P) (t1091 P) (t1094 P)
def t1096 (P : Params) : BT := .node (o335 P) .nil .nil
def t1097 (P : Params) : BT := .node (o198 P) (t1096 P) .nil
def t1098 (P : Params) : BT := .node (o128 P) (t1097 P) (t754 P)
def t1099 (P : Params) : BT := .node (o50 P) (t911 P) (t1098 P)
def t1100 (P : Params) : BT := .node (o12 P) (t1095 P) (t1099 P)
def t1101 (P : Params) : BT := .node (o359 P) .nil .nil
def t1102 (P : Params) : BT := .node (o222 P) (t1101 P) .nil
def t1103 (P : Params) : BT := .node (o80 P) (t915 P) (t1102 P)
def t1104 (P : Params) : BT := .node (o327 P) .nil .nil
def t1105 (P : Params) : BT := .node (o190 P) (t1104 P) .nil
def t1106 (P : Params) : BT := .node (o118 P) (t1105 P) (t758 P)
def t1107 (P : Params) : BT := .node (o39 P) (t1103 P) (t1106 P)
def t1108 (P : Params) : BT := .node (o343 P) .nil .nil
def t1109 (P : Params) : BT := .node (o206 P) (t1108 P) .nil
def t1110 (P : Params) : BT := .node (o136 P) (t1109 P) (t921 P)
def t1111 (P : Params) : BT := .node (o61 P) (t920 P) (t1110 P)
def t1112 (P : Params) : BT := .node (o20 P) (t1107 P) (t1111 P)
def t1113 (P : Params) : BT := .node (o2 P) (t1100 P) (t1112 P)
def t1114 (P : Params) : BT := .node (boot_o_5 P) (t1088 P) (t1113 P)
def t1115 (P : Params) : BT := .node (boot_o_1 P) (t1063 P) (t1114 P)
def t1116 (P : Params) : BT := .node (o346 P) .nil .nil
def t1117 (P : Params) : BT := .node (o209 P) (t1116 P) .nil
def t1118 (P : Params) : BT := .node (o64 P) (t929 P) (t1117 P)
def t1119 (P : Params) : BT := .node (o314 P) .nil .nil
def t1120 (P : Params) : BT := .node (o174 P) (t1119 P) .nil
def t1121 (P : Params) : BT := .node (o102 P) (t1120 P) (t768 P)
def t1122 (P : Params) : BT := .node (o23 P) (t1118 P) (t1121 P)
def t1123 (P : Params) : BT := .node (o330 P) .nil .nil
def t1124 (P : Params) : BT := .node (o193 P) (t1123 P) .nil
def t1125 (P : Params) : BT := .node (o121 P) (t1124 P) (t773 P)
def t1126 (P : Params) : BT := .node (o45 P) (t934 P) (t1125 P)
def t1127 (P : Params) : BT := .node (o7 P) (t1122 P) (t1126 P)
def t1128 (P : Params) : BT := .node (o354 P) .nil .nil
def t1129 (P : Params) : BT := .node (o217 P) (t1128 P) .nil
def t1130 (P : Params) : BT := .node (o75 P) (t938 P) (t1129 P)
def t1131 (P : Params) : BT := .node (o322 P) .nil .nil
def t1132 (P : Params) : BT := .node (o185 P) (t1131 P) .nil
def t1133 (P : Params) : BT := .node (o113 P) (t1132 P) (t777 P)
def t1134 (P : Params) : BT := .node (o34 P) (t1130 P) (t1133 P)
def t1135 (P : Params) : BT := .node (o338 P) .nil .nil
def t1136 (P : Params) : BT := .node (o201 P) (t1135 P) .nil
def t1137 (P : Params) : BT := .node (o131 P) (t1136 P) (t944 P)
def t1138 (P : Params) : BT := .node (o53 P) (t943 P) (t1137 P)
def t1139 (P : Params) : BT := .node (o15 P) (t1134 P) (t1138 P)
def t1140 (P : Params) : BT := .node (boot_o_8 P) (t1127 P) (t1139 P)
def t1141 (P : Params) : BT := .node (o350 P) .nil .nil
def t1142 (P : Params) : BT := .node (o213 P) (t1141 P) .nil
def t1143 (P : Params) : BT := .node (o68 P) (t950 P) (t1142 P)
def t1144 (P : Params) : BT := .node (o318 P) .nil .nil
def t1145 (P : Params) : BT := .node (o178 P) (t1144 P) .nil
def t1146 (P : Params) : BT := .node (o106 P) (t1145 P) (t785 P)
def t1147 (P : Params) : BT := .node (o30 P) (t1143 P) (t1146 P)
def t1148 (P : Params) : BT := .node (o334 P) .nil .nil
def t1149 (P : Params) : BT := .node (o197 P) (t1148 P) .nil
def t1150 (P : Params) : BT := .node (o127 P) (t1149 P) (t790 P)
def t1151 (P : Params) : BT := .node (o49 P) (t955 P) (t1150 P)
def t1152 (P : Params) : BT := .node (o11 P) (t1147 P) (t1151 P)
def t1153 (P : Params) : BT := .node (o358 P) .nil .nil
def t1154 (P : Params) : BT := .node (o221 P) (t1153 P) .nil
def t1155 (P : Params) : BT := .node (o79 P) (t959 P) (t1154 P)
def t1156 (P : Params) : BT := .node (o326 P) .nil .nil
def t1157 (P : Params) : BT := .node (o189 P) (t1156 P) .nil
def t1158 (P : Params) : BT := .node (o117 P) (t1157 P) (t794 P)
def t1159 (P : Params) : BT := .node (o38 P) (t1155 P) (t1158 P)
def t1160 (P : Params) : BT := .node (o342 P) .nil .nil
def t1161 (P : Params) : BT := .node (o205 P) (t1160 P) .nil
def t1162 (P : Params) : BT := .node (o135 P) (t1161 P) (t965 P)
def t1163 (P : Params) : BT := .node (o60 P) (t964 P) (t1162 P)
def t1164 (P : Params) : BT := .node (o19 P) (t1159 P) (t1163 P)
def t1165 (P : Params) : BT := .node (o312 P) (t1152 P) (t1164 P)
def t1166 (P : Params) : BT := .node (boot_o_4 P) (t1140 P) (t1165 P)
def t1167 (P : Params) : BT := .node (o348 P) .nil .nil
def t1168 (P : Params) : BT := .node (o211 P) (t1167 P) .nil
def t1169 (P : Params) : BT := .node (o66 P) (t972 P) (t1168 P)
def t1170 (P : Params) : BT := .node (o316 P) .nil .nil
def t1171 (P : Params) : BT := .node (o176 P) (t1170 P) .nil
def t1172 (P : Params) : BT := .node (o104 P) (t1171 P) (t803 P)
def t1173 (P : Params) : BT := .node (o25 P) (t1169 P) (t1172 P)
def t1174 (P : Params) : BT := .node (o332 P) .nil .nil
def t1175 (P : Params) : BT := .node (o195 P) (t1174 P) .nil
def t1176 (P : Params) : BT := .node (o125 P) (t1175 P) (t808 P)
def t1177 (P : Params) : BT := .node (o47 P) (t977 P) (t1176 P)
def t1178 (P : Params) : BT := .node (o9 P) (t1173 P) (t1177 P)
def t1179 (P : Params) : BT := .node (o356 P) .nil .nil
def t1180 (P : Params) : BT := .node (o219 P) (t1179 P) .nil
def t1181 (P : Params) : BT := .node (o77 P) (t981 P) (t1180 P)
def t1182 (P : Params) : BT := .node (o324 P) .nil .nil
def t1183 (P : Params) : BT := .node (o187 P) (t1182 P) .nil
def t1184 (P : Params) : BT := .node (o115 P) (t1183 P) (t812 P)
def t1185 (P : Params) : BT := .node (o36 P) (t1181 P) (t1184 P)
def t1186 (P : Params) : BT := .node (o340 P) .nil .nil
def t1187 (P : Params) : BT := .node (o203 P) (t1186 P) .nil
def t1188 (P : Params) : BT := .node (o133 P) (t1187 P) (t987 P)
def t1189 (P : Params) : BT := .node (o55 P) (t986 P) (t1188 P)
def t1190 (P : Params) : BT := .node (o17 P) (t1185 P) (t1189 P)
def t1191 (P : Params) : BT := .node (boot_o_10 P) (t1178 P) (t1190 P)
def t1192 (P : Params) : BT := .node (o352 P) .nil .nil
def t1193 (P : Params) : BT := .node (o215 P) (t1192 P) .nil
def t1194 (P : Params) : BT := .node (o70 P) (t993 P) (t1193 P)
def t1195 (P : Params) : BT := .node (o320 P) .nil .nil
def t1196 (P : Params) : BT := .node (o180 P) (t1195 P) .nil
def t1197 (P : Params) : BT := .node (o111 P) (t1196 P) (t820 P)
def t1198 (P : Params) : BT := .node (o32 P) (t1194 P) (t1197 P)
def t1199 (P : Params) : BT := .node (o336 P) .nil .nil
def t1200 (P : Params) : BT := .node (o199 P) (t1199 P) .nil
def t1201 (P : Params) : BT := .node (o129 P) (t1200 P) (t825 P)
def t1202 (P : Params) : BT := .node (o51 P) (t998 P) (t1201 P)
def t1203 (P : Params) : BT := .node (o13 P) (t1198 P) (t1202 P)
def t1204 (P : Params) : BT := .node (o360 P) .nil .nil
def t1205 (P : Params) : BT := .node (o223 P) (t1204 P) .nil
def t1206 (P : Params) : BT := .node (o81 P) (t1002 P) (t1205 P)
def t1207 (P : Params) : BT := .node (o328 P) .nil .nil
def t1208 (P : Params) : BT := .node (o191 P) (t1207 P) .nil
def t1209 (P : Params) : BT := .node (o119 P) (t1208 P) (t829 P)
def t1210 (P : Params) : BT := .node (o40 P) (t1206 P) (t1209 P)
def t1211 (P : Params) : BT := .node (o344 P) .nil .nil
def t1212 (P : Params) : BT := .node (o207 P) (t1211 P) .nil
def t1213 (P : Params) : BT := .node (o137 P) (t1212 P) (t1008 P)
def t1214 (P : Params) : BT := .node (o62 P) (t1007 P) (t1213 P)
def t1215 (P : Params) : BT := .node (o21 P) (t1210 P) (t1214 P)
def t1216 (P : Params) : BT := .node (o3 P) (t1203 P) (t1215 P)
def t1217 (P : Params) : BT := .node (boot_o_6 P) (t1191 P) (t1216 P)
def t1218 (P : Params) : BT := .node (boot_o_2 P) (t1166 P) (t1217 P)
def t1219 (P : Params) : BT := .node (boot_o_0 P) (t1115 P) (t1218 P)
def sb13 (w : World) (os : OsState) : SharedT := ⟨(t1219 w.params), 335, (Life.mk [] [] [] 0 [] [] Bool.false #[] [] 0 Bool.false Bool.false Bool.false (0 : Int) [(2000 : Int), (10 : Int), (10 : Int)] Bool.false 0 Bool.true [] [] 0 Bool.false), ⟨[]⟩, (Drawn.mk 0 0 0 0), 601, os⟩
def L12 (w : World) (os : OsState) : Option (Flow × SharedT × Code × Pos) := segRunT treeTable PySem.Challenge.pw_beatless_k06_programs_refused w 11 an 1 393 (sb12 w os) (piecesOf sts12 env cE (Pos.mk 73 0 86 64) B)
def R12 (w : World) (os : OsState) : Option (Flow × SharedT × Code × Pos) := some (.next, sb13 w os, cE, (Pos.mk 108 0 108 8))
theorem q12 : tt (Hd.L12, Hd.R12) = true := by k_qdec
theorem r12 : ∀ w, PySem.W.Fast.tw15962966748412412817 w = PySem.W.Fast.tw6182845810438728111 w := fun w => by kernel_rfl
theorem e12 (w : World) (os : OsState) : Hd.L12 w os = Hd.R12 w os :=
  (congrFun (congrFun PySem.W.Fast.te15962966748412412817 w) os).trans ((congrFun (r12 w) os).trans (congrFun (congrFun PySem.W.Fast.te6182845810438728111 w) os).symm)
def sts13 : List Stmt := [S 19, S 20, S 21, S 22, S 23, S 24, S 25, S 26, S 27, S 28, S 29, S 30]
def o361 (P : Params) : Obj := (Obj.mk (.type "dict") (Option.none) (Data.dict #[en P "__name__" 165 (.str "beatless.programs" 599), en P "__doc__" 166 .none, en P "__package__" 167 .none, en P "__loader__" 168 (.builtin "__main__.__loader__#opaque"), en P "__spec__" 169 .none, en P "__annotations__" 170 (.ref 6), en P "__builtins__" 171 (.ref 4), en P "__file__" 173 (.str "/claim/cut.py" 172), en P "__cached__" 174 .none, en P "_wall" 193 (.ref 21), en P "BeatlessError" 213 (.ref 31), en P "NoWeb" 229 (.ref 44), en P "NoHand" 245 (.ref 56), en P "NoProgram" 261 (.ref 68), en P "NoText" 286 (.ref 87), en P "NoWay" 302 (.ref 99), en P "NoRound" 318 (.ref 111), en P "Expr" 340 (.ref 123), en P "Num" 387 (.ref 165), en P "Name" 434 (.ref 205), en P "Two" 487 (.ref 245), en P "Mod" 536 (.ref 285), en P "Less" 589 (.ref 325), en P "is_whole" 598 (.ref 334), en P "START_NAMES" 603 (.ref 335), en P "SEND_NAMES" 609 (.ref 336), en P "RENEW_NAMES" 618 (.ref 337), en P "TWO_WORDS" 623 (.ref 338), en P "MOST_WORDS" 625 (.int (60 : Int) 624), en P "MOST_DEEP" 627 (.int (8 : Int) 626), en P "is_short_number" 634 (.ref 345), en P "is_word_of" 642 (.ref 352), en P "is_divisor" 649 (.ref 359), en P "are_sound" 659 (.ref 366), en P "is_sound" 668 (.ref 373), en P "count_words" 674 (.ref 378)] 36) #[])
def o362 (P : Params) : Obj := (Obj.mk .none (Option.none) (Data.fields #[(.int (1 : Int) 0), (.int (0 : Int) 0), (.ref 20), (.int (5 : Int) 0), (.int (0 : Int) 0), (.ref 27), (.int (7 : Int) 0), (.int (0 : Int) 0), (.ref 40), (.int (9 : Int) 0), (.int (0 : Int) 0), (.ref 52), (.int (11 : Int) 0), (.int (0 : Int) 0), (.ref 64), (.int (13 : Int) 0), (.int (0 : Int) 0), (.ref 76), (.int (17 : Int) 0), (.int (0 : Int) 0), (.ref 95), (.int (19 : Int) 0), (.int (0 : Int) 0), (.ref 107), (.int (22 : Int) 0), (.int (0 : Int) 0), (.ref 119), (.int (24 : Int) 0), (.int (0 : Int) 0), (.ref 133), (.int (37 : Int) 0), (.int (0 : Int) 0), (.ref 173), (.int (50 : Int) 0), (.int (0 : Int) 0), (.ref 213), (.int (73 : Int) 0), (.int (0 : Int) 0), (.ref 253), (.int (87 : Int) 0), (.int (0 : Int) 0), (.ref 293), (.int (106 : Int) 0), (.int (0 : Int) 0), (.ref 333), (.int (115 : Int) 0), (.int (0 : Int) 0), (.ref 344), (.int (117 : Int) 0), (.int (0 : Int) 0), (.ref 351), (.int (119 : Int) 0), (.int (0 : Int) 0), (.ref 358), (.int (121 : Int) 0), (.int (0 : Int) 0), (.ref 365), (.int (126 : Int) 0), (.int (0 : Int) 0), (.ref 372), (.int (140 : Int) 0), (.int (0 : Int) 0), (.ref 377)]) #[])
def o363 (P : Params) : Obj := (Obj.mk (.type "tuple") (Option.none) (Data.seq #[(.str "me" 601), (.str "lines" 602)] 0) #[])
def o364 (P : Params) : Obj := (Obj.mk (.type "tuple") (Option.none) (Data.seq #[(.str "worth" 604), (.str "me" 605), (.str "round" 606), (.str "lines" 607), (.str "to" 608)] 0) #[])
def o365 (P : Params) : Obj := (Obj.mk (.type "tuple") (Option.none) (Data.seq #[(.str "worth" 610), (.str "me" 611), (.str "round" 612), (.str "lines" 613), (.str "sum" 614), (.str "least" 615), (.str "most" 616), (.str "count" 617)] 0) #[])
def o366 (P : Params) : Obj := (Obj.mk (.type "tuple") (Option.none) (Data.seq #[(.str "add" 619), (.str "sub" 620), (.str "min" 621), (.str "max" 622)] 0) #[])
def o367 (P : Params) : Obj := (Obj.mk (.type "tuple") (Option.none) (Data.seq #[] 0) #[])
def o368 (P : Params) : Obj := (Obj.mk .none (Option.none) (Data.fields #[]) #[])
def o369 (P : Params) : Obj := (Obj.mk (.type "tuple") (Option.none) (Data.seq #[(.str "value" 631)] 0) #[])
def o370 (P : Params) : Obj := (Obj.mk (.type "tuple") (Option.none) (Data.seq #[] 0) #[])
def o371 (P : Params) : Obj := (Obj.mk .none (Option.none) (Data.func (fd "is_short_number" "is_short_number" (S 25) 0 [] .none .none .none .none (Option.none) .none .none 0)) #[])
def o372 (P : Params) : Obj := (Obj.mk (.type "code") (Option.none) (Data.fields #[(.str "is_short_number" 628), (.str "is_short_number" 629), (.str "/claim/cut.py" 630), (.int (115 : Int) 0), (.int (1 : Int) 0), (.int (0 : Int) 0), (.int (0 : Int) 0), (.int (3 : Int) 0), (.ref 339), (.bool Bool.true), (.int (181 : Int) 0), (.ref 340), .none, (.ref 341), (.ref 342), (.ref 343), (.int (632 : Int) 0), (.int (115 : Int) 0), (.str "/claim/cut.py" 633)]) #[])
def o373 (P : Params) : Obj := (Obj.mk (.type "function") (Option.none) (Data.func (fd "is_short_number" "is_short_number" (S 25) 3 [] .none .none .none (.str "beatless.programs" 599) (Option.none) (.ref 344) .none 0)) #[])
def o374 (P : Params) : Obj := (Obj.mk (.type "tuple") (Option.none) (Data.seq #[] 0) #[])
def o375 (P : Params) : Obj := (Obj.mk .none (Option.none) (Data.fields #[]) #[])
def o376 (P : Params) : Obj := (Obj.mk (.type "tuple") (Option.none) (Data.seq #[(.str "word" 638), (.str "words" 639)] 0) #[])
def o377 (P : Params) : Obj := (Obj.mk (.type "tuple") (Option.none) (Data.seq #[] 0) #[])
def o378 (P : Params) : Obj := (Obj.mk .none (Option.none) (Data.func (fd "is_word_of" "is_word_of" (S 26) 0 [] .none .none .none .none (Option.none) .none .none 0)) #[])
def o379 (P : Params) : Obj := (Obj.mk (.type "code") (Option.none) (Data.fields #[(.str "is_word_of" 635), (.str "is_word_of" 636), (.str "/claim/cut.py" 637), (.int (117 : Int) 0), (.int (2 : Int) 0), (.int (0 : Int) 0), (.int (0 : Int) 0), (.int (3 : Int) 0), (.ref 346), (.bool Bool.true), (.int (181 : Int) 0), (.ref 347), .none, (.ref 348), (.ref 349), (.ref 350), (.int (640 : Int) 0), (.int (117 : Int) 0), (.str "/claim/cut.py" 641)]) #[])
def o380 (P : Params) : Obj := (Obj.mk (.type "function") (Option.none) (Data.func (fd "is_word_of" "is_word_of" (S 26) 3 [] .none .none .none (.str "beatless.programs" 599) (Option.none) (.ref 351) .none 0)) #[])
def o381 (P : Params) : Obj := (Obj.mk (.type "tuple") (Option.none) (Data.seq #[] 0) #[])
def o382 (P : Params) : Obj := (Obj.mk .none (Option.none) (Data.fields #[]) #[])
def o383 (P : Params) : Obj := (Obj.mk (.type "tuple") (Option.none) (Data.seq #[(.str "number" 646)] 0) #[])
def o384 (P : Params) : Obj := (Obj.mk (.type "tuple") (Option.none) (Data.seq #[] 0) #[])
def o385 (P : Params) : Obj := (Obj.mk .none (Option.none) (Data.func (fd "is_divisor" "is_divisor" (S 27) 0 [] .none .none .none .none (Option.none) .none .none 0)) #[])
def o386 (P : Params) : Obj := (Obj.mk (.type "code") (Option.none) (Data.fields #[(.str "is_divisor" 643), (.str "is_divisor" 644), (.str "/claim/cut.py" 645), (.int (119 : Int) 0), (.int (1 : Int) 0), (.int (0 : Int) 0), (.int (0 : Int) 0), (.int (3 : Int) 0), (.ref 353), (.bool Bool.true), (.int (181 : Int) 0), (.ref 354), .none, (.ref 355), (.ref 356), (.ref 357), (.int (647 : Int) 0), (.int (119 : Int) 0), (.str "/claim/cut.py" 648)]) #[])
def o387 (P : Params) : Obj := (Obj.mk (.type "function") (Option.none) (Data.func (fd "is_divisor" "is_divisor" (S 27) 3 [] .none .none .none (.str "beatless.programs" 599) (Option.none) (.ref 358) .none 0)) #[])
def o388 (P : Params) : Obj := (Obj.mk (.type "tuple") (Option.none) (Data.seq #[] 0) #[])
def o389 (P : Params) : Obj := (Obj.mk .none (Option.none) (Data.fields #[]) #[])
def o390 (P : Params) : Obj := (Obj.mk (.type "tuple") (Option.none) (Data.seq #[(.str "parts" 653), (.str "names" 654), (.str "deep" 655), (.str "part" 656)] 0) #[])
def o391 (P : Params) : Obj := (Obj.mk (.type "tuple") (Option.none) (Data.seq #[] 0) #[])
def o392 (P : Params) : Obj := (Obj.mk .none (Option.none) (Data.func (fd "are_sound" "are_sound" (S 28) 0 [] .none .none .none .none (Option.none) .none .none 0)) #[])
def o393 (P : Params) : Obj := (Obj.mk (.type "code") (Option.none) (Data.fields #[(.str "are_sound" 650), (.str "are_sound" 651), (.str "/claim/cut.py" 652), (.int (121 : Int) 0), (.int (3 : Int) 0), (.int (0 : Int) 0), (.int (0 : Int) 0), (.int (3 : Int) 0), (.ref 360), (.bool Bool.true), (.int (181 : Int) 0), (.ref 361), .none, (.ref 362), (.ref 363), (.ref 364), (.int (657 : Int) 0), (.int (121 : Int) 0), (.str "/claim/cut.py" 658)]) #[])
def o394 (P : Params) : Obj := (Obj.mk (.type "function") (Option.none) (Data.func (fd "are_sound" "are_sound" (S 28) 3 [] .none .none .none (.str "beatless.programs" 599) (Option.none) (.ref 365) .none 0)) #[])
def o395 (P : Params) : Obj := (Obj.mk (.type "tuple") (Option.none) (Data.seq #[] 0) #[])
def o396 (P : Params) : Obj := (Obj.mk .none (Option.none) (Data.fields #[]) #[])
def o397 (P : Params) : Obj := (Obj.mk (.type "tuple") (Option.none) (Data.seq #[(.str "expr" 663), (.str "names" 664), (.str "deep" 665)] 0) #[])
def o398 (P : Params) : Obj := (Obj.mk (.type "tuple") (Option.none) (Data.seq #[] 0) #[])
def o399 (P : Params) : Obj := (Obj.mk .none (Option.none) (Data.func (fd "is_sound" "is_sound" (S 29) 0 [] .none .none .none .none (Option.none) .none .none 0)) #[])
def o400 (P : Params) : Obj := (Obj.mk (.type "code") (Option.none) (Data.fields #[(.str "is_sound" 660), (.str "is_sound" 661), (.str "/claim/cut.py" 662), (.int (126 : Int) 0), (.int (3 : Int) 0), (.int (0 : Int) 0), (.int (0 : Int) 0), (.int (3 : Int) 0), (.ref 367), (.bool Bool.true), (.int (181 : Int) 0), (.ref 368), .none, (.ref 369), (.ref 370), (.ref 371), (.int (666 : Int) 0), (.int (126 : Int) 0), (.str "/claim/cut.py" 667)]) #[])
def o401 (P : Params) : Obj := (Obj.mk (.type "function") (Option.none) (Data.func (fd "is_sound" "is_sound" (S 29) 3 [] .none .none .none (.str "beatless.programs" 599) (Option.none) (.ref 372) .none 0)) #[])
def o402 (P : Params) : Obj := (Obj.mk (.type "tuple") (Option.none) (Data.seq #[] 0) #[])
def o403 (P : Params) : Obj := (Obj.mk .none (Option.none) (Data.fields #[]) #[])
def o404 (P : Params) : Obj := (Obj.mk .none (Option.none) (Data.func (fd "count_words" "count_words" (S 30) 0 [] .none .none .none .none (Option.none) .none .none 0)) #[])
def o405 (P : Params) : Obj := (Obj.mk (.type "code") (Option.none) (Data.fields #[(.str "count_words" 669), (.str "count_words" 670), (.str "/claim/cut.py" 671), (.int (140 : Int) 0), (.int (1 : Int) 0), (.int (0 : Int) 0), (.int (0 : Int) 0), (.int (3 : Int) 0), (.ref 374), (.bool Bool.true), (.int (181 : Int) 0), (.ref 375), .none, .none, .none, (.ref 376), (.int (672 : Int) 0), (.int (140 : Int) 0), (.str "/claim/cut.py" 673)]) #[])
def o406 (P : Params) : Obj := (Obj.mk (.type "function") (Option.none) (Data.func (fd "count_words" "count_words" (S 30) 3 [] .none .none .none (.str "beatless.programs" 599) (Option.none) (.ref 377) .none 0)) #[])
def t1220 (P : Params) : BT := .node (o379 P) .nil .nil
def t1221 (P : Params) : BT := .node (o243 P) (t1220 P) .nil
def t1222 (P : Params) : BT := .node (o101 P) (t844 P) (t1221 P)
def t1223 (P : Params) : BT := .node (o110 P) (t1018 P) (t1222 P)
def t1224 (P : Params) : BT := .node (o363 P) .nil .nil
def t1225 (P : Params) : BT := .node (o224 P) (t1224 P) .nil
def t1226 (P : Params) : BT := .node (o82 P) (t848 P) (t1225 P)
def t1227 (P : Params) : BT := .node (o395 P) .nil .nil
def t1228 (P : Params) : BT := .node (o259 P) (t1227 P) .nil
def t1229 (P : Params) : BT := .node (o120 P) (t1021 P) (t1228 P)
def t1230 (P : Params) : BT := .node (o44 P) (t1226 P) (t1229 P)
def t1231 (P : Params) : BT := .node (o6 P) (t1223 P) (t1230 P)
def t1232 (P : Params) : BT := .node (o387 P) .nil .nil
def t1233 (P : Params) : BT := .node (o251 P) (t1232 P) .nil
def t1234 (P : Params) : BT := .node (o112 P) (t1029 P) (t1233 P)
def t1235 (P : Params) : BT := .node (o33 P) (t1027 P) (t1234 P)
def t1236 (P : Params) : BT := .node (o371 P) .nil .nil
def t1237 (P : Params) : BT := .node (o235 P) (t1236 P) .nil
def t1238 (P : Params) : BT := .node (o90 P) (t857 P) (t1237 P)
def t1239 (P : Params) : BT := .node (o403 P) .nil .nil
def t1240 (P : Params) : BT := .node (o267 P) (t1239 P) .nil
def t1241 (P : Params) : BT := .node (o130 P) (t1033 P) (t1240 P)
def t1242 (P : Params) : BT := .node (o52 P) (t1238 P) (t1241 P)
def t1243 (P : Params) : BT := .node (o14 P) (t1235 P) (t1242 P)
def t1244 (P : Params) : BT := .node (boot_o_7 P) (t1231 P) (t1243 P)
def t1245 (P : Params) : BT := .node (o383 P) .nil .nil
def t1246 (P : Params) : BT := .node (o247 P) (t1245 P) .nil
def t1247 (P : Params) : BT := .node (o105 P) (t1042 P) (t1246 P)
def t1248 (P : Params) : BT := .node (o29 P) (t1040 P) (t1247 P)
def t1249 (P : Params) : BT := .node (o367 P) .nil .nil
def t1250 (P : Params) : BT := .node (o231 P) (t1249 P) .nil
def t1251 (P : Params) : BT := .node (o86 P) (t867 P) (t1250 P)
def t1252 (P : Params) : BT := .node (o399 P) .nil .nil
def t1253 (P : Params) : BT := .node (o263 P) (t1252 P) .nil
def t1254 (P : Params) : BT := .node (o126 P) (t1046 P) (t1253 P)
def t1255 (P : Params) : BT := .node (o48 P) (t1251 P) (t1254 P)
def t1256 (P : Params) : BT := .node (o10 P) (t1248 P) (t1255 P)
def t1257 (P : Params) : BT := .node (o391 P) .nil .nil
def t1258 (P : Params) : BT := .node (o255 P) (t1257 P) .nil
def t1259 (P : Params) : BT := .node (o116 P) (t1054 P) (t1258 P)
def t1260 (P : Params) : BT := .node (o37 P) (t1052 P) (t1259 P)
def t1261 (P : Params) : BT := .node (o375 P) .nil .nil
def t1262 (P : Params) : BT := .node (o239 P) (t1261 P) .nil
def t1263 (P : Params) : BT := .node (o97 P) (t876 P) (t1262 P)
def t1264 (P : Params) : BT := .node (o59 P) (t1263 P) (t1059 P)
def t1265 (P : Params) : BT := .node (o18 P) (t1260 P) (t1264 P)
def t1266 (P : Params) : BT := .node (o0 P) (t1256 P) (t1265 P)
def t1267 (P : Params) : BT := .node (o361 P) (t1244 P) (t1266 P)
def t1268 (P : Params) : BT := .node (o381 P) .nil .nil
def t1269 (P : Params) : BT := .node (o245 P) (t1268 P) .nil
def t1270 (P : Params) : BT := .node (o103 P) (t1068 P) (t1269 P)
def t1271 (P : Params) : BT := .node (o24 P) (t1066 P) (t1270 P)
def t1272 (P : Params) : BT := .node (o365 P) .nil .nil
def t1273 (P : Params) : BT := .node (o229 P) (t1272 P) .nil
def t1274 (P : Params) : BT := .node (o84 P) (t889 P) (t1273 P)
def t1275 (P : Params) : BT := .node (o397 P) .nil .nil
def t1276 (P : Params) : BT := .node (o261 P) (t1275 P) .nil
def t1277 (P : Params) : BT := .node (o122 P) (t1072 P) (t1276 P)
def t1278 (P : Params) : BT := .node (o46 P) (t1274 P) (t1277 P)
def t1279 (P : Params) : BT := .node (o8 P) (t1271 P) (t1278 P)
def t1280 (P : Params) : BT := .node (o389 P) .nil .nil
def t1281 (P : Params) : BT := .node (o253 P) (t1280 P) .nil
def t1282 (P : Params) : BT := .node (o114 P) (t1080 P) (t1281 P)
def t1283 (P : Params) : BT := .node (o35 P) (t1078 P) (t1282 P)
def t1284 (P : Params) : BT := .node (o373 P) .nil .nil
def t1285 (P : Params) : BT := .node (o237 P) (t1284 P) .nil
def t1286 (P : Params) : BT := .node (o92 P) (t898 P) (t1285 P)
def t1287 (P : Params) : BT := .node (o405 P) .nil .nil
def t1288 (P : Params) : BT := .node (o272 P) (t1287 P) .nil
def t1289 (P : Params) : BT := .node (o132 P) (t1084 P) (t1288 P)
def t1290 (P : Params) : BT := .node (o54 P) (t1286 P) (t1289 P)
def t1291 (P : Params) : BT := .node (o16 P) (t1283 P) (t1290 P)
def t1292 (P : Params) : BT := .node (boot_o_9 P) (t1279 P) (t1291 P)
def t1293 (P : Params) : BT := .node (o385 P) .nil .nil
def t1294 (P : Params) : BT := .node (o249 P) (t1293 P) .nil
def t1295 (P : Params) : BT := .node (o107 P) (t1093 P) (t1294 P)
def t1296 (P : Params) : BT := .node (o31 P) (t1091 P) (t1295 P)
def t1297 (P : Params) : BT := .node (o369 P) .nil .nil
def t1298 (P : Params) : BT := .node (o233 P) (t1297 P) .nil
def t1299 (P : Params) : BT := .node (o88 P) (t910 P) (t1298 P)
def t1300 (P : Params) : BT := .node (o401 P) .nil .nil
def t1301 (P : Params) : BT := .node (o265 P) (t1300 P) .nil
def t1302 (P : Params) : BT := .node (o128 P) (t1097 P) (t1301 P)
def t1303 (P : Params) : BT := .node (o50 P) (t1299 P) (t1302 P)
def t1304 (P : Params) : BT := .node (o12 P) (t1296 P) (t1303 P)
def t1305 (P : Params) : BT := .node (o393 P) .nil .nil
def t1306 (P : Params) : BT := .node (o257 P) (t1305 P) .nil
def t1307 (P : Params) : BT := .node (o118 P) (t1105 P) (t1306 P)
def t1308 (P : Params) : BT := .node (o39 P) (t1103 P) (t1307 P)
def t1309 (P : Params) : BT := .node (o377 P) .nil .nil
def t1310 (P : Params) : BT := .node (o241 P) (t1309 P) .nil
def t1311 (P : Params) : BT := .node (o99 P) (t919 P) (t1310 P)
def t1312 (P : Params) : BT := .node (o61 P) (t1311 P) (t1110 P)
def t1313 (P : Params) : BT := .node (o20 P) (t1308 P) (t1312 P)
def t1314 (P : Params) : BT := .node (o2 P) (t1304 P) (t1313 P)
def t1315 (P : Params) : BT := .node (boot_o_5 P) (t1292 P) (t1314 P)
def t1316 (P : Params) : BT := .node (boot_o_1 P) (t1267 P) (t1315 P)
def t1317 (P : Params) : BT := .node (o380 P) .nil .nil
def t1318 (P : Params) : BT := .node (o244 P) (t1317 P) .nil
def t1319 (P : Params) : BT := .node (o102 P) (t1120 P) (t1318 P)
def t1320 (P : Params) : BT := .node (o23 P) (t1118 P) (t1319 P)
def t1321 (P : Params) : BT := .node (o364 P) .nil .nil
def t1322 (P : Params) : BT := .node (o228 P) (t1321 P) .nil
def t1323 (P : Params) : BT := .node (o83 P) (t933 P) (t1322 P)
def t1324 (P : Params) : BT := .node (o396 P) .nil .nil
def t1325 (P : Params) : BT := .node (o260 P) (t1324 P) .nil
def t1326 (P : Params) : BT := .node (o121 P) (t1124 P) (t1325 P)
def t1327 (P : Params) : BT := .node (o45 P) (t1323 P) (t1326 P)
def t1328 (P : Params) : BT := .node (o7 P) (t1320 P) (t1327 P)
def t1329 (P : Params) : BT := .node (o388 P) .nil .nil
def t1330 (P : Params) : BT := .node (o252 P) (t1329 P) .nil
def t1331 (P : Params) : BT := .node (o113 P) (t1132 P) (t1330 P)
def t1332 (P : Params) : BT := .node (o34 P) (t1130 P) (t1331 P)
def t1333 (P : Params) : BT := .node (o372 P) .nil .nil
def t1334 (P : Params) : BT := .node (o236 P) (t1333 P) .nil
def t1335 (P : Params) : BT := .node (o91 P) (t942 P) (t1334 P)
def t1336 (P : Params) : BT := .node (o404 P) .nil .nil
def t1337 (P : Params) : BT := .node (o271 P) (t1336 P) .nil
def t1338 (P : Params) : BT := .node (o131 P) (t1136 P) (t1337 P)
def t1339 (P : Params) : BT := .node (o53 P) (t1335 P) (t1338 P)
def t1340 (P : Params) : BT := .node (o15 P) (t1332 P) (t1339 P)
def t1341 (P : Params) : BT := .node (boot_o_8 P) (t1328 P) (t1340 P)
def t1342 (P : Params) : BT := .node (o384 P) .nil .nil
def t1343 (P : Params) : BT := .node (o248 P) (t1342 P) .nil
def t1344 (P : Params) : BT := .node (o106 P) (t1145 P) (t1343 P)
def t1345 (P : Params) : BT := .node (o30 P) (t1143 P) (t1344 P)
def t1346 (P : Params) : BT := .node (o368 P) .nil .nil
def t1347 (P : Params) : BT := .node (o232 P) (t1346 P) .nil
def t1348 (P : Params) : BT := .node (o87 P) (t954 P) (t1347 P)
def t1349 (P : Params) : BT := .node (o400 P) .nil .nil
def t1350 (P : Params) : BT := .node (o264 P) (t1349 P) .nil
def t1351 (P : Params) : BT := .node (o127 P) (t1149 P) (t1350 P)
def t1352 (P : Params) : BT := .node (o49 P) (t1348 P) (t1351 P)
def t1353 (P : Params) : BT := .node (o11 P) (t1345 P) (t1352 P)
def t1354 (P : Params) : BT := .node (o392 P) .nil .nil
def t1355 (P : Params) : BT := .node (o256 P) (t1354 P) .nil
def t1356 (P : Params) : BT := .node (o117 P) (t1157 P) (t1355 P)
def t1357 (P : Params) : BT := .node (o38 P) (t1155 P) (t1356 P)
def t1358 (P : Params) : BT := .node (o376 P) .nil .nil
def t1359 (P : Params) : BT := .node (o240 P) (t1358 P) .nil
def t1360 (P : Params) : BT := .node (o98 P) (t963 P) (t1359 P)
def t1361 (P : Params) : BT := .node (o60 P) (t1360 P) (t1162 P)
def t1362 (P : Params) : BT := .node (o19 P) (t1357 P) (t1361 P)
def t1363 (P : Params) : BT := .node (o362 P) (t1353 P) (t1362 P)
def t1364 (P : Params) : BT := .node (boot_o_4 P) (t1341 P) (t1363 P)
def t1365 (P : Params) : BT := .node (o382 P) .nil .nil
def t1366 (P : Params) : BT := .node (o246 P) (t1365 P) .nil
def t1367 (P : Params) : BT := .node (o104 P) (t1171 P) (t1366 P)
def t1368 (P : Params) : BT := .node (o25 P) (t1169 P) (t1367 P)
def t1369 (P : Params) : BT := .node (o366 P) .nil .nil
def t1370 (P : Params) : BT := .node (o230 P) (t1369 P) .nil
def t1371 (P : Params) : BT := .node (o85 P) (t976 P) (t1370 P)
def t1372 (P : Params) : BT := .node (o398 P) .nil .nil
def t1373 (P : Params) : BT := .node (o262 P) (t1372 P) .nil
def t1374 (P : Params) : BT := .node (o125 P) (t1175 P) (t1373 P)
def t1375 (P : Params) : BT := .node (o47 P) (t1371 P) (t1374 P)
def t1376 (P : Params) : BT := .node (o9 P) (t1368 P) (t1375 P)
def t1377 (P : Params) : BT := .node (o390 P) .nil .nil
def t1378 (P : Params) : BT := .node (o254 P) (t1377 P) .nil
def t1379 (P : Params) : BT := .node (o115 P) (t1183 P) (t1378 P)
def t1380 (P : Params) : BT := .node (o36 P) (t1181 P) (t1379 P)
def t1381 (P : Params) : BT := .node (o374 P) .nil .nil
def t1382 (P : Params) : BT := .node (o238 P) (t1381 P) .nil
def t1383 (P : Params) : BT := .node (o96 P) (t985 P) (t1382 P)
def t1384 (P : Params) : BT := .node (o406 P) .nil .nil
def t1385 (P : Params) : BT := .node (o273 P) (t1384 P) .nil
def t1386 (P : Params) : BT := .node (o133 P) (t1187 P) (t1385 P)
def t1387 (P : Params) : BT := .node (o55 P) (t1383 P) (t1386 P)
def t1388 (P : Params) : BT := .node (o17 P) (t1380 P) (t1387 P)
def t1389 (P : Params) : BT := .node (boot_o_10 P) (t1376 P) (t1388 P)
def t1390 (P : Params) : BT := .node (o386 P) .nil .nil
def t1391 (P : Params) : BT := .node (o250 P) (t1390 P) .nil
def t1392 (P : Params) : BT := .node (o111 P) (t1196 P) (t1391 P)
def t1393 (P : Params) : BT := .node (o32 P) (t1194 P) (t1392 P)
def t1394 (P : Params) : BT := .node (o370 P) .nil .nil
def t1395 (P : Params) : BT := .node (o234 P) (t1394 P) .nil
def t1396 (P : Params) : BT := .node (o89 P) (t997 P) (t1395 P)
def t1397 (P : Params) : BT := .node (o402 P) .nil .nil
def t1398 (P : Params) : BT := .node (o266 P) (t1397 P) .nil
def t1399 (P : Params) : BT := .node (o129 P) (t1200 P) (t1398 P)
def t1400 (P : Params) : BT := .node (o51 P) (t1396 P) (t1399 P)
def t1401 (P : Params) : BT := .node (o13 P) (t1393 P) (t1400 P)
def t1402 (P : Params) : BT := .node (o394 P) .nil .nil
def t1403 (P : Params) : BT := .node (o258 P) (t1402 P) .nil
def t1404 (P : Params) : BT := .node (o119 P) (t1208 P) (t1403 P)
def t1405 (P : Params) : BT := .node (o40 P) (t1206 P) (t1404 P)
def t1406 (P : Params) : BT := .node (o378 P) .nil .nil
def t1407 (P : Params) : BT := .node (o242 P) (t1406 P) .nil
def t1408 (P : Params) : BT := .node (o100 P) (t1006 P) (t1407 P)
def t1409 (P : Params) : BT := .node (o62 P) (t1408 P) (t1213 P)
def t1410 (P : Params) : BT := .node (o21 P) (t1405 P) (t1409 P)
def t1411 (P : Params) : BT := .node (o3 P) (t1401 P) (t1410 P)
def t1412 (P : Params) : BT := .node (boot_o_6 P) (t1389 P) (t1411 P)
def t1413 (P : Params) : BT := .node (boot_o_2 P) (t1364 P) (t1412 P)
def t1414 (P : Params) : BT := .node (boot_o_0 P) (t1316 P) (t1413 P)
def sb14 (w : World) (os : OsState) : SharedT := ⟨(t1414 w.params), 379, (Life.mk [] [] [] 0 [] [] Bool.false #[] [] 0 Bool.false Bool.false Bool.false (0 : Int) [(2000 : Int), (10 : Int), (10 : Int)] Bool.false 0 Bool.true [] [] 0 Bool.false), ⟨[]⟩, (Drawn.mk 0 0 0 0), 675, os⟩
def L13 (w : World) (os : OsState) : Option (Flow × SharedT × Code × Pos) := segRunT treeTable PySem.Challenge.pw_beatless_k06_programs_refused w 11 an 1 255 (sb13 w os) (piecesOf sts13 env cE (Pos.mk 108 0 108 8) B)
def R13 (w : World) (os : OsState) : Option (Flow × SharedT × Code × Pos) := some (.next, sb14 w os, cE, (Pos.mk 140 0 141 53))
theorem q13 : tt (Hd.L13, Hd.R13) = true := by k_qdec
theorem r13 : ∀ w, PySem.W.Fast.tw2890041658171991945 w = PySem.W.Fast.tw7952767622153375637 w := fun w => by kernel_rfl
theorem e13 (w : World) (os : OsState) : Hd.L13 w os = Hd.R13 w os :=
  (congrFun (congrFun PySem.W.Fast.te2890041658171991945 w) os).trans ((congrFun (r13 w) os).trans (congrFun (congrFun PySem.W.Fast.te7952767622153375637 w) os).symm)
def sts14 : List Stmt := [S 31, S 32, S 33]
def o407 (P : Params) : Obj := (Obj.mk (.type "dict") (Option.none) (Data.dict #[en P "__name__" 165 (.str "law_beatless_k06_programs_refused" 743), en P "__doc__" 166 .none, en P "__package__" 167 .none, en P "__loader__" 168 (.builtin "__main__.__loader__#opaque"), en P "__spec__" 169 .none, en P "__annotations__" 170 (.ref 6), en P "__builtins__" 171 (.ref 4), en P "__file__" 173 (.str "/claim/cut.py" 172), en P "__cached__" 174 .none, en P "_wall" 193 (.ref 21), en P "BeatlessError" 213 (.ref 31), en P "NoWeb" 229 (.ref 44), en P "NoHand" 245 (.ref 56), en P "NoProgram" 261 (.ref 68), en P "NoText" 286 (.ref 87), en P "NoWay" 302 (.ref 99), en P "NoRound" 318 (.ref 111), en P "Expr" 340 (.ref 123), en P "Num" 387 (.ref 165), en P "Name" 434 (.ref 205), en P "Two" 487 (.ref 245), en P "Mod" 536 (.ref 285), en P "Less" 589 (.ref 325), en P "is_whole" 598 (.ref 334), en P "START_NAMES" 603 (.ref 335), en P "SEND_NAMES" 609 (.ref 336), en P "RENEW_NAMES" 618 (.ref 337), en P "TWO_WORDS" 623 (.ref 338), en P "MOST_WORDS" 625 (.int (60 : Int) 624), en P "MOST_DEEP" 627 (.int (8 : Int) 626), en P "is_short_number" 634 (.ref 345), en P "is_word_of" 642 (.ref 352), en P "is_divisor" 649 (.ref 359), en P "are_sound" 659 (.ref 366), en P "is_sound" 668 (.ref 373), en P "count_words" 674 (.ref 378), en P "Program" 742 (.ref 416), en P "_law_cell_at" 752 (.ref 427)] 38) #[])
def o408 (P : Params) : Obj := (Obj.mk .none (Option.none) (Data.fields #[(.int (1 : Int) 0), (.int (0 : Int) 0), (.ref 20), (.int (5 : Int) 0), (.int (0 : Int) 0), (.ref 27), (.int (7 : Int) 0), (.int (0 : Int) 0), (.ref 40), (.int (9 : Int) 0), (.int (0 : Int) 0), (.ref 52), (.int (11 : Int) 0), (.int (0 : Int) 0), (.ref 64), (.int (13 : Int) 0), (.int (0 : Int) 0), (.ref 76), (.int (17 : Int) 0), (.int (0 : Int) 0), (.ref 95), (.int (19 : Int) 0), (.int (0 : Int) 0), (.ref 107), (.int (22 : Int) 0), (.int (0 : Int) 0), (.ref 119), (.int (24 : Int) 0), (.int (0 : Int) 0), (.ref 133), (.int (37 : Int) 0), (.int (0 : Int) 0), (.ref 173), (.int (50 : Int) 0), (.int (0 : Int) 0), (.ref 213), (.int (73 : Int) 0), (.int (0 : Int) 0), (.ref 253), (.int (87 : Int) 0), (.int (0 : Int) 0), (.ref 293), (.int (106 : Int) 0), (.int (0 : Int) 0), (.ref 333), (.int (115 : Int) 0), (.int (0 : Int) 0), (.ref 344), (.int (117 : Int) 0), (.int (0 : Int) 0), (.ref 351), (.int (119 : Int) 0), (.int (0 : Int) 0), (.ref 358), (.int (121 : Int) 0), (.int (0 : Int) 0), (.ref 365), (.int (126 : Int) 0), (.int (0 : Int) 0), (.ref 372), (.int (140 : Int) 0), (.int (0 : Int) 0), (.ref 377), (.int (142 : Int) 0), (.int (0 : Int) 0), (.ref 384), (.int (167 : Int) 0), (.int (0 : Int) 0), (.ref 426)]) #[])
def o409 (P : Params) : Obj := (Obj.mk (.type "tuple") (Option.none) (Data.seq #[] 0) #[])
def o410 (P : Params) : Obj := (Obj.mk (.type "builtin_function_or_method") (Option.none) (Data.fields #[(.builtin "type.__prepare__"), (.type "type")]) #[])
def o411 (P : Params) : Obj := (Obj.mk (.type "dict") (Option.none) (Data.dict #[en P "__module__" 682 (.str "beatless.programs" 599), en P "__qualname__" 684 (.str "Program" 683), en P "__firstlineno__" 686 (.int (142 : Int) 685), en P "__init__" 697 (.ref 392), en P "first_worth" 706 (.ref 399), en P "word_to" 718 (.ref 406), en P "next_worth" 730 (.ref 413), en P "__static_attributes__" 735 (.ref 414)] 8) #[])
def o412 (P : Params) : Obj := (Obj.mk (.type "tuple") (Option.none) (Data.seq #[] 0) #[])
def o413 (P : Params) : Obj := (Obj.mk .none (Option.none) (Data.fields #[(.int (144 : Int) 0), (.int (4 : Int) 0), (.ref 391), (.int (158 : Int) 0), (.int (4 : Int) 0), (.ref 398), (.int (161 : Int) 0), (.int (4 : Int) 0), (.ref 405), (.int (164 : Int) 0), (.int (4 : Int) 0), (.ref 412)]) #[])
def o414 (P : Params) : Obj := (Obj.mk (.type "code") (Option.none) (Data.fields #[(.str "Program" 677), (.str "Program" 678), (.str "/claim/cut.py" 679), (.int (142 : Int) 0), (.int (0 : Int) 0), (.int (0 : Int) 0), (.int (0 : Int) 0), (.int (0 : Int) 0), (.ref 382), (.bool Bool.false), (.int (181 : Int) 0), (.ref 383), .none, .none, .none, .none, (.int (680 : Int) 0), (.int (142 : Int) 0), (.str "/claim/cut.py" 681)]) #[])
def o415 (P : Params) : Obj := (Obj.mk (.type "frame") (Option.none) Data.plain #[(Option.some (.ref 384)), (Option.some (.ref 3)), (Option.some (.ref 381)), (Option.none), (Option.some (.str "beatless.programs" 599)), (Option.none), (Option.some (.ref 0))])
def o416 (P : Params) : Obj := (Obj.mk (.type "tuple") (Option.none) (Data.seq #[] 0) #[])
def o417 (P : Params) : Obj := (Obj.mk .none (Option.none) (Data.fields #[]) #[])
def o418 (P : Params) : Obj := (Obj.mk (.type "tuple") (Option.none) (Data.seq #[(.str "self" 690), (.str "start" 691), (.str "send" 692), (.str "when" 693), (.str "renew" 694)] 0) #[])
def o419 (P : Params) : Obj := (Obj.mk (.type "tuple") (Option.none) (Data.seq #[] 0) #[])
def o420 (P : Params) : Obj := (Obj.mk .none (Option.none) (Data.func (fd "__init__" "Program.__init__" (L2.inClass (S 31) 0) 0 [] .none .none .none .none (Option.none) .none .none 0)) #[])
def o421 (P : Params) : Obj := (Obj.mk (.type "code") (Option.none) (Data.fields #[(.str "__init__" 687), (.str "Program.__init__" 688), (.str "/claim/cut.py" 689), (.int (144 : Int) 0), (.int (5 : Int) 0), (.int (0 : Int) 0), (.int (0 : Int) 0), (.int (3 : Int) 0), (.ref 386), (.bool Bool.true), (.int (181 : Int) 0), (.ref 387), .none, (.ref 388), (.ref 389), (.ref 390), (.int (695 : Int) 0), (.int (144 : Int) 0), (.str "/claim/cut.py" 696)]) #[])
def o422 (P : Params) : Obj := (Obj.mk (.type "function") (Option.none) (Data.func (fd "__init__" "Program.__init__" (L2.inClass (S 31) 0) 3 [] .none .none .none (.str "beatless.programs" 599) (Option.none) (.ref 391) .none 0)) #[])
def o423 (P : Params) : Obj := (Obj.mk (.type "tuple") (Option.none) (Data.seq #[] 0) #[])
def o424 (P : Params) : Obj := (Obj.mk .none (Option.none) (Data.fields #[]) #[])
def o425 (P : Params) : Obj := (Obj.mk (.type "tuple") (Option.none) (Data.seq #[(.str "self" 701), (.str "hand" 702), (.str "lines" 703)] 0) #[])
def o426 (P : Params) : Obj := (Obj.mk (.type "tuple") (Option.none) (Data.seq #[] 0) #[])
def o427 (P : Params) : Obj := (Obj.mk .none (Option.none) (Data.func (fd "first_worth" "Program.first_worth" (L2.inClass (S 31) 1) 0 [] .none .none .none .none (Option.none) .none .none 0)) #[])
def o428 (P : Params) : Obj := (Obj.mk (.type "code") (Option.none) (Data.fields #[(.str "first_worth" 698), (.str "Program.first_worth" 699), (.str "/claim/cut.py" 700), (.int (158 : Int) 0), (.int (3 : Int) 0), (.int (0 : Int) 0), (.int (0 : Int) 0), (.int (3 : Int) 0), (.ref 393), (.bool Bool.true), (.int (181 : Int) 0), (.ref 394), .none, (.ref 395), (.ref 396), (.ref 397), (.int (704 : Int) 0), (.int (158 : Int) 0), (.str "/claim/cut.py" 705)]) #[])
def o429 (P : Params) : Obj := (Obj.mk (.type "function") (Option.none) (Data.func (fd "first_worth" "Program.first_worth" (L2.inClass (S 31) 1) 3 [] .none .none .none (.str "beatless.programs" 599) (Option.none) (.ref 398) .none 0)) #[])
def o430 (P : Params) : Obj := (Obj.mk (.type "tuple") (Option.none) (Data.seq #[] 0) #[])
def o431 (P : Params) : Obj := (Obj.mk .none (Option.none) (Data.fields #[]) #[])
def o432 (P : Params) : Obj := (Obj.mk (.type "tuple") (Option.none) (Data.seq #[(.str "self" 710), (.str "worth" 711), (.str "hand" 712), (.str "turn" 713), (.str "lines" 714), (.str "other" 715)] 0) #[])
def o433 (P : Params) : Obj := (Obj.mk (.type "tuple") (Option.none) (Data.seq #[] 0) #[])
def o434 (P : Params) : Obj := (Obj.mk .none (Option.none) (Data.func (fd "word_to" "Program.word_to" (L2.inClass (S 31) 2) 0 [] .none .none .none .none (Option.none) .none .none 0)) #[])
def o435 (P : Params) : Obj := (Obj.mk (.type "code") (Option.none) (Data.fields #[(.str "word_to" 707), (.str "Program.word_to" 708), (.str "/claim/cut.py" 709), (.int (161 : Int) 0), (.int (6 : Int) 0), (.int (0 : Int) 0), (.int (0 : Int) 0), (.int (3 : Int) 0), (.ref 400), (.bool Bool.true), (.int (181 : Int) 0), (.ref 401), .none, (.ref 402), (.ref 403), (.ref 404), (.int (716 : Int) 0), (.int (161 : Int) 0), (.str "/claim/cut.py" 717)]) #[])
def o436 (P : Params) : Obj := (Obj.mk (.type "function") (Option.none) (Data.func (fd "word_to" "Program.word_to" (L2.inClass (S 31) 2) 3 [] .none .none .none (.str "beatless.programs" 599) (Option.none) (.ref 405) .none 0)) #[])
def o437 (P : Params) : Obj := (Obj.mk (.type "tuple") (Option.none) (Data.seq #[] 0) #[])
def o438 (P : Params) : Obj := (Obj.mk .none (Option.none) (Data.fields #[]) #[])
def o439 (P : Params) : Obj := (Obj.mk (.type "tuple") (Option.none) (Data.seq #[(.str "self" 722), (.str "worth" 723), (.str "hand" 724), (.str "turn" 725), (.str "lines" 726), (.str "heard" 727)] 0) #[])
def o440 (P : Params) : Obj := (Obj.mk (.type "tuple") (Option.none) (Data.seq #[] 0) #[])
def o441 (P : Params) : Obj := (Obj.mk .none (Option.none) (Data.func (fd "next_worth" "Program.next_worth" (L2.inClass (S 31) 3) 0 [] .none .none .none .none (Option.none) .none .none 0)) #[])
def o442 (P : Params) : Obj := (Obj.mk (.type "code") (Option.none) (Data.fields #[(.str "next_worth" 719), (.str "Program.next_worth" 720), (.str "/claim/cut.py" 721), (.int (164 : Int) 0), (.int (6 : Int) 0), (.int (0 : Int) 0), (.int (0 : Int) 0), (.int (3 : Int) 0), (.ref 407), (.bool Bool.true), (.int (181 : Int) 0), (.ref 408), .none, (.ref 409), (.ref 410), (.ref 411), (.int (728 : Int) 0), (.int (164 : Int) 0), (.str "/claim/cut.py" 729)]) #[])
def o443 (P : Params) : Obj := (Obj.mk (.type "function") (Option.none) (Data.func (fd "next_worth" "Program.next_worth" (L2.inClass (S 31) 3) 3 [] .none .none .none (.str "beatless.programs" 599) (Option.none) (.ref 412) .none 0)) #[])
def o444 (P : Params) : Obj := (Obj.mk (.type "tuple") (Option.none) (Data.seq #[(.str "renew" 731), (.str "send" 732), (.str "start" 733), (.str "when" 734)] 0) #[])
def o445 (P : Params) : Obj := (Obj.mk (.type "dict") (Option.none) (Data.dict #[en P "__module__" 682 (.str "beatless.programs" 599), en P "__firstlineno__" 686 (.int (142 : Int) 685), en P "__init__" 697 (.ref 392), en P "first_worth" 706 (.ref 399), en P "word_to" 718 (.ref 406), en P "next_worth" 730 (.ref 413), en P "__static_attributes__" 735 (.ref 414), en P "__dict__" 737 (.ref 417), en P "__weakref__" 739 (.ref 418), en P "__doc__" 740 .none] 4) #[])
def o446 (P : Params) : Obj := (Obj.mk (.type "type") (Option.none) (Data.cls (ClassData.mk "Program" [(.type "object")] [(.ref 416), (.type "object")] 415 "Program" Bool.true [] [] Bool.false (Option.none) Bool.false)) #[(Option.none), (Option.none), (Option.some (.str "Program" 675)), (Option.some (.str "Program" 683)), (Option.some (.builtin "object.__new__")), (Option.some (.bool Bool.true))])
def o447 (P : Params) : Obj := (Obj.mk (.type "getset_descriptor") (Option.none) (Data.fields #[(.str "__dict__" 736), (.ref 416), (.builtin "function.__dict__"), (.builtin "function.__dict__#set")]) #[])
def o448 (P : Params) : Obj := (Obj.mk (.type "getset_descriptor") (Option.none) (Data.fields #[(.str "__weakref__" 738), (.ref 416), (.builtin "ExceptionGroup.__weakref__"), .none]) #[])
def o449 (P : Params) : Obj := (Obj.mk (.type "super") (Option.none) (Data.fields #[(.ref 416), (.ref 416), (.ref 416)]) #[])
def o450 (P : Params) : Obj := (Obj.mk (.type "builtin_function_or_method") (Option.none) (Data.fields #[(.builtin "object.__init_subclass__"), (.ref 416)]) #[])
def o451 (P : Params) : Obj := (Obj.mk (.type "tuple") (Option.none) (Data.seq #[] 0) #[])
def o452 (P : Params) : Obj := (Obj.mk .none (Option.none) (Data.fields #[]) #[])
def o453 (P : Params) : Obj := (Obj.mk (.type "tuple") (Option.none) (Data.seq #[(.str "_law_script" 748), (.str "_law_k" 749)] 0) #[])
def o454 (P : Params) : Obj := (Obj.mk (.type "tuple") (Option.none) (Data.seq #[] 0) #[])
def o455 (P : Params) : Obj := (Obj.mk .none (Option.none) (Data.func (fd "_law_cell_at" "_law_cell_at" (S 33) 0 [] .none .none .none .none (Option.none) .none .none 0)) #[])
def o456 (P : Params) : Obj := (Obj.mk (.type "code") (Option.none) (Data.fields #[(.str "_law_cell_at" 745), (.str "_law_cell_at" 746), (.str "/claim/cut.py" 747), (.int (167 : Int) 0), (.int (2 : Int) 0), (.int (0 : Int) 0), (.int (0 : Int) 0), (.int (3 : Int) 0), (.ref 421), (.bool Bool.true), (.int (181 : Int) 0), (.ref 422), .none, (.ref 423), (.ref 424), (.ref 425), (.int (750 : Int) 0), (.int (167 : Int) 0), (.str "/claim/cut.py" 751)]) #[])
def o457 (P : Params) : Obj := (Obj.mk (.type "function") (Option.none) (Data.func (fd "_law_cell_at" "_law_cell_at" (S 33) 3 [] .none .none .none (.str "law_beatless_k06_programs_refused" 743) (Option.none) (.ref 426) .none 0)) #[])
def t1415 (P : Params) : BT := .node (o413 P) .nil .nil
def t1416 (P : Params) : BT := .node (o138 P) (t840 P) (t1415 P)
def t1417 (P : Params) : BT := .node (o63 P) (t1416 P) (t1017 P)
def t1418 (P : Params) : BT := .node (o445 P) .nil .nil
def t1419 (P : Params) : BT := .node (o173 P) (t843 P) (t1418 P)
def t1420 (P : Params) : BT := .node (o101 P) (t1419 P) (t1221 P)
def t1421 (P : Params) : BT := .node (o110 P) (t1417 P) (t1420 P)
def t1422 (P : Params) : BT := .node (o429 P) .nil .nil
def t1423 (P : Params) : BT := .node (o157 P) (t847 P) (t1422 P)
def t1424 (P : Params) : BT := .node (o82 P) (t1423 P) (t1225 P)
def t1425 (P : Params) : BT := .node (o44 P) (t1424 P) (t1229 P)
def t1426 (P : Params) : BT := .node (o6 P) (t1421 P) (t1425 P)
def t1427 (P : Params) : BT := .node (o421 P) .nil .nil
def t1428 (P : Params) : BT := .node (o149 P) (t852 P) (t1427 P)
def t1429 (P : Params) : BT := .node (o74 P) (t1428 P) (t1026 P)
def t1430 (P : Params) : BT := .node (o453 P) .nil .nil
def t1431 (P : Params) : BT := .node (o181 P) (t1028 P) (t1430 P)
def t1432 (P : Params) : BT := .node (o112 P) (t1431 P) (t1233 P)
def t1433 (P : Params) : BT := .node (o33 P) (t1429 P) (t1432 P)
def t1434 (P : Params) : BT := .node (o437 P) .nil .nil
def t1435 (P : Params) : BT := .node (o165 P) (t856 P) (t1434 P)
def t1436 (P : Params) : BT := .node (o90 P) (t1435 P) (t1237 P)
def t1437 (P : Params) : BT := .node (o52 P) (t1436 P) (t1241 P)
def t1438 (P : Params) : BT := .node (o14 P) (t1433 P) (t1437 P)
def t1439 (P : Params) : BT := .node (boot_o_7 P) (t1426 P) (t1438 P)
def t1440 (P : Params) : BT := .node (o417 P) .nil .nil
def t1441 (P : Params) : BT := .node (o145 P) (t862 P) (t1440 P)
def t1442 (P : Params) : BT := .node (o67 P) (t1441 P) (t1039 P)
def t1443 (P : Params) : BT := .node (o449 P) .nil .nil
def t1444 (P : Params) : BT := .node (o177 P) (t1041 P) (t1443 P)
def t1445 (P : Params) : BT := .node (o105 P) (t1444 P) (t1246 P)
def t1446 (P : Params) : BT := .node (o29 P) (t1442 P) (t1445 P)
def t1447 (P : Params) : BT := .node (o433 P) .nil .nil
def t1448 (P : Params) : BT := .node (o161 P) (t866 P) (t1447 P)
def t1449 (P : Params) : BT := .node (o86 P) (t1448 P) (t1250 P)
def t1450 (P : Params) : BT := .node (o48 P) (t1449 P) (t1254 P)
def t1451 (P : Params) : BT := .node (o10 P) (t1446 P) (t1450 P)
def t1452 (P : Params) : BT := .node (o425 P) .nil .nil
def t1453 (P : Params) : BT := .node (o153 P) (t871 P) (t1452 P)
def t1454 (P : Params) : BT := .node (o78 P) (t1453 P) (t1051 P)
def t1455 (P : Params) : BT := .node (o457 P) .nil .nil
def t1456 (P : Params) : BT := .node (o188 P) (t1053 P) (t1455 P)
def t1457 (P : Params) : BT := .node (o116 P) (t1456 P) (t1258 P)
def t1458 (P : Params) : BT := .node (o37 P) (t1454 P) (t1457 P)
def t1459 (P : Params) : BT := .node (o441 P) .nil .nil
def t1460 (P : Params) : BT := .node (o169 P) (t875 P) (t1459 P)
def t1461 (P : Params) : BT := .node (o97 P) (t1460 P) (t1262 P)
def t1462 (P : Params) : BT := .node (o409 P) .nil .nil
def t1463 (P : Params) : BT := .node (o274 P) (t1462 P) .nil
def t1464 (P : Params) : BT := .node (o313 P) (t1058 P) (t1463 P)
def t1465 (P : Params) : BT := .node (o59 P) (t1461 P) (t1464 P)
def t1466 (P : Params) : BT := .node (o18 P) (t1458 P) (t1465 P)
def t1467 (P : Params) : BT := .node (o0 P) (t1451 P) (t1466 P)
def t1468 (P : Params) : BT := .node (o407 P) (t1439 P) (t1467 P)
def t1469 (P : Params) : BT := .node (o415 P) .nil .nil
def t1470 (P : Params) : BT := .node (o143 P) (t884 P) (t1469 P)
def t1471 (P : Params) : BT := .node (o65 P) (t1470 P) (t1065 P)
def t1472 (P : Params) : BT := .node (o447 P) .nil .nil
def t1473 (P : Params) : BT := .node (o175 P) (t1067 P) (t1472 P)
def t1474 (P : Params) : BT := .node (o103 P) (t1473 P) (t1269 P)
def t1475 (P : Params) : BT := .node (o24 P) (t1471 P) (t1474 P)
def t1476 (P : Params) : BT := .node (o431 P) .nil .nil
def t1477 (P : Params) : BT := .node (o159 P) (t888 P) (t1476 P)
def t1478 (P : Params) : BT := .node (o84 P) (t1477 P) (t1273 P)
def t1479 (P : Params) : BT := .node (o46 P) (t1478 P) (t1277 P)
def t1480 (P : Params) : BT := .node (o8 P) (t1475 P) (t1479 P)
def t1481 (P : Params) : BT := .node (o423 P) .nil .nil
def t1482 (P : Params) : BT := .node (o151 P) (t893 P) (t1481 P)
def t1483 (P : Params) : BT := .node (o76 P) (t1482 P) (t1077 P)
def t1484 (P : Params) : BT := .node (o455 P) .nil .nil
def t1485 (P : Params) : BT := .node (o186 P) (t1079 P) (t1484 P)
def t1486 (P : Params) : BT := .node (o114 P) (t1485 P) (t1281 P)
def t1487 (P : Params) : BT := .node (o35 P) (t1483 P) (t1486 P)
def t1488 (P : Params) : BT := .node (o439 P) .nil .nil
def t1489 (P : Params) : BT := .node (o167 P) (t897 P) (t1488 P)
def t1490 (P : Params) : BT := .node (o92 P) (t1489 P) (t1285 P)
def t1491 (P : Params) : BT := .node (o54 P) (t1490 P) (t1289 P)
def t1492 (P : Params) : BT := .node (o16 P) (t1487 P) (t1491 P)
def t1493 (P : Params) : BT := .node (boot_o_9 P) (t1480 P) (t1492 P)
def t1494 (P : Params) : BT := .node (o419 P) .nil .nil
def t1495 (P : Params) : BT := .node (o147 P) (t905 P) (t1494 P)
def t1496 (P : Params) : BT := .node (o69 P) (t1495 P) (t1090 P)
def t1497 (P : Params) : BT := .node (o451 P) .nil .nil
def t1498 (P : Params) : BT := .node (o179 P) (t1092 P) (t1497 P)
def t1499 (P : Params) : BT := .node (o107 P) (t1498 P) (t1294 P)
def t1500 (P : Params) : BT := .node (o31 P) (t1496 P) (t1499 P)
def t1501 (P : Params) : BT := .node (o435 P) .nil .nil
def t1502 (P : Params) : BT := .node (o163 P) (t909 P) (t1501 P)
def t1503 (P : Params) : BT := .node (o88 P) (t1502 P) (t1298 P)
def t1504 (P : Params) : BT := .node (o50 P) (t1503 P) (t1302 P)
def t1505 (P : Params) : BT := .node (o12 P) (t1500 P) (t1504 P)
def t1506 (P : Params) : BT := .node (o427 P) .nil .nil
def t1507 (P : Params) : BT := .node (o155 P) (t914 P) (t1506 P)
def t1508 (P : Params) : BT := .node (o80 P) (t1507 P) (t1102 P)
def t1509 (P : Params) : BT := .node (o39 P) (t1508 P) (t1307 P)
def t1510 (P : Params) : BT := .node (o443 P) .nil .nil
def t1511 (P : Params) : BT := .node (o171 P) (t918 P) (t1510 P)
def t1512 (P : Params) : BT := .node (o99 P) (t1511 P) (t1310 P)
def t1513 (P : Params) : BT := .node (o411 P) .nil .nil
def t1514 (P : Params) : BT := .node (o276 P) (t1513 P) .nil
def t1515 (P : Params) : BT := .node (o136 P) (t1109 P) (t1514 P)
def t1516 (P : Params) : BT := .node (o61 P) (t1512 P) (t1515 P)
def t1517 (P : Params) : BT := .node (o20 P) (t1509 P) (t1516 P)
def t1518 (P : Params) : BT := .node (o2 P) (t1505 P) (t1517 P)
def t1519 (P : Params) : BT := .node (boot_o_5 P) (t1493 P) (t1518 P)
def t1520 (P : Params) : BT := .node (boot_o_1 P) (t1468 P) (t1519 P)
def t1521 (P : Params) : BT := .node (o414 P) .nil .nil
def t1522 (P : Params) : BT := .node (o142 P) (t928 P) (t1521 P)
def t1523 (P : Params) : BT := .node (o64 P) (t1522 P) (t1117 P)
def t1524 (P : Params) : BT := .node (o446 P) .nil .nil
def t1525 (P : Params) : BT := .node (o174 P) (t1119 P) (t1524 P)
def t1526 (P : Params) : BT := .node (o102 P) (t1525 P) (t1318 P)
def t1527 (P : Params) : BT := .node (o23 P) (t1523 P) (t1526 P)
def t1528 (P : Params) : BT := .node (o430 P) .nil .nil
def t1529 (P : Params) : BT := .node (o158 P) (t932 P) (t1528 P)
def t1530 (P : Params) : BT := .node (o83 P) (t1529 P) (t1322 P)
def t1531 (P : Params) : BT := .node (o45 P) (t1530 P) (t1326 P)
def t1532 (P : Params) : BT := .node (o7 P) (t1527 P) (t1531 P)
def t1533 (P : Params) : BT := .node (o422 P) .nil .nil
def t1534 (P : Params) : BT := .node (o150 P) (t937 P) (t1533 P)
def t1535 (P : Params) : BT := .node (o75 P) (t1534 P) (t1129 P)
def t1536 (P : Params) : BT := .node (o454 P) .nil .nil
def t1537 (P : Params) : BT := .node (o185 P) (t1131 P) (t1536 P)
def t1538 (P : Params) : BT := .node (o113 P) (t1537 P) (t1330 P)
def t1539 (P : Params) : BT := .node (o34 P) (t1535 P) (t1538 P)
def t1540 (P : Params) : BT := .node (o438 P) .nil .nil
def t1541 (P : Params) : BT := .node (o166 P) (t941 P) (t1540 P)
def t1542 (P : Params) : BT := .node (o91 P) (t1541 P) (t1334 P)
def t1543 (P : Params) : BT := .node (o53 P) (t1542 P) (t1338 P)
def t1544 (P : Params) : BT := .node (o15 P) (t1539 P) (t1543 P)
def t1545 (P : Params) : BT := .node (boot_o_8 P) (t1532 P) (t1544 P)
def t1546 (P : Params) : BT := .node (o418 P) .nil .nil
def t1547 (P : Params) : BT := .node (o146 P) (t949 P) (t1546 P)
def t1548 (P : Params) : BT := .node (o68 P) (t1547 P) (t1142 P)
def t1549 (P : Params) : BT := .node (o450 P) .nil .nil
def t1550 (P : Params) : BT := .node (o178 P) (t1144 P) (t1549 P)
def t1551 (P : Params) : BT := .node (o106 P) (t1550 P) (t1343 P)
def t1552 (P : Params) : BT := .node (o30 P) (t1548 P) (t1551 P)
def t1553 (P : Params) : BT := .node (o434 P) .nil .nil
def t1554 (P : Params) : BT := .node (o162 P) (t953 P) (t1553 P)
def t1555 (P : Params) : BT := .node (o87 P) (t1554 P) (t1347 P)
def t1556 (P : Params) : BT := .node (o49 P) (t1555 P) (t1351 P)
def t1557 (P : Params) : BT := .node (o11 P) (t1552 P) (t1556 P)
def t1558 (P : Params) : BT := .node (o426 P) .nil .nil
def t1559 (P : Params) : BT := .node (o154 P) (t958 P) (t1558 P)
def t1560 (P : Params) : BT := .node (o79 P) (t1559 P) (t1154 P)
def t1561 (P : Params) : BT := .node (o38 P) (t1560 P) (t1356 P)
def t1562 (P : Params) : BT := .node (o442 P) .nil .nil
def t1563 (P : Params) : BT := .node (o170 P) (t962 P) (t1562 P)
def t1564 (P : Params) : BT := .node (o98 P) (t1563 P) (t1359 P)
def t1565 (P : Params) : BT := .node (o410 P) .nil .nil
def t1566 (P : Params) : BT := .node (o275 P) (t1565 P) .nil
def t1567 (P : Params) : BT := .node (o135 P) (t1161 P) (t1566 P)
def t1568 (P : Params) : BT := .node (o60 P) (t1564 P) (t1567 P)
def t1569 (P : Params) : BT := .node (o19 P) (t1561 P) (t1568 P)
def t1570 (P : Params) : BT := .node (o408 P) (t1557 P) (t1569 P)
def t1571 (P : Params) : BT := .node (boot_o_4 P) (t1545 P) (t1570 P)
def t1572 (P : Params) : BT := .node (o416 P) .nil .nil
def t1573 (P : Params) : BT := .node (o144 P) (t971 P) (t1572 P)
def t1574 (P : Params) : BT := .node (o66 P) (t1573 P) (t1168 P)
def t1575 (P : Params) : BT := .node (o448 P) .nil .nil
def t1576 (P : Params) : BT := .node (o176 P) (t1170 P) (t1575 P)
def t1577 (P : Params) : BT := .node (o104 P) (t1576 P) (t1366 P)
def t1578 (P : Params) : BT := .node (o25 P) (t1574 P) (t1577 P)
def t1579 (P : Params) : BT := .node (o432 P) .nil .nil
def t1580 (P : Params) : BT := .node (o160 P) (t975 P) (t1579 P)
def t1581 (P : Params) : BT := .node (o85 P) (t1580 P) (t1370 P)
def t1582 (P : Params) : BT := .node (o47 P) (t1581 P) (t1374 P)
def t1583 (P : Params) : BT := .node (o9 P) (t1578 P) (t1582 P)
def t1584 (P : Params) : BT := .node (o424 P) .nil .nil
def t1585 (P : Params) : BT := .node (o152 P) (t980 P) (t1584 P)
def t1586 (P : Params) : BT := .node (o77 P) (t1585 P) (t1180 P)
def t1587 (P : Params) : BT := .node (o456 P) .nil .nil
def t1588 (P : Params) : BT := .node (o187 P) (t1182 P) (t1587 P)
def t1589 (P : Params) : BT := .node (o115 P) (t1588 P) (t1378 P)
def t1590 (P : Params) : BT := .node (o36 P) (t1586 P) (t1589 P)
def t1591 (P : Params) : BT := .node (o440 P) .nil .nil
def t1592 (P : Params) : BT := .node (o168 P) (t984 P) (t1591 P)
def t1593 (P : Params) : BT := .node (o96 P) (t1592 P) (t1382 P)
def t1594 (P : Params) : BT := .node (o55 P) (t1593 P) (t1386 P)
def t1595 (P : Params) : BT := .node (o17 P) (t1590 P) (t1594 P)
def t1596 (P : Params) : BT := .node (boot_o_10 P) (t1583 P) (t1595 P)
def t1597 (P : Params) : BT := .node (o420 P) .nil .nil
def t1598 (P : Params) : BT := .node (o148 P) (t992 P) (t1597 P)
def t1599 (P : Params) : BT := .node (o70 P) (t1598 P) (t1193 P)
def t1600 (P : Params) : BT := .node (o452 P) .nil .nil
def t1601 (P : Params) : BT := .node (o180 P) (t1195 P) (t1600 P)
def t1602 (P : Params) : BT := .node (o111 P) (t1601 P) (t1391 P)
def t1603 (P : Params) : BT := .node (o32 P) (t1599 P) (t1602 P)
def t1604 (P : Params) : BT := .node (o436 P) .nil .nil
def t1605 (P : Params) : BT := .node (o164 P) (t996 P) (t1604 P)
def t1606 (P : Params) : BT := .node (o89 P) (t1605 P) (t1395 P)
def t1607 (P : Params) : BT := .node (o51 P) (t1606 P) (t1399 P)
def t1608 (P : Params) : BT := .node (o13 P) (t1603 P) (t1607 P)
def t1609 (P : Params) : BT := .node (o428 P) .nil .nil
def t1610 (P : Params) : BT := .node (o156 P) (t1001 P) (t1609 P)
def t1611 (P : Params) : BT := .node (o81 P) (t1610 P) (t1205 P)
def t1612 (P : Params) : BT := .node (o40 P) (t1611 P) (t1404 P)
def t1613 (P : Params) : BT := .node (o444 P) .nil .nil
def t1614 (P : Params) : BT := .node (o172 P) (t1005 P) (t1613 P)
def t1615 (P : Params) : BT := .node (o100 P) (t1614 P) (t1407 P)
def t1616 (P : Params) : BT := .node (o412 P) .nil .nil
def t1617 (P : Params) : BT := .node (o277 P) (t1616 P) .nil
def t1618 (P : Params) : BT := .node (o137 P) (t1212 P) (t1617 P)
def t1619 (P : Params) : BT := .node (o62 P) (t1615 P) (t1618 P)
def t1620 (P : Params) : BT := .node (o21 P) (t1612 P) (t1619 P)
def t1621 (P : Params) : BT := .node (o3 P) (t1608 P) (t1620 P)
def t1622 (P : Params) : BT := .node (boot_o_6 P) (t1596 P) (t1621 P)
def t1623 (P : Params) : BT := .node (boot_o_2 P) (t1571 P) (t1622 P)
def t1624 (P : Params) : BT := .node (boot_o_0 P) (t1520 P) (t1623 P)
def sb15 (w : World) (os : OsState) : SharedT := ⟨(t1624 w.params), 428, (Life.mk [] [] [] 0 [] [] Bool.false #[] [] 0 Bool.false Bool.false Bool.false (0 : Int) [(2000 : Int), (10 : Int), (10 : Int)] Bool.false 0 Bool.true [] [] 0 Bool.false), ⟨[]⟩, (Drawn.mk 0 0 0 0), 753, os⟩
def L14 (w : World) (os : OsState) : Option (Flow × SharedT × Code × Pos) := segRunT treeTable PySem.Challenge.pw_beatless_k06_programs_refused w 11 an 1 373 (sb14 w os) (piecesOf sts14 env cE (Pos.mk 140 0 141 53) B)
def R14 (w : World) (os : OsState) : Option (Flow × SharedT × Code × Pos) := some (.next, sb15 w os, cE, (Pos.mk 167 0 170 12))
theorem q14 : tt (Hd.L14, Hd.R14) = true := by k_qdec
theorem r14 : ∀ w, PySem.W.Fast.tw10746442050511218662 w = PySem.W.Fast.tw16081447883321694060 w := fun w => by kernel_rfl
theorem e14 (w : World) (os : OsState) : Hd.L14 w os = Hd.R14 w os :=
  (congrFun (congrFun PySem.W.Fast.te10746442050511218662 w) os).trans ((congrFun (r14 w) os).trans (congrFun (congrFun PySem.W.Fast.te16081447883321694060 w) os).symm)
def sts15 : List Stmt := [S 34, S 35, S 36, S 37, S 38, S 39, S 40, S 41, S 42, S 43, S 44]
def o458 (P : Params) : Obj := (Obj.mk (.type "dict") (Option.none) (Data.dict #[en P "__name__" 165 (.str "law_beatless_k06_programs_refused" 743), en P "__doc__" 166 .none, en P "__package__" 167 .none, en P "__loader__" 168 (.builtin "__main__.__loader__#opaque"), en P "__spec__" 169 .none, en P "__annotations__" 170 (.ref 6), en P "__builtins__" 171 (.ref 4), en P "__file__" 173 (.str "/claim/cut.py" 172), en P "__cached__" 174 .none, en P "_wall" 193 (.ref 21), en P "BeatlessError" 213 (.ref 31), en P "NoWeb" 229 (.ref 44), en P "NoHand" 245 (.ref 56), en P "NoProgram" 261 (.ref 68), en P "NoText" 286 (.ref 87), en P "NoWay" 302 (.ref 99), en P "NoRound" 318 (.ref 111), en P "Expr" 340 (.ref 123), en P "Num" 387 (.ref 165), en P "Name" 434 (.ref 205), en P "Two" 487 (.ref 245), en P "Mod" 536 (.ref 285), en P "Less" 589 (.ref 325), en P "is_whole" 598 (.ref 334), en P "START_NAMES" 603 (.ref 335), en P "SEND_NAMES" 609 (.ref 336), en P "RENEW_NAMES" 618 (.ref 337), en P "TWO_WORDS" 623 (.ref 338), en P "MOST_WORDS" 625 (.int (60 : Int) 624), en P "MOST_DEEP" 627 (.int (8 : Int) 626), en P "is_short_number" 634 (.ref 345), en P "is_word_of" 642 (.ref 352), en P "is_divisor" 649 (.ref 359), en P "are_sound" 659 (.ref 366), en P "is_sound" 668 (.ref 373), en P "count_words" 674 (.ref 378), en P "Program" 742 (.ref 416), en P "_law_cell_at" 752 (.ref 427), en P "_law_digit" 763 (.ref 434), en P "_law_expr" 769 (.ref 439), en P "_law_made" 776 (.ref 446), en P "_law_fits" 786 (.ref 453), en P "_law_size" 792 (.ref 458), en P "_law_four" 805 (.ref 465), en P "_law_program" 812 (.ref 472), en P "_law_odd" 818 (.ref 477), en P "_law_within" 826 (.ref 484), en P "_law_refused" 835 (.ref 491), en P "law" 841 (.ref 496)] 49) #[])
def o459 (P : Params) : Obj := (Obj.mk .none (Option.none) (Data.fields #[(.int (1 : Int) 0), (.int (0 : Int) 0), (.ref 20), (.int (5 : Int) 0), (.int (0 : Int) 0), (.ref 27), (.int (7 : Int) 0), (.int (0 : Int) 0), (.ref 40), (.int (9 : Int) 0), (.int (0 : Int) 0), (.ref 52), (.int (11 : Int) 0), (.int (0 : Int) 0), (.ref 64), (.int (13 : Int) 0), (.int (0 : Int) 0), (.ref 76), (.int (17 : Int) 0), (.int (0 : Int) 0), (.ref 95), (.int (19 : Int) 0), (.int (0 : Int) 0), (.ref 107), (.int (22 : Int) 0), (.int (0 : Int) 0), (.ref 119), (.int (24 : Int) 0), (.int (0 : Int) 0), (.ref 133), (.int (37 : Int) 0), (.int (0 : Int) 0), (.ref 173), (.int (50 : Int) 0), (.int (0 : Int) 0), (.ref 213), (.int (73 : Int) 0), (.int (0 : Int) 0), (.ref 253), (.int (87 : Int) 0), (.int (0 : Int) 0), (.ref 293), (.int (106 : Int) 0), (.int (0 : Int) 0), (.ref 333), (.int (115 : Int) 0), (.int (0 : Int) 0), (.ref 344), (.int (117 : Int) 0), (.int (0 : Int) 0), (.ref 351), (.int (119 : Int) 0), (.int (0 : Int) 0), (.ref 358), (.int (121 : Int) 0), (.int (0 : Int) 0), (.ref 365), (.int (126 : Int) 0), (.int (0 : Int) 0), (.ref 372), (.int (140 : Int) 0), (.int (0 : Int) 0), (.ref 377), (.int (142 : Int) 0), (.int (0 : Int) 0), (.ref 384), (.int (167 : Int) 0), (.int (0 : Int) 0), (.ref 426), (.int (171 : Int) 0), (.int (0 : Int) 0), (.ref 433), (.int (184 : Int) 0), (.int (0 : Int) 0), (.ref 438), (.int (202 : Int) 0), (.int (0 : Int) 0), (.ref 445), (.int (212 : Int) 0), (.int (0 : Int) 0), (.ref 452), (.int (217 : Int) 0), (.int (0 : Int) 0), (.ref 457), (.int (221 : Int) 0), (.int (0 : Int) 0), (.ref 464), (.int (229 : Int) 0), (.int (0 : Int) 0), (.ref 471), (.int (231 : Int) 0), (.int (0 : Int) 0), (.ref 476), (.int (254 : Int) 0), (.int (0 : Int) 0), (.ref 483), (.int (262 : Int) 0), (.int (0 : Int) 0), (.ref 490), (.int (270 : Int) 0), (.int (0 : Int) 0), (.ref 495)]) #[])
def o460 (P : Params) : Obj := (Obj.mk (.type "tuple") (Option.none) (Data.seq #[] 0) #[])
def o461 (P : Params) : Obj := (Obj.mk .none (Option.none) (Data.fields #[]) #[])
def o462 (P : Params) : Obj := (Obj.mk (.type "tuple") (Option.none) (Data.seq #[(.str "_law_state" 756), (.str "_law_base" 757), (.str "_law_cell" 758), (.str "_law_found" 759), (.str "_law_number" 760)] 0) #[])
def o463 (P : Params) : Obj := (Obj.mk (.type "tuple") (Option.none) (Data.seq #[] 0) #[])
def o464 (P : Params) : Obj := (Obj.mk .none (Option.none) (Data.func (fd "_law_digit" "_law_digit" (S 34) 0 [] .none .none .none .none (Option.none) .none .none 0)) #[])
def o465 (P : Params) : Obj := (Obj.mk (.type "code") (Option.none) (Data.fields #[(.str "_law_digit" 753), (.str "_law_digit" 754), (.str "/claim/cut.py" 755), (.int (171 : Int) 0), (.int (2 : Int) 0), (.int (0 : Int) 0), (.int (0 : Int) 0), (.int (3 : Int) 0), (.ref 428), (.bool Bool.true), (.int (181 : Int) 0), (.ref 429), .none, (.ref 430), (.ref 431), (.ref 432), (.int (761 : Int) 0), (.int (171 : Int) 0), (.str "/claim/cut.py" 762)]) #[])
def o466 (P : Params) : Obj := (Obj.mk (.type "function") (Option.none) (Data.func (fd "_law_digit" "_law_digit" (S 34) 3 [] .none .none .none (.str "law_beatless_k06_programs_refused" 743) (Option.none) (.ref 433) .none 0)) #[])
def o467 (P : Params) : Obj := (Obj.mk (.type "tuple") (Option.none) (Data.seq #[] 0) #[])
def o468 (P : Params) : Obj := (Obj.mk .none (Option.none) (Data.fields #[]) #[])
def o469 (P : Params) : Obj := (Obj.mk .none (Option.none) (Data.func (fd "_law_expr" "_law_expr" (S 35) 0 [] .none .none .none .none (Option.none) .none .none 0)) #[])
def o470 (P : Params) : Obj := (Obj.mk (.type "code") (Option.none) (Data.fields #[(.str "_law_expr" 764), (.str "_law_expr" 765), (.str "/claim/cut.py" 766), (.int (184 : Int) 0), (.int (3 : Int) 0), (.int (0 : Int) 0), (.int (0 : Int) 0), (.int (3 : Int) 0), (.ref 435), (.bool Bool.true), (.int (181 : Int) 0), (.ref 436), .none, .none, .none, (.ref 437), (.int (767 : Int) 0), (.int (184 : Int) 0), (.str "/claim/cut.py" 768)]) #[])
def o471 (P : Params) : Obj := (Obj.mk (.type "function") (Option.none) (Data.func (fd "_law_expr" "_law_expr" (S 35) 3 [] .none .none .none (.str "law_beatless_k06_programs_refused" 743) (Option.none) (.ref 438) .none 0)) #[])
def o472 (P : Params) : Obj := (Obj.mk (.type "tuple") (Option.none) (Data.seq #[] 0) #[])
def o473 (P : Params) : Obj := (Obj.mk .none (Option.none) (Data.fields #[]) #[])
def o474 (P : Params) : Obj := (Obj.mk (.type "tuple") (Option.none) (Data.seq #[(.str "_law_told" 773)] 0) #[])
def o475 (P : Params) : Obj := (Obj.mk (.type "tuple") (Option.none) (Data.seq #[] 0) #[])
def o476 (P : Params) : Obj := (Obj.mk .none (Option.none) (Data.func (fd "_law_made" "_law_made" (S 36) 0 [] .none .none .none .none (Option.none) .none .none 0)) #[])
def o477 (P : Params) : Obj := (Obj.mk (.type "code") (Option.none) (Data.fields #[(.str "_law_made" 770), (.str "_law_made" 771), (.str "/claim/cut.py" 772), (.int (202 : Int) 0), (.int (1 : Int) 0), (.int (0 : Int) 0), (.int (0 : Int) 0), (.int (3 : Int) 0), (.ref 440), (.bool Bool.true), (.int (181 : Int) 0), (.ref 441), .none, (.ref 442), (.ref 443), (.ref 444), (.int (774 : Int) 0), (.int (202 : Int) 0), (.str "/claim/cut.py" 775)]) #[])
def o478 (P : Params) : Obj := (Obj.mk (.type "function") (Option.none) (Data.func (fd "_law_made" "_law_made" (S 36) 3 [] .none .none .none (.str "law_beatless_k06_programs_refused" 743) (Option.none) (.ref 445) .none 0)) #[])
def o479 (P : Params) : Obj := (Obj.mk (.type "tuple") (Option.none) (Data.seq #[] 0) #[])
def o480 (P : Params) : Obj := (Obj.mk .none (Option.none) (Data.fields #[]) #[])
def o481 (P : Params) : Obj := (Obj.mk (.type "tuple") (Option.none) (Data.seq #[(.str "_law_state" 780), (.str "_law_names" 781), (.str "_law_deep" 782), (.str "_law_told" 783)] 0) #[])
def o482 (P : Params) : Obj := (Obj.mk (.type "tuple") (Option.none) (Data.seq #[] 0) #[])
def o483 (P : Params) : Obj := (Obj.mk .none (Option.none) (Data.func (fd "_law_fits" "_law_fits" (S 37) 0 [] .none .none .none .none (Option.none) .none .none 0)) #[])
def o484 (P : Params) : Obj := (Obj.mk (.type "code") (Option.none) (Data.fields #[(.str "_law_fits" 777), (.str "_law_fits" 778), (.str "/claim/cut.py" 779), (.int (212 : Int) 0), (.int (3 : Int) 0), (.int (0 : Int) 0), (.int (0 : Int) 0), (.int (3 : Int) 0), (.ref 447), (.bool Bool.true), (.int (181 : Int) 0), (.ref 448), .none, (.ref 449), (.ref 450), (.ref 451), (.int (784 : Int) 0), (.int (212 : Int) 0), (.str "/claim/cut.py" 785)]) #[])
def o485 (P : Params) : Obj := (Obj.mk (.type "function") (Option.none) (Data.func (fd "_law_fits" "_law_fits" (S 37) 3 [] .none .none .none (.str "law_beatless_k06_programs_refused" 743) (Option.none) (.ref 452) .none 0)) #[])
def o486 (P : Params) : Obj := (Obj.mk (.type "tuple") (Option.none) (Data.seq #[] 0) #[])
def o487 (P : Params) : Obj := (Obj.mk .none (Option.none) (Data.fields #[]) #[])
def o488 (P : Params) : Obj := (Obj.mk .none (Option.none) (Data.func (fd "_law_size" "_law_size" (S 38) 0 [] .none .none .none .none (Option.none) .none .none 0)) #[])
def o489 (P : Params) : Obj := (Obj.mk (.type "code") (Option.none) (Data.fields #[(.str "_law_size" 787), (.str "_law_size" 788), (.str "/claim/cut.py" 789), (.int (217 : Int) 0), (.int (1 : Int) 0), (.int (0 : Int) 0), (.int (0 : Int) 0), (.int (3 : Int) 0), (.ref 454), (.bool Bool.true), (.int (181 : Int) 0), (.ref 455), .none, .none, .none, (.ref 456), (.int (790 : Int) 0), (.int (217 : Int) 0), (.str "/claim/cut.py" 791)]) #[])
def o490 (P : Params) : Obj := (Obj.mk (.type "function") (Option.none) (Data.func (fd "_law_size" "_law_size" (S 38) 3 [] .none .none .none (.str "law_beatless_k06_programs_refused" 743) (Option.none) (.ref 457) .none 0)) #[])
def o491 (P : Params) : Obj := (Obj.mk (.type "tuple") (Option.none) (Data.seq #[] 0) #[])
def o492 (P : Params) : Obj := (Obj.mk .none (Option.none) (Data.fields #[]) #[])
def o493 (P : Params) : Obj := (Obj.mk (.type "tuple") (Option.none) (Data.seq #[(.str "_law_state" 796), (.str "_law_ahead" 797), (.str "_law_at_send" 798), (.str "_law_at_end" 799), (.str "_law_start" 800), (.str "_law_send" 801), (.str "_law_when" 802)] 0) #[])
def o494 (P : Params) : Obj := (Obj.mk (.type "tuple") (Option.none) (Data.seq #[] 0) #[])
def o495 (P : Params) : Obj := (Obj.mk .none (Option.none) (Data.func (fd "_law_four" "_law_four" (S 39) 0 [] .none .none .none .none (Option.none) .none .none 0)) #[])
def o496 (P : Params) : Obj := (Obj.mk (.type "code") (Option.none) (Data.fields #[(.str "_law_four" 793), (.str "_law_four" 794), (.str "/claim/cut.py" 795), (.int (221 : Int) 0), (.int (1 : Int) 0), (.int (0 : Int) 0), (.int (0 : Int) 0), (.int (3 : Int) 0), (.ref 459), (.bool Bool.true), (.int (181 : Int) 0), (.ref 460), .none, (.ref 461), (.ref 462), (.ref 463), (.int (803 : Int) 0), (.int (221 : Int) 0), (.str "/claim/cut.py" 804)]) #[])
def o497 (P : Params) : Obj := (Obj.mk (.type "function") (Option.none) (Data.func (fd "_law_four" "_law_four" (S 39) 3 [] .none .none .none (.str "law_beatless_k06_programs_refused" 743) (Option.none) (.ref 464) .none 0)) #[])
def o498 (P : Params) : Obj := (Obj.mk (.type "tuple") (Option.none) (Data.seq #[] 0) #[])
def o499 (P : Params) : Obj := (Obj.mk .none (Option.none) (Data.fields #[]) #[])
def o500 (P : Params) : Obj := (Obj.mk (.type "tuple") (Option.none) (Data.seq #[(.str "_law_four_here" 809)] 0) #[])
def o501 (P : Params) : Obj := (Obj.mk (.type "tuple") (Option.none) (Data.seq #[] 0) #[])
def o502 (P : Params) : Obj := (Obj.mk .none (Option.none) (Data.func (fd "_law_program" "_law_program" (S 40) 0 [] .none .none .none .none (Option.none) .none .none 0)) #[])
def o503 (P : Params) : Obj := (Obj.mk (.type "code") (Option.none) (Data.fields #[(.str "_law_program" 806), (.str "_law_program" 807), (.str "/claim/cut.py" 808), (.int (229 : Int) 0), (.int (1 : Int) 0), (.int (0 : Int) 0), (.int (0 : Int) 0), (.int (3 : Int) 0), (.ref 466), (.bool Bool.true), (.int (181 : Int) 0), (.ref 467), .none, (.ref 468), (.ref 469), (.ref 470), (.int (810 : Int) 0), (.int (229 : Int) 0), (.str "/claim/cut.py" 811)]) #[])
def o504 (P : Params) : Obj := (Obj.mk (.type "function") (Option.none) (Data.func (fd "_law_program" "_law_program" (S 40) 3 [] .none .none .none (.str "law_beatless_k06_programs_refused" 743) (Option.none) (.ref 471) .none 0)) #[])
def o505 (P : Params) : Obj := (Obj.mk (.type "tuple") (Option.none) (Data.seq #[] 0) #[])
def o506 (P : Params) : Obj := (Obj.mk .none (Option.none) (Data.fields #[]) #[])
def o507 (P : Params) : Obj := (Obj.mk .none (Option.none) (Data.func (fd "_law_odd" "_law_odd" (S 41) 0 [] .none .none .none .none (Option.none) .none .none 0)) #[])
def o508 (P : Params) : Obj := (Obj.mk (.type "code") (Option.none) (Data.fields #[(.str "_law_odd" 813), (.str "_law_odd" 814), (.str "/claim/cut.py" 815), (.int (231 : Int) 0), (.int (1 : Int) 0), (.int (0 : Int) 0), (.int (0 : Int) 0), (.int (3 : Int) 0), (.ref 473), (.bool Bool.true), (.int (181 : Int) 0), (.ref 474), .none, .none, .none, (.ref 475), (.int (816 : Int) 0), (.int (231 : Int) 0), (.str "/claim/cut.py" 817)]) #[])
def o509 (P : Params) : Obj := (Obj.mk (.type "function") (Option.none) (Data.func (fd "_law_odd" "_law_odd" (S 41) 3 [] .none .none .none (.str "law_beatless_k06_programs_refused" 743) (Option.none) (.ref 476) .none 0)) #[])
def o510 (P : Params) : Obj := (Obj.mk (.type "tuple") (Option.none) (Data.seq #[] 0) #[])
def o511 (P : Params) : Obj := (Obj.mk .none (Option.none) (Data.fields #[]) #[])
def o512 (P : Params) : Obj := (Obj.mk (.type "tuple") (Option.none) (Data.seq #[(.str "_law_odd_here" 822), (.str "_law_way" 823)] 0) #[])
def o513 (P : Params) : Obj := (Obj.mk (.type "tuple") (Option.none) (Data.seq #[] 0) #[])
def o514 (P : Params) : Obj := (Obj.mk .none (Option.none) (Data.func (fd "_law_within" "_law_within" (S 42) 0 [] .none .none .none .none (Option.none) .none .none 0)) #[])
def o515 (P : Params) : Obj := (Obj.mk (.type "code") (Option.none) (Data.fields #[(.str "_law_within" 819), (.str "_law_within" 820), (.str "/claim/cut.py" 821), (.int (254 : Int) 0), (.int (2 : Int) 0), (.int (0 : Int) 0), (.int (0 : Int) 0), (.int (3 : Int) 0), (.ref 478), (.bool Bool.true), (.int (181 : Int) 0), (.ref 479), .none, (.ref 480), (.ref 481), (.ref 482), (.int (824 : Int) 0), (.int (254 : Int) 0), (.str "/claim/cut.py" 825)]) #[])
def o516 (P : Params) : Obj := (Obj.mk (.type "function") (Option.none) (Data.func (fd "_law_within" "_law_within" (S 42) 3 [] .none .none .none (.str "law_beatless_k06_programs_refused" 743) (Option.none) (.ref 483) .none 0)) #[])
def o517 (P : Params) : Obj := (Obj.mk (.type "tuple") (Option.none) (Data.seq #[] 0) #[])
def o518 (P : Params) : Obj := (Obj.mk .none (Option.none) (Data.fields #[]) #[])
def o519 (P : Params) : Obj := (Obj.mk (.type "tuple") (Option.none) (Data.seq #[(.str "_law_exprs" 830), (.str "_law_others" 831), (.str "e" 832)] 0) #[])
def o520 (P : Params) : Obj := (Obj.mk (.type "tuple") (Option.none) (Data.seq #[] 0) #[])
def o521 (P : Params) : Obj := (Obj.mk .none (Option.none) (Data.func (fd "_law_refused" "_law_refused" (S 43) 0 [] .none .none .none .none (Option.none) .none .none 0)) #[])
def o522 (P : Params) : Obj := (Obj.mk (.type "code") (Option.none) (Data.fields #[(.str "_law_refused" 827), (.str "_law_refused" 828), (.str "/claim/cut.py" 829), (.int (262 : Int) 0), (.int (1 : Int) 0), (.int (0 : Int) 0), (.int (0 : Int) 0), (.int (3 : Int) 0), (.ref 485), (.bool Bool.true), (.int (181 : Int) 0), (.ref 486), .none, (.ref 487), (.ref 488), (.ref 489), (.int (833 : Int) 0), (.int (262 : Int) 0), (.str "/claim/cut.py" 834)]) #[])
def o523 (P : Params) : Obj := (Obj.mk (.type "function") (Option.none) (Data.func (fd "_law_refused" "_law_refused" (S 43) 3 [] .none .none .none (.str "law_beatless_k06_programs_refused" 743) (Option.none) (.ref 490) .none 0)) #[])
def o524 (P : Params) : Obj := (Obj.mk (.type "tuple") (Option.none) (Data.seq #[] 0) #[])
def o525 (P : Params) : Obj := (Obj.mk .none (Option.none) (Data.fields #[]) #[])
def o526 (P : Params) : Obj := (Obj.mk .none (Option.none) (Data.func (fd "law" "law" (S 44) 0 [] .none .none .none .none (Option.none) .none .none 0)) #[])
def o527 (P : Params) : Obj := (Obj.mk (.type "code") (Option.none) (Data.fields #[(.str "law" 836), (.str "law" 837), (.str "/claim/cut.py" 838), (.int (270 : Int) 0), (.int (1 : Int) 0), (.int (0 : Int) 0), (.int (0 : Int) 0), (.int (3 : Int) 0), (.ref 492), (.bool Bool.true), (.int (181 : Int) 0), (.ref 493), .none, .none, .none, (.ref 494), (.int (839 : Int) 0), (.int (270 : Int) 0), (.str "/claim/cut.py" 840)]) #[])
def o528 (P : Params) : Obj := (Obj.mk (.type "function") (Option.none) (Data.func (fd "law" "law" (S 44) 3 [] .none .none .none (.str "law_beatless_k06_programs_refused" 743) (Option.none) (.ref 495) .none 0)) #[])
def t1625 (P : Params) : BT := .node (o479 P) .nil .nil
def t1626 (P : Params) : BT := .node (o208 P) (t1016 P) (t1625 P)
def t1627 (P : Params) : BT := .node (o63 P) (t1416 P) (t1626 P)
def t1628 (P : Params) : BT := .node (o511 P) .nil .nil
def t1629 (P : Params) : BT := .node (o243 P) (t1220 P) (t1628 P)
def t1630 (P : Params) : BT := .node (o101 P) (t1419 P) (t1629 P)
def t1631 (P : Params) : BT := .node (o110 P) (t1627 P) (t1630 P)
def t1632 (P : Params) : BT := .node (o495 P) .nil .nil
def t1633 (P : Params) : BT := .node (o224 P) (t1224 P) (t1632 P)
def t1634 (P : Params) : BT := .node (o82 P) (t1423 P) (t1633 P)
def t1635 (P : Params) : BT := .node (o463 P) .nil .nil
def t1636 (P : Params) : BT := .node (o192 P) (t1020 P) (t1635 P)
def t1637 (P : Params) : BT := .node (o527 P) .nil .nil
def t1638 (P : Params) : BT := .node (o259 P) (t1227 P) (t1637 P)
def t1639 (P : Params) : BT := .node (o120 P) (t1636 P) (t1638 P)
def t1640 (P : Params) : BT := .node (o44 P) (t1634 P) (t1639 P)
def t1641 (P : Params) : BT := .node (o6 P) (t1631 P) (t1640 P)
def t1642 (P : Params) : BT := .node (o487 P) .nil .nil
def t1643 (P : Params) : BT := .node (o216 P) (t1025 P) (t1642 P)
def t1644 (P : Params) : BT := .node (o74 P) (t1428 P) (t1643 P)
def t1645 (P : Params) : BT := .node (o519 P) .nil .nil
def t1646 (P : Params) : BT := .node (o251 P) (t1232 P) (t1645 P)
def t1647 (P : Params) : BT := .node (o112 P) (t1431 P) (t1646 P)
def t1648 (P : Params) : BT := .node (o33 P) (t1644 P) (t1647 P)
def t1649 (P : Params) : BT := .node (o503 P) .nil .nil
def t1650 (P : Params) : BT := .node (o235 P) (t1236 P) (t1649 P)
def t1651 (P : Params) : BT := .node (o90 P) (t1435 P) (t1650 P)
def t1652 (P : Params) : BT := .node (o471 P) .nil .nil
def t1653 (P : Params) : BT := .node (o200 P) (t1032 P) (t1652 P)
def t1654 (P : Params) : BT := .node (o130 P) (t1653 P) (t1240 P)
def t1655 (P : Params) : BT := .node (o52 P) (t1651 P) (t1654 P)
def t1656 (P : Params) : BT := .node (o14 P) (t1648 P) (t1655 P)
def t1657 (P : Params) : BT := .node (boot_o_7 P) (t1641 P) (t1656 P)
def t1658 (P : Params) : BT := .node (o483 P) .nil .nil
def t1659 (P : Params) : BT := .node (o212 P) (t1038 P) (t1658 P)
def t1660 (P : Params) : BT := .node (o67 P) (t1441 P) (t1659 P)
def t1661 (P : Params) : BT := .node (o515 P) .nil .nil
def t1662 (P : Params) : BT := .node (o247 P) (t1245 P) (t1661 P)
def t1663 (P : Params) : BT := .node (o105 P) (t1444 P) (t1662 P)
def t1664 (P : Params) : BT := .node (o29 P) (t1660 P) (t1663 P)
def t1665 (P : Params) : BT := .node (o499 P) .nil .nil
def t1666 (P : Params) : BT := .node (o231 P) (t1249 P) (t1665 P)
def t1667 (P : Params) : BT := .node (o86 P) (t1448 P) (t1666 P)
def t1668 (P : Params) : BT := .node (o467 P) .nil .nil
def t1669 (P : Params) : BT := .node (o196 P) (t1045 P) (t1668 P)
def t1670 (P : Params) : BT := .node (o126 P) (t1669 P) (t1253 P)
def t1671 (P : Params) : BT := .node (o48 P) (t1667 P) (t1670 P)
def t1672 (P : Params) : BT := .node (o10 P) (t1664 P) (t1671 P)
def t1673 (P : Params) : BT := .node (o491 P) .nil .nil
def t1674 (P : Params) : BT := .node (o220 P) (t1050 P) (t1673 P)
def t1675 (P : Params) : BT := .node (o78 P) (t1453 P) (t1674 P)
def t1676 (P : Params) : BT := .node (o523 P) .nil .nil
def t1677 (P : Params) : BT := .node (o255 P) (t1257 P) (t1676 P)
def t1678 (P : Params) : BT := .node (o116 P) (t1456 P) (t1677 P)
def t1679 (P : Params) : BT := .node (o37 P) (t1675 P) (t1678 P)
def t1680 (P : Params) : BT := .node (o507 P) .nil .nil
def t1681 (P : Params) : BT := .node (o239 P) (t1261 P) (t1680 P)
def t1682 (P : Params) : BT := .node (o97 P) (t1460 P) (t1681 P)
def t1683 (P : Params) : BT := .node (o475 P) .nil .nil
def t1684 (P : Params) : BT := .node (o204 P) (t1057 P) (t1683 P)
def t1685 (P : Params) : BT := .node (o313 P) (t1684 P) (t1463 P)
def t1686 (P : Params) : BT := .node (o59 P) (t1682 P) (t1685 P)
def t1687 (P : Params) : BT := .node (o18 P) (t1679 P) (t1686 P)
def t1688 (P : Params) : BT := .node (o0 P) (t1672 P) (t1687 P)
def t1689 (P : Params) : BT := .node (o458 P) (t1657 P) (t1688 P)
def t1690 (P : Params) : BT := .node (o481 P) .nil .nil
def t1691 (P : Params) : BT := .node (o210 P) (t1064 P) (t1690 P)
def t1692 (P : Params) : BT := .node (o65 P) (t1470 P) (t1691 P)
def t1693 (P : Params) : BT := .node (o513 P) .nil .nil
def t1694 (P : Params) : BT := .node (o245 P) (t1268 P) (t1693 P)
def t1695 (P : Params) : BT := .node (o103 P) (t1473 P) (t1694 P)
def t1696 (P : Params) : BT := .node (o24 P) (t1692 P) (t1695 P)
def t1697 (P : Params) : BT := .node (o497 P) .nil .nil
def t1698 (P : Params) : BT := .node (o229 P) (t1272 P) (t1697 P)
def t1699 (P : Params) : BT := .node (o84 P) (t1477 P) (t1698 P)
def t1700 (P : Params) : BT := .node (o465 P) .nil .nil
def t1701 (P : Params) : BT := .node (o194 P) (t1071 P) (t1700 P)
def t1702 (P : Params) : BT := .node (o122 P) (t1701 P) (t1276 P)
def t1703 (P : Params) : BT := .node (o46 P) (t1699 P) (t1702 P)
def t1704 (P : Params) : BT := .node (o8 P) (t1696 P) (t1703 P)
def t1705 (P : Params) : BT := .node (o489 P) .nil .nil
def t1706 (P : Params) : BT := .node (o218 P) (t1076 P) (t1705 P)
def t1707 (P : Params) : BT := .node (o76 P) (t1482 P) (t1706 P)
def t1708 (P : Params) : BT := .node (o521 P) .nil .nil
def t1709 (P : Params) : BT := .node (o253 P) (t1280 P) (t1708 P)
def t1710 (P : Params) : BT := .node (o114 P) (t1485 P) (t1709 P)
def t1711 (P : Params) : BT := .node (o35 P) (t1707 P) (t1710 P)
def t1712 (P : Params) : BT := .node (o505 P) .nil .nil
def t1713 (P : Params) : BT := .node (o237 P) (t1284 P) (t1712 P)
def t1714 (P : Params) : BT := .node (o92 P) (t1489 P) (t1713 P)
def t1715 (P : Params) : BT := .node (o473 P) .nil .nil
def t1716 (P : Params) : BT := .node (o202 P) (t1083 P) (t1715 P)
def t1717 (P : Params) : BT := .node (o132 P) (t1716 P) (t1288 P)
def t1718 (P : Params) : BT := .node (o54 P) (t1714 P) (t1717 P)
def t1719 (P : Params) : BT := .node (o16 P) (t1711 P) (t1718 P)
def t1720 (P : Params) : BT := .node (boot_o_9 P) (t1704 P) (t1719 P)
def t1721 (P : Params) : BT := .node (o485 P) .nil .nil
def t1722 (P : Params) : BT := .node (o214 P) (t1089 P) (t1721 P)
def t1723 (P : Params) : BT := .node (o69 P) (t1495 P) (t1722 P)
def t1724 (P : Params) : BT := .node (o517 P) .nil .nil
def t1725 (P : Params) : BT := .node (o249 P) (t1293 P) (t1724 P)
def t1726 (P : Params) : BT := .node (o107 P) (t1498 P) (t1725 P)
def t1727 (P : Params) : BT := .node (o31 P) (t1723 P) (t1726 P)
def t1728 (P : Params) : BT := .node (o501 P) .nil .nil
def t1729 (P : Params) : BT := .node (o233 P) (t1297 P) (t1728 P)
def t1730 (P : Params) : BT := .node (o88 P) (t1502 P) (t1729 P)
def t1731 (P : Params) : BT := .node (o469 P) .nil .nil
def t1732 (P : Params) : BT := .node (o198 P) (t1096 P) (t1731 P)
def t1733 (P : Params) : BT := .node (o128 P) (t1732 P) (t1301 P)
def t1734 (P : Params) : BT := .node (o50 P) (t1730 P) (t1733 P)
def t1735 (P : Params) : BT := .node (o12 P) (t1727 P) (t1734 P)
def t1736 (P : Params) : BT := .node (o493 P) .nil .nil
def t1737 (P : Params) : BT := .node (o222 P) (t1101 P) (t1736 P)
def t1738 (P : Params) : BT := .node (o80 P) (t1507 P) (t1737 P)
def t1739 (P : Params) : BT := .node (o461 P) .nil .nil
def t1740 (P : Params) : BT := .node (o190 P) (t1104 P) (t1739 P)
def t1741 (P : Params) : BT := .node (o525 P) .nil .nil
def t1742 (P : Params) : BT := .node (o257 P) (t1305 P) (t1741 P)
def t1743 (P : Params) : BT := .node (o118 P) (t1740 P) (t1742 P)
def t1744 (P : Params) : BT := .node (o39 P) (t1738 P) (t1743 P)
def t1745 (P : Params) : BT := .node (o509 P) .nil .nil
def t1746 (P : Params) : BT := .node (o241 P) (t1309 P) (t1745 P)
def t1747 (P : Params) : BT := .node (o99 P) (t1511 P) (t1746 P)
def t1748 (P : Params) : BT := .node (o477 P) .nil .nil
def t1749 (P : Params) : BT := .node (o206 P) (t1108 P) (t1748 P)
def t1750 (P : Params) : BT := .node (o136 P) (t1749 P) (t1514 P)
def t1751 (P : Params) : BT := .node (o61 P) (t1747 P) (t1750 P)
def t1752 (P : Params) : BT := .node (o20 P) (t1744 P) (t1751 P)
def t1753 (P : Params) : BT := .node (o2 P) (t1735 P) (t1752 P)
def t1754 (P : Params) : BT := .node (boot_o_5 P) (t1720 P) (t1753 P)
def t1755 (P : Params) : BT := .node (boot_o_1 P) (t1689 P) (t1754 P)
def t1756 (P : Params) : BT := .node (o480 P) .nil .nil
def t1757 (P : Params) : BT := .node (o209 P) (t1116 P) (t1756 P)
def t1758 (P : Params) : BT := .node (o64 P) (t1522 P) (t1757 P)
def t1759 (P : Params) : BT := .node (o512 P) .nil .nil
def t1760 (P : Params) : BT := .node (o244 P) (t1317 P) (t1759 P)
def t1761 (P : Params) : BT := .node (o102 P) (t1525 P) (t1760 P)
def t1762 (P : Params) : BT := .node (o23 P) (t1758 P) (t1761 P)
def t1763 (P : Params) : BT := .node (o496 P) .nil .nil
def t1764 (P : Params) : BT := .node (o228 P) (t1321 P) (t1763 P)
def t1765 (P : Params) : BT := .node (o83 P) (t1529 P) (t1764 P)
def t1766 (P : Params) : BT := .node (o464 P) .nil .nil
def t1767 (P : Params) : BT := .node (o193 P) (t1123 P) (t1766 P)
def t1768 (P : Params) : BT := .node (o528 P) .nil .nil
def t1769 (P : Params) : BT := .node (o260 P) (t1324 P) (t1768 P)
def t1770 (P : Params) : BT := .node (o121 P) (t1767 P) (t1769 P)
def t1771 (P : Params) : BT := .node (o45 P) (t1765 P) (t1770 P)
def t1772 (P : Params) : BT := .node (o7 P) (t1762 P) (t1771 P)
def t1773 (P : Params) : BT := .node (o488 P) .nil .nil
def t1774 (P : Params) : BT := .node (o217 P) (t1128 P) (t1773 P)
def t1775 (P : Params) : BT := .node (o75 P) (t1534 P) (t1774 P)
def t1776 (P : Params) : BT := .node (o520 P) .nil .nil
def t1777 (P : Params) : BT := .node (o252 P) (t1329 P) (t1776 P)
def t1778 (P : Params) : BT := .node (o113 P) (t1537 P) (t1777 P)
def t1779 (P : Params) : BT := .node (o34 P) (t1775 P) (t1778 P)
def t1780 (P : Params) : BT := .node (o504 P) .nil .nil
def t1781 (P : Params) : BT := .node (o236 P) (t1333 P) (t1780 P)
def t1782 (P : Params) : BT := .node (o91 P) (t1541 P) (t1781 P)
def t1783 (P : Params) : BT := .node (o472 P) .nil .nil
def t1784 (P : Params) : BT := .node (o201 P) (t1135 P) (t1783 P)
def t1785 (P : Params) : BT := .node (o131 P) (t1784 P) (t1337 P)
def t1786 (P : Params) : BT := .node (o53 P) (t1782 P) (t1785 P)
def t1787 (P : Params) : BT := .node (o15 P) (t1779 P) (t1786 P)
def t1788 (P : Params) : BT := .node (boot_o_8 P) (t1772 P) (t1787 P)
def t1789 (P : Params) : BT := .node (o484 P) .nil .nil
def t1790 (P : Params) : BT := .node (o213 P) (t1141 P) (t1789 P)
def t1791 (P : Params) : BT := .node (o68 P) (t1547 P) (t1790 P)
def t1792 (P : Params) : BT := .node (o516 P) .nil .nil
def t1793 (P : Params) : BT := .node (o248 P) (t1342 P) (t1792 P)
def t1794 (P : Params) : BT := .node (o106 P) (t1550 P) (t1793 P)
def t1795 (P : Params) : BT := .node (o30 P) (t1791 P) (t1794 P)
def t1796 (P : Params) : BT := .node (o500 P) .nil .nil
def t1797 (P : Params) : BT := .node (o232 P) (t1346 P) (t1796 P)
def t1798 (P : Params) : BT := .node (o87 P) (t1554 P) (t1797 P)
def t1799 (P : Params) : BT := .node (o468 P) .nil .nil
def t1800 (P : Params) : BT := .node (o197 P) (t1148 P) (t1799 P)
def t1801 (P : Params) : BT := .node (o127 P) (t1800 P) (t1350 P)
def t1802 (P : Params) : BT := .node (o49 P) (t1798 P) (t1801 P)
def t1803 (P : Params) : BT := .node (o11 P) (t1795 P) (t1802 P)
def t1804 (P : Params) : BT := .node (o492 P) .nil .nil
def t1805 (P : Params) : BT := .node (o221 P) (t1153 P) (t1804 P)
def t1806 (P : Params) : BT := .node (o79 P) (t1559 P) (t1805 P)
def t1807 (P : Params) : BT := .node (o460 P) .nil .nil
def t1808 (P : Params) : BT := .node (o189 P) (t1156 P) (t1807 P)
def t1809 (P : Params) : BT := .node (o524 P) .nil .nil
def t1810 (P : Params) : BT := .node (o256 P) (t1354 P) (t1809 P)
def t1811 (P : Params) : BT := .node (o117 P) (t1808 P) (t1810 P)
def t1812 (P : Params) : BT := .node (o38 P) (t1806 P) (t1811 P)
def t1813 (P : Params) : BT := .node (o508 P) .nil .nil
def t1814 (P : Params) : BT := .node (o240 P) (t1358 P) (t1813 P)
def t1815 (P : Params) : BT := .node (o98 P) (t1563 P) (t1814 P)
def t1816 (P : Params) : BT := .node (o476 P) .nil .nil
def t1817 (P : Params) : BT := .node (o205 P) (t1160 P) (t1816 P)
def t1818 (P : Params) : BT := .node (o135 P) (t1817 P) (t1566 P)
def t1819 (P : Params) : BT := .node (o60 P) (t1815 P) (t1818 P)
def t1820 (P : Params) : BT := .node (o19 P) (t1812 P) (t1819 P)
def t1821 (P : Params) : BT := .node (o459 P) (t1803 P) (t1820 P)
def t1822 (P : Params) : BT := .node (boot_o_4 P) (t1788 P) (t1821 P)
def t1823 (P : Params) : BT := .node (o482 P) .nil .nil
def t1824 (P : Params) : BT := .node (o211 P) (t1167 P) (t1823 P)
def t1825 (P : Params) : BT := .node (o66 P) (t1573 P) (t1824 P)
def t1826 (P : Params) : BT := .node (o514 P) .nil .nil
def t1827 (P : Params) : BT := .node (o246 P) (t1365 P) (t1826 P)
def t1828 (P : Params) : BT := .node (o104 P) (t1576 P) (t1827 P)
def t1829 (P : Params) : BT := .node (o25 P) (t1825 P) (t1828 P)
def t1830 (P : Params) : BT := .node (o498 P) .nil .nil
def t1831 (P : Params) : BT := .node (o230 P) (t1369 P) (t1830 P)
def t1832 (P : Params) : BT := .node (o85 P) (t1580 P) (t1831 P)
def t1833 (P : Params) : BT := .node (o466 P) .nil .nil
def t1834 (P : Params) : BT := .node (o195 P) (t1174 P) (t1833 P)
def t1835 (P : Params) : BT := .node (o125 P) (t1834 P) (t1373 P)
def t1836 (P : Params) : BT := .node (o47 P) (t1832 P) (t1835 P)
def t1837 (P : Params) : BT := .node (o9 P) (t1829 P) (t1836 P)
def t1838 (P : Params) : BT := .node (o490 P) .nil .nil
def t1839 (P : Params) : BT := .node (o219 P) (t1179 P) (t1838 P)
def t1840 (P : Params) : BT := .node (o77 P) (t1585 P) (t1839 P)
def t1841 (P : Params) : BT := .node (o522 P) .nil .nil
def t1842 (P : Params) : BT := .node (o254 P) (t1377 P) (t1841 P)
def t1843 (P : Params) : BT := .node (o115 P) (t1588 P) (t1842 P)
def t1844 (P : Params) : BT := .node (o36 P) (t1840 P) (t1843 P)
def t1845 (P : Params) : BT := .node (o506 P) .nil .nil
def t1846 (P : Params) : BT := .node (o238 P) (t1381 P) (t1845 P)
def t1847 (P : Params) : BT := .node (o96 P) (t1592 P) (t1846 P)
def t1848 (P : Params) : BT := .node (o474 P) .nil .nil
def t1849 (P : Params) : BT := .node (o203 P) (t1186 P) (t1848 P)
def t1850 (P : Params) : BT := .node (o133 P) (t1849 P) (t1385 P)
def t1851 (P : Params) : BT := .node (o55 P) (t1847 P) (t1850 P)
def t1852 (P : Params) : BT := .node (o17 P) (t1844 P) (t1851 P)
def t1853 (P : Params) : BT := .node (boot_o_10 P) (t1837 P) (t1852 P)
def t1854 (P : Params) : BT := .node (o486 P) .nil .nil
def t1855 (P : Params) : BT := .node (o215 P) (t1192 P) (t1854 P)
def t1856 (P : Params) : BT := .node (o70 P) (t1598 P) (t1855 P)
def t1857 (P : Params) : BT := .node (o518 P) .nil .nil
def t1858 (P : Params) : BT := .node (o250 P) (t1390 P) (t1857 P)
def t1859 (P : Params) : BT := .node (o111 P) (t1601 P) (t1858 P)
def t1860 (P : Params) : BT := .node (o32 P) (t1856 P) (t1859 P)
def t1861 (P : Params) : BT := .node (o502 P) .nil .nil
def t1862 (P : Params) : BT := .node (o234 P) (t1394 P) (t1861 P)
def t1863 (P : Params) : BT := .node (o89 P) (t1605 P) (t1862 P)
def t1864 (P : Params) : BT := .node (o470 P) .nil .nil
def t1865 (P : Params) : BT := .node (o199 P) (t1199 P) (t1864 P)
def t1866 (P : Params) : BT := .node (o129 P) (t1865 P) (t1398 P)
def t1867 (P : Params) : BT := .node (o51 P) (t1863 P) (t1866 P)
def t1868 (P : Params) : BT := .node (o13 P) (t1860 P) (t1867 P)
def t1869 (P : Params) : BT := .node (o494 P) .nil .nil
def t1870 (P : Params) : BT := .node (o223 P) (t1204 P) (t1869 P)
def t1871 (P : Params) : BT := .node (o81 P) (t1610 P) (t1870 P)
def t1872 (P : Params) : BT := .node (o462 P) .nil .nil
def t1873 (P : Params) : BT := .node (o191 P) (t1207 P) (t1872 P)
def t1874 (P : Params) : BT := .node (o526 P) .nil .nil
def t1875 (P : Params) : BT := .node (o258 P) (t1402 P) (t1874 P)
def t1876 (P : Params) : BT := .node (o119 P) (t1873 P) (t1875 P)
def t1877 (P : Params) : BT := .node (o40 P) (t1871 P) (t1876 P)
def t1878 (P : Params) : BT := .node (o510 P) .nil .nil
def t1879 (P : Params) : BT := .node (o242 P) (t1406 P) (t1878 P)
def t1880 (P : Params) : BT := .node (o100 P) (t1614 P) (t1879 P)
def t1881 (P : Params) : BT := .node (o478 P) .nil .nil
def t1882 (P : Params) : BT := .node (o207 P) (t1211 P) (t1881 P)
def t1883 (P : Params) : BT := .node (o137 P) (t1882 P) (t1617 P)
def t1884 (P : Params) : BT := .node (o62 P) (t1880 P) (t1883 P)
def t1885 (P : Params) : BT := .node (o21 P) (t1877 P) (t1884 P)
def t1886 (P : Params) : BT := .node (o3 P) (t1868 P) (t1885 P)
def t1887 (P : Params) : BT := .node (boot_o_6 P) (t1853 P) (t1886 P)
def t1888 (P : Params) : BT := .node (boot_o_2 P) (t1822 P) (t1887 P)
def t1889 (P : Params) : BT := .node (boot_o_0 P) (t1755 P) (t1888 P)
def sb16 (w : World) (os : OsState) : SharedT := ⟨(t1889 w.params), 497, (Life.mk [] [] [] 0 [] [] Bool.false #[] [] 0 Bool.false Bool.false Bool.false (0 : Int) [(2000 : Int), (10 : Int), (10 : Int)] Bool.false 0 Bool.true [] [] 0 Bool.false), ⟨[]⟩, (Drawn.mk 0 0 0 0), 842, os⟩
def L15 (w : World) (os : OsState) : Option (Flow × SharedT × Code × Pos) := segRunT treeTable PySem.Challenge.pw_beatless_k06_programs_refused w 11 an 1 324 (sb15 w os) (piecesOf sts15 env cE (Pos.mk 167 0 170 12) B)
def R15 (w : World) (os : OsState) : Option (Flow × SharedT × Code × Pos) := some (.next, sb16 w os, cE, (Pos.mk 270 0 281 39))
theorem q15 : tt (Hd.L15, Hd.R15) = true := by k_qdec
theorem r15 : ∀ w, PySem.W.Fast.tw5489445385611010696 w = PySem.W.Fast.tw16360856500760956429 w := fun w => by kernel_rfl
theorem e15 (w : World) (os : OsState) : Hd.L15 w os = Hd.R15 w os :=
  (congrFun (congrFun PySem.W.Fast.te5489445385611010696 w) os).trans ((congrFun (r15 w) os).trans (congrFun (congrFun PySem.W.Fast.te16360856500760956429 w) os).symm)
def h41 (P : Params) : List Obj := o524 P :: o525 P :: o526 P :: o527 P :: o528 P :: []
def h40 (P : Params) : List Obj := o512 P :: o513 P :: o514 P :: o515 P :: o516 P :: o517 P :: o518 P :: o519 P :: o520 P :: o521 P :: o522 P :: o523 P :: h41 P
def h39 (P : Params) : List Obj := o500 P :: o501 P :: o502 P :: o503 P :: o504 P :: o505 P :: o506 P :: o507 P :: o508 P :: o509 P :: o510 P :: o511 P :: h40 P
def h38 (P : Params) : List Obj := o488 P :: o489 P :: o490 P :: o491 P :: o492 P :: o493 P :: o494 P :: o495 P :: o496 P :: o497 P :: o498 P :: o499 P :: h39 P
def h37 (P : Params) : List Obj := o476 P :: o477 P :: o478 P :: o479 P :: o480 P :: o481 P :: o482 P :: o483 P :: o484 P :: o485 P :: o486 P :: o487 P :: h38 P
def h36 (P : Params) : List Obj := o464 P :: o465 P :: o466 P :: o467 P :: o468 P :: o469 P :: o470 P :: o471 P :: o472 P :: o473 P :: o474 P :: o475 P :: h37 P
def h35 (P : Params) : List Obj := o450 P :: o451 P :: o452 P :: o453 P :: o454 P :: o455 P :: o456 P :: o457 P :: o460 P :: o461 P :: o462 P :: o463 P :: h36 P
def h34 (P : Params) : List Obj := o438 P :: o439 P :: o440 P :: o441 P :: o442 P :: o443 P :: o444 P :: o445 P :: o446 P :: o447 P :: o448 P :: o449 P :: h35 P
def h33 (P : Params) : List Obj := o426 P :: o427 P :: o428 P :: o429 P :: o430 P :: o431 P :: o432 P :: o433 P :: o434 P :: o435 P :: o436 P :: o437 P :: h34 P
def h32 (P : Params) : List Obj := o414 P :: o415 P :: o416 P :: o417 P :: o418 P :: o419 P :: o420 P :: o421 P :: o422 P :: o423 P :: o424 P :: o425 P :: h33 P
def h31 (P : Params) : List Obj := o400 P :: o401 P :: o402 P :: o403 P :: o404 P :: o405 P :: o406 P :: o409 P :: o410 P :: o411 P :: o412 P :: o413 P :: h32 P
def h30 (P : Params) : List Obj := o388 P :: o389 P :: o390 P :: o391 P :: o392 P :: o393 P :: o394 P :: o395 P :: o396 P :: o397 P :: o398 P :: o399 P :: h31 P
def h29 (P : Params) : List Obj := o376 P :: o377 P :: o378 P :: o379 P :: o380 P :: o381 P :: o382 P :: o383 P :: o384 P :: o385 P :: o386 P :: o387 P :: h30 P
def h28 (P : Params) : List Obj := o364 P :: o365 P :: o366 P :: o367 P :: o368 P :: o369 P :: o370 P :: o371 P :: o372 P :: o373 P :: o374 P :: o375 P :: h29 P
def h27 (P : Params) : List Obj := o350 P :: o351 P :: o352 P :: o353 P :: o354 P :: o355 P :: o356 P :: o357 P :: o358 P :: o359 P :: o360 P :: o363 P :: h28 P
def h26 (P : Params) : List Obj := o338 P :: o339 P :: o340 P :: o341 P :: o342 P :: o343 P :: o344 P :: o345 P :: o346 P :: o347 P :: o348 P :: o349 P :: h27 P
def h25 (P : Params) : List Obj := o326 P :: o327 P :: o328 P :: o329 P :: o330 P :: o331 P :: o332 P :: o333 P :: o334 P :: o335 P :: o336 P :: o337 P :: h26 P
def h24 (P : Params) : List Obj := o314 P :: o315 P :: o316 P :: o317 P :: o318 P :: o319 P :: o320 P :: o321 P :: o322 P :: o323 P :: o324 P :: o325 P :: h25 P
def h23 (P : Params) : List Obj := o299 P :: o300 P :: o301 P :: o302 P :: o303 P :: o304 P :: o305 P :: o306 P :: o307 P :: o308 P :: o309 P :: o310 P :: h24 P
def h22 (P : Params) : List Obj := o287 P :: o288 P :: o289 P :: o290 P :: o291 P :: o292 P :: o293 P :: o294 P :: o295 P :: o296 P :: o297 P :: o298 P :: h23 P
def h21 (P : Params) : List Obj := o275 P :: o276 P :: o277 P :: o278 P :: o279 P :: o280 P :: o281 P :: o282 P :: o283 P :: o284 P :: o285 P :: o286 P :: h22 P
def h20 (P : Params) : List Obj := o260 P :: o261 P :: o262 P :: o263 P :: o264 P :: o265 P :: o266 P :: o267 P :: o271 P :: o272 P :: o273 P :: o274 P :: h21 P
def h19 (P : Params) : List Obj := o248 P :: o249 P :: o250 P :: o251 P :: o252 P :: o253 P :: o254 P :: o255 P :: o256 P :: o257 P :: o258 P :: o259 P :: h20 P
def h18 (P : Params) : List Obj := o236 P :: o237 P :: o238 P :: o239 P :: o240 P :: o241 P :: o242 P :: o243 P :: o244 P :: o245 P :: o246 P :: o247 P :: h19 P
def h17 (P : Params) : List Obj := o221 P :: o222 P :: o223 P :: o224 P :: o228 P :: o229 P :: o230 P :: o231 P :: o232 P :: o233 P :: o234 P :: o235 P :: h18 P
def h16 (P : Params) : List Obj := o209 P :: o210 P :: o211 P :: o212 P :: o213 P :: o214 P :: o215 P :: o216 P :: o217 P :: o218 P :: o219 P :: o220 P :: h17 P
def h15 (P : Params) : List Obj := o197 P :: o198 P :: o199 P :: o200 P :: o201 P :: o202 P :: o203 P :: o204 P :: o205 P :: o206 P :: o207 P :: o208 P :: h16 P
def h14 (P : Params) : List Obj := o185 P :: o186 P :: o187 P :: o188 P :: o189 P :: o190 P :: o191 P :: o192 P :: o193 P :: o194 P :: o195 P :: o196 P :: h15 P
def h13 (P : Params) : List Obj := o170 P :: o171 P :: o172 P :: o173 P :: o174 P :: o175 P :: o176 P :: o177 P :: o178 P :: o179 P :: o180 P :: o181 P :: h14 P
def h12 (P : Params) : List Obj := o158 P :: o159 P :: o160 P :: o161 P :: o162 P :: o163 P :: o164 P :: o165 P :: o166 P :: o167 P :: o168 P :: o169 P :: h13 P
def h11 (P : Params) : List Obj := o146 P :: o147 P :: o148 P :: o149 P :: o150 P :: o151 P :: o152 P :: o153 P :: o154 P :: o155 P :: o156 P :: o157 P :: h12 P
def h10 (P : Params) : List Obj := o131 P :: o132 P :: o133 P :: o313 P :: o135 P :: o136 P :: o137 P :: o138 P :: o142 P :: o143 P :: o144 P :: o145 P :: h11 P
def h9 (P : Params) : List Obj := o117 P :: o118 P :: o119 P :: o120 P :: o121 P :: o122 P :: o125 P :: o126 P :: o127 P :: o128 P :: o129 P :: o130 P :: h10 P
def h8 (P : Params) : List Obj := o102 P :: o103 P :: o104 P :: o105 P :: o106 P :: o107 P :: o111 P :: o112 P :: o113 P :: o114 P :: o115 P :: o116 P :: h9 P
def h7 (P : Params) : List Obj := o87 P :: o88 P :: o89 P :: o90 P :: o91 P :: o92 P :: o96 P :: o97 P :: o98 P :: o99 P :: o100 P :: o101 P :: h8 P
def h6 (P : Params) : List Obj := o75 P :: o76 P :: o77 P :: o78 P :: o79 P :: o80 P :: o81 P :: o82 P :: o83 P :: o84 P :: o85 P :: o86 P :: h7 P
def h5 (P : Params) : List Obj := o60 P :: o61 P :: o62 P :: o63 P :: o64 P :: o65 P :: o66 P :: o67 P :: o68 P :: o69 P :: o70 P :: o74 P :: h6 P
def h4 (P : Params) : List Obj := o45 P :: o46 P :: o47 P :: o48 P :: o49 P :: o50 P :: o51 P :: o52 P :: o53 P :: o54 P :: o55 P :: o59 P :: h5 P
def h3 (P : Params) : List Obj := o30 P :: o31 P :: o32 P :: o33 P :: o34 P :: o35 P :: o36 P :: o37 P :: o38 P :: o39 P :: o40 P :: o44 P :: h4 P
def h2 (P : Params) : List Obj := o15 P :: o16 P :: o17 P :: o18 P :: o19 P :: o20 P :: o21 P :: o110 P :: o23 P :: o24 P :: o25 P :: o29 P :: h3 P
def h1 (P : Params) : List Obj := o459 P :: o2 P :: o3 P :: o6 P :: o7 P :: o8 P :: o9 P :: o10 P :: o11 P :: o12 P :: o13 P :: o14 P :: h2 P
def h0 (P : Params) : List Obj := boot_o_0 P :: boot_o_1 P :: boot_o_2 P :: o458 P :: boot_o_4 P :: boot_o_5 P :: boot_o_6 P :: boot_o_7 P :: boot_o_8 P :: boot_o_9 P :: boot_o_10 P :: o0 P :: h1 P
def H1 (P : Params) : Heap := ⟨⟨h0 P⟩, (Life.mk [] [] [] 0 [] [] Bool.false #[] [] 0 Bool.false Bool.false Bool.false (0 : Int) [(2000 : Int), (10 : Int), (10 : Int)] Bool.false 0 Bool.true [] [] 0 Bool.false)⟩
def sf (w : World) (os : OsState) : Shared := ⟨H1 w.params, ⟨[]⟩, (Drawn.mk 0 0 0 0), 842, os⟩
def Lf (w : World) (os : OsState) : Option Shared := topRun treeTable PySem.Challenge.pw_beatless_k06_programs_refused w 11 an 2 (sb16 w os).abs ⟨doneF .next, cE, (Pos.mk 270 0 281 39), B⟩
def Rf (w : World) (os : OsState) : Option Shared := some (sf w os)
theorem qf : tt (Hd.Lf, Hd.Rf) = true := by k_qdec
theorem rf : ∀ w, PySem.W.Fast.tw2640074843757178226 w = PySem.W.Fast.tw15533242664859900563 w := fun w => by kernel_rfl
theorem ef (w : World) (os : OsState) : Hd.Lf w os = Hd.Rf w os :=
  (congrFun (congrFun PySem.W.Fast.te2640074843757178226 w) os).trans ((congrFun (rf w) os).trans (congrFun (congrFun PySem.W.Fast.te15533242664859900563 w) os).symm)
theorem cut : bE = sts0 ++ (sts1 ++ (sts2 ++ (sts3 ++ (sts4 ++ (sts5 ++ (sts6 ++ (sts7 ++ (sts8 ++ (sts9 ++ (sts10 ++ (sts11 ++ (sts12 ++ (sts13 ++ (sts14 ++ (sts15 ++ ([])))))))))))))))) := by kernel_rfl
theorem run (w : World) (os : OsState) : topRun treeTable PySem.Challenge.pw_beatless_k06_programs_refused w 11 an (12 + (1 + (225 + (214 + (214 + (214 + (246 + (214 + (223 + (191 + (340 + (340 + (346 + (342 + (393 + (255 + (373 + (324 + 2)))))))))))))))))) (s0 w os) (topStub PySem.Challenge.pw_beatless_k06_programs_refused) = some (sf w os) := by
  refine go_top (ea w os) (piece_block (q := qE) (env := env) (b := bE) (segRun_of (eb w os)) ?_)
  rw [show restOf bE env cE (Pos.mk 0 0 0 0) [topFrame qE] = restOf _ env cE _ [topFrame qE] from congrArg (fun l => restOf l env cE (Pos.mk 0 0 0 0) [topFrame qE]) cut]
  refine piece_app (segRun_of (e0 w os)) ?_
  refine piece_app (segRun_of (e1 w os)) ?_
  refine piece_app (segRun_of (e2 w os)) ?_
  refine piece_app (segRun_of (e3 w os)) ?_
  refine piece_app (segRun_of (e4 w os)) ?_
  refine piece_app (segRun_of (e5 w os)) ?_
  refine piece_app (segRun_of (e6 w os)) ?_
  refine piece_app (segRun_of (e7 w os)) ?_
  refine piece_app (segRun_of (e8 w os)) ?_
  refine piece_app (segRun_of (e9 w os)) ?_
  refine piece_app (segRun_of (e10 w os)) ?_
  refine piece_app (segRun_of (e11 w os)) ?_
  refine piece_app (segRun_of (e12 w os)) ?_
  refine piece_app (segRun_of (e13 w os)) ?_
  refine piece_app (segRun_of (e14 w os)) ?_
  refine piece_app (segRun_of (e15 w os)) ?_
  exact ef w os
def M : Nat := 12 + (1 + (225 + (214 + (214 + (214 + (246 + (214 + (223 + (191 + (340 + (340 + (346 + (342 + (393 + (255 + (373 + (324 + 2)))))))))))))))))
abbrev rW : RowW := (PySem.Challenge.rw_beatless_k06_programs_refused.row).toRowW
def Q : Program := { PySem.Challenge.pw_beatless_k06_programs_refused with main := { PySem.Challenge.pw_beatless_k06_programs_refused.main with body := [S 0, S 2, S 3, S 4, S 5, S 6, S 7, S 8, S 10, S 11, S 12, S 13, S 14, S 15, S 17, S 19, S 20, S 21, S 22, S 23, S 24, S 25, S 26, S 27, S 28, S 29, S 30, S 31, S 33, S 34, S 35, S 36, S 37, S 38, S 39, S 40, S 41, S 42, S 43, S 44] } }
def Xt (s : Shared) : Bool := xlAt Q [] s && recOk (RowW.records rW) s
def K (P : Params) : Frag := (nat_lit 2, boot_o_2 P) :: (nat_lit 3, o458 P) :: (nat_lit 15, o6 P) :: (nat_lit 17, o8 P) :: (nat_lit 18, o9 P) :: (nat_lit 20, o11 P) :: (nat_lit 21, o12 P) :: (nat_lit 22, o13 P) :: (nat_lit 29, o20 P) :: (nat_lit 30, o21 P) :: (nat_lit 31, o110 P) :: (nat_lit 32, o23 P) :: (nat_lit 35, o29 P) :: (nat_lit 42, o36 P) :: (nat_lit 43, o37 P) :: (nat_lit 44, o38 P) :: (nat_lit 47, o44 P) :: (nat_lit 54, o51 P) :: (nat_lit 55, o52 P) :: (nat_lit 56, o53 P) :: (nat_lit 59, o59 P) :: (nat_lit 66, o66 P) :: (nat_lit 67, o67 P) :: (nat_lit 68, o68 P) :: (nat_lit 71, o74 P) :: (nat_lit 78, o81 P) :: (nat_lit 80, o83 P) :: (nat_lit 81, o84 P) :: (nat_lit 83, o86 P) :: (nat_lit 84, o87 P) :: (nat_lit 85, o88 P) :: (nat_lit 86, o89 P) :: (nat_lit 87, o90 P) :: (nat_lit 90, o96 P) :: (nat_lit 97, o103 P) :: (nat_lit 98, o104 P) :: (nat_lit 99, o105 P) :: (nat_lit 102, o111 P) :: (nat_lit 109, o118 P) :: (nat_lit 110, o119 P) :: (nat_lit 111, o120 P) :: (nat_lit 121, o132 P) :: (nat_lit 122, o133 P) :: (nat_lit 123, o313 P) :: (nat_lit 124, o135 P) :: (nat_lit 125, o136 P) :: (nat_lit 128, o142 P) :: (nat_lit 135, o149 P) :: (nat_lit 137, o151 P) :: (nat_lit 138, o152 P) :: (nat_lit 140, o154 P) :: (nat_lit 141, o155 P) :: (nat_lit 142, o156 P) :: (nat_lit 144, o158 P) :: (nat_lit 145, o159 P) :: (nat_lit 147, o161 P) :: (nat_lit 148, o162 P) :: (nat_lit 149, o163 P) :: (nat_lit 151, o165 P) :: (nat_lit 152, o166 P) :: (nat_lit 154, o168 P) :: (nat_lit 155, o169 P) :: (nat_lit 156, o170 P) :: (nat_lit 158, o172 P) :: (nat_lit 159, o173 P) :: (nat_lit 161, o175 P) :: (nat_lit 162, o176 P) :: (nat_lit 163, o177 P) :: (nat_lit 164, o178 P) :: (nat_lit 165, o179 P) :: (nat_lit 168, o185 P) :: (nat_lit 175, o192 P) :: (nat_lit 177, o194 P) :: (nat_lit 178, o195 P) :: (nat_lit 180, o197 P) :: (nat_lit 181, o198 P) :: (nat_lit 182, o199 P) :: (nat_lit 184, o201 P) :: (nat_lit 185, o202 P) :: (nat_lit 187, o204 P) :: (nat_lit 188, o205 P) :: (nat_lit 189, o206 P) :: (nat_lit 191, o208 P) :: (nat_lit 192, o209 P) :: (nat_lit 194, o211 P) :: (nat_lit 195, o212 P) :: (nat_lit 196, o213 P) :: (nat_lit 198, o215 P) :: (nat_lit 199, o216 P) :: (nat_lit 201, o218 P) :: (nat_lit 202, o219 P) :: (nat_lit 203, o220 P) :: (nat_lit 204, o221 P) :: (nat_lit 205, o222 P) :: (nat_lit 208, o228 P) :: (nat_lit 215, o235 P) :: (nat_lit 217, o237 P) :: (nat_lit 218, o238 P) :: (nat_lit 220, o240 P) :: (nat_lit 221, o241 P) :: (nat_lit 222, o242 P) :: (nat_lit 224, o244 P) :: (nat_lit 225, o245 P) :: (nat_lit 227, o247 P) :: (nat_lit 228, o248 P) :: (nat_lit 229, o249 P) :: (nat_lit 231, o251 P) :: (nat_lit 232, o252 P) :: (nat_lit 234, o254 P) :: (nat_lit 235, o255 P) :: (nat_lit 236, o256 P) :: (nat_lit 238, o258 P) :: (nat_lit 239, o259 P) :: (nat_lit 241, o261 P) :: (nat_lit 242, o262 P) :: (nat_lit 243, o263 P) :: (nat_lit 244, o264 P) :: (nat_lit 245, o265 P) :: (nat_lit 248, o271 P) :: (nat_lit 255, o278 P) :: (nat_lit 257, o280 P) :: (nat_lit 258, o281 P) :: (nat_lit 260, o283 P) :: (nat_lit 261, o284 P) :: (nat_lit 262, o285 P) :: (nat_lit 264, o287 P) :: (nat_lit 265, o288 P) :: (nat_lit 267, o290 P) :: (nat_lit 268, o291 P) :: (nat_lit 269, o292 P) :: (nat_lit 271, o294 P) :: (nat_lit 272, o295 P) :: (nat_lit 274, o297 P) :: (nat_lit 275, o298 P) :: (nat_lit 276, o299 P) :: (nat_lit 278, o301 P) :: (nat_lit 279, o302 P) :: (nat_lit 281, o304 P) :: (nat_lit 282, o305 P) :: (nat_lit 283, o306 P) :: (nat_lit 284, o307 P) :: (nat_lit 285, o308 P) :: (nat_lit 288, o314 P) :: (nat_lit 295, o321 P) :: (nat_lit 297, o323 P) :: (nat_lit 298, o324 P) :: (nat_lit 300, o326 P) :: (nat_lit 301, o327 P) :: (nat_lit 302, o328 P) :: (nat_lit 304, o330 P) :: (nat_lit 305, o331 P) :: (nat_lit 307, o333 P) :: (nat_lit 308, o334 P) :: (nat_lit 309, o335 P) :: (nat_lit 311, o337 P) :: (nat_lit 312, o338 P) :: (nat_lit 314, o340 P) :: (nat_lit 315, o341 P) :: (nat_lit 316, o342 P) :: (nat_lit 318, o344 P) :: (nat_lit 319, o345 P) :: (nat_lit 321, o347 P) :: (nat_lit 322, o348 P) :: (nat_lit 323, o349 P) :: (nat_lit 324, o350 P) :: (nat_lit 325, o351 P) :: (nat_lit 328, o354 P) :: (nat_lit 330, o356 P) :: (nat_lit 331, o357 P) :: (nat_lit 333, o359 P) :: (nat_lit 334, o360 P) :: (nat_lit 335, o363 P) :: (nat_lit 336, o364 P) :: (nat_lit 337, o365 P) :: (nat_lit 338, o366 P) :: (nat_lit 339, o367 P) :: (nat_lit 341, o369 P) :: (nat_lit 342, o370 P) :: (nat_lit 344, o372 P) :: (nat_lit 345, o373 P) :: (nat_lit 346, o374 P) :: (nat_lit 348, o376 P) :: (nat_lit 349, o377 P) :: (nat_lit 351, o379 P) :: (nat_lit 352, o380 P) :: (nat_lit 353, o381 P) :: (nat_lit 355, o383 P) :: (nat_lit 356, o384 P) :: (nat_lit 358, o386 P) :: (nat_lit 359, o387 P) :: (nat_lit 360, o388 P) :: (nat_lit 362, o390 P) :: (nat_lit 363, o391 P) :: (nat_lit 365, o393 P) :: (nat_lit 366, o394 P) :: (nat_lit 367, o395 P) :: (nat_lit 369, o397 P) :: (nat_lit 370, o398 P) :: (nat_lit 372, o400 P) :: (nat_lit 373, o401 P) :: (nat_lit 374, o402 P) :: (nat_lit 377, o405 P) :: (nat_lit 378, o406 P) :: (nat_lit 386, o416 P) :: (nat_lit 388, o418 P) :: (nat_lit 389, o419 P) :: (nat_lit 391, o421 P) :: (nat_lit 392, o422 P) :: (nat_lit 393, o423 P) :: (nat_lit 395, o425 P) :: (nat_lit 396, o426 P) :: (nat_lit 398, o428 P) :: (nat_lit 399, o429 P) :: (nat_lit 400, o430 P) :: (nat_lit 402, o432 P) :: (nat_lit 403, o433 P) :: (nat_lit 405, o435 P) :: (nat_lit 406, o436 P) :: (nat_lit 407, o437 P) :: (nat_lit 409, o439 P) :: (nat_lit 410, o440 P) :: (nat_lit 412, o442 P) :: (nat_lit 413, o443 P) :: (nat_lit 414, o444 P) :: (nat_lit 415, o445 P) :: (nat_lit 416, o446 P) :: (nat_lit 417, o447 P) :: (nat_lit 418, o448 P) :: (nat_lit 421, o451 P) :: (nat_lit 423, o453 P) :: (nat_lit 424, o454 P) :: (nat_lit 426, o456 P) :: (nat_lit 427, o457 P) :: (nat_lit 428, o460 P) :: (nat_lit 430, o462 P) :: (nat_lit 431, o463 P) :: (nat_lit 433, o465 P) :: (nat_lit 434, o466 P) :: (nat_lit 435, o467 P) :: (nat_lit 438, o470 P) :: (nat_lit 439, o471 P) :: (nat_lit 440, o472 P) :: (nat_lit 442, o474 P) :: (nat_lit 443, o475 P) :: (nat_lit 445, o477 P) :: (nat_lit 446, o478 P) :: (nat_lit 447, o479 P) :: (nat_lit 449, o481 P) :: (nat_lit 450, o482 P) :: (nat_lit 452, o484 P) :: (nat_lit 453, o485 P) :: (nat_lit 454, o486 P) :: (nat_lit 457, o489 P) :: (nat_lit 458, o490 P) :: (nat_lit 459, o491 P) :: (nat_lit 461, o493 P) :: (nat_lit 462, o494 P) :: (nat_lit 464, o496 P) :: (nat_lit 465, o497 P) :: (nat_lit 473, o505 P) :: (nat_lit 476, o508 P) :: (nat_lit 477, o509 P) :: (nat_lit 478, o510 P) :: (nat_lit 480, o512 P) :: (nat_lit 481, o513 P) :: (nat_lit 483, o515 P) :: (nat_lit 484, o516 P) :: (nat_lit 485, o517 P) :: (nat_lit 487, o519 P) :: (nat_lit 488, o520 P) :: (nat_lit 490, o522 P) :: (nat_lit 491, o523 P) :: (nat_lit 492, o524 P) :: (nat_lit 495, o527 P) :: (nat_lit 496, o528 P) :: []
def as : List Addr := [2, 3, 15, 17, 18, 20, 21, 22, 29, 30, 31, 32, 35, 42, 43, 44, 47, 54, 55, 56, 59, 66, 67, 68, 71, 78, 80, 81, 83, 84, 85, 86, 87, 90, 97, 98, 99, 102, 109, 110, 111, 121, 122, 123, 124, 125, 128, 135, 137, 138, 140, 141, 142, 144, 145, 147, 148, 149, 151, 152, 154, 155, 156, 158, 159, 161, 162, 163, 164, 165, 168, 175, 177, 178, 180, 181, 182, 184, 185, 187, 188, 189, 191, 192, 194, 195, 196, 198, 199, 201, 202, 203, 204, 205, 208, 215, 217, 218, 220, 221, 222, 224, 225, 227, 228, 229, 231, 232, 234, 235, 236, 238, 239, 241, 242, 243, 244, 245, 248, 255, 257, 258, 260, 261, 262, 264, 265, 267, 268, 269, 271, 272, 274, 275, 276, 278, 279, 281, 282, 283, 284, 285, 288, 295, 297, 298, 300, 301, 302, 304, 305, 307, 308, 309, 311, 312, 314, 315, 316, 318, 319, 321, 322, 323, 324, 325, 328, 330, 331, 333, 334, 335, 336, 337, 338, 339, 341, 342, 344, 345, 346, 348, 349, 351, 352, 353, 355, 356, 358, 359, 360, 362, 363, 365, 366, 367, 369, 370, 372, 373, 374, 377, 378, 386, 388, 389, 391, 392, 393, 395, 396, 398, 399, 400, 402, 403, 405, 406, 407, 409, 410, 412, 413, 414, 415, 416, 417, 418, 421, 423, 424, 426, 427, 428, 430, 431, 433, 434, 435, 438, 439, 440, 442, 443, 445, 446, 447, 449, 450, 452, 453, 454, 457, 458, 459, 461, 462, 464, 465, 473, 476, 477, 478, 480, 481, 483, 484, 485, 487, 488, 490, 491, 492, 495, 496]
def y22 (P : Params) : List (Option Obj) := some (o513 P) :: some (o515 P) :: some (o516 P) :: some (o517 P) :: some (o519 P) :: some (o520 P) :: some (o522 P) :: some (o523 P) :: some (o524 P) :: some (o527 P) :: some (o528 P) :: []
def y21 (P : Params) : List (Option Obj) := some (o489 P) :: some (o490 P) :: some (o491 P) :: some (o493 P) :: some (o494 P) :: some (o496 P) :: some (o497 P) :: some (o505 P) :: some (o508 P) :: some (o509 P) :: some (o510 P) :: some (o512 P) :: y22 P
def y20 (P : Params) : List (Option Obj) := some (o471 P) :: some (o472 P) :: some (o474 P) :: some (o475 P) :: some (o477 P) :: some (o478 P) :: some (o479 P) :: some (o481 P) :: some (o482 P) :: some (o484 P) :: some (o485 P) :: some (o486 P) :: y21 P
def y19 (P : Params) : List (Option Obj) := some (o451 P) :: some (o453 P) :: some (o454 P) :: some (o456 P) :: some (o457 P) :: some (o460 P) :: some (o462 P) :: some (o463 P) :: some (o465 P) :: some (o466 P) :: some (o467 P) :: some (o470 P) :: y20 P
def y18 (P : Params) : List (Option Obj) := some (o435 P) :: some (o436 P) :: some (o437 P) :: some (o439 P) :: some (o440 P) :: some (o442 P) :: some (o443 P) :: some (o444 P) :: some (o445 P) :: some (o446 P) :: some (o447 P) :: some (o448 P) :: y19 P
def y17 (P : Params) : List (Option Obj) := some (o418 P) :: some (o419 P) :: some (o421 P) :: some (o422 P) :: some (o423 P) :: some (o425 P) :: some (o426 P) :: some (o428 P) :: some (o429 P) :: some (o430 P) :: some (o432 P) :: some (o433 P) :: y18 P
def y16 (P : Params) : List (Option Obj) := some (o391 P) :: some (o393 P) :: some (o394 P) :: some (o395 P) :: some (o397 P) :: some (o398 P) :: some (o400 P) :: some (o401 P) :: some (o402 P) :: some (o405 P) :: some (o406 P) :: some (o416 P) :: y17 P
def y15 (P : Params) : List (Option Obj) := some (o374 P) :: some (o376 P) :: some (o377 P) :: some (o379 P) :: some (o380 P) :: some (o381 P) :: some (o383 P) :: some (o384 P) :: some (o386 P) :: some (o387 P) :: some (o388 P) :: some (o390 P) :: y16 P
def y14 (P : Params) : List (Option Obj) := some (o357 P) :: some (o359 P) :: some (o360 P) :: some (o363 P) :: some (o364 P) :: some (o365 P) :: some (o366 P) :: some (o367 P) :: some (o369 P) :: some (o370 P) :: some (o372 P) :: some (o373 P) :: y15 P
def y13 (P : Params) : List (Option Obj) := some (o340 P) :: some (o341 P) :: some (o342 P) :: some (o344 P) :: some (o345 P) :: some (o347 P) :: some (o348 P) :: some (o349 P) :: some (o350 P) :: some (o351 P) :: some (o354 P) :: some (o356 P) :: y14 P
def y12 (P : Params) : List (Option Obj) := some (o323 P) :: some (o324 P) :: some (o326 P) :: some (o327 P) :: some (o328 P) :: some (o330 P) :: some (o331 P) :: some (o333 P) :: some (o334 P) :: some (o335 P) :: some (o337 P) :: some (o338 P) :: y13 P
def y11 (P : Params) : List (Option Obj) := some (o297 P) :: some (o298 P) :: some (o299 P) :: some (o301 P) :: some (o302 P) :: some (o304 P) :: some (o305 P) :: some (o306 P) :: some (o307 P) :: some (o308 P) :: some (o314 P) :: some (o321 P) :: y12 P
def y10 (P : Params) : List (Option Obj) := some (o280 P) :: some (o281 P) :: some (o283 P) :: some (o284 P) :: some (o285 P) :: some (o287 P) :: some (o288 P) :: some (o290 P) :: some (o291 P) :: some (o292 P) :: some (o294 P) :: some (o295 P) :: y11 P
def y9 (P : Params) : List (Option Obj) := some (o254 P) :: some (o255 P) :: some (o256 P) :: some (o258 P) :: some (o259 P) :: some (o261 P) :: some (o262 P) :: some (o263 P) :: some (o264 P) :: some (o265 P) :: some (o271 P) :: some (o278 P) :: y10 P
def y8 (P : Params) : List (Option Obj) := some (o237 P) :: some (o238 P) :: some (o240 P) :: some (o241 P) :: some (o242 P) :: some (o244 P) :: some (o245 P) :: some (o247 P) :: some (o248 P) :: some (o249 P) :: some (o251 P) :: some (o252 P) :: y9 P
def y7 (P : Params) : List (Option Obj) := some (o211 P) :: some (o212 P) :: some (o213 P) :: some (o215 P) :: some (o216 P) :: some (o218 P) :: some (o219 P) :: some (o220 P) :: some (o221 P) :: some (o222 P) :: some (o228 P) :: some (o235 P) :: y8 P
def y6 (P : Params) : List (Option Obj) := some (o194 P) :: some (o195 P) :: some (o197 P) :: some (o198 P) :: some (o199 P) :: some (o201 P) :: some (o202 P) :: some (o204 P) :: some (o205 P) :: some (o206 P) :: some (o208 P) :: some (o209 P) :: y7 P
def y5 (P : Params) : List (Option Obj) := some (o168 P) :: some (o169 P) :: some (o170 P) :: some (o172 P) :: some (o173 P) :: some (o175 P) :: some (o176 P) :: some (o177 P) :: some (o178 P) :: some (o179 P) :: some (o185 P) :: some (o192 P) :: y6 P
def y4 (P : Params) : List (Option Obj) := some (o151 P) :: some (o152 P) :: some (o154 P) :: some (o155 P) :: some (o156 P) :: some (o158 P) :: some (o159 P) :: some (o161 P) :: some (o162 P) :: some (o163 P) :: some (o165 P) :: some (o166 P) :: y5 P
def y3 (P : Params) : List (Option Obj) := some (o105 P) :: some (o111 P) :: some (o118 P) :: some (o119 P) :: some (o120 P) :: some (o132 P) :: some (o133 P) :: some (o313 P) :: some (o135 P) :: some (o136 P) :: some (o142 P) :: some (o149 P) :: y4 P
def y2 (P : Params) : List (Option Obj) := some (o74 P) :: some (o81 P) :: some (o83 P) :: some (o84 P) :: some (o86 P) :: some (o87 P) :: some (o88 P) :: some (o89 P) :: some (o90 P) :: some (o96 P) :: some (o103 P) :: some (o104 P) :: y3 P
def y1 (P : Params) : List (Option Obj) := some (o29 P) :: some (o36 P) :: some (o37 P) :: some (o38 P) :: some (o44 P) :: some (o51 P) :: some (o52 P) :: some (o53 P) :: some (o59 P) :: some (o66 P) :: some (o67 P) :: some (o68 P) :: y2 P
def y0 (P : Params) : List (Option Obj) := some (boot_o_2 P) :: some (o458 P) :: some (o6 P) :: some (o8 P) :: some (o9 P) :: some (o11 P) :: some (o12 P) :: some (o13 P) :: some (o20 P) :: some (o21 P) :: some (o110 P) :: some (o23 P) :: y1 P
theorem asK (P : Params) : as = (K P).map (·.1) := by kernel_rfl
theorem yK (P : Params) : (K P).map (fun p => some p.2) = y0 P := by kernel_rfl
def Ly (w : World) (os : OsState) : List (Option Obj) := as.map (sf w os).heap.get?
def Ry (w : World) (_ : OsState) : List (Option Obj) := y0 w.params
theorem qy : tt (Hd.Ly, Hd.Ry) = true := by k_qdec
theorem ry : ∀ w, PySem.W.Fast.tw691215026958702249 w = PySem.W.Fast.tw5434166109932796141 w := fun w => by kernel_rfl
theorem ey (w : World) (os : OsState) : Hd.Ly w os = Hd.Ry w os :=
  (congrFun (congrFun PySem.W.Fast.te691215026958702249 w) os).trans ((congrFun (ry w) os).trans (congrFun (congrFun PySem.W.Fast.te5434166109932796141 w) os).symm)
abbrev hk : Hook := kHook K as asK
abbrev mods : List Str := importedModules PySem.Challenge.pw_beatless_k06_programs_refused.main.body
def A (w : World) (os : OsState) := openSeen Q [] mods Xt true (sf w os)
def G (_ : World) (_ : OsState) := openGood Q []
def A0 (w : World) (os : OsState) := (A w os).1
def G0 (w : World) (os : OsState) := (G w os).1
theorem qA0 : tt (Hd.A0, Hd.G0) = true := by k_qdec
theorem rA0 : ∀ w, PySem.W.Fast.tw6131166808449026830 w = PySem.W.Fast.tw11727352099349840545 w := fun w => by kernel_rfl
theorem eA0 (w : World) (os : OsState) : Hd.A0 w os = Hd.G0 w os :=
  (congrFun (congrFun PySem.W.Fast.te6131166808449026830 w) os).trans ((congrFun (rA0 w) os).trans (congrFun (congrFun PySem.W.Fast.te11727352099349840545 w) os).symm)
def A1 (w : World) (os : OsState) := (A w os).2.1
def G1 (w : World) (os : OsState) := (G w os).2.1
theorem qA1 : tt (Hd.A1, Hd.G1) = true := by k_qdec
theorem rA1 : ∀ w, PySem.W.Fast.tw7581016493306269660 w = PySem.W.Fast.tw14656944741971684193 w := fun w => by kernel_rfl
theorem eA1 (w : World) (os : OsState) : Hd.A1 w os = Hd.G1 w os :=
  (congrFun (congrFun PySem.W.Fast.te7581016493306269660 w) os).trans ((congrFun (rA1 w) os).trans (congrFun (congrFun PySem.W.Fast.te14656944741971684193 w) os).symm)
def A2 (w : World) (os : OsState) := (A w os).2.2.1
def G2 (w : World) (os : OsState) := (G w os).2.2.1
theorem qA2 : tt (Hd.A2, Hd.G2) = true := by k_qdec
theorem rA2 : ∀ w, PySem.W.Fast.tw2900191123710467766 w = PySem.W.Fast.tw10880070632800087129 w := fun w => by kernel_rfl
theorem eA2 (w : World) (os : OsState) : Hd.A2 w os = Hd.G2 w os :=
  (congrFun (congrFun PySem.W.Fast.te2900191123710467766 w) os).trans ((congrFun (rA2 w) os).trans (congrFun (congrFun PySem.W.Fast.te10880070632800087129 w) os).symm)
def A3 (w : World) (os : OsState) := (A w os).2.2.2.1
def G3 (w : World) (os : OsState) := (G w os).2.2.2.1
theorem qA3 : tt (Hd.A3, Hd.G3) = true := by k_qdec
theorem rA3 : ∀ w, PySem.W.Fast.tw447134267514248570 w = PySem.W.Fast.tw4145583888436359099 w := fun w => by kernel_rfl
theorem eA3 (w : World) (os : OsState) : Hd.A3 w os = Hd.G3 w os :=
  (congrFun (congrFun PySem.W.Fast.te447134267514248570 w) os).trans ((congrFun (rA3 w) os).trans (congrFun (congrFun PySem.W.Fast.te4145583888436359099 w) os).symm)
def A4 (w : World) (os : OsState) := (A w os).2.2.2.2.1
def G4 (w : World) (os : OsState) := (G w os).2.2.2.2.1
theorem qA4 : tt (Hd.A4, Hd.G4) = true := by k_qdec
theorem rA4 : ∀ w, PySem.W.Fast.tw14409291123802741499 w = PySem.W.Fast.tw6531939937263253831 w := fun w => by kernel_rfl
theorem eA4 (w : World) (os : OsState) : Hd.A4 w os = Hd.G4 w os :=
  (congrFun (congrFun PySem.W.Fast.te14409291123802741499 w) os).trans ((congrFun (rA4 w) os).trans (congrFun (congrFun PySem.W.Fast.te6531939937263253831 w) os).symm)
def A5 (w : World) (os : OsState) := (A w os).2.2.2.2.2.1
def G5 (w : World) (os : OsState) := (G w os).2.2.2.2.2.1
theorem qA5 : tt (Hd.A5, Hd.G5) = true := by k_qdec
theorem rA5 : ∀ w, PySem.W.Fast.tw7163156141784225904 w = PySem.W.Fast.tw5989712690265804088 w := fun w => by kernel_rfl
theorem eA5 (w : World) (os : OsState) : Hd.A5 w os = Hd.G5 w os :=
  (congrFun (congrFun PySem.W.Fast.te7163156141784225904 w) os).trans ((congrFun (rA5 w) os).trans (congrFun (congrFun PySem.W.Fast.te5989712690265804088 w) os).symm)
def A6 (w : World) (os : OsState) := (A w os).2.2.2.2.2.2.1
def G6 (w : World) (os : OsState) := (G w os).2.2.2.2.2.2.1
theorem qA6 : tt (Hd.A6, Hd.G6) = true := by k_qdec
theorem rA6 : ∀ w, PySem.W.Fast.tw148487786646926683 w = PySem.W.Fast.tw12956129408465502666 w := fun w => by kernel_rfl
theorem eA6 (w : World) (os : OsState) : Hd.A6 w os = Hd.G6 w os :=
  (congrFun (congrFun PySem.W.Fast.te148487786646926683 w) os).trans ((congrFun (rA6 w) os).trans (congrFun (congrFun PySem.W.Fast.te12956129408465502666 w) os).symm)
def A7 (w : World) (os : OsState) := (A w os).2.2.2.2.2.2.2.1
def G7 (w : World) (os : OsState) := (G w os).2.2.2.2.2.2.2.1
theorem qA7 : tt (Hd.A7, Hd.G7) = true := by k_qdec
theorem rA7 : ∀ w, PySem.W.Fast.tw17782257788342479682 w = PySem.W.Fast.tw9566738594451217396 w := fun w => by kernel_rfl
theorem eA7 (w : World) (os : OsState) : Hd.A7 w os = Hd.G7 w os :=
  (congrFun (congrFun PySem.W.Fast.te17782257788342479682 w) os).trans ((congrFun (rA7 w) os).trans (congrFun (congrFun PySem.W.Fast.te9566738594451217396 w) os).symm)
def A8 (w : World) (os : OsState) := (A w os).2.2.2.2.2.2.2.2
def G8 (w : World) (os : OsState) := (G w os).2.2.2.2.2.2.2.2
theorem qA8 : tt (Hd.A8, Hd.G8) = true := by k_qdec
theorem rA8 : ∀ w, PySem.W.Fast.tw8885869309975874061 w = PySem.W.Fast.tw17952483438457428275 w := fun w => by kernel_rfl
theorem eA8 (w : World) (os : OsState) : Hd.A8 w os = Hd.G8 w os :=
  (congrFun (congrFun PySem.W.Fast.te8885869309975874061 w) os).trans ((congrFun (rA8 w) os).trans (congrFun (congrFun PySem.W.Fast.te17952483438457428275 w) os).symm)
def Ls (w : World) (os : OsState) : Bool := staticsOk mods (boot_heap w.params) (H1 w.params) && namesBound PySem.Challenge.pw_beatless_k06_programs_refused (H1 w.params) && gensDone (sf w os) && laidKept (boot_heap w.params) (H1 w.params)
def Rs (_ : World) (_ : OsState) : Bool := true
def Lz (w : World) (_ : OsState) := ((boot_heap w.params).isNs mainGlobals && (⟨[]⟩ : Array GenState).size == 0, (boot_heap w.params).objs.size, (boot_heap w.params).nsMap mainGlobals "__annotations__")
def Rz (_ : World) (_ : OsState) : Bool × Nat × Option Value := (true, 11, an)
theorem qs : tt Hd.Ls = true := by k_qdec
theorem rs : ∀ w, PySem.W.Fast.tw4959303863618478765 w = Hd.Rs w := fun w => by kernel_rfl
theorem es (w : World) (os : OsState) : Hd.Ls w os = Hd.Rs w os := (congrFun (congrFun PySem.W.Fast.te4959303863618478765 w) os).trans (congrFun (rs w) os)
theorem qz : tt Hd.Lz = true := by k_qdec
theorem rz : ∀ w, PySem.W.Fast.tw17831390912981975158 w = Hd.Rz w := fun w => by kernel_rfl
theorem ez (w : World) (os : OsState) : Hd.Lz w os = Hd.Rz w os := (congrFun (congrFun PySem.W.Fast.te17831390912981975158 w) os).trans (congrFun (rz w) os)
theorem op : opening PySem.Challenge.pw_beatless_k06_programs_refused = plainProg PySem.Challenge.pw_beatless_k06_programs_refused.main.scope.names := by kernel_rfl
theorem fe (s : Shared) : fenceModules? PySem.Challenge.pw_beatless_k06_programs_refused s = some s := by kernel_rfl
theorem left : LeftO PySem.Challenge.pw_beatless_k06_programs_refused Q [] Xt hk.obs hk.val 9002 :=
  LeftO.of_pieces (M := M) (m₀ := 11) (ann := an) (H₀ := boot_heap) (H₁ := H1) (boot_open op (by kernel_rfl) fe) (fun w => ez w (start PySem.Challenge.pw_beatless_k06_programs_refused).1.os) run (by kernel_rfl) (fun w => funext fun os => looks_pair (es w os) (looks_pair
    (Prod.ext (eA0 w os) (Prod.ext (eA1 w os) (Prod.ext (eA2 w os) (Prod.ext (eA3 w os) (Prod.ext (eA4 w os) (Prod.ext (eA5 w os) (Prod.ext (eA6 w os) (Prod.ext (eA7 w os) (eA8 w os)))))))))
    ((ey w os).trans (yK w.params).symm)))
theorem both {a b : Bool} (z : (a && b) = true) : a = true ∧ b = true := Bool.and_eq_true_iff.mp z
end Hd
end

/-! K06z -/
set_option Elab.async false
set_option linter.all false
set_option maxRecDepth 100000
set_option maxHeartbeats 4000000
namespace K04
open PySem L2
theorem txt_mk {K : PySem.W.Frag} {h : Heap} {mg : Str → Option Value} (X : K.In h) (G : h.Ns mainGlobals mg)
    {f_is_whole : Addr} {od0 an0 : Option Addr} {sl0 : Array (Option Value)} {oc0 kV0 dc0 pm0 cd0 ct0 : Value} {f_is_short_number : Addr} {od1 an1 : Option Addr} {sl1 : Array (Option Value)} {oc1 kV1 dc1 pm1 cd1 ct1 : Value} {f_is_word_of : Addr} {od2 an2 : Option Addr} {sl2 : Array (Option Value)} {oc2 kV2 dc2 pm2 cd2 ct2 : Value} {f_is_divisor : Addr} {od3 an3 : Option Addr} {sl3 : Array (Option Value)} {oc3 kV3 dc3 pm3 cd3 ct3 : Value} {f_are_sound : Addr} {od4 an4 : Option Addr} {sl4 : Array (Option Value)} {oc4 kV4 dc4 pm4 cd4 ct4 : Value} {f_is_sound : Addr} {od5 an5 : Option Addr} {sl5 : Array (Option Value)} {oc5 kV5 dc5 pm5 cd5 ct5 : Value} {f_count_words : Addr} {od6 an6 : Option Addr} {sl6 : Array (Option Value)} {oc6 kV6 dc6 pm6 cd6 ct6 : Value} {f__law_cell_at : Addr} {od7 an7 : Option Addr} {sl7 : Array (Option Value)} {oc7 kV7 dc7 pm7 cd7 ct7 : Value} {f__law_digit : Addr} {od8 an8 : Option Addr} {sl8 : Array (Option Value)} {oc8 kV8 dc8 pm8 cd8 ct8 : Value} {f__law_expr : Addr} {od9 an9 : Option Addr} {sl9 : Array (Option Value)} {oc9 kV9 dc9 pm9 cd9 ct9 : Value} {f__law_made : Addr} {od10 an10 : Option Addr} {sl10 : Array (Option Value)} {oc10 kV10 dc10 pm10 cd10 ct10 : Value} {f__law_fits : Addr} {od11 an11 : Option Addr} {sl11 : Array (Option Value)} {oc11 kV11 dc11 pm11 cd11 ct11 : Value} {f__law_size : Addr} {od12 an12 : Option Addr} {sl12 : Array (Option Value)} {oc12 kV12 dc12 pm12 cd12 ct12 : Value} {f__law_four : Addr} {od13 an13 : Option Addr} {sl13 : Array (Option Value)} {oc13 kV13 dc13 pm13 cd13 ct13 : Value} {f__law_odd : Addr} {od14 an14 : Option Addr} {sl14 : Array (Option Value)} {oc14 kV14 dc14 pm14 cd14 ct14 : Value} {f__law_within : Addr} {od15 an15 : Option Addr} {sl15 : Array (Option Value)} {oc15 kV15 dc15 pm15 cd15 ct15 : Value} {f__law_refused : Addr} {od16 an16 : Option Addr} {sl16 : Array (Option Value)} {oc16 kV16 dc16 pm16 cd16 ct16 : Value} {f_law : Addr} {od17 an17 : Option Addr} {sl17 : Array (Option Value)} {oc17 kV17 dc17 pm17 cd17 ct17 : Value} {f_Num___init__ : Addr} {od18 an18 : Option Addr} {sl18 : Array (Option Value)} {oc18 kV18 dc18 pm18 cd18 ct18 : Value} {f_Num_reckon : Addr} {od19 an19 : Option Addr} {sl19 : Array (Option Value)} {oc19 kV19 dc19 pm19 cd19 ct19 : Value} {f_Num_words : Addr} {od20 an20 : Option Addr} {sl20 : Array (Option Value)} {oc20 kV20 dc20 pm20 cd20 ct20 : Value} {f_Name___init__ : Addr} {od21 an21 : Option Addr} {sl21 : Array (Option Value)} {oc21 kV21 dc21 pm21 cd21 ct21 : Value} {f_Name_reckon : Addr} {od22 an22 : Option Addr} {sl22 : Array (Option Value)} {oc22 kV22 dc22 pm22 cd22 ct22 : Value} {f_Name_words : Addr} {od23 an23 : Option Addr} {sl23 : Array (Option Value)} {oc23 kV23 dc23 pm23 cd23 ct23 : Value} {f_Two___init__ : Addr} {od24 an24 : Option Addr} {sl24 : Array (Option Value)} {oc24 kV24 dc24 pm24 cd24 ct24 : Value} {f_Two_reckon : Addr} {od25 an25 : Option Addr} {sl25 : Array (Option Value)} {oc25 kV25 dc25 pm25 cd25 ct25 : Value} {f_Two_words : Addr} {od26 an26 : Option Addr} {sl26 : Array (Option Value)} {oc26 kV26 dc26 pm26 cd26 ct26 : Value} {f_Mod___init__ : Addr} {od27 an27 : Option Addr} {sl27 : Array (Option Value)} {oc27 kV27 dc27 pm27 cd27 ct27 : Value} {f_Mod_reckon : Addr} {od28 an28 : Option Addr} {sl28 : Array (Option Value)} {oc28 kV28 dc28 pm28 cd28 ct28 : Value} {f_Mod_words : Addr} {od29 an29 : Option Addr} {sl29 : Array (Option Value)} {oc29 kV29 dc29 pm29 cd29 ct29 : Value} {f_Less___init__ : Addr} {od30 an30 : Option Addr} {sl30 : Array (Option Value)} {oc30 kV30 dc30 pm30 cd30 ct30 : Value} {f_Less_reckon : Addr} {od31 an31 : Option Addr} {sl31 : Array (Option Value)} {oc31 kV31 dc31 pm31 cd31 ct31 : Value} {f_Less_words : Addr} {od32 an32 : Option Addr} {sl32 : Array (Option Value)} {oc32 kV32 dc32 pm32 cd32 ct32 : Value} {f_Program___init__ : Addr} {od33 an33 : Option Addr} {sl33 : Array (Option Value)} {oc33 kV33 dc33 pm33 cd33 ct33 : Value} {c_Expr : Addr} {c_Num : Addr} {c_Name : Addr} {c_Two : Addr} {c_Mod : Addr} {c_Less : Addr} {c_Program : Addr} {c_NoProgram : Addr} {c_NoWeb : Addr} {c_NoHand : Addr} {c_NoText : Addr} {c_NoWay : Addr} {c_NoRound : Addr} {c_BeatlessError : Addr} {t_START_NAMES : Addr} {od_START_NAMES : Option Addr} {n_START_NAMES : Nat} {sl_START_NAMES : Array (Option Value)} {u_START_NAMES0 u_START_NAMES1 : Tok} {t_SEND_NAMES : Addr} {od_SEND_NAMES : Option Addr} {n_SEND_NAMES : Nat} {sl_SEND_NAMES : Array (Option Value)} {u_SEND_NAMES0 u_SEND_NAMES1 u_SEND_NAMES2 u_SEND_NAMES3 u_SEND_NAMES4 : Tok} {t_RENEW_NAMES : Addr} {od_RENEW_NAMES : Option Addr} {n_RENEW_NAMES : Nat} {sl_RENEW_NAMES : Array (Option Value)} {u_RENEW_NAMES0 u_RENEW_NAMES1 u_RENEW_NAMES2 u_RENEW_NAMES3 u_RENEW_NAMES4 u_RENEW_NAMES5 u_RENEW_NAMES6 u_RENEW_NAMES7 : Tok} {t_TWO_WORDS : Addr} {od_TWO_WORDS : Option Addr} {n_TWO_WORDS : Nat} {sl_TWO_WORDS : Array (Option Value)} {u_TWO_WORDS0 u_TWO_WORDS1 u_TWO_WORDS2 u_TWO_WORDS3 : Tok} {t_MOST_WORDS : Tok} {t_MOST_DEEP : Tok}
    (z_len : PySem.W.nsIn K mainGlobals "len" = some none)
    (z_int : PySem.W.nsIn K mainGlobals "int" = some none)
    (z_min : PySem.W.nsIn K mainGlobals "min" = some none)
    (z_max : PySem.W.nsIn K mainGlobals "max" = some none)
    (z_range : PySem.W.nsIn K mainGlobals "range" = some none)
    (z_isinstance : PySem.W.nsIn K mainGlobals "isinstance" = some none)
    (z_any : PySem.W.nsIn K mainGlobals "any" = some none)
    (z_abs : PySem.W.nsIn K mainGlobals "abs" = some none)
    (z_str : PySem.W.nsIn K mainGlobals "str" = some none)
    (z_sum : PySem.W.nsIn K mainGlobals "sum" = some none)
    (z_bool : PySem.W.nsIn K mainGlobals "bool" = some none)
    (z_tuple : PySem.W.nsIn K mainGlobals "tuple" = some none)
    (z_ValueError : PySem.W.nsIn K mainGlobals "ValueError" = some none)
    (A_Expr : PySem.W.nsIn K mainGlobals "Expr" = some (some (.ref c_Expr)))
    (A_Num : PySem.W.nsIn K mainGlobals "Num" = some (some (.ref c_Num)))
    (A_Name : PySem.W.nsIn K mainGlobals "Name" = some (some (.ref c_Name)))
    (A_Two : PySem.W.nsIn K mainGlobals "Two" = some (some (.ref c_Two)))
    (A_Mod : PySem.W.nsIn K mainGlobals "Mod" = some (some (.ref c_Mod)))
    (A_Less : PySem.W.nsIn K mainGlobals "Less" = some (some (.ref c_Less)))
    (A_Program : PySem.W.nsIn K mainGlobals "Program" = some (some (.ref c_Program)))
    (a_0 : PySem.W.nsIn K mainGlobals "is_whole" = some (some (.ref f_is_whole)))
    (l_0 : K.lookup f_is_whole = some ⟨oc0, od0, .func (PySem.W.fnOf "is_whole" "is_whole" (defArgs st_is_whole) (defBody st_is_whole) (defScope st_is_whole) .none kV0 dc0 pm0 an0 cd0 ct0), sl0⟩)
    (cc_0 : PySem.W.codeIn K cd0 "is_whole" = true)
    (kk_0 : PySem.W.keepIn K (.ref f_is_whole) = true)
    (a_1 : PySem.W.nsIn K mainGlobals "is_short_number" = some (some (.ref f_is_short_number)))
    (l_1 : K.lookup f_is_short_number = some ⟨oc1, od1, .func (PySem.W.fnOf "is_short_number" "is_short_number" (defArgs st_is_short_number) (defBody st_is_short_number) (defScope st_is_short_number) .none kV1 dc1 pm1 an1 cd1 ct1), sl1⟩)
    (cc_1 : PySem.W.codeIn K cd1 "is_short_number" = true)
    (kk_1 : PySem.W.keepIn K (.ref f_is_short_number) = true)
    (a_2 : PySem.W.nsIn K mainGlobals "is_word_of" = some (some (.ref f_is_word_of)))
    (l_2 : K.lookup f_is_word_of = some ⟨oc2, od2, .func (PySem.W.fnOf "is_word_of" "is_word_of" (defArgs st_is_word_of) (defBody st_is_word_of) (defScope st_is_word_of) .none kV2 dc2 pm2 an2 cd2 ct2), sl2⟩)
    (cc_2 : PySem.W.codeIn K cd2 "is_word_of" = true)
    (kk_2 : PySem.W.keepIn K (.ref f_is_word_of) = true)
    (a_3 : PySem.W.nsIn K mainGlobals "is_divisor" = some (some (.ref f_is_divisor)))
    (l_3 : K.lookup f_is_divisor = some ⟨oc3, od3, .func (PySem.W.fnOf "is_divisor" "is_divisor" (defArgs st_is_divisor) (defBody st_is_divisor) (defScope st_is_divisor) .none kV3 dc3 pm3 an3 cd3 ct3), sl3⟩)
    (cc_3 : PySem.W.codeIn K cd3 "is_divisor" = true)
    (kk_3 : PySem.W.keepIn K (.ref f_is_divisor) = true)
    (a_4 : PySem.W.nsIn K mainGlobals "are_sound" = some (some (.ref f_are_sound)))
    (l_4 : K.lookup f_are_sound = some ⟨oc4, od4, .func (PySem.W.fnOf "are_sound" "are_sound" (defArgs st_are_sound) (defBody st_are_sound) (defScope st_are_sound) .none kV4 dc4 pm4 an4 cd4 ct4), sl4⟩)
    (cc_4 : PySem.W.codeIn K cd4 "are_sound" = true)
    (kk_4 : PySem.W.keepIn K (.ref f_are_sound) = true)
    (a_5 : PySem.W.nsIn K mainGlobals "is_sound" = some (some (.ref f_is_sound)))
    (l_5 : K.lookup f_is_sound = some ⟨oc5, od5, .func (PySem.W.fnOf "is_sound" "is_sound" (defArgs st_is_sound) (defBody st_is_sound) (defScope st_is_sound) .none kV5 dc5 pm5 an5 cd5 ct5), sl5⟩)
    (cc_5 : PySem.W.codeIn K cd5 "is_sound" = true)
    (kk_5 : PySem.W.keepIn K (.ref f_is_sound) = true)
    (a_6 : PySem.W.nsIn K mainGlobals "count_words" = some (some (.ref f_count_words)))
    (l_6 : K.lookup f_count_words = some ⟨oc6, od6, .func (PySem.W.fnOf "count_words" "count_words" (defArgs st_count_words) (defBody st_count_words) (defScope st_count_words) .none kV6 dc6 pm6 an6 cd6 ct6), sl6⟩)
    (cc_6 : PySem.W.codeIn K cd6 "count_words" = true)
    (kk_6 : PySem.W.keepIn K (.ref f_count_words) = true)
    (a_7 : PySem.W.nsIn K mainGlobals "_law_cell_at" = some (some (.ref f__law_cell_at)))
    (l_7 : K.lookup f__law_cell_at = some ⟨oc7, od7, .func (PySem.W.fnOf "_law_cell_at" "_law_cell_at" (defArgs st__law_cell_at) (defBody st__law_cell_at) (defScope st__law_cell_at) .none kV7 dc7 pm7 an7 cd7 ct7), sl7⟩)
    (cc_7 : PySem.W.codeIn K cd7 "_law_cell_at" = true)
    (kk_7 : PySem.W.keepIn K (.ref f__law_cell_at) = true)
    (a_8 : PySem.W.nsIn K mainGlobals "_law_digit" = some (some (.ref f__law_digit)))
    (l_8 : K.lookup f__law_digit = some ⟨oc8, od8, .func (PySem.W.fnOf "_law_digit" "_law_digit" (defArgs st__law_digit) (defBody st__law_digit) (defScope st__law_digit) .none kV8 dc8 pm8 an8 cd8 ct8), sl8⟩)
    (cc_8 : PySem.W.codeIn K cd8 "_law_digit" = true)
    (kk_8 : PySem.W.keepIn K (.ref f__law_digit) = true)
    (a_9 : PySem.W.nsIn K mainGlobals "_law_expr" = some (some (.ref f__law_expr)))
    (l_9 : K.lookup f__law_expr = some ⟨oc9, od9, .func (PySem.W.fnOf "_law_expr" "_law_expr" (defArgs st__law_expr) (defBody st__law_expr) (defScope st__law_expr) .none kV9 dc9 pm9 an9 cd9 ct9), sl9⟩)
    (cc_9 : PySem.W.codeIn K cd9 "_law_expr" = true)
    (kk_9 : PySem.W.keepIn K (.ref f__law_expr) = true)
    (a_10 : PySem.W.nsIn K mainGlobals "_law_made" = some (some (.ref f__law_made)))
    (l_10 : K.lookup f__law_made = some ⟨oc10, od10, .func (PySem.W.fnOf "_law_made" "_law_made" (defArgs st__law_made) (defBody st__law_made) (defScope st__law_made) .none kV10 dc10 pm10 an10 cd10 ct10), sl10⟩)
    (cc_10 : PySem.W.codeIn K cd10 "_law_made" = true)
    (kk_10 : PySem.W.keepIn K (.ref f__law_made) = true)
    (a_11 : PySem.W.nsIn K mainGlobals "_law_fits" = some (some (.ref f__law_fits)))
    (l_11 : K.lookup f__law_fits = some ⟨oc11, od11, .func (PySem.W.fnOf "_law_fits" "_law_fits" (defArgs st__law_fits) (defBody st__law_fits) (defScope st__law_fits) .none kV11 dc11 pm11 an11 cd11 ct11), sl11⟩)
    (cc_11 : PySem.W.codeIn K cd11 "_law_fits" = true)
    (kk_11 : PySem.W.keepIn K (.ref f__law_fits) = true)
    (a_12 : PySem.W.nsIn K mainGlobals "_law_size" = some (some (.ref f__law_size)))
    (l_12 : K.lookup f__law_size = some ⟨oc12, od12, .func (PySem.W.fnOf "_law_size" "_law_size" (defArgs st__law_size) (defBody st__law_size) (defScope st__law_size) .none kV12 dc12 pm12 an12 cd12 ct12), sl12⟩)
    (cc_12 : PySem.W.codeIn K cd12 "_law_size" = true)
    (kk_12 : PySem.W.keepIn K (.ref f__law_size) = true)
    (a_13 : PySem.W.nsIn K mainGlobals "_law_four" = some (some (.ref f__law_four)))
    (l_13 : K.lookup f__law_four = some ⟨oc13, od13, .func (PySem.W.fnOf "_law_four" "_law_four" (defArgs st__law_four) (defBody st__law_four) (defScope st__law_four) .none kV13 dc13 pm13 an13 cd13 ct13), sl13⟩)
    (cc_13 : PySem.W.codeIn K cd13 "_law_four" = true)
    (kk_13 : PySem.W.keepIn K (.ref f__law_four) = true)
    (a_14 : PySem.W.nsIn K mainGlobals "_law_odd" = some (some (.ref f__law_odd)))
    (l_14 : K.lookup f__law_odd = some ⟨oc14, od14, .func (PySem.W.fnOf "_law_odd" "_law_odd" (defArgs st__law_odd) (defBody st__law_odd) (defScope st__law_odd) .none kV14 dc14 pm14 an14 cd14 ct14), sl14⟩)
    (cc_14 : PySem.W.codeIn K cd14 "_law_odd" = true)
    (kk_14 : PySem.W.keepIn K (.ref f__law_odd) = true)
    (a_15 : PySem.W.nsIn K mainGlobals "_law_within" = some (some (.ref f__law_within)))
    (l_15 : K.lookup f__law_within = some ⟨oc15, od15, .func (PySem.W.fnOf "_law_within" "_law_within" (defArgs st__law_within) (defBody st__law_within) (defScope st__law_within) .none kV15 dc15 pm15 an15 cd15 ct15), sl15⟩)
    (cc_15 : PySem.W.codeIn K cd15 "_law_within" = true)
    (kk_15 : PySem.W.keepIn K (.ref f__law_within) = true)
    (a_16 : PySem.W.nsIn K mainGlobals "_law_refused" = some (some (.ref f__law_refused)))
    (l_16 : K.lookup f__law_refused = some ⟨oc16, od16, .func (PySem.W.fnOf "_law_refused" "_law_refused" (defArgs st__law_refused) (defBody st__law_refused) (defScope st__law_refused) .none kV16 dc16 pm16 an16 cd16 ct16), sl16⟩)
    (cc_16 : PySem.W.codeIn K cd16 "_law_refused" = true)
    (kk_16 : PySem.W.keepIn K (.ref f__law_refused) = true)
    (a_17 : PySem.W.nsIn K mainGlobals "law" = some (some (.ref f_law)))
    (l_17 : K.lookup f_law = some ⟨oc17, od17, .func (PySem.W.fnOf "law" "law" (defArgs st_law) (defBody st_law) (defScope st_law) .none kV17 dc17 pm17 an17 cd17 ct17), sl17⟩)
    (cc_17 : PySem.W.codeIn K cd17 "law" = true)
    (kk_17 : PySem.W.keepIn K (.ref f_law) = true)
    (a_18 : PySem.W.findIn K (.ref c_Num) "__init__" = some (some (.ref f_Num___init__)))
    (i_18 : PySem.W.isFn K (.ref f_Num___init__) = true)
    (l_18 : K.lookup f_Num___init__ = some ⟨oc18, od18, .func (PySem.W.fnOf "__init__" "Num.__init__" (defArgs st_Num___init__) (defBody st_Num___init__) (defScope st_Num___init__) .none kV18 dc18 pm18 an18 cd18 ct18), sl18⟩)
    (cc_18 : PySem.W.codeIn K cd18 "Num.__init__" = true)
    (kk_18 : PySem.W.keepIn K (.ref f_Num___init__) = true)
    (a_19 : PySem.W.findIn K (.ref c_Num) "reckon" = some (some (.ref f_Num_reckon)))
    (i_19 : PySem.W.isFn K (.ref f_Num_reckon) = true)
    (l_19 : K.lookup f_Num_reckon = some ⟨oc19, od19, .func (PySem.W.fnOf "reckon" "Num.reckon" (defArgs st_Num_reckon) (defBody st_Num_reckon) (defScope st_Num_reckon) .none kV19 dc19 pm19 an19 cd19 ct19), sl19⟩)
    (cc_19 : PySem.W.codeIn K cd19 "Num.reckon" = true)
    (kk_19 : PySem.W.keepIn K (.ref f_Num_reckon) = true)
    (a_20 : PySem.W.findIn K (.ref c_Num) "words" = some (some (.ref f_Num_words)))
    (i_20 : PySem.W.isFn K (.ref f_Num_words) = true)
    (l_20 : K.lookup f_Num_words = some ⟨oc20, od20, .func (PySem.W.fnOf "words" "Num.words" (defArgs st_Num_words) (defBody st_Num_words) (defScope st_Num_words) .none kV20 dc20 pm20 an20 cd20 ct20), sl20⟩)
    (cc_20 : PySem.W.codeIn K cd20 "Num.words" = true)
    (kk_20 : PySem.W.keepIn K (.ref f_Num_words) = true)
    (a_21 : PySem.W.findIn K (.ref c_Name) "__init__" = some (some (.ref f_Name___init__)))
    (i_21 : PySem.W.isFn K (.ref f_Name___init__) = true)
    (l_21 : K.lookup f_Name___init__ = some ⟨oc21, od21, .func (PySem.W.fnOf "__init__" "Name.__init__" (defArgs st_Name___init__) (defBody st_Name___init__) (defScope st_Name___init__) .none kV21 dc21 pm21 an21 cd21 ct21), sl21⟩)
    (cc_21 : PySem.W.codeIn K cd21 "Name.__init__" = true)
    (kk_21 : PySem.W.keepIn K (.ref f_Name___init__) = true)
    (a_22 : PySem.W.findIn K (.ref c_Name) "reckon" = some (some (.ref f_Name_reckon)))
    (i_22 : PySem.W.isFn K (.ref f_Name_reckon) = true)
    (l_22 : K.lookup f_Name_reckon = some ⟨oc22, od22, .func (PySem.W.fnOf "reckon" "Name.reckon" (defArgs st_Name_reckon) (defBody st_Name_reckon) (defScope st_Name_reckon) .none kV22 dc22 pm22 an22 cd22 ct22), sl22⟩)
    (cc_22 : PySem.W.codeIn K cd22 "Name.reckon" = true)
    (kk_22 : PySem.W.keepIn K (.ref f_Name_reckon) = true)
    (a_23 : PySem.W.findIn K (.ref c_Name) "words" = some (some (.ref f_Name_words)))
    (i_23 : PySem.W.isFn K (.ref f_Name_words) = true)
    (l_23 : K.lookup f_Name_words = some ⟨oc23, od23, .func (PySem.W.fnOf "words" "Name.words" (defArgs st_Name_words) (defBody st_Name_words) (defScope st_Name_words) .none kV23 dc23 pm23 an23 cd23 ct23), sl23⟩)
    (cc_23 : PySem.W.codeIn K cd23 "Name.words" = true)
    (kk_23 : PySem.W.keepIn K (.ref f_Name_words) = true)
    (a_24 : PySem.W.findIn K (.ref c_Two) "__init__" = some (some (.ref f_Two___init__)))
    (i_24 : PySem.W.isFn K (.ref f_Two___init__) = true)
    (l_24 : K.lookup f_Two___init__ = some ⟨oc24, od24, .func (PySem.W.fnOf "__init__" "Two.__init__" (defArgs st_Two___init__) (defBody st_Two___init__) (defScope st_Two___init__) .none kV24 dc24 pm24 an24 cd24 ct24), sl24⟩)
    (cc_24 : PySem.W.codeIn K cd24 "Two.__init__" = true)
    (kk_24 : PySem.W.keepIn K (.ref f_Two___init__) = true)
    (a_25 : PySem.W.findIn K (.ref c_Two) "reckon" = some (some (.ref f_Two_reckon)))
    (i_25 : PySem.W.isFn K (.ref f_Two_reckon) = true)
    (l_25 : K.lookup f_Two_reckon = some ⟨oc25, od25, .func (PySem.W.fnOf "reckon" "Two.reckon" (defArgs st_Two_reckon) (defBody st_Two_reckon) (defScope st_Two_reckon) .none kV25 dc25 pm25 an25 cd25 ct25), sl25⟩)
    (cc_25 : PySem.W.codeIn K cd25 "Two.reckon" = true)
    (kk_25 : PySem.W.keepIn K (.ref f_Two_reckon) = true)
    (a_26 : PySem.W.findIn K (.ref c_Two) "words" = some (some (.ref f_Two_words)))
    (i_26 : PySem.W.isFn K (.ref f_Two_words) = true)
    (l_26 : K.lookup f_Two_words = some ⟨oc26, od26, .func (PySem.W.fnOf "words" "Two.words" (defArgs st_Two_words) (defBody st_Two_words) (defScope st_Two_words) .none kV26 dc26 pm26 an26 cd26 ct26), sl26⟩)
    (cc_26 : PySem.W.codeIn K cd26 "Two.words" = true)
    (kk_26 : PySem.W.keepIn K (.ref f_Two_words) = true)
    (a_27 : PySem.W.findIn K (.ref c_Mod) "__init__" = some (some (.ref f_Mod___init__)))
    (i_27 : PySem.W.isFn K (.ref f_Mod___init__) = true)
    (l_27 : K.lookup f_Mod___init__ = some ⟨oc27, od27, .func (PySem.W.fnOf "__init__" "Mod.__init__" (defArgs st_Mod___init__) (defBody st_Mod___init__) (defScope st_Mod___init__) .none kV27 dc27 pm27 an27 cd27 ct27), sl27⟩)
    (cc_27 : PySem.W.codeIn K cd27 "Mod.__init__" = true)
    (kk_27 : PySem.W.keepIn K (.ref f_Mod___init__) = true)
    (a_28 : PySem.W.findIn K (.ref c_Mod) "reckon" = some (some (.ref f_Mod_reckon)))
    (i_28 : PySem.W.isFn K (.ref f_Mod_reckon) = true)
    (l_28 : K.lookup f_Mod_reckon = some ⟨oc28, od28, .func (PySem.W.fnOf "reckon" "Mod.reckon" (defArgs st_Mod_reckon) (defBody st_Mod_reckon) (defScope st_Mod_reckon) .none kV28 dc28 pm28 an28 cd28 ct28), sl28⟩)
    (cc_28 : PySem.W.codeIn K cd28 "Mod.reckon" = true)
    (kk_28 : PySem.W.keepIn K (.ref f_Mod_reckon) = true)
    (a_29 : PySem.W.findIn K (.ref c_Mod) "words" = some (some (.ref f_Mod_words)))
    (i_29 : PySem.W.isFn K (.ref f_Mod_words) = true)
    (l_29 : K.lookup f_Mod_words = some ⟨oc29, od29, .func (PySem.W.fnOf "words" "Mod.words" (defArgs st_Mod_words) (defBody st_Mod_words) (defScope st_Mod_words) .none kV29 dc29 pm29 an29 cd29 ct29), sl29⟩)
    (cc_29 : PySem.W.codeIn K cd29 "Mod.words" = true)
    (kk_29 : PySem.W.keepIn K (.ref f_Mod_words) = true)
    (a_30 : PySem.W.findIn K (.ref c_Less) "__init__" = some (some (.ref f_Less___init__)))
    (i_30 : PySem.W.isFn K (.ref f_Less___init__) = true)
    (l_30 : K.lookup f_Less___init__ = some ⟨oc30, od30, .func (PySem.W.fnOf "__init__" "Less.__init__" (defArgs st_Less___init__) (defBody st_Less___init__) (defScope st_Less___init__) .none kV30 dc30 pm30 an30 cd30 ct30), sl30⟩)
    (cc_30 : PySem.W.codeIn K cd30 "Less.__init__" = true)
    (kk_30 : PySem.W.keepIn K (.ref f_Less___init__) = true)
    (a_31 : PySem.W.findIn K (.ref c_Less) "reckon" = some (some (.ref f_Less_reckon)))
    (i_31 : PySem.W.isFn K (.ref f_Less_reckon) = true)
    (l_31 : K.lookup f_Less_reckon = some ⟨oc31, od31, .func (PySem.W.fnOf "reckon" "Less.reckon" (defArgs st_Less_reckon) (defBody st_Less_reckon) (defScope st_Less_reckon) .none kV31 dc31 pm31 an31 cd31 ct31), sl31⟩)
    (cc_31 : PySem.W.codeIn K cd31 "Less.reckon" = true)
    (kk_31 : PySem.W.keepIn K (.ref f_Less_reckon) = true)
    (a_32 : PySem.W.findIn K (.ref c_Less) "words" = some (some (.ref f_Less_words)))
    (i_32 : PySem.W.isFn K (.ref f_Less_words) = true)
    (l_32 : K.lookup f_Less_words = some ⟨oc32, od32, .func (PySem.W.fnOf "words" "Less.words" (defArgs st_Less_words) (defBody st_Less_words) (defScope st_Less_words) .none kV32 dc32 pm32 an32 cd32 ct32), sl32⟩)
    (cc_32 : PySem.W.codeIn K cd32 "Less.words" = true)
    (kk_32 : PySem.W.keepIn K (.ref f_Less_words) = true)
    (a_33 : PySem.W.findIn K (.ref c_Program) "__init__" = some (some (.ref f_Program___init__)))
    (i_33 : PySem.W.isFn K (.ref f_Program___init__) = true)
    (l_33 : K.lookup f_Program___init__ = some ⟨oc33, od33, .func (PySem.W.fnOf "__init__" "Program.__init__" (defArgs st_Program___init__) (defBody st_Program___init__) (defScope st_Program___init__) .none kV33 dc33 pm33 an33 cd33 ct33), sl33⟩)
    (cc_33 : PySem.W.codeIn K cd33 "Program.__init__" = true)
    (kk_33 : PySem.W.keepIn K (.ref f_Program___init__) = true)
    (pg_Num : PySem.W.plainGet K c_Num Str.empty = true)
    (hd_Num : PySem.W.hasDictIn K c_Num = true)
    (po_Num : PySem.W.plainOver K c_Num = true)
    (sa_Num : PySem.W.findIn K (.ref c_Num) "__setattr__" = some (some (.builtin "object.__setattr__")))
    (mk_Num : PySem.W.makesIn K c_Num = true)
    (kc_Num : PySem.W.keepIn K (.ref c_Num) = true)
    (ha_Num : PySem.W.findIn K (.ref c_Num) "__class__" = some (some (.builtin "object.__class__")))
    (hm_Num : PySem.W.mroIn K c_Num (.type "object") = some true)
    (na_Num_value : PySem.W.findIn K (.ref c_Num) "value" = some none)
    (pg_Name : PySem.W.plainGet K c_Name Str.empty = true)
    (hd_Name : PySem.W.hasDictIn K c_Name = true)
    (po_Name : PySem.W.plainOver K c_Name = true)
    (sa_Name : PySem.W.findIn K (.ref c_Name) "__setattr__" = some (some (.builtin "object.__setattr__")))
    (mk_Name : PySem.W.makesIn K c_Name = true)
    (kc_Name : PySem.W.keepIn K (.ref c_Name) = true)
    (ha_Name : PySem.W.findIn K (.ref c_Name) "__class__" = some (some (.builtin "object.__class__")))
    (hm_Name : PySem.W.mroIn K c_Name (.type "object") = some true)
    (na_Name_word : PySem.W.findIn K (.ref c_Name) "word" = some none)
    (pg_Two : PySem.W.plainGet K c_Two Str.empty = true)
    (hd_Two : PySem.W.hasDictIn K c_Two = true)
    (po_Two : PySem.W.plainOver K c_Two = true)
    (sa_Two : PySem.W.findIn K (.ref c_Two) "__setattr__" = some (some (.builtin "object.__setattr__")))
    (mk_Two : PySem.W.makesIn K c_Two = true)
    (kc_Two : PySem.W.keepIn K (.ref c_Two) = true)
    (ha_Two : PySem.W.findIn K (.ref c_Two) "__class__" = some (some (.builtin "object.__class__")))
    (hm_Two : PySem.W.mroIn K c_Two (.type "object") = some true)
    (na_Two_word : PySem.W.findIn K (.ref c_Two) "word" = some none)
    (na_Two_one : PySem.W.findIn K (.ref c_Two) "one" = some none)
    (na_Two_other : PySem.W.findIn K (.ref c_Two) "other" = some none)
    (pg_Mod : PySem.W.plainGet K c_Mod Str.empty = true)
    (hd_Mod : PySem.W.hasDictIn K c_Mod = true)
    (po_Mod : PySem.W.plainOver K c_Mod = true)
    (sa_Mod : PySem.W.findIn K (.ref c_Mod) "__setattr__" = some (some (.builtin "object.__setattr__")))
    (mk_Mod : PySem.W.makesIn K c_Mod = true)
    (kc_Mod : PySem.W.keepIn K (.ref c_Mod) = true)
    (ha_Mod : PySem.W.findIn K (.ref c_Mod) "__class__" = some (some (.builtin "object.__class__")))
    (hm_Mod : PySem.W.mroIn K c_Mod (.type "object") = some true)
    (na_Mod_inner : PySem.W.findIn K (.ref c_Mod) "inner" = some none)
    (na_Mod_number : PySem.W.findIn K (.ref c_Mod) "number" = some none)
    (pg_Less : PySem.W.plainGet K c_Less Str.empty = true)
    (hd_Less : PySem.W.hasDictIn K c_Less = true)
    (po_Less : PySem.W.plainOver K c_Less = true)
    (sa_Less : PySem.W.findIn K (.ref c_Less) "__setattr__" = some (some (.builtin "object.__setattr__")))
    (mk_Less : PySem.W.makesIn K c_Less = true)
    (kc_Less : PySem.W.keepIn K (.ref c_Less) = true)
    (ha_Less : PySem.W.findIn K (.ref c_Less) "__class__" = some (some (.builtin "object.__class__")))
    (hm_Less : PySem.W.mroIn K c_Less (.type "object") = some true)
    (na_Less_one : PySem.W.findIn K (.ref c_Less) "one" = some none)
    (na_Less_other : PySem.W.findIn K (.ref c_Less) "other" = some none)
    (na_Less_third : PySem.W.findIn K (.ref c_Less) "third" = some none)
    (na_Less_fourth : PySem.W.findIn K (.ref c_Less) "fourth" = some none)
    (pg_Program : PySem.W.plainGet K c_Program Str.empty = true)
    (hd_Program : PySem.W.hasDictIn K c_Program = true)
    (po_Program : PySem.W.plainOver K c_Program = true)
    (sa_Program : PySem.W.findIn K (.ref c_Program) "__setattr__" = some (some (.builtin "object.__setattr__")))
    (mk_Program : PySem.W.makesIn K c_Program = true)
    (kc_Program : PySem.W.keepIn K (.ref c_Program) = true)
    (ha_Program : PySem.W.findIn K (.ref c_Program) "__class__" = some (some (.builtin "object.__class__")))
    (hm_Program : PySem.W.mroIn K c_Program (.type "object") = some true)
    (na_Program_start : PySem.W.findIn K (.ref c_Program) "start" = some none)
    (na_Program_send : PySem.W.findIn K (.ref c_Program) "send" = some none)
    (na_Program_when : PySem.W.findIn K (.ref c_Program) "when" = some none)
    (na_Program_renew : PySem.W.findIn K (.ref c_Program) "renew" = some none)
    (pg_Expr : PySem.W.plainGet K c_Expr Str.empty = true)
    (hd_Expr : PySem.W.hasDictIn K c_Expr = true)
    (po_Expr : PySem.W.plainOver K c_Expr = true)
    (sa_Expr : PySem.W.findIn K (.ref c_Expr) "__setattr__" = some (some (.builtin "object.__setattr__")))
    (mk_Expr : PySem.W.makesIn K c_Expr = true)
    (ib_Expr : PySem.W.findIn K (.ref c_Expr) "__init__" = some (some (.builtin "object.__init__")))
    (kc_Expr : PySem.W.keepIn K (.ref c_Expr) = true)
    (ha_Expr : PySem.W.findIn K (.ref c_Expr) "__class__" = some (some (.builtin "object.__class__")))
    (hm_Expr : PySem.W.mroIn K c_Expr (.type "object") = some true)
    (hn : PySem.W.specialIn K (.builtin "object.__class__") "__get__" = some (some (.builtin "getset_descriptor.__get__")))
    (htk : PySem.W.takesIn K (.builtin "object.__class__") = some true)
    (A_NoWeb : PySem.W.nsIn K mainGlobals "NoWeb" = some (some (.ref c_NoWeb)))
    (A_NoHand : PySem.W.nsIn K mainGlobals "NoHand" = some (some (.ref c_NoHand)))
    (A_NoText : PySem.W.nsIn K mainGlobals "NoText" = some (some (.ref c_NoText)))
    (A_NoWay : PySem.W.nsIn K mainGlobals "NoWay" = some (some (.ref c_NoWay)))
    (A_NoRound : PySem.W.nsIn K mainGlobals "NoRound" = some (some (.ref c_NoRound)))
    (A_BeatlessError : PySem.W.nsIn K mainGlobals "BeatlessError" = some (some (.ref c_BeatlessError)))
    (A_NoProgram : PySem.W.nsIn K mainGlobals "NoProgram" = some (some (.ref c_NoProgram)))
    (X_NoProgram : PySem.W.excIn K c_NoProgram bmVal "ValueError.__new__" = true)
    (xga_NoProgram : PySem.W.findIn K (.ref c_NoProgram) "__getattribute__" = some (some (.builtin "BaseException.__getattribute__")))
    (xgt_NoProgram : PySem.W.findIn K (.ref c_NoProgram) "__getattr__" = some none)
    (xha_NoProgram : PySem.W.findIn K (.ref c_NoProgram) "__class__" = some (some (.builtin "object.__class__")))
    (xhm_NoProgram : PySem.W.mroIn K c_NoProgram (.type "object") = some true)
    (xhb_NoProgram : PySem.W.mroIn K c_NoProgram (.type "BaseException") = some true)
    (xhd_NoProgram : PySem.W.hasDictIn K c_NoProgram = true)
    (k_Num_Num : PySem.W.kitOne K (.ref c_Num) (.ref c_Num) = some true)
    (k_Name_Num : PySem.W.kitOne K (.ref c_Name) (.ref c_Num) = some false)
    (k_Name_Name : PySem.W.kitOne K (.ref c_Name) (.ref c_Name) = some true)
    (k_Two_Num : PySem.W.kitOne K (.ref c_Two) (.ref c_Num) = some false)
    (k_Two_Name : PySem.W.kitOne K (.ref c_Two) (.ref c_Name) = some false)
    (k_Two_Two : PySem.W.kitOne K (.ref c_Two) (.ref c_Two) = some true)
    (k_Mod_Num : PySem.W.kitOne K (.ref c_Mod) (.ref c_Num) = some false)
    (k_Mod_Name : PySem.W.kitOne K (.ref c_Mod) (.ref c_Name) = some false)
    (k_Mod_Two : PySem.W.kitOne K (.ref c_Mod) (.ref c_Two) = some false)
    (k_Mod_Mod : PySem.W.kitOne K (.ref c_Mod) (.ref c_Mod) = some true)
    (k_Less_Num : PySem.W.kitOne K (.ref c_Less) (.ref c_Num) = some false)
    (k_Less_Name : PySem.W.kitOne K (.ref c_Less) (.ref c_Name) = some false)
    (k_Less_Two : PySem.W.kitOne K (.ref c_Less) (.ref c_Two) = some false)
    (k_Less_Mod : PySem.W.kitOne K (.ref c_Less) (.ref c_Mod) = some false)
    (k_Less_Less : PySem.W.kitOne K (.ref c_Less) (.ref c_Less) = some true)
    (k_tint_tint : PySem.W.kitOne K (.type "int") (.type "int") = some true)
    (k_tint_tbool : PySem.W.kitOne K (.type "int") (.type "bool") = some false)
    (k_tstr_tstr : PySem.W.kitOne K (.type "str") (.type "str") = some true)
    (k_ttuple_ttuple : PySem.W.kitOne K (.type "tuple") (.type "tuple") = some true)
    (k_tint_ttuple : PySem.W.kitOne K (.type "int") (.type "tuple") = some false)
    (k_tstr_ttuple : PySem.W.kitOne K (.type "str") (.type "tuple") = some false)
    (k_tint_tstr : PySem.W.kitOne K (.type "int") (.type "str") = some false)
    (k_tstr_tint : PySem.W.kitOne K (.type "str") (.type "int") = some false)
    (k_tstr_tbool : PySem.W.kitOne K (.type "str") (.type "bool") = some false)
    (k_tNoneType_Num : PySem.W.kitOne K (.type "NoneType") (.ref c_Num) = some false)
    (k_tNoneType_Name : PySem.W.kitOne K (.type "NoneType") (.ref c_Name) = some false)
    (k_tNoneType_Two : PySem.W.kitOne K (.type "NoneType") (.ref c_Two) = some false)
    (k_tNoneType_Mod : PySem.W.kitOne K (.type "NoneType") (.ref c_Mod) = some false)
    (k_tNoneType_Less : PySem.W.kitOne K (.type "NoneType") (.ref c_Less) = some false)
    (k_tint_Num : PySem.W.kitOne K (.type "int") (.ref c_Num) = some false)
    (k_tint_Name : PySem.W.kitOne K (.type "int") (.ref c_Name) = some false)
    (k_tint_Two : PySem.W.kitOne K (.type "int") (.ref c_Two) = some false)
    (k_tint_Mod : PySem.W.kitOne K (.type "int") (.ref c_Mod) = some false)
    (k_tint_Less : PySem.W.kitOne K (.type "int") (.ref c_Less) = some false)
    (k_tstr_Num : PySem.W.kitOne K (.type "str") (.ref c_Num) = some false)
    (k_tstr_Name : PySem.W.kitOne K (.type "str") (.ref c_Name) = some false)
    (k_tstr_Two : PySem.W.kitOne K (.type "str") (.ref c_Two) = some false)
    (k_tstr_Mod : PySem.W.kitOne K (.type "str") (.ref c_Mod) = some false)
    (k_tstr_Less : PySem.W.kitOne K (.type "str") (.ref c_Less) = some false)
    (k_ttuple_Num : PySem.W.kitOne K (.type "tuple") (.ref c_Num) = some false)
    (k_ttuple_Name : PySem.W.kitOne K (.type "tuple") (.ref c_Name) = some false)
    (k_ttuple_Two : PySem.W.kitOne K (.type "tuple") (.ref c_Two) = some false)
    (k_ttuple_Mod : PySem.W.kitOne K (.type "tuple") (.ref c_Mod) = some false)
    (k_ttuple_Less : PySem.W.kitOne K (.type "tuple") (.ref c_Less) = some false)
    (k_tbool_Num : PySem.W.kitOne K (.type "bool") (.ref c_Num) = some false)
    (k_tbool_Name : PySem.W.kitOne K (.type "bool") (.ref c_Name) = some false)
    (k_tbool_Two : PySem.W.kitOne K (.type "bool") (.ref c_Two) = some false)
    (k_tbool_Mod : PySem.W.kitOne K (.type "bool") (.ref c_Mod) = some false)
    (k_tbool_Less : PySem.W.kitOne K (.type "bool") (.ref c_Less) = some false)
    (k_Expr_Num : PySem.W.kitOne K (.ref c_Expr) (.ref c_Num) = some false)
    (k_Expr_Name : PySem.W.kitOne K (.ref c_Expr) (.ref c_Name) = some false)
    (k_Expr_Two : PySem.W.kitOne K (.ref c_Expr) (.ref c_Two) = some false)
    (k_Expr_Mod : PySem.W.kitOne K (.ref c_Expr) (.ref c_Mod) = some false)
    (k_Expr_Less : PySem.W.kitOne K (.ref c_Expr) (.ref c_Less) = some false)
    (k_tNoneType_tint : PySem.W.kitOne K (.type "NoneType") (.type "int") = some false)
    (k_tNoneType_tbool : PySem.W.kitOne K (.type "NoneType") (.type "bool") = some false)
    (k_tNoneType_tstr : PySem.W.kitOne K (.type "NoneType") (.type "str") = some false)
    (k_ttuple_tint : PySem.W.kitOne K (.type "tuple") (.type "int") = some false)
    (k_ttuple_tbool : PySem.W.kitOne K (.type "tuple") (.type "bool") = some false)
    (k_ttuple_tstr : PySem.W.kitOne K (.type "tuple") (.type "str") = some false)
    (k_tbool_tint : PySem.W.kitOne K (.type "bool") (.type "int") = some true)
    (k_tbool_tbool : PySem.W.kitOne K (.type "bool") (.type "bool") = some true)
    (k_tbool_tstr : PySem.W.kitOne K (.type "bool") (.type "str") = some false)
    (k_Num_tint : PySem.W.kitOne K (.ref c_Num) (.type "int") = some false)
    (k_Num_tbool : PySem.W.kitOne K (.ref c_Num) (.type "bool") = some false)
    (k_Num_tstr : PySem.W.kitOne K (.ref c_Num) (.type "str") = some false)
    (k_NoProgram_NoWeb : PySem.W.kitOne K (.ref c_NoProgram) (.ref c_NoWeb) = some false)
    (k_NoProgram_NoHand : PySem.W.kitOne K (.ref c_NoProgram) (.ref c_NoHand) = some false)
    (k_NoProgram_NoText : PySem.W.kitOne K (.ref c_NoProgram) (.ref c_NoText) = some false)
    (k_NoProgram_NoWay : PySem.W.kitOne K (.ref c_NoProgram) (.ref c_NoWay) = some false)
    (k_NoProgram_NoRound : PySem.W.kitOne K (.ref c_NoProgram) (.ref c_NoRound) = some false)
    (k_NoProgram_BeatlessError : PySem.W.kitOne K (.ref c_NoProgram) (.ref c_BeatlessError) = some true)
    (k_NoProgram_tValueError : PySem.W.kitOne K (.ref c_NoProgram) (.type "ValueError") = some true)
    (G_START_NAMES : PySem.W.nsIn K mainGlobals "START_NAMES" = some (some (.ref t_START_NAMES)))
    (L_START_NAMES : K.lookup t_START_NAMES = some ⟨.type "tuple", od_START_NAMES, .seq #[.str "me" u_START_NAMES0, .str "lines" u_START_NAMES1] n_START_NAMES, sl_START_NAMES⟩)
    (G_SEND_NAMES : PySem.W.nsIn K mainGlobals "SEND_NAMES" = some (some (.ref t_SEND_NAMES)))
    (L_SEND_NAMES : K.lookup t_SEND_NAMES = some ⟨.type "tuple", od_SEND_NAMES, .seq #[.str "worth" u_SEND_NAMES0, .str "me" u_SEND_NAMES1, .str "round" u_SEND_NAMES2, .str "lines" u_SEND_NAMES3, .str "to" u_SEND_NAMES4] n_SEND_NAMES, sl_SEND_NAMES⟩)
    (G_RENEW_NAMES : PySem.W.nsIn K mainGlobals "RENEW_NAMES" = some (some (.ref t_RENEW_NAMES)))
    (L_RENEW_NAMES : K.lookup t_RENEW_NAMES = some ⟨.type "tuple", od_RENEW_NAMES, .seq #[.str "worth" u_RENEW_NAMES0, .str "me" u_RENEW_NAMES1, .str "round" u_RENEW_NAMES2, .str "lines" u_RENEW_NAMES3, .str "sum" u_RENEW_NAMES4, .str "least" u_RENEW_NAMES5, .str "most" u_RENEW_NAMES6, .str "count" u_RENEW_NAMES7] n_RENEW_NAMES, sl_RENEW_NAMES⟩)
    (G_TWO_WORDS : PySem.W.nsIn K mainGlobals "TWO_WORDS" = some (some (.ref t_TWO_WORDS)))
    (L_TWO_WORDS : K.lookup t_TWO_WORDS = some ⟨.type "tuple", od_TWO_WORDS, .seq #[.str "add" u_TWO_WORDS0, .str "sub" u_TWO_WORDS1, .str "min" u_TWO_WORDS2, .str "max" u_TWO_WORDS3] n_TWO_WORDS, sl_TWO_WORDS⟩)
    (G_MOST_WORDS : PySem.W.nsIn K mainGlobals "MOST_WORDS" = some (some (.int 60 t_MOST_WORDS)))
    (G_MOST_DEEP : PySem.W.nsIn K mainGlobals "MOST_DEEP" = some (some (.int 8 t_MOST_DEEP))) :
    ∃ a : Ad, Txt K mg a := by
  have F0 := fun_mk (st := st_is_whole) l_0 cc_0 kk_0
  have F1 := fun_mk (st := st_is_short_number) l_1 cc_1 kk_1
  have F2 := fun_mk (st := st_is_word_of) l_2 cc_2 kk_2
  have F3 := fun_mk (st := st_is_divisor) l_3 cc_3 kk_3
  have F4 := fun_mk (st := st_are_sound) l_4 cc_4 kk_4
  have F5 := fun_mk (st := st_is_sound) l_5 cc_5 kk_5
  have F6 := fun_mk (st := st_count_words) l_6 cc_6 kk_6
  have F7 := fun_mk (st := st__law_cell_at) l_7 cc_7 kk_7
  have F8 := fun_mk (st := st__law_digit) l_8 cc_8 kk_8
  have F9 := fun_mk (st := st__law_expr) l_9 cc_9 kk_9
  have F10 := fun_mk (st := st__law_made) l_10 cc_10 kk_10
  have F11 := fun_mk (st := st__law_fits) l_11 cc_11 kk_11
  have F12 := fun_mk (st := st__law_size) l_12 cc_12 kk_12
  have F13 := fun_mk (st := st__law_four) l_13 cc_13 kk_13
  have F14 := fun_mk (st := st__law_odd) l_14 cc_14 kk_14
  have F15 := fun_mk (st := st__law_within) l_15 cc_15 kk_15
  have F16 := fun_mk (st := st__law_refused) l_16 cc_16 kk_16
  have F17 := fun_mk (st := st_law) l_17 cc_17 kk_17
  have F18 := fun_mk (st := st_Num___init__) l_18 cc_18 kk_18
  have F19 := fun_mk (st := st_Num_reckon) l_19 cc_19 kk_19
  have F20 := fun_mk (st := st_Num_words) l_20 cc_20 kk_20
  have F21 := fun_mk (st := st_Name___init__) l_21 cc_21 kk_21
  have F22 := fun_mk (st := st_Name_reckon) l_22 cc_22 kk_22
  have F23 := fun_mk (st := st_Name_words) l_23 cc_23 kk_23
  have F24 := fun_mk (st := st_Two___init__) l_24 cc_24 kk_24
  have F25 := fun_mk (st := st_Two_reckon) l_25 cc_25 kk_25
  have F26 := fun_mk (st := st_Two_words) l_26 cc_26 kk_26
  have F27 := fun_mk (st := st_Mod___init__) l_27 cc_27 kk_27
  have F28 := fun_mk (st := st_Mod_reckon) l_28 cc_28 kk_28
  have F29 := fun_mk (st := st_Mod_words) l_29 cc_29 kk_29
  have F30 := fun_mk (st := st_Less___init__) l_30 cc_30 kk_30
  have F31 := fun_mk (st := st_Less_reckon) l_31 cc_31 kk_31
  have F32 := fun_mk (st := st_Less_words) l_32 cc_32 kk_32
  have F33 := fun_mk (st := st_Program___init__) l_33 cc_33 kk_33
  refine ⟨⟨f_is_whole, PySem.W.fnOf "is_whole" "is_whole" (defArgs st_is_whole) (defBody st_is_whole) (defScope st_is_whole) .none kV0 dc0 pm0 an0 cd0 ct0, f_is_short_number, PySem.W.fnOf "is_short_number" "is_short_number" (defArgs st_is_short_number) (defBody st_is_short_number) (defScope st_is_short_number) .none kV1 dc1 pm1 an1 cd1 ct1, f_is_word_of, PySem.W.fnOf "is_word_of" "is_word_of" (defArgs st_is_word_of) (defBody st_is_word_of) (defScope st_is_word_of) .none kV2 dc2 pm2 an2 cd2 ct2, f_is_divisor, PySem.W.fnOf "is_divisor" "is_divisor" (defArgs st_is_divisor) (defBody st_is_divisor) (defScope st_is_divisor) .none kV3 dc3 pm3 an3 cd3 ct3, f_are_sound, PySem.W.fnOf "are_sound" "are_sound" (defArgs st_are_sound) (defBody st_are_sound) (defScope st_are_sound) .none kV4 dc4 pm4 an4 cd4 ct4, f_is_sound, PySem.W.fnOf "is_sound" "is_sound" (defArgs st_is_sound) (defBody st_is_sound) (defScope st_is_sound) .none kV5 dc5 pm5 an5 cd5 ct5, f_count_words, PySem.W.fnOf "count_words" "count_words" (defArgs st_count_words) (defBody st_count_words) (defScope st_count_words) .none kV6 dc6 pm6 an6 cd6 ct6, f__law_cell_at, PySem.W.fnOf "_law_cell_at" "_law_cell_at" (defArgs st__law_cell_at) (defBody st__law_cell_at) (defScope st__law_cell_at) .none kV7 dc7 pm7 an7 cd7 ct7, f__law_digit, PySem.W.fnOf "_law_digit" "_law_digit" (defArgs st__law_digit) (defBody st__law_digit) (defScope st__law_digit) .none kV8 dc8 pm8 an8 cd8 ct8, f__law_expr, PySem.W.fnOf "_law_expr" "_law_expr" (defArgs st__law_expr) (defBody st__law_expr) (defScope st__law_expr) .none kV9 dc9 pm9 an9 cd9 ct9, f__law_made, PySem.W.fnOf "_law_made" "_law_made" (defArgs st__law_made) (defBody st__law_made) (defScope st__law_made) .none kV10 dc10 pm10 an10 cd10 ct10, f__law_fits, PySem.W.fnOf "_law_fits" "_law_fits" (defArgs st__law_fits) (defBody st__law_fits) (defScope st__law_fits) .none kV11 dc11 pm11 an11 cd11 ct11, f__law_size, PySem.W.fnOf "_law_size" "_law_size" (defArgs st__law_size) (defBody st__law_size) (defScope st__law_size) .none kV12 dc12 pm12 an12 cd12 ct12, f__law_four, PySem.W.fnOf "_law_four" "_law_four" (defArgs st__law_four) (defBody st__law_four) (defScope st__law_four) .none kV13 dc13 pm13 an13 cd13 ct13, f__law_odd, PySem.W.fnOf "_law_odd" "_law_odd" (defArgs st__law_odd) (defBody st__law_odd) (defScope st__law_odd) .none kV14 dc14 pm14 an14 cd14 ct14, f__law_within, PySem.W.fnOf "_law_within" "_law_within" (defArgs st__law_within) (defBody st__law_within) (defScope st__law_within) .none kV15 dc15 pm15 an15 cd15 ct15, f__law_refused, PySem.W.fnOf "_law_refused" "_law_refused" (defArgs st__law_refused) (defBody st__law_refused) (defScope st__law_refused) .none kV16 dc16 pm16 an16 cd16 ct16, f_law, PySem.W.fnOf "law" "law" (defArgs st_law) (defBody st_law) (defScope st_law) .none kV17 dc17 pm17 an17 cd17 ct17, f_Num___init__, PySem.W.fnOf "__init__" "Num.__init__" (defArgs st_Num___init__) (defBody st_Num___init__) (defScope st_Num___init__) .none kV18 dc18 pm18 an18 cd18 ct18, f_Num_reckon, PySem.W.fnOf "reckon" "Num.reckon" (defArgs st_Num_reckon) (defBody st_Num_reckon) (defScope st_Num_reckon) .none kV19 dc19 pm19 an19 cd19 ct19, f_Num_words, PySem.W.fnOf "words" "Num.words" (defArgs st_Num_words) (defBody st_Num_words) (defScope st_Num_words) .none kV20 dc20 pm20 an20 cd20 ct20, f_Name___init__, PySem.W.fnOf "__init__" "Name.__init__" (defArgs st_Name___init__) (defBody st_Name___init__) (defScope st_Name___init__) .none kV21 dc21 pm21 an21 cd21 ct21, f_Name_reckon, PySem.W.fnOf "reckon" "Name.reckon" (defArgs st_Name_reckon) (defBody st_Name_reckon) (defScope st_Name_reckon) .none kV22 dc22 pm22 an22 cd22 ct22, f_Name_words, PySem.W.fnOf "words" "Name.words" (defArgs st_Name_words) (defBody st_Name_words) (defScope st_Name_words) .none kV23 dc23 pm23 an23 cd23 ct23, f_Two___init__, PySem.W.fnOf "__init__" "Two.__init__" (defArgs st_Two___init__) (defBody st_Two___init__) (defScope st_Two___init__) .none kV24 dc24 pm24 an24 cd24 ct24, f_Two_reckon, PySem.W.fnOf "reckon" "Two.reckon" (defArgs st_Two_reckon) (defBody st_Two_reckon) (defScope st_Two_reckon) .none kV25 dc25 pm25 an25 cd25 ct25, f_Two_words, PySem.W.fnOf "words" "Two.words" (defArgs st_Two_words) (defBody st_Two_words) (defScope st_Two_words) .none kV26 dc26 pm26 an26 cd26 ct26, f_Mod___init__, PySem.W.fnOf "__init__" "Mod.__init__" (defArgs st_Mod___init__) (defBody st_Mod___init__) (defScope st_Mod___init__) .none kV27 dc27 pm27 an27 cd27 ct27, f_Mod_reckon, PySem.W.fnOf "reckon" "Mod.reckon" (defArgs st_Mod_reckon) (defBody st_Mod_reckon) (defScope st_Mod_reckon) .none kV28 dc28 pm28 an28 cd28 ct28, f_Mod_words, PySem.W.fnOf "words" "Mod.words" (defArgs st_Mod_words) (defBody st_Mod_words) (defScope st_Mod_words) .none kV29 dc29 pm29 an29 cd29 ct29, f_Less___init__, PySem.W.fnOf "__init__" "Less.__init__" (defArgs st_Less___init__) (defBody st_Less___init__) (defScope st_Less___init__) .none kV30 dc30 pm30 an30 cd30 ct30, f_Less_reckon, PySem.W.fnOf "reckon" "Less.reckon" (defArgs st_Less_reckon) (defBody st_Less_reckon) (defScope st_Less_reckon) .none kV31 dc31 pm31 an31 cd31 ct31, f_Less_words, PySem.W.fnOf "words" "Less.words" (defArgs st_Less_words) (defBody st_Less_words) (defScope st_Less_words) .none kV32 dc32 pm32 an32 cd32 ct32, f_Program___init__, PySem.W.fnOf "__init__" "Program.__init__" (defArgs st_Program___init__) (defBody st_Program___init__) (defScope st_Program___init__) .none kV33 dc33 pm33 an33 cd33 ct33, c_Expr, c_Num, c_Name, c_Two, c_Mod, c_Less, c_Program, c_NoProgram, c_NoWeb, c_NoHand, c_NoText, c_NoWay, c_NoRound, c_BeatlessError, t_START_NAMES, t_SEND_NAMES, t_RENEW_NAMES, t_TWO_WORDS, t_MOST_WORDS, t_MOST_DEEP⟩, ?_⟩
  exact ⟨PySem.W.mg_none_of X G z_len,
    PySem.W.mg_none_of X G z_int,
    PySem.W.mg_none_of X G z_min,
    PySem.W.mg_none_of X G z_max,
    PySem.W.mg_none_of X G z_range,
    PySem.W.mg_none_of X G z_isinstance,
    PySem.W.mg_none_of X G z_any,
    PySem.W.mg_none_of X G z_abs,
    PySem.W.mg_none_of X G z_str,
    PySem.W.mg_none_of X G z_sum,
    PySem.W.mg_none_of X G z_bool,
    PySem.W.mg_none_of X G z_tuple,
    PySem.W.mg_none_of X G z_ValueError,
    F0,
    F0.binds (ps := ["value"]) fun _ _ _ _ _ _ us hl => match us, hl with | [_], _ => rfl,
    PySem.W.mg_of X G a_0,
    F1,
    F1.binds (ps := ["value"]) fun _ _ _ _ _ _ us hl => match us, hl with | [_], _ => rfl,
    PySem.W.mg_of X G a_1,
    F2,
    F2.binds (ps := ["word", "words"]) fun _ _ _ _ _ _ us hl => match us, hl with | [_, _], _ => rfl,
    PySem.W.mg_of X G a_2,
    F3,
    F3.binds (ps := ["number"]) fun _ _ _ _ _ _ us hl => match us, hl with | [_], _ => rfl,
    PySem.W.mg_of X G a_3,
    F4,
    F4.binds (ps := ["parts", "names", "deep"]) fun _ _ _ _ _ _ us hl => match us, hl with | [_, _, _], _ => rfl,
    PySem.W.mg_of X G a_4,
    F5,
    F5.binds (ps := ["expr", "names", "deep"]) fun _ _ _ _ _ _ us hl => match us, hl with | [_, _, _], _ => rfl,
    PySem.W.mg_of X G a_5,
    F6,
    F6.binds (ps := ["exprs"]) fun _ _ _ _ _ _ us hl => match us, hl with | [_], _ => rfl,
    PySem.W.mg_of X G a_6,
    F7,
    F7.binds (ps := ["_law_script", "_law_k"]) fun _ _ _ _ _ _ us hl => match us, hl with | [_, _], _ => rfl,
    PySem.W.mg_of X G a_7,
    F8,
    F8.binds (ps := ["_law_state", "_law_base"]) fun _ _ _ _ _ _ us hl => match us, hl with | [_, _], _ => rfl,
    PySem.W.mg_of X G a_8,
    F9,
    F9.binds (ps := ["_law_state", "_law_names", "_law_deep"]) fun _ _ _ _ _ _ us hl => match us, hl with | [_, _, _], _ => rfl,
    PySem.W.mg_of X G a_9,
    F10,
    F10.binds (ps := ["_law_told"]) fun _ _ _ _ _ _ us hl => match us, hl with | [_], _ => rfl,
    PySem.W.mg_of X G a_10,
    F11,
    F11.binds (ps := ["_law_state", "_law_names", "_law_deep"]) fun _ _ _ _ _ _ us hl => match us, hl with | [_, _, _], _ => rfl,
    PySem.W.mg_of X G a_11,
    F12,
    F12.binds (ps := ["_law_told"]) fun _ _ _ _ _ _ us hl => match us, hl with | [_], _ => rfl,
    PySem.W.mg_of X G a_12,
    F13,
    F13.binds (ps := ["_law_state"]) fun _ _ _ _ _ _ us hl => match us, hl with | [_], _ => rfl,
    PySem.W.mg_of X G a_13,
    F14,
    F14.binds (ps := ["_law_at"]) fun _ _ _ _ _ _ us hl => match us, hl with | [_], _ => rfl,
    PySem.W.mg_of X G a_14,
    F15,
    F15.binds (ps := ["_law_odd_here", "_law_way"]) fun _ _ _ _ _ _ us hl => match us, hl with | [_, _], _ => rfl,
    PySem.W.mg_of X G a_15,
    F16,
    F16.binds (ps := ["_law_exprs"]) fun _ _ _ _ _ _ us hl => match us, hl with | [_], _ => rfl,
    PySem.W.mg_of X G a_16,
    F17,
    F17.binds (ps := ["_law_script"]) fun _ _ _ _ _ _ us hl => match us, hl with | [_], _ => rfl,
    fun s v => .of_eq rfl,
    PySem.W.mg_of X G a_17,
    F18,
    F18.binds (ps := ["self", "value"]) fun _ _ _ _ _ _ us hl => match us, hl with | [_, _], _ => rfl,
    F19,
    F19.binds (ps := ["self", "worths"]) fun _ _ _ _ _ _ us hl => match us, hl with | [_, _], _ => rfl,
    ⟨a_19, i_19, kk_19⟩,
    F20,
    F20.binds (ps := ["self"]) fun _ _ _ _ _ _ us hl => match us, hl with | [_], _ => rfl,
    ⟨a_20, i_20, kk_20⟩,
    F21,
    F21.binds (ps := ["self", "word"]) fun _ _ _ _ _ _ us hl => match us, hl with | [_, _], _ => rfl,
    F22,
    F22.binds (ps := ["self", "worths"]) fun _ _ _ _ _ _ us hl => match us, hl with | [_, _], _ => rfl,
    ⟨a_22, i_22, kk_22⟩,
    F23,
    F23.binds (ps := ["self"]) fun _ _ _ _ _ _ us hl => match us, hl with | [_], _ => rfl,
    ⟨a_23, i_23, kk_23⟩,
    F24,
    F24.binds (ps := ["self", "word", "one", "other"]) fun _ _ _ _ _ _ us hl => match us, hl with | [_, _, _, _], _ => rfl,
    F25,
    F25.binds (ps := ["self", "worths"]) fun _ _ _ _ _ _ us hl => match us, hl with | [_, _], _ => rfl,
    ⟨a_25, i_25, kk_25⟩,
    F26,
    F26.binds (ps := ["self"]) fun _ _ _ _ _ _ us hl => match us, hl with | [_], _ => rfl,
    ⟨a_26, i_26, kk_26⟩,
    F27,
    F27.binds (ps := ["self", "inner", "number"]) fun _ _ _ _ _ _ us hl => match us, hl with | [_, _, _], _ => rfl,
    F28,
    F28.binds (ps := ["self", "worths"]) fun _ _ _ _ _ _ us hl => match us, hl with | [_, _], _ => rfl,
    ⟨a_28, i_28, kk_28⟩,
    F29,
    F29.binds (ps := ["self"]) fun _ _ _ _ _ _ us hl => match us, hl with | [_], _ => rfl,
    ⟨a_29, i_29, kk_29⟩,
    F30,
    F30.binds (ps := ["self", "one", "other", "third", "fourth"]) fun _ _ _ _ _ _ us hl => match us, hl with | [_, _, _, _, _], _ => rfl,
    F31,
    F31.binds (ps := ["self", "worths"]) fun _ _ _ _ _ _ us hl => match us, hl with | [_, _], _ => rfl,
    ⟨a_31, i_31, kk_31⟩,
    F32,
    F32.binds (ps := ["self"]) fun _ _ _ _ _ _ us hl => match us, hl with | [_], _ => rfl,
    ⟨a_32, i_32, kk_32⟩,
    F33,
    F33.binds (ps := ["self", "start", "send", "when", "renew"]) fun _ _ _ _ _ _ us hl => match us, hl with | [_, _, _, _, _], _ => rfl,
    PySem.W.mg_of X G A_Expr,
    PySem.W.mg_of X G A_Num,
    ⟨pg_Num, hd_Num, po_Num, sa_Num⟩,
    ⟨mk_Num, a_18, i_18, kc_Num⟩,
    fun H p dx fs e => .ins e ⟨pg_Num, hd_Num, po_Num, sa_Num⟩ ha_Num hn htk hm_Num,
    na_Num_value,
    PySem.W.mg_of X G A_Name,
    ⟨pg_Name, hd_Name, po_Name, sa_Name⟩,
    ⟨mk_Name, a_21, i_21, kc_Name⟩,
    fun H p dx fs e => .ins e ⟨pg_Name, hd_Name, po_Name, sa_Name⟩ ha_Name hn htk hm_Name,
    na_Name_word,
    PySem.W.mg_of X G A_Two,
    ⟨pg_Two, hd_Two, po_Two, sa_Two⟩,
    ⟨mk_Two, a_24, i_24, kc_Two⟩,
    fun H p dx fs e => .ins e ⟨pg_Two, hd_Two, po_Two, sa_Two⟩ ha_Two hn htk hm_Two,
    na_Two_word,
    na_Two_one,
    na_Two_other,
    PySem.W.mg_of X G A_Mod,
    ⟨pg_Mod, hd_Mod, po_Mod, sa_Mod⟩,
    ⟨mk_Mod, a_27, i_27, kc_Mod⟩,
    fun H p dx fs e => .ins e ⟨pg_Mod, hd_Mod, po_Mod, sa_Mod⟩ ha_Mod hn htk hm_Mod,
    na_Mod_inner,
    na_Mod_number,
    PySem.W.mg_of X G A_Less,
    ⟨pg_Less, hd_Less, po_Less, sa_Less⟩,
    ⟨mk_Less, a_30, i_30, kc_Less⟩,
    fun H p dx fs e => .ins e ⟨pg_Less, hd_Less, po_Less, sa_Less⟩ ha_Less hn htk hm_Less,
    na_Less_one,
    na_Less_other,
    na_Less_third,
    na_Less_fourth,
    PySem.W.mg_of X G A_Program,
    ⟨pg_Program, hd_Program, po_Program, sa_Program⟩,
    ⟨mk_Program, a_33, i_33, kc_Program⟩,
    fun H p dx fs e => .ins e ⟨pg_Program, hd_Program, po_Program, sa_Program⟩ ha_Program hn htk hm_Program,
    na_Program_start,
    na_Program_send,
    na_Program_when,
    na_Program_renew,
    k_Num_Num,
    k_Name_Num,
    k_Name_Name,
    k_Two_Num,
    k_Two_Name,
    k_Two_Two,
    k_Mod_Num,
    k_Mod_Name,
    k_Mod_Two,
    k_Mod_Mod,
    k_Less_Num,
    k_Less_Name,
    k_Less_Two,
    k_Less_Mod,
    k_Less_Less,
    k_tint_tint,
    k_tint_tbool,
    k_tstr_tstr,
    k_ttuple_ttuple,
    k_tint_ttuple,
    k_tstr_ttuple,
    k_tint_tstr,
    k_tstr_tint,
    k_tstr_tbool,
    k_tNoneType_Num,
    k_tNoneType_Name,
    k_tNoneType_Two,
    k_tNoneType_Mod,
    k_tNoneType_Less,
    k_tint_Num,
    k_tint_Name,
    k_tint_Two,
    k_tint_Mod,
    k_tint_Less,
    k_tstr_Num,
    k_tstr_Name,
    k_tstr_Two,
    k_tstr_Mod,
    k_tstr_Less,
    k_ttuple_Num,
    k_ttuple_Name,
    k_ttuple_Two,
    k_ttuple_Mod,
    k_ttuple_Less,
    k_tbool_Num,
    k_tbool_Name,
    k_tbool_Two,
    k_tbool_Mod,
    k_tbool_Less,
    k_Expr_Num,
    k_Expr_Name,
    k_Expr_Two,
    k_Expr_Mod,
    k_Expr_Less,
    k_tNoneType_tint,
    k_tNoneType_tbool,
    k_tNoneType_tstr,
    k_ttuple_tint,
    k_ttuple_tbool,
    k_ttuple_tstr,
    k_tbool_tint,
    k_tbool_tbool,
    k_tbool_tstr,
    k_Num_tint,
    k_Num_tbool,
    k_Num_tstr,
    k_NoProgram_NoWeb,
    k_NoProgram_NoHand,
    k_NoProgram_NoText,
    k_NoProgram_NoWay,
    k_NoProgram_NoRound,
    k_NoProgram_BeatlessError,
    k_NoProgram_tValueError,
    PySem.W.mg_of X G G_START_NAMES,
    fun H => .inr ⟨_, _, _, L_START_NAMES, rfl, rfl, by show 2 ≤ sizeLine; decide, by exact .cons ⟨_, rfl⟩ (.cons ⟨_, rfl⟩ (.nil))⟩,
    PySem.W.mg_of X G G_SEND_NAMES,
    fun H => .inr ⟨_, _, _, L_SEND_NAMES, rfl, rfl, by show 5 ≤ sizeLine; decide, by exact .cons ⟨_, rfl⟩ (.cons ⟨_, rfl⟩ (.cons ⟨_, rfl⟩ (.cons ⟨_, rfl⟩ (.cons ⟨_, rfl⟩ (.nil)))))⟩,
    PySem.W.mg_of X G G_RENEW_NAMES,
    fun H => .inr ⟨_, _, _, L_RENEW_NAMES, rfl, rfl, by show 8 ≤ sizeLine; decide, by exact .cons ⟨_, rfl⟩ (.cons ⟨_, rfl⟩ (.cons ⟨_, rfl⟩ (.cons ⟨_, rfl⟩ (.cons ⟨_, rfl⟩ (.cons ⟨_, rfl⟩ (.cons ⟨_, rfl⟩ (.cons ⟨_, rfl⟩ (.nil))))))))⟩,
    PySem.W.mg_of X G G_TWO_WORDS,
    fun H => .inr ⟨_, _, _, L_TWO_WORDS, rfl, rfl, by show 4 ≤ sizeLine; decide, by exact .cons ⟨_, rfl⟩ (.cons ⟨_, rfl⟩ (.cons ⟨_, rfl⟩ (.cons ⟨_, rfl⟩ (.nil))))⟩,
    PySem.W.mg_of X G G_MOST_WORDS,
    PySem.W.mg_of X G G_MOST_DEEP,
    PySem.W.mg_of X G A_NoProgram,
    X_NoProgram,
    PySem.W.mg_of X G A_NoWeb,
    PySem.W.mg_of X G A_NoHand,
    PySem.W.mg_of X G A_NoText,
    PySem.W.mg_of X G A_NoWay,
    PySem.W.mg_of X G A_NoRound,
    PySem.W.mg_of X G A_BeatlessError,
    ⟨xga_NoProgram, xgt_NoProgram, xha_NoProgram, hn, htk, xhm_NoProgram, xhb_NoProgram, xhd_NoProgram⟩,
    mk_Expr,
    ib_Expr,
    kc_Expr,
    hm_Expr,
    fun H p dx fs e => .ins e ⟨pg_Expr, hd_Expr, po_Expr, sa_Expr⟩ ha_Expr hn htk hm_Expr⟩
end K04
open PySem PySem.W PyProof.Rows
set_option maxRecDepth 100000 in
set_option maxHeartbeats 0 in
theorem PySem.Challenge.cw_beatless_k06_programs_refused_holds : PySem.Challenge.rw_beatless_k06_programs_refused.Holds := by
  w_on; o_law
  refine holds_open (XP := XL Hd.Q []) (YP := (kHook Hd.K Hd.as Hd.asK).says) Hd.left Hd.hk.of Hd.hk.keeps
    (fun s z => xl_of s (Hd.both z).1) XL.keeps (by rfl) (by rfl) (by rfl)
    (fun s z => recFacts_of (Hd.both z).2) (by rfl) (by assumption) (by decide +kernel)
    ⟨rfl, rfl, rfl, rfl, rfl, by decide +kernel⟩ ?hw ?hc
  case hw => w_witness2
  k_fill
  refine L2.walk_ofK (l := PySem.Challenge.rw_beatless_k06_programs_refused) (n := 63) (k := 27) (x := "_law_script") (CX := L2.CX0) (sp := K04.spLaw) rfl (by decide) rfl ⟨rfl, by decide, by decide⟩ (fun w h Y => PySem.W.kIn_of Y) ?F ?S ?C
  case F =>
    intro w mg fa h KX G hmg
    have T : ∃ a, K04.Txt (L2.KOf KX) mg a := by
      dsimp only [L2.KOf]
      refine' K04.txt_mk KX G ?z_len ?z_int ?z_min ?z_max ?z_range ?z_isinstance ?z_any ?z_abs ?z_str ?z_sum ?z_bool ?z_tuple ?z_ValueError ?A_Expr ?A_Num ?A_Name ?A_Two ?A_Mod ?A_Less ?A_Program ?a_0 ?l_0 ?cc_0 ?kk_0 ?a_1 ?l_1 ?cc_1 ?kk_1 ?a_2 ?l_2 ?cc_2 ?kk_2 ?a_3 ?l_3 ?cc_3 ?kk_3 ?a_4 ?l_4 ?cc_4 ?kk_4 ?a_5 ?l_5 ?cc_5 ?kk_5 ?a_6 ?l_6 ?cc_6 ?kk_6 ?a_7 ?l_7 ?cc_7 ?kk_7 ?a_8 ?l_8 ?cc_8 ?kk_8 ?a_9 ?l_9 ?cc_9 ?kk_9 ?a_10 ?l_10 ?cc_10 ?kk_10 ?a_11 ?l_11 ?cc_11 ?kk_11 ?a_12 ?l_12 ?cc_12 ?kk_12 ?a_13 ?l_13 ?cc_13 ?kk_13 ?a_14 ?l_14 ?cc_14 ?kk_14 ?a_15 ?l_15 ?cc_15 ?kk_15 ?a_16 ?l_16 ?cc_16 ?kk_16 ?a_17 ?l_17 ?cc_17 ?kk_17 ?a_18 ?i_18 ?l_18 ?cc_18 ?kk_18 ?a_19 ?i_19 ?l_19 ?cc_19 ?kk_19 ?a_20 ?i_20 ?l_20 ?cc_20 ?kk_20 ?a_21 ?i_21 ?l_21 ?cc_21 ?kk_21 ?a_22 ?i_22 ?l_22 ?cc_22 ?kk_22 ?a_23 ?i_23 ?l_23 ?cc_23 ?kk_23 ?a_24 ?i_24 ?l_24 ?cc_24 ?kk_24 ?a_25 ?i_25 ?l_25 ?cc_25 ?kk_25 ?a_26 ?i_26 ?l_26 ?cc_26 ?kk_26 ?a_27 ?i_27 ?l_27 ?cc_27 ?kk_27 ?a_28 ?i_28 ?l_28 ?cc_28 ?kk_28 ?a_29 ?i_29 ?l_29 ?cc_29 ?kk_29 ?a_30 ?i_30 ?l_30 ?cc_30 ?kk_30 ?a_31 ?i_31 ?l_31 ?cc_31 ?kk_31 ?a_32 ?i_32 ?l_32 ?cc_32 ?kk_32 ?a_33 ?i_33 ?l_33 ?cc_33 ?kk_33 ?pg_Num ?hd_Num ?po_Num ?sa_Num ?mk_Num ?kc_Num ?ha_Num ?hm_Num ?na_Num_value ?pg_Name ?hd_Name ?po_Name ?sa_Name ?mk_Name ?kc_Name ?ha_Name ?hm_Name ?na_Name_word ?pg_Two ?hd_Two ?po_Two ?sa_Two ?mk_Two ?kc_Two ?ha_Two ?hm_Two ?na_Two_word ?na_Two_one ?na_Two_other ?pg_Mod ?hd_Mod ?po_Mod ?sa_Mod ?mk_Mod ?kc_Mod ?ha_Mod ?hm_Mod ?na_Mod_inner ?na_Mod_number ?pg_Less ?hd_Less ?po_Less ?sa_Less ?mk_Less ?kc_Less ?ha_Less ?hm_Less ?na_Less_one ?na_Less_other ?na_Less_third ?na_Less_fourth ?pg_Program ?hd_Program ?po_Program ?sa_Program ?mk_Program ?kc_Program ?ha_Program ?hm_Program ?na_Program_start ?na_Program_send ?na_Program_when ?na_Program_renew ?pg_Expr ?hd_Expr ?po_Expr ?sa_Expr ?mk_Expr ?ib_Expr ?kc_Expr ?ha_Expr ?hm_Expr ?hn ?htk ?A_NoWeb ?A_NoHand ?A_NoText ?A_NoWay ?A_NoRound ?A_BeatlessError ?A_NoProgram ?X_NoProgram ?xga_NoProgram ?xgt_NoProgram ?xha_NoProgram ?xhm_NoProgram ?xhb_NoProgram ?xhd_NoProgram ?k_Num_Num ?k_Name_Num ?k_Name_Name ?k_Two_Num ?k_Two_Name ?k_Two_Two ?k_Mod_Num ?k_Mod_Name ?k_Mod_Two ?k_Mod_Mod ?k_Less_Num ?k_Less_Name ?k_Less_Two ?k_Less_Mod ?k_Less_Less ?k_tint_tint ?k_tint_tbool ?k_tstr_tstr ?k_ttuple_ttuple ?k_tint_ttuple ?k_tstr_ttuple ?k_tint_tstr ?k_tstr_tint ?k_tstr_tbool ?k_tNoneType_Num ?k_tNoneType_Name ?k_tNoneType_Two ?k_tNoneType_Mod ?k_tNoneType_Less ?k_tint_Num ?k_tint_Name ?k_tint_Two ?k_tint_Mod ?k_tint_Less ?k_tstr_Num ?k_tstr_Name ?k_tstr_Two ?k_tstr_Mod ?k_tstr_Less ?k_ttuple_Num ?k_ttuple_Name ?k_ttuple_Two ?k_ttuple_Mod ?k_ttuple_Less ?k_tbool_Num ?k_tbool_Name ?k_tbool_Two ?k_tbool_Mod ?k_tbool_Less ?k_Expr_Num ?k_Expr_Name ?k_Expr_Two ?k_Expr_Mod ?k_Expr_Less ?k_tNoneType_tint ?k_tNoneType_tbool ?k_tNoneType_tstr ?k_ttuple_tint ?k_ttuple_tbool ?k_ttuple_tstr ?k_tbool_tint ?k_tbool_tbool ?k_tbool_tstr ?k_Num_tint ?k_Num_tbool ?k_Num_tstr ?k_NoProgram_NoWeb ?k_NoProgram_NoHand ?k_NoProgram_NoText ?k_NoProgram_NoWay ?k_NoProgram_NoRound ?k_NoProgram_BeatlessError ?k_NoProgram_tValueError ?G_START_NAMES ?L_START_NAMES ?G_SEND_NAMES ?L_SEND_NAMES ?G_RENEW_NAMES ?L_RENEW_NAMES ?G_TWO_WORDS ?L_TWO_WORDS ?G_MOST_WORDS ?G_MOST_DEEP
      (case z_len => k_is)
      (case z_int => k_is)
      (case z_min => k_is)
      (case z_max => k_is)
      (case z_range => k_is)
      (case z_isinstance => k_is)
      (case z_any => k_is)
      (case z_abs => k_is)
      (case z_str => k_is)
      (case z_sum => k_is)
      (case z_bool => k_is)
      (case z_tuple => k_is)
      (case z_ValueError => k_is)
      (case A_Expr => k_is)
      (case A_Num => k_is)
      (case A_Name => k_is)
      (case A_Two => k_is)
      (case A_Mod => k_is)
      (case A_Less => k_is)
      (case A_Program => k_is)
      (case a_0 => k_is)
      (case l_0 => k_is)
      (case cc_0 => k_is)
      (case kk_0 => k_is)
      (case a_1 => k_is)
      (case l_1 => k_is)
      (case cc_1 => k_is)
      (case kk_1 => k_is)
      (case a_2 => k_is)
      (case l_2 => k_is)
      (case cc_2 => k_is)
      (case kk_2 => k_is)
      (case a_3 => k_is)
      (case l_3 => k_is)
      (case cc_3 => k_is)
      (case kk_3 => k_is)
      (case a_4 => k_is)
      (case l_4 => k_is)
      (case cc_4 => k_is)
      (case kk_4 => k_is)
      (case a_5 => k_is)
      (case l_5 => k_is)
      (case cc_5 => k_is)
      (case kk_5 => k_is)
      (case a_6 => k_is)
      (case l_6 => k_is)
      (case cc_6 => k_is)
      (case kk_6 => k_is)
      (case a_7 => k_is)
      (case l_7 => k_is)
      (case cc_7 => k_is)
      (case kk_7 => k_is)
      (case a_8 => k_is)
      (case l_8 => k_is)
      (case cc_8 => k_is)
      (case kk_8 => k_is)
      (case a_9 => k_is)
      (case l_9 => k_is)
      (case cc_9 => k_is)
      (case kk_9 => k_is)
      (case a_10 => k_is)
      (case l_10 => k_is)
      (case cc_10 => k_is)
      (case kk_10 => k_is)
      (case a_11 => k_is)
      (case l_11 => k_is)
      (case cc_11 => k_is)
      (case kk_11 => k_is)
      (case a_12 => k_is)
      (case l_12 => k_is)
      (case cc_12 => k_is)
      (case kk_12 => k_is)
      (case a_13 => k_is)
      (case l_13 => k_is)
      (case cc_13 => k_is)
      (case kk_13 => k_is)
      (case a_14 => k_is)
      (case l_14 => k_is)
      (case cc_14 => k_is)
      (case kk_14 => k_is)
      (case a_15 => k_is)
      (case l_15 => k_is)
      (case cc_15 => k_is)
      (case kk_15 => k_is)
      (case a_16 => k_is)
      (case l_16 => k_is)
      (case cc_16 => k_is)
      (case kk_16 => k_is)
      (case a_17 => k_is)
      (case l_17 => k_is)
      (case cc_17 => k_is)
      (case kk_17 => k_is)
      (case a_18 => k_is)
      (case i_18 => k_is)
      (case l_18 => k_is)
      (case cc_18 => k_is)
      (case kk_18 => k_is)
      (case a_19 => k_is)
      (case i_19 => k_is)
      (case l_19 => k_is)
      (case cc_19 => k_is)
      (case kk_19 => k_is)
      (case a_20 => k_is)
      (case i_20 => k_is)
      (case l_20 => k_is)
      (case cc_20 => k_is)
      (case kk_20 => k_is)
      (case a_21 => k_is)
      (case i_21 => k_is)
      (case l_21 => k_is)
      (case cc_21 => k_is)
      (case kk_21 => k_is)
      (case a_22 => k_is)
      (case i_22 => k_is)
      (case l_22 => k_is)
      (case cc_22 => k_is)
      (case kk_22 => k_is)
      (case a_23 => k_is)
      (case i_23 => k_is)
      (case l_23 => k_is)
      (case cc_23 => k_is)
      (case kk_23 => k_is)
      (case a_24 => k_is)
      (case i_24 => k_is)
      (case l_24 => k_is)
      (case cc_24 => k_is)
      (case kk_24 => k_is)
      (case a_25 => k_is)
      (case i_25 => k_is)
      (case l_25 => k_is)
      (case cc_25 => k_is)
      (case kk_25 => k_is)
      (case a_26 => k_is)
      (case i_26 => k_is)
      (case l_26 => k_is)
      (case cc_26 => k_is)
      (case kk_26 => k_is)
      (case a_27 => k_is)
      (case i_27 => k_is)
      (case l_27 => k_is)
      (case cc_27 => k_is)
      (case kk_27 => k_is)
      (case a_28 => k_is)
      (case i_28 => k_is)
      (case l_28 => k_is)
      (case cc_28 => k_is)
      (case kk_28 => k_is)
      (case a_29 => k_is)
      (case i_29 => k_is)
      (case l_29 => k_is)
      (case cc_29 => k_is)
      (case kk_29 => k_is)
      (case a_30 => k_is)
      (case i_30 => k_is)
      (case l_30 => k_is)
      (case cc_30 => k_is)
      (case kk_30 => k_is)
      (case a_31 => k_is)
      (case i_31 => k_is)
      (case l_31 => k_is)
      (case cc_31 => k_is)
      (case kk_31 => k_is)
      (case a_32 => k_is)
      (case i_32 => k_is)
      (case l_32 => k_is)
      (case cc_32 => k_is)
      (case kk_32 => k_is)
      (case a_33 => k_is)
      (case i_33 => k_is)
      (case l_33 => k_is)
      (case cc_33 => k_is)
      (case kk_33 => k_is)
      (case pg_Num => k_is)
      (case hd_Num => k_is)
      (case po_Num => k_is)
      (case sa_Num => k_is)
      (case mk_Num => k_is)
      (case kc_Num => k_is)
      (case ha_Num => k_is)
      (case hm_Num => k_is)
      (case na_Num_value => k_is)
      (case pg_Name => k_is)
      (case hd_Name => k_is)
      (case po_Name => k_is)
      (case sa_Name => k_is)
      (case mk_Name => k_is)
      (case kc_Name => k_is)
      (case ha_Name => k_is)
      (case hm_Name => k_is)
      (case na_Name_word => k_is)
      (case pg_Two => k_is)
      (case hd_Two => k_is)
      (case po_Two => k_is)
      (case sa_Two => k_is)
      (case mk_Two => k_is)
      (case kc_Two => k_is)
      (case ha_Two => k_is)
      (case hm_Two => k_is)
      (case na_Two_word => k_is)
      (case na_Two_one => k_is)
      (case na_Two_other => k_is)
      (case pg_Mod => k_is)
      (case hd_Mod => k_is)
      (case po_Mod => k_is)
      (case sa_Mod => k_is)
      (case mk_Mod => k_is)
      (case kc_Mod => k_is)
      (case ha_Mod => k_is)
      (case hm_Mod => k_is)
      (case na_Mod_inner => k_is)
      (case na_Mod_number => k_is)
      (case pg_Less => k_is)
      (case hd_Less => k_is)
      (case po_Less => k_is)
      (case sa_Less => k_is)
      (case mk_Less => k_is)
      (case kc_Less => k_is)
      (case ha_Less => k_is)
      (case hm_Less => k_is)
      (case na_Less_one => k_is)
      (case na_Less_other => k_is)
      (case na_Less_third => k_is)
      (case na_Less_fourth => k_is)
      (case pg_Program => k_is)
      (case hd_Program => k_is)
      (case po_Program => k_is)
      (case sa_Program => k_is)
      (case mk_Program => k_is)
      (case kc_Program => k_is)
      (case ha_Program => k_is)
      (case hm_Program => k_is)
      (case na_Program_start => k_is)
      (case na_Program_send => k_is)
      (case na_Program_when => k_is)
      (case na_Program_renew => k_is)
      (case pg_Expr => k_is)
      (case hd_Expr => k_is)
      (case po_Expr => k_is)
      (case sa_Expr => k_is)
      (case mk_Expr => k_is)
      (case ib_Expr => k_is)
      (case kc_Expr => k_is)
      (case ha_Expr => k_is)
      (case hm_Expr => k_is)
      (case hn => k_is)
      (case htk => k_is)
      (case A_NoWeb => k_is)
      (case A_NoHand => k_is)
      (case A_NoText => k_is)
      (case A_NoWay => k_is)
      (case A_NoRound => k_is)
      (case A_BeatlessError => k_is)
      (case A_NoProgram => k_is)
      (case X_NoProgram => k_exc)
      (case xga_NoProgram => k_is)
      (case xgt_NoProgram => k_is)
      (case xha_NoProgram => k_is)
      (case xhm_NoProgram => k_is)
      (case xhb_NoProgram => k_is)
      (case xhd_NoProgram => k_is)
      (case k_Num_Num => kit_is)
      (case k_Name_Num => kit_is)
      (case k_Name_Name => kit_is)
      (case k_Two_Num => kit_is)
      (case k_Two_Name => kit_is)
      (case k_Two_Two => kit_is)
      (case k_Mod_Num => kit_is)
      (case k_Mod_Name => kit_is)
      (case k_Mod_Two => kit_is)
      (case k_Mod_Mod => kit_is)
      (case k_Less_Num => kit_is)
      (case k_Less_Name => kit_is)
      (case k_Less_Two => kit_is)
      (case k_Less_Mod => kit_is)
      (case k_Less_Less => kit_is)
      (case k_tint_tint => kit_is)
      (case k_tint_tbool => kit_is)
      (case k_tstr_tstr => kit_is)
      (case k_ttuple_ttuple => kit_is)
      (case k_tint_ttuple => kit_is)
      (case k_tstr_ttuple => kit_is)
      (case k_tint_tstr => kit_is)
      (case k_tstr_tint => kit_is)
      (case k_tstr_tbool => kit_is)
      (case k_tNoneType_Num => kit_is)
      (case k_tNoneType_Name => kit_is)
      (case k_tNoneType_Two => kit_is)
      (case k_tNoneType_Mod => kit_is)
      (case k_tNoneType_Less => kit_is)
      (case k_tint_Num => kit_is)
      (case k_tint_Name => kit_is)
      (case k_tint_Two => kit_is)
      (case k_tint_Mod => kit_is)
      (case k_tint_Less => kit_is)
      (case k_tstr_Num => kit_is)
      (case k_tstr_Name => kit_is)
      (case k_tstr_Two => kit_is)
      (case k_tstr_Mod => kit_is)
      (case k_tstr_Less => kit_is)
      (case k_ttuple_Num => kit_is)
      (case k_ttuple_Name => kit_is)
      (case k_ttuple_Two => kit_is)
      (case k_ttuple_Mod => kit_is)
      (case k_ttuple_Less => kit_is)
      (case k_tbool_Num => kit_is)
      (case k_tbool_Name => kit_is)
      (case k_tbool_Two => kit_is)
      (case k_tbool_Mod => kit_is)
      (case k_tbool_Less => kit_is)
      (case k_Expr_Num => kit_is)
      (case k_Expr_Name => kit_is)
      (case k_Expr_Two => kit_is)
      (case k_Expr_Mod => kit_is)
      (case k_Expr_Less => kit_is)
      (case k_tNoneType_tint => kit_is)
      (case k_tNoneType_tbool => kit_is)
      (case k_tNoneType_tstr => kit_is)
      (case k_ttuple_tint => kit_is)
      (case k_ttuple_tbool => kit_is)
      (case k_ttuple_tstr => kit_is)
      (case k_tbool_tint => kit_is)
      (case k_tbool_tbool => kit_is)
      (case k_tbool_tstr => kit_is)
      (case k_Num_tint => kit_is)
      (case k_Num_tbool => kit_is)
      (case k_Num_tstr => kit_is)
      (case k_NoProgram_NoWeb => kit_is)
      (case k_NoProgram_NoHand => kit_is)
      (case k_NoProgram_NoText => kit_is)
      (case k_NoProgram_NoWay => kit_is)
      (case k_NoProgram_NoRound => kit_is)
      (case k_NoProgram_BeatlessError => kit_is)
      (case k_NoProgram_tValueError => kit_is)
      (case G_START_NAMES => k_is)
      (case L_START_NAMES => k_is)
      (case G_SEND_NAMES => k_is)
      (case L_SEND_NAMES => k_is)
      (case G_RENEW_NAMES => k_is)
      (case L_RENEW_NAMES => k_is)
      (case G_TWO_WORDS => k_is)
      (case L_TWO_WORDS => k_is)
      (case G_MOST_WORDS => k_is)
      (case G_MOST_DEEP => k_is)
    obtain ⟨a, T⟩ := T
    have e0 := hmg.symm.trans T.g_law
    cases e0
    exact ⟨_, T.b0_law, fun base kb nb => K04.ok_law T⟩
  case S => exact fun K H a ns hl hO hS => K04.sp_law_of hl hO hS
  case C => exact fun _ _ _ _ z => z

