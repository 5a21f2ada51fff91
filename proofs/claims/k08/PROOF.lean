import PyProof.Rows.All
import Wide.All
import OpenK.AllK
import Wide.FinOn
import PySem.Challenge.RW_beatless_k08_whole_programs_let_by
import Lean
import PyProof.EqAt
import PyProof.EqKinds
import PyProof.TupleCall
import PyProof.ZipIter
import PyProof.WalksMore
/-! BLayer -/
set_option Elab.async false
set_option linter.all false
set_option maxRecDepth 100000
namespace L2
open PySem PySem.Spec PyProof.Rows
abbrev Key := Sum Int Str
def keyIs : Key → Value → Bool
  | .inl k, v => Value.isInt k v
  | .inr x, v => Value.isStrOf x v
def keyH (w : World) : Key → Int
  | .inl k => hashInt k
  | .inr x => hashStr w x
theorem keyIs_shape : ∀ {k : Key} {v : Value}, keyIs k v = true → (∃ i t, k = Sum.inl i ∧ v = Value.int i t) ∨ (∃ x t, k = Sum.inr x ∧ v = Value.str x t)
  | .inl i, v, h => by
    obtain ⟨t, e⟩ := Value.isInt_shape (k := i) (v := v) h
    exact .inl ⟨i, t, rfl, e⟩
  | .inr x, v, h => by
    obtain ⟨t, e⟩ := Value.isStrOf_shape (x := x) (v := v) h
    exact .inr ⟨x, t, rfl, e⟩
theorem key_ll (a b : Int) : decide ((Sum.inl a : Key) = Sum.inl b) = (a == b) := by
  by_cases e : a = b
  · subst e; simp
  · have h : ¬ (Sum.inl a : Key) = Sum.inl b := fun q => e (Sum.inl.inj q)
    rw [decide_eq_false h]
    exact (beq_eq_false_iff_ne.mpr e).symm
theorem key_rr (a b : Str) : decide ((Sum.inr a : Key) = Sum.inr b) = decide (a = b) := by
  by_cases e : a = b
  · subst e; simp
  · have h : ¬ (Sum.inr a : Key) = Sum.inr b := fun q => e (Sum.inr.inj q)
    rw [decide_eq_false h, decide_eq_false e]
theorem key_lr (a : Int) (b : Str) : decide ((Sum.inl a : Key) = Sum.inr b) = false := decide_eq_false (fun q => nomatch q)
theorem key_rl (a : Str) (b : Int) : decide ((Sum.inr a : Key) = Sum.inl b) = false := decide_eq_false (fun q => nomatch q)
def mixKind (prog : Program) (w : World) : PySem.KeyKind prog w Key where
  is := keyIs
  hash := keyH w
  inj := fun v a b ha hb => by
    rcases keyIs_shape ha with ⟨i, t, rfl, rfl⟩ | ⟨x, t, rfl, rfl⟩
    · rcases keyIs_shape hb with ⟨j, u, rfl, e⟩ | ⟨y, u, rfl, e⟩
      · injection e with e1 _; rw [e1]
      · exact nomatch e
    · rcases keyIs_shape hb with ⟨j, u, rfl, e⟩ | ⟨y, u, rfl, e⟩
      · exact nomatch e
      · injection e with e1 _; rw [e1]
  byValue := fun k v h => by
    rcases keyIs_shape h with ⟨i, t, rfl, rfl⟩ | ⟨x, t, rfl, rfl⟩ <;> rfl
  pyHash := fun hv h => by
    rcases keyIs_shape hv with ⟨i, t, rfl, rfl⟩ | ⟨x, t, rfl, rfl⟩
    · exact wpAny_pyHash_int h
    · exact wpAny_pyHash_str h
  eqBool := fun hu hv h => by
    rcases keyIs_shape hu with ⟨i, t, rfl, rfl⟩ | ⟨x, t, rfl, rfl⟩
    · rcases keyIs_shape hv with ⟨j, u, rfl, rfl⟩ | ⟨y, u, rfl, rfl⟩
      · rw [key_ll] at h; exact wpAny_eqBool_int h
      · rw [key_lr] at h; exact SeqAt.EqAt.int_str i t y u _ _ _ _ h
    · rcases keyIs_shape hv with ⟨j, u, rfl, rfl⟩ | ⟨y, u, rfl, rfl⟩
      · rw [key_rl] at h; exact SeqAt.EqAt.str_int x t j u _ _ _ _ h
      · rw [key_rr] at h; exact wpAny_eqBool_str h
  «strs» := fun k x t v h => by
    rcases keyIs_shape h with ⟨i, u, rfl, e⟩ | ⟨y, u, rfl, e⟩
    · exact nomatch e
    · injection e with e1 _
      subst e1
      cases v <;> rfl
end L2
namespace L2
open PySem PySem.Spec PyProof.Rows
inductive V where
  | non | bl (b : Bool) | int (i : Int) | str (x : Str) | byt (b : Array UInt8) | flt (b : UInt64) | ref (a : Addr) | ty (n : String)
  deriving DecidableEq
def RelV : V → Value → Prop
  | .non, u => u = Value.none
  | .bl b, u => u = Value.bool b
  | .int i, u => ∃ t, u = Value.int i t
  | .str x, u => ∃ t, u = Value.str x t
  | .byt b, u => ∃ t, u = Value.bytes b t
  | .flt b, u => ∃ t, u = Value.float b t
  | .ref a, u => u = Value.ref a
  | .ty n, u => u = Value.type n
abbrev Vals : List V → List Value → Prop := Paired RelV
theorem Vals.length {xs : List V} {us : List Value} (r : Vals xs us) : xs.length = us.length := Paired.length r
theorem Vals.get : ∀ {xs : List V} {us : List Value} {i : Nat} {x : V}, Vals xs us → xs[i]? = some x → ∃ u, us[i]? = some u ∧ RelV x u
  | _, _, _, _, .nil, e => by simp at e
  | _, _, 0, _, .cons r _, e => by simp at e; subst e; exact ⟨_, rfl, r⟩
  | _, _, i + 1, x, .cons _ t, e => by
    obtain ⟨u, h1, h2⟩ := Vals.get (i := i) (x := x) t (by simpa using e)
    exact ⟨u, by simpa using h1, h2⟩
theorem Vals.set {x : V} {u : Value} (r : RelV x u) : ∀ {xs : List V} {us : List Value} (i : Nat), Vals xs us → Vals (xs.set i x) (us.set i u)
  | _, _, _, .nil => .nil
  | _, _, 0, .cons _ t => .cons r t
  | _, _, i + 1, .cons q t => .cons q (Vals.set r i t)
theorem Vals.append : ∀ {xs ys : List V} {us ws : List Value}, Vals xs us → Vals ys ws → Vals (xs ++ ys) (us ++ ws)
  | _, _, _, _, .nil, s => s
  | _, _, _, _, .cons r t, s => .cons r (Vals.append t s)
theorem Vals.take : ∀ {xs : List V} {us : List Value} (n : Nat), Vals xs us → Vals (xs.take n) (us.take n)
  | _, _, 0, _ => .nil
  | _, _, _ + 1, .nil => .nil
  | _, _, n + 1, .cons r t => .cons r (Vals.take n t)
theorem Vals.drop : ∀ {xs : List V} {us : List Value} (n : Nat), Vals xs us → Vals (xs.drop n) (us.drop n)
  | _, _, 0, r => r
  | _, _, _ + 1, .nil => .nil
  | _, _, n + 1, .cons _ t => Vals.drop n t
def RelO : Option V → Option Value → Prop
  | some v, some u => RelV v u
  | none, none => True
  | _, _ => False
def KV {κ : Type} : List (κ × V) → List (κ × Value) → Prop := Paired fun (p : κ × V) (q : κ × Value) => p.1 = q.1 ∧ RelV p.2 q.2
def kV : Key → V
  | .inl i => .int i
  | .inr x => .str x
inductive HO where
  /-- a list -/
  | lst (xs : List V)
  /-- a tuple (never changes) -/
  | tup (xs : List V)
  /-- a dict whose keys are ints and texts; one whose keys are tuples of ints and texts (the empty one is both) -/
  | dK (kvs : List (Key × V)) | dT (kvs : List (List Key × V))
  /-- a set of ints: its members, its size -/
  | set (S : Int → Bool) (n : Nat)
  /-- an instance of the class at C, its dict at dx, its attributes -/
  | ins (C dx : Addr) (fs : List (Str × V))
  /-- the dict of the instance at x -/
  | own (x : Addr)
  /-- the dict of an exception -/
  | xd (fs : List (Str × V))
  /-- a bound method, f of x -/
  | met (f x : Addr)
  /-- a range object lo, lo + 1, .. below hi -/
  | rng (lo hi : Int)
  /-- a thing that is known to the object (the script; a dict while a loop walks it): read, never written while it is so -/
  | frz (o : Obj) (u : HO)
  /-- a code object's table -/
  | tbl (ps : Array Value)
  /-- any other thing, by what is true of its one object (a def of one's own: SetO a S n := HO.ext fun h => ..) -/
  | ext (φ : Heap → Prop)
abbrev Hp := Addr → Option HO
def upd (H : Hp) (a : Addr) (o : HO) : Hp := fun b => if b = a then some o else H b
theorem upd_same {H : Hp} {a : Addr} {o : HO} : upd H a o a = some o := by unfold upd; rw [if_pos rfl]
theorem upd_ne {H : Hp} {a b : Addr} {o : HO} (h : b ≠ a) : upd H a o b = H b := by unfold upd; rw [if_neg h]
theorem upd_upd {H : Hp} {a : Addr} {o u : HO} : upd (upd H a o) a u = upd H a u := by
  funext b; unfold upd; split <;> rfl
theorem ne_of {H : Hp} {a b : Addr} {o u : HO} (h : H a = some o) (h' : H b = some u) (d : o ≠ u) : a ≠ b := by
  intro e; subst e; rw [h] at h'; exact d (Option.some.inj h')
theorem ne_of_none {H : Hp} {a b : Addr} {o : HO} (h : H a = some o) (h' : H b = none) : a ≠ b := by
  intro e; subst e; rw [h] at h'; cases h'
section
variable (P : Program) (w : World)
def ObjOk (H : Hp) (h : Heap) (a : Addr) : HO → Prop
  | .lst xs => xs.length ≤ sizeLine ∧ ∃ (its : List Value) (n : Nat), Vals xs its ∧ h.get? a = some { cls := .type "list", data := .seq its.toArray n }
  | .tup xs => xs.length ≤ sizeLine ∧ ∃ its : List Value, Vals xs its ∧ IsTup h a its.toArray
  | .dK kvs => kvs.length ≤ sizeLine ∧ (a == sysModules) = false ∧ ∃ vs, KV kvs vs ∧ h.DictOf (mixKind P w) a vs
  | .dT kvs => kvs.length ≤ sizeLine ∧ (a == sysModules) = false ∧ ∃ xs : List (List Key × Addr × Value),
      Paired (fun (p : List Key × V) (q : List Key × Addr × Value) => p.1 = q.1 ∧ H q.2.1 = some (.tup (p.1.map kV)) ∧ RelV p.2 q.2.2) kvs xs ∧
      ∃ o es ep, h.get? a = some o ∧ o.ExactDict ∧ o.data = .dict es ep ∧ es.toList = xs.map (entryOfKey (tupleKind (mixKind P w))) ∧ (xs.map (·.1)).Nodup
  | .set S n => h.SetOf (intKind P w) a S n
  | .ins C dx fs => H dx = some (.own a) ∧ fs.length ≤ 1000 ∧ dx ≠ a ∧ h.get? a = some (PySem.W.instObj C dx) ∧
      ∃ mA, h.Ns1 dx mA ∧ (∀ f, RelO (fs.lookup f) (mA f)) ∧ PySem.Within mA (fs.map (·.1))
  | .own _ => ∃ o, h.get? a = some o
  | .xd fs => ∃ mA, h.Ns1 a mA ∧ ∀ f, RelO (fs.lookup f) (mA f)
  | .rng lo hi => ∃ t u v, h.get? a = some { cls := .type "range", data := .fields #[.int lo t, .int hi u, .int 1 v] }
  | .frz o u => h.get? a = some o ∧ ObjOk H h a u
  | .tbl ps => h.get? a = some { cls := .none, data := .fields ps }
  | .met f x => h.get? a = some (PySem.W.methodObj (.ref f) (.ref x))
  | .ext φ => φ h ∧ (∃ o, h.get? a = some o) ∧ ∀ h1 h2 : Heap, φ h1 → (∀ o, h1.get? a = some o → h2.get? a = some o) → φ h2
def HOk (H : Hp) (h : Heap) : Prop := ∀ a o, H a = some o → ObjOk P w H h a o
end
section
variable {P : Program} {w : World} {H H' : Hp} {h h' : Heap} {a : Addr} {o : HO}
theorem ObjOk.lt (x : ObjOk P w H h a o) : a < h.objs.size := by
  cases o with
  | lst xs => obtain ⟨_, _, _, _, e⟩ := x; exact Heap.lt_size e
  | tup xs => obtain ⟨_, _, _, p⟩ := x; exact p.lt
  | dK kvs => obtain ⟨_, _, _, _, o, _, _, e, _⟩ := x; exact Heap.lt_size e
  | dT kvs => obtain ⟨_, _, _, _, o, _, _, e, _⟩ := x; exact Heap.lt_size e
  | set S n => obtain ⟨o, _, _, _, e, _⟩ := x; exact Heap.lt_size e
  | ins C dx fs => obtain ⟨_, _, _, e, _⟩ := x; exact Heap.lt_size e
  | own y => obtain ⟨_, e⟩ := x; exact Heap.lt_size e
  | xd fs => obtain ⟨_, ⟨_, _, _, e, _⟩, _⟩ := x; exact Heap.lt_size e
  | rng lo hi => obtain ⟨_, _, _, e⟩ := x; exact Heap.lt_size e
  | frz ob u => obtain ⟨e, _⟩ := x; exact Heap.lt_size e
  | tbl ps => exact Heap.lt_size (show h.get? a = some _ from x)
  | met f y => exact Heap.lt_size (show h.get? a = some _ from x)
  | ext φ => obtain ⟨_, ⟨_, e⟩, _⟩ := x; exact Heap.lt_size e
theorem Paired.mapP {α β : Type} {F G : α → β → Prop} : ∀ {l₁ : List α} {l₂ : List β}, Paired F l₁ l₂ → (∀ a b, F a b → G a b) → Paired G l₁ l₂
  | _, _, .nil, _ => .nil
  | _, _, .cons r t, f => .cons (f _ _ r) (Paired.mapP t f)
theorem ObjOk.stay (x : ObjOk P w H h a o) (k : ∀ b u, (b = a ∨ H b = some (.own a)) → h.get? b = some u → h'.get? b = some u)
    (ho : ∀ b, H b = some (.own a) → H' b = some (.own a)) (ht : ∀ b xs, H b = some (.tup xs) → H' b = some (.tup xs)) : ObjOk P w H' h' a o := by
  induction o with
  | lst xs => obtain ⟨z, its, n, r, e⟩ := x; exact ⟨z, its, n, r, k _ _ (.inl rfl) e⟩
  | tup xs => obtain ⟨z, its, r, ob, e, c⟩ := x; exact ⟨z, its, r, ob, k _ _ (.inl rfl) e, c⟩
  | dK kvs => obtain ⟨z, y, vs, r, ob, es, ep, e, c⟩ := x; exact ⟨z, y, vs, r, ob, es, ep, k _ _ (.inl rfl) e, c⟩
  | dT kvs =>
    obtain ⟨z, y, xs, r, ob, es, ep, e, c⟩ := x
    exact ⟨z, y, xs, Paired.mapP r fun p q z => ⟨z.1, ht _ _ z.2.1, z.2.2⟩, ob, es, ep, k _ _ (.inl rfl) e, c⟩
  | set S n => obtain ⟨ob, es, ep, t, e, c⟩ := x; exact ⟨ob, es, ep, t, k _ _ (.inl rfl) e, c⟩
  | ins C dx fs =>
    obtain ⟨d, z, ne, e, mA, ⟨od, es, ep, e2, c⟩, r⟩ := x
    exact ⟨ho _ d, z, ne, k _ _ (.inl rfl) e, mA, ⟨od, es, ep, k _ _ (.inr d) e2, c⟩, r⟩
  | own y => obtain ⟨ob, e⟩ := x; exact ⟨ob, k _ _ (.inl rfl) e⟩
  | xd fs => obtain ⟨mA, ⟨od, es, ep, e, c⟩, r⟩ := x; exact ⟨mA, ⟨od, es, ep, k _ _ (.inl rfl) e, c⟩, r⟩
  | rng lo hi => obtain ⟨t, u, v, e⟩ := x; exact ⟨t, u, v, k _ _ (.inl rfl) e⟩
  | frz ob u ih => obtain ⟨e, q⟩ := x; exact ⟨k _ _ (.inl rfl) e, ih q⟩
  | tbl ps =>
    have e : h.get? a = some { cls := .none, data := .fields ps } := x
    show h'.get? a = some { cls := .none, data := .fields ps }
    exact k a _ (.inl rfl) e
  | met f y =>
    have e : h.get? a = some (PySem.W.methodObj (.ref f) (.ref y)) := x
    show h'.get? a = some (PySem.W.methodObj (.ref f) (.ref y))
    exact k a _ (.inl rfl) e
  | ext φ => obtain ⟨p, ⟨o, e⟩, st⟩ := x; exact ⟨st _ _ p fun o q => k _ _ (.inl rfl) q, ⟨o, k _ _ (.inl rfl) e⟩, st⟩
theorem HOk.lt (x : HOk P w H h) (e : H a = some o) : a < h.objs.size := (x a o e).lt
theorem HOk.fresh (x : HOk P w H h) (e : h.objs.size ≤ a) : H a = none := by
  cases q : H a with
  | none => rfl
  | some u => exact absurd (Nat.lt_of_lt_of_le (x.lt q) e) (Nat.lt_irrefl _)
theorem HOk.kept (x : HOk P w H h) (k : ∀ b u, h.get? b = some u → h'.get? b = some u) : HOk P w H h' := fun a o e =>
  (x a o e).stay (fun b u _ q => k b u q) (fun _ q => q) fun _ _ q => q
theorem HOk.laid (x : HOk P w H h) (k : ∀ b u, h.get? b = some u → h'.get? b = some u) (hp : h.objs.size ≤ a) (new : ObjOk P w (upd H a o) h' a o) : HOk P w (upd H a o) h' := fun b u e => by
  have hn := x.fresh hp
  by_cases hb : b = a
  · subst hb; rw [upd_same] at e; cases e; exact new
  · rw [upd_ne hb] at e
    exact (x b u e).stay (fun c v _ q => k c v q) (fun c q => by rw [upd_ne (ne_of_none q hn)]; exact q) fun c xs q => by rw [upd_ne (ne_of_none q hn)]; exact q
end
def Rd (H : Hp) (a : Addr) (u : HO) : Prop := H a = some u ∨ ∃ o, H a = some (.frz o u)
theorem Rd.ok {P : Program} {w : World} {H : Hp} {h : Heap} {a : Addr} {u : HO} (r : Rd H a u) (x : HOk P w H h) : ObjOk P w H h a u := by
  rcases r with r | ⟨o, r⟩
  · exact x a u r
  · obtain ⟨_, q⟩ := x a _ r
    exact q
def Mut : Option HO → Prop
  | some (.lst _) => True
  | some (.dK _) => True
  | some (.dT _) => True
  | some (.set _ _) => True
  | some (.ins _ _ _) => True
  | some (.ext _) => True
  | _ => False
section
variable {P : Program} {w : World} {H : Hp} {h h' : Heap} {x e : Addr} {o' : HO}
theorem HOk.write (ok : HOk P w H h) (mu : Mut (H x)) (he : e = x ∨ H e = some (.own x)) (k : ∀ b u, b ≠ e → h.get? b = some u → h'.get? b = some u) (heo : ∃ u, h'.get? e = some u)
    (new : ObjOk P w (upd H x o') h' x o') : HOk P w (upd H x o') h' := fun b u q => by
  have nown : ∀ c y, H c = some (.own y) → c ≠ x := fun c y r z => by subst z; rw [r] at mu; exact mu
  have ntup : ∀ c xs, H c = some (.tup xs) → c ≠ x := fun c xs r z => by subst z; rw [r] at mu; exact mu
  by_cases hb : b = x
  · subst hb; rw [upd_same] at q; cases q; exact new
  · rw [upd_ne hb] at q
    by_cases hbe : b = e
    · have q' : H b = some (.own x) := by
        rcases he with z | z
        · exact absurd (hbe.trans z) hb
        · rw [hbe]; exact z
      rw [q] at q'; cases q'
      obtain ⟨v, hv⟩ := heo
      exact ⟨v, by rw [hbe]; exact hv⟩
    · refine (ok b u q).stay (fun c v hc r => k c v ?_ r) (fun c r => by rw [upd_ne (nown c b r)]; exact r) fun c xs r => by rw [upd_ne (ntup c xs r)]; exact r
      rcases hc with rfl | hc
      · exact hbe
      · rintro rfl
        rcases he with z | z
        · exact nown c b hc z
        · rw [hc] at z; cases z; exact hb rfl
end
structure Un (fs ex : List Addr) (H H' : Hp) (h h' : Heap) : Prop where
  keep : ∀ b o, h.get? b = some o → H b = none → b ∉ fs → b ∉ ex → h'.get? b = some o
  slot : ∀ b o, h.get? b = some o → H b = none → b ∈ fs → b ∉ ex → ∃ sl, h'.get? b = some { o with slots := sl }
  free : ∀ b o, h.get? b = some o → H b = none → b ∉ ex → H' b = none
  there : ∀ b o, h.get? b = some o → b ∉ ex → ∃ o', h'.get? b = some o'
  tups : ∀ b xs, H b = some (.tup xs) → H' b = some (.tup xs)
  frzs : ∀ b o u, H b = some (.frz o u) → H' b = some (.frz o u)
  tbls : ∀ b ps, H b = some (.tbl ps) → ∃ more, H' b = some (.tbl (ps ++ more))
section
variable {fs fs' ex ex' : List Addr} {H H1 H2 : Hp} {h h1 h2 h' : Heap} {a x e : Addr} {o : HO}
theorem Un.any (u : Un fs ex H H1 h h1) {b : Addr} {ob : Obj} (q : h.get? b = some ob) (n : H b = none) (hx : b ∉ ex) : ∃ sl, h1.get? b = some { ob with slots := sl } := by
  by_cases hb : b ∈ fs
  · exact u.slot b ob q n hb hx
  · exact ⟨ob.slots, u.keep b ob q n hb hx⟩
theorem Un.kept (k : ∀ b u, h.get? b = some u → h'.get? b = some u) : Un fs ex H H h h' :=
  ⟨fun b ob q _ _ _ => k b ob q, fun b ob q _ _ _ => ⟨ob.slots, k b ob q⟩, fun _ _ _ n _ => n, fun b ob q _ => ⟨ob, k b ob q⟩, fun _ _ q => q, fun _ _ _ q => q, fun _ ps q => ⟨#[], by rw [q]; simp⟩⟩
theorem Un.refl : Un fs ex H H h h := Un.kept fun _ _ q => q
theorem Un.laid (k : ∀ b u, h.get? b = some u → h'.get? b = some u) (hp : h.objs.size ≤ a) (hn : H a = none) : Un fs ex H (upd H a o) h h' where
  keep := fun b u q _ _ _ => k b u q
  slot := fun b u q _ _ _ => ⟨u.slots, k b u q⟩
  free := fun b u q n _ => by rw [upd_ne (Nat.ne_of_lt (Nat.lt_of_lt_of_le (Heap.lt_size q) hp))]; exact n
  there := fun b u q _ => ⟨u, k b u q⟩
  tups := fun b xs q => by rw [upd_ne (ne_of_none q hn)]; exact q
  frzs := fun b u xs q => by rw [upd_ne (ne_of_none q hn)]; exact q
  tbls := fun b ps q => ⟨#[], by rw [upd_ne (ne_of_none q hn), q]; simp⟩
theorem Un.write (mu : Mut (H x)) (he : e = x ∨ H e = some (.own x)) (k : ∀ b u, b ≠ e → h.get? b = some u → h'.get? b = some u) (heo : ∃ u, h'.get? e = some u) : Un fs ex H (upd H x o) h h' := by
  have hx : ∀ b, H b = none → b ≠ x := fun b n z => by subst z; rw [n] at mu; exact mu
  have hb : ∀ b, H b = none → b ≠ e := fun b n z => by
    subst z
    rcases he with r | r
    · exact hx b n r
    · rw [n] at r; cases r
  have hm : ∀ b u, H b = some u → ¬ Mut (some u) → b ≠ x := fun b u q nm z => by subst z; rw [q] at mu; exact nm mu
  refine ⟨fun b u q n _ _ => k b u (hb b n) q, fun b u q n _ _ => ⟨u.slots, k b u (hb b n) q⟩, fun b u q n _ => by rw [upd_ne (hx b n)]; exact n, fun b u q _ => ?_,
    fun b xs q => by rw [upd_ne (hm b _ q fun z => z)]; exact q, fun b u xs q => by rw [upd_ne (hm b _ q fun z => z)]; exact q, fun b ps q => ⟨#[], by rw [upd_ne (hm b _ q fun z => z), q]; simp⟩⟩
  by_cases hbe : b = e
  · subst hbe; exact heo
  · exact ⟨u, k b u hbe q⟩
end
def trk (h : Heap) (H : Hp) : List Addr := (List.range h.objs.size).filter fun a => (H a).isSome
def hidT (h : Heap) (H : Hp) : Heap := PySem.W.hideAll h (trk h H)
theorem hidT_size (h : Heap) (H : Hp) : (hidT h H).objs.size = h.objs.size := PySem.W.hideAll_size _ _
theorem hidT_get {h : Heap} {H : Hp} {b : Addr} {o : Obj} (e : h.get? b = some o) (n : H b = none) : (hidT h H).get? b = some o :=
  PySem.W.hideAll_get _ e fun hm => by
    have q : (H b).isSome = true := (List.mem_filter.mp hm).2
    rw [n] at q; simp at q
theorem of_hidT {h : Heap} {H : Hp} {b : Addr} {o : Obj} (e : (hidT h H).get? b = some o) : h.get? b = some o ∧ H b = none := by
  have e' : h.get? b = some o := PySem.W.of_hideAll (trk h H) e
  refine ⟨e', ?_⟩
  cases q : H b with
  | none => rfl
  | some x =>
    have hm : b ∈ trk h H := List.mem_filter.mpr ⟨List.mem_range.mpr (Heap.lt_size e'), by simp [q]⟩
    have z : (hidT h H).get? b = none := PySem.W.hideAll_none (trk h H) hm
    rw [z] at e; cases e
end L2
namespace L2
open PySem PySem.Spec PyProof.Rows
structure Mod (K : PySem.W.Frag) (mg : Str → Option Value) (base : Heap) : Prop where
  kin : K.In base
  glob : base.Ns mainGlobals mg
  blt : ∃ mb, base.Ns builtinsNs mb ∧ ∀ x : Str, x ≠ "__name__" → mb x = bootBuiltins x
  nolimit : base.NoLimit
structure Cx where
  prog : Program
  w : World
  K : PySem.W.Frag
  mg : Str → Option Value
  base : Heap
  A : Around
  N : List Str
  s₀ : Shared
  H₀ : Hp
  env : Env
  outer : List Env
  stack : List Env
  ex : List Addr
  fn : Str → Bool
  calm : Bool
  pn : List (Addr × Obj)
  xe : Value → Shared → Prop
def frs (l : List Env) : List Addr := l.filterMap (·.frame)
abbrev Cx.fs (X : Cx) : List Addr := frs X.outer
def Vis (sc : Scope) (x : Str) : Prop := sc.names.lookup x = some .local ∨ sc.names.lookup x = some .cell ∨ sc.names.lookup x = some .free
def Loc (sc : Scope) (x : Str) : Prop := sc.names.lookup x = some .local ∨ sc.names.lookup x = some .cell
def Look (env : Env) (h : Heap) (m : Str → Option Value) (x : Str) (u : Value) : Prop :=
  (env.kindOf x = some .local ∧ m x = some u) ∨ ((env.kindOf x = some .cell ∨ env.kindOf x = some .free) ∧ ∃ c, env.cells.lookup x = some c ∧ h.IsCell c (some u))
structure Cx.Ok (X : Cx) : Prop where
  mod : Mod X.K X.mg X.base
  kind : X.env.scope.kind = .function
  glob : X.env.globals = mainGlobals
  blt : X.env.builtins = builtinsNs
  above : X.s₀.heap.objs.size ≤ X.env.locals
  inj : ∀ x y c, X.env.cells.lookup x = some c → X.env.cells.lookup y = some c → x = y
  has : ∀ x, (X.env.kindOf x = some .cell ∨ X.env.kindOf x = some .free) → ∃ c, X.env.cells.lookup x = some c
  cab : ∀ x c, X.fn x = true → X.env.cells.lookup x = some c → X.s₀.heap.objs.size ≤ c
  hd : X.calm = true → X.A.handled = none
  frames : X.A.frames = some X.stack
  stk : X.stack = X.outer ∨ (X.stack = X.env :: X.outer ∧ X.env.frame = some X.env.locals)
  exf : ∀ b ∈ X.ex, b ≠ X.env.locals ∧ ∀ x c, X.env.cells.lookup x = some c → c ≠ b
  bs : ∀ b o, X.base.get? b = some o → X.s₀.heap.get? b = some o ∧ X.H₀ b = none
  bsz : X.base.objs.size ≤ X.s₀.heap.objs.size
  noex : ∀ b o, X.base.get? b = some o → b ∉ X.ex
  exfs : ∀ b ∈ X.ex, b ∉ X.fs
  funs : X.s₀.heap.FunFrames X.base X.outer
  frf : ∀ b ∈ X.fs, X.H₀ b = none
structure Inv (X : Cx) (pins : List (Addr × Obj)) (σ : List (Option V)) (H : Hp) (s : Shared) : Prop where
  ok : X.Ok
  os : s.os = X.s₀.os
  bare : AllBare s.gens
  base : Un X.fs X.ex X.H₀ H X.s₀.heap s.heap
  loc : ∃ m, s.heap.Ns X.env.locals m ∧ ∀ (i : Nat) (x : Str) (v : V), X.N[i]? = some x → σ[i]? = some (some v) → Vis X.env.scope x → ∃ u, RelV v u ∧ Look X.env s.heap m x u
  cell : ∀ x c, X.env.cells.lookup x = some c → ∃ v, s.heap.IsCell c v
  free : H X.env.locals = none
  freeC : ∀ x c, X.env.cells.lookup x = some c → H c = none
  pin : ∀ p ∈ X.pn ++ pins, s.heap.get? p.1 = some p.2 ∧ H p.1 = none ∧ p.1 ≠ X.env.locals ∧ p.1 ∉ X.fs ∧ ∀ v, p.2.data ≠ .cell v
  hok : HOk X.prog X.w H s.heap
  len : σ.length = X.N.length
section
variable {X : Cx} {pins : List (Addr × Obj)} {σ : List (Option V)} {H H' : Hp} {s : Shared} {h' : Heap}
theorem Cx.Ok.nofr (ok : X.Ok) {b : Addr} {o : Obj} (e : X.base.get? b = some o) : b ∉ X.fs := fun hb => by
  have := (ok.funs.mem hb).1
  rw [e] at this; cases this
theorem Inv.bs (I : Inv X pins σ H s) : ∀ b o, X.base.get? b = some o → s.heap.get? b = some o ∧ H b = none := fun b o e =>
  ⟨I.base.keep b o (I.ok.bs b o e).1 (I.ok.bs b o e).2 (I.ok.nofr e) (I.ok.noex b o e), I.base.free b o (I.ok.bs b o e).1 (I.ok.bs b o e).2 (I.ok.noex b o e)⟩
theorem Inv.bk (I : Inv X pins σ H s) : ∀ b o, X.base.get? b = some o → s.heap.get? b = some o := fun b o e => (I.bs b o e).1
theorem Inv.mod (I : Inv X pins σ H s) : Mod X.K X.mg X.base := I.ok.mod
theorem Inv.kIn (I : Inv X pins σ H s) : X.K.In s.heap := I.ok.mod.kin.keeps I.bk
theorem Inv.lt (I : Inv X pins σ H s) : X.env.locals < s.heap.objs.size := let ⟨_, hn, _⟩ := I.loc; hn.lt
theorem Inv.sz (I : Inv X pins σ H s) : X.s₀.heap.objs.size ≤ s.heap.objs.size := Nat.le_trans I.ok.above (Nat.le_of_lt I.lt)
theorem Inv.nofs (I : Inv X pins σ H s) {a : Addr} (h : s.heap.objs.size ≤ a) : a ∉ X.fs := fun hb => by
  obtain ⟨_, o, ho, _⟩ := I.ok.funs.mem hb
  exact absurd (Nat.lt_of_lt_of_le (Heap.lt_size ho) (Nat.le_trans I.sz h)) (Nat.lt_irrefl _)
theorem Inv.cne (I : Inv X pins σ H s) : ∀ x c, X.env.cells.lookup x = some c → c ≠ X.env.locals := fun x c e z => by
  obtain ⟨v, o, ho, hd⟩ := I.cell x c e
  obtain ⟨m, ⟨o', es, ep, ho', hd', _⟩, _⟩ := I.loc
  rw [z, ho'] at ho; cases ho; rw [hd'] at hd; cases hd
theorem Inv.funs (I : Inv X pins σ H s) : s.heap.FunFrames X.base X.outer := by
  have all : ∀ (l : List Env), (∀ b ∈ frs l, b ∈ X.fs) → X.s₀.heap.FunFrames X.base l → s.heap.FunFrames X.base l := by
    intro l
    induction l with
    | nil => intro _ _; trivial
    | cons env r ih =>
      intro hs hl
      obtain ⟨hk, ⟨L, o, hf, hn, ho, hd⟩, hr⟩ := hl
      have hL : L ∈ X.fs := hs L (by unfold frs; rw [List.filterMap_cons, hf]; exact List.mem_cons_self)
      obtain ⟨sl, e⟩ := I.base.slot L o ho (I.ok.frf L hL) hL fun z => I.ok.exfs L z hL
      exact ⟨hk, ⟨L, _, hf, hn, e, hd⟩, ih (fun b hb => hs b (by unfold frs; rw [List.filterMap_cons, hf]; exact List.mem_cons_of_mem _ hb)) hr⟩
  exact all X.outer (fun _ hb => hb) I.ok.funs
theorem Inv.stack (I : Inv X pins σ H s) : s.heap.FunFrames X.base X.stack := by
  rcases I.ok.stk with e | ⟨e, hf⟩
  · rw [e]; exact I.funs
  · rw [e]
    obtain ⟨m, hn, _⟩ := I.loc
    refine .cons (by rw [I.ok.kind]; decide) hf hn ?_ I.funs
    exact Heap.get?_none_of_le (Nat.le_trans I.ok.bsz I.ok.above)
theorem Inv.stkSub (I : Inv X pins σ H s) : ∀ b ∈ frs X.stack, b ∈ X.env.locals :: X.fs := fun b hb => by
  rcases I.ok.stk with e | ⟨e, hf⟩
  · rw [e] at hb; exact List.mem_cons_of_mem _ hb
  · rw [e] at hb
    unfold frs at hb
    rw [List.filterMap_cons, hf] at hb
    exact hb
theorem Inv.stkFree (I : Inv X pins σ H s) : ∀ b ∈ frs X.stack, H b = none := fun b hb => by
  rcases List.mem_cons.mp (I.stkSub b hb) with e | hb
  · rw [e]; exact I.free
  · obtain ⟨_, o, ho, _⟩ := I.ok.funs.mem hb
    exact I.base.free b o ho (I.ok.frf b hb) fun z => I.ok.exfs b z hb
theorem Inv.step {g' : Array GenState} {t' : Nat} {d' : Drawn} {ch : List Addr} (I : Inv X pins σ H s)
    (hch : ∀ b ∈ ch, (b ∈ X.ex ∨ X.s₀.heap.objs.size ≤ b) ∧ b ≠ X.env.locals ∧ (∀ x c, X.env.cells.lookup x = some c → c ≠ b) ∧ ∀ p ∈ X.pn ++ pins, p.1 ≠ b)
    (keep : ∀ b o, b ≠ X.env.locals → b ∉ X.fs → b ∉ ch → s.heap.get? b = some o → H b = none → h'.get? b = some o)
    (slot : ∀ b o, b ≠ X.env.locals → b ∈ X.fs → b ∉ ch → s.heap.get? b = some o → H b = none → ∃ sl, h'.get? b = some { o with slots := sl }) (free : ∀ b o, b ∉ ch → s.heap.get? b = some o → H b = none → H' b = none)
    (there : ∀ b o, b ∉ ch → s.heap.get? b = some o → ∃ o', h'.get? b = some o')
    (tups : ∀ b xs, H b = some (.tup xs) → H' b = some (.tup xs)) (frzs : ∀ b o u, H b = some (.frz o u) → H' b = some (.frz o u)) (tbls : ∀ b ps, H b = some (.tbl ps) → ∃ more, H' b = some (.tbl (ps ++ more)))
    (ns : ∀ m, s.heap.Ns X.env.locals m → h'.Ns X.env.locals m) (hok : HOk X.prog X.w H' h') (hg : AllBare g') :
    Inv X pins σ H' { s with heap := h', gens := g', drawn := d', toks := t' } := by
  have neL : ∀ b o, X.s₀.heap.get? b = some o → b ≠ X.env.locals := fun b o e => Nat.ne_of_lt (Nat.lt_of_lt_of_le (Heap.lt_size e) I.ok.above)
  have neC : ∀ b o, X.s₀.heap.get? b = some o → b ∉ X.ex → b ∉ ch := fun b o e hx hb => by
    rcases (hch b hb).1 with z | z
    · exact hx z
    · exact absurd (Nat.lt_of_lt_of_le (Heap.lt_size e) z) (Nat.lt_irrefl _)
  have cellK : ∀ x c, X.env.cells.lookup x = some c → ∀ v, s.heap.IsCell c v → h'.IsCell c v := fun x c e v ⟨o, ho, hd⟩ => by
    have nch : c ∉ ch := fun z => (hch c z).2.2.1 x c e rfl
    by_cases hc : c ∈ X.fs
    · obtain ⟨sl, q⟩ := slot c o (I.cne x c e) hc nch ho (I.freeC x c e)
      exact ⟨_, q, hd⟩
    · exact ⟨o, keep c o (I.cne x c e) hc nch ho (I.freeC x c e), hd⟩
  refine ⟨I.ok, I.os, hg, ⟨fun b o e n hb hx => ?_, fun b o e n hb hx => ?_, fun b o e n hx => ?_, fun b o e hx => ?_, fun b xs e => tups b xs (I.base.tups b xs e), fun b o xs e => frzs b o xs (I.base.frzs b o xs e), fun b ps e => ?_⟩, ?_, fun x c e => ?_, ?_, fun x c e => ?_, fun p hp => ?_, hok, I.len⟩
  · exact keep b o (neL b o e) hb (neC b o e hx) (I.base.keep b o e n hb hx) (I.base.free b o e n hx)
  · obtain ⟨sl, e1⟩ := I.base.slot b o e n hb hx
    obtain ⟨sl', e2⟩ := slot b _ (neL b o e) hb (neC b o e hx) e1 (I.base.free b o e n hx)
    exact ⟨sl', e2⟩
  · obtain ⟨o', e1⟩ := I.base.there b o e hx
    exact free b o' (neC b o e hx) e1 (I.base.free b o e n hx)
  · obtain ⟨o', e1⟩ := I.base.there b o e hx
    exact there b o' (neC b o e hx) e1
  · obtain ⟨m1, e1⟩ := I.base.tbls b ps e
    obtain ⟨m2, e2⟩ := tbls b _ e1
    exact ⟨m1 ++ m2, by rw [e2, Array.append_assoc]⟩
  · obtain ⟨m, hn, hl⟩ := I.loc
    refine ⟨m, ns m hn, fun i x v e1 e2 e3 => ?_⟩
    obtain ⟨u, r, l⟩ := hl i x v e1 e2 e3
    refine ⟨u, r, ?_⟩
    rcases l with l | ⟨k, c, e, z⟩
    · exact .inl l
    · exact .inr ⟨k, c, e, cellK x c e _ z⟩
  · obtain ⟨v, z⟩ := I.cell x c e
    exact ⟨v, cellK x c e v z⟩
  · obtain ⟨m, ⟨o, _, _, ho, _⟩, _⟩ := I.loc
    exact free _ o (fun z => (hch _ z).2.1 rfl) ho I.free
  · obtain ⟨v, o, ho, hd⟩ := I.cell x c e
    exact free c o (fun z => (hch c z).2.2.1 x c e rfl) ho (I.freeC x c e)
  · obtain ⟨e, n, ne, nf, d⟩ := I.pin p hp
    have nch : p.1 ∉ ch := fun z => (hch p.1 z).2.2.2 p hp rfl
    exact ⟨keep p.1 p.2 ne nf nch e n, free p.1 p.2 nch e n, ne, nf, d⟩
theorem Inv.un {t' : Nat} (I : Inv X pins σ H s) (u : Un X.fs [] H H' s.heap h') (hok : HOk X.prog X.w H' h') : Inv X pins σ H' { s with heap := h', toks := t' } := by
  obtain ⟨m, ⟨o, es, ep, ho, r⟩, _⟩ := id I.loc
  obtain ⟨sl, hL⟩ := u.any ho I.free (by simp)
  exact I.step (g' := s.gens) (d' := s.drawn) (ch := []) (fun _ z => nomatch z) (fun b o _ hb _ e n => u.keep b o e n hb (by simp)) (fun b o _ hb _ e n => u.slot b o e n hb (by simp)) (fun b o _ e n => u.free b o e n (by simp)) (fun b o _ e => u.there b o e (by simp)) u.tups u.frzs u.tbls (fun m' hm => by
    obtain ⟨o', es', ep', ho', r'⟩ := hm
    rw [ho] at ho'; cases ho'
    exact ⟨_, es', ep', hL, r'⟩) hok I.bare
theorem Inv.call {g' : Array GenState} {t' : Nat} {d' : Drawn} {ch : List Addr} (I : Inv X pins σ H s) (u : Un (frs X.stack) ch H H' s.heap h') (hok : HOk X.prog X.w H' h') (hg : AllBare g')
    (hch : ∀ b ∈ ch, (b ∈ X.ex ∨ X.s₀.heap.objs.size ≤ b) ∧ b ≠ X.env.locals ∧ (∀ x c, X.env.cells.lookup x = some c → c ≠ b) ∧ ∀ p ∈ X.pn ++ pins, p.1 ≠ b) :
    Inv X pins σ H' { s with heap := h', gens := g', drawn := d', toks := t' } := by
  obtain ⟨m, ⟨o, es, ep, ho, r⟩, _⟩ := id I.loc
  obtain ⟨sl, hL⟩ := u.any ho I.free fun z => (hch _ z).2.1 rfl
  exact I.step (ch := ch) hch (fun b o hL hb hc e n => u.keep b o e n (fun z => (List.mem_cons.mp (I.stkSub b z)).elim hL hb) hc) (fun b o _ _ hc e n => u.any e n hc) (fun b o hc e n => u.free b o e n hc) (fun b o hc e => u.there b o e hc) u.tups u.frzs u.tbls (fun m' hm => by
    obtain ⟨o', es', ep', ho', r'⟩ := hm
    rw [ho] at ho'; cases ho'
    exact ⟨_, es', ep', hL, r'⟩) hok hg
theorem Inv.turned {t' : Nat} {it : Addr} (I : Inv X pins σ H s) (k : ∀ b o, b ≠ it → s.heap.get? b = some o → h'.get? b = some o) (hn : H it = none) (hL : it ≠ X.env.locals)
    (h1 : it ∈ X.ex ∨ X.s₀.heap.objs.size ≤ it) (h2 : ∀ x c, X.env.cells.lookup x = some c → c ≠ it) (h3 : ∀ p ∈ X.pn ++ pins, p.1 ≠ it) : Inv X pins σ H { s with heap := h', toks := t' } := by
  have nit : ∀ b u, H b = some u → b ≠ it := fun b u e z => by rw [z, hn] at e; cases e
  refine I.step (g' := s.gens) (d' := s.drawn) (ch := [it]) (fun b hb => ?_) (fun b o _ _ hc e _ => k b o (fun z => hc (by simp [z])) e) (fun b o _ _ hc e _ => ⟨o.slots, k b o (fun z => hc (by simp [z])) e⟩) (fun _ _ _ _ n => n)
    (fun b o hc e => ⟨o, k b o (fun z => hc (by simp [z])) e⟩) (fun _ _ e => e) (fun _ _ _ e => e) (fun b ps e => ⟨#[], by rw [e]; simp⟩) (fun m hm => ?_) (fun b u e => ?_) I.bare
  · have e : b = it := by simpa using hb
    subst e
    exact ⟨h1, hL, h2, h3⟩
  · obtain ⟨o, es, ep, ho, r⟩ := hm
    exact ⟨o, es, ep, k _ o (Ne.symm hL) ho, r⟩
  · refine (I.hok b u e).stay (fun c v hc q => k c v ?_ q) (fun _ q => q) fun _ _ q => q
    rcases hc with z | z
    · rw [z]; exact nit b u e
    · exact nit c _ z
theorem Inv.tok (I : Inv X pins σ H s) (t : Nat) : Inv X pins σ H { s with toks := t } := I.un (h' := s.heap) (t' := t) Un.refl I.hok
theorem Inv.kept {t' : Nat} (I : Inv X pins σ H s) (k : ∀ b u, s.heap.get? b = some u → h'.get? b = some u) : Inv X pins σ H { s with heap := h', toks := t' } := I.un (Un.kept k) (I.hok.kept k)
theorem Inv.laid {a : Addr} {o : HO} {t' : Nat} (I : Inv X pins σ H s) (k : ∀ b u, s.heap.get? b = some u → h'.get? b = some u) (hp : s.heap.objs.size ≤ a) (new : ObjOk X.prog X.w (upd H a o) h' a o) :
    Inv X pins σ (upd H a o) { s with heap := h', toks := t' } := I.un (Un.laid k hp (I.hok.fresh hp)) (I.hok.laid k hp new)
theorem Inv.write {x e : Addr} {o : HO} {t' : Nat} (I : Inv X pins σ H s) (mu : Mut (H x)) (he : e = x ∨ H e = some (.own x)) (k : ∀ b u, b ≠ e → s.heap.get? b = some u → h'.get? b = some u) (heo : ∃ u, h'.get? e = some u)
    (new : ObjOk X.prog X.w (upd H x o) h' x o) : Inv X pins σ (upd H x o) { s with heap := h', toks := t' } := I.un (Un.write mu he k heo) (I.hok.write mu he k heo new)
theorem Inv.pins_of {pins' : List (Addr × Obj)} (I : Inv X pins σ H s) (h : ∀ p ∈ pins', s.heap.get? p.1 = some p.2 ∧ H p.1 = none ∧ p.1 ≠ X.env.locals ∧ p.1 ∉ X.fs ∧ ∀ v, p.2.data ≠ .cell v) : Inv X pins' σ H s :=
  ⟨I.ok, I.os, I.bare, I.base, I.loc, I.cell, I.free, I.freeC, fun p hp => (List.mem_append.mp hp).elim (fun z => I.pin p (List.mem_append_left _ z)) (h p), I.hok, I.len⟩
theorem nodup_ix {N : List Str} (hN : N.Nodup) {i j : Nat} {x : Str} (a : N[i]? = some x) (b : N[j]? = some x) : i = j := by
  obtain ⟨h1, e1⟩ := List.getElem?_eq_some_iff.mp a
  obtain ⟨h2, e2⟩ := List.getElem?_eq_some_iff.mp b
  exact (List.getElem_inj hN).mp (e1.trans e2.symm)
theorem store_ok2 {M : Model} {A : Around} {E : Value → Shared → Prop} {i : Nat} {x : Str} {v : V} {u : Value} {Q : Unit → Shared → Prop} (I : Inv X pins σ H s) (hN : X.N.Nodup) (hi : X.N[i]? = some x) (hx : Loc X.env.scope x) (r : RelV v u)
    (h : ∀ s', Inv X pins (σ.set i (some v)) H s' → (∃ a, Heap.SameBut a s.heap s'.heap ∧ (a = X.env.locals ∨ X.env.cells.lookup x = some a)) → Q () s') (hf : X.fn x = true ∨ X.env.scope.names.lookup x = some .local := by first | exact .inl rfl | exact .inr rfl | assumption) : wpAny M A (storeName X.env x u) Q E s := by
  obtain ⟨m, hn, hl⟩ := id I.loc
  have hcls : (X.env.scope.kind == .class || (X.env.scope.kind == .module && X.env.locals != X.env.globals)) = false := by rw [I.ok.kind]; rfl
  have hiσ : i < σ.length := by rw [I.len]; exact (List.getElem?_eq_some_iff.mp hi).1
  have cne := I.cne
  have tracked : ∀ {a : Addr} {h' : Heap}, (∃ o, s.heap.get? a = some o ∧ H a = none) → Heap.SameBut a s.heap h' → HOk X.prog X.w H h' := fun {a h'} ha hs b ob e => by
    obtain ⟨_, _, hfree⟩ := ha
    refine (I.hok b ob e).stay (fun c w' hc q => (hs.2 c ?_).trans q) (fun _ q => q) fun _ _ q => q
    rintro rfl
    rcases hc with rfl | hc
    · rw [hfree] at e; cases e
    · rw [hfree] at hc; cases hc
  rcases hx with hk | hk
  · refine wpAny_storeName_local hk hn (fun h' hn' hs => ?_) hcls
    obtain ⟨oL, _, _, hoL, _⟩ := id hn
    refine h _ ⟨I.ok, I.os, I.bare, ⟨fun b o e n hb hx => ?_, fun b o e n hb hx => ?_, I.base.free, fun b o e hx => ?_, I.base.tups, I.base.frzs, I.base.tbls⟩, ⟨_, hn', fun j y v' e1 e2 e3 => ?_⟩, fun y c e => ?_, I.free, I.freeC, fun p hp => ?_, tracked ⟨oL, hoL, I.free⟩ hs, by simpa using I.len⟩ ⟨_, hs, .inl rfl⟩
    · exact (hs.2 b (Nat.ne_of_lt (Nat.lt_of_lt_of_le (Heap.lt_size e) I.ok.above))).trans (I.base.keep b o e n hb hx)
    · obtain ⟨sl, e1⟩ := I.base.slot b o e n hb hx
      exact ⟨sl, (hs.2 b (Nat.ne_of_lt (Nat.lt_of_lt_of_le (Heap.lt_size e) I.ok.above))).trans e1⟩
    · obtain ⟨o', e1⟩ := I.base.there b o e hx
      exact ⟨o', (hs.2 b (Nat.ne_of_lt (Nat.lt_of_lt_of_le (Heap.lt_size e) I.ok.above))).trans e1⟩
    · by_cases hj : j = i
      · subst hj
        rw [hi] at e1; cases e1
        rw [List.getElem?_set_self hiσ] at e2
        cases e2
        exact ⟨u, r, .inl ⟨hk, by simp⟩⟩
      · rw [List.getElem?_set_ne (Ne.symm hj)] at e2
        obtain ⟨u', r', q⟩ := hl j y v' e1 e2 e3
        refine ⟨u', r', ?_⟩
        rcases q with ⟨k, e⟩ | ⟨k, c, e, z⟩
        · refine .inl ⟨k, ?_⟩
          have : y ≠ x := fun e => hj (nodup_ix hN e1 (e ▸ hi))
          simp [this, e]
        · exact .inr ⟨k, c, e, z.sameBut hs (cne y c e)⟩
    · obtain ⟨w', z⟩ := I.cell y c e
      exact ⟨w', z.sameBut hs (cne y c e)⟩
    · obtain ⟨e, n, ne, nf, d⟩ := I.pin p hp
      exact ⟨(hs.2 p.1 ne).trans e, n, ne, nf, d⟩
  · have hfn : X.fn x = true := by
      rcases hf with z | z
      · exact z
      · rw [z] at hk; cases hk
    obtain ⟨c, hc⟩ := I.ok.has x (.inl hk)
    obtain ⟨w', z⟩ := I.cell x c hc
    refine wpAny_storeName_cell I.ok.kind hk hc z (fun h' hc' hs => ?_)
    obtain ⟨oc, hoc, hocd⟩ := id z
    refine h { s with heap := h' } ⟨I.ok, I.os, I.bare, ⟨fun b o e n hb hx => ?_, fun b o e n hb hx => ?_, I.base.free, fun b o e hx => ?_, I.base.tups, I.base.frzs, I.base.tbls⟩, ⟨m, hn.sameBut hs (Ne.symm (cne x c hc)), fun j y v' e1 e2 e3 => ?_⟩, fun y c' e => ?_, I.free, I.freeC, fun p hp => ?_, tracked ⟨oc, hoc, I.freeC x c hc⟩ hs, by simpa using I.len⟩ ⟨c, hs, .inr hc⟩
    · exact (hs.2 b (Nat.ne_of_lt (Nat.lt_of_lt_of_le (Heap.lt_size e) (I.ok.cab x c hfn hc)))).trans (I.base.keep b o e n hb hx)
    · obtain ⟨sl, e1⟩ := I.base.slot b o e n hb hx
      exact ⟨sl, (hs.2 b (Nat.ne_of_lt (Nat.lt_of_lt_of_le (Heap.lt_size e) (I.ok.cab x c hfn hc)))).trans e1⟩
    · obtain ⟨o', e1⟩ := I.base.there b o e hx
      exact ⟨o', (hs.2 b (Nat.ne_of_lt (Nat.lt_of_lt_of_le (Heap.lt_size e) (I.ok.cab x c hfn hc)))).trans e1⟩
    · by_cases hj : j = i
      · subst hj
        rw [hi] at e1; cases e1
        rw [List.getElem?_set_self hiσ] at e2
        cases e2
        exact ⟨u, r, .inr ⟨.inl hk, c, hc, hc'⟩⟩
      · rw [List.getElem?_set_ne (Ne.symm hj)] at e2
        obtain ⟨u', r', q⟩ := hl j y v' e1 e2 e3
        refine ⟨u', r', ?_⟩
        rcases q with q | ⟨k, c', e, z'⟩
        · exact .inl q
        · refine .inr ⟨k, c', e, z'.sameBut hs ?_⟩
          rintro rfl
          exact hj (nodup_ix hN e1 (I.ok.inj _ _ _ e hc ▸ hi))
    · by_cases hcc : c' = c
      · subst hcc; exact ⟨_, hc'⟩
      · obtain ⟨w2, z2⟩ := I.cell y c' e
        exact ⟨w2, z2.sameBut hs hcc⟩
    · obtain ⟨e, n, ne, nf, d⟩ := I.pin p hp
      refine ⟨(hs.2 p.1 ?_).trans e, n, ne, nf, d⟩
      intro q
      rw [q, hoc] at e
      have q' : oc = p.2 := Option.some.inj e
      exact d w' (by rw [← q']; exact hocd)
theorem store_ok {M : Model} {A : Around} {E : Value → Shared → Prop} {i : Nat} {x : Str} {v : V} {u : Value} {Q : Unit → Shared → Prop} (I : Inv X pins σ H s) (hN : X.N.Nodup) (hi : X.N[i]? = some x) (hx : Loc X.env.scope x) (r : RelV v u)
    (h : ∀ s', Inv X pins (σ.set i (some v)) H s' → Q () s') (hf : X.fn x = true ∨ X.env.scope.names.lookup x = some .local := by first | exact .inl rfl | exact .inr rfl | assumption) : wpAny M A (storeName X.env x u) Q E s :=
  store_ok2 I hN hi hx r (fun s' I' _ => h s' I') hf
theorem Inv.call' {s' : Shared} {ch : List Addr} (I : Inv X pins σ H s) (ho : s'.os = s.os) (u : Un (frs X.stack) ch H H' s.heap s'.heap) (hok : HOk X.prog X.w H' s'.heap) (hg : AllBare s'.gens)
    (hch : ∀ b ∈ ch, (b ∈ X.ex ∨ X.s₀.heap.objs.size ≤ b) ∧ b ≠ X.env.locals ∧ (∀ x c, X.env.cells.lookup x = some c → c ≠ b) ∧ ∀ p ∈ X.pn ++ pins, p.1 ≠ b) : Inv X pins σ H' s' := by
  obtain ⟨h', g', d', t', o'⟩ := s'
  have e : o' = s.os := ho
  subst e
  exact I.call (g' := g') (t' := t') (d' := d') u hok hg hch
end
abbrev XK := Value → Option Addr → Hp → Prop
abbrev St := List (Option V)
abbrev VK := V → Hp → Prop
abbrev TE := St → Hp → VK → Prop
abbrev TT := St → Hp → (Bool → Hp → Prop) → Prop
abbrev TA := St → Hp → (List V → Hp → Prop) → Prop
structure Ends where
  nx : St → Hp → Prop
  rt : VK
  bk : St → Hp → Prop := fun _ _ => False
  ct : St → Hp → Prop := fun _ _ => False
abbrev TS := Ends → St → Hp → Prop
def EP (X : Cx) (pins : List (Addr × Obj)) (σ : St) (Q : VK) (u : Value) (s' : Shared) : Prop := ∃ v H', Inv X pins σ H' s' ∧ RelV v u ∧ Q v H'
def TP (X : Cx) (pins : List (Addr × Obj)) (σ : St) (Q : Bool → Hp → Prop) (b : Bool) (s' : Shared) : Prop := ∃ H', Inv X pins σ H' s' ∧ Q b H'
def AP (X : Cx) (pins : List (Addr × Obj)) (σ : St) (Q : List V → Hp → Prop) (us : List Value) (s' : Shared) : Prop := ∃ vs H', Inv X pins σ H' s' ∧ Vals vs us ∧ Q vs H'
def SP (X : Cx) (pins : List (Addr × Obj)) (D : Ends) (f : Flow) (s' : Shared) : Prop :=
  match f with
  | .next => ∃ σ' H', Inv X pins σ' H' s' ∧ D.nx σ' H'
  | .brk => ∃ σ' H', Inv X pins σ' H' s' ∧ D.bk σ' H'
  | .cont => ∃ σ' H', Inv X pins σ' H' s' ∧ D.ct σ' H'
  | .ret u => ∃ v σ' H', Inv X pins σ' H' s' ∧ RelV v u ∧ D.rt v H'
def PE (X : Cx) (e : Expr) (t : TE) : Prop :=
  ∀ (pins : List (Addr × Obj)) (s : Shared) (σ : St) (H : Hp) (Q : VK), Inv X pins σ H s → t σ H Q → wpAny (model X.prog X.w) X.A (eval e X.env) (EP X pins σ Q) X.xe s
def PT (X : Cx) (e : Expr) (t : TT) : Prop :=
  ∀ (pins : List (Addr × Obj)) (s : Shared) (σ : St) (H : Hp) (Q : Bool → Hp → Prop), Inv X pins σ H s → t σ H Q → wpAny (model X.prog X.w) X.A (isTrue e X.env (eval e X.env)) (TP X pins σ Q) X.xe s
def PW (X : Cx) (e : Expr) (t : TT) : Prop :=
  ∀ (whole : Sem Value) (pins : List (Addr × Obj)) (s : Shared) (σ : St) (H : Hp) (Q : Bool → Hp → Prop), Inv X pins σ H s → t σ H Q → wpAny (model X.prog X.w) X.A (isTrue e X.env whole) (TP X pins σ Q) X.xe s
theorem PW.pt {X : Cx} {e : Expr} {t : TT} (h : PW X e t) : PT X e t := h _
def PA (X : Cx) (es : List Expr) (t : TA) : Prop :=
  ∀ (pos : Pos) (pins : List (Addr × Obj)) (s : Shared) (σ : St) (H : Hp) (Q : List V → Hp → Prop), Inv X pins σ H s → t σ H Q → wpAny (model X.prog X.w) X.A (spliced (backTo pos (starEach es X.env))) (AP X pins σ Q) X.xe s
def PS (X : Cx) (st : Stmt) (t : TS) : Prop :=
  ∀ (pins : List (Addr × Obj)) (s : Shared) (σ : St) (H : Hp) (D : Ends), Inv X pins σ H s → t D σ H → wpAny (model X.prog X.w) X.A (exec st X.env) (SP X pins D) X.xe s
def PSs (X : Cx) (st : List Stmt) (t : TS) : Prop :=
  ∀ (pins : List (Addr × Obj)) (s : Shared) (σ : St) (H : Hp) (D : Ends), Inv X pins σ H s → t D σ H → wpAny (model X.prog X.w) X.A (execs st X.env) (SP X pins D) X.xe s
theorem thn {α : Type} {t : Sem α} {Q Q' : α → Shared → Prop} {M : Model} {A : Around} {E : Value → Shared → Prop} {s : Shared} (h : wpAny M A t Q E s) (hQ : ∀ a s, Q a s → Q' a s) : wpAny M A t Q' E s := wpAny_mono h hQ fun _ _ x => x
end L2
namespace L2
open PySem PySem.Spec PyProof.Rows
section
variable {X : Cx}
theorem bin {a b : Expr} {ta tb : TE} (ha : PE X a ta) (hb : PE X b tb) {pins : List (Addr × Obj)} {s : Shared} {σ : St} {H : Hp} {R : V → V → Hp → Prop} (I : Inv X pins σ H s) (h : ta σ H fun x H1 => tb σ H1 fun y H2 => R x y H2)
    {α : Type} {Q : α → Shared → Prop} {f : Value → Value → Sem α}
    (hf : ∀ v u s2 x y H2, Inv X pins σ H2 s2 → RelV x v → RelV y u → R x y H2 → wpAny (model X.prog X.w) X.A (f v u) Q X.xe s2) :
    wpAny (model X.prog X.w) X.A (eval a X.env) (fun v s₁ => wpAny (model X.prog X.w) X.A (eval b X.env) (fun u s₂ => wpAny (model X.prog X.w) X.A (f v u) Q X.xe s₂) X.xe s₁) X.xe s := by
  refine thn (ha pins s σ H _ I h) fun v s1 ⟨x, H1, I1, r1, q1⟩ => ?_
  refine thn (hb pins s1 σ H1 _ I1 q1) fun u s2 ⟨y, H2, I2, r2, q2⟩ => ?_
  exact hf v u s2 x y H2 I2 r1 r2 q2
def tVar (i : Nat) : TE := fun σ H Q => ∃ v, σ[i]? = some (some v) ∧ Q v H
def tC (v : V) : TE := fun _ H Q => Q v H
theorem pe_var {i : Nat} {x : Str} {pos : Pos} (hN : X.N[i]? = some x) (hv : Vis X.env.scope x) (hd : (x == ("__debug__" : Str)) = false := by decide) (hcd : (x == ("__classdict__" : Str)) = false := by decide) : PE X (.Name x pos) (tVar i) := by
  intro pins s σ H Q I h
  obtain ⟨v, e, h⟩ := h
  obtain ⟨m, hn, hl⟩ := I.loc
  obtain ⟨u, r, l⟩ := hl i x v hN e hv
  have fin : EP X pins σ Q u s := ⟨v, H, I, r, h⟩
  rcases l with ⟨hk, hm⟩ | ⟨hk, c, hc, hcell⟩
  · exact wpAny_Name (wpAny_loadName_local I.ok.kind hk hn hm fin) hd
  · rcases hk with hk | hk
    · exact wpAny_Name (wpAny_loadName_cell I.ok.kind hk hc hcell fin) hd
    · exact wpAny_Name (wpAny_loadName_free I.ok.kind hk hc hcell fin hcd) hd
theorem pe_int {i j pos} : PE X (.Constant (.int i) j pos) (tC (.int i)) := fun _ _ _ H _ I h => wpAny_Constant_int ⟨.int i, H, I.tok _, ⟨_, rfl⟩, h⟩
theorem pe_bl {b j pos} : PE X (.Constant (.bool b) j pos) (tC (.bl b)) := fun _ _ _ H _ I h => Constant_bool ⟨.bl b, H, I, rfl, h⟩
theorem pe_str {x j pos} : PE X (.Constant (.str x) j pos) (tC (.str x)) := fun _ _ _ H _ I h => Calls.Constant_str ⟨.str x, H, I.tok _, ⟨_, rfl⟩, h⟩
def Gl (X : Cx) (x : Str) : Prop := X.env.kindOf x = some .globalImplicit
theorem ld_glob {E : Value → Shared → Prop} {pins : List (Addr × Obj)} {s : Shared} {σ : St} {H : Hp} {x : Str} {u : Value} {pos : Pos} {Q : Value → Shared → Prop} (I : Inv X pins σ H s) (hg : Gl X x) (hm : X.mg x = some u) (h : Q u s)
    (hd : (x == ("__debug__" : Str)) = false := by decide) : wpAny (model X.prog X.w) X.A (eval (.Name x pos) X.env) Q E s :=
  Calls.Name_function_global I.ok.kind hg (Calls.loadGlobal_global (by rw [I.ok.glob]; exact I.mod.glob.keeps I.bk) hm h) hd
theorem ld_blt {E : Value → Shared → Prop} {pins : List (Addr × Obj)} {s : Shared} {σ : St} {H : Hp} {x : Str} {u : Value} {pos : Pos} {Q : Value → Shared → Prop} (I : Inv X pins σ H s) (hg : Gl X x) (hm : X.mg x = none) (hv : bootBuiltins x = some u) (h : Q u s)
    (hn : x ≠ "__name__" := by decide) (hd : (x == ("__debug__" : Str)) = false := by decide) : wpAny (model X.prog X.w) X.A (eval (.Name x pos) X.env) Q E s := by
  obtain ⟨mb, h1, h2⟩ := I.mod.blt
  exact Calls.Name_function_global I.ok.kind hg (Calls.loadGlobal_builtin (by rw [I.ok.glob]; exact I.mod.glob.keeps I.bk) hm (by rw [I.ok.blt]; exact h1.keeps I.bk) ((h2 x hn).trans hv) h) hd
theorem pe_glob {x : Str} {v : V} {u : Value} {pos : Pos} (hg : Gl X x) (hm : X.mg x = some u) (r : RelV v u) (hd : (x == ("__debug__" : Str)) = false := by decide) : PE X (.Name x pos) (tC v) :=
  fun _ _ _ H _ I h => ld_glob I hg hm ⟨v, H, I, r, h⟩ hd
theorem pe_bltn {x : Str} {v : V} {u : Value} {pos : Pos} (hg : Gl X x) (hm : X.mg x = none) (hv : bootBuiltins x = some u) (r : RelV v u) (hn : x ≠ "__name__" := by decide) (hd : (x == ("__debug__" : Str)) = false := by decide) : PE X (.Name x pos) (tC v) :=
  fun _ _ _ H _ I h => ld_blt I hg hm hv ⟨v, H, I, r, h⟩ hn hd
variable {a b : Expr} {ta tb : TE} {pos : Pos}
def PC (X : Cx) (op : CmpOp) (a b : Expr) (t : TE) : Prop :=
  ∀ (pins : List (Addr × Obj)) (s : Shared) (σ : St) (H : Hp) (Q : VK), Inv X pins σ H s → t σ H Q →
    wpAny (model X.prog X.w) X.A (eval a X.env) (fun v s₁ => wpAny (model X.prog X.w) X.A (eval b X.env) (fun u s₂ => wpAny (model X.prog X.w) X.A (compareOp op v u) (EP X pins σ Q) X.xe s₂) X.xe s₁) X.xe s
def tB (t : TE) : TT := fun σ H Q => t σ H fun x H1 => ∃ c, x = .bl c ∧ Q c H1
theorem pt_cmp {op : CmpOp} {t : TE} (h : PC X op a b t) (h1 : behindInMarks op b = false := by first | exact nobehind _ (by decide) (by decide) | rfl) : PT X (.Compare a [op] [b] pos) (tB t) := by
  intro pins s σ H Q I hw
  refine wpAny_isTrue_Compare1 (thn (h pins s σ H _ I hw) fun v s1 h1 => thn h1 fun u s2 h2 => thn h2 fun c s3 ⟨x, H1, I1, r1, q1⟩ => ?_) h1
  obtain ⟨d, rfl, q⟩ := q1
  cases r1
  exact wpAny_truthy_bool ⟨H1, I1, q⟩
theorem pt_val {e : Expr} {t : TE} (h : PE X e t) (he : ∀ whole, isTrue e X.env whole = (do let v ← whole; standAt e.pos; holding [v] (truthy v)) := by intro _; rfl) : PT X e (tB t) := by
  intro pins s σ H Q I hw
  refine isTrue_plain (thn (h pins s σ H _ I hw) fun v s1 ⟨x, H1, I1, r1, q1⟩ => ?_) (he _)
  obtain ⟨d, rfl, q⟩ := q1
  cases r1
  exact wpAny_truthy_bool ⟨H1, I1, q⟩
variable {tA tB' : TT} {rest : List Expr}
def tAnd (t u : TT) : TT := fun σ H Q => t σ H fun c H1 => if c = true then u σ H1 Q else Q false H1
def tOr (t u : TT) : TT := fun σ H Q => t σ H fun c H1 => if c = true then Q true H1 else u σ H1 Q
def tNot (t : TT) : TT := fun σ H Q => t σ H fun c H1 => Q (!c) H1
theorem pw_and1 (ha : PT X a tA) : PW X (.BoolOp .And [a] pos) tA := by
  intro wh pins s σ H Q I h
  refine isTrue_and (thn (ha pins s σ H Q I h) fun c s1 e => ?_)
  cases c with
  | true => exact isTrue_and_nil e
  | false => exact e
theorem pw_or1 (ha : PT X a tA) : PW X (.BoolOp .Or [a] pos) tA := by
  intro wh pins s σ H Q I h
  refine isTrue_or (thn (ha pins s σ H Q I h) fun c s1 e => ?_)
  cases c with
  | false => exact isTrue_or_nil e
  | true => exact e
theorem pw_and (ha : PT X a tA) (hb : PW X (.BoolOp .And (b :: rest) pos) tB') : PW X (.BoolOp .And (a :: b :: rest) pos) (tAnd tA tB') := by
  intro wh pins s σ H Q I h
  refine isTrue_and (thn (ha pins s σ H _ I h) fun c s1 ⟨H1, I1, q1⟩ => ?_)
  cases c with
  | true => exact hb wh pins s1 σ H1 Q I1 q1
  | false => exact ⟨H1, I1, q1⟩
theorem pw_or (ha : PT X a tA) (hb : PW X (.BoolOp .Or (b :: rest) pos) tB') : PW X (.BoolOp .Or (a :: b :: rest) pos) (tOr tA tB') := by
  intro wh pins s σ H Q I h
  refine isTrue_or (thn (ha pins s σ H _ I h) fun c s1 ⟨H1, I1, q1⟩ => ?_)
  cases c with
  | true => exact ⟨H1, I1, q1⟩
  | false => exact hb wh pins s1 σ H1 Q I1 q1
theorem pt_not (ha : PT X a tA) : PT X (.UnaryOp .Not a pos) (tNot tA) := by
  intro pins s σ H Q I h
  exact isTrue_not (ha pins s σ H (fun c H1 => Q (!c) H1) I h)
def tAndV (ta tb : TE) : TE := fun σ H Q => ta σ H fun x H1 => ∃ c, x = .bl c ∧ if c = true then tb σ H1 Q else Q (.bl false) H1
def tOrV (ta tb : TE) : TE := fun σ H Q => ta σ H fun x H1 => ∃ c, x = .bl c ∧ if c = true then Q (.bl true) H1 else tb σ H1 Q
def tNotV (ta : TE) : TE := fun σ H Q => ta σ H fun x H1 => ∃ c, x = .bl c ∧ Q (.bl (!c)) H1
theorem pe_one {op} {t : TE} (h : PE X a t) : PE X (.BoolOp op [a] pos) t := fun pins s σ H Q I hw => BoolOp_one (h pins s σ H Q I hw)
theorem pe_and (ha : PE X a ta) (hb : PE X (.BoolOp .And (b :: rest) pos) tb) : PE X (.BoolOp .And (a :: b :: rest) pos) (tAndV ta tb) := by
  intro pins s σ H Q I h
  refine BoolOp_and (thn (ha pins s σ H _ I h) fun v s1 ⟨x, H1, I1, r1, q1⟩ => ?_)
  obtain ⟨c, rfl, q1⟩ := q1
  cases r1
  refine wpAny_truthy_bool ?_
  cases c with
  | true => exact hb pins s1 σ H1 Q I1 q1
  | false => exact ⟨.bl false, H1, I1, rfl, q1⟩
theorem pe_or (ha : PE X a ta) (hb : PE X (.BoolOp .Or (b :: rest) pos) tb) : PE X (.BoolOp .Or (a :: b :: rest) pos) (tOrV ta tb) := by
  intro pins s σ H Q I h
  refine BoolOp_or (thn (ha pins s σ H _ I h) fun v s1 ⟨x, H1, I1, r1, q1⟩ => ?_)
  obtain ⟨c, rfl, q1⟩ := q1
  cases r1
  refine wpAny_truthy_bool ?_
  cases c with
  | false => exact hb pins s1 σ H1 Q I1 q1
  | true => exact ⟨.bl true, H1, I1, rfl, q1⟩
theorem pe_not (ha : PE X a ta) : PE X (.UnaryOp .Not a pos) (tNotV ta) := by
  intro pins s σ H Q I h
  refine UnaryOp_ (thn (ha pins s σ H _ I h) fun v s1 ⟨x, H1, I1, r1, q1⟩ => ?_)
  obtain ⟨c, rfl, q1⟩ := q1
  cases r1
  exact not_of (wpAny_truthy_bool ⟨.bl (!c), H1, I1, rfl, q1⟩)
end
end L2
namespace L2
open PySem PySem.Spec PyProof.Rows
def SqL (K : PySem.W.Frag) (H : Hp) (a : Addr) (xs : List V) : Prop :=
  Rd H a (.lst xs) ∨
    ∃ (o : Obj) (its : Array Value) (n : Nat), K.lookup a = some o ∧ o.cls = .type "list" ∧ o.dict = none ∧ o.data = .seq its n ∧ its.size ≤ sizeLine ∧ Vals xs its.toList
def SqT (K : PySem.W.Frag) (H : Hp) (a : Addr) (xs : List V) : Prop :=
  Rd H a (.tup xs) ∨
    ∃ (o : Obj) (its : Array Value) (n : Nat), K.lookup a = some o ∧ o.cls = .type "tuple" ∧ o.data = .seq its n ∧ its.size ≤ sizeLine ∧ Vals xs its.toList
def absV : Value → Option V
  | .none => some .non
  | .bool b => some (.bl b)
  | .int i _ => some (.int i)
  | .str x _ => some (.str x)
  | .bytes b _ => some (.byt b)
  | .float b _ => some (.flt b)
  | .ref a => some (.ref a)
  | .type n => some (.ty n)
  | _ => none
theorem RelV.abs {x : V} {u : Value} (r : RelV x u) : absV u = some x := by
  cases x with
  | non => cases r; rfl
  | bl _ => cases r; rfl
  | int _ => obtain ⟨t, rfl⟩ := r; rfl
  | str _ => obtain ⟨t, rfl⟩ := r; rfl
  | byt _ => obtain ⟨t, rfl⟩ := r; rfl
  | flt _ => obtain ⟨t, rfl⟩ := r; rfl
  | ref _ => cases r; rfl
  | ty _ => cases r; rfl
theorem RelV.inj {x y : V} {u : Value} (r : RelV x u) (q : RelV y u) : x = y := Option.some.inj (r.abs.symm.trans q.abs)
theorem Vals.inj : ∀ {xs ys : List V} {us : List Value}, Vals xs us → Vals ys us → xs = ys
  | _, _, _, .nil, .nil => rfl
  | _, _, _, .cons r t, .cons r' t' => by rw [r.inj r', Vals.inj t t']
section
variable {X : Cx} {pins : List (Addr × Obj)} {σ : St} {H : Hp} {s : Shared} {a : Addr} {xs ys : List V}
theorem SqL.of {K : PySem.W.Frag} (h : H a = some (.lst xs)) : SqL K H a xs := .inl (.inl h)
theorem SqT.of {K : PySem.W.Frag} (h : H a = some (.tup xs)) : SqT K H a xs := .inl (.inl h)
theorem Inv.list (I : Inv X pins σ H s) (h : SqL X.K H a xs) : ∃ its : List Value, Vals xs its ∧ PlainL s.heap a its.toArray ∧ xs.length ≤ sizeLine := by
  rcases h with h | ⟨o, its, n, hk, hc, hd, hs, hz, r⟩
  · obtain ⟨z, its, n, r, e⟩ := h.ok I.hok
    exact ⟨its, r, ⟨_, n, e, rfl, rfl, rfl⟩, z⟩
  · refine ⟨its.toList, r, ⟨o, n, I.kIn a o hk, hc, hd, by simpa using hs⟩, ?_⟩
    have e := r.length
    simp only [Array.length_toList] at e
    omega
theorem Inv.tuple (I : Inv X pins σ H s) (h : SqT X.K H a xs) : ∃ its : List Value, Vals xs its ∧ IsTup s.heap a its.toArray ∧ xs.length ≤ sizeLine := by
  rcases h with h | ⟨o, its, n, hk, hc, hs, hz, r⟩
  · obtain ⟨z, its, r, p⟩ := h.ok I.hok
    exact ⟨its, r, p, z⟩
  · refine ⟨its.toList, r, ⟨o, I.kIn a o hk, hc, n, by simpa using hs⟩, ?_⟩
    have e := r.length
    simp only [Array.length_toList] at e
    omega
theorem Inv.list_inj (I : Inv X pins σ H s) (h : SqL X.K H a xs) (h' : SqL X.K H a ys) : xs = ys := by
  obtain ⟨its, r, ⟨o, n, e, _, _, d⟩, _⟩ := I.list h
  obtain ⟨its', r', ⟨o', n', e', _, _, d'⟩, _⟩ := I.list h'
  rw [e] at e'; cases e'
  rw [d] at d'
  injection d' with d1 _
  have : its = its' := by simpa using congrArg Array.toList d1
  subst this
  exact r.inj r'
theorem Inv.tuple_inj (I : Inv X pins σ H s) (h : SqT X.K H a xs) (h' : SqT X.K H a ys) : xs = ys := by
  obtain ⟨its, r, ⟨o, e, _, n, d⟩, _⟩ := I.tuple h
  obtain ⟨its', r', ⟨o', e', _, n', d'⟩, _⟩ := I.tuple h'
  rw [e] at e'; cases e'
  rw [d] at d'
  injection d' with d1 _
  have : its = its' := by simpa using congrArg Array.toList d1
  subst this
  exact r.inj r'
end
abbrev Cx.wish (X : Cx) (E : Value → Shared → Prop) : Cx := { X with xe := E }
abbrev Cx.nox (X : Cx) : Cx := X.wish fun _ _ => False
theorem Cx.Ok.wish {X : Cx} (ok : X.Ok) (E : Value → Shared → Prop) : (X.wish E).Ok :=
  ⟨ok.mod, ok.kind, ok.glob, ok.blt, ok.above, ok.inj, ok.has, ok.cab, ok.hd, ok.frames, ok.stk, ok.exf, ok.bs, ok.bsz, ok.noex, ok.exfs, ok.funs, ok.frf⟩
theorem Cx.Ok.unwish {X : Cx} {E : Value → Shared → Prop} (ok : (X.wish E).Ok) : X.Ok :=
  ⟨ok.mod, ok.kind, ok.glob, ok.blt, ok.above, ok.inj, ok.has, ok.cab, ok.hd, ok.frames, ok.stk, ok.exf, ok.bs, ok.bsz, ok.noex, ok.exfs, ok.funs, ok.frf⟩
section
variable {X : Cx} {pins : List (Addr × Obj)} {σ : St} {H : Hp} {s : Shared} {E : Value → Shared → Prop}
theorem Inv.wish (I : Inv X pins σ H s) (E : Value → Shared → Prop) : Inv (X.wish E) pins σ H s := ⟨I.ok.wish E, I.os, I.bare, I.base, I.loc, I.cell, I.free, I.freeC, I.pin, I.hok, I.len⟩
theorem Inv.unwish (I : Inv (X.wish E) pins σ H s) : Inv X pins σ H s := ⟨I.ok.unwish, I.os, I.bare, I.base, I.loc, I.cell, I.free, I.freeC, I.pin, I.hok, I.len⟩
theorem SP.unwish {D : Ends} {f : Flow} {s' : Shared} (h : SP (X.wish E) pins D f s') : SP X pins D f s' := by
  cases f with
  | next => obtain ⟨σ', H', I, q⟩ := h; exact ⟨σ', H', I.unwish, q⟩
  | brk => obtain ⟨σ', H', I, q⟩ := h; exact ⟨σ', H', I.unwish, q⟩
  | cont => obtain ⟨σ', H', I, q⟩ := h; exact ⟨σ', H', I.unwish, q⟩
  | ret u => obtain ⟨v, σ', H', I, r, q⟩ := h; exact ⟨v, σ', H', I.unwish, r, q⟩
theorem PSs.nox {st : List Stmt} {t : TS} (h : PSs X.nox st t) : PSs X st t := fun pins s σ H D I hw =>
  wpAny_mono (h pins s σ H D (I.wish _) hw) (fun _ _ q => q.unwish) fun _ _ z => False.elim z
end
section
variable {X : Cx} {st : Stmt} {rest : List Stmt} {t u : TS} {e : Expr} {te : TE} {pos : Pos}
def tNext : TS := fun D σ H => D.nx σ H
def tSeq (t u : TS) : TS := fun D σ H => t { D with nx := u D } σ H
theorem pss_nil : PSs X [] tNext := fun _ _ σ H _ I h => wpAny_execs_nil ⟨σ, H, I, h⟩
theorem pss_cons (h1 : PS X st t) (h2 : PSs X rest u) : PSs X (st :: rest) (tSeq t u) := by
  intro pins s σ H D I h
  refine wpAny_execs_cons (thn (h1 pins s σ H { D with nx := u D } I h) fun f s1 q => ?_)
  cases f with
  | next =>
    obtain ⟨σ', H', I', q⟩ := q
    exact h2 pins s1 σ' H' D I' q
  | ret v => exact q
  | brk => exact q
  | cont => exact q
theorem pss_one (h1 : PS X st t) : PSs X [st] t := by
  intro pins s σ H D I h
  refine wpAny_execs_cons (thn (h1 pins s σ H D I h) fun f s1 q => ?_)
  cases f with
  | next => exact wpAny_execs_nil q
  | ret v => exact q
  | brk => exact q
  | cont => exact q
theorem Inv.quiet {pins : List (Addr × Obj)} {σ : St} {H : Hp} {s : Shared} (I : Inv X pins σ H s) : interactive X.env = false := by simp [interactive, I.ok.kind]
def tDrop (te : TE) : TS := fun D σ H => te σ H fun _ H1 => D.nx σ H1
theorem ps_expr (he : PE X e te) (hs : swapsWith e none pos.line X.env = pure false := by rfl) : PS X (.Expr e pos) (tDrop te) := by
  intro pins s σ H D I h
  exact wpAny_Expr_any (thn (he pins s σ H _ I h) fun v s1 ⟨x, H1, I1, r1, q1⟩ => ⟨σ, H1, I1, q1⟩) I.quiet hs
def tRet (te : TE) : TS := fun D σ H => te σ H D.rt
theorem ps_ret (he : PE X e te) : PS X (.Return (some e) pos) (tRet te) := by
  intro pins s σ H D I h
  exact wpAny_Return_some (thn (he pins s σ H _ I h) fun v s1 ⟨x, H1, I1, r1, q1⟩ => ⟨x, σ, H1, I1, r1, q1⟩)
def tIfS (c : TT) (t u : TS) : TS := fun D σ H => c σ H fun b H1 => if b = true then t D σ H1 else u D σ H1
theorem ps_if {c : Expr} {a b : List Stmt} {tc : TT} (hc : PT X c tc) (ha : PSs X a t) (hb : PSs X b u) : PS X (.If c a b pos) (tIfS tc t u) := by
  intro pins s σ H D I h
  refine wpAny_If (thn (hc pins s σ H _ I h) fun d s1 ⟨H1, I1, q1⟩ => ?_)
  cases d with
  | true => exact ha pins s1 σ H1 D I1 q1
  | false => exact hb pins s1 σ H1 D I1 q1
end
abbrev TG := V → St → Hp → (St → Hp → Prop) → Prop
abbrev TGs := List V → St → Hp → (St → Hp → Prop) → Prop
def PG (X : Cx) (target : Expr) (t : TG) : Prop :=
  ∀ (pins : List (Addr × Obj)) (s : Shared) (σ : St) (H : Hp) (v : V) (u : Value) (Q : St → Hp → Prop), Inv X pins σ H s → RelV v u → t v σ H Q →
    wpAny (model X.prog X.w) X.A (assign target X.env u) (fun _ s' => ∃ σ' H', Inv X pins σ' H' s' ∧ Q σ' H') X.xe s
def PGs (X : Cx) (ts : List Expr) (t : TGs) : Prop :=
  ∀ (pins : List (Addr × Obj)) (s : Shared) (σ : St) (H : Hp) (vs : List V) (us : List Value) (Q : St → Hp → Prop), Inv X pins σ H s → Vals vs us → t vs σ H Q →
    wpAny (model X.prog X.w) X.A (assignInOrder ((assignEach ts X.env).map (·.2)) us) (fun _ s' => ∃ σ' H', Inv X pins σ' H' s' ∧ Q σ' H') X.xe s
abbrev TSet := V → V → V → Hp → (Hp → Prop) → Prop
def PSet (X : Cx) (t : TSet) : Prop :=
  ∀ (pins : List (Addr × Obj)) (s : Shared) (σ : St) (H : Hp) (o i v : V) (ov iv u : Value) (Q : Hp → Prop), Inv X pins σ H s → RelV o ov → RelV i iv → RelV v u → t o i v H Q →
    wpAny (model X.prog X.w) X.A (setItem ov iv u) (fun _ s' => ∃ H', Inv X pins σ H' s' ∧ Q H') X.xe s
section
variable {X : Cx} {pos : Pos}
def gName (i : Nat) : TG := fun v σ H Q => Q (σ.set i (some v)) H
theorem pg_name {i : Nat} {x : Str} (hN : X.N.Nodup) (hi : X.N[i]? = some x) (hx : Loc X.env.scope x) (hf : X.fn x = true ∨ X.env.scope.names.lookup x = some .local := by first | exact .inl rfl | exact .inr rfl | assumption) : PG X (.Name x pos) (gName i) := by
  intro pins s σ H v u Q I r h
  exact wpAny_assign_Name (store_ok I hN hi hx r (fun s' I' => ⟨_, H, I', h⟩) hf)
def gNil : TGs := fun vs σ H Q => vs = [] ∧ Q σ H
def gCons (t : TG) (u : TGs) : TGs := fun vs σ H Q => ∃ v r, vs = v :: r ∧ t v σ H fun σ' H' => u r σ' H' Q
theorem pgs_nil : PGs X [] gNil := by
  intro pins s σ H vs us Q I r h
  obtain ⟨e, h⟩ := h
  subst e
  cases r
  exact assignInOrder_nil ⟨σ, H, I, h⟩
theorem pgs_cons {e : Expr} {es : List Expr} {t : TG} {u : TGs} (h1 : PG X e t) (h2 : PGs X es u)
    (hs : (assignEach (e :: es) X.env).map (·.2) = assign e X.env :: (assignEach es X.env).map (·.2) := by rfl) : PGs X (e :: es) (gCons t u) := by
  intro pins s σ H vs us Q I r h
  obtain ⟨v, vr, e1, h⟩ := h
  subst e1
  cases r with
  | cons r rr =>
    rw [hs]
    refine assignInOrder_cons (thn (h1 pins s σ H _ _ _ I r h) fun _ s1 ⟨σ1, H1, I1, q1⟩ => ?_)
    exact h2 pins s1 σ1 H1 _ _ Q I1 rr q1
def gTup (K : PySem.W.Frag) (n : Nat) (t : TGs) : TG := fun v σ H Q => ∃ a xs, v = .ref a ∧ SqT K H a xs ∧ xs.length = n ∧ t xs σ H Q
theorem pg_tup {es : List Expr} {k : Nat} {t : TGs} {n : Nat} (hc : X.calm = true) (h : PGs X es t)
    (hn : (assignEach es X.env).length = n := by rfl) (hst : (assignEach es X.env).findIdx? (·.1) = none := by rfl) : PG X (.Tuple es k pos) (gTup X.K n t) := by
  intro pins s σ H v u Q I r hw
  obtain ⟨a, xs, e1, hq, hl, hw⟩ := hw
  subst e1
  cases r
  obtain ⟨its, rv, ht, hz⟩ := I.tuple hq
  refine assign_Tuple_tuple (I.ok.hd hc) ht (by simp [hn, ← hl, rv.length]) hst fun h' hx => ?_
  have I1 : Inv X pins σ H { s with heap := h' } := I.kept (t' := s.toks) fun b o e => hx b o (Nat.ne_of_lt (Heap.lt_size e)) e
  exact h pins _ σ H xs _ Q I1 (by simpa using rv) hw
def gSub (to ti : TE) (t : TSet) : TG := fun v σ H Q => to σ H fun o H1 => ti σ H1 fun i H2 => t o i v H2 fun H3 => Q σ H3
theorem pg_sub {o i : Expr} {to ti : TE} {t : TSet} (ho : PE X o to) (hi : PE X i ti) (hs : PSet X t)
    (ha : ∀ v, assign (.Subscript o i pos) X.env v = (do
      let ov ← holding [v] (eval o X.env)
      let iv ← holding [v, ov] (eval i X.env)
      standAt pos
      holding [v, ov, iv] (setItem ov iv v)
      release [v, ov, iv] []) := by intro _; rfl) : PG X (.Subscript o i pos) (gSub to ti t) := by
  intro pins s σ H v u Q I r h
  rw [ha]
  refine wpAny_bind (wpAny_holding (thn (ho pins s σ H _ I h) fun ov s1 ⟨x, H1, I1, r1, q1⟩ => ?_))
  refine wpAny_bind (wpAny_holding (thn (hi pins s1 σ H1 _ I1 q1) fun iv s2 ⟨y, H2, I2, r2, q2⟩ => ?_))
  refine wpAny_bind (wpAny_standAt (wpAny_bind (wpAny_holding (thn (hs pins s2 σ H2 x y v ov iv u _ I2 r1 r2 r q2) fun _ s3 ⟨H3, I3, q3⟩ => ?_))))
  exact wpAny_release ⟨σ, H3, I3, q3⟩
def tAsg (te : TE) (g : TG) : TS := fun D σ H => te σ H fun x H1 => g x σ H1 D.nx
theorem ps_asg {tg e : Expr} {te : TE} {g : TG} (he : PE X e te) (hg : PG X tg g) (hs : swapsWithSole [tg] e pos.line X.env = pure false := by rfl) (hw : swappedStores [tg] e X.env = pure none := by rfl)
    (h1 : (assignEach [tg] X.env).map (·.2) = [assign tg X.env] := by rfl) : PS X (.Assign [tg] e pos) (tAsg te g) := by
  intro pins s σ H D I h
  refine wpAny_Assign_stores (thn (he pins s σ H _ I h) fun v s1 ⟨x, H1, I1, r1, q1⟩ => ?_) hs hw
  rw [h1]
  exact thn (hg pins s1 σ H1 x v _ I1 r1 q1) fun _ s2 q => q
theorem ps_set {i : Nat} {x : Str} {e : Expr} {te : TE} {pos' : Pos} (hN : X.N.Nodup) (hi : X.N[i]? = some x) (hx : Loc X.env.scope x) (he : PE X e te) (hs : swapsWith e (some (.Name x pos')) pos.line X.env = pure false := by rfl) (hf : X.fn x = true ∨ X.env.scope.names.lookup x = some .local := by first | exact .inl rfl | exact .inr rfl | assumption) :
    PS X (.Assign [.Name x pos'] e pos) (tAsg te (gName i)) := by
  intro pins s σ H D I h
  refine wpAny_Assign_Name (thn (he pins s σ H _ I h) fun v s1 ⟨y, H1, I1, r1, q1⟩ => ?_) hs
  exact store_ok I1 hN hi hx r1 (fun s2 I2 => ⟨_, H1, I2, q1⟩) hf
end
section
variable {X : Cx} {pos : Pos}
end
structure It where
  go : Nat → Hp → Prop
  yld : Nat → Hp → V → Hp → Prop
  stop : Nat → Hp → Prop
def FpOk (X : Cx) (pins : List (Addr × Obj)) (H : Hp) (b : Addr) : Prop :=
  H b = none ∧ b ≠ X.env.locals ∧ b ∉ X.fs ∧ (b ∈ X.ex ∨ X.s₀.heap.objs.size ≤ b) ∧ (∀ x c, X.env.cells.lookup x = some c → c ≠ b) ∧ ∀ p ∈ X.pn ++ pins, p.1 ≠ b
theorem Inv.fpOk {X : Cx} {pins : List (Addr × Obj)} {σ : St} {H H' : Hp} {s : Shared} {b : Addr} (I : Inv X pins σ H s) (hb : s.heap.objs.size ≤ b) (hn : H' b = none) : FpOk X pins H' b := by
  refine ⟨hn, Nat.ne_of_gt (Nat.lt_of_lt_of_le I.lt hb), I.nofs hb, .inr (Nat.le_trans I.sz hb), fun x c e z => ?_, fun p hp z => ?_⟩
  · obtain ⟨v, q⟩ := I.cell x c e
    exact absurd (Nat.lt_of_lt_of_le q.lt (by rw [z]; exact hb)) (Nat.lt_irrefl _)
  · exact absurd (Nat.lt_of_lt_of_le (Heap.lt_size (I.pin p hp).1) (by rw [z]; exact hb)) (Nat.lt_irrefl _)
structure Turn (P : Program) (w : World) (K : PySem.W.Frag) (tg : Expr) (J : It) (fp : List Addr) (it : Addr) (tn : Nat → Heap → Prop) : Prop where
  mem : it ∈ fp
  obj : ∀ i h, tn i h → ∀ b ∈ fp, ∃ o, h.get? b = some o ∧ ∀ v, o.data ≠ .cell v
  keep : ∀ i h h', tn i h → (∀ b ∈ fp, ∀ o, h.get? b = some o → h'.get? b = some o) → tn i h'
  item : ∀ (X : Cx), X.prog = P → X.w = w → X.K = K → X.calm = true → ∀ (i : Nat) (pins : List (Addr × Obj)) (s : Shared) (σ : St) (H : Hp) (E : Value → Shared → Prop), Inv X pins σ H s → (∀ b ∈ fp, FpOk X pins H b) → tn i s.heap → J.go i H →
    wpAny (model P w) X.A (pyNext (.ref it)) (fun r s1 => ∃ u, r = some u ∧
      wpAny (model P w) X.A (letOwnedTupleGo tg (.ref it) u) (fun _ s2 => ∃ x H', Inv X pins σ H' s2 ∧ RelV x u ∧ J.yld i H x H' ∧ tn (i + 1) s2.heap ∧ ∀ b ∈ fp, H' b = none) E s1) E s
  done : ∀ (X : Cx), X.prog = P → X.w = w → X.K = K → X.calm = true → ∀ (i : Nat) (pins : List (Addr × Obj)) (s : Shared) (σ : St) (H : Hp) (E : Value → Shared → Prop), Inv X pins σ H s → (∀ b ∈ fp, FpOk X pins H b) → tn i s.heap → J.stop i H →
    wpAny (model P w) X.A (pyNext (.ref it)) (fun r s1 => r = none ∧ Inv X pins σ H s1) E s
  self : ∀ (A : Around) (i : Nat) (s : Shared) (Q : Value → Shared → Prop) (E : Value → Shared → Prop), tn i s.heap → Q (.ref it) s → wpAny (model P w) A (pyIter (.ref it)) Q E s
abbrev TI := St → Hp → (It → Hp → Prop) → Prop
def PIE (X : Cx) (pins : List (Addr × Obj)) (σ : St) (tg : Expr) (R : It → Hp → Prop) (itv : Value) (s2 : Shared) : Prop :=
  ∃ (it : Addr) (fp : List Addr) (tn : Nat → Heap → Prop) (J : It) (H' : Hp), itv = .ref it ∧ Inv X pins σ H' s2 ∧ Turn X.prog X.w X.K tg J fp it tn ∧ tn 0 s2.heap ∧ (∀ b ∈ fp, FpOk X pins H' b) ∧ R J H'
def PI (X : Cx) (tg iter : Expr) (wi : TI) : Prop :=
  ∀ (pins : List (Addr × Obj)) (s : Shared) (σ : St) (H : Hp) (R : It → Hp → Prop), Inv X pins σ H s → wi σ H R →
    wpAny (model X.prog X.w) X.A (eval iter X.env) (fun v s1 => wpAny (model X.prog X.w) X.A (pyIter v) (PIE X pins σ tg R) X.xe s1) X.xe s
theorem go_of {M : Model} {A : Around} {E : Value → Shared → Prop} {s : Shared} {tg : Expr} {it : Addr} {u : Value} {o : Obj} {n : String} {vs : Array Value} {Q : Unit → Shared → Prop} (ho : s.heap.get? it = some o) (hc : o.cls = .type n) (hd : o.data = .fields vs)
    (hn : ["enumerate", "zip", "dict_itemiterator", "dict_reverseitemiterator", "odict_iterator", "itertools.zip_longest", "itertools.pairwise"].contains n = false) (hQ : Q () s) : wpAny M A (letOwnedTupleGo tg (.ref it) u) Q E s := by
  unfold letOwnedTupleGo
  cases tg <;> first
    | exact wpAny_pure hQ
    | (cases u <;> first
        | exact wpAny_pure hQ
        | (refine wpAny_bind (wpAny_load ho ?_)
           rw [hc, hd]
           show wpAny M A (if (["enumerate", "zip", "dict_itemiterator", "dict_reverseitemiterator", "odict_iterator", "itertools.zip_longest", "itertools.pairwise"].contains n && vs[0]? == some (rawInt _)) = true then _ else _) Q E s
           rw [if_neg (by intro h; rw [hn, Bool.false_and] at h; cases h)]
           exact wpAny_pure hQ))
def Itl (K : PySem.W.Frag) (a : Addr) : It :=
  ⟨fun i H => ∃ xs x, SqL K H a xs ∧ xs[i]? = some x, fun i H x H' => H' = H ∧ ∀ xs, SqL K H a xs → xs[i]? = some x, fun i H => ∃ xs, SqL K H a xs ∧ xs.length ≤ i⟩
def Itt (K : PySem.W.Frag) (a : Addr) : It :=
  ⟨fun i H => ∃ xs x, SqT K H a xs ∧ xs[i]? = some x, fun i H x H' => H' = H ∧ ∀ xs, SqT K H a xs → xs[i]? = some x, fun i H => ∃ xs, SqT K H a xs ∧ xs.length ≤ i⟩
def Itr (lo : Int) (n : Nat) : It := ⟨fun i _ => i < n, fun i H x H' => H' = H ∧ x = .int (lo + i), fun i _ => n ≤ i⟩
theorem turn_list {P : Program} {w : World} {K : PySem.W.Frag} {tg : Expr} (a it : Addr) : Turn P w K tg (Itl K a) [it] it (fun i h => h.IsListIter it a i) where
  mem := by simp
  obj := fun i h st b hb => by
    have e : b = it := by simpa using hb
    subst e
    obtain ⟨o, e, c, d⟩ := st
    exact ⟨o, e, fun v z => by rw [d] at z; cases z⟩
  keep := fun i h h' st k => st.at fun o e => k it (by simp) o e
  item := by
    intro X hP hw hK hc i pins s σ H E I hf st hg
    subst hP hw hK
    obtain ⟨xs, x, hq, hx⟩ := hg
    obtain ⟨its, rv, p, hz⟩ := I.list hq
    obtain ⟨u, hu, ru⟩ := rv.get hx
    obtain ⟨f0, f1, f2, f3, f4, f5⟩ := hf it (by simp)
    refine wpAny_pyNext_list_item st p.isList (x := u) (by simpa using hu) fun h' st' sb => ?_
    have I1 : Inv X pins σ H { s with heap := h' } := I.turned (t' := s.toks) (fun b o hb e => (sb.2 b hb).trans e) f0 f1 f3 f4 f5
    obtain ⟨o, e, c, d⟩ := id st'
    exact ⟨u, rfl, go_of (s := { s with heap := h' }) e c d (by decide) ⟨x, H, I1, ru, ⟨rfl, fun ys hy => by rw [I.list_inj hy hq]; exact hx⟩, st', fun b hb => (hf b hb).1⟩⟩
  done := by
    intro X hP hw hK hc i pins s σ H E I hf st hg
    subst hP hw hK
    obtain ⟨xs, hq, hx⟩ := hg
    obtain ⟨its, rv, p, hz⟩ := I.list hq
    obtain ⟨f0, f1, f2, f3, f4, f5⟩ := hf it (by simp)
    have hl := rv.length
    exact wpAny_pyNext_list_end (I.ok.hd hc) st p.isList (by simp; omega) fun h' eb => ⟨rfl, I.turned (t' := s.toks) (fun b o hb e => eb b o hb e) f0 f1 f3 f4 f5⟩
  self := fun _ _ _ _ _ st h => wpAny_pyIter_listiter st h
theorem turn_tuple {P : Program} {w : World} {K : PySem.W.Frag} {tg : Expr} (a it : Addr) : Turn P w K tg (Itt K a) [it] it (fun i h => h.IsTupleIter it a i) where
  mem := by simp
  obj := fun i h st b hb => by
    have e : b = it := by simpa using hb
    subst e
    obtain ⟨o, e, c, d⟩ := st
    exact ⟨o, e, fun v z => by rw [d] at z; cases z⟩
  keep := fun i h h' st k => st.at fun o e => k it (by simp) o e
  item := by
    intro X hP hw hK hc i pins s σ H E I hf st hg
    subst hP hw hK
    obtain ⟨xs, x, hq, hx⟩ := hg
    obtain ⟨its, rv, p, hz⟩ := I.tuple hq
    obtain ⟨u, hu, ru⟩ := rv.get hx
    obtain ⟨f0, f1, f2, f3, f4, f5⟩ := hf it (by simp)
    refine wpAny_pyNext_tuple_item st (show s.heap.IsTuple a its.toArray from p) (x := u) (by simpa using hu) fun h' st' sb => ?_
    have I1 : Inv X pins σ H { s with heap := h' } := I.turned (t' := s.toks) (fun b o hb e => (sb.2 b hb).trans e) f0 f1 f3 f4 f5
    obtain ⟨o, e, c, d⟩ := id st'
    exact ⟨u, rfl, go_of (s := { s with heap := h' }) e c d (by decide) ⟨x, H, I1, ru, ⟨rfl, fun ys hy => by rw [I.tuple_inj hy hq]; exact hx⟩, st', fun b hb => (hf b hb).1⟩⟩
  done := by
    intro X hP hw hK hc i pins s σ H E I hf st hg
    subst hP hw hK
    obtain ⟨xs, hq, hx⟩ := hg
    obtain ⟨its, rv, p, hz⟩ := I.tuple hq
    obtain ⟨f0, f1, f2, f3, f4, f5⟩ := hf it (by simp)
    have hl := rv.length
    exact wpAny_pyNext_tuple_end (I.ok.hd hc) st (show s.heap.IsTuple a its.toArray from p) (by simp; omega) fun h' eb => ⟨rfl, I.turned (t' := s.toks) (fun b o hb e => eb b o hb e) f0 f1 f3 f4 f5⟩
  self := fun _ _ _ _ _ st h => wpAny_pyIter_tupleiter st h
theorem turn_range {P : Program} {w : World} {K : PySem.W.Frag} {tg : Expr} (it : Addr) (lo : Int) (n : Nat) : Turn P w K tg (Itr lo n) [it] it (fun i h => IsRangeIter h it (lo + (i : Nat) * 1) ((n : Int) - (i : Nat)) 1) where
  mem := by simp
  obj := fun i h st b hb => by
    have e : b = it := by simpa using hb
    subst e
    exact ⟨_, st, fun v z => by
      have z' : Data.fields _ = Data.cell v := z
      cases z'⟩
  keep := fun i h h' st k => k it (by simp) _ st
  item := by
    intro X hP hw hK hc i pins s σ H E I hf st hg
    subst hP hw hK
    obtain ⟨f0, f1, f2, f3, f4, f5⟩ := hf it (by simp)
    have W := Walks.range (prog := X.prog) (w := X.w) (I.ok.hd hc) it lo 1 n
    refine W.item i s _ _ hg st fun v h' tk hv st' kk => ?_
    obtain ⟨t, rfl⟩ := hv
    have I1 : Inv X pins σ H { s with heap := h', toks := tk } := I.turned (fun b o hb e => kk b o (by simpa using hb) e) f0 f1 f3 f4 f5
    refine ⟨_, rfl, go_of (s := { s with heap := h', toks := tk }) (n := "range_iterator") st' rfl rfl (by decide) ⟨.int (lo + i), H, I1, ⟨t, ?_⟩, ⟨rfl, rfl⟩, st', fun b hb => (hf b hb).1⟩⟩
    rw [Int.mul_one]
  done := by
    intro X hP hw hK hc i pins s σ H E I hf st hg
    subst hP hw hK
    obtain ⟨f0, f1, f2, f3, f4, f5⟩ := hf it (by simp)
    exact wpAny_pyNext_range_end (I.ok.hd hc) st (by have : n ≤ i := hg; omega) fun h' eb => ⟨rfl, I.turned (t' := s.toks) (fun b o hb e => eb b o hb e) f0 f1 f3 f4 f5⟩
  self := fun _ _ _ _ _ st h => wpAny_pyIter_rangeiter st h
end L2
namespace L2
open PySem PySem.Spec PyProof.Rows
section
variable {X : Cx} {tg : Expr}
def iList (K : PySem.W.Frag) (tl : TE) : TI := fun σ H R => tl σ H fun x H1 => ∃ a, x = .ref a ∧ (∃ xs, SqL K H1 a xs) ∧ R (Itl K a) H1
def iTup (K : PySem.W.Frag) (tl : TE) : TI := fun σ H R => tl σ H fun x H1 => ∃ a, x = .ref a ∧ (∃ xs, SqT K H1 a xs) ∧ R (Itt K a) H1
theorem pi_list {l : Expr} {tl : TE} (hl : PE X l tl) : PI X tg l (iList X.K tl) := by
  intro pins s σ H R I h
  refine thn (hl pins s σ H _ I h) fun v s1 ⟨x, H1, I1, r1, q1⟩ => ?_
  obtain ⟨a, e, ⟨xs, hq⟩, q⟩ := q1
  subst e
  cases r1
  obtain ⟨its, rv, p, hz⟩ := I1.list hq
  refine wpAny_pyIter_list p.isList ?_
  refine ⟨s1.heap.objs.size, [s1.heap.objs.size], _, _, H1, rfl, I1.kept (t' := s1.toks) fun b o e => Heap.get?_push_of_some _ e, turn_list a _, ⟨_, Heap.get?_push_size _ rfl, rfl, rfl⟩, fun b hb => ?_, q⟩
  have e : b = s1.heap.objs.size := by simpa using hb
  subst e
  exact I1.fpOk (Nat.le_refl _) (I1.hok.fresh (Nat.le_refl _))
theorem pi_tup {l : Expr} {tl : TE} (hl : PE X l tl) : PI X tg l (iTup X.K tl) := by
  intro pins s σ H R I h
  refine thn (hl pins s σ H _ I h) fun v s1 ⟨x, H1, I1, r1, q1⟩ => ?_
  obtain ⟨a, e, ⟨xs, hq⟩, q⟩ := q1
  subst e
  cases r1
  obtain ⟨its, rv, p, hz⟩ := I1.tuple hq
  refine wpAny_pyIter_tuple (show s1.heap.IsTuple a its.toArray from p) ?_
  refine ⟨s1.heap.objs.size, [s1.heap.objs.size], _, _, H1, rfl, I1.kept (t' := s1.toks) fun b o e => Heap.get?_push_of_some _ e, turn_tuple a _, ⟨_, Heap.get?_push_size _ rfl, rfl, rfl⟩, fun b hb => ?_, q⟩
  have e : b = s1.heap.objs.size := by simpa using hb
  subst e
  exact I1.fpOk (Nat.le_refl _) (I1.hok.fresh (Nat.le_refl _))
theorem range_it {pins : List (Addr × Obj)} {σ : St} {H : Hp} {s : Shared} {R : It → Hp → Prop} {E : Value → Shared → Prop} {lo hi : Int} {t u v : Tok} {tk : Nat} (I : Inv X pins σ H s) (h1 : -(2 ^ 62) ≤ lo) (h2 : lo < 2 ^ 62) (h3 : -(2 ^ 62) ≤ hi) (h4 : hi < 2 ^ 62)
    (q : R (Itr lo (hi - lo).toNat) H) : wpAny (model X.prog X.w) X.A (pyIter (.ref s.heap.objs.size)) (PIE X pins σ tg R) E { s with heap := s.heap.push { cls := .type "range", data := .fields #[.int lo t, .int hi u, .int 1 v] }, toks := tk } := by
  refine wpAny_pyIter_range (IsRange.new ..) (small_one h1 h2 h3 h4) ?_
  have I1 : Inv X pins σ H { s with heap := s.heap.push { cls := .type "range", data := .fields #[.int lo t, .int hi u, .int 1 v] }, toks := tk } := I.kept fun b o e => Heap.get?_push_of_some _ e
  refine ⟨(s.heap.push { cls := .type "range", data := .fields #[.int lo t, .int hi u, .int 1 v] }).objs.size, [(s.heap.push { cls := .type "range", data := .fields #[.int lo t, .int hi u, .int 1 v] }).objs.size], _, _, H, rfl,
    I1.kept (t' := tk) fun b o e => Heap.get?_push_of_some _ e, turn_range _ lo (hi - lo).toNat, ?_, fun b hb => ?_, q⟩
  · have e1 : lo + ((0 : Nat) : Int) * 1 = lo := by simp
    have e2 : (((hi - lo).toNat : Nat) : Int) - ((0 : Nat) : Int) = Builtin.Range.rangeSize lo hi 1 := by rw [rangeSize_one]; split <;> omega
    show IsRangeIter _ _ (lo + ((0 : Nat) : Int) * 1) ((((hi - lo).toNat : Nat) : Int) - ((0 : Nat) : Int)) 1
    rw [e1, e2]
    exact Heap.get?_push_size _ rfl
  · have e : b = (s.heap.push { cls := .type "range", data := .fields #[.int lo t, .int hi u, .int 1 v] }).objs.size := by simpa using hb
    subst e
    exact I1.fpOk (Nat.le_refl _) (I1.hok.fresh (Nat.le_refl _))
def iRng1 (ta : TA) : TI := fun σ H R => ta σ H fun vs H1 => ∃ j : Int, vs = [.int j] ∧ -(2 ^ 62) ≤ j ∧ j < 2 ^ 62 ∧ R (Itr 0 j.toNat) H1
theorem pi_range1 {a : Expr} {ta : TA} {p pos : Pos} (hg : Gl X "range") (hm : X.mg "range" = none) (ha : PA X [a] ta) (hs : starEach [a] X.env = [(false, eval a X.env)] := by rfl) : PI X tg (.Call (.Name "range" p) [a] [] pos) (iRng1 ta) := by
  intro pins s σ H R I h
  refine Call_ (ld_blt I hg hm boot_range (PyProof.Rows.callWith_type1 (thn (ha pos pins s σ H _ I h) fun us s1 ⟨vs, H1, I1, r1, q1⟩ => ?_) hs rfl))
  obtain ⟨j, e, q1, q2, q⟩ := q1
  subst e
  cases r1 with
  | cons r rr =>
    cases rr
    obtain ⟨t, rfl⟩ := r
    exact call_range_1 (range_it I1 (by omega) (by omega) q1 q2 (by simpa using q))
def tFor (wi : TI) (g : TG) (tb : TS) : TS := fun D σ H => wi σ H fun J H1 => ∃ W : Nat → Nat → St → Hp → Prop, (∃ m, W 0 m σ H1) ∧ ∀ i m σ H, W i m σ H →
  (J.stop i H ∧ D.nx σ H) ∨ (J.go i H ∧ ∃ N : St → Hp → Prop, (∀ σ' H', N σ' H' → ∃ m', m' < m ∧ W (i + 1) m' σ' H') ∧ ∀ x H', J.yld i H x H' → g x σ H' fun σ2 H2 => tb { D with nx := N, ct := N, bk := D.nx } σ2 H2)
def pinsAt (fp : List Addr) (h : Heap) : List (Addr × Obj) := fp.filterMap fun b => (h.get? b).map fun o => (b, o)
theorem mem_pinsAt {fp : List Addr} {h : Heap} {b : Addr} {o : Obj} (hb : b ∈ fp) (e : h.get? b = some o) : (b, o) ∈ pinsAt fp h := List.mem_filterMap.mpr ⟨b, hb, by rw [e]; rfl⟩
theorem of_pinsAt {fp : List Addr} {h : Heap} {p : Addr × Obj} (hp : p ∈ pinsAt fp h) : p.1 ∈ fp ∧ h.get? p.1 = some p.2 := by
  obtain ⟨b, hb, e⟩ := List.mem_filterMap.mp hp
  cases q : h.get? b with
  | none => rw [q] at e; cases e
  | some o =>
    rw [q] at e
    have e' : (b, o) = p := Option.some.inj e
    subst e'
    exact ⟨hb, q⟩
theorem Inv.pinned {pins : List (Addr × Obj)} {σ : St} {H : Hp} {s : Shared} {fp : List Addr} (I : Inv X pins σ H s) (hf : ∀ b ∈ fp, FpOk X pins H b) (ho : ∀ b ∈ fp, ∃ o, s.heap.get? b = some o ∧ ∀ v, o.data ≠ .cell v) : Inv X (pins ++ pinsAt fp s.heap) σ H s :=
  I.pins_of fun p hp => (List.mem_append.mp hp).elim (fun z => I.pin p (List.mem_append_right _ z)) fun z => by
    obtain ⟨hb, e⟩ := of_pinsAt z
    obtain ⟨f0, f1, f2, _⟩ := hf p.1 hb
    obtain ⟨o, e', d⟩ := ho p.1 hb
    rw [e] at e'; cases e'
    exact ⟨e, f0, f1, f2, d⟩
theorem Inv.unpinned {pins pl : List (Addr × Obj)} {σ : St} {H : Hp} {s : Shared} (I : Inv X (pins ++ pl) σ H s) : Inv X pins σ H s := I.pins_of fun p hp => I.pin p (List.mem_append_right _ (List.mem_append_left _ hp))
theorem ps_for {iter : Expr} {body : List Stmt} {wi : TI} {g : TG} {tb : TS} {pos : Pos} (hp : PassesOwn (model X.prog X.w) X.A X.env X.xe) (hc : X.calm = true) (hi : PI X tg iter wi) (hg : PG X tg g) (hb : PSs X body tb)
    (hs : ∀ x, foldedSetIterable iter X.env x = pure x := by intro _; rfl) : PS X (.For tg iter body [] pos) (tFor wi g tb) := by
  intro pins s σ H D I h
  refine wpAny_For (thn (hi pins s σ H _ I h) fun v s1 h1 => thn h1 fun itv s2 h2 => ?_) hs
  obtain ⟨it, fp, tn, J, H2, e, I2, T, st2, f2, W, ⟨m0, w0⟩, turn⟩ := h2
  subst e
  -- what stays true of the iterator's objects through the loop
  have stat : ∀ {H' : Hp}, (∀ b ∈ fp, H' b = none) → ∀ b ∈ fp, FpOk X pins H' b := fun hn b hb => ⟨hn b hb, (f2 b hb).2⟩
  refine codeAny_forLoop_any (fun n s' => ∃ i σ' H', Inv X pins σ' H' s' ∧ tn i s'.heap ∧ (∀ b ∈ fp, H' b = none) ∧ W i n σ' H') ?_ m0 ⟨0, σ, H2, I2, st2, fun b hb => (f2 b hb).1, w0⟩
  rintro n s3 ⟨i, σ3, H3, I3, st3, fr3, w3⟩
  rcases turn i n σ3 H3 w3 with ⟨stop, qn⟩ | ⟨go, N, hN, step⟩
  · refine wpAny_passesOwn hp (thn (T.done X rfl rfl rfl hc i pins s3 σ3 H3 X.xe I3 (stat fr3) st3 stop) fun r s4 ⟨hr, I4⟩ => ?_)
    subst hr
    exact wpAny_execs_nil ⟨σ3, H3, I4, qn⟩
  · refine wpAny_passesOwn hp (thn (T.item X rfl rfl rfl hc i pins s3 σ3 H3 X.xe I3 (stat fr3) st3 go) fun r s4 ⟨u, hr, h4⟩ => ?_)
    subst hr
    refine wpAny_passesOwn hp (thn h4 fun _ s5 ⟨x, H5, I5, r5, y5, st5, fr5⟩ => ?_)
    have I5' := I5.pinned (stat fr5) (T.obj _ _ st5)
    refine wpAny_passesOwn hp (thn (hg _ s5 σ3 H5 x u _ I5' r5 (step x H5 y5)) fun _ s6 ⟨σ6, H6, I6, q6⟩ => ?_)
    refine wpAny_passesOwn hp (thn (hb _ s6 σ6 H6 _ I6 q6) fun f s7 q7 => ?_)
    have again : ∀ {σ7 : St} {H7 : Hp}, Inv X (pins ++ pinsAt fp s5.heap) σ7 H7 s7 → N σ7 H7 → ∃ m, m < n ∧ ∃ i σ' H', Inv X pins σ' H' s7 ∧ tn i s7.heap ∧ (∀ b ∈ fp, H' b = none) ∧ W i m σ' H' := fun {σ7 H7} I7 n7 => by
      obtain ⟨m', hm, w7⟩ := hN σ7 H7 n7
      refine ⟨m', hm, i + 1, σ7, H7, I7.unpinned, T.keep _ _ _ st5 fun b hb o e => (I7.pin (b, o) (List.mem_append_right _ (List.mem_append_right _ (mem_pinsAt hb e)))).1, fun b hb => ?_, w7⟩
      obtain ⟨o, e, d⟩ := T.obj _ _ st5 b hb
      exact (I7.pin (b, o) (List.mem_append_right _ (List.mem_append_right _ (mem_pinsAt hb e)))).2.1
    cases f with
    | next => obtain ⟨σ7, H7, I7, n7⟩ := q7; exact again I7 n7
    | cont => obtain ⟨σ7, H7, I7, n7⟩ := q7; exact again I7 n7
    | brk => obtain ⟨σ7, H7, I7, q7⟩ := q7; exact ⟨σ7, H7, I7.unpinned, q7⟩
    | ret v => obtain ⟨x7, σ7, H7, I7, r7, q7⟩ := q7; exact ⟨x7, σ7, H7, I7.unpinned, r7, q7⟩
end
theorem for_list {K : PySem.W.Frag} {a : Addr} {xs : List V} {g : TG} {tb : TS} {D : Ends} {σ : St} {H : Hp} (Pv : Nat → St → Hp → Prop) (h0 : Pv 0 σ H) (hl : ∀ i σ H, i ≤ xs.length → Pv i σ H → SqL K H a xs)
    (hs : ∀ i x σ H, xs[i]? = some x → Pv i σ H → g x σ H fun σ2 H2 => tb { D with nx := Pv (i + 1), ct := Pv (i + 1), bk := D.nx } σ2 H2) (hd : ∀ σ H, Pv xs.length σ H → D.nx σ H) :
    ∃ W : Nat → Nat → St → Hp → Prop, (∃ m, W 0 m σ H) ∧ ∀ i m σ H, W i m σ H →
      ((Itl K a).stop i H ∧ D.nx σ H) ∨ ((Itl K a).go i H ∧ ∃ N : St → Hp → Prop, (∀ σ' H', N σ' H' → ∃ m', m' < m ∧ W (i + 1) m' σ' H') ∧ ∀ x H', (Itl K a).yld i H x H' → g x σ H' fun σ2 H2 => tb { D with nx := N, ct := N, bk := D.nx } σ2 H2) := by
  refine ⟨fun i m σ H => m = xs.length - i ∧ i ≤ xs.length ∧ Pv i σ H, ⟨xs.length, by simp, Nat.zero_le _, h0⟩, ?_⟩
  rintro i m σ H ⟨rfl, hi, p⟩
  have q := hl i σ H hi p
  by_cases hlt : i < xs.length
  · refine .inr ⟨⟨xs, xs[i], q, by simp [hlt]⟩, Pv (i + 1), fun σ' H' p' => ⟨xs.length - (i + 1), by omega, rfl, hlt, p'⟩, fun x H' y => ?_⟩
    obtain ⟨e, y⟩ := y
    subst e
    exact hs i x σ _ (y xs q) p
  · have e : i = xs.length := by omega
    subst e
    exact .inl ⟨⟨xs, q, Nat.le_refl _⟩, hd σ H p⟩
theorem for_tup {K : PySem.W.Frag} {a : Addr} {xs : List V} {g : TG} {tb : TS} {D : Ends} {σ : St} {H : Hp} (Pv : Nat → St → Hp → Prop) (h0 : Pv 0 σ H) (hl : ∀ i σ H, i ≤ xs.length → Pv i σ H → SqT K H a xs)
    (hs : ∀ i x σ H, xs[i]? = some x → Pv i σ H → g x σ H fun σ2 H2 => tb { D with nx := Pv (i + 1), ct := Pv (i + 1), bk := D.nx } σ2 H2) (hd : ∀ σ H, Pv xs.length σ H → D.nx σ H) :
    ∃ W : Nat → Nat → St → Hp → Prop, (∃ m, W 0 m σ H) ∧ ∀ i m σ H, W i m σ H →
      ((Itt K a).stop i H ∧ D.nx σ H) ∨ ((Itt K a).go i H ∧ ∃ N : St → Hp → Prop, (∀ σ' H', N σ' H' → ∃ m', m' < m ∧ W (i + 1) m' σ' H') ∧ ∀ x H', (Itt K a).yld i H x H' → g x σ H' fun σ2 H2 => tb { D with nx := N, ct := N, bk := D.nx } σ2 H2) := by
  refine ⟨fun i m σ H => m = xs.length - i ∧ i ≤ xs.length ∧ Pv i σ H, ⟨xs.length, by simp, Nat.zero_le _, h0⟩, ?_⟩
  rintro i m σ H ⟨rfl, hi, p⟩
  have q := hl i σ H hi p
  by_cases hlt : i < xs.length
  · refine .inr ⟨⟨xs, xs[i], q, by simp [hlt]⟩, Pv (i + 1), fun σ' H' p' => ⟨xs.length - (i + 1), by omega, rfl, hlt, p'⟩, fun x H' y => ?_⟩
    obtain ⟨e, y⟩ := y
    subst e
    exact hs i x σ _ (y xs q) p
  · have e : i = xs.length := by omega
    subst e
    exact .inl ⟨⟨xs, q, Nat.le_refl _⟩, hd σ H p⟩
theorem for_range {lo : Int} {n : Nat} {g : TG} {tb : TS} {D : Ends} {σ : St} {H : Hp} (Pv : Nat → St → Hp → Prop) (h0 : Pv 0 σ H)
    (hs : ∀ i σ H, i < n → Pv i σ H → g (.int (lo + i)) σ H fun σ2 H2 => tb { D with nx := Pv (i + 1), ct := Pv (i + 1), bk := D.nx } σ2 H2) (hd : ∀ σ H, Pv n σ H → D.nx σ H) :
    ∃ W : Nat → Nat → St → Hp → Prop, (∃ m, W 0 m σ H) ∧ ∀ i m σ H, W i m σ H →
      ((Itr lo n).stop i H ∧ D.nx σ H) ∨ ((Itr lo n).go i H ∧ ∃ N : St → Hp → Prop, (∀ σ' H', N σ' H' → ∃ m', m' < m ∧ W (i + 1) m' σ' H') ∧ ∀ x H', (Itr lo n).yld i H x H' → g x σ H' fun σ2 H2 => tb { D with nx := N, ct := N, bk := D.nx } σ2 H2) := by
  refine ⟨fun i m σ H => m = n - i ∧ i ≤ n ∧ Pv i σ H, ⟨n, by simp, Nat.zero_le _, h0⟩, ?_⟩
  rintro i m σ H ⟨rfl, hi, p⟩
  by_cases hlt : i < n
  · refine .inr ⟨hlt, Pv (i + 1), fun σ' H' p' => ⟨n - (i + 1), by omega, rfl, hlt, p'⟩, fun x H' y => ?_⟩
    obtain ⟨e, y⟩ := y
    subst e y
    exact hs i σ _ hlt p
  · have e : i = n := by omega
    subst e
    exact .inl ⟨Nat.le_refl _, hd σ H p⟩
end L2
namespace L2
open PySem PySem.Spec PyProof.Rows
abbrev R2 := V → V → Hp → VK → Prop
def OpR (X : Cx) (f : Value → Value → Sem Value) (r : R2) : Prop :=
  ∀ (pins : List (Addr × Obj)) (s : Shared) (σ : St) (H : Hp) (x y : V) (v u : Value) (Q : VK), Inv X pins σ H s → RelV x v → RelV y u → r x y H Q →
    wpAny (model X.prog X.w) X.A (f v u) (EP X pins σ Q) X.xe s
def UnR (X : Cx) (f : Value → Sem Value) (r : V → Hp → VK → Prop) : Prop :=
  ∀ (pins : List (Addr × Obj)) (s : Shared) (σ : St) (H : Hp) (x : V) (v : Value) (Q : VK), Inv X pins σ H s → RelV x v → r x H Q →
    wpAny (model X.prog X.w) X.A (f v) (EP X pins σ Q) X.xe s
def CallR (X : Cx) (f : Value) (r : List V → Hp → VK → Prop) : Prop :=
  ∀ (pins : List (Addr × Obj)) (s : Shared) (σ : St) (H : Hp) (xs : List V) (us : List Value) (Q : VK), Inv X pins σ H s → Vals xs us → r xs H Q →
    wpAny (model X.prog X.w) X.A (call f us) (EP X pins σ Q) X.xe s
def tOp (r : R2) (ta tb : TE) : TE := fun σ H Q => ta σ H fun x H1 => tb σ H1 fun y H2 => r x y H2 Q
def tUn (r : V → Hp → VK → Prop) (ta : TE) : TE := fun σ H Q => ta σ H fun x H1 => r x H1 Q
def rI (C : Int → Int → Prop) (g : Int → Int → V) : R2 := fun x y H Q => ∃ i j, x = .int i ∧ y = .int j ∧ C i j ∧ Q (g i j) H
def rI0 (g : Int → Int → V) : R2 := fun x y H Q => ∃ i j, x = .int i ∧ y = .int j ∧ Q (g i j) H
def rU (g : Int → V) : V → Hp → VK → Prop := fun x H Q => ∃ i, x = .int i ∧ Q (g i) H
section
variable {X : Cx} {a b c : Expr} {ta tb tc : TE} {pos : Pos}
theorem binT (ha : PE X a ta) (hb : PE X b tb) {pins : List (Addr × Obj)} {s : Shared} {σ : St} {H : Hp} {R : V → V → Hp → Prop} (I : Inv X pins σ H s)
    (h : ta σ H fun x H1 => tb σ H1 fun y H2 => R x y H2) {Q : Value → Shared → Prop} {f : Value → Value → Sem Value}
    (hf : ∀ v u s2 x y H2, Inv X pins σ H2 s2 → RelV x v → RelV y u → R x y H2 → wpAny (model X.prog X.w) X.A (f v u) Q X.xe s2) :
    wpAny (model X.prog X.w) X.A (eval a X.env) (fun v s₁ => wpAny (model X.prog X.w) X.A (eval b X.env) (fun u s₂ => wpAny (model X.prog X.w) X.A (f v u) Q X.xe s₂) X.xe s₁) X.xe s := by
  refine thn (ha pins s σ H _ I h) fun v s1 ⟨x, H1, I1, r1, q1⟩ => ?_
  refine thn (hb pins s1 σ H1 _ I1 q1) fun u s2 ⟨y, H2, I2, r2, q2⟩ => ?_
  exact hf v u s2 x y H2 I2 r1 r2 q2
theorem pe_op {op : Operator} {r : R2} (ho : OpR X (binaryOp op) r) (ha : PE X a ta) (hb : PE X b tb) : PE X (.BinOp a op b pos) (tOp r ta tb) := by
  intro pins s σ H Q I h
  exact wpAny_BinOp (binT ha hb I h fun v u s2 x y H2 I2 rx ry q => ho pins s2 σ H2 x y v u Q I2 rx ry q)
theorem pe_un {op : UnaryOp} {r : V → Hp → VK → Prop} (ho : UnR X (unaryOp op) r) (ha : PE X a ta) : PE X (.UnaryOp op a pos) (tUn r ta) := by
  intro pins s σ H Q I h
  exact UnaryOp_ (thn (ha pins s σ H _ I h) fun v s1 ⟨x, H1, I1, r1, q1⟩ => ho pins s1 σ H1 x v Q I1 r1 q1)
theorem opI {f : Value → Value → Sem Value} {C : Int → Int → Prop} {g : Int → Int → Int}
    (rule : ∀ (i j : Int) (t u : Tok) (s : Shared) (Q : Value → Shared → Prop) (E : Value → Shared → Prop), C i j → Q (.int (g i j) s.toks) { s with toks := s.toks + 1 } → wpAny (model X.prog X.w) X.A (f (.int i t) (.int j u)) Q E s) :
    OpR X f (rI C fun i j => .int (g i j)) := by
  intro pins s σ H x y v u Q I rx ry h
  obtain ⟨i, j, rfl, rfl, hc, q⟩ := h
  obtain ⟨t, rfl⟩ := rx
  obtain ⟨t', rfl⟩ := ry
  exact rule i j t t' s _ _ hc ⟨.int (g i j), H, I.tok _, ⟨_, rfl⟩, q⟩
theorem opI0 {f : Value → Value → Sem Value} {g : Int → Int → Int}
    (rule : ∀ (i j : Int) (t u : Tok) (s : Shared) (Q : Value → Shared → Prop) (E : Value → Shared → Prop), Q (.int (g i j) s.toks) { s with toks := s.toks + 1 } → wpAny (model X.prog X.w) X.A (f (.int i t) (.int j u)) Q E s) :
    OpR X f (rI0 fun i j => .int (g i j)) := by
  intro pins s σ H x y v u Q I rx ry h
  obtain ⟨i, j, rfl, rfl, q⟩ := h
  obtain ⟨t, rfl⟩ := rx
  obtain ⟨t', rfl⟩ := ry
  exact rule i j t t' s _ _ ⟨.int (g i j), H, I.tok _, ⟨_, rfl⟩, q⟩
theorem opB0 {f : Value → Value → Sem Value} {g : Int → Int → Bool}
    (rule : ∀ (i j : Int) (t u : Tok) (s : Shared) (Q : Value → Shared → Prop) (E : Value → Shared → Prop), Q (.bool (g i j)) s → wpAny (model X.prog X.w) X.A (f (.int i t) (.int j u)) Q E s) :
    OpR X f (rI0 fun i j => .bl (g i j)) := by
  intro pins s σ H x y v u Q I rx ry h
  obtain ⟨i, j, rfl, rfl, q⟩ := h
  obtain ⟨t, rfl⟩ := rx
  obtain ⟨t', rfl⟩ := ry
  exact rule i j t t' s _ _ ⟨.bl (g i j), H, I, rfl, q⟩
def CPow (i j : Int) : Prop := 0 ≤ j ∧ j ≤ 1000000 ∧ i.natAbs < 2 ^ 64
def CMul (i j : Int) : Prop := (-(2 ^ 64) < i ∧ i < 2 ^ 64) ∨ (-(2 ^ 64) < j ∧ j < 2 ^ 64)
theorem CMul.ok {i j : Int} (h : CMul i j) : IntMulOk i j := by
  rcases h with ⟨h1, h2⟩ | ⟨h1, h2⟩
  · exact .of_left (intBits_le_64 h1 h2)
  · exact .of_right (intBits_le_64 h1 h2)
theorem op_add : OpR X (binaryOp .Add) (rI0 fun i j => .int (i + j)) := opI0 fun _ _ _ _ _ _ _ q => add_int q
theorem op_sub : OpR X (binaryOp .Sub) (rI0 fun i j => .int (i - j)) := opI0 fun _ _ _ _ _ _ _ q => sub_int q
theorem op_mul : OpR X (binaryOp .Mult) (rI CMul fun i j => .int (i * j)) := opI fun _ _ _ _ _ _ _ hc q => mul_int q hc.ok
theorem op_mod : OpR X (binaryOp .Mod) (rI (fun _ j => 0 < j) fun i j => .int (i % j)) := opI fun i j _ _ _ _ _ hc q => by
  have h1 : (0 : Int) < j := hc
  exact mod_int' (by omega) (by rw [Int.fmod_eq_emod_of_nonneg i (by omega)]; exact q)
theorem op_pow : OpR X (binaryOp .Pow) (rI CPow fun i j => .int (i ^ j.toNat)) := opI fun _ _ _ _ _ _ _ hc q => pow_int_small hc.1 hc.2.1 hc.2.2 q
theorem unI {f : Value → Sem Value} {g : Int → Int}
    (rule : ∀ (i : Int) (t : Tok) (s : Shared) (Q : Value → Shared → Prop) (E : Value → Shared → Prop), Q (.int (g i) s.toks) { s with toks := s.toks + 1 } → wpAny (model X.prog X.w) X.A (f (.int i t)) Q E s) :
    UnR X f (rU fun i => .int (g i)) := by
  intro pins s σ H x v Q I rx h
  obtain ⟨i, rfl, q⟩ := h
  obtain ⟨t, rfl⟩ := rx
  exact rule i t s _ _ ⟨.int (g i), H, I.tok _, ⟨_, rfl⟩, q⟩
theorem un_neg : UnR X (unaryOp .USub) (rU fun i => .int (-i)) := unI fun _ _ _ _ _ q => neg_int q
end
def scal : V → V → Bool
  | .non, .non => true | .non, .int _ => true | .int _, .non => true | .non, .bl _ => true | .bl _, .non => true | .non, .str _ => true | .str _, .non => true
  | .int _, .int _ => true | .bl _, .bl _ => true | .str _, .str _ => true | .byt _, .byt _ => true
  | .int _, .str _ => true | .str _, .int _ => true | .bl _, .str _ => true | .str _, .bl _ => true
  | _, _ => false
def rEq : R2 := fun x y H Q => scal x y = true ∧ Q (.bl (decide (x = y))) H
def rNe : R2 := fun x y H Q => scal x y = true ∧ Q (.bl (!decide (x = y))) H
theorem dec_int {i j : Int} : decide (V.int i = V.int j) = (i == j) := by
  rw [Bool.eq_iff_iff]
  simp
theorem dec_bl {i j : Bool} : decide (V.bl i = V.bl j) = (i == j) := by
  rw [Bool.eq_iff_iff]
  simp
theorem dec_str {i j : Str} : decide (V.str i = V.str j) = (i == j) := by
  rw [Bool.eq_iff_iff]
  simp
theorem dec_byt {i j : Array UInt8} : decide (V.byt i = V.byt j) = (i.toList == j.toList) := by
  rw [Bool.eq_iff_iff]
  cases i
  cases j
  simp
section
variable {X : Cx} {a b c : Expr} {ta tb tc : TE} {pos : Pos}
theorem fin_bl {pins : List (Addr × Obj)} {σ : St} {H : Hp} {s : Shared} {Q : VK} {k k' : Bool} (I : Inv X pins σ H s) (q : Q (.bl k) H) (e : k = k') : EP X pins σ Q (.bool k') s := by
  subst e
  exact ⟨.bl k, H, I, rfl, q⟩
theorem op_eq : OpR X (compareOp .Eq) rEq := by
  intro pins s σ H x y v u Q I rx ry h
  obtain ⟨hs, q⟩ := h
  cases x with
  | non =>
    cases rx
    cases y with
    | non => cases ry; exact PySem.EqNone.eq_none_none (fin_bl I q (by simp))
    | bl j => cases ry; exact PySem.EqNone.eq_none_bool (fin_bl I q (by simp))
    | int j => obtain ⟨t', rfl⟩ := ry; exact PySem.EqNone.eq_none_int (fin_bl I q (by simp))
    | str j => obtain ⟨t', rfl⟩ := ry; exact PySem.EqNone.eq_none_str (fin_bl I q (by simp))
    | _ => exact absurd (show false = true from hs) Bool.false_ne_true
  | bl i =>
    cases rx
    cases y with
    | non => cases ry; exact PySem.EqNone.eq_bool_none (fin_bl I q (by simp))
    | bl j => cases ry; exact eq_bool (fin_bl I q dec_bl)
    | str j => obtain ⟨t', rfl⟩ := ry; exact PySem.EqMixed.eq_bool_str (fin_bl I q (by simp))
    | _ => exact absurd (show false = true from hs) Bool.false_ne_true
  | int i =>
    obtain ⟨t, rfl⟩ := rx
    cases y with
    | non => cases ry; exact PySem.EqNone.eq_int_none (fin_bl I q (by simp))
    | int j => obtain ⟨t', rfl⟩ := ry; exact eq_int (fin_bl I q dec_int)
    | str j => obtain ⟨t', rfl⟩ := ry; exact PySem.EqMixed.eq_int_str (fin_bl I q (by simp))
    | _ => exact absurd (show false = true from hs) Bool.false_ne_true
  | str i =>
    obtain ⟨t, rfl⟩ := rx
    cases y with
    | non => cases ry; exact PySem.EqNone.eq_str_none (fin_bl I q (by simp))
    | bl j => cases ry; exact PySem.EqMixed.eq_str_bool (fin_bl I q (by simp))
    | int j => obtain ⟨t', rfl⟩ := ry; exact PySem.EqMixed.eq_str_int (fin_bl I q (by simp))
    | str j => obtain ⟨t', rfl⟩ := ry; exact eq_str (fin_bl I q dec_str)
    | _ => exact absurd (show false = true from hs) Bool.false_ne_true
  | byt i =>
    obtain ⟨t, rfl⟩ := rx
    cases y with
    | byt j => obtain ⟨t', rfl⟩ := ry; exact PySem.W.eq_bytes (fin_bl I q dec_byt)
    | _ => exact absurd (show false = true from hs) Bool.false_ne_true
  | _ => cases y <;> exact absurd (show false = true from hs) Bool.false_ne_true
theorem op_ne : OpR X (compareOp .NotEq) rNe := by
  intro pins s σ H x y v u Q I rx ry h
  obtain ⟨hs, q⟩ := h
  cases x with
  | non =>
    cases rx
    cases y with
    | non => cases ry; exact PySem.EqNone.ne_none_none (fin_bl I q (by simp))
    | bl j => cases ry; exact PySem.EqNone.ne_none_bool (fin_bl I q (by simp))
    | int j => obtain ⟨t', rfl⟩ := ry; exact PySem.EqNone.ne_none_int (fin_bl I q (by simp))
    | str j => obtain ⟨t', rfl⟩ := ry; exact PySem.EqNone.ne_none_str (fin_bl I q (by simp))
    | _ => exact absurd (show false = true from hs) Bool.false_ne_true
  | bl i =>
    cases rx
    cases y with
    | non => cases ry; exact PySem.EqNone.ne_bool_none (fin_bl I q (by simp))
    | bl j => cases ry; exact ne_bool (fin_bl I q (congrArg not dec_bl))
    | str j => obtain ⟨t', rfl⟩ := ry; exact PySem.EqMixed.ne_bool_str (fin_bl I q (by simp))
    | _ => exact absurd (show false = true from hs) Bool.false_ne_true
  | int i =>
    obtain ⟨t, rfl⟩ := rx
    cases y with
    | non => cases ry; exact PySem.EqNone.ne_int_none (fin_bl I q (by simp))
    | int j => obtain ⟨t', rfl⟩ := ry; exact ne_int (fin_bl I q (congrArg not dec_int))
    | str j => obtain ⟨t', rfl⟩ := ry; exact PySem.EqMixed.ne_int_str (fin_bl I q (by simp))
    | _ => exact absurd (show false = true from hs) Bool.false_ne_true
  | str i =>
    obtain ⟨t, rfl⟩ := rx
    cases y with
    | non => cases ry; exact PySem.EqNone.ne_str_none (fin_bl I q (by simp))
    | bl j => cases ry; exact PySem.EqMixed.ne_str_bool (fin_bl I q (by simp))
    | int j => obtain ⟨t', rfl⟩ := ry; exact PySem.EqMixed.ne_str_int (fin_bl I q (by simp))
    | str j => obtain ⟨t', rfl⟩ := ry; exact ne_str (fin_bl I q (congrArg not dec_str))
    | _ => exact absurd (show false = true from hs) Bool.false_ne_true
  | byt i =>
    obtain ⟨t, rfl⟩ := rx
    cases y with
    | byt j => obtain ⟨t', rfl⟩ := ry; exact PySem.W.ne_bytes (fin_bl I q (congrArg not dec_byt))
    | _ => exact absurd (show false = true from hs) Bool.false_ne_true
  | _ => cases y <;> exact absurd (show false = true from hs) Bool.false_ne_true
theorem op_lt : OpR X (compareOp .Lt) (rI0 fun i j => .bl (decide (i < j))) := opB0 fun _ _ _ _ _ _ _ q => lt_int q
theorem op_le : OpR X (compareOp .LtE) (rI0 fun i j => .bl (decide (i ≤ j))) := opB0 fun _ _ _ _ _ _ _ q => le_int q
theorem op_gt : OpR X (compareOp .Gt) (rI0 fun i j => .bl (decide (j < i))) := opB0 fun _ _ _ _ _ _ _ q => gt_int q
theorem op_ge : OpR X (compareOp .GtE) (rI0 fun i j => .bl (decide (j ≤ i))) := opB0 fun _ _ _ _ _ _ _ q => ge_int q
theorem nomark (b : Expr) {op : CmpOp} (h : op ≠ .In := by decide) (h2 : op ≠ .NotIn := by decide) : behindInMarks op b = false := by
  have e1 : (op == CmpOp.In) = false := by cases op <;> first | rfl | exact absurd rfl h
  have e2 : (op == CmpOp.NotIn) = false := by cases op <;> first | rfl | exact absurd rfl h2
  cases b <;> simp [behindInMarks, e1, e2]
theorem pe_cmpR {op : CmpOp} {r : R2} (ho : OpR X (compareOp op) r) (ha : PE X a ta) (hb : PE X b tb) (hm : behindInMarks op b = false) : PE X (.Compare a [op] [b] pos) (tOp r ta tb) := by
  intro pins s σ H Q I h
  exact wpAny_Compare1 (binT ha hb I h fun v u s2 x y H2 I2 rx ry q => ho pins s2 σ H2 x y v u Q I2 rx ry q) hm
def tTest (t : TE) : TT := fun σ H Q => t σ H fun x H' => ∃ k, x = .bl k ∧ Q k H'
theorem pt_cmpR {op : CmpOp} {r : R2} (ho : OpR X (compareOp op) r) (ha : PE X a ta) (hb : PE X b tb) (hm : behindInMarks op b = false) : PT X (.Compare a [op] [b] pos) (tTest (tOp r ta tb)) := by
  intro pins s σ H Q I h
  refine wpAny_isTrue_Compare1 (thn (ha pins s σ H _ I h) fun v s1 ⟨x, H1, I1, r1, q1⟩ => thn (hb pins s1 σ H1 _ I1 q1) fun u s2 ⟨y, H2, I2, r2, q2⟩ =>
    thn (ho pins s2 σ H2 x y v u _ I2 r1 r2 q2) fun c s3 ⟨z, H3, I3, r3, k, e, q3⟩ => ?_) hm
  subst e
  cases r3
  exact wpAny_truthy_bool ⟨H3, I3, q3⟩
def tChain (r r' : R2) (ta tb tc : TE) : TE := fun σ H Q => ta σ H fun x H1 => tb σ H1 fun y H2 => r x y H2 fun z H3 => ∃ k, z = .bl k ∧
  (if k = true then tc σ H3 fun w' H4 => r' y w' H4 Q else Q (.bl false) H3)
theorem pe_chain {op op' : CmpOp} {r r' : R2} (ho : OpR X (compareOp op) r) (ho' : OpR X (compareOp op') r') (ha : PE X a ta) (hb : PE X b tb) (hc : PE X c tc)
    (hm : lastMarks [op, op'] [b, c] = false := by with_unfolding_all rfl) : PE X (.Compare a [op, op'] [b, c] pos) (tChain r r' ta tb tc) := by
  intro pins s σ H Q I h
  refine Compare_chain (thn (ha pins s σ H _ I h) fun v s1 ⟨x, H1, I1, r1, q1⟩ => chain_link (thn (hb pins s1 σ H1 _ I1 q1) fun u s2 ⟨y, H2, I2, r2, q2⟩ =>
    thn (ho pins s2 σ H2 x y v u _ I2 r1 r2 q2) fun d s3 ⟨z, H3, I3, r3, k, e, q3⟩ => ?_)) hm
  subst e
  cases r3
  refine wpAny_truthy_bool ?_
  cases k with
  | false => exact ite_ff ⟨.bl false, H3, I3, rfl, q3⟩
  | true => exact ite_tt (chain_last (thn (hc pins s3 σ H3 _ I3 q3) fun w' s4 ⟨z', H4, I4, r4, q4⟩ => ho' pins s4 σ H4 y z' u w' Q I4 r2 r4 q4))
theorem line63 : (sizeLine : Nat) < 2 ^ 63 := by rw [sizeLine_eq]; decide
theorem vals1 {x : V} {us : List Value} (r : Vals [x] us) : ∃ u, us = [u] ∧ RelV x u := by
  cases r with
  | cons r1 r2 => cases r2; exact ⟨_, rfl, r1⟩
theorem vals2 {x y : V} {us : List Value} (r : Vals [x, y] us) : ∃ u w', us = [u, w'] ∧ RelV x u ∧ RelV y w' := by
  cases r with
  | cons r1 r2 =>
    cases r2 with
    | cons r3 r4 => cases r4; exact ⟨_, _, rfl, r1, r3⟩
theorem call_abs : CallR X (.builtin "abs") (fun xs H Q => ∃ i, xs = [.int i] ∧ Q (.int (if i < 0 then -i else i)) H) := by
  intro pins s σ H xs us Q I r h
  obtain ⟨i, rfl, q⟩ := h
  obtain ⟨u, rfl, t, rfl⟩ := vals1 r
  exact call_abs_int fun u tk => ⟨.int (if i < 0 then -i else i), H, I.tok _, ⟨_, rfl⟩, q⟩
theorem call_max2 (hc : X.calm = true) : CallR X (.builtin "max") (fun xs H Q => ∃ i j, xs = [.int i, .int j] ∧ Q (.int (if j > i then j else i)) H) := by
  intro pins s σ H xs us Q I r h
  obtain ⟨i, j, rfl, q⟩ := h
  obtain ⟨u, w', rfl, ⟨t, rfl⟩, ⟨t', rfl⟩⟩ := vals2 r
  refine max_two_ints (I.ok.hd hc) fun h' tk k => ⟨_, H, I.kept k, ?_, q⟩
  by_cases hj : j > i
  · rw [if_pos hj, if_pos hj]; exact ⟨_, rfl⟩
  · rw [if_neg hj, if_neg hj]; exact ⟨_, rfl⟩
theorem call_int1 : CallR X (.type "int") (fun xs H Q => (∃ i, xs = [.int i] ∧ Q (.int i) H) ∨ ∃ k, xs = [.bl k] ∧ Q (.int (if k then 1 else 0)) H) := by
  intro pins s σ H xs us Q I r h
  rcases h with ⟨i, rfl, q⟩ | ⟨k, rfl, q⟩
  · obtain ⟨u, rfl, t, rfl⟩ := vals1 r
    exact call_int_int ⟨.int i, H, I, ⟨_, rfl⟩, q⟩
  · obtain ⟨u, rfl, r1⟩ := vals1 r
    cases r1
    exact call_int_bool ⟨.int (if k then 1 else 0), H, I.tok _, ⟨_, rfl⟩, q⟩
theorem call_str_int : CallR X (.type "str") (fun xs H Q => ∃ i, xs = [.int i] ∧ i.natAbs.log2 < 1920 ∧ Q (.str (toString i)) H) := by
  intro pins s σ H xs us Q I r h
  obtain ⟨i, rfl, hz, q⟩ := h
  obtain ⟨u, rfl, t, rfl⟩ := vals1 r
  exact PySem.P.str_of_int hz ⟨.str _, H, I.tok _, ⟨_, rfl⟩, q⟩
end
end L2
namespace L2
open PySem PySem.Spec PyProof.Rows
structure ObjM (h : Heap) (x dx C : Addr) (mA : Str → Option Value) : Prop where
  obj : h.get? x = some (PySem.W.instObj C dx)
  ns : h.Ns1 dx mA
  ne : dx ≠ x
theorem lookIn_ns {h : Heap} {dx : Addr} {mA : Str → Option Value} (n : h.Ns1 dx mA) : ∃ od, h.get? dx = some od ∧ ∀ name, PySem.W.lookIn name od = some (mA name) := by
  obtain ⟨o, es, ep, ho, hd, hk, _, hm⟩ := n
  refine ⟨o, ho, fun name => ?_⟩
  have e := hm name
  unfold nsFind findBy at e
  rw [← Array.find?_toList] at e
  unfold PySem.W.lookIn
  rw [hd]
  dsimp only
  split
  · rename_i y q
    rw [q] at e
    exact congrArg some e
  · rename_i q
    rw [q] at e
    have a : es.toList.any (·.refKey) = false := by
      rw [List.any_eq_false]
      intro y hy
      obtain ⟨z, t, hkey⟩ := hk y (Array.mem_toList_iff.mp hy)
      simp [DictEntry.refKey, hkey]
    have a' : ¬ es.toList.any (·.refKey) = true := by rw [a]; exact Bool.false_ne_true
    rw [if_neg a']
    exact congrArg some e
theorem ObjM.look {h : Heap} {x dx C : Addr} {mA : Str → Option Value} (I : ObjM h x dx C mA) : ∃ od, PySem.W.InstAt h x (PySem.W.instObj C dx) C (some od) ∧ ∀ name, PySem.W.lookIn name od = some (mA name) :=
  let ⟨od, ho, hl⟩ := lookIn_ns I.ns
  ⟨od, ⟨I.obj, rfl, rfl, ho⟩, hl⟩
section
variable {prog : Program} {w : World} {A : Around} {E : Value → Shared → Prop} {s : Shared} {K : PySem.W.Frag} {x dx C f : Addr} {mA : Str → Option Value} {name : Str} {v : Value}
theorem get_map {expr : Bool} {Q : Value → Shared → Prop} (X : K.In s.heap) (I : ObjM s.heap x dx C mA) (hg : PySem.W.plainGet K C name = true) (hh : PySem.W.hasDictIn K C = true)
    (ha : PySem.W.findIn K (.ref C) name = some none) (hv : mA name = some v) (hv' : PySem.W.handedIn v = true) (h : Q v { s with toks := s.toks + 1 }) :
    wpAny (model prog w) A (getAttr (.ref x) name expr) Q E s := by
  obtain ⟨od, J, hl⟩ := I.look
  exact PySem.W.get_value X J (PySem.W.plainGet_of hg).1 (PySem.W.findObj_own hh ha rfl (by rw [hl, hv])) hv' h
theorem get_meth {pl : Sem Bool} {Q : Value × List Value → Shared → Prop} (X : K.In s.heap) (I : ObjM s.heap x dx C mA) (hg : PySem.W.plainGet K C name = true)
    (hf : PySem.W.findIn K (.ref C) name = some (some (.ref f))) (ht : PySem.W.isFn K (.ref f) = true) (hv : mA name = none) (h : Q (.ref f, [.ref x]) s) :
    wpAny (model prog w) A (getMethod (.ref x) name pl) Q E s := by
  obtain ⟨od, J, hl⟩ := I.look
  exact PySem.W.method_fn X J (PySem.W.plainGet_of hg).1 (PySem.W.plainGet_of hg).2 hf (beq_iff_eq.mp ht) (by show (PySem.W.lookIn name od).map (·.isSome) = some false; rw [hl, hv]; rfl) h
theorem set_map {ns : List Str} {Q : Unit → Shared → Prop} (X : K.In s.heap) (I : ObjM s.heap x dx C mA)
    (hs : PySem.W.findIn K (.ref C) "__setattr__" = some (some (.builtin "object.__setattr__"))) (hp : PySem.W.plainOver K C = true) (ht : PySem.W.takerIn K C name = some none) (hh : PySem.W.hasDictIn K C = true)
    (hw : PySem.Within mA ns) (hsz : ns.length ≤ sizeLine)
    (h : ∀ h', ObjM h' x dx C (fun y => if y = name then some v else mA y) → Heap.SameBut dx s.heap h' → Q () { s with heap := h', toks := s.toks + 2 }) :
    wpAny (model prog w) A (setAttr (.ref x) name v) Q E s := by
  obtain ⟨od, J, hl⟩ := I.look
  refine PySem.W.set_plain X J hs (PySem.W.osa_open (s := { s with toks := s.toks + 1 }) (r := none) X J hp ht fun b => ?_)
  obtain ⟨cd, hc, hd'⟩ := PySem.W.any_some hh
  have hx : s.heap.get? x = some ⟨.ref C, some dx, .plain, #[]⟩ := I.obj
  refine wpAny_bind (wpAny_pure (wpAny_bind (wpAny_bind (wpAny_loadPart hx (wpAny_bind (PySem.W.Looks.here (s := { s with toks := s.toks + 1 }) (PySem.W.looks_clsIn X hc) ?_))))))
  rw [hd']
  refine wpAny_pure (a := some dx) (wpAny_bind (wpAny_pure (wpAny_bind ?_)))
  refine wpAny_nsSet1 (s := { s with toks := s.toks + 1 }) I.ns fun h' hn2 hs2 => ?_
  obtain ⟨oD, esD, epD, hoD, hdD, hcD⟩ := hn2.count (PySem.Within.cons name v hw)
  refine wpAny_bind (wpAny_lookBehind hoD (by rw [hdD]; exact pastItsLine_dict (Nat.le_trans hcD (by rw [List.length_cons]; omega))) ?_)
  exact wpAny_pure (h _ ⟨(hs2.2 _ (Ne.symm I.ne)).trans I.obj, hn2, I.ne⟩ hs2)
theorem make_map {R : Result → Shared → Prop} {vs : List Value} {kw : List (Str × Value)} (X : K.In s.heap) (hm : PySem.W.makesIn K C = true)
    (hi : PySem.W.findIn K (.ref C) "__init__" = some (some (.ref f))) (hf : PySem.W.typeIn K (.ref f) = some (.type "function"))
    (h : codeAny (model prog w) (A.under (.builtin "type.__call__" ⟨.ref C :: vs, kw⟩)) (.call (.ref f) ⟨.ref (s.heap.objs.size + 1) :: vs, kw⟩) (PySem.W.InitBack (s.heap.objs.size + 1) R)
      { s with heap := (s.heap.push PySem.W.emptyDict).push (PySem.W.instObj C s.heap.objs.size) }) :
    codeAny (model prog w) A (.call (.ref C) ⟨vs, kw⟩) R s := by
  obtain ⟨hh, g, d, t, os⟩ := s
  exact PySem.W.make_core (PySem.W.makes_of X hm) (PySem.W.looks_findIn X hi) (fun self => PySem.W.bind_fn X self hf) (.inl rfl) h
end
def putF (f : Str) (v : V) : List (Str × V) → List (Str × V)
  | [] => [(f, v)]
  | (g, x) :: r => if g = f then (g, v) :: r else (g, x) :: putF f v r
theorem lookup_putF (f g : Str) (v : V) : ∀ fs : List (Str × V), (putF f v fs).lookup g = if g = f then some v else fs.lookup g
  | [] => by
    show List.lookup g [(f, v)] = _
    by_cases h : g = f
    · have hb : (g == f) = true := beq_iff_eq.mpr h
      simp only [List.lookup, hb, if_pos h]
    · have hb : (g == f) = false := beq_eq_false_iff_ne.mpr h
      simp only [List.lookup, hb, if_neg h]
  | (k, x) :: r => by
    have ih := lookup_putF f g v r
    rw [show putF f v ((k, x) :: r) = (if k = f then (k, v) :: r else (k, x) :: putF f v r) from rfl]
    by_cases hk : k = f
    · rw [if_pos hk]
      by_cases h : g = k
      · have hb : (g == k) = true := beq_iff_eq.mpr h
        simp only [List.lookup, hb, if_pos (h.trans hk)]
      · have hb : (g == k) = false := beq_eq_false_iff_ne.mpr h
        simp only [List.lookup, hb, if_neg (fun e : g = f => h (e.trans hk.symm))]
    · rw [if_neg hk]
      by_cases h : g = k
      · have hb : (g == k) = true := beq_iff_eq.mpr h
        simp only [List.lookup, hb, if_neg (fun e : g = f => hk (h.symm.trans e))]
      · have hb : (g == k) = false := beq_eq_false_iff_ne.mpr h
        simp only [List.lookup, hb]
        exact ih
theorem keys_putF (f : Str) (v : V) : ∀ fs : List (Str × V), f ∈ (putF f v fs).map (·.1) ∧ ∀ g, g ∈ fs.map (·.1) → g ∈ (putF f v fs).map (·.1)
  | [] => ⟨by simp [putF], fun g h => by simp at h⟩
  | (k, x) :: r => by
    obtain ⟨i1, i2⟩ := keys_putF f v r
    rw [show putF f v ((k, x) :: r) = (if k = f then (k, v) :: r else (k, x) :: putF f v r) from rfl]
    by_cases hk : k = f
    · rw [if_pos hk]
      subst hk
      exact ⟨by simp, fun g h => by simpa using h⟩
    · rw [if_neg hk]
      refine ⟨?_, fun g h => ?_⟩
      · rw [List.map_cons]
        exact List.mem_cons_of_mem _ i1
      · rw [List.map_cons] at h ⊢
        rcases List.mem_cons.mp h with e | e
        · exact List.mem_cons.mpr (.inl e)
        · exact List.mem_cons_of_mem _ (i2 g e)
theorem length_putF (f : Str) (v : V) : ∀ fs : List (Str × V), (putF f v fs).length ≤ fs.length + 1
  | [] => by simp [putF]
  | (k, x) :: r => by
    have ih := length_putF f v r
    rw [show putF f v ((k, x) :: r) = (if k = f then (k, v) :: r else (k, x) :: putF f v r) from rfl]
    by_cases hk : k = f
    · rw [if_pos hk, List.length_cons, List.length_cons]; omega
    · rw [if_neg hk, List.length_cons, List.length_cons]; omega
theorem RelO.some_of {v : V} {o : Option Value} (r : RelO (some v) o) : ∃ u, o = some u ∧ RelV v u := by
  cases o with
  | none => exact (show False from r).elim
  | some u => exact ⟨u, rfl, r⟩
theorem RelO.none_of {o : Option Value} (r : RelO none o) : o = none := by
  cases o with
  | none => rfl
  | some u => exact (show False from r).elim
theorem handed_of {v : V} {u : Value} (r : RelV v u) : PySem.W.handedIn u = true := by
  cases v with
  | non => cases (show u = Value.none from r); rfl
  | bl b => cases (show u = Value.bool b from r); rfl
  | int i => obtain ⟨t, e⟩ := (show ∃ t, u = Value.int i t from r); cases e; rfl
  | str x => obtain ⟨t, e⟩ := (show ∃ t, u = Value.str x t from r); cases e; rfl
  | byt b => obtain ⟨t, e⟩ := (show ∃ t, u = Value.bytes b t from r); cases e; rfl
  | flt b => obtain ⟨t, e⟩ := (show ∃ t, u = Value.float b t from r); cases e; rfl
  | ref a => cases (show u = Value.ref a from r); rfl
  | ty n => cases (show u = Value.type n from r); rfl
section
variable {P : Program} {w : World} {H H' : Hp} {h h' : Heap} {a C dx : Addr} {fs fs' : List (Str × V)}
theorem ins_get (hok : HOk P w H h) (e : H a = some (.ins C dx fs)) : ∃ mA, ObjM h a dx C mA ∧ (∀ f, RelO (fs.lookup f) (mA f)) ∧ PySem.Within mA (fs.map (·.1)) ∧ fs.length ≤ 1000 ∧ H dx = some (.own a) := by
  obtain ⟨d, z, ne, ob, mA, n, r, q⟩ := (show ObjOk P w H h a (.ins C dx fs) from hok a _ e)
  exact ⟨mA, ⟨ob, n, ne⟩, r, q, z, d⟩
end
structure Cls (K : PySem.W.Frag) (C : Addr) : Prop where
  pg : PySem.W.plainGet K C Str.empty = true
  hd : PySem.W.hasDictIn K C = true
  po : PySem.W.plainOver K C = true
  sa : PySem.W.findIn K (.ref C) "__setattr__" = some (some (.builtin "object.__setattr__"))
theorem Cls.get {K : PySem.W.Frag} {C : Addr} (c : Cls K C) (f : Str) : PySem.W.plainGet K C f = true := c.pg
def NoAttr (K : PySem.W.Frag) (C : Addr) (f : Str) : Prop := PySem.W.findIn K (.ref C) f = some none
theorem NoAttr.taker {K : PySem.W.Frag} {C : Addr} {f : Str} (n : NoAttr K C f) : PySem.W.takerIn K C f = some none := by
  unfold PySem.W.takerIn
  rw [show PySem.W.findIn K (.ref C) f = some none from n]
  rfl
structure Meth (K : PySem.W.Frag) (C : Addr) (m : Str) (f : Addr) : Prop where
  at_ : PySem.W.findIn K (.ref C) m = some (some (.ref f))
  fn : PySem.W.isFn K (.ref f) = true
  kp : PySem.W.keepIn K (.ref f) = true
section
variable {X : Cx} {pins : List (Addr × Obj)} {σ : St} {H : Hp} {s : Shared} {a C dx : Addr} {fs : List (Str × V)} {f : Str} {v : V} {A : Around} {E : Value → Shared → Prop}
theorem getattr_ok {b : Bool} {Q : Value → Shared → Prop} (I : Inv X pins σ H s) (e : H a = some (.ins C dx fs)) (c : Cls X.K C) (n : NoAttr X.K C f) (l : fs.lookup f = some v)
    (h : ∀ u s', Inv X pins σ H s' → RelV v u → Q u s') : wpAny (model X.prog X.w) A (getAttr (.ref a) f b) Q E s := by
  obtain ⟨mA, O, r, _, _, _⟩ := ins_get I.hok e
  obtain ⟨u, hu, ru⟩ := RelO.some_of (v := v) (o := mA f) (by rw [← l]; exact r f)
  exact get_map I.kIn O (c.get f) c.hd n hu (handed_of ru) (h u _ (I.tok _) ru)
theorem getmeth_ok {m : Str} {g : Addr} {pl : Sem Bool} {Q : Value × List Value → Shared → Prop} (I : Inv X pins σ H s) (e : H a = some (.ins C dx fs)) (c : Cls X.K C) (k : Meth X.K C m g) (l : fs.lookup m = none)
    (h : Q (.ref g, [.ref a]) s) : wpAny (model X.prog X.w) A (getMethod (.ref a) m pl) Q E s := by
  obtain ⟨mA, O, r, _, _, _⟩ := ins_get I.hok e
  have hn : mA m = none := RelO.none_of (by rw [← l]; exact r m)
  exact get_meth I.kIn O (c.get m) k.at_ k.fn hn h
theorem setattr_ok {y : V} {u : Value} {Q : Unit → Shared → Prop} (I : Inv X pins σ H s) (e : H a = some (.ins C dx fs)) (c : Cls X.K C) (n : NoAttr X.K C f) (hl : fs.length < 1000) (ry : RelV y u)
    (h : ∀ s', Inv X pins σ (upd H a (.ins C dx (putF f y fs))) s' → Q () s') : wpAny (model X.prog X.w) A (setAttr (.ref a) f u) Q E s := by
  obtain ⟨mA, O, r, wi, _, ho⟩ := ins_get I.hok e
  have hz : (fs.map (·.1)).length ≤ sizeLine := by rw [List.length_map, sizeLine_eq]; omega
  refine set_map I.kIn O c.sa c.po n.taker c.hd wi hz fun h' O' sb => h _ ?_
  have hd : ∃ o, h'.get? dx = some o := let ⟨o, _, _, e', _⟩ := O'.ns; ⟨o, e'⟩
  refine I.write (x := a) (e := dx) (by rw [e]; exact True.intro) (.inr ho) (fun b q hb z => (sb.2 b hb).trans z) hd ?_
  refine ⟨by rw [upd_ne O.ne]; exact ho, ?_, O.ne, O'.obj, _, O'.ns, fun g => ?_, fun g hg => ?_⟩
  · have := length_putF f y fs; omega
  · show RelO ((putF f y fs).lookup g) (if g = f then some u else mA g)
    rw [lookup_putF]
    by_cases q : g = f
    · rw [if_pos q, if_pos q]; exact ry
    · rw [if_neg q, if_neg q]; exact r g
  · by_cases q : g = f
    · rw [q]; exact (keys_putF f y fs).1
    · refine (keys_putF f y fs).2 g (wi g fun z => hg ?_)
      show (if g = f then some u else mA g) = none
      rw [if_neg q]; exact z
theorem Inv.made (I : Inv X pins σ H s) : Inv X pins σ (upd (upd H s.heap.objs.size (.own (s.heap.objs.size + 1))) (s.heap.objs.size + 1) (.ins C s.heap.objs.size []))
    { s with heap := (s.heap.push PySem.W.emptyDict).push (PySem.W.instObj C s.heap.objs.size) } := by
  have e1 : (s.heap.push PySem.W.emptyDict).get? s.heap.objs.size = some PySem.W.emptyDict := Heap.get?_push_size s.heap rfl
  have e2 : ((s.heap.push PySem.W.emptyDict).push (PySem.W.instObj C s.heap.objs.size)).get? (s.heap.objs.size + 1) = some (PySem.W.instObj C s.heap.objs.size) := by
    have := Heap.get?_push_size (s.heap.push PySem.W.emptyDict) (o := PySem.W.instObj C s.heap.objs.size) rfl
    rwa [Heap.size_push] at this
  have e3 : (s.heap.push PySem.W.emptyDict).Ns s.heap.objs.size (fun _ => none) := ⟨PySem.W.emptyDict, #[], _, e1, rfl, (fun e he => absurd he (by simp)), fun _ => rfl⟩
  have I1 := I.laid (a := s.heap.objs.size) (o := .own (s.heap.objs.size + 1)) (h' := s.heap.push PySem.W.emptyDict) (t' := s.toks) (fun b u q => Heap.get?_push_of_some _ q) (Nat.le_refl _) ⟨_, e1⟩
  refine I1.laid (a := s.heap.objs.size + 1) (o := .ins C s.heap.objs.size []) (t' := s.toks) (fun b u q => Heap.get?_push_of_some _ q) (Nat.le_of_eq (Heap.size_push _ _)) ?_
  have ne : s.heap.objs.size ≠ s.heap.objs.size + 1 := Nat.ne_of_lt (Nat.lt_succ_self _)
  refine ⟨by rw [upd_ne ne, upd_same], Nat.zero_le _, ne, e2, fun _ => none, (Heap.Ns1.of_empty e3).at fun o q => Heap.get?_push_of_some _ q, fun _ => True.intro, fun y hy => absurd rfl hy⟩
theorem attr_of {prog : Program} {w : World} {env : Env} {e : Expr} {f : Str} {pos : Pos} {s : Shared} {Q : Value → Shared → Prop} (hb : attributeBase e f env (eval e env) = eval e env)
    (h : wpAny (model prog w) A (eval e env) (fun o s₁ => wpAny (model prog w) A (getAttr o f true) Q E s₁) E s) : wpAny (model prog w) A (eval (.Attribute e f pos) env) Q E s :=
  Attribute_any_ h (by rw [arm_eval_Attribute, hb])
end
def tFld (K : PySem.W.Frag) (ta : TE) (f : Str) : TE := fun σ H Q => ta σ H fun x H1 => ∃ a C dx fs v, x = .ref a ∧ H1 a = some (.ins C dx fs) ∧ Cls K C ∧ NoAttr K C f ∧ fs.lookup f = some v ∧ Q v H1
def sFld (K : PySem.W.Frag) (ta tv : TE) (f : Str) : TS := fun D σ H => tv σ H fun y H1 => ta σ H1 fun x H2 => ∃ a C dx fs, x = .ref a ∧ H2 a = some (.ins C dx fs) ∧ Cls K C ∧ NoAttr K C f ∧ fs.length < 1000 ∧
  D.nx σ (upd H2 a (.ins C dx (putF f y fs)))
section
variable {X : Cx} {o e value : Expr} {f : Str} {pos pos' tpos : Pos} {ta tv : TE}
theorem pe_fld (he : PE X e ta) (hb : attributeBase e f X.env (eval e X.env) = eval e X.env) : PE X (.Attribute e f pos) (tFld X.K ta f) := by
  intro pins s σ H Q I h
  refine attr_of hb (thn (he pins s σ H _ I h) fun u s1 ⟨x, H1, I1, rx, a, C, dx, fs, v, ex, ea, c, n, l, q⟩ => ?_)
  subst ex
  obtain rfl : u = Value.ref a := rx
  exact getattr_ok I1 ea c n l fun u' s2 I2 ru => ⟨v, H1, I2, ru, q⟩
theorem ps_fld (ha : PE X o ta) (hv : PE X value tv) (hs : swapsWith value (some (.Attribute o f pos')) pos.line X.env = pure false) : PS X (.Assign [.Attribute o f pos'] value pos) (sFld X.K ta tv f) := by
  intro pins s σ H D I h
  refine plainObj_wpAny_Assign_Attribute (thn (hv pins s σ H _ I h) fun u s1 ⟨y, H1, I1, ry, q⟩ => thn (ha pins s1 σ H1 _ I1 q) fun ov s2 ⟨x, H2, I2, rx, a, C, dx, fs, ex, ea, c, n, l, q2⟩ => ?_) hs
  subst ex
  obtain rfl : ov = Value.ref a := rx
  exact setattr_ok I2 ea c n l ry fun s3 I3 => ⟨σ, _, I3, q2⟩
end
section
variable {X : Cx} {pins : List (Addr × Obj)} {σ : St} {H : Hp} {s : Shared} {A : Around} {E : Value → Shared → Prop} {Q : Value → Shared → Prop} {c : Value} {b : Bool}
inductive TyOf (K : PySem.W.Frag) (H : Hp) : V → Value → Prop where
  | non : TyOf K H .non (.type "NoneType")
  | bl (x : Bool) : TyOf K H (.bl x) (.type "bool")
  | int (i : Int) : TyOf K H (.int i) (.type "int")
  | str (x : Str) : TyOf K H (.str x) (.type "str")
  | flt (x : UInt64) : TyOf K H (.flt x) (.type "float")
  | lst {a : Addr} {xs : List V} (e : H a = some (.lst xs)) : TyOf K H (.ref a) (.type "list")
  | frz {a : Addr} {o : Obj} {xs : List V} (e : H a = some (.frz o (.lst xs))) : TyOf K H (.ref a) (.type "list")
  | tup {a : Addr} {xs : List V} (e : H a = some (.tup xs)) : TyOf K H (.ref a) (.type "tuple")
  | dK {a : Addr} {kvs : List (Key × V)} (e : H a = some (.dK kvs)) : TyOf K H (.ref a) (.type "dict")
  | dT {a : Addr} {kvs : List (List Key × V)} (e : H a = some (.dT kvs)) : TyOf K H (.ref a) (.type "dict")
  | ins {a C dx : Addr} {fs : List (Str × V)} (e : H a = some (.ins C dx fs)) (cl : Cls K C) (ha : PySem.W.findIn K (.ref C) "__class__" = some (some (.builtin "object.__class__")))
      (hn : PySem.W.specialIn K (.builtin "object.__class__") "__get__" = some (some (.builtin "getset_descriptor.__get__"))) (htk : PySem.W.takesIn K (.builtin "object.__class__") = some true)
      (hm : PySem.W.mroIn K C (.type "object") = some true) : TyOf K H (.ref a) (.ref C)
theorem isinst_ok {x : V} {u t : Value} (I : Inv X pins σ H s) (rx : RelV x u) (ty : TyOf X.K H x t) (e : PySem.W.kitOne X.K t c = some b) (h : ∀ tk, Q (.bool b) { s with toks := tk }) :
    wpAny (model X.prog X.w) A (call (.builtin "isinstance") [u, c]) Q E s := by
  cases ty with
  | non => cases (show u = Value.none from rx); exact PySem.W.kia_one PySem.W.kitx_none I.kIn True.intro e (fun z => nomatch z) h
  | bl y => cases (show u = Value.bool y from rx); exact PySem.W.kia_one PySem.W.kitx_bool I.kIn True.intro e (fun z => nomatch z) h
  | int i => obtain ⟨t, q⟩ := (show ∃ t, u = Value.int i t from rx); cases q; exact PySem.W.kia_one PySem.W.kitx_int I.kIn True.intro e (fun z => nomatch z) h
  | str y => obtain ⟨t, q⟩ := (show ∃ t, u = Value.str y t from rx); cases q; exact PySem.W.kia_one PySem.W.kitx_str I.kIn True.intro e (fun z => nomatch z) h
  | flt y => obtain ⟨t, q⟩ := (show ∃ t, u = Value.float y t from rx); cases q; exact PySem.W.kia_one PySem.W.kitx_float I.kIn True.intro e (fun z => nomatch z) h
  | @lst a xs ea =>
    cases (show u = Value.ref a from rx)
    obtain ⟨_, _, n, _, h1⟩ := (show ObjOk X.prog X.w H s.heap a (.lst xs) from I.hok a _ ea)
    exact PySem.W.kia_one PySem.W.kitx_list I.kIn ⟨_, h1, rfl⟩ e (fun z => nomatch z) h
  | @frz a ob xs ea =>
    cases (show u = Value.ref a from rx)
    obtain ⟨_, _, _, n, _, h1⟩ := (show ObjOk X.prog X.w H s.heap a (.frz ob (.lst xs)) from I.hok a _ ea)
    exact PySem.W.kia_one PySem.W.kitx_list I.kIn ⟨_, h1, rfl⟩ e (fun z => nomatch z) h
  | @tup a xs ea =>
    cases (show u = Value.ref a from rx)
    obtain ⟨_, _, _, p⟩ := (show ObjOk X.prog X.w H s.heap a (.tup xs) from I.hok a _ ea)
    obtain ⟨o, h1, h2, _⟩ := p
    exact PySem.W.kia_one PySem.W.kitx_tuple I.kIn ⟨o, h1, h2⟩ e (fun z => nomatch z) h
  | @dK a kvs ea =>
    cases (show u = Value.ref a from rx)
    obtain ⟨_, _, vs, _, p⟩ := (show ObjOk X.prog X.w H s.heap a (.dK kvs) from I.hok a _ ea)
    obtain ⟨o, es, ep, h1, h2, _⟩ := p
    exact PySem.W.kia_one PySem.W.kitx_dict I.kIn ⟨o, h1, h2.1⟩ e (fun z => nomatch z) h
  | @dT a kvs ea =>
    cases (show u = Value.ref a from rx)
    obtain ⟨_, _, xs, _, o, es, ep, h1, h2, _⟩ := (show ObjOk X.prog X.w H s.heap a (.dT kvs) from I.hok a _ ea)
    exact PySem.W.kia_one PySem.W.kitx_dict I.kIn ⟨o, h1, h2.1⟩ e (fun z => nomatch z) h
  | @ins a C dx fs ea cl ha hn htk hm =>
    cases (show u = Value.ref a from rx)
    obtain ⟨mA, O, _⟩ := ins_get I.hok ea
    obtain ⟨od, J, _⟩ := O.look
    exact PySem.W.kia_one (PySem.W.kitx_own (cl.get _) cl.hd ha hn htk hm) I.kIn J e (fun z => nomatch z) h
end
end L2
namespace L2
open PySem PySem.Spec PyProof.Rows
structure Room (k : Nat) (A : Around) : Prop where
  hd : A.handled = none
  dp : A.depth + 3 * k + 5 < recursionLimit
  un : A.units + 16 * k + 200 < cLine
theorem Room.mono {j k : Nat} {A : Around} (r : Room k A) (h : j ≤ k) : Room j A := ⟨r.hd, by have := r.dp; omega, by have := r.un; omega⟩
theorem Room.deeper {k : Nat} {A : Around} (r : Room (k + 1) A) (env : Env) : Room k (A.deeper env) :=
  ⟨r.hd, by have := r.dp; show A.depth + 1 + 3 * k + 5 < _; omega, by have := r.un; show A.units + 3 + 16 * k + 200 < _; omega⟩
theorem make_depth {A : Around} {C : Addr} {us : List Value} {kw : List (Str × Value)} : (A.under (.builtin "type.__call__" ⟨.ref C :: us, kw⟩)).depth = A.depth + 1 := by
  first | rfl | simp [Around.under, Code.weight, Code.isCreation, Code.isGuard, Code.isCaller, Code.frames, Code.isFrame, guardIds]
theorem make_units {A : Around} {C : Addr} {us : List Value} {kw : List (Str × Value)} : (A.under (.builtin "type.__call__" ⟨.ref C :: us, kw⟩)).units = A.units + 1 := by
  first | rfl | simp [Around.under, Code.cUnits, Code.frames, Code.isFrame]
theorem Room.make {k : Nat} {A : Around} (r : Room (k + 1) A) (C : Addr) (us : List Value) (kw : List (Str × Value)) : Room k (A.under (.builtin "type.__call__" ⟨.ref C :: us, kw⟩)) :=
  ⟨r.hd, by have := r.dp; rw [make_depth]; omega, by have := r.un; rw [make_units]; omega⟩
theorem Room.depth {k : Nat} {A : Around} (r : Room k A) : A.depth < recursionLimit := by have := r.dp; omega
def tNil : TA := fun _ H Q => Q [] H
def tCons (ta : TE) (tr : TA) : TA := fun σ H Q => ta σ H fun x H1 => tr σ H1 fun xs H2 => Q (x :: xs) H2
section
variable {X : Cx} {e : Expr} {es : List Expr} {te : TE} {t : TA} {pos : Pos}
theorem pa_nil : PA X [] tNil := fun _ _ _ _ H Q I h => Calls.spliced_nil ⟨[], H, I, .nil, h⟩
theorem pa_cons (ha : PE X e te) (hr : PA X es t) (hs : starEach (e :: es) X.env = (false, eval e X.env) :: starEach es X.env := by rfl) : PA X (e :: es) (tCons te t) := by
  intro pos pins s σ H Q I h
  rw [hs]
  show wpAny _ _ (spliced ((false, eval e X.env) :: backTo pos (starEach es X.env))) _ _ s
  refine Calls.spliced_cons (thn (ha pins s σ H _ I h) fun u s1 ⟨x, H1, I1, r1, q1⟩ => ?_)
  exact thn (hr pos pins s1 σ H1 _ I1 q1) fun us s2 ⟨xs, H2, I2, r2, q2⟩ => ⟨x :: xs, H2, I2, .cons r1 r2, q2⟩
def tTup (t : TA) : TE := fun σ H Q => t σ H fun xs H1 => xs.length ≤ sizeLine ∧ ∀ p, H1 p = none → Q (.ref p) (upd H1 p (.tup xs))
def tLst (t : TA) : TE := fun σ H Q => t σ H fun xs H1 => xs.length ≤ sizeLine ∧ ∀ p, H1 p = none → Q (.ref p) (upd H1 p (.lst xs))
theorem pe_tup {x1} (h : PA X es t) : PE X (.Tuple es x1 pos) (tTup t) := by
  intro pins s σ H Q I hq
  refine wpAny_Tuple_spliced (thn (h pos pins s σ H _ I hq) fun us s1 ⟨xs, H1, I1, r, z, q⟩ => ⟨by rw [← r.length]; exact z, ?_⟩)
  have hf : H1 s1.heap.objs.size = none := I1.hok.fresh (Nat.le_refl _)
  refine ⟨.ref s1.heap.objs.size, upd H1 s1.heap.objs.size (.tup xs), I1.laid (t' := s1.toks) (fun b u e => Heap.get?_push_of_some _ e) (Nat.le_refl _) ?_, rfl, q _ hf⟩
  exact ⟨z, us, r, ⟨_, Heap.get?_push_size _ rfl, rfl, _, rfl⟩⟩
theorem pe_lst (h : PA X es t) : PE X (.List es pos) (tLst t) := by
  intro pins s σ H Q I hq
  refine wpAny_List_spliced (thn (h pos pins s σ H _ I hq) fun us s1 ⟨xs, H1, I1, r, z, q⟩ => ⟨by rw [← r.length]; exact z, ?_⟩)
  have hf : H1 s1.heap.objs.size = none := I1.hok.fresh (Nat.le_refl _)
  refine ⟨.ref s1.heap.objs.size, upd H1 s1.heap.objs.size (.lst xs), I1.laid (t' := s1.toks) (fun b u e => Heap.get?_push_of_some _ e) (Nat.le_refl _) ?_, rfl, q _ hf⟩
  exact ⟨z, us, 0, r, Heap.get?_push_size _ rfl⟩
end
abbrev Sp := List V → Hp → VK → XK → Prop
abbrev CXT := List Env → Hp → Shared → XK → Value → Shared → Prop
structure Env0 (P : Program) (w : World) (K : PySem.W.Frag) (mg : Str → Option Value) (base : Heap) (A : Around) (outer : List Env) (s : Shared) (H : Hp) : Prop where
  frames : A.frames = some outer
  mod : Mod K mg base
  bs : ∀ b o, base.get? b = some o → s.heap.get? b = some o ∧ H b = none
  bsz : base.objs.size ≤ s.heap.objs.size
  funs : s.heap.FunFrames base outer
  frf : ∀ b ∈ frs outer, H b = none
  hok : HOk P w H s.heap
  bare : AllBare s.gens
def CE (outer : List Env) (P : Program) (w : World) (H : Hp) (s : Shared) (Q : VK) (u : Value) (s' : Shared) : Prop :=
  ∃ v H', s'.os = s.os ∧ AllBare s'.gens ∧ Un (frs outer) [] H H' s.heap s'.heap ∧ HOk P w H' s'.heap ∧ RelV v u ∧ Q v H'
def CR (CX : CXT) (outer : List Env) (P : Program) (w : World) (H : Hp) (s : Shared) (Q : VK) (E : XK) (r : Result) (s' : Shared) : Prop :=
  match r with
  | .ok (.ret u) => CE outer P w H s Q u s'
  | .ok _ => False
  | .error e => CX outer H s E e s'
structure FnOk (P : Program) (w : World) (K : PySem.W.Frag) (mg : Str → Option Value) (base : Heap) (CX : CXT) (k : Nat) (f : Addr) (fd : FuncData) (ps : List Str) (sp : Sp) : Prop where
  len : ∀ vs H Q E, sp vs H Q E → vs.length = ps.length
  run : ∀ (A : Around) (outer : List Env) (s : Shared) (H : Hp) (args : Args) (us : List Value) (vs : List V) (Q : VK) (E : XK), Room k A → Env0 P w K mg base A outer s H → BindsTo s fd args (ps.zip us) → Vals vs us → sp vs H Q E →
    codeAny (model P w) A (.call (.ref f) args) (CR CX outer P w H s Q E) s
theorem Env0.make {P : Program} {w : World} {K : PySem.W.Frag} {mg : Str → Option Value} {base : Heap} {A : Around} {outer : List Env} {s : Shared} {H : Hp} (e : Env0 P w K mg base A outer s H) (C : Addr) (us : List Value) (kw : List (Str × Value)) :
    Env0 P w K mg base (A.under (.builtin "type.__call__" ⟨.ref C :: us, kw⟩)) outer s H := ⟨by first | exact e.frames | (simpa [Around.under, Code.envs, Code.isFrame, pushEnvs] using e.frames), e.mod, e.bs, e.bsz, e.funs, e.frf, e.hok, e.bare⟩
section
variable {X : Cx} {pins : List (Addr × Obj)} {σ : St} {H : Hp} {s s' : Shared}
theorem Inv.env0 (I : Inv X pins σ H s) : Env0 X.prog X.w X.K X.mg X.base X.A X.stack s H :=
  ⟨I.ok.frames, I.ok.mod, I.bs, Nat.le_trans I.ok.bsz I.sz, I.stack, I.stkFree, I.hok, I.bare⟩
theorem Inv.after {Q : VK} {u : Value} (I : Inv X pins σ H s) (h : CE X.stack X.prog X.w H s Q u s') : EP X pins σ Q u s' := by
  obtain ⟨v, H', os, bare, un, hok, r, q⟩ := h
  obtain ⟨hh, g, d, t, os'⟩ := s'
  obtain rfl : os' = s.os := os
  exact ⟨v, H', I.call (h' := hh) (g' := g) (d' := d) (t' := t) (ch := []) un hok bare (fun b z => absurd z (by simp)), r, q⟩
end
def tCall (sp : Sp) (dvs : List V) (E : XK) (t : TA) : TE := fun σ H Q => t σ H fun vs H1 => sp (vs ++ dvs) H1 Q E
def tMake (C : Addr) (sp : Sp) (dvs : List V) (E : XK) (t : TA) : TE := fun σ H Q => t σ H fun vs H1 => ∀ x dx, H1 x = none → H1 dx = none → dx ≠ x →
  sp (.ref x :: (vs ++ dvs)) (upd (upd H1 dx (.own x)) x (.ins C dx [])) (fun v H2 => v = .non ∧ Q (.ref x) H2) E
def Binds (K : PySem.W.Frag) (fd : FuncData) (ps : List Str) (ds : List Value) : Prop :=
  ∀ (s : Shared) (us : List Value), K.In s.heap → (us ++ ds).length = ps.length → BindsTo s fd ⟨us, []⟩ (ps.zip (us ++ ds))
theorem Binds.all {K : PySem.W.Frag} {fd : FuncData} {ps : List Str} (h : ∀ us : List Value, us.length = ps.length → bindArgs fd ⟨us, []⟩ = pure (ps.zip us)) : Binds K fd ps [] := fun s us _ hl => by
  rw [List.append_nil] at hl ⊢
  exact .of_eq (h us hl)
def Passes (CX : CXT) (X : Cx) (E : XK) : Prop := ∀ (pins : List (Addr × Obj)) (σ : St) (H : Hp) (s : Shared) (e : Value) (s' : Shared), Inv X pins σ H s → CX X.stack H s E e s' → X.xe e s'
section
variable {X : Cx} {CX : CXT} {k : Nat} {f C : Addr} {fd : FuncData} {ps : List Str} {sp : Sp} {dvs : List V} {ds : List Value} {E : XK} {x m : Str} {p pos apos : Pos} {e o : Expr} {es : List Expr} {ta : TE} {t : TA}
theorem run_fn {pins : List (Addr × Obj)} {σ : St} {H : Hp} {s : Shared} {Q : VK} {us : List Value} {vs : List V} (F : FnOk X.prog X.w X.K X.mg X.base CX k f fd ps sp) (hr : Room k X.A) (hb : Binds X.K fd ps ds) (hd : Vals dvs ds) (hx : Passes CX X E)
    (I : Inv X pins σ H s) (r : Vals vs us) (h : sp (vs ++ dvs) H Q E) : wpAny (model X.prog X.w) X.A (call (.ref f) us) (EP X pins σ Q) X.xe s := by
  have r2 : Vals (vs ++ dvs) (us ++ ds) := r.append hd
  have hl : (us ++ ds).length = ps.length := by rw [← r2.length]; exact F.len _ _ _ _ h
  refine wpAny_call (codeAny_mono (F.run X.A X.stack s H ⟨us, []⟩ (us ++ ds) (vs ++ dvs) Q E hr I.env0 (hb s us I.kIn hl) r2 h) fun r s' hq => ?_)
  cases r with
  | error e => exact hx pins σ H s e s' I hq
  | ok fl =>
    cases fl with
    | ret u => exact I.after hq
    | next => exact False.elim hq
    | brk => exact False.elim hq
    | cont => exact False.elim hq
theorem pe_call (F : FnOk X.prog X.w X.K X.mg X.base CX k f fd ps sp) (hr : Room k X.A) (hg : Gl X x) (hm : X.mg x = some (.ref f)) (hk : PySem.W.keepIn X.K (.ref f) = true) (hb : Binds X.K fd ps ds) (hd : Vals dvs ds) (hx : Passes CX X E)
    (ha : PA X (e :: es) t) (hdb : (x == ("__debug__" : Str)) = false := by decide) (he : starEach (e :: es) X.env = (false, eval e X.env) :: starEach es X.env := by rfl) (hpl : (backTo pos (starEach es X.env)).any (·.1) = false := by rfl) :
    PE X (.Call (.Name x p) (e :: es) [] pos) (tCall sp dvs E t) := by
  intro pins s σ H Q I h
  refine wpAny_Call_Name_kw (ld_glob I hg hm ?_ hdb)
  refine PySem.W.callWith_K (h₀ := X.base) I.ok.mod.kin hk (thn (ha pos pins s σ H _ I h) fun us s1 ⟨vs, H1, I1, r, q⟩ => ⟨I1.kIn, ?_⟩) he hpl
  exact run_fn F hr hb hd hx I1 r q
structure Mk (K : PySem.W.Frag) (C f : Addr) : Prop where
  makes : PySem.W.makesIn K C = true
  init : PySem.W.findIn K (.ref C) "__init__" = some (some (.ref f))
  fn : PySem.W.isFn K (.ref f) = true
  kp : PySem.W.keepIn K (.ref C) = true
theorem run_make {pins : List (Addr × Obj)} {σ : St} {H : Hp} {s : Shared} {Q : VK} {us : List Value} {vs : List V} (M : Mk X.K C f) (F : FnOk X.prog X.w X.K X.mg X.base CX k f fd ps sp) (hr : Room (k + 1) X.A) (hb : Binds X.K fd ps ds) (hd : Vals dvs ds)
    (hx : Passes CX X E) (I : Inv X pins σ H s) (r : Vals vs us)
    (h : ∀ x dx, H x = none → H dx = none → dx ≠ x → sp (.ref x :: (vs ++ dvs)) (upd (upd H dx (.own x)) x (.ins C dx [])) (fun v H2 => v = .non ∧ Q (.ref x) H2) E) :
    wpAny (model X.prog X.w) X.A (call (.ref C) us) (EP X pins σ Q) X.xe s := by
  have hq := h (s.heap.objs.size + 1) s.heap.objs.size (I.hok.fresh (Nat.le_succ _)) (I.hok.fresh (Nat.le_refl _)) (Nat.ne_of_lt (Nat.lt_succ_self _))
  have I2 := Inv.made (C := C) I
  have r2 : Vals (V.ref (s.heap.objs.size + 1) :: (vs ++ dvs)) (Value.ref (s.heap.objs.size + 1) :: (us ++ ds)) := .cons rfl (r.append hd)
  have hl : (Value.ref (s.heap.objs.size + 1) :: us ++ ds).length = ps.length := by
    have e := r2.length
    rw [F.len _ _ _ _ hq] at e
    exact e.symm
  refine wpAny_call (make_map (f := f) I.kIn M.makes M.init (beq_iff_eq.mp M.fn) (codeAny_mono (F.run _ X.stack _ _ ⟨Value.ref (s.heap.objs.size + 1) :: us, []⟩ (Value.ref (s.heap.objs.size + 1) :: (us ++ ds)) _ _ E (hr.make C us [])
    (I2.env0.make C us []) (hb _ (Value.ref (s.heap.objs.size + 1) :: us) I2.kIn hl) r2 hq) fun r s' hq' => ?_))
  cases r with
  | error e => exact hx pins σ _ _ e s' I2 hq'
  | ok fl =>
    cases fl with
    | ret u =>
      obtain ⟨v, H', I3, rv, ev, q3⟩ := I2.after hq'
      subst ev
      exact ⟨rv, ⟨V.ref (s.heap.objs.size + 1), H', I3, rfl, q3⟩⟩
    | next => exact False.elim hq'
    | brk => exact False.elim hq'
    | cont => exact False.elim hq'
theorem pe_make (M : Mk X.K C f) (F : FnOk X.prog X.w X.K X.mg X.base CX k f fd ps sp) (hr : Room (k + 1) X.A) (hg : Gl X x) (hm : X.mg x = some (.ref C)) (hb : Binds X.K fd ps ds) (hd : Vals dvs ds) (hx : Passes CX X E)
    (ha : PA X (e :: es) t) (hdb : (x == ("__debug__" : Str)) = false := by decide) (he : starEach (e :: es) X.env = (false, eval e X.env) :: starEach es X.env := by rfl) (hpl : (backTo pos (starEach es X.env)).any (·.1) = false := by rfl) :
    PE X (.Call (.Name x p) (e :: es) [] pos) (tMake C sp dvs E t) := by
  intro pins s σ H Q I h
  refine wpAny_Call_Name_kw (ld_glob I hg hm ?_ hdb)
  refine PySem.W.callWith_K (h₀ := X.base) I.ok.mod.kin M.kp (thn (ha pos pins s σ H _ I h) fun us s1 ⟨vs, H1, I1, r, q⟩ => ⟨I1.kIn, ?_⟩) he hpl
  exact run_make M F hr hb hd hx I1 r q
end
section
variable {X : Cx} {CX : CXT} {k : Nat} {f C : Addr} {fd : FuncData} {ps ks : List Str} {sp : Sp} {E : XK} {x m : Str} {p pos apos kpos : Pos} {e o : Expr} {es : List Expr} {kws : List Keyword} {te ta : TE} {t tk : TA} {nm : Option Str}
variable {g : List Value → List Value → List Value} {gV : List V → List V → List V}
end
structure FnScope (N P : List Str) (sc : Scope) : Prop where
  kind : sc.kind = .function
  co : sc.isCoroutine = false
  gen : sc.isGenerator = false
  nd : N.Nodup
  pre : N.take P.length = P
  par : ∀ x ∈ P, sc.names.lookup x = some .local ∨ sc.names.lookup x = some .cell
  nofree : ∀ y ∈ sc.names, y.2 ≠ .free
theorem bindL_out {kindOf : Str → Option NameKind} {x : Str} : ∀ {binds : List (Str × Value)} {m : Str → Option Value}, (∀ v, (x, v) ∉ binds) → bindL kindOf binds m x = m x
  | [], _, _ => rfl
  | (n, v) :: r, m, h => by
    unfold bindL
    rw [bindL_out fun w hw => h w (List.mem_cons_of_mem _ hw)]
    split
    · have : x ≠ n := by rintro rfl; exact h v List.mem_cons_self
      simp [this]
    · rfl
theorem bindC_out {kindOf : Str → Option NameKind} {x : Str} : ∀ {binds : List (Str × Value)} {m : Str → Option Value}, (∀ v, (x, v) ∉ binds) → bindC kindOf binds m x = m x
  | [], _, _ => rfl
  | (n, v) :: r, m, h => by
    unfold bindC
    rw [bindC_out fun w hw => h w (List.mem_cons_of_mem _ hw)]
    split
    · rfl
    · have : x ≠ n := by rintro rfl; exact h v List.mem_cons_self
      simp [this]
theorem bindL_get {kindOf : Str → Option NameKind} {x : Str} {v : Value} : ∀ {P : List Str} {vs : List Value} {i : Nat} {m : Str → Option Value}, P.Nodup → P[i]? = some x → vs[i]? = some v → kindOf x = some .local →
    bindL kindOf (P.zip vs) m x = some v
  | [], _, _, _, _, h, _, _ => by simp at h
  | _ :: _, [], _, _, _, _, h, _ => by simp at h
  | p :: P, w :: vs, 0, m, nd, h1, h2, hk => by
    simp at h1 h2; subst h1; subst h2
    show bindL kindOf ((p, w) :: P.zip vs) m p = _
    unfold bindL
    rw [bindL_out fun v hv => (List.nodup_cons.mp nd).1 (List.of_mem_zip hv).1, if_pos hk]
    simp
  | p :: P, w :: vs, i + 1, m, nd, h1, h2, hk => by
    show bindL kindOf ((p, w) :: P.zip vs) m x = _
    unfold bindL
    exact bindL_get (i := i) (List.nodup_cons.mp nd).2 (by simpa using h1) (by simpa using h2) hk
theorem bindC_get {kindOf : Str → Option NameKind} {x : Str} {v : Value} : ∀ {P : List Str} {vs : List Value} {i : Nat} {m : Str → Option Value}, P.Nodup → P[i]? = some x → vs[i]? = some v → kindOf x ≠ some .local →
    bindC kindOf (P.zip vs) m x = some v
  | [], _, _, _, _, h, _, _ => by simp at h
  | _ :: _, [], _, _, _, _, h, _ => by simp at h
  | p :: P, w :: vs, 0, m, nd, h1, h2, hk => by
    simp at h1 h2; subst h1; subst h2
    show bindC kindOf ((p, w) :: P.zip vs) m p = _
    unfold bindC
    rw [bindC_out fun v hv => (List.nodup_cons.mp nd).1 (List.of_mem_zip hv).1, if_neg hk]
    simp
  | p :: P, w :: vs, i + 1, m, nd, h1, h2, hk => by
    show bindC kindOf ((p, w) :: P.zip vs) m x = _
    unfold bindC
    exact bindC_get (i := i) (List.nodup_cons.mp nd).2 (by simpa using h1) (by simpa using h2) hk
def start (N : List Str) (vs : List V) : St := vs.map some ++ List.replicate (N.length - vs.length) none
def cxOf (CX : CXT) (P : Program) (w : World) (K : PySem.W.Frag) (mg : Str → Option Value) (base : Heap) (N : List Str) (qual : Str) (scope : Scope) (f : Addr) (cd : Value) (A : Around) (outer : List Env) (s : Shared) (H : Hp) (E : XK) : Cx where
  prog := P
  w := w
  K := K
  mg := mg
  base := base
  A := A.deeper (envOfC qual scope s.heap.objs.size f cd)
  N := N
  s₀ := s
  H₀ := H
  env := envOfC qual scope s.heap.objs.size f cd
  outer := outer
  stack := envOfC qual scope s.heap.objs.size f cd :: outer
  ex := []
  calm := true
  fn := fun _ => true
  pn := []
  xe := fun e s' => wpAny (model P w) (A.deeper (envOfC qual scope s.heap.objs.size f cd)) (leaving (envOfC qual scope s.heap.objs.size f cd) e) (fun _ s'' => CX outer H s E e s'') (fun e' s'' => CX outer H s E e' s'') s'
theorem cell_has {sc : Scope} {n : Nat} {x : Str} (h : sc.names.lookup x = some .cell) : ∃ c, (cellsFrom n sc.names []).lookup x = some c := by
  have q := PySem.W.cellsFrom_some sc.names n [] (.inl h)
  exact Option.isSome_iff_exists.mp q
theorem inv_start {CX : CXT} {P : Program} {w : World} {K : PySem.W.Frag} {mg : Str → Option Value} {base : Heap} {N ps : List Str} {qual : Str} {scope : Scope} {f : Addr} {cd : Value} {A : Around} {outer : List Env} {s s1 : Shared} {H : Hp} {E : XK} {us : List Value} {vs : List V}
    (S : FnScope N ps scope) (hd : A.handled = none) (e0 : Env0 P w K mg base A outer s H) (hl : vs.length = ps.length) (r : Vals vs us)
    (x : InCallC s s.heap.objs.size (bindL (envOfC qual scope s.heap.objs.size f cd).kindOf (ps.zip us) fun _ => none) (cellsFrom (s.heap.objs.size + 1) scope.names []) (bindC (envOfC qual scope s.heap.objs.size f cd).kindOf (ps.zip us) fun _ => none) s1) :
    Inv (cxOf CX P w K mg base N qual scope f cd A outer s H E) [] (start N vs) H s1 := by
  have hpl : ps.length ≤ N.length := by have := congrArg List.length S.pre; rw [List.length_take] at this; omega
  obtain ⟨h1, tk, rfl, hk⟩ := x.done
  have noA : ∀ b : Addr, b ∉ (cxOf CX P w K mg base N qual scope f cd A outer s H E).ex := fun b z => absurd (show b ∈ ([] : List Addr) from z) (by simp)
  refine ⟨⟨e0.mod, S.kind, rfl, rfl, Nat.le_refl _, fun y z c h1 h2 => ?_, fun y hy => ?_, fun y c _ h => ?_, fun _ => hd, Around.frames_deeper e0.frames, .inr ⟨rfl, rfl⟩, fun b z => absurd z (noA b), e0.bs, e0.bsz, fun b _ _ => noA b, fun b z => absurd z (noA b), e0.funs, e0.frf⟩,
    rfl, e0.bare, Un.kept hk, ⟨_, x.toInCall.ns, fun i y v h1 h2 h3 => ?_⟩, fun y c h => ⟨_, x.cell y c h⟩, e0.hok.fresh (Nat.le_refl _), fun y c h => ?_, fun p hp => absurd (show p ∈ ([] : List (Addr × Obj)) from hp) (by simp), e0.hok.kept hk, ?_⟩
  · exact name_of_addr x.apart (PySem.mem_of_lookup h1) (PySem.mem_of_lookup h2)
  · have hy : scope.names.lookup y = some .cell ∨ scope.names.lookup y = some .free := hy
    rcases hy with hy | hy
    · exact cell_has hy
    · exact absurd rfl (S.nofree _ (PySem.mem_of_lookup hy))
  · exact Nat.le_of_lt (x.above y c (PySem.mem_of_lookup h))
  · have hi : i < vs.length := by
      unfold start at h2
      by_cases hi : i < vs.length
      · exact hi
      · rw [List.getElem?_append_right (by simpa using hi)] at h2
        rw [List.getElem?_replicate] at h2
        split at h2 <;> cases h2
    have ha : vs[i]? = some v := by
      unfold start at h2
      rw [List.getElem?_append_left (by simpa using hi), List.getElem?_map] at h2
      cases e : vs[i]? with
      | none => rw [e] at h2; cases h2
      | some a => rw [e] at h2; cases h2; rfl
    obtain ⟨u, hu, rv⟩ := r.get ha
    have hp : ps[i]? = some y := by
      rw [← S.pre, List.getElem?_take_of_lt (by omega)]; exact h1
    have ndP : ps.Nodup := by rw [← S.pre]; exact S.nd.sublist (List.take_sublist _ _)
    refine ⟨u, rv, ?_⟩
    rcases S.par y (List.mem_of_getElem? hp) with k | k
    · exact .inl ⟨k, bindL_get ndP hp hu k⟩
    · obtain ⟨c, e⟩ := cell_has (n := s.heap.objs.size + 1) k
      refine .inr ⟨.inl k, c, e, ?_⟩
      have q := x.cell y c e
      rw [bindC_get ndP hp hu (by show scope.names.lookup y ≠ _; rw [k]; decide)] at q
      exact q
  · exact e0.hok.fresh (Nat.le_of_lt (x.above y c (PySem.mem_of_lookup h)))
  · unfold start
    show _ = N.length
    rw [List.length_append, List.length_map, List.length_replicate]
    omega
theorem fn_of {CX : CXT} {P : Program} {w : World} {K : PySem.W.Frag} {mg : Str → Option Value} {base : Heap} {k : Nat} {f : Addr} {name qual : Str} {params : Arguments} {body : List Stmt} {scope : Scope} {dV kV doc pm cdv ct oc : Value} {an od : Option Addr}
    {osl : Array (Option Value)} {N ps : List Str} {sp : Sp} (lk : K.lookup f = some ⟨oc, od, .func (PySem.W.fnOf name qual params body scope dV kV doc pm an cdv ct), osl⟩) (hcd : PySem.W.codeIn K cdv qual = true) (S : FnScope N ps scope)
    (len : ∀ vs H Q E, sp vs H Q E → vs.length = ps.length)
    (hbody : ∀ (A : Around) (outer : List Env) (s : Shared) (H : Hp) (vs : List V) (Q : VK) (E : XK), Room k (A.deeper (envOfC qual scope s.heap.objs.size f cdv)) → sp vs H Q E →
      ∃ t, PSs (cxOf CX P w K mg base N qual scope f cdv A outer s H E) body t ∧ t { nx := fun _ H' => Q .non H', rt := Q } (start N vs) H) :
    FnOk P w K mg base CX (k + 1) f (PySem.W.fnOf name qual params body scope dV kV doc pm an cdv ct) ps sp := by
  refine ⟨len, fun A outer s H args us vs Q E hr e0 hb r hsp => ?_⟩
  have hl := len _ _ _ _ hsp
  have KX : K.In s.heap := e0.mod.kin.keeps fun b o e => (e0.bs b o e).1
  have lim : s.heap.NoLimit := e0.mod.nolimit.keeps fun b o e => (e0.bs b o e).1
  have hkind : ∀ y ∈ ps.zip us, scope.names.lookup y.1 = some .local ∨ (scope.names.lookup y.1 = some .cell ∧ ((cellsFrom (s.heap.objs.size + 1) scope.names []).lookup y.1).isSome = true) := fun ⟨n, v⟩ hy => by
    rcases S.par n (List.of_mem_zip hy).1 with q | q
    · exact .inl q
    · exact .inr ⟨q, PySem.W.cellsFrom_some _ _ _ (.inl q)⟩
  refine codeAny_call_function hr.depth (KX _ _ lk) rfl S.co S.gen rfl (PySem.W.codeRec_of KX hcd) (hb _ _ _ _ ?_)
  refine wpAny_newFunctionEnv_cells S.kind hkind fun env he s1 x => ?_
  subst he
  refine ⟨lim.keeps x.toInCall.keep, codeAny_func ?_⟩
  obtain ⟨t, ht, hq⟩ := hbody A outer s H vs Q E (hr.deeper _) hsp
  have I : Inv (cxOf CX P w K mg base N qual scope f cdv A outer s H E) [] (start N vs) H s1 := inv_start S hr.hd e0 hl r x
  refine wpAny_mono (ht [] s1 (start N vs) H _ I hq) (fun fl s' hs => ?_) fun e s' hs => hs
  have fin : ∀ {σ' : St} {H' : Hp} {v : V} {u : Value}, Inv (cxOf CX P w K mg base N qual scope f cdv A outer s H E) [] σ' H' s' → RelV v u → Q v H' → CE outer P w H s Q u s' :=
    fun {σ' H' v u} J rv q => ⟨v, H', J.os, J.bare, J.base, J.hok, rv, q⟩
  cases fl with
  | ret u =>
    obtain ⟨v, σ', H', J, rv, q⟩ := hs
    exact fin J rv q
  | next =>
    obtain ⟨σ', H', J, q⟩ := hs
    exact fin (v := V.non) (u := Value.none) J rfl q
  | brk =>
    obtain ⟨_, _, _, q⟩ := hs
    exact False.elim q
  | cont =>
    obtain ⟨_, _, _, q⟩ := hs
    exact False.elim q
end L2
namespace L2
open PySem PySem.Spec PyProof.Rows
section
variable {X : Cx} {x : Str} {p pos : Pos} {e : Expr} {es : List Expr} {t : TA} {id T : String} {r : List V → Hp → VK → Prop}
def tCB (r : List V → Hp → VK → Prop) (t : TA) : TE := fun σ H Q => t σ H fun vs H1 => r vs H1 Q
theorem pe_callB (hc : CallR X (.builtin id) r) (hg : Gl X x) (hm : X.mg x = none) (hv : bootBuiltins x = some (.builtin id)) (ha : PA X (e :: es) t) (hn : x ≠ "__name__" := by decide) (hdb : (x == ("__debug__" : Str)) = false := by decide)
    (he : starEach (e :: es) X.env = (false, eval e X.env) :: starEach es X.env := by rfl) (hpl : (backTo pos (starEach es X.env)).any (·.1) = false := by rfl) : PE X (.Call (.Name x p) (e :: es) [] pos) (tCB r t) := by
  intro pins s σ H Q I h
  refine wpAny_Call_Name_kw (ld_blt I hg hm hv ?_ hn hdb)
  exact PyProof.Rows.callWith_builtin1 (thn (ha pos pins s σ H _ I h) fun us s1 ⟨vs, H1, I1, r1, q1⟩ => hc pins s1 σ H1 vs us Q I1 r1 q1) he hpl
theorem pe_callTy (hc : CallR X (.type T) r) (hg : Gl X x) (hm : X.mg x = none) (hv : bootBuiltins x = some (.type T)) (ha : PA X (e :: es) t) (hn : x ≠ "__name__" := by decide) (hdb : (x == ("__debug__" : Str)) = false := by decide)
    (he : starEach (e :: es) X.env = (false, eval e X.env) :: starEach es X.env := by rfl) (hpl : (backTo pos (starEach es X.env)).any (·.1) = false := by rfl) : PE X (.Call (.Name x p) (e :: es) [] pos) (tCB r t) := by
  intro pins s σ H Q I h
  refine wpAny_Call_Name_kw (ld_blt I hg hm hv ?_ hn hdb)
  exact PyProof.Rows.callWith_type1 (thn (ha pos pins s σ H _ I h) fun us s1 ⟨vs, H1, I1, r1, q1⟩ => hc pins s1 σ H1 vs us Q I1 r1 q1) he hpl
end
end L2
namespace HT
open PySem PyProof.Rows
section
open PySem.SeqAt
open PySem.AutoSeq1 (wpAny_loadPart')
open PySem.MeetsSeq PySem.MeetsSeq2 PySem.MeetsSeq3
end
section
variable {prog : Program} {w : World} {A : Around} {E : Value → Shared → Prop} {s : Shared}
def sIx (n d : Nat) : Option Int → Nat
  | none => d
  | some v => if v < 0 then (v + (n : Int)).toNat else min v.toNat n
theorem sIx_le (n d : Nat) (hd : d ≤ n) (o : Option Int) : sIx n d o ≤ n := by
  cases o with
  | none => exact hd
  | some v =>
    show (if v < 0 then (v + (n : Int)).toNat else min v.toNat n) ≤ n
    by_cases hv : v < 0
    · rw [if_pos hv]; omega
    · rw [if_neg hv]; exact Nat.min_le_right _ _
theorem clip_eq (v : Int) (n d : Nat) : (if v < 0 then max (v + (n : Int)) 0 else min v (n : Int)) = ((sIx n d (some v) : Nat) : Int) := by
  show (if v < 0 then max (v + (n : Int)) 0 else min v (n : Int)) = (((if v < 0 then (v + (n : Int)).toNat else min v.toNat n) : Nat) : Int)
  by_cases hv : v < 0
  · simp only [if_pos hv]; omega
  · simp only [if_neg hv]; omega
theorem adjust_gen (lo hi : Option Int) (n : Nat) : Builtin.Slice.sliceAdjust lo hi 1 (n : Int) = (((sIx n 0 lo : Nat) : Int), ((sIx n n hi : Nat) : Int)) := by
  have h1 : ¬ ((1 : Int) < 0) := by omega
  unfold Builtin.Slice.sliceAdjust
  simp only [h1, if_false]
  refine Prod.ext ?_ ?_
  · cases lo with
    | none => rfl
    | some v => exact clip_eq v n 0
  · cases hi with
    | none => rfl
    | some v => exact clip_eq v n n
theorem places_gen (i j : Nat) : Builtin.Slice.slicePlaces (i : Int) (j : Int) 1 = j - i := by
  unfold Builtin.Slice.slicePlaces
  have h1 : (1 : Int) > 0 := by omega
  simp only [h1, if_true, Int.ediv_one]
  split <;> omega
theorem slicePart_ {v : Value} {o : Option Int} {Q : Option Int → Shared → Prop} (p : IsPart v o) (h : Q o s) : wpAny (model prog w) A (Builtin.Slice.slicePartIndex v) Q E s := by
  cases p with
  | none => exact slicePart_none h
  | int i t => exact slicePart_int h
theorem sliceApplied_gen {sl : Addr} {vl vu : Value} {lo hi : Option Int} {n : Nat} {Q : Int × Int × Nat → Shared → Prop} (hs : s.heap.IsSliceOf sl vl vu .none) (pl : IsPart vl lo) (pu : IsPart vu hi)
    (h : Q (((sIx n 0 lo : Nat) : Int), 1, sIx n n hi - sIx n 0 lo) s) : wpAny (model prog w) A (Builtin.Slice.sliceApplied (.ref sl) (pure (n : Int))) Q E s := by
  obtain ⟨os, hos, hcs, hds⟩ := id hs
  unfold Builtin.Slice.sliceApplied Builtin.Slice.sliceFields
  refine wpAny_bind (wpAny_bind (wpAny_field hos hds (x := vl) rfl (wpAny_bind (wpAny_field hos hds (x := vu) rfl (wpAny_bind (wpAny_field hos hds (x := .none) rfl (wpAny_pure ?_)))))))
  refine wpAny_bind (slicePart_none ?_)
  show wpAny _ _ (if ((1 : Int) == 0) = true then _ else _) _ _ s
  rw [if_neg (by decide)]
  refine wpAny_bind (slicePart_ pl (wpAny_bind (slicePart_ pu (wpAny_bind (wpAny_pure ?_)))))
  show wpAny _ _ (match Builtin.Slice.sliceAdjust lo hi 1 (n : Int) with | (lo, hi) => pure (lo, (1 : Int), Builtin.Slice.slicePlaces lo hi 1)) _ _ s
  rw [adjust_gen lo hi n]
  show wpAny _ _ (pure (((sIx n 0 lo : Nat) : Int), (1 : Int), Builtin.Slice.slicePlaces ((sIx n 0 lo : Nat) : Int) ((sIx n n hi : Nat) : Int) 1)) _ _ s
  rw [places_gen]
  exact wpAny_pure h
theorem pick_gen (xs : Array Value) (i k : Nat) : ((List.range k).filterMap fun (m : Nat) => xs[((i : Int) + (m : Int) * 1).toNat]?).toArray = ((xs.toList.drop i).take k).toArray := by
  have e : (fun (m : Nat) => xs[((i : Int) + (m : Int) * 1).toNat]?) = fun m => xs[i + m]? := by
    funext m
    have : ((i : Int) + (m : Int) * 1).toNat = i + m := by omega
    rw [this]
  rw [e]
  have := pick_run xs i k
  rw [List.filterMap_map] at this
  have e2 : ((fun x => xs[x]?) ∘ fun x => i + x) = fun m => xs[i + m]? := rfl
  rw [e2] at this
  rw [this]
theorem getItem_tuple_cut {t sl : Addr} {items : Array Value} {vl vu : Value} {lo hi : Option Int} {Q : Value → Shared → Prop} (ht : IsTup s.heap t items) (hs : s.heap.IsSliceOf sl vl vu .none) (pl : IsPart vl lo) (pu : IsPart vu hi)
    (hw : ¬ (sIx items.size 0 lo = 0 ∧ sIx items.size items.size hi = items.size))
    (h : Q (.ref s.heap.objs.size) { s with heap := s.heap.push { cls := .type "tuple", data := .seq ((items.toList.drop (sIx items.size 0 lo)).take (sIx items.size items.size hi - sIx items.size 0 lo)).toArray } })
    (hsz : items.size ≤ sizeLine) : wpAny (model prog w) A (getItem (.ref t) (.ref sl)) Q E s := by
  have htake : sizeOk (.seq ((items.toList.drop (sIx items.size 0 lo)).take (sIx items.size items.size hi - sIx items.size 0 lo)).toArray) := by
    show ((items.toList.drop (sIx items.size 0 lo)).take (sIx items.size items.size hi - sIx items.size 0 lo)).toArray.size ≤ sizeLine
    rw [List.size_toArray, List.length_take, List.length_drop, Array.length_toList]
    omega
  have hj : sIx items.size items.size hi ≤ items.size := sIx_le _ _ (Nat.le_refl _) hi
  obtain ⟨os, hos, hcs, hds⟩ := id hs
  have hTs : s.TypeIs (.ref sl) "slice" := ⟨os, hos, hcs⟩
  unfold getItem
  try with_reducible refine wpAny_holding ?_
  first | refine wpAny_bind (wpAny_pure ?_) | skip
  refine wpAny_bind (wpAny_sequenceKey ht.typeIs (by decide) ?_)
  refine wpAny_bind (wpAny_callSpecial?_slot (name := Str.ofString "__getitem__") ht.typeIs PyProof.Rows.slot_tuple_getitem
    (wpAny_call_entry PyProof.Rows.slot_tuple_getitem ht.typeIs entry_tuple_getitem ?_ (args_tuple_getitem _ _)))
  show wpAny _ _ (Builtin.Tuple.tupleItemsOf (.ref t) >>= _) _ _ s
  refine wpAny_bind (tupleItemsOf_ ht ?_)
  refine wpAny_bind (wpAny_typeOf hTs ?_)
  rw [if_pos (by decide)]
  refine wpAny_bind (sliceApplied_gen hs pl pu ?_)
  have hno : ¬ ((((sIx items.size 0 lo : Nat) : Int) == 0 && (1 : Int) == 1 && (sIx items.size items.size hi - sIx items.size 0 lo) == items.size) = true) := by
    intro q
    rw [Bool.and_eq_true, Bool.and_eq_true] at q
    have q1 : ((sIx items.size 0 lo : Nat) : Int) = 0 := eq_of_beq q.1.1
    have q2 : sIx items.size items.size hi - sIx items.size 0 lo = items.size := eq_of_beq q.2
    exact hw ⟨by omega, by omega⟩
  show wpAny _ _ (if (((sIx items.size 0 lo : Nat) : Int) == 0 && (1 : Int) == 1 && (sIx items.size items.size hi - sIx items.size 0 lo) == items.size) = true then _ else _) _ _ s
  rw [if_neg hno, pick_gen]
  first
    | exact wpAny_bind (m := Builtin.Tuple.tupleExact _) (wpAny_newObj_type (wpAny_pure ⟨_, rfl, wpAny_pure h⟩) htake)
    | exact wpAny_bind (m := Builtin.Tuple.tupleExact _) (wpAny_newObj_type (wpAny_bind (wpAny_pure (wpAny_pure ⟨_, rfl, wpAny_pure h⟩))) htake)
    | exact wpAny_bind (wpAny_bind (m := Builtin.Tuple.tupleExact _) (wpAny_newObj_type (wpAny_pure (wpAny_pure ⟨_, rfl, wpAny_pure h⟩)) htake))
    | exact wpAny_bind (wpAny_bind (m := Builtin.Tuple.tupleExact _) (wpAny_newObj_type (wpAny_pure ⟨_, rfl, wpAny_pure h⟩) htake))
end
end HT
namespace L2
open PySem PySem.Spec PyProof.Rows
abbrev TO := St → Hp → (Option Int → Hp → Prop) → Prop
def PO (X : Cx) (e : Option Expr) (t : TO) : Prop :=
  ∀ (pins : List (Addr × Obj)) (s : Shared) (σ : St) (H : Hp) (Q : Option Int → Hp → Prop), Inv X pins σ H s → t σ H Q →
    wpAny (model X.prog X.w) X.A (evalPart e X.env) (fun u s' => ∃ o H', Inv X pins σ H' s' ∧ IsPart u o ∧ Q o H') X.xe s
def tNoPart : TO := fun _ H Q => Q none H
def tPart (t : TE) : TO := fun σ H Q => t σ H fun x H1 => ∃ i, x = .int i ∧ Q (some i) H1
section
variable {X : Cx} {e : Expr} {te : TE} {lo hi : Option Expr} {tl th : TO} {pos p2 : Pos}
theorem po_none : PO X none tNoPart := by
  intro pins s σ H Q I h
  rw [evalPart_none]
  exact wpAny_pure ⟨none, H, I, .none, h⟩
theorem po_some (h : PE X e te) : PO X (some e) (tPart te) := by
  intro pins s σ H Q I hw
  rw [evalPart_some]
  refine thn (h pins s σ H _ I hw) fun u s1 ⟨x, H1, I1, r1, q1⟩ => ?_
  obtain ⟨i, rfl, q⟩ := q1
  obtain ⟨t, rfl⟩ := r1
  exact ⟨some i, H1, I1, .int i t, q⟩
def SlR (X : Cx) (r : V → Option Int → Option Int → Hp → VK → Prop) : Prop :=
  ∀ (pins : List (Addr × Obj)) (s : Shared) (σ : St) (H : Hp) (x : V) (v vl vu : Value) (lo hi : Option Int) (sl : Addr) (Q : VK), Inv X pins σ H s → RelV x v → s.heap.IsSliceOf sl vl vu .none → IsPart vl lo → IsPart vu hi → r x lo hi H Q →
    ∃ T id, typeLookup (.type T) "__getitem__" = pure (some (.builtin id)) ∧ s.TypeIs v T ∧ wpAny (model X.prog X.w) X.A (getItem v (.ref sl)) (EP X pins σ Q) X.xe s
def tSl (r : V → Option Int → Option Int → Hp → VK → Prop) (te : TE) (tl th : TO) : TE := fun σ H Q => te σ H fun x H1 => tl σ H1 fun l H2 => th σ H2 fun u H3 => r x l u H3 Q
theorem pe_slice {r : V → Option Int → Option Int → Hp → VK → Prop} (hr : SlR X r) (he : PE X e te) (hl : PO X lo tl) (hu : PO X hi th) : PE X (.Subscript e (.Slice lo hi none p2) pos) (tSl r te tl th) := by
  intro pins s σ H Q I h
  refine Subscript_ (thn (he pins s σ H _ I h) fun v s1 ⟨x, H1, I1, r1, q1⟩ => ?_)
  refine wpAny_Slice (thn (hl pins s1 σ H1 _ I1 q1) fun vl s2 ⟨l, H2, I2, pl, q2⟩ => thn (hu pins s2 σ H2 _ I2 q2) fun vu s3 ⟨u, H3, I3, pu, q3⟩ => ?_)
  rw [evalPart_none]
  refine wpAny_pure ?_
  have I4 : Inv X pins σ H3 { s3 with heap := s3.heap.push { cls := .type "slice", data := .fields #[vl, vu, .none] } } := I3.kept (t' := s3.toks) fun b ob q => Heap.get?_push_of_some _ q
  obtain ⟨T, id, hT, ht, hg⟩ := hr pins { s3 with heap := s3.heap.push { cls := .type "slice", data := .fields #[vl, vu, .none] } } σ H3 x v vl vu l u s3.heap.objs.size Q I4 r1 (Heap.IsSliceOf.new ..) pl pu q3
  show wpAny (model X.prog X.w) X.A (subscriptTail e (.Slice lo hi none p2) v (.ref s3.heap.objs.size)) (EP X pins σ Q) X.xe { s3 with heap := s3.heap.push { cls := .type "slice", data := .fields #[vl, vu, .none] } }
  exact tail_any (ops := [.ref s3.heap.objs.size, v]) ht hT hg (by with_unfolding_all rfl)
def cutV (xs : List V) (lo hi : Option Int) : List V := (xs.drop (HT.sIx xs.length 0 lo)).take (HT.sIx xs.length xs.length hi - HT.sIx xs.length 0 lo)
theorem cutV_length (xs : List V) (lo hi : Option Int) : (cutV xs lo hi).length ≤ xs.length := by
  unfold cutV
  rw [List.length_take, List.length_drop]
  omega
def rSlT (K : PySem.W.Frag) : V → Option Int → Option Int → Hp → VK → Prop := fun x lo hi H Q => ∃ a xs, x = .ref a ∧ SqT K H a xs ∧
  ¬ (HT.sIx xs.length 0 lo = 0 ∧ HT.sIx xs.length xs.length hi = xs.length) ∧ ∀ p, H p = none → Q (.ref p) (upd H p (.tup (cutV xs lo hi)))
theorem sl_tup : SlR X (rSlT X.K) := by
  intro pins s σ H x v vl vu lo hi sl Q I rx hs pl pu h
  obtain ⟨a, xs, rfl, hx, hw, q⟩ := h
  cases rx
  obtain ⟨its, r, ht, hz⟩ := I.tuple hx
  have hlen : its.toArray.size = xs.length := by rw [List.size_toArray]; exact r.length.symm
  refine ⟨"tuple", _, PyProof.Rows.slot_tuple_getitem.lookup, ht.typeIs, ?_⟩
  refine HT.getItem_tuple_cut ht hs pl pu (by rw [hlen]; exact hw) ?_ (by rw [hlen]; exact hz)
  rw [hlen]
  refine ⟨.ref s.heap.objs.size, _, I.laid (t' := s.toks) (o := .tup (cutV xs lo hi)) (fun b ob q => Heap.get?_push_of_some _ q) (Nat.le_refl _) ?_, rfl, q _ (I.hok.fresh (Nat.le_refl _))⟩
  exact ⟨Nat.le_trans (cutV_length xs lo hi) hz, _, (r.drop (HT.sIx xs.length 0 lo)).take (HT.sIx xs.length xs.length hi - HT.sIx xs.length 0 lo), IsTup.new _ _⟩
end
end L2
namespace L2
open PySem PySem.Spec PyProof.Rows
def ixN (n : Nat) (i : Int) : Option Nat := if 0 ≤ i then (if i < n then some i.toNat else none) else if -(n : Int) ≤ i then some (i + n).toNat else none
def atI {α : Type} (xs : List α) (i : Int) : Option α := (ixN xs.length i).bind fun j => xs[j]?
theorem ixN_seq {n : Nat} {i : Int} {j : Nat} (h : ixN n i = some j) : seqIndex? i n = some j ∧ j < n ∧ -(n : Int) ≤ i ∧ i < n := by
  unfold ixN at h
  by_cases h0 : 0 ≤ i
  · rw [if_pos h0] at h
    by_cases h1 : i < n
    · rw [if_pos h1] at h
      have e : i.toNat = j := Option.some.inj h
      exact ⟨by rw [seqIndex_of h0 h1, e], by omega, by omega, h1⟩
    · rw [if_neg h1] at h; cases h
  · rw [if_neg h0] at h
    by_cases h1 : -(n : Int) ≤ i
    · rw [if_pos h1] at h
      have e : (i + n).toNat = j := Option.some.inj h
      exact ⟨by rw [seqIndex_neg (by omega) h1, e], by omega, h1, by omega⟩
    · rw [if_neg h1] at h; cases h
theorem atI_get {α : Type} {xs : List α} {i : Int} {v : α} (h : atI xs i = some v) : ∃ j, seqIndex? i xs.length = some j ∧ xs[j]? = some v ∧ j < xs.length ∧ -(xs.length : Int) ≤ i ∧ i < xs.length := by
  unfold atI at h
  cases e : ixN xs.length i with
  | none => rw [e] at h; cases h
  | some j =>
    rw [e] at h
    obtain ⟨h1, h2, h3, h4⟩ := ixN_seq e
    exact ⟨j, h1, h, h2, h3, h4⟩
theorem atI_nat {α : Type} {xs : List α} {j : Nat} {v : α} (h : xs[j]? = some v) : atI xs (j : Int) = some v := by
  have hj : j < xs.length := (List.getElem?_eq_some_iff.mp h).1
  have e : ixN xs.length (j : Int) = some j := by
    unfold ixN
    rw [if_pos (by omega), if_pos (by omega)]; simp
  unfold atI; rw [e]; exact h
def PlainIx (b : Expr) : Prop := ∀ o i, subscripted b false o i = operate [o, i] (getItem o i)
def IxR (X : Cx) (r : R2) : Prop :=
  ∀ (value slice : Expr) (pins : List (Addr × Obj)) (s : Shared) (σ : St) (H : Hp) (x y : V) (v u : Value) (Q : VK), Inv X pins σ H s → RelV x v → RelV y u → r x y H Q →
    subscripted slice false v u = operate [v, u] (getItem v u) → wpAny (model X.prog X.w) X.A (subscriptTail value slice v u) (EP X pins σ Q) X.xe s
def MtR (X : Cx) (id : String) (r : V → List V → Hp → VK → Prop) : Prop :=
  ∀ (pins : List (Addr × Obj)) (s : Shared) (σ : St) (H : Hp) (x : V) (xs : List V) (v : Value) (us : List Value) (Q : VK), Inv X pins σ H s → RelV x v → Vals xs us → r x xs H Q →
    wpAny (model X.prog X.w) X.A (call (.builtin id) (v :: us)) (EP X pins σ Q) X.xe s
section
variable {X : Cx} {a b : Expr} {ta tb : TE} {pos : Pos}
theorem pe_ix {r : R2} (hr : IxR X r) (ha : PE X a ta) (hb : PE X b tb) (hs : PlainIx b) : PE X (.Subscript a b pos) (tOp r ta tb) := by
  intro pins s σ H Q I h
  exact Subscript_ (binT ha hb I h fun v u s2 x y H2 I2 rx ry q => hr a b pins s2 σ H2 x y v u Q I2 rx ry q (hs _ _))
def rIxL (K : PySem.W.Frag) : R2 := fun x y H Q => ∃ p xs i v, x = .ref p ∧ y = .int i ∧ SqL K H p xs ∧ atI xs i = some v ∧ Q v H
def rIxT (K : PySem.W.Frag) : R2 := fun x y H Q => ∃ p xs i v, x = .ref p ∧ y = .int i ∧ SqT K H p xs ∧ atI xs i = some v ∧ Q v H
theorem ix_list : IxR X (rIxL X.K) := by
  intro value slice pins s σ H x y v u Q I rx ry h hs
  obtain ⟨p, xs, i, z, rfl, rfl, hq, he, q⟩ := h
  cases rx
  obtain ⟨t, rfl⟩ := ry
  obtain ⟨its, r, pl, hz⟩ := I.list hq
  obtain ⟨j, h1, h2, h3, h4, h5⟩ := atI_get he
  obtain ⟨w, ew, rw'⟩ := r.get h2
  have hl := r.length
  have hn := line63
  have fin : EP X pins σ Q w s := ⟨z, H, I, rw', q⟩
  by_cases h0 : 0 ≤ i
  · have hj : i.toNat = j := by
      rw [seqIndex_of h0 h5] at h1
      exact Option.some.inj h1
    exact item_listR pl.isList h0 (by omega) (by rw [hj]; simpa using ew) fin hs
  · have hj : (i + (its.toArray.size : Int)).toNat = j := by
      rw [seqIndex_neg (by omega) h4] at h1
      rw [List.size_toArray, ← hl]
      exact Option.some.inj h1
    exact subscriptTail_builtinR (x := w) pl.isList.typeIs slot_list_getitem.lookup
      (wpAny_getItem_list_neg (Q := fun r s' => r = w ∧ EP X pins σ Q r s') pl.isList (by omega) (by rw [List.size_toArray] <;> omega) (by omega) (by rw [hj]; simpa using ew) ⟨rfl, fin⟩) hs
theorem ix_tup : IxR X (rIxT X.K) := by
  intro value slice pins s σ H x y v u Q I rx ry h hs
  obtain ⟨p, xs, i, z, rfl, rfl, hq, he, q⟩ := h
  cases rx
  obtain ⟨t, rfl⟩ := ry
  obtain ⟨its, r, pl, hz⟩ := I.tuple hq
  obtain ⟨j, h1, h2, h3, h4, h5⟩ := atI_get he
  obtain ⟨w, ew, rw'⟩ := r.get h2
  have hl := r.length
  have hn := line63
  have fin : EP X pins σ Q w s := ⟨z, H, I, rw', q⟩
  exact subscriptTail_builtinR (x := w) pl.typeIs slot_tuple_getitem.lookup
    (getItem_tuple (j := j) (Q := fun r s' => r = w ∧ EP X pins σ Q r s') pl (by omega) (by omega) (by rw [List.size_toArray, ← hl]; exact h1) (by simpa using ew) ⟨rfl, fin⟩) hs
theorem mapSeq_set (its : List Value) (n j : Nat) (u : Value) : Obj.mapSeq (·.setIfInBounds j u) { cls := .type "list", data := .seq its.toArray n } = { cls := .type "list", data := .seq (its.set j u).toArray n } := by
  simp [Obj.mapSeq]
theorem Inv.lst {pins : List (Addr × Obj)} {σ : St} {H : Hp} {s : Shared} {p : Addr} {xs : List V} (I : Inv X pins σ H s) (h : H p = some (.lst xs)) :
    ∃ (its : List Value) (n : Nat), Vals xs its ∧ s.heap.get? p = some { cls := .type "list", data := .seq its.toArray n } ∧ xs.length ≤ sizeLine := by
  obtain ⟨z, its, n, r, e⟩ := I.hok p _ h
  exact ⟨its, n, r, e, z⟩
theorem Inv.lstUpd {pins : List (Addr × Obj)} {σ : St} {H : Hp} {s : Shared} {p : Addr} {xs ys : List V} {its its' : List Value} {n n' : Nat} {f : Obj → Obj} (I : Inv X pins σ H s) (h : H p = some (.lst xs))
    (ho : s.heap.get? p = some { cls := .type "list", data := .seq its.toArray n }) (hf : f { cls := .type "list", data := .seq its.toArray n } = { cls := .type "list", data := .seq its'.toArray n' }) (r : Vals ys its') (hz : ys.length ≤ sizeLine) (t : Nat) :
    Inv X pins σ (upd H p (.lst ys)) { s with heap := s.heap.update p f, toks := t } := by
  have e : (s.heap.update p f).get? p = some { cls := .type "list", data := .seq its'.toArray n' } := by
    rw [Heap.get?_update_self f ho (by rw [hf] <;> rfl), hf]
  refine I.write (x := p) (e := p) (by rw [h]; trivial) (.inl rfl) (fun b u hb q => (Heap.get?_update_other _ _ (Ne.symm hb)).trans q) ⟨_, e⟩ ?_
  exact ⟨hz, its', n', r, e⟩
def rSetL : V → V → V → Hp → (Hp → Prop) → Prop := fun o i v H Q => ∃ p xs k j, o = .ref p ∧ i = .int k ∧ H p = some (.lst xs) ∧ ixN xs.length k = some j ∧ Q (upd H p (.lst (xs.set j v)))
theorem set_list : PSet X rSetL := by
  intro pins s σ H o i v ov iv u Q I ro ri rv h
  obtain ⟨p, xs, k, j, rfl, rfl, hp, hj, q⟩ := h
  cases ro
  obtain ⟨t, rfl⟩ := ri
  obtain ⟨its, n, r, ho, hz⟩ := I.lst hp
  obtain ⟨h1, h2, h3, h4⟩ := ixN_seq hj
  have hl := r.length
  have hn := line63
  have I' : Inv X pins σ (upd H p (.lst (xs.set j v))) { s with heap := s.heap.update p (Obj.mapSeq (·.setIfInBounds j u)) } :=
    I.lstUpd hp ho (mapSeq_set its n j u) (r.set rv j) (by rw [List.length_set]; exact hz) s.toks
  by_cases h0 : 0 ≤ k
  · have hk : k.toNat = j := by
      rw [seqIndex_of h0 h4] at h1
      exact Option.some.inj h1
    exact PySem.W.ki_setAt ho h0 (by omega) (by rw [List.size_toArray, ← hl]; exact h4) (by rw [hk]; exact ⟨_, I', q⟩)
  · have hk : (k + (its.toArray.size : Int)).toNat = j := by
      rw [seqIndex_neg (by omega) h3] at h1
      rw [List.size_toArray, ← hl]
      exact Option.some.inj h1
    exact PySem.W.ki_setBack ho (by omega) (by rw [List.size_toArray, ← hl]; exact h3) (by omega) (by rw [hk]; exact ⟨_, I', q⟩)
theorem slice_bounds (lo hi : Option Int) (n : Nat) : (sliceBounds lo hi none n).1 = ((HT.sIx n 0 lo : Nat) : Int) ∧ (sliceBounds lo hi none n).2.1 = ((HT.sIx n n hi : Nat) : Int) ∧ (sliceBounds lo hi none n).2.2 = 1 := by
  refine ⟨?_, ?_, rfl⟩
  · cases lo with
    | none => simp [sliceBounds, HT.sIx]
    | some i =>
      simp only [sliceBounds, HT.sIx, Option.getD_none, show (1 : Int) > 0 by decide, if_true]
      by_cases h : i < 0
      · simp only [h, if_true] <;> omega
      · simp only [h, if_false] <;> omega
  · cases hi with
    | none => simp [sliceBounds, HT.sIx]
    | some i =>
      simp only [sliceBounds, HT.sIx, Option.getD_none, show (1 : Int) > 0 by decide, if_true]
      by_cases h : i < 0
      · simp only [h, if_true] <;> omega
      · simp only [h, if_false] <;> omega
theorem slicePick_cut (its : List Value) (lo hi : Option Int) : slicePick its.toArray lo hi none = ((its.drop (HT.sIx its.length 0 lo)).take (HT.sIx its.length its.length hi - HT.sIx its.length 0 lo)).toArray := by
  obtain ⟨h1, h2, h3⟩ := slice_bounds lo hi its.toArray.size
  unfold slicePick
  rw [h1, h2, h3]
  simp only [sliceRange_one, pick_run, List.size_toArray] <;> rfl
def rSlL (K : PySem.W.Frag) : V → Option Int → Option Int → Hp → VK → Prop := fun x lo hi H Q => ∃ a xs, x = .ref a ∧ SqL K H a xs ∧ ∀ p, H p = none → Q (.ref p) (upd H p (.lst (cutV xs lo hi)))
theorem sl_list : SlR X (rSlL X.K) := by
  intro pins s σ H x v vl vu lo hi sl Q I rx hs pl pu h
  obtain ⟨a, xs, rfl, hx, q⟩ := h
  cases rx
  obtain ⟨its, r, ht, hz⟩ := I.list hx
  have hlen := r.length
  refine ⟨"list", _, slot_list_getitem.lookup, ht.isList.typeIs, ?_⟩
  refine wpAny_getItem_list_slice ht.isList hs pl pu .none (by simp) ?_ (by rw [List.size_toArray] <;> omega)
  rw [slicePick_cut, ← hlen]
  refine ⟨.ref s.heap.objs.size, _, I.laid (t' := s.toks) (o := .lst (cutV xs lo hi)) (fun b ob q => Heap.get?_push_of_some _ q) (Nat.le_refl _) ?_, rfl, q _ (I.hok.fresh (Nat.le_refl _))⟩
  exact ⟨Nat.le_trans (cutV_length xs lo hi) hz, _, 0, (r.drop (HT.sIx xs.length 0 lo)).take (HT.sIx xs.length xs.length hi - HT.sIx xs.length 0 lo), Heap.get?_push_size _ rfl⟩
def flatV : V → Bool
  | .non => true
  | .bl _ => true
  | .int _ => true
  | .str _ => true
  | _ => false
def eqV : V → V → Bool
  | .non, .non => true
  | .bl a, .bl b => a == b
  | .bl a, .int b => (if a then 1 else 0) == b
  | .int a, .bl b => a == (if b then 1 else 0)
  | .int a, .int b => a == b
  | .str a, .str b => a == b
  | _, _ => false
theorem eqAt_V {A : Around} {s : Shared} {y x : V} {u v : Value} (ry : RelV y u) (rx : RelV x v) (fy : flatV y = true) (fx : flatV x = true) : SeqAt.EqAt A s u v (eqV y x) := by
  cases y with
  | non =>
    cases ry
    cases x with
    | non => cases rx; exact SeqAt.EqAt.same _
    | bl b => cases rx; exact SeqAt.EqAt.none_bool b
    | int b => obtain ⟨t, rfl⟩ := rx; exact SeqAt.EqAt.none_int b t
    | str b => obtain ⟨t, rfl⟩ := rx; exact SeqAt.EqAt.none_str b t
    | _ => exact absurd (show false = true from fx) Bool.false_ne_true
  | bl a =>
    cases ry
    cases x with
    | non => cases rx; exact SeqAt.EqAt.bool_none a
    | bl b => cases rx; exact SeqAt.EqAt.bool_bool a b
    | int b => obtain ⟨t, rfl⟩ := rx; exact SeqAt.EqAt.bool_int a b t
    | str b => obtain ⟨t, rfl⟩ := rx; exact SeqAt.EqAt.bool_str a b t
    | _ => exact absurd (show false = true from fx) Bool.false_ne_true
  | int a =>
    obtain ⟨t', rfl⟩ := ry
    cases x with
    | non => cases rx; exact SeqAt.EqAt.int_none a t'
    | bl b => cases rx; exact SeqAt.EqAt.int_bool a t' b
    | int b => obtain ⟨t, rfl⟩ := rx; exact SeqAt.EqAt.int_int a t' b t
    | str b => obtain ⟨t, rfl⟩ := rx; exact SeqAt.EqAt.int_str a t' b t
    | _ => exact absurd (show false = true from fx) Bool.false_ne_true
  | str a =>
    obtain ⟨t', rfl⟩ := ry
    cases x with
    | non => cases rx; exact SeqAt.EqAt.str_none a t'
    | bl b => cases rx; exact SeqAt.EqAt.str_bool a t' b
    | int b => obtain ⟨t, rfl⟩ := rx; exact SeqAt.EqAt.str_int a t' b t
    | str b => obtain ⟨t, rfl⟩ := rx; exact SeqAt.EqAt.str_str a t' b t
    | _ => exact absurd (show false = true from fx) Bool.false_ne_true
  | _ => exact absurd (show false = true from fy) Bool.false_ne_true
def eqU (x : V) (u : Value) : Bool := match u with
  | .none => eqV .non x
  | .bool b => eqV (.bl b) x
  | .int i _ => eqV (.int i) x
  | .str z _ => eqV (.str z) x
  | _ => false
theorem eqU_of {x y : V} {u : Value} (r : RelV y u) (f : flatV y = true) : eqU x u = eqV y x := by
  cases y with
  | non => cases r; rfl
  | bl b => cases r; rfl
  | int i => obtain ⟨t, rfl⟩ := r; rfl
  | str z => obtain ⟨t, rfl⟩ := r; rfl
  | _ => exact absurd (show false = true from f) Bool.false_ne_true
theorem any_eqU {x : V} : ∀ {xs : List V} {us : List Value}, Vals xs us → xs.all flatV = true → us.any (eqU x) = xs.any fun y => eqV y x
  | _, _, .nil, _ => rfl
  | y :: xs, u :: us, .cons r t, f => by
    rw [List.all_cons, Bool.and_eq_true] at f
    rw [List.any_cons, List.any_cons, eqU_of r f.1, any_eqU t f.2]
theorem mem_eqAt {A : Around} {s : Shared} {x : V} {v : Value} (rx : RelV x v) (fx : flatV x = true) : ∀ {xs : List V} {us : List Value}, Vals xs us → xs.all flatV = true → ∀ u ∈ us, SeqAt.EqAt A s u v (eqU x u)
  | _, _, .nil, _ => fun u hu => by cases hu
  | y :: xs, u :: us, .cons r t, f => fun u' hu => by
    rw [List.all_cons, Bool.and_eq_true] at f
    rcases List.mem_cons.mp hu with rfl | hu
    · rw [eqU_of r f.1]; exact eqAt_V r rx f.1 fx
    · exact mem_eqAt rx fx t f.2 u' hu
def inV (x : V) (xs : List V) : Bool := xs.any fun y => eqV y x
def rIn (K : PySem.W.Frag) (neg : Bool) : R2 := fun x y H Q => ∃ p xs, y = .ref p ∧ (SqL K H p xs ∨ SqT K H p xs) ∧ flatV x = true ∧ xs.all flatV = true ∧ Q (.bl (if neg then !inV x xs else inV x xs)) H
theorem op_in_seq : OpR X (compareOp .In) (rIn X.K false) := by
  intro pins s σ H x y v u Q I rx ry h
  obtain ⟨p, xs, rfl, hq, fx, fs, q⟩ := h
  cases ry
  rcases hq with hq | hq
  · obtain ⟨its, r, pl, hz⟩ := I.list hq
    refine SeqAt.in_listAt (eqU x) pl.isList (fun w hw => mem_eqAt rx fx r fs w (by simpa using hw)) ⟨.bl _, H, I, rfl, ?_⟩
    rw [show its.toArray.any (eqU x) = its.any (eqU x) by simp, any_eqU r fs]
    exact q
  · obtain ⟨its, r, pl, hz⟩ := I.tuple hq
    refine SeqAt.in_tupleAt (eqU x) pl (fun w hw => mem_eqAt rx fx r fs w (by simpa using hw)) ⟨.bl _, H, I, rfl, ?_⟩
    rw [show its.toArray.any (eqU x) = its.any (eqU x) by simp, any_eqU r fs]
    exact q
theorem call_len_seq : CallR X (.builtin "len") (fun xs H Q => ∃ p ys, xs = [.ref p] ∧ (SqL X.K H p ys ∨ SqT X.K H p ys) ∧ Q (.int ys.length) H) := by
  intro pins s σ H xs us Q I r h
  obtain ⟨p, ys, rfl, hq, q⟩ := h
  obtain ⟨u, rfl, rx⟩ := vals1 r
  cases rx
  have hn := line63
  rcases hq with hq | hq
  · obtain ⟨its, r', pl, hz⟩ := I.list hq
    have hlen := r'.length
    exact Calls.call_len_list pl.isList (by simp only [List.size_toArray] <;> omega) ⟨.int ys.length, H, I.tok _, ⟨s.toks + 1, by rw [List.size_toArray, hlen]⟩, q⟩
  · obtain ⟨its, r', pl, hz⟩ := I.tuple hq
    have hlen := r'.length
    exact len_tuple pl (by simp only [List.size_toArray] <;> omega) ⟨.int ys.length, H, I.tok _, ⟨s.toks + 1, by rw [List.size_toArray, hlen]⟩, q⟩
def tyV (K : PySem.W.Frag) (T : String) (x : V) (H : Hp) : Prop := match x with
  | .str _ => T = "str"
  | .int _ => T = "int"
  | .ref p => (T = "list" ∧ ∃ xs, SqL K H p xs) ∨ (T = "tuple" ∧ ∃ o, K.lookup p = some o ∧ o.cls = .type "tuple" ∧ o.dict = none) ∨
      (T = "dict" ∧ ((∃ kvs, H p = some (.dK kvs)) ∨ ∃ kvs, H p = some (.dT kvs))) ∨ (T = "set" ∧ ∃ S n, H p = some (.set S n))
  | _ => False
theorem tyV_is {pins : List (Addr × Obj)} {σ : St} {H : Hp} {s : Shared} {T : String} {x : V} {v : Value} (I : Inv X pins σ H s) (r : RelV x v) (ty : tyV X.K T x H) :
    s.TypeIs v T ∧ ∀ a, v = .ref a → ∃ ob, s.heap.get? a = some ob ∧ ob.dict = none := by
  cases x with
  | str z =>
    obtain ⟨t, rfl⟩ := r
    cases (show T = "str" from ty)
    exact ⟨typeIs_str s z t, fun _ e => nomatch e⟩
  | int i =>
    obtain ⟨t, rfl⟩ := r
    cases (show T = "int" from ty)
    exact ⟨typeIs_int s i t, fun _ e => nomatch e⟩
  | ref p =>
    cases r
    rcases ty with ⟨rfl, xs, hq⟩ | ⟨rfl, o, hk, hc, hd⟩ | ⟨rfl, hk⟩ | ⟨rfl, S, n, hk⟩
    · obtain ⟨its, _, pl, _⟩ := I.list hq
      refine ⟨pl.isList.typeIs, fun a e => ?_⟩
      cases e
      obtain ⟨o, n, e, c, hd, _⟩ := pl
      exact ⟨o, e, hd⟩
    · refine ⟨⟨o, I.kIn p o hk, hc⟩, fun a e => ?_⟩
      cases e
      exact ⟨o, I.kIn _ o hk, hd⟩
    · have z : ∃ o, s.heap.get? p = some o ∧ o.ExactDict := by
        rcases hk with ⟨kvs, hk⟩ | ⟨kvs, hk⟩
        · obtain ⟨_, _, _, _, o, _, _, e, ex, _⟩ := I.hok p _ hk
          exact ⟨o, e, ex⟩
        · obtain ⟨_, _, _, _, o, _, _, e, ex, _⟩ := I.hok p _ hk
          exact ⟨o, e, ex⟩
      obtain ⟨o, e, ex⟩ := z
      refine ⟨⟨o, e, ex.1⟩, fun a e2 => ?_⟩
      cases e2
      exact ⟨o, e, ex.2.1⟩
    · obtain ⟨o, _, _, _, e, ex, _⟩ := I.hok p _ hk
      refine ⟨⟨o, e, ex.1⟩, fun a e2 => ?_⟩
      cases e2
      exact ⟨o, e, ex.2.1⟩
  | _ => exact False.elim ty
def tBM (K : PySem.W.Frag) (T : String) (r : V → List V → Hp → VK → Prop) (to : TE) (t : TA) : TE := fun σ H Q => to σ H fun x H1 => tyV K T x H1 ∧ t σ H1 fun xs H2 => r x xs H2 Q
variable {o e : Expr} {es : List Expr} {to : TE} {t : TA} {name : Str} {apos cpos : Pos} {T id : String} {r : V → List V → Hp → VK → Prop}
theorem pe_bm (pa : PlainAttrs T) (slot : Slot T name id) (hty : typeOf (.builtin id) = pure (.type "method_descriptor")) (hm : MtR X id r) (ho : PE X o to) (ha : PA X (e :: es) t)
    (hbase : attributeBase o name X.env (eval o X.env) = eval o X.env := by rfl)
    (hfew : ((backTo cpos (starEach (e :: es) X.env)).all (fun x => !x.1) && (backToKw cpos (keywordEach [] X.env)).all (fun x => x.1.isSome)
      && decide ((e :: es).length + ([] : List Keyword).length + (if ([] : List Keyword).isEmpty then 0 else 1) < 30)) = true := by rfl)
    (hline : (apos.endLine == cpos.line) = true := by rfl) (hs : starEach (e :: es) X.env = (false, eval e X.env) :: starEach es X.env := by rfl) (hplain : (backTo cpos (starEach es X.env)).any (·.1) = false := by rfl) :
    PE X (.Call (.Attribute o name apos) (e :: es) [] cpos) (tBM X.K T r to t) := by
  intro pins s σ H Q I h
  refine wpAny_Call_method_late hbase hfew hline rfl (thn (ho pins s σ H _ I h) fun v s1 ⟨x, H1, I1, r1, ty, q1⟩ => ?_)
  obtain ⟨h1, h2⟩ := tyV_is I1 r1 ty
  refine ⟨T, id, pa, slot, hty, h1, h2, ?_⟩
  have hA := ha cpos pins s1 σ H1 _ I1 q1
  rw [hs] at hA ⊢
  refine Calls.callWith_builtin (by show (false || (backTo cpos (starEach es X.env)).any (·.1)) = false; rw [hplain] <;> rfl) (Calls.evalArgs_plain ?_)
  exact thn hA fun us s2 ⟨vs, H2, I2, r2, q2⟩ => hm pins s2 σ H2 x vs v us Q I2 r1 r2 q2
end
end L2
namespace L2
open PySem PySem.Spec PyProof.Rows
def MtM (X : Cx) (id : String) (r : V → List V → Hp → VK → Prop) : Prop :=
  ∀ (pins : List (Addr × Obj)) (s : Shared) (σ : St) (H : Hp) (x : V) (xs : List V) (v : Value) (us : List Value) (Q : VK), Inv X pins σ H s → RelV x v → Vals xs us → r x xs H Q →
    wpAny (model X.prog X.w) X.A (call (.builtin id) (v :: us)) (EP X pins σ Q) X.xe s
theorem Vals.one : ∀ {x : V} {us : List Value}, Vals [x] us → ∃ u, us = [u] ∧ RelV x u
  | _, _, .cons r .nil => ⟨_, rfl, r⟩
theorem Vals.two : ∀ {x y : V} {us : List Value}, Vals [x, y] us → ∃ u v, us = [u, v] ∧ RelV x u ∧ RelV y v
  | _, _, _, .cons r (.cons q .nil) => ⟨_, _, rfl, r, q⟩
section
variable {X : Cx} {pins : List (Addr × Obj)} {σ : St} {H : Hp} {s : Shared} {l b : Addr} {xs ys zs : List V}
theorem Inv.lset {its its' : List Value} {n : Nat} {f : Array Value → Array Value} {t' : Nat} (I : Inv X pins σ H s) (hH : H l = some (.lst xs))
    (e : s.heap.get? l = some { cls := .type "list", data := .seq its.toArray n }) (hf : f its.toArray = its'.toArray) (hv : Vals ys its') (hz : ys.length ≤ sizeLine) :
    Inv X pins σ (upd H l (.lst ys)) { s with heap := s.heap.update l (Obj.mapSeq f), toks := t' } := by
  have q := PySem.IsL.update e f
  rw [hf] at q
  refine I.write (x := l) (e := l) (by rw [hH]; exact trivial) (.inl rfl) (fun b' u hb hu => (Heap.get?_update_other s.heap (Obj.mapSeq f) (Ne.symm hb)).trans hu) ⟨_, q⟩ ?_
  exact ⟨hz, its', _, hv, q⟩
theorem Inv.lnew {its : List Value} {t' : Nat} (I : Inv X pins σ H s) (hv : Vals ys its) (hz : ys.length ≤ sizeLine) :
    Inv X pins σ (upd H s.heap.objs.size (.lst ys)) { s with heap := s.heap.push { cls := .type "list", data := .seq its.toArray }, toks := t' } :=
  I.laid (fun _ _ q => Heap.get?_push_of_some _ q) (Nat.le_refl _) ⟨hz, its, 0, hv, Heap.get?_push_size _ rfl⟩
theorem Inv.fresh (I : Inv X pins σ H s) : H s.heap.objs.size = none := I.hok.fresh (Nat.le_refl _)
theorem Inv.lstM (I : Inv X pins σ H s) (hH : H l = some (.lst xs)) : xs.length ≤ sizeLine ∧ ∃ (its : List Value) (n : Nat), Vals xs its ∧ xs.length = its.length ∧ s.heap.get? l = some { cls := .type "list", data := .seq its.toArray n } := by
  obtain ⟨z, its, n, r, e⟩ := I.hok l _ hH
  exact ⟨z, its, n, r, r.length, e⟩
theorem notLongL {n : Nat} (h : n ≤ sizeLine) : Builtin.List.listTooLong n = false := by
  unfold Builtin.List.listTooLong
  exact decide_eq_false (by omega)
end
section
variable {X : Cx}
def rAppend : V → List V → Hp → VK → Prop := fun x vs H Q => ∃ l xs y, x = .ref l ∧ vs = [y] ∧ H l = some (.lst xs) ∧ xs.length < sizeLine ∧ Q .non (upd H l (.lst (xs ++ [y])))
theorem mt_append : MtM X "list.append" rAppend := by
  intro pins s σ H x vs v us Q I rx rv h
  obtain ⟨l, xs, y, rfl, rfl, hH, hz, q⟩ := h
  cases rx
  obtain ⟨u, rfl, ru⟩ := rv.one
  obtain ⟨z, its, n, r, hl, e⟩ := I.lstM hH
  refine call_meets F.slot_list_append ⟨_, e, rfl⟩ F.entry_list_append (F.args_list_append_2 _ _) (PySem.list_append l its.toArray n u (by rw [List.size_toArray]; omega)) ⟨e, ?_⟩
  refine ⟨.non, _, I.lset (its' := its ++ [u]) hH e (by simp) (r.append (.cons ru .nil)) ?_, rfl, q⟩
  rw [List.length_append, List.length_singleton]
  omega
def rExtend : V → List V → Hp → VK → Prop := fun x vs H Q => ∃ l b xs zs, x = .ref l ∧ vs = [.ref b] ∧ H l = some (.lst xs) ∧ H b = some (.lst zs) ∧ xs.length + zs.length ≤ sizeLine ∧ Q .non (upd H l (.lst (xs ++ zs)))
theorem mt_extend : MtM X "list.extend" rExtend := by
  intro pins s σ H x vs v us Q I rx rv h
  obtain ⟨l, b, xs, zs, rfl, rfl, hH, hB, hz, q⟩ := h
  cases rx
  obtain ⟨u, rfl, ru⟩ := rv.one
  cases ru
  obtain ⟨z, its, n, r, hl, e⟩ := I.lstM hH
  obtain ⟨z2, its2, n2, r2, hl2, e2⟩ := I.lstM hB
  have hsz : its.toArray.size + its2.toArray.size ≤ sizeLine := by rw [List.size_toArray, List.size_toArray]; omega
  have hlong : ¬ (!its.toArray.isEmpty && Builtin.List.listTooLong (its.toArray.size + its2.toArray.size)) = true := by
    rw [notLongL hsz, Bool.and_false]
    exact Bool.false_ne_true
  refine call_meets F.slot_list_extend ⟨_, e, rfl⟩ F.entry_list_extend (F.args_list_extend_2 _ _)
    (AutoSeq1.list_extend_list_list_0 l its.toArray n b its2.toArray n2 hlong (by rw [List.size_toArray]; omega) (by omega)) ⟨e, e2, ?_⟩
  refine ⟨.non, _, I.lset (its' := its ++ its2) hH e (by simp) (r.append r2) ?_, rfl, q⟩
  rw [List.length_append]
  omega
def rCat : R2 := fun x y H Q => ∃ l b xs zs, x = .ref l ∧ y = .ref b ∧ H l = some (.lst xs) ∧ H b = some (.lst zs) ∧ xs.length + zs.length ≤ sizeLine ∧ ∀ p, H p = none → Q (.ref p) (upd H p (.lst (xs ++ zs)))
theorem op_cat : OpR X (binaryOp .Add) rCat := by
  intro pins s σ H x y v u Q I rx ry h
  obtain ⟨l, b, xs, zs, rfl, rfl, hH, hB, hz, q⟩ := h
  cases rx
  cases ry
  obtain ⟨z, its, n, r, hl, e⟩ := I.lstM hH
  obtain ⟨z2, its2, n2, r2, hl2, e2⟩ := I.lstM hB
  refine PySem.P.add_list e e2 ?_ (by rw [List.size_toArray, List.size_toArray]; omega)
  have ea : its.toArray ++ its2.toArray = (its ++ its2).toArray := by simp
  rw [ea]
  exact ⟨.ref _, _, I.lnew (t' := s.toks) (r.append r2) (by rw [List.length_append]; omega), rfl, q _ I.fresh⟩
end
section
variable {prog : Program} {w : World} {A : Around} {E : Value → Shared → Prop} {s : Shared}
end
section
variable {X : Cx}
end
end L2
namespace L2
open PySem PySem.Spec PyProof.Rows
section
variable {κ : Type} [DecidableEq κ]
end
section
variable {P : Program} {w : World} {H : Hp} {h : Heap} {a : Addr}
end
section
variable {X : Cx} {pins : List (Addr × Obj)} {σ : St} {H : Hp} {s : Shared} {a : Addr} {y v : V} {u r : Value} {o : Option V} {A : Around} {E : Value → Shared → Prop}
end
section
variable {X : Cx} {pins : List (Addr × Obj)} {σ : St} {H : Hp} {s : Shared} {a : Addr} {kvs : List (Key × V)} {k : Key} {u : Value} {A : Around} {E : Value → Shared → Prop}
end
section
variable {X : Cx} {o i e value : Expr} {pos pos' tpos : Pos} {td ty tv : TE}
end
section
variable {X : Cx} {pos : Pos}
end
section
variable {X : Cx} {pins : List (Addr × Obj)} {σ : St} {H : Hp} {s : Shared} {a : Addr} {y d : V} {u r : Value} {o : Option V} {A : Around} {E : Value → Shared → Prop}
end
section
variable {X : Cx} {o e f : Expr} {apos cpos : Pos} {td ty tx : TE}
end
section
variable {X : Cx} {pins : List (Addr × Obj)} {σ : St} {H : Hp} {s : Shared} {a : Addr} {kvs : List (Key × V)} {A : Around} {E : Value → Shared → Prop}
end
section
variable {X : Cx} {pins : List (Addr × Obj)} {σ : St} {H : Hp} {s : Shared} {a : Addr} {y : V} {u : Value} {A : Around} {E : Value → Shared → Prop}
end
end L2
namespace Att
open PySem PySem.W PySem.Calls PyProof.Rows
theorem ints_of_wellAll {P : Params} {h : Heap} : ∀ (ns : List Int) (vs : List Value), WellAll P h vs (ns.map WData.int) → IntsAre vs ns := by
  intro ns
  induction ns with
  | nil =>
    intro vs w
    rw [List.map_nil] at w
    cases w
    exact .nil
  | cons n ns ih =>
    intro vs w
    rw [List.map_cons] at w
    cases w with
    | cons a b =>
      cases a
      exact .cons _ _ (ih _ b)
theorem script_of {l : OpenLaw} {n : Nat} (hn : l.most = some n) {P : Params} {h : Heap} {args : List WData} {vals : List Value}
    (hpre : l.row.toRowW.claim.pre args = true) (hwl : WellAll P h vals args) :
    ∃ a vs ns, vals = [Value.ref a] ∧ args = [WData.list (ns.map WData.int)] ∧ h.get? a = some { cls := .type "list", data := .seq vs.toArray } ∧ IntsAre vs ns ∧ ns.length ≤ n := by
  have hsh : WShape.hasAll [] args [.list .int] = true := (pre_splitW hpre).1
  have hc : l.pre.holds [] { args := args } = true := (pre_splitW hpre).2
  obtain ⟨d, r, rfl, h1, h2⟩ := hasAllW_cons hsh
  obtain rfl := hasAllW_nil h2
  obtain ⟨xs, rfl, h3⟩ := hasW_list h1
  obtain ⟨ns, rfl⟩ := items_int h3
  have hlen : ns.length ≤ n := by
    unfold OpenLaw.pre at hc
    have h4 : (WTm.not (.lt (.lit (.int (n : Int))) (.len (.arg 0)))).holds [] { args := [.list (ns.map .int)] } = true := by
      have h4 := (holds_andW hc).1
      rw [hn] at h4
      exact h4
    have h5 := condW_of h4 (w_not (w_lt w_lit (w_len_list (w_arg rfl))))
    rw [List.length_map] at h5
    refine Nat.le_of_not_lt fun q => ?_
    have q' : (n : Int) < ((ns.length : Nat) : Int) := by omega
    first
      | (rw [decide_eq_true q'] at h5; exact absurd h5 (by decide))
      | (simp at h5; omega)
  cases hwl with
  | cons w1 w2 =>
    cases w2
    cases w1 with
    | list ho hall => exact ⟨_, _, ns, rfl, rfl, ho, ints_of_wellAll ns _ hall, hlen⟩
theorem post_true (l : OpenLaw) (args : List WData) : l.row.toRowW.claim.post args (.bool true) args = true :=
  postW_of (r := l.row.toRowW) (X := (true == true))
    (show WShape.has [] (.bool true) .bool = true by first | rfl | decide | simp [WShape.has, WShape.arms, WShape.armsAll])
    (show (WTm.eq .res (.lit (.bool true))).value [] { args := args, res := some (.bool true), after := args } = some (.bool (true == true)) from w_eq_bool (w_res rfl) w_lit) rfl
theorem attach_call {l : OpenLaw} {n : Nat} {q : Program} {loose : List Str} {XP : (Str → Option Value) → Heap → Prop} {YP : World → Heap → Prop} {d : DefRec}
    (hn : l.most = some n) (hdf : d.params.defaults = [])
    (call : ∀ (w : World) (s₀ s₁ : Shared) (mg mb : Str → Option Value) (fa : Addr) (o : Obj) (pm cd doc : Value) (a : Addr) (vs : List Value) (ns : List Int),
      Ground q loose [] XP w s₀ mg mb s₁.heap → YP w s₁.heap →
      s₁.heap.get? fa = some o → o.data = .func (docDef d.name d.params d.body d.scope pm cd doc) → s₁.heap.CodeRec cd d.name → mg d.name = some (.ref fa) →
      s₁.heap.get? a = some { cls := .type "list", data := .seq vs.toArray } → IntsAre vs ns → ns.length ≤ n → s₁.gens = #[] →
      codeAny (model l.prog w) callerA (.call (.ref fa) ⟨[.ref a], []⟩) (fun r s' => r = .ok (.ret (.bool true)) ∧ OldK s₁.heap s'.heap ∧ s'.os = s₁.os ∧ AllBare s'.gens) s₁) :
    WalkO q loose XP YP l.row.toRowW d [] (fun f vs => PySem.call f vs) := by
  intro w s₀ s₁ mg mb G Y fa o pm cd doc dV kV ho hd hcd hD hmg hg args vals as hpre hlay hrd hwl hlo
  obtain rfl : dV = .none := Dflts.none hD hdf
  obtain rfl : kV = .none := Dflts.noKw hD
  obtain ⟨a, vs, ns, rfl, rfl, hobj, hints, hlen⟩ := script_of hn hpre hwl
  refine enter_call (codeAny_mono (call w s₀ s₁ mg mb fa o pm cd doc a vs ns G Y ho (fd_plain hd) hcd hmg hobj hints hlen hg) fun r s' hq => ?_)
  obtain ⟨rfl, h2, h3, h4⟩ := hq
  exact ⟨.inl ⟨.bool true, .bool true, [], rfl, fun _ => rfl, .bool true, post_true l _, fun _ => ⟨List.Pairwise.nil, fun _ hm => (nomatch hm)⟩⟩, h2, h3, h4⟩
section
variable {prog : Program} {w : World} {A : Around} {E : Value → Shared → Prop} {s : Shared} {K : Frag}
end
end Att
namespace L2
open PySem PySem.Spec PyProof.Rows
theorem vals_ints : ∀ {vs : List Value} {ns : List Int}, IntsAre vs ns → Vals (ns.map V.int) vs
  | _, _, .nil => .nil
  | _, _, .cons n t h => .cons ⟨t, rfl⟩ (vals_ints h)
def Only (H : Hp) : Prop := ∀ b, H b = none ∨ ∃ o xs, H b = some (.frz o (.lst xs))
theorem law_call {P : Program} {w : World} {K : PySem.W.Frag} {mg mb : Str → Option Value} {CX : CXT} {k : Nat} {fa a : Addr} {fd : FuncData} {x : Str} {sp : Sp} {s₁ : Shared} {vs : List Value} {ns : List Int}
    (KX : K.In s₁.heap) (hns : s₁.heap.Ns mainGlobals mg) (hb : s₁.heap.Ns builtinsNs mb) (hbb : ∀ x : Str, x ≠ "__name__" → mb x = bootBuiltins x) (hlim : s₁.heap.NoLimit) (hg : s₁.gens = #[])
    (ha : s₁.heap.get? a = some { cls := .type "list", data := .seq vs.toArray }) (hi : IntsAre vs ns) (hl : ns.length ≤ sizeLine) (hr : Room k callerA)
    (F : ∀ base : Heap, K.In base → base.Ns mainGlobals mg → FnOk P w K mg base CX k fa fd [x] sp) (hbind : ∀ (s : Shared) (u : Value), BindsTo s fd ⟨[u], []⟩ [(x, u)])
    (hsp : ∀ H : Hp, Only H → SqL K H a (ns.map V.int) → sp [.ref a] H (fun v _ => v = .bl true) fun _ _ _ => False)
    (hCX : ∀ H e s', CX [] H s₁ (fun _ _ _ => False) e s' → False) :
    codeAny (model P w) callerA (.call (.ref fa) ⟨[.ref a], []⟩) (fun r s' => r = .ok (.ret (.bool true)) ∧ OldK s₁.heap s'.heap ∧ s'.os = s₁.os ∧ AllBare s'.gens) s₁ := by
  have rv := vals_ints hi
  have lenV := hi.length
  -- from an abstract heap in which nothing but the script may be tracked
  have core : ∀ H : Hp, Only H → SqL K H a (ns.map V.int) → HOk P w H s₁.heap → (∀ b, H b ≠ none → b = a) → (H a ≠ none → K.lookup a = none) →
      codeAny (model P w) callerA (.call (.ref fa) ⟨[.ref a], []⟩) (fun r s' => r = .ok (.ret (.bool true)) ∧ OldK s₁.heap s'.heap ∧ s'.os = s₁.os ∧ AllBare s'.gens) s₁ := by
    intro H hO hS hok hA hK
    have base_of : ∀ {b : Addr} {o : Obj}, s₁.heap.get? b = some o → H b = none → (hidT s₁.heap H).get? b = some o := fun e n => hidT_get e n
    have noA : ∀ {b : Addr} {o : Obj} {es : Array DictEntry} {ep : Nat}, s₁.heap.get? b = some o → o.data = .dict es ep → H b = none := fun {b o es ep} e d => by
      cases q : H b with
      | none => rfl
      | some u =>
        have e' : b = a := hA b (by rw [q]; simp)
        subst e'
        rw [ha] at e; cases e
        have d' : Data.seq vs.toArray _ = Data.dict es ep := d
        cases d'
    have nsK : ∀ {b : Addr} {m : Str → Option Value}, s₁.heap.Ns b m → (hidT s₁.heap H).Ns b m := fun {b m} ⟨o, es, ep, e, d, r⟩ => ⟨o, es, ep, base_of e (noA e d), d, r⟩
    have hKb : K.In (hidT s₁.heap H) := fun b o e => base_of (KX b o e) (by
      cases q : H b with
      | none => rfl
      | some u =>
        have e' : b = a := hA b (by rw [q]; simp)
        subst e'
        rw [hK (by rw [q]; simp)] at e; cases e)
    have hM : Mod K mg (hidT s₁.heap H) := ⟨hKb, nsK hns, ⟨mb, nsK hb, hbb⟩, let ⟨mc, h1, h2⟩ := hlim; ⟨mc, nsK h1, h2⟩⟩
    have e0 : Env0 P w K mg (hidT s₁.heap H) callerA [] s₁ H := ⟨rfl, hM, fun b o e => of_hidT e, Nat.le_of_eq (hidT_size _ _), trivial, fun b hb => absurd (show b ∈ ([] : List Addr) from hb) (by simp), hok, .of_eq hg⟩
    refine codeAny_mono ((F _ hKb (nsK hns)).run callerA [] s₁ H ⟨[.ref a], []⟩ [.ref a] [.ref a] _ _ hr e0 (hbind s₁ (.ref a)) (.cons rfl .nil) (hsp H hO hS)) fun r s' h => ?_
    cases r with
    | error e => exact (hCX H e s' h).elim
    | ok fl =>
      cases fl with
      | next => exact False.elim h
      | brk => exact False.elim h
      | cont => exact False.elim h
      | ret u =>
        obtain ⟨v, H', os, bare, un, hok', r', q⟩ := h
        have q' : v = .bl true := q
        subst q'
        obtain rfl : u = Value.bool true := r'
        refine ⟨rfl, OldK.of_keep fun b o e => ?_, os, bare⟩
        cases q : H b with
        | none => exact un.keep b o e q (by intro z; exact absurd (show b ∈ ([] : List Addr) from z) (by simp)) (by simp)
        | some u =>
          rcases hO b with z | ⟨ob, xs, z⟩
          · rw [q] at z; cases z
          · have z2 := un.frzs b ob _ z
            obtain ⟨e1, _⟩ := hok b _ z
            obtain ⟨e2, _⟩ := hok' b _ z2
            rw [e] at e1; cases e1
            exact e2
  cases hk : K.lookup a with
  | some o =>
    -- the script is one of the module's own objects
    have e := KX a o hk
    rw [ha] at e
    cases e
    refine core (fun _ => none) (fun _ => .inl rfl) (.inr ⟨_, vs.toArray, _, hk, rfl, rfl, rfl, by rw [List.size_toArray, lenV]; exact hl, by simpa using rv⟩) (fun b u z => by have z' : (none : Option HO) = some u := z; cases z') (fun b z => absurd rfl z) fun z => absurd rfl z
  | none =>
    refine core (fun b => if b = a then some (.frz { cls := .type "list", data := .seq vs.toArray } (.lst (ns.map V.int))) else none) (fun b => ?_) (.inl (.inr ⟨{ cls := .type "list", data := .seq vs.toArray }, if_pos rfl⟩)) (fun b u z => ?_) (fun b z => ?_) fun _ => hk
    · by_cases hb : b = a
      · exact .inr ⟨_, _, if_pos hb⟩
      · exact .inl (if_neg hb)
    · by_cases hb : b = a
      · have z' := (if_pos hb).symm.trans z
        cases z'
        subst hb
        exact ⟨ha, by rw [List.length_map]; exact hl, vs, _, rv, ha⟩
      · have z' := (if_neg hb).symm.trans z
        cases z'
    · by_cases hb : b = a
      · exact hb
      · exact absurd (if_neg hb) z
end L2
namespace L2
open PySem PySem.Spec PyProof.Rows
abbrev KOf {K : PySem.W.Frag} {h : Heap} (_ : K.In h) : PySem.W.Frag := K
theorem walk_of {l : PySem.W.OpenLaw} {n k : Nat} {q : Program} {loose : List Str} {XP : (Str → Option Value) → Heap → Prop} {YP : World → Heap → Prop} {d : DefRec} {K : Params → PySem.W.Frag} {CX : World → CXT} {sp : World → Sp} {x : Str}
    (hn : l.most = some n) (hn2 : n ≤ sizeLine) (hdf : d.params.defaults = []) (hr : Room k callerA)
    (hY : ∀ (w : World) (h : Heap), YP w h → (K w.params).In h)
    (F : ∀ (w : World) (mg : Str → Option Value) (fa : Addr) (h : Heap), (K w.params).In h → h.Ns mainGlobals mg → mg d.name = some (.ref fa) →
      ∃ fd : FuncData, (∀ (s : Shared) (u : Value), BindsTo s fd ⟨[u], []⟩ [(x, u)]) ∧
        ∀ base : Heap, (K w.params).In base → base.Ns mainGlobals mg → FnOk l.prog w (K w.params) mg base (CX w) k fa fd [x] (sp w))
    (hsp : ∀ (w : World) (H : Hp) (a : Addr) (ns : List Int), ns.length ≤ n → Only H → SqL (K w.params) H a (ns.map V.int) → sp w [.ref a] H (fun v _ => v = .bl true) fun _ _ _ => False)
    (hCX : ∀ (w : World) (H : Hp) (s : Shared) (e : Value) (s' : Shared), CX w [] H s (fun _ _ _ => False) e s' → False) :
    PySem.W.WalkO q loose XP YP l.row.toRowW d [] (fun f vs => PySem.call f vs) := by
  refine Att.attach_call hn hdf fun w s₀ s₁ mg mb fa o pm cd doc a vs ns G Y ho hd hcd hmg hobj hints hlen hg => ?_
  have KX := hY w _ Y
  obtain ⟨fd, hb, hF⟩ := F w mg fa _ KX G.T.g hmg
  exact law_call KX G.T.g G.T.b G.T.builtins G.T.nolimit hg hobj hints (Nat.le_trans hlen hn2) hr hF hb (fun H hO hS => hsp w H a ns hlen hO hS) fun H e s' => hCX w H s₁ e s'
theorem walk_ofK {l : PySem.W.OpenLaw} {n k : Nat} {q : Program} {loose : List Str} {XP : (Str → Option Value) → Heap → Prop} {YP : World → Heap → Prop} {d : DefRec} {K : Params → PySem.W.Frag} {CX : CXT} {sp : PySem.W.Frag → Sp} {x : Str}
    (hn : l.most = some n) (hn2 : n ≤ sizeLine) (hdf : d.params.defaults = []) (hr : Room k callerA)
    (hY : ∀ (w : World) (h : Heap), YP w h → (K w.params).In h)
    (F : ∀ (w : World) (mg : Str → Option Value) (fa : Addr) (h : Heap), (K w.params).In h → h.Ns mainGlobals mg → mg d.name = some (.ref fa) →
      ∃ fd : FuncData, (∀ (s : Shared) (u : Value), BindsTo s fd ⟨[u], []⟩ [(x, u)]) ∧
        ∀ base : Heap, (K w.params).In base → base.Ns mainGlobals mg → FnOk l.prog w (K w.params) mg base CX k fa fd [x] (sp (K w.params)))
    (hsp : ∀ (K : PySem.W.Frag) (H : Hp) (a : Addr) (ns : List Int), ns.length ≤ n → Only H → SqL K H a (ns.map V.int) → sp K [.ref a] H (fun v _ => v = .bl true) fun _ _ _ => False)
    (hCX : ∀ (H : Hp) (s : Shared) (e : Value) (s' : Shared), CX [] H s (fun _ _ _ => False) e s' → False) :
    PySem.W.WalkO q loose XP YP l.row.toRowW d [] (fun f vs => PySem.call f vs) :=
  walk_of (K := K) (CX := fun _ => CX) (sp := fun w => sp (K w.params)) hn hn2 hdf hr hY F (fun w H a ns h1 h2 h3 => hsp (K w.params) H a ns h1 h2 h3) fun _ H s e s' => hCX H s e s'
end L2
namespace L2
open PySem PySem.Spec PyProof.Rows
def inClass (s : Stmt) (j : Nat) : Stmt := match s with
  | .ClassDef _ _ _ body _ _ _ _ _ _ _ => body.getD j (.Pass ⟨0, 0, 0, 0⟩)
  | _ => .Pass ⟨0, 0, 0, 0⟩
def defArgs (s : Stmt) : Arguments := match s with
  | .FunctionDef _ a _ _ _ _ _ _ _ _ => a
  | _ => { posonlyargs := [], args := [], vararg := none, kwonlyargs := [], kw_defaults := [], kwarg := none, defaults := [] }
def defBody (s : Stmt) : List Stmt := match s with
  | .FunctionDef _ _ b _ _ _ _ _ _ _ => b
  | _ => []
def defScope (s : Stmt) : Scope := match s with
  | .FunctionDef _ _ _ _ _ _ sc _ _ _ => sc
  | _ => { kind := .function, names := [], isGenerator := false, isCoroutine := false }
abbrev CX0 : CXT := fun _ _ _ _ _ _ => False
abbrev E0 : XK := fun _ _ _ => False
theorem pass0 {X : Cx} : Passes CX0 X E0 := fun _ _ _ _ _ _ _ h => h.elim
structure Fun (K : PySem.W.Frag) (x qual : Str) (st : Stmt) (f : Addr) (fd : FuncData) : Prop where
  ex : ∃ (oc : Value) (od : Option Addr) (kV doc pm : Value) (an : Option Addr) (cdv ct : Value) (osl : Array (Option Value)),
    fd = PySem.W.fnOf x qual (defArgs st) (defBody st) (defScope st) .none kV doc pm an cdv ct ∧ K.lookup f = some ⟨oc, od, .func fd, osl⟩ ∧ PySem.W.codeIn K cdv qual = true
  kp : PySem.W.keepIn K (.ref f) = true
section
variable {P : Program} {w : World} {K : PySem.W.Frag} {mg : Str → Option Value} {base : Heap}
theorem Fun.ok {x qual : Str} {st : Stmt} {f : Addr} {fd : FuncData} {N ps : List Str} {k : Nat} {sp : Sp} (F : Fun K x qual st f fd) (S : FnScope N ps (defScope st)) (len : ∀ vs H Q E, sp vs H Q E → vs.length = ps.length)
    (hbody : ∀ (cdv : Value) (A : Around) (outer : List Env) (s : Shared) (H : Hp) (vs : List V) (Q : VK) (E : XK), Room k (A.deeper (envOfC qual (defScope st) s.heap.objs.size f cdv)) → sp vs H Q E →
      ∃ t, PSs (cxOf CX0 P w K mg base N qual (defScope st) f cdv A outer s H E).nox (defBody st) t ∧ t { nx := fun _ H' => Q .non H', rt := Q } (start N vs) H) : FnOk P w K mg base CX0 (k + 1) f fd ps sp := by
  obtain ⟨oc, od, kV, doc, pm, an, cdv, ct, osl, rfl, lk, hcd⟩ := F.ex
  refine fn_of lk hcd S len fun A outer s H vs Q E hr hsp => ?_
  obtain ⟨t, h, q⟩ := hbody cdv A outer s H vs Q E hr hsp
  exact ⟨t, h.nox, q⟩
theorem Fun.binds {x qual : Str} {st : Stmt} {f : Addr} {fd : FuncData} {ps : List Str} (F : Fun K x qual st f fd)
    (h : ∀ (kV doc pm : Value) (an : Option Addr) (cdv ct : Value) (us : List Value), us.length = ps.length → bindArgs (PySem.W.fnOf x qual (defArgs st) (defBody st) (defScope st) .none kV doc pm an cdv ct) ⟨us, []⟩ = pure (ps.zip us)) : Binds K fd ps [] := by
  obtain ⟨oc, od, kV, doc, pm, an, cdv, ct, osl, rfl, lk, hcd⟩ := F.ex
  exact .all (h kV doc pm an cdv ct)
theorem fun_mk {x qual : Str} {st : Stmt} {f : Addr} {oc : Value} {od an : Option Addr} {osl : Array (Option Value)} {kV doc pm cdv ct : Value} (l : K.lookup f = some ⟨oc, od, .func (PySem.W.fnOf x qual (defArgs st) (defBody st) (defScope st) .none kV doc pm an cdv ct), osl⟩)
    (c : PySem.W.codeIn K cdv qual = true) (k : PySem.W.keepIn K (.ref f) = true) : Fun K x qual st f (PySem.W.fnOf x qual (defArgs st) (defBody st) (defScope st) .none kV doc pm an cdv ct) := ⟨⟨oc, od, kV, doc, pm, an, cdv, ct, osl, rfl, l, c⟩, k⟩
end
theorem small1000 {n : Nat} (h : n ≤ 1000) : n < sizeLine := Nat.lt_of_le_of_lt h (by decide)
section
variable {X : Cx}
theorem pv (i : Nat) {x : Str} {pos : Pos} (hN : X.N[i]? = some x := by rfl) (hv : Vis X.env.scope x := by first | exact Or.inl rfl | exact Or.inr (Or.inl rfl) | exact Or.inr (Or.inr rfl)) (hd : (x == ("__debug__" : Str)) = false := by decide)
    (hcd : (x == ("__classdict__" : Str)) = false := by decide) : PE X (.Name x pos) (tVar i) := pe_var hN hv hd hcd
end
theorem iteF {A B : Prop} (h : B) : if false = true then A else B := by
  rw [if_neg Bool.false_ne_true]
  exact h
theorem iteT {A B : Prop} (h : A) : if true = true then A else B := by
  rw [if_pos rfl]
  exact h
theorem ite2 {c A B : Prop} [Decidable c] (h1 : c → A) (h2 : ¬ c → B) : if c then A else B := by
  by_cases h : c
  · rw [if_pos h]
    exact h1 h
  · rw [if_neg h]
    exact h2 h
theorem iteNS {c A B : Prop} [Decidable c] (hc : c) (h : B) : if (!decide c) = true then A else B := by
  rw [decide_eq_true hc]
  exact iteF h
def Same (H H' : Hp) : Prop := ∀ b o, H b = some o → H' b = some o
theorem Same.refl (H : Hp) : Same H H := fun _ _ h => h
theorem Same.trans {H H1 H2 : Hp} (a : Same H H1) (b : Same H1 H2) : Same H H2 := fun c o h => b c o (a c o h)
section
variable {κ : Type} [DecidableEq κ]
end
end L2

/-! BExt1 -/
set_option Elab.async false
set_option linter.all false
set_option maxRecDepth 100000
set_option maxHeartbeats 4000000
namespace L2
open PySem PySem.Spec PyProof.Rows
def tSeqM (t u : TS) : TS := fun D σ H => ∃ M : St → Hp → Prop, t { D with nx := M } σ H ∧ ∀ σ' H', M σ' H' → u D σ' H'
theorem pss_cut {X : Cx} {st : Stmt} {rest : List Stmt} {t u : TS} (h1 : PS X st t) (h2 : PSs X rest u) : PSs X (st :: rest) (tSeqM t u) := by
  intro pins s σ H D I h
  obtain ⟨M, h, hM⟩ := h
  refine wpAny_execs_cons (thn (h1 pins s σ H { D with nx := M } I h) fun f s1 q => ?_)
  cases f with
  | next =>
    obtain ⟨σ', H', I', q⟩ := q
    exact h2 pins s1 σ' H' D I' (hM σ' H' q)
  | brk => exact q
  | cont => exact q
  | ret u => exact q
theorem iteB {c : Bool} {A B : Prop} (hc : c = true) (h : A) : if c = true then A else B := by rw [if_pos hc]; exact h
theorem iteN {c : Bool} {A B : Prop} (hc : c = false) (h : B) : if c = true then A else B := by rw [hc]; exact iteF h
def PTs (X : Cx) (ifs : List Expr) (t : TT) : Prop :=
  ∀ (pins : List (Addr × Obj)) (s : Shared) (σ : St) (H : Hp) (Q : Bool → Hp → Prop), Inv X pins σ H s → t σ H Q →
    wpAny (model X.prog X.w) X.A (forIn ifs true fun c r => if r = true then do let ok ← isTrue c X.env (eval c X.env); pure (ForInStep.yield ok) else pure (ForInStep.yield r)) (TP X pins σ Q) X.xe s
def tYes : TT := fun _ H Q => Q true H
theorem pts_nil {X : Cx} : PTs X [] tYes := fun _ _ _ H _ I h => wpAny_tests_nil ⟨H, I, h⟩
section
variable {prog : Program} {w : World} {A : Around} {R : Result → Shared → Prop} {s : Shared}
abbrev NoE : Value → Shared → Prop := fun _ _ => False
theorem ofNoE {α : Type} {m : Sem α} {Q : α → Shared → Prop} {E : Value → Shared → Prop} {s : Shared} (h : wpAny (model prog w) A m Q NoE s) : wpAny (model prog w) A m Q E s :=
  wpAny_mono h (fun _ _ q => q) fun _ _ z => z.elim
def afterItem (prog : Program) (w : World) (A : Around) (env : Env) (tg : Expr) (ifs : List Expr) (elt : Expr) (it acc : Value) (again : Shared → Prop) (v : Value) (s1 : Shared) : Prop :=
  wpAny (model prog w) A (letOwnedTupleGo tg it v) (fun _ s2 => wpAny (model prog w) A (assign tg env v) (fun _ s3 =>
    wpAny (model prog w) A (forIn ifs true fun c r => if r = true then do let ok ← isTrue c env (eval c env); pure (ForInStep.yield ok) else pure (ForInStep.yield r)) (fun ok s4 =>
      if ok = true then wpAny (model prog w) A (eval elt env) (fun x s5 => wpAny (model prog w) A (call (.builtin "list.append") [acc, x]) (fun _ s6 => again s6) NoE s5) NoE s4
      else again s4) NoE s3) NoE s2) NoE s1
theorem block_loop {elt tg iter : Expr} {ifs : List Expr} {scope : Scope} {pos : Pos} {it acc : Value} {env : Env} (J : Nat → Shared → Prop)
    (turn : ∀ n s, J n s → wpAny (model prog w) A (pyNext it) (fun r s1 => match r with
      | none => R (.ok .next) s1
      | some v => afterItem prog w A env tg ifs elt it acc (fun s6 => ∃ m, m < n ∧ J m s6) v s1) NoE s)
    (n : Nat) (h : J n s) : codeAny (model prog w) A (.compLoop (.ListComp elt [⟨tg, iter, ifs, 0⟩] scope pos) 0 it acc env) R s := by
  refine codeAny_loop rfl J (fun n s hJ => ?_) n h
  show wpAny _ A ((compTurn (.ListComp elt [⟨tg, iter, ifs, 0⟩] scope pos) 0 it acc env).onRaise (fun x => do noteFrame x env; theTreesLotGoes x)) _ _ s
  refine wpAny_noted (ofNoE ?_)
  rw [compTurn_list]
  refine wpAny_bind (wpAny_standAt (wpAny_bind (thn (turn n s hJ) fun r s1 h1 => ?_)))
  cases r with
  | none => exact wpAny_pure h1
  | some v =>
    refine wpAny_bind (thn h1 fun _ s2 h2 => wpAny_bind (thn h2 fun _ s3 h3 => wpAny_bind (thn h3 fun ok s4 h4 => ?_)))
    cases ok with
    | false => exact wpAny_pure ⟨rfl, h4⟩
    | true => exact wpAny_bind (wpAny_bind (thn h4 fun x s5 h5 => wpAny_bind (thn h5 fun _ s6 h6 => wpAny_pure (wpAny_pure ⟨rfl, h6⟩))))
end
theorem clos_go {env : Env} : ∀ (names : List (Str × NameKind)) (acc : List (Str × Addr)), (∀ y ∈ names, y.2 = .free → ∃ c, env.cells.lookup y.1 = some c) → (∀ x c, acc.lookup x = some c → env.cells.lookup x = some c) →
    ∃ cl, (forIn names acc (fun (y : Str × NameKind) (cs : List (Str × Addr)) => (if (y.2 == NameKind.free) = true then (do let c ← cellOf env y.1; pure (ForInStep.yield ((y.1, c) :: cs))) else pure (ForInStep.yield cs) : Sem (ForInStep (List (Str × Addr)))))) = (pure cl : Sem (List (Str × Addr))) ∧
      (∀ x c, cl.lookup x = some c → env.cells.lookup x = some c) ∧ (∀ x, (acc.lookup x).isSome = true → (cl.lookup x).isSome = true) ∧ (∀ y ∈ names, y.2 = .free → (cl.lookup y.1).isSome = true)
  | [], acc, _, h2 => ⟨acc, rfl, h2, fun _ h => h, fun y hy => by cases hy⟩
  | (n, k) :: r, acc, h1, h2 => by
    have h1' : ∀ y ∈ r, y.2 = .free → ∃ c, env.cells.lookup y.1 = some c := fun y hy => h1 y (List.mem_cons_of_mem _ hy)
    by_cases hk : k = .free
    · subst hk
      obtain ⟨c, hc⟩ := h1 (n, .free) List.mem_cons_self rfl
      have h2' : ∀ x c', (((n, c) :: acc : List (Str × Addr)).lookup x) = some c' → env.cells.lookup x = some c' := fun x c' e => by
        rw [List.lookup_cons] at e
        by_cases hx : (x == n) = true
        · rw [hx] at e
          cases e
          rw [beq_iff_eq.mp hx]
          exact hc
        · rw [Bool.not_eq_true] at hx
          rw [hx] at e
          exact h2 x c' e
      obtain ⟨cl, e, p1, p2, p3⟩ := clos_go r ((n, c) :: acc) h1' h2'
      refine ⟨cl, ?_, p1, fun x hx => p2 x ?_, fun y hy hf => ?_⟩
      · rw [List.forIn_cons]
        have q : cellOf env n = pure c := by unfold cellOf; rw [hc]
        simp only [beq_self_eq_true, if_true, q, pure_bind]
        exact e
      · rw [List.lookup_cons]
        cases q : x == n with
        | true => rfl
        | false => exact hx
      · rcases List.mem_cons.mp hy with rfl | hy
        · exact p2 n (by rw [List.lookup_cons, beq_self_eq_true]; rfl)
        · exact p3 y hy hf
    · obtain ⟨cl, e, p1, p2, p3⟩ := clos_go r acc h1' h2
      have hb : (k == NameKind.free) = false := by simpa using hk
      refine ⟨cl, ?_, p1, p2, fun y hy hf => ?_⟩
      · rw [List.forIn_cons]
        simp only [hb, Bool.false_eq_true, if_false, pure_bind]
        exact e
      · rcases List.mem_cons.mp hy with rfl | hy
        · exact absurd hf hk
        · exact p3 y hy hf
structure Clos (env : Env) (scope : Scope) (cl : List (Str × Addr)) : Prop where
  eq : closureFor scope env = pure cl
  sub : ∀ x c, cl.lookup x = some c → env.cells.lookup x = some c
  all : ∀ y ∈ scope.names, y.2 = .free → (cl.lookup y.1).isSome = true
theorem clos_of {env : Env} {scope : Scope} (h : ∀ y ∈ scope.names, y.2 = .free → ∃ c, env.cells.lookup y.1 = some c) : ∃ cl, Clos env scope cl := by
  obtain ⟨cl, e, p1, p2, p3⟩ := clos_go (env := env) scope.names [] h (fun x c z => by simp at z)
  refine ⟨cl, ⟨?_, p1, p3⟩⟩
  have q : closureFor scope env = (forIn scope.names [] (fun (y : Str × NameKind) (cs : List (Str × Addr)) => (if (y.2 == NameKind.free) = true then (do let c ← cellOf env y.1; pure (ForInStep.yield ((y.1, c) :: cs))) else pure (ForInStep.yield cs) : Sem (ForInStep (List (Str × Addr))))) >>= fun s => pure s) := rfl
  rw [q, e, pure_bind]
abbrev cxComp (X : Cx) (scope : Scope) (N' : List Str) (cl : List (Str × Addr)) (C : Addr) (s₀ : Shared) (H₀ : Hp) (fp : List Addr) : Cx :=
  { X with N := N', s₀ := s₀, H₀ := H₀, env := compEnvC scope cl C X.env, outer := X.stack, ex := fp, fn := fun _ => false, pn := [], xe := NoE }
structure Blk where
  cl : List (Str × Addr)
  C : Addr
  s₀ : Shared
  H₀ : Hp
  fp : List Addr
abbrev cxB (X : Cx) (scope : Scope) (N' : List Str) (b : Blk) : Cx := cxComp X scope N' b.cl b.C b.s₀ b.H₀ b.fp
def isCF : Option NameKind → Bool
  | some .cell => true
  | some .free => true
  | _ => false
theorem isCF_iff {k : Option NameKind} (h : isCF k = true) : k = some .cell ∨ k = some .free := by
  cases k with
  | none => cases h
  | some k => cases k <;> first | exact .inl rfl | exact .inr rfl | cases h
def capOk (N : List Str) (kd kd' : Str → Option NameKind) (N' : List Str) (t : Nat) : List Nat → Nat → Bool
  | [], k => N'.length == t + k
  | j :: r, k => (match N[j]?, N'[t + k]? with
    | some x, some y => (x == y) && isCF (kd x) && isCF (kd' x)
    | _, _ => false) && capOk N kd kd' N' t r (k + 1)
theorem capOk_len {N : List Str} {kd kd' : Str → Option NameKind} {N' : List Str} {t : Nat} : ∀ {caps : List Nat} {k : Nat}, capOk N kd kd' N' t caps k = true → N'.length = t + k + caps.length
  | [], k, h => by
    have := beq_iff_eq.mp h
    simpa using this
  | j :: r, k, h => by
    have := capOk_len (Bool.and_eq_true_iff.mp h).2
    rw [List.length_cons]
    omega
theorem capOk_at {N : List Str} {kd kd' : Str → Option NameKind} {N' : List Str} {t : Nat} : ∀ {caps : List Nat} {k i j : Nat}, capOk N kd kd' N' t caps k = true → caps[i]? = some j →
    ∃ x, N[j]? = some x ∧ N'[t + k + i]? = some x ∧ isCF (kd x) = true ∧ isCF (kd' x) = true
  | [], _, _, _, _, e => by simp at e
  | j :: r, k, 0, j', h, e => by
    simp at e
    subst e
    have h1 := (Bool.and_eq_true_iff.mp h).1
    cases q : N[j]? with
    | none => rw [q] at h1; cases h1
    | some x =>
      cases q' : N'[t + k]? with
      | none => rw [q, q'] at h1; cases h1
      | some y =>
        rw [q, q'] at h1
        obtain ⟨h2, h3⟩ := Bool.and_eq_true_iff.mp h1
        obtain ⟨h4, h5⟩ := Bool.and_eq_true_iff.mp h2
        obtain rfl : x = y := beq_iff_eq.mp h4
        exact ⟨x, rfl, rfl, h5, h3⟩
  | j :: r, k, i + 1, j', h, e => by
    obtain ⟨x, a, b, c, d⟩ := capOk_at (i := i) (Bool.and_eq_true_iff.mp h).2 (by simpa using e)
    refine ⟨x, a, ?_, c, d⟩
    have q : t + (k + 1) + i = t + k + (i + 1) := by omega
    rw [← q]
    exact b
structure CompOk (X : Cx) (scope : Scope) (N' : List Str) (t : Nat) (caps : List Nat) : Prop where
  kind : scope.kind = .function
  shape : (scope.names.all fun y => (y.2 == .local && scope.names.lookup y.1 == some .local) || (y.2 == .free && isCF (X.env.kindOf y.1)) || (y.2 == .globalImplicit)) = true
  cap : capOk X.N X.env.kindOf (compEnvC scope [] 0 X.env).kindOf N' t caps 0 = true
theorem CompOk.at {X : Cx} {scope : Scope} {N' : List Str} {t : Nat} {caps : List Nat} (S : CompOk X scope N' t caps) {y : Str × NameKind} (hy : y ∈ scope.names) :
    y.2 ≠ .cell ∧ (y.2 = .local → scope.names.lookup y.1 = some .local) ∧ (y.2 = .free → isCF (X.env.kindOf y.1) = true) := by
  have h := List.all_eq_true.mp S.shape y hy
  obtain ⟨n, k⟩ := y
  cases k <;> simp at h <;> simp [h]
def capS (t : Nat) (caps : List Nat) (σ : St) : St := List.replicate t none ++ caps.map fun j => (σ[j]?).join
theorem relabel_cf {scope : Scope} {env : Env} {x : Str} : ∀ {names : List (Str × NameKind)}, (∀ y ∈ names, y.2 ≠ .cell) → isCF ((names.map fun (y : Str × NameKind) => if (y.2 == NameKind.free && env.scope.kind == .function && env.kindOf y.1 == some .cell) = true then (y.1, NameKind.cell) else (y.1, y.2)).lookup x) = true →
    (x, NameKind.free) ∈ names
  | [], _, h => by simp [isCF] at h
  | (n, k) :: r, hn, h => by
    have hr : ∀ y ∈ r, y.2 ≠ .cell := fun y hy => hn y (List.mem_cons_of_mem _ hy)
    have hk : k ≠ .cell := hn (n, k) List.mem_cons_self
    rw [List.map_cons] at h
    by_cases hx : (x == n) = true
    · obtain rfl : x = n := beq_iff_eq.mp hx
      have q : k = .free := by
        by_cases hf : k = .free
        · exact hf
        · exfalso
          have hb : (k == NameKind.free) = false := by simpa using hf
          simp only [hb, Bool.false_and, Bool.false_eq_true, if_false, List.lookup_cons, beq_self_eq_true] at h
          cases k <;> simp [isCF] at h hk hf
      subst q
      exact List.mem_cons_self
    · rw [Bool.not_eq_true] at hx
      refine List.mem_cons_of_mem _ (relabel_cf (scope := scope) (env := env) hr ?_)
      by_cases hc : (k == NameKind.free && env.scope.kind == .function && env.kindOf n == some .cell) = true
      · simp only [hc, if_true, List.lookup_cons, hx] at h
        exact h
      · rw [Bool.not_eq_true] at hc
        simp only [hc, Bool.false_eq_true, if_false, List.lookup_cons, hx] at h
        exact h
def CompR (J : It) (g : TG) (tc : TT) (te : TE) (Q : VK) (D : Addr) (τ0 : St) (H0 : Hp) : Prop :=
  ∃ W : Nat → Nat → List V → St → Hp → Prop, (∃ m, W 0 m [] τ0 H0) ∧ ∀ i m ys τ H, W i m ys τ H →
    (J.stop i H ∧ Q (.ref D) H) ∨ (J.go i H ∧ ∃ N : List V → St → Hp → Prop, (∀ zs τ' H', N zs τ' H' → ∃ m', m' < m ∧ W (i + 1) m' zs τ' H') ∧ ∀ x H3, J.yld i H x H3 → g x τ H3 fun τ2 H4 => tc τ2 H4 fun b H5 =>
      if b = true then te τ2 H5 fun y H6 => H6 D = some (.lst ys) ∧ ys.length < sizeLine ∧ N (ys ++ [y]) τ2 (upd H6 D (.lst (ys ++ [y]))) else N ys τ2 H5)
def tComp (wi : TI) (g : Blk → TG) (tc : Blk → TT) (te : Blk → TE) (t : Nat) (caps : List Nat) : TE := fun σ H Q =>
  wi σ H fun J H1 => ∀ D, H1 D = none → ∀ b : Blk, CompR J (g b) (tc b) (te b) Q D (capS t caps σ) (upd H1 D (.lst []))
theorem comp_by {J : It} {g : TG} {tc : TT} {te : TE} {Q : VK} {D : Addr} {τ0 : St} {H0 : Hp} (n : Nat) (Pv : Nat → List V → St → Hp → Prop) (h0 : Pv 0 [] τ0 H0)
    (hst : ∀ zs τ H, Pv n zs τ H → J.stop n H ∧ Q (.ref D) H)
    (hgo : ∀ i zs τ H, i < n → Pv i zs τ H → J.go i H ∧ ∀ x H3, J.yld i H x H3 → g x τ H3 fun τ2 H4 => tc τ2 H4 fun b H5 =>
      if b = true then te τ2 H5 fun y H6 => H6 D = some (.lst zs) ∧ zs.length < sizeLine ∧ Pv (i + 1) (zs ++ [y]) τ2 (upd H6 D (.lst (zs ++ [y]))) else Pv (i + 1) zs τ2 H5) : CompR J g tc te Q D τ0 H0 := by
  refine ⟨fun i m zs τ H => m = n - i ∧ i ≤ n ∧ Pv i zs τ H, ⟨n, by simp, Nat.zero_le _, h0⟩, ?_⟩
  rintro i m zs τ H ⟨rfl, hi, p⟩
  by_cases hlt : i < n
  · obtain ⟨go, step⟩ := hgo i zs τ H hlt p
    exact .inr ⟨go, Pv (i + 1), fun zs' τ' H' p' => ⟨n - (i + 1), by omega, rfl, hlt, p'⟩, step⟩
  · have e : i = n := by omega
    subst e
    exact .inl (hst zs τ H p)
theorem comp_list {K : PySem.W.Frag} {a : Addr} {xs : List V} {g : TG} {tc : TT} {te : TE} {Q : VK} {D : Addr} {τ0 : St} {H0 : Hp} (Pv : Nat → List V → St → Hp → Prop) (h0 : Pv 0 [] τ0 H0) (hl : ∀ i zs τ H, Pv i zs τ H → SqL K H a xs)
    (hs : ∀ i x zs τ H, xs[i]? = some x → Pv i zs τ H → g x τ H fun τ2 H4 => tc τ2 H4 fun b H5 =>
      if b = true then te τ2 H5 fun y H6 => H6 D = some (.lst zs) ∧ zs.length < sizeLine ∧ Pv (i + 1) (zs ++ [y]) τ2 (upd H6 D (.lst (zs ++ [y]))) else Pv (i + 1) zs τ2 H5)
    (hd : ∀ zs τ H, Pv xs.length zs τ H → Q (.ref D) H) : CompR (Itl K a) g tc te Q D τ0 H0 :=
  comp_by xs.length Pv h0 (fun zs τ H p => ⟨⟨xs, hl _ _ _ _ p, Nat.le_refl _⟩, hd zs τ H p⟩) fun i zs τ H hi p => ⟨⟨xs, xs[i], hl _ _ _ _ p, by simp [hi]⟩, fun x H3 y => by
    obtain ⟨e, y⟩ := y
    subst e
    exact hs i x zs τ _ (y xs (hl _ _ _ _ p)) p⟩
section
variable {X : Cx} {tg iter elt : Expr} {ifs : List Expr} {scope : Scope} {pos : Pos} {N' : List Str} {t : Nat} {caps : List Nat} {g : Blk → TG} {tc : Blk → TT} {te : Blk → TE} {wi : TI}
theorem FpOk.heap {pins : List (Addr × Obj)} {H H' : Hp} {b : Addr} (f : FpOk X pins H b) (h : H' b = none) : FpOk X pins H' b := ⟨h, f.2⟩
theorem comp_core {cl : List (Str × Addr)} {J : It} {fp : List Addr} {it : Addr} {tn : Nat → Heap → Prop} {pins : List (Addr × Obj)} {σ : St} {H2 : Hp} {s2 : Shared} {Q : VK} {E : Value → Shared → Prop}
    (hc : X.calm = true) (S : CompOk X scope N' t caps) (L : Clos X.env scope cl)
    (hg : ∀ b, PG (cxB X scope N' b) tg (g b)) (ht : ∀ b, PTs (cxB X scope N' b) ifs (tc b)) (he : ∀ b, PE (cxB X scope N' b) elt (te b))
    (I2 : Inv X pins σ H2 s2) (T : Turn X.prog X.w X.K tg J fp it tn) (st2 : tn 0 s2.heap) (f2 : ∀ b ∈ fp, FpOk X pins H2 b)
    (R : ∀ D, H2 D = none → ∀ b, CompR J (g b) (tc b) (te b) Q D (capS t caps σ) (upd H2 D (.lst []))) :
    wpAny (model X.prog X.w) X.A (newList []) (fun acc s3 => wpAny (model X.prog X.w) X.A (newFunctionEnv scope X.env.globals cl [] X.env.qual none .none (some X.env)) (fun cenv s4 =>
      codeAny (model X.prog X.w) X.A (.compStart (.ListComp elt [⟨tg, iter, ifs, 0⟩] scope pos) 0 (.ref it) acc { cenv with scope := relabel scope X.env })
        (fun r s' => ∃ (D : Addr) (H' : Hp) (m : Str → Option Value), acc = .ref D ∧ r = .ok .next ∧ Inv X pins σ H' s' ∧ s'.heap.Ns cenv.locals m ∧ FpOk X pins H' cenv.locals ∧ Q (.ref D) H') s4) E s3) E s2 := by
  refine wpAny_newObj_type ?_
  have I3 : Inv X pins σ (upd H2 s2.heap.objs.size (.lst [])) { s2 with heap := s2.heap.push { cls := .type "list", data := .seq ([] : List Value).toArray } } := I2.lnew (t' := s2.toks) .nil (Nat.zero_le _)
  have hD : H2 s2.heap.objs.size = none := I2.fresh
  have R := R _ hD
  generalize hs3 : ({ s2 with heap := s2.heap.push { cls := .type "list", data := .seq ([] : List Value).toArray } } : Shared) = s3 at I3 ⊢
  generalize hH3 : upd H2 s2.heap.objs.size (.lst []) = H3 at I3 R
  generalize hDD : s2.heap.objs.size = D at R ⊢
  have k3 : ∀ b o, s2.heap.get? b = some o → s3.heap.get? b = some o := fun b o e => by rw [← hs3]; exact Heap.get?_push_of_some _ e
  have st3 : tn 0 s3.heap := T.keep 0 _ _ st2 fun b _ o e => k3 b o e
  have fpn : ∀ b ∈ fp, H3 b = none := fun b hb => by
    obtain ⟨o, e, _⟩ := T.obj 0 _ st2 b hb
    rw [← hH3, upd_ne (Nat.ne_of_lt (Heap.lt_size e))]
    exact (f2 b hb).1
  have f3 : ∀ b ∈ fp, FpOk X pins H3 b := fun b hb => (f2 b hb).heap (fpn b hb)
  refine wpAny_newFunctionEnv (fun y hy => (S.at hy).1) (by intro y hy; simp at hy) (fun h4 hns hsb => ?_) S.kind
  generalize hC : s3.heap.objs.size = C at hns hsb ⊢
  have k4 : ∀ b o, s3.heap.get? b = some o → h4.get? b = some o := fun b o e => hsb.extBut b o (by rw [← hC]; exact Nat.ne_of_lt (Heap.lt_size e)) (Heap.get?_push_of_some _ e)
  have cellsub : ∀ x c, (cxComp X scope N' cl C s3 H3 fp).env.cells.lookup x = some c → X.env.cells.lookup x = some c := L.sub
  have hnc : ∀ y ∈ scope.names, y.2 ≠ .cell := fun y hy => (S.at hy).1
  have fC : ∀ {H' : Hp}, H' C = none → FpOk X pins H' C := fun h => by rw [← hC] at h ⊢; exact I3.fpOk (Nat.le_refl _) h
  have I4 : Inv (cxComp X scope N' cl C s3 H3 fp) [] (capS t caps σ) H3 { s3 with heap := h4, toks := s3.toks + ([] : List (Str × Value)).length } := by
    refine ⟨⟨I3.ok.mod, S.kind, I3.ok.glob, I3.ok.blt, Nat.le_of_eq hC, fun x y c h1 h2 => I3.ok.inj x y c (L.sub _ _ h1) (L.sub _ _ h2), fun x hx => ?_, fun x c h _ => absurd (show false = true from h) Bool.false_ne_true, I3.ok.hd, I3.ok.frames, .inl rfl, fun b hb => ⟨?_, fun x c e => (f3 b hb).2.2.2.2.1 x c (L.sub x c e)⟩,
        I3.bs, Nat.le_trans I3.ok.bsz I3.sz, fun b o e hb => ?_, fun b hb z => ?_, I3.stack, I3.stkFree⟩,
      rfl, I3.bare, Un.kept k4, ⟨_, hns, fun i x v e1 e2 e3 => ?_⟩, fun x c e => ?_, (by rw [← hC]; exact I3.fresh), fun x c e => I3.freeC x c (L.sub x c e), fun p hp => ?_, I3.hok.kept k4, ?_⟩
    · have hx' : isCF ((relabel scope X.env).names.lookup x) = true := by
        rcases hx with q | q
        · rw [show (relabel scope X.env).names.lookup x = some .cell from q]; rfl
        · rw [show (relabel scope X.env).names.lookup x = some .free from q]; rfl
      exact Option.isSome_iff_exists.mp (L.all _ (relabel_cf (scope := scope) hnc hx') rfl)
    · obtain ⟨o, e, _⟩ := T.obj 0 _ st3 b hb
      rw [← hC]
      exact Nat.ne_of_lt (Heap.lt_size e)
    · rcases (f3 b hb).2.2.2.1 with z | z
      · exact I3.ok.noex b o e z
      · exact absurd (Nat.lt_of_lt_of_le (Nat.lt_of_lt_of_le (Heap.lt_size e) I3.ok.bsz) z) (Nat.lt_irrefl _)
    · rcases List.mem_cons.mp (I3.stkSub b z) with q | q
      · exact (f3 b hb).2.1 q
      · exact (f3 b hb).2.2.1 q
    · -- a name that was taken over
      unfold capS at e2
      by_cases hi : i < t
      · rw [List.getElem?_append_left (by simpa using hi), List.getElem?_replicate] at e2
        simp [hi] at e2
      · rw [List.getElem?_append_right (by simpa using hi), List.length_replicate, List.getElem?_map] at e2
        cases q : caps[i - t]? with
        | none => rw [q] at e2; simp at e2
        | some j =>
          rw [q] at e2
          obtain ⟨y, c1, c2, c3, c4⟩ := capOk_at S.cap q
          have ei : t + 0 + (i - t) = i := by omega
          rw [ei] at c2
          have exy : x = y := Option.some.inj ((show N'[i]? = some x from e1).symm.trans c2)
          subst exy
          have e2' : σ[j]? = some (some v) := by
            have e2 : (σ[j]?).join = some v := Option.some.inj e2
            cases r : σ[j]? with
            | none => rw [r] at e2; cases e2
            | some z =>
              rw [r] at e2
              have e2 : z = some v := e2
              rw [e2]
          obtain ⟨m, hn, hl⟩ := I3.loc
          have cf := isCF_iff c3
          obtain ⟨u, ru, lk⟩ := hl j x v c1 e2' (.inr (by
            rcases cf with z | z
            · exact .inl z
            · exact .inr z))
          refine ⟨u, ru, .inr ⟨isCF_iff c4, ?_⟩⟩
          rcases lk with ⟨z, _⟩ | ⟨_, c, ec, zc⟩
          · rcases cf with w | w <;> (rw [z] at w; cases w)
          · have hfree := relabel_cf (scope := scope) (env := X.env) (x := x) hnc c4
            obtain ⟨c', ec'⟩ := Option.isSome_iff_exists.mp (L.all _ hfree rfl)
            have := L.sub _ _ ec'
            rw [show X.env.cells.lookup x = some c from ec] at this
            cases this
            obtain ⟨o, ho, hd⟩ := zc
            exact ⟨c, ec', o, k4 _ _ ho, hd⟩
    · obtain ⟨v, o, ho, hd⟩ := I3.cell x c (L.sub x c e)
      exact ⟨v, o, k4 _ _ ho, hd⟩
    · exact absurd (show p ∈ ([] : List (Addr × Obj)) from hp) (by simp)
    · unfold capS
      rw [List.length_append, List.length_replicate, List.length_map, capOk_len S.cap]
      omega
  obtain ⟨W, ⟨m0, w0⟩, turn⟩ := R ⟨cl, C, s3, H3, fp⟩
  -- back to the frame outside
  have back : ∀ {τ : St} {H' : Hp} {s' : Shared}, Inv (cxComp X scope N' cl C s3 H3 fp) [] τ H' s' → Inv X pins σ H' s' := fun {τ H' s'} J => by
    refine I3.call' (ch := fp) (J.os.trans ?_) J.base J.hok J.bare fun b hb => ⟨(f3 b hb).2.2.2.1, (f3 b hb).2.1, (f3 b hb).2.2.2.2.1, (f3 b hb).2.2.2.2.2⟩
    rfl
  have stat : ∀ {H' : Hp}, (∀ b ∈ fp, H' b = none) → ∀ b ∈ fp, FpOk (cxComp X scope N' cl C s3 H3 fp) [] H' b := fun {H'} hn b hb => by
    refine ⟨hn b hb, (I4.ok.exf b hb).1, I4.ok.exfs b hb, .inl hb, (I4.ok.exf b hb).2, fun p hp => ?_⟩
    exact absurd (show p ∈ ([] : List (Addr × Obj)) from hp) (by simp)
  have loop : codeAny (model X.prog X.w) X.A (.compLoop (.ListComp elt [⟨tg, iter, ifs, 0⟩] scope pos) 0 (.ref it) (.ref D) (compEnvC scope cl C X.env))
      (fun r s' => ∃ (D' : Addr) (H' : Hp) (m : Str → Option Value), Value.ref D = .ref D' ∧ r = .ok .next ∧ Inv X pins σ H' s' ∧ s'.heap.Ns C m ∧ FpOk X pins H' C ∧ Q (.ref D') H') { s3 with heap := h4, toks := s3.toks + ([] : List (Str × Value)).length } := by
    refine block_loop (fun n s' => ∃ i ys τ H', Inv (cxComp X scope N' cl C s3 H3 fp) [] τ H' s' ∧ tn i s'.heap ∧ (∀ b ∈ fp, H' b = none) ∧ W i n ys τ H') ?_ m0 ⟨0, [], _, H3, I4, T.keep 0 _ _ st3 fun b _ o e => k4 b o e, fpn, w0⟩
    rintro n s5 ⟨i, ys, τ, H5, I5, st5, fr5, w5⟩
    rcases turn i n ys τ H5 w5 with ⟨stop, q⟩ | ⟨go, N, hN, step⟩
    · refine thn (T.done (cxComp X scope N' cl C s3 H3 fp) rfl rfl rfl hc i [] s5 τ H5 NoE I5 (stat fr5) st5 stop) fun r s6 ⟨hr, I6⟩ => ?_
      subst hr
      obtain ⟨m, hm, _⟩ := id I6.loc
      exact ⟨D, H5, m, rfl, rfl, back I6, hm, fC I6.free, q⟩
    · refine thn (T.item (cxComp X scope N' cl C s3 H3 fp) rfl rfl rfl hc i [] s5 τ H5 NoE I5 (stat fr5) st5 go) fun r s6 ⟨u, hr, h6⟩ => ?_
      subst hr
      refine thn h6 fun _ s7 ⟨x, H7, I7, r7, y7, st7, fr7⟩ => ?_
      have I7' := I7.pinned (stat fr7) (T.obj _ _ st7)
      have again : ∀ {τ9 : St} {H9 : Hp} {s9 : Shared} {ys9 : List V} {m' : Nat}, Inv (cxComp X scope N' cl C s3 H3 fp) ([] ++ pinsAt fp s7.heap) τ9 H9 s9 → m' < n → W (i + 1) m' ys9 τ9 H9 →
          ∃ m, m < n ∧ ∃ i ys τ H', Inv (cxComp X scope N' cl C s3 H3 fp) [] τ H' s9 ∧ tn i s9.heap ∧ (∀ b ∈ fp, H' b = none) ∧ W i m ys τ H' := fun {τ9 H9 s9 ys9 m'} I9 hm w9 => by
        refine ⟨m', hm, i + 1, ys9, τ9, H9, I9.unpinned, T.keep _ _ _ st7 fun b hb o e => (I9.pin (b, o) (List.mem_append_right _ (List.mem_append_right _ (mem_pinsAt hb e)))).1, fun b hb => ?_, w9⟩
        obtain ⟨o, e, _⟩ := T.obj _ _ st7 b hb
        exact (I9.pin (b, o) (List.mem_append_right _ (List.mem_append_right _ (mem_pinsAt hb e)))).2.1
      refine thn (hg ⟨cl, C, s3, H3, fp⟩ _ s7 τ H7 x u _ I7' r7 (step x H7 y7)) fun _ s8 ⟨τ8, H8, I8, q8⟩ => ?_
      refine thn (ht ⟨cl, C, s3, H3, fp⟩ _ s8 τ8 H8 _ I8 q8) fun ok s9 ⟨H9, I9, q9⟩ => ?_
      cases ok with
      | false =>
        obtain ⟨m', hm, w9⟩ := hN _ _ _ (show N ys τ8 H9 from q9)
        exact again I9 hm w9
      | true =>
        refine thn (he ⟨cl, C, s3, H3, fp⟩ _ s9 τ8 H9 _ I9 q9) fun y s10 ⟨z, H10, I10, r10, hl, hz, q10⟩ => ?_
        refine thn (mt_append _ s10 τ8 H10 (.ref D) [z] (.ref D) [y] (fun v H11 => v = .non ∧ H11 = upd H10 D (.lst (ys ++ [z]))) I10 rfl (.cons r10 .nil) ⟨D, ys, z, rfl, rfl, hl, hz, rfl, rfl⟩) fun _ s11 ⟨v, H11, I11, _, _, e11⟩ => ?_
        subst e11
        obtain ⟨m', hm, w10⟩ := hN _ _ _ q10
        exact again I11 hm w10
  exact codeAny_compStart_list loop (T.self _ 0 _ _ _ (T.keep 0 _ _ st3 fun b _ o e => k4 b o e) loop)
theorem pe_comp (hc : X.calm = true) (S : CompOk X scope N' t caps) (hi : PI X tg iter wi)
    (hg : ∀ b, PG (cxB X scope N' b) tg (g b)) (ht : ∀ b, PTs (cxB X scope N' b) ifs (tc b)) (he : ∀ b, PE (cxB X scope N' b) elt (te b))
    (hs : ∀ x, foldedSetIterable iter X.env x = pure x := by intro _; rfl) : PE X (.ListComp elt [⟨tg, iter, ifs, 0⟩] scope pos) (tComp wi g tc te t caps) := by
  intro pins s σ H Q I h
  obtain ⟨cl, L⟩ := clos_of (env := X.env) (scope := scope) fun y hy hf => I.ok.has y.1 (isCF_iff ((S.at hy).2.2 hf))
  rw [eval_ListComp]
  refine wpAny_comprehension_free (use := none) rfl hs L.eq S.kind (fun y hy => (S.at hy).2.1) (thn (hi pins s σ H _ I h) fun x s1 h1 => thn h1 fun itv s2 h2 => ?_)
  obtain ⟨it, fp, tn, J, H2, rfl, I2, T, st2, f2, R⟩ := h2
  refine thn (comp_core hc S L hg ht he I2 T st2 f2 R) fun acc s3 h3 => thn h3 fun cenv s4 h4 => codeAny_mono h4 fun r s' hr => ?_
  obtain ⟨D, H', m, rfl, rfl, I', hm, fC, q⟩ := hr
  obtain ⟨c0, c1, c2, c3, c4, c5⟩ := fC
  exact ⟨m, hm, fun h' sb => ⟨.ref D, H', I'.turned (t' := s'.toks) (fun b o hb e => sb.extBut b o hb e) c0 c1 c3 c4 c5, rfl, q⟩⟩
end
end L2

/-! BExt2 -/
set_option Elab.async false
set_option linter.all false
set_option maxRecDepth 100000
set_option maxHeartbeats 4000000
namespace L2
open PySem PySem.Spec PyProof.Rows
def CDivG (i j : Int) : Prop := 0 < j ∧ j.natAbs.log2 < 9000
section
variable {X : Cx}
theorem op_fdivG : OpR X (binaryOp .FloorDiv) (rI CDivG fun i j => .int (i / j)) := opI fun i j _ _ _ _ _ hc q => by
  have e : i.fdiv j = i / j := Int.fdiv_eq_ediv_of_nonneg i (Int.le_of_lt hc.1)
  exact floordiv_int (Ne.symm (Int.ne_of_lt hc.1)) (by rw [e]; exact q) (.inl (PyProof.noPylong_of_log2 hc.2))
def clsV : V → Option Value
  | .ty n => some (.type n)
  | .ref a => some (.ref a)
  | _ => none
theorem clsV_rel {c : V} {cv u : Value} (h : clsV c = some cv) (r : RelV c u) : u = cv := by
  cases c <;> simp [clsV] at h
  · exact (show u = Value.ref _ from r).trans h
  · exact (show u = Value.type _ from r).trans h
def rIsi (K : PySem.W.Frag) : List V → Hp → VK → Prop := fun xs H Q => ∃ x c t cv b, xs = [x, c] ∧ clsV c = some cv ∧ TyOf K H x t ∧ PySem.W.kitOne K t cv = some b ∧ Q (.bl b) H
theorem call_isi : CallR X (.builtin "isinstance") (rIsi X.K) := by
  intro pins s σ H xs us Q I r h
  obtain ⟨x, c, t, cv, b, rfl, hc, ty, e, q⟩ := h
  obtain ⟨u, v, rfl, r1, r2⟩ := r.two
  obtain rfl := clsV_rel hc r2
  exact isinst_ok I r1 ty e fun tk => ⟨.bl b, H, I.tok tk, rfl, q⟩
end
structure Callee (P : Program) (w : World) (K : PySem.W.Frag) (mg : Str → Option Value) (base : Heap) (x : Str) (f : Addr) (fd : FuncData) (ps : List Str) (k : Nat) (sp : Sp) : Prop where
  ok : FnOk P w K mg base CX0 k f fd ps sp
  g : mg x = some (.ref f)
  kp : PySem.W.keepIn K (.ref f) = true
  b : Binds K fd ps []
structure Maker (P : Program) (w : World) (K : PySem.W.Frag) (mg : Str → Option Value) (base : Heap) (x : Str) (C f : Addr) (fd : FuncData) (ps : List Str) (k : Nat) (sp : Sp) : Prop where
  ok : FnOk P w K mg base CX0 k f fd ps sp
  g : mg x = some (.ref C)
  mm : Mk K C f
  b : Binds K fd ps []
section
variable {X : Cx} {k : Nat} {f C : Addr} {fd : FuncData} {ps : List Str} {sp : Sp} {x m : Str} {p pos apos : Pos} {e o : Expr} {es : List Expr} {ta : TE} {t : TA}
theorem pe_c (c : Callee X.prog X.w X.K X.mg X.base x f fd ps k sp) (hr : Room k X.A) (ha : PA X (e :: es) t) (hg : Gl X x := by rfl) (hdb : (x == ("__debug__" : Str)) = false := by decide)
    (he : starEach (e :: es) X.env = (false, eval e X.env) :: starEach es X.env := by rfl) (hpl : (backTo pos (starEach es X.env)).any (·.1) = false := by rfl) : PE X (.Call (.Name x p) (e :: es) [] pos) (tCall sp [] E0 t) :=
  pe_call c.ok hr hg c.g c.kp c.b .nil pass0 ha hdb he hpl
theorem pe_m (c : Maker X.prog X.w X.K X.mg X.base x C f fd ps k sp) (hr : Room (k + 1) X.A) (ha : PA X (e :: es) t) (hg : Gl X x := by rfl) (hdb : (x == ("__debug__" : Str)) = false := by decide)
    (he : starEach (e :: es) X.env = (false, eval e X.env) :: starEach es X.env := by rfl) (hpl : (backTo pos (starEach es X.env)).any (·.1) = false := by rfl) : PE X (.Call (.Name x p) (e :: es) [] pos) (tMake C sp [] E0 t) :=
  pe_make c.mm c.ok hr hg c.g c.b .nil pass0 ha hdb he hpl
def tMethD (X : Cx) (m : Str) (ta : TE) (t : TA) : TE := fun σ H Q => ta σ H fun x H1 => ∃ (a C dx : Addr) (fs : List (Str × V)) (f : Addr) (fd : FuncData) (ps : List Str) (k : Nat) (sp : Sp), x = .ref a ∧ H1 a = some (.ins C dx fs) ∧ fs.lookup m = none ∧ Cls X.K C ∧ Meth X.K C m f ∧
  FnOk X.prog X.w X.K X.mg X.base CX0 k f fd ps sp ∧ Room k X.A ∧ Binds X.K fd ps [] ∧ t σ H1 fun vs H2 => sp (x :: (vs ++ [])) H2 Q E0
theorem pe_methD {pl : Sem Bool} (he : PE X o ta) (ha : PA X (e :: es) t)
    (hst : starEach (e :: es) X.env = (false, eval e X.env) :: starEach es X.env := by rfl) (hpl : (backTo pos (starEach es X.env)).any (·.1) = false := by rfl)
    (ht : eval (.Call (.Attribute o m apos) (e :: es) [] pos) X.env = (do
      let ov ← eval o X.env
      standAt apos.atName
      let (f, first) ← holding [ov] (getMethod ov m pl)
      callWith pos f first (backTo pos (starEach (e :: es) X.env)) (backToKw pos (keywordEach [] X.env))) := by rfl) :
    PE X (.Call (.Attribute o m apos) (e :: es) [] pos) (tMethD X m ta t) := by
  intro pins s σ H Q I h
  refine PySem.W.methodCall_KW (pl := pl) (thn (he pins s σ H _ I h) fun u s1 ⟨x, H1, I1, rx, a, C, dx, fs, f, fd, ps, k, sp, ex, ea, l, cl, hm, F, hr, hb, q⟩ => ?_) ht
  subst ex
  obtain rfl : u = Value.ref a := rx
  refine getmeth_ok I1 ea cl hm l ?_
  refine PySem.W.callWith_K (first := [.ref a]) (h₀ := X.base) I.ok.mod.kin hm.kp (thn (ha pos pins s1 σ H1 _ I1 q) fun us s2 ⟨vs, H2, I2, r, q2⟩ => ⟨I2.kIn, ?_⟩) hst hpl
  exact run_fn (us := .ref a :: us) (vs := .ref a :: vs) F hr hb .nil pass0 I2 (.cons rfl r) q2
theorem pe_meth0D {pl : Sem Bool} (he : PE X o ta)
    (ht : eval (.Call (.Attribute o m apos) [] [] pos) X.env = (do
      let ov ← eval o X.env
      standAt apos.atName
      let (f, first) ← holding [ov] (getMethod ov m pl)
      callWith pos f first (backTo pos (starEach [] X.env)) (backToKw pos (keywordEach [] X.env))) := by rfl) :
    PE X (.Call (.Attribute o m apos) [] [] pos) (tMethD X m ta tNil) := by
  intro pins s σ H Q I h
  refine PySem.W.methodCall_KW (pl := pl) (thn (he pins s σ H _ I h) fun u s1 ⟨x, H1, I1, rx, a, C, dx, fs, f, fd, ps, k, sp, ex, ea, l, cl, hm, F, hr, hb, q⟩ => ?_) ht
  subst ex
  obtain rfl : u = Value.ref a := rx
  refine getmeth_ok I1 ea cl hm l ?_
  exact PySem.W.callWith_K0 (first := [.ref a]) I1.kIn hm.kp (run_fn (us := [.ref a]) (vs := [.ref a]) F hr hb .nil pass0 I1 (.cons rfl .nil) q)
end
end L2

/-! ZipT -/
set_option Elab.async false
set_option linter.all false
set_option maxHeartbeats 4000000
namespace PySem
namespace Zt
inductive SK where
  | l
  | t
def ItAt (k : SK) (h : Heap) (it a : Addr) (i : Nat) : Prop := match k with
  | .l => h.IsListIter it a i
  | .t => h.IsTupleIter it a i
def SqAt (k : SK) (h : Heap) (a : Addr) (xs : Array Value) : Prop := match k with
  | .l => h.IsList a xs
  | .t => h.IsTuple a xs
theorem ItAt.obj {k : SK} {h : Heap} {it a : Addr} {i : Nat} (x : ItAt k h it a i) : ∃ o, h.get? it = some o ∧ (∀ v, o.data ≠ .cell v) := by
  cases k <;> (obtain ⟨o, e, c, d⟩ := x; exact ⟨o, e, fun v z => by rw [d] at z; cases z⟩)
theorem ItAt.at {k : SK} {h h' : Heap} {it a : Addr} {i : Nat} (x : ItAt k h it a i) (e : ∀ o, h.get? it = some o → h'.get? it = some o) : ItAt k h' it a i := by
  cases k
  · exact Heap.IsListIter.at x e
  · exact Heap.IsTupleIter.at x e
theorem SqAt.at {k : SK} {h h' : Heap} {a : Addr} {xs : Array Value} (x : SqAt k h a xs) (e : ∀ o, h.get? a = some o → h'.get? a = some o) : SqAt k h' a xs := by
  cases k
  · obtain ⟨o, ho, r⟩ := x; exact ⟨o, e o ho, r⟩
  · obtain ⟨o, ho, r⟩ := x; exact ⟨o, e o ho, r⟩
section
variable {prog : Program} {w : World} {A : Around} {E : Value → Shared → Prop} {s : Shared}
theorem next_tup_item {it l : Addr} {i : Nat} {items : Array Value} {x : Value} {Q : Value → Shared → Prop} (hit : s.heap.IsTupleIter it l i) (ht : s.heap.IsTuple l items) (hx : items[i]? = some x)
    (hQ : ∀ h', h'.IsTupleIter it l (i + 1) → Heap.SameBut it s.heap h' → Q x { s with heap := h' }) : wpAny (model prog w) A (Builtin.SmallTypes.nextOf (.ref it)) Q E s := by
  obtain ⟨o, ho, hc, hd⟩ := id hit
  obtain ⟨o2, ho2, _, n2, hd2⟩ := ht
  unfold Builtin.SmallTypes.nextOf
  refine wpAny_bind (wpAny_callSpecial?_slot (name := Str.ofString "__next__") hit.typeIs F.slot_tuple_iterator_next (wpAny_call_entry F.slot_tuple_iterator_next hit.typeIs F.entry_tuple_iterator_next ?_ (F.args_tuple_iterator_next_1 _)))
  show wpAny _ _ (field (.ref it) 0 >>= _) _ _ s; refine wpAny_bind (wpAny_field ho hd (x := .ref l) rfl ?_)
  show wpAny _ _ (if (Value.ref l == Value.none) = true then _ else _) _ _ s; rw [if_neg (show ¬ ((Value.ref l == Value.none) = true) from Bool.false_ne_true)]
  show wpAny _ _ (field (.ref it) 1 >>= _) _ _ s; refine wpAny_bind (wpAny_field ho hd (x := .int i 0) rfl ?_)
  show wpAny _ _ (seqItems? (.ref l) >>= _) _ _ s; refine wpAny_bind (wpAny_seqItems ho2 hd2 ?_)
  simp only [Int.toNat_natCast, hx]
  refine wpAny_bind (wpAny_setField ho hd (by simp) (wpAny_pure ⟨x, rfl, wpAny_pure (hQ _ ⟨_, Heap.get?_update_self _ ho (Obj.isFreed_of_fields (Obj.data_mapFields hd _)), (Obj.cls_mapFields ..).trans hc, ?_⟩ (Heap.SameBut.update ..))⟩))
  rw [Obj.data_mapFields hd]
  simp [rawInt]
theorem next_tup_end {it l : Addr} {i : Nat} {items : Array Value} {Q : Value → Shared → Prop} (hh : A.handled = none) (hit : s.heap.IsTupleIter it l i) (ht : s.heap.IsTuple l items) (hx : items[i]? = none)
    (hE : ∀ h' e, Heap.ExtBut it s.heap h' → (∃ o, h'.get? e = some o ∧ o.cls = .type "StopIteration") → E (.ref e) { s with heap := h' }) : wpAny (model prog w) A (Builtin.SmallTypes.nextOf (.ref it)) Q E s := by
  obtain ⟨o, ho, hc, hd⟩ := id hit
  obtain ⟨o2, ho2, _, n2, hd2⟩ := ht
  unfold Builtin.SmallTypes.nextOf
  refine wpAny_bind (wpAny_callSpecial?_slot (name := Str.ofString "__next__") hit.typeIs F.slot_tuple_iterator_next (wpAny_call_entry F.slot_tuple_iterator_next hit.typeIs F.entry_tuple_iterator_next ?_ (F.args_tuple_iterator_next_1 _)))
  show wpAny _ _ (field (.ref it) 0 >>= _) _ _ s; refine wpAny_bind (wpAny_field ho hd (x := .ref l) rfl ?_)
  show wpAny _ _ (if (Value.ref l == Value.none) = true then _ else _) _ _ s; rw [if_neg (show ¬ ((Value.ref l == Value.none) = true) from Bool.false_ne_true)]
  show wpAny _ _ (field (.ref it) 1 >>= _) _ _ s; refine wpAny_bind (wpAny_field ho hd (x := .int i 0) rfl ?_)
  show wpAny _ _ (seqItems? (.ref l) >>= _) _ _ s; refine wpAny_bind (wpAny_seqItems ho2 hd2 ?_)
  simp only [Int.toNat_natCast, hx]
  refine wpAny_bind (wpAny_rule (wpAny_bind (wpAny_setField ho hd (by simp) ?_)))
  show wpAny _ _ (newExc (.type "StopIteration") [] >>= _) _ _ _; refine wpAny_bind ?_
  simp only [newExc, newTuple]
  refine wpAny_bind (wpAny_newObj_type ?_ (by size_fits)); refine wpAny_bind (m := firstArgMember _ _) (wpAny_of_eq (a := Value.none) (by first | rfl | (simp only [firstArgMember]; rfl)) ?_)
  refine wpAny_newObj_type ?_ (by size_fits); simp only [raiseNew]
  refine wpAny_bind (wpAny_handled ?_); first | rw [show A.in1.handled = none from hh] | rw [hh]
  refine wpAny_bind (wpAny_pure (wpAny_throw ?_))
  exact hE _ _ (((Heap.SameBut.update ..).extBut.push _).push _) ⟨_, Heap.get?_push_size _ rfl, rfl⟩
theorem next_item {k : SK} {it a : Addr} {i : Nat} {xs : Array Value} {x : Value} {Q : Value → Shared → Prop} (hit : ItAt k s.heap it a i) (hs : SqAt k s.heap a xs) (hx : xs[i]? = some x)
    (hQ : ∀ h', ItAt k h' it a (i + 1) → Heap.SameBut it s.heap h' → Q x { s with heap := h' }) : wpAny (model prog w) A (Builtin.SmallTypes.nextOf (.ref it)) Q E s := by
  cases k
  · exact wpAny_nextOf_list_item hit hs hx hQ
  · exact next_tup_item hit hs hx hQ
theorem next_end {k : SK} {it a : Addr} {i : Nat} {xs : Array Value} {Q : Value → Shared → Prop} (hh : A.handled = none) (hit : ItAt k s.heap it a i) (hs : SqAt k s.heap a xs) (hx : xs[i]? = none)
    (hE : ∀ h' e, Heap.ExtBut it s.heap h' → (∃ o, h'.get? e = some o ∧ o.cls = .type "StopIteration") → E (.ref e) { s with heap := h' }) : wpAny (model prog w) A (Builtin.SmallTypes.nextOf (.ref it)) Q E s := by
  cases k
  · exact wpAny_nextOf_list_end hh hit hs hx hE
  · exact next_tup_end hh hit hs hx hE
structure Ap (z TI TO i1 i2 : Addr) : Prop where
  a1 : TI ≠ z
  a2 : TO ≠ z
  a3 : i1 ≠ z
  a4 : i2 ≠ z
  a5 : TI ≠ TO
  a6 : TI ≠ i1
  a7 : TI ≠ i2
  a8 : TO ≠ i1
  a9 : TO ≠ i2
  a10 : i1 ≠ i2
structure Off (l z TO i1 i2 : Addr) : Prop where
  b1 : l ≠ z
  b2 : l ≠ TO
  b3 : l ≠ i1
  b4 : l ≠ i2
structure ZAt (k1 k2 : SK) (z TI TO i1 i2 l1 l2 : Addr) (f0 : Value) (i : Nat) (h : Heap) : Prop where
  zz : IsZip h z TI TO f0
  ti : IsPair h TI (.ref i1) (.ref i2)
  to : ∃ a b, IsPair h TO a b
  j1 : ItAt k1 h i1 l1 i
  j2 : ItAt k2 h i2 l2 i
theorem ZAt.keep {k1 k2 : SK} {z TI TO i1 i2 l1 l2 : Addr} {f0 : Value} {i : Nat} {h h' : Heap} (x : ZAt k1 k2 z TI TO i1 i2 l1 l2 f0 i h) (k : ∀ b ∈ [z, TI, TO, i1, i2], ∀ o, h.get? b = some o → h'.get? b = some o) : ZAt k1 k2 z TI TO i1 i2 l1 l2 f0 i h' := by
  obtain ⟨p1, p2, ⟨a, b, p3⟩, p4, p5⟩ := x
  exact ⟨k z (by simp) _ p1, k TI (by simp) _ p2, ⟨a, b, k TO (by simp) _ p3⟩, p4.at fun o e => k i1 (by simp) o e, p5.at fun o e => k i2 (by simp) o e⟩
theorem zip_item {k1 k2 : SK} {z TI TO i1 i2 l1 l2 : Addr} {i : Nat} {xs ys : Array Value} {x y : Value} {Q : Value → Shared → Prop} (D : Ap z TI TO i1 i2) (O1 : Off l1 z TO i1 i2) (O2 : Off l2 z TO i1 i2)
    (Z : ZAt k1 k2 z TI TO i1 i2 l1 l2 .none i s.heap) (hl1 : SqAt k1 s.heap l1 xs) (hl2 : SqAt k2 s.heap l2 ys) (hx : xs[i]? = some x) (hy : ys[i]? = some y)
    (hQ : ∀ h', ZAt k1 k2 z TI TO i1 i2 l1 l2 (rawInt s.heap.objs.size) (i + 1) h' → IsPair h' s.heap.objs.size x y → (∀ c o, c ≠ z → c ≠ TO → c ≠ i1 → c ≠ i2 → s.heap.get? c = some o → h'.get? c = some o) → Q (.ref s.heap.objs.size) { s with heap := h' }) :
    wpAny (model prog w) A (Builtin.«zip.__next__» ⟨[.ref z], []⟩) (fun fin s' => ∃ v, fin = .done (.ret v) ∧ Q v s') E s := by
  obtain ⟨hz, hTI, ⟨a, b, hTO⟩, h1, h2⟩ := Z
  show wpAny _ _ (field (.ref z) 2 >>= _) _ _ _; refine wpAny_bind (wpAny_field hz rfl (x := .bool false) rfl ?_)
  show wpAny _ _ (field (.ref z) 3 >>= _) _ _ _; refine wpAny_bind (wpAny_field hz rfl (x := .ref TI) rfl ?_)
  refine wpAny_bind (wpAny_seqItems hTI rfl ?_); show wpAny _ _ (Builtin.SmallTypes.ownedTupleIsFree (.ref z) >>= _) _ _ _
  refine wpAny_bind ?_; unfold Builtin.SmallTypes.ownedTupleIsFree
  refine wpAny_bind (wpAny_field hz rfl (x := .none) rfl (wpAny_pure ?_)); simp only [if_true]
  refine wpAny_bind (wpAny_rule ?_); refine wpAny_bind (wpAny_field hz rfl (x := .ref TO) rfl ?_)
  refine wpAny_bind (wpAny_setField_rec hz (by simp) fun g1 y1 s1 => ?_); replace y1 : IsZip g1 z TI TO .ellipsis := y1
  refine wpAny_bind ?_; simp only [List.zipIdx_cons, List.zipIdx_nil, List.forIn_cons, List.forIn_nil]
  refine wpAny_bind (wpAny_bind (wpAny_onRaise ?_)); show wpAny _ _ (Builtin.SmallTypes.nextOf (.ref i1) >>= _) _ _ _
  refine wpAny_bind (next_item (h1.at fun o e => s1.extBut _ _ D.a3 e) (hl1.at fun o e => s1.extBut _ _ O1.b1 e) hx fun g2 q1 s2 => wpAny_pure ?_)
  have to2 : IsPair g2 TO a b := s2.extBut _ _ D.a8 (s1.extBut _ _ D.a2 hTO)
  refine wpAny_bind (wpAny_seqItems to2 rfl ?_); refine wpAny_bind (wpAny_updateSeq_pair to2 fun g3 to3 s3 => ?_)
  replace to3 : IsPair g3 TO x b := to3
  refine wpAny_bind (wpAny_letGo (wpAny_pure ?_)); refine wpAny_bind (wpAny_bind (wpAny_onRaise ?_))
  show wpAny _ _ (Builtin.SmallTypes.nextOf (.ref i2) >>= _) _ _ _
  refine wpAny_bind (next_item (h2.at fun o e => s3.extBut _ _ D.a9.symm (s2.extBut _ _ D.a10.symm (s1.extBut _ _ D.a4 e))) (hl2.at fun o e => s3.extBut _ _ O2.b2 (s2.extBut _ _ O2.b3 (s1.extBut _ _ O2.b1 e))) hy fun g4 q2 s4 => wpAny_pure ?_)
  have to4 : IsPair g4 TO x b := s4.extBut _ _ D.a9 to3
  refine wpAny_bind (wpAny_seqItems to4 rfl ?_); refine wpAny_bind (wpAny_updateSeq_pair to4 fun g5 to5 s5 => ?_)
  replace to5 : IsPair g5 TO x y := to5
  refine wpAny_bind (wpAny_letGo (wpAny_pure (wpAny_pure ?_))); refine wpAny_bind (wpAny_seqItems to5 rfl ?_); refine wpAny_bind (wpAny_newTuple ?_)
  have sz : g5.objs.size = s.heap.objs.size := by rw [s5.1, s4.1, s3.1, s2.1, s1.1]
  have y5 : IsZip g5 z TI TO .ellipsis := s5.extBut _ _ D.a2.symm (s4.extBut _ _ D.a4.symm (s3.extBut _ _ D.a2.symm (s2.extBut _ _ D.a3.symm y1)))
  have kk : ∀ c o, c ≠ z → c ≠ TO → c ≠ i1 → c ≠ i2 → s.heap.get? c = some o → g5.get? c = some o := fun c o c1 c2 c3 c4 e => s5.extBut _ _ c2 (s4.extBut _ _ c4 (s3.extBut _ _ c2 (s2.extBut _ _ c3 (s1.extBut _ _ c1 e))))
  have q1' : ItAt k1 g5 i1 l1 (i + 1) := q1.at fun o e => s5.extBut _ _ D.a8.symm (s4.extBut _ _ D.a10 (s3.extBut _ _ D.a8.symm e))
  have q2' : ItAt k2 g5 i2 l2 (i + 1) := q2.at fun o e => s5.extBut _ _ D.a9.symm e
  have zlt : z < g5.objs.size := Heap.lt_size y5
  show wpAny _ _ (Builtin.SmallTypes.ownedTupleHandOut (.ref z) (.ref g5.objs.size) >>= _) _ _ _
  refine wpAny_bind ?_; unfold Builtin.SmallTypes.ownedTupleHandOut
  have y6 : IsZip (g5.push { cls := .type "tuple", data := .seq #[x, y] }) z TI TO .ellipsis := Heap.get?_push_of_some _ y5
  refine wpAny_bind (wpAny_setField_rec y6 (by simp) fun g7 y7 s7 => ?_); replace y7 : IsZip g7 z TI TO (rawInt g5.objs.size) := y7
  refine wpAny_setField_rec y7 (by simp) fun g8 y8 s8 => ?_; replace y8 : IsZip g8 z TI TO (rawInt g5.objs.size) := y8
  have up : ∀ c o, c ≠ z → g5.get? c = some o → g8.get? c = some o := fun c o c1 e => s8.extBut _ _ c1 (s7.extBut _ _ c1 (Heap.get?_push_of_some _ e))
  have tt : IsPair g8 g5.objs.size x y := s8.extBut _ _ (Nat.ne_of_gt zlt) (s7.extBut _ _ (Nat.ne_of_gt zlt) (Heap.get?_push_size _ rfl))
  rw [sz] at y8 tt
  refine wpAny_pure ⟨_, rfl, ?_⟩
  show Q (.ref g5.objs.size) _
  rw [sz]
  exact hQ g8 ⟨y8, up _ _ D.a1 (kk _ _ D.a1 D.a5 D.a6 D.a7 hTI), ⟨_, _, up _ _ D.a2 to5⟩, q1'.at fun o e => up _ o D.a3 e, q2'.at fun o e => up _ o D.a4 e⟩ tt fun c o c1 c2 c3 c4 e => up c o c1 (kk c o c1 c2 c3 c4 e)
theorem zip_end {k1 k2 : SK} {z TI TO i1 i2 l1 l2 : Addr} {i : Nat} {xs ys : Array Value} {Q : Fin → Shared → Prop} (hh : A.handled = none) (D : Ap z TI TO i1 i2) (O1 : Off l1 z TO i1 i2) (O2 : Off l2 z TO i1 i2)
    (Z : ZAt k1 k2 z TI TO i1 i2 l1 l2 .none i s.heap) (hl1 : SqAt k1 s.heap l1 xs) (hl2 : SqAt k2 s.heap l2 ys) (hend : xs[i]? = none ∨ ys[i]? = none)
    (hE : ∀ h' e, (∀ c o, c ≠ z → c ≠ TO → c ≠ i1 → c ≠ i2 → s.heap.get? c = some o → h'.get? c = some o) → (∃ o, h'.get? e = some o ∧ o.cls = .type "StopIteration") → E (.ref e) { s with heap := h' }) :
    wpAny (model prog w) A (Builtin.«zip.__next__» ⟨[.ref z], []⟩) Q E s := by
  obtain ⟨hz, hTI, ⟨a, b, hTO⟩, h1, h2⟩ := Z
  show wpAny _ _ (field (.ref z) 2 >>= _) _ _ _; refine wpAny_bind (wpAny_field hz rfl (x := .bool false) rfl ?_)
  show wpAny _ _ (field (.ref z) 3 >>= _) _ _ _; refine wpAny_bind (wpAny_field hz rfl (x := .ref TI) rfl ?_)
  refine wpAny_bind (wpAny_seqItems hTI rfl ?_); show wpAny _ _ (Builtin.SmallTypes.ownedTupleIsFree (.ref z) >>= _) _ _ _
  refine wpAny_bind ?_; unfold Builtin.SmallTypes.ownedTupleIsFree
  refine wpAny_bind (wpAny_field hz rfl (x := .none) rfl (wpAny_pure ?_)); simp only [if_true]
  refine wpAny_bind (wpAny_rule ?_); refine wpAny_bind (wpAny_field hz rfl (x := .ref TO) rfl ?_)
  refine wpAny_bind (wpAny_setField_rec hz (by simp) fun g1 y1 s1 => ?_); replace y1 : IsZip g1 z TI TO .ellipsis := y1
  refine wpAny_bind ?_; simp only [List.zipIdx_cons, List.zipIdx_nil, List.forIn_cons, List.forIn_nil]
  refine wpAny_bind (wpAny_bind (wpAny_onRaise ?_)); show wpAny _ _ (Builtin.SmallTypes.nextOf (.ref i1) >>= _) _ _ _
  have m1 := h1.at (h' := g1) fun o e => s1.extBut _ _ D.a3 e
  have n1 := hl1.at (h' := g1) fun o e => s1.extBut _ _ O1.b1 e
  cases hx : xs[i]? with
  | none =>
    refine wpAny_bind (next_end hh m1 n1 hx fun g2 e s2 he => ?_)
    obtain ⟨oe, hoe, hce⟩ := he
    have y2 : IsZip g2 z TI TO .ellipsis := s2 _ _ D.a3.symm y1
    have hez : e ≠ z := fun x => by subst x; rw [y2] at hoe; cases hoe; simp at hce
    exact wpAny_setField_rec y2 (by simp) fun g3 _ s3 => hE g3 e (fun c o c1 _ c3 _ x => s3.extBut _ _ c1 (s2 _ _ c3 (s1.extBut _ _ c1 x))) ⟨oe, s3.extBut _ _ hez hoe, hce⟩
  | some x =>
    have hy : ys[i]? = none := by
      rcases hend with h | h
      · rw [hx] at h; cases h
      · exact h
    refine wpAny_bind (next_item m1 n1 hx fun g2 q1 s2 => wpAny_pure ?_)
    have to2 : IsPair g2 TO a b := s2.extBut _ _ D.a8 (s1.extBut _ _ D.a2 hTO)
    refine wpAny_bind (wpAny_seqItems to2 rfl ?_); refine wpAny_bind (wpAny_updateSeq_pair to2 fun g3 to3 s3 => ?_)
    refine wpAny_bind (wpAny_letGo (wpAny_pure ?_)); refine wpAny_bind (wpAny_bind (wpAny_onRaise ?_))
    show wpAny _ _ (Builtin.SmallTypes.nextOf (.ref i2) >>= _) _ _ _
    refine wpAny_bind (next_end hh (h2.at fun o e => s3.extBut _ _ D.a9.symm (s2.extBut _ _ D.a10.symm (s1.extBut _ _ D.a4 e))) (hl2.at fun o e => s3.extBut _ _ O2.b2 (s2.extBut _ _ O2.b3 (s1.extBut _ _ O2.b1 e))) hy fun g4 e s4 he => ?_)
    obtain ⟨oe, hoe, hce⟩ := he
    have y4 : IsZip g4 z TI TO .ellipsis := s4 _ _ D.a4.symm (s3.extBut _ _ D.a2.symm (s2.extBut _ _ D.a3.symm y1))
    have hez : e ≠ z := fun x => by subst x; rw [y4] at hoe; cases hoe; simp at hce
    exact wpAny_setField_rec y4 (by simp) fun g5 _ s5 => hE g5 e (fun c o c1 c2 c3 c4 x => s5.extBut _ _ c1 (s4 _ _ c4 (s3.extBut _ _ c2 (s2.extBut _ _ c3 (s1.extBut _ _ c1 x))))) ⟨oe, s5.extBut _ _ hez hoe, hce⟩
theorem pyNext_item {k1 k2 : SK} {z TI TO i1 i2 l1 l2 : Addr} {i : Nat} {xs ys : Array Value} {x y : Value} {Q : Option Value → Shared → Prop} (D : Ap z TI TO i1 i2) (O1 : Off l1 z TO i1 i2) (O2 : Off l2 z TO i1 i2)
    (Z : ZAt k1 k2 z TI TO i1 i2 l1 l2 .none i s.heap) (hl1 : SqAt k1 s.heap l1 xs) (hl2 : SqAt k2 s.heap l2 ys) (hx : xs[i]? = some x) (hy : ys[i]? = some y)
    (hQ : ∀ h', ZAt k1 k2 z TI TO i1 i2 l1 l2 (rawInt s.heap.objs.size) (i + 1) h' → IsPair h' s.heap.objs.size x y → (∀ c o, c ≠ z → c ≠ TO → c ≠ i1 → c ≠ i2 → s.heap.get? c = some o → h'.get? c = some o) → Q (some (.ref s.heap.objs.size)) { s with heap := h' }) :
    wpAny (model prog w) A (pyNext (.ref z)) Q E s := by
  have hT : s.TypeIs (.ref z) "zip" := ⟨_, Z.zz, rfl⟩
  unfold pyNext
  exact wpAny_bind (wpAny_attempt (wpAny_callSpecial?_slot (name := Str.ofString "__next__") hT F.slot_zip_next (wpAny_call_entry F.slot_zip_next hT F.entry_zip_next (zip_item D O1 O2 Z hl1 hl2 hx hy fun h' a1 a2 a3 => wpAny_pure (hQ h' a1 a2 a3)) (F.args_zip_next_1 _))))
theorem pyNext_end {k1 k2 : SK} {z TI TO i1 i2 l1 l2 : Addr} {i : Nat} {xs ys : Array Value} {Q : Option Value → Shared → Prop} (hh : A.handled = none) (D : Ap z TI TO i1 i2) (O1 : Off l1 z TO i1 i2) (O2 : Off l2 z TO i1 i2)
    (Z : ZAt k1 k2 z TI TO i1 i2 l1 l2 .none i s.heap) (hl1 : SqAt k1 s.heap l1 xs) (hl2 : SqAt k2 s.heap l2 ys) (hend : xs[i]? = none ∨ ys[i]? = none)
    (hQ : ∀ h', (∀ c o, c ≠ z → c ≠ TO → c ≠ i1 → c ≠ i2 → s.heap.get? c = some o → h'.get? c = some o) → Q none { s with heap := h' }) : wpAny (model prog w) A (pyNext (.ref z)) Q E s := by
  have hT : s.TypeIs (.ref z) "zip" := ⟨_, Z.zz, rfl⟩
  unfold pyNext
  refine wpAny_bind (wpAny_attempt (wpAny_callSpecial?_slot (name := Str.ofString "__next__") hT F.slot_zip_next (wpAny_call_entry F.slot_zip_next hT F.entry_zip_next (zip_end hh D O1 O2 Z hl1 hl2 hend fun h' e hk he => ?_) (F.args_zip_next_1 _))))
  obtain ⟨o, ho, hc⟩ := he
  exact wpAny_bind (wpAny_isInstance (T := "StopIteration") (b := true) ⟨o, ho, hc⟩ isSubtype_stop (wpAny_pure (hQ _ hk)))
end
end Zt
end PySem

/-! ZipN -/
set_option Elab.async false
set_option linter.all false
set_option maxHeartbeats 4000000
namespace PySem
namespace Zt
def itObj (k : SK) (a : Addr) : Obj := match k with
  | .l => { cls := .type "list_iterator", data := .fields #[.ref a, .int 0 0] }
  | .t => { cls := .type "tuple_iterator", data := .fields #[.ref a, .int 0 0] }
theorem itObj_at {k : SK} {h : Heap} {it a : Addr} (e : h.get? it = some (itObj k a)) : ItAt k h it a 0 := by
  cases k <;> exact ⟨_, e, rfl, rfl⟩
theorem pyIter_sq {prog : Program} {w : World} {A : Around} {E : Value → Shared → Prop} {s : Shared} {k : SK} {a : Addr} {xs : Array Value} {Q : Value → Shared → Prop} (h : SqAt k s.heap a xs)
    (hQ : Q (.ref s.heap.objs.size) { s with heap := s.heap.push (itObj k a) }) : wpAny (model prog w) A (pyIter (.ref a)) Q E s := by
  cases k
  · exact wpAny_pyIter_list h hQ
  · exact wpAny_pyIter_tuple h hQ
abbrev g1 (k1 : SK) (h : Heap) (l1 : Addr) : Heap := h.push (itObj k1 l1)
abbrev g2 (k1 k2 : SK) (h : Heap) (l1 l2 : Addr) : Heap := (g1 k1 h l1).push (itObj k2 l2)
abbrev g3 (k1 k2 : SK) (h : Heap) (l1 l2 : Addr) : Heap := (g2 k1 k2 h l1 l2).push { cls := .type "tuple", data := .seq #[.ref h.objs.size, .ref (g1 k1 h l1).objs.size] }
abbrev g4 (k1 k2 : SK) (h : Heap) (l1 l2 : Addr) : Heap := (g3 k1 k2 h l1 l2).push { cls := .type "tuple", data := .seq #[.none, .none] }
abbrev g5 (k1 k2 : SK) (h : Heap) (l1 l2 : Addr) : Heap := (g4 k1 k2 h l1 l2).push { cls := .type "zip", data := .fields #[.none, .bool false, .bool false, .ref (g2 k1 k2 h l1 l2).objs.size, .ref (g3 k1 k2 h l1 l2).objs.size] }
theorem meets_new (k1 k2 : SK) (l1 l2 : Addr) (xs ys : Array Value) :
    Meets (Builtin.«zip.__new__» ⟨[.type "zip", .ref l1, .ref l2], []⟩) (fun _ R s => SqAt k1 s.heap l1 xs ∧ SqAt k2 s.heap l2 ys ∧ R (.ok (.ret (.ref (g4 k1 k2 s.heap l1 l2).objs.size))) { s with heap := g5 k1 k2 s.heap l1 l2 }) :=
  .of_wp fun prog w A R s h => by
    obtain ⟨hp, g, d, tk, os⟩ := s; obtain ⟨hl1, hl2, h⟩ := h
    have hsub := sub_zip
    have L1 : SqAt k1 (Shared.heap ⟨hp, g, d, tk, os⟩) l1 xs := hl1
    have L2 : SqAt k2 (Shared.heap ⟨hp.push (itObj k1 l1), g, d, tk, os⟩) l2 ys := hl2.at fun o e => Heap.get?_push_of_some _ e
    wp_walk using pyIter_sq L1, pyIter_sq L2
    exact ⟨_, rfl, h⟩
section
variable {prog : Program} {w : World} {A : Around} {E : Value → Shared → Prop} {s : Shared}
theorem call_zip {k1 k2 : SK} {l1 l2 : Addr} {xs ys : Array Value} {Q : Value → Shared → Prop} (hl1 : SqAt k1 s.heap l1 xs) (hl2 : SqAt k2 s.heap l2 ys)
    (h : ∀ h', ZAt k1 k2 (s.heap.objs.size + 4) (s.heap.objs.size + 2) (s.heap.objs.size + 3) s.heap.objs.size (s.heap.objs.size + 1) l1 l2 .none 0 h' → (∀ c o, s.heap.get? c = some o → h'.get? c = some o) → Q (.ref (s.heap.objs.size + 4)) { s with heap := h' }) :
    wpAny (model prog w) A (call (.type "zip") [.ref l1, .ref l2]) Q E s := by
  refine callType_new F.called_zip (by decide) (F.typeCall_zip_2 _ _) (F.newCall_zip_2 _ _) (fun obj => F.args_object_init_3 obj _ _) F.entry_zip_new (meets_new k1 k2 l1 l2 xs ys) ⟨hl1, hl2, ?_⟩
  have z1 : (g1 k1 s.heap l1).objs.size = s.heap.objs.size + 1 := Heap.size_push ..
  have z2 : (g2 k1 k2 s.heap l1 l2).objs.size = s.heap.objs.size + 2 := by rw [Heap.size_push, z1]
  have z3 : (g3 k1 k2 s.heap l1 l2).objs.size = s.heap.objs.size + 3 := by rw [Heap.size_push, z2]
  have z4 : (g4 k1 k2 s.heap l1 l2).objs.size = s.heap.objs.size + 4 := by rw [Heap.size_push, z3]
  have p : ∀ {h : Heap} {o o' : Obj} {b : Addr}, h.get? b = some o → (h.push o').get? b = some o := fun e => Heap.get?_push_of_some _ e
  have e5 : (g5 k1 k2 s.heap l1 l2).get? (g4 k1 k2 s.heap l1 l2).objs.size = some _ := Heap.get?_push_size _ rfl
  have e4 : (g5 k1 k2 s.heap l1 l2).get? (g3 k1 k2 s.heap l1 l2).objs.size = some _ := p (Heap.get?_push_size _ rfl)
  have e3 : (g5 k1 k2 s.heap l1 l2).get? (g2 k1 k2 s.heap l1 l2).objs.size = some _ := p (p (Heap.get?_push_size _ rfl))
  have e2 : (g5 k1 k2 s.heap l1 l2).get? (g1 k1 s.heap l1).objs.size = some (itObj k2 l2) := p (p (p (Heap.get?_push_size _ (by cases k2 <;> rfl))))
  have e1 : (g5 k1 k2 s.heap l1 l2).get? s.heap.objs.size = some (itObj k1 l1) := p (p (p (p (Heap.get?_push_size _ (by cases k1 <;> rfl)))))
  show _ ∧ _
  rw [z2, z3, z4] at e5
  rw [z1, z2] at e3
  rw [z3] at e4
  rw [z1] at e2
  rw [z4]
  exact ⟨⟨_, e5, rfl⟩, h _ ⟨e5, e3, ⟨_, _, e4⟩, itObj_at e1, itObj_at e2⟩ fun c o x => p (p (p (p (p x))))⟩
end
end Zt
end PySem

/-! BExt3 -/
set_option Elab.async false
set_option linter.all false
set_option maxRecDepth 100000
set_option maxHeartbeats 4000000
namespace L2
open PySem PySem.Spec PyProof.Rows PySem.Zt
def SqK (k : SK) (K : PySem.W.Frag) (H : Hp) (a : Addr) (xs : List V) : Prop := match k with
  | .l => SqL K H a xs
  | .t => SqT K H a xs
section
variable {X : Cx} {pins : List (Addr × Obj)} {σ : St} {H : Hp} {s : Shared} {a b : Addr} {xs ys : List V}
theorem Inv.seqK {k : SK} (I : Inv X pins σ H s) (h : SqK k X.K H a xs) : ∃ its : List Value, Vals xs its ∧ SqAt k s.heap a its.toArray ∧ xs.length ≤ sizeLine := by
  cases k
  · obtain ⟨its, r, p, z⟩ := I.list h
    exact ⟨its, r, p.isList, z⟩
  · obtain ⟨its, r, p, z⟩ := I.tuple h
    exact ⟨its, r, p, z⟩
theorem Inv.seqK_inj {k : SK} (I : Inv X pins σ H s) (h : SqK k X.K H a xs) (h' : SqK k X.K H a ys) : xs = ys := by
  cases k
  · exact I.list_inj h h'
  · exact I.tuple_inj h h'
theorem Inv.off {k : SK} (I : Inv X pins σ H s) (h : SqK k X.K H a xs) (f : FpOk X pins H b) : a ≠ b := by
  rintro rfl
  have own : ∀ o, X.K.lookup a = some o → False := fun o e => by
    have e' := I.ok.mod.kin a o e
    rcases f.2.2.2.1 with z | z
    · exact I.ok.noex a o e' z
    · exact absurd (Nat.lt_of_lt_of_le (Nat.lt_of_lt_of_le (Heap.lt_size e') I.ok.bsz) z) (Nat.lt_irrefl _)
  cases k
  · rcases h with (h | ⟨o, h⟩) | ⟨o, _, _, h, _⟩
    · rw [f.1] at h; cases h
    · rw [f.1] at h; cases h
    · exact own o h
  · rcases h with (h | ⟨o, h⟩) | ⟨o, _, _, h, _⟩
    · rw [f.1] at h; cases h
    · rw [f.1] at h; cases h
    · exact own o h
theorem Inv.turnedLaid {h' : Heap} {t' : Nat} {ch : List Addr} {T : Addr} {o : HO} (I : Inv X pins σ H s) (hf : ∀ b ∈ ch, FpOk X pins H b) (k : ∀ b u, b ∉ ch → s.heap.get? b = some u → h'.get? b = some u) (hT : s.heap.objs.size ≤ T)
    (new : ObjOk X.prog X.w (upd H T o) h' T o) : Inv X pins σ (upd H T o) { s with heap := h', toks := t' } := by
  have hn : H T = none := I.hok.fresh hT
  have nch : ∀ b u, H b = some u → b ∉ ch := fun b u e hb => by rw [(hf b hb).1] at e; cases e
  have neT : ∀ b u, s.heap.get? b = some u → b ≠ T := fun b u e => Nat.ne_of_lt (Nat.lt_of_lt_of_le (Heap.lt_size e) hT)
  refine I.step (g' := s.gens) (d' := s.drawn) (ch := ch) (fun b hb => ?_) (fun b u _ _ hc e _ => k b u hc e) (fun b u _ _ hc e _ => ⟨u.slots, k b u hc e⟩) (fun b u _ e n => ?_) (fun b u hc e => ⟨u, k b u hc e⟩)
    (fun b zs e => ?_) (fun b ob u e => ?_) (fun b ps e => ⟨#[], ?_⟩) (fun m hm => ?_) (fun b u e => ?_) I.bare
  · exact ⟨(hf b hb).2.2.2.1, (hf b hb).2.1, (hf b hb).2.2.2.2.1, (hf b hb).2.2.2.2.2⟩
  · rw [upd_ne (neT b u e)]; exact n
  · rw [upd_ne (ne_of_none e hn)]; exact e
  · rw [upd_ne (ne_of_none e hn)]; exact e
  · rw [upd_ne (ne_of_none e hn), e]; simp
  · obtain ⟨ob, es, ep, ho, r⟩ := hm
    exact ⟨ob, es, ep, k _ ob (fun hb => (hf _ hb).2.1 rfl) ho, r⟩
  · by_cases hb : b = T
    · subst hb
      rw [upd_same] at e
      cases e
      exact new
    · rw [upd_ne hb] at e
      refine (I.hok b u e).stay (fun c v hc q => k c v ?_ q) (fun c q => by rw [upd_ne (ne_of_none q hn)]; exact q) fun c zs q => by rw [upd_ne (ne_of_none q hn)]; exact q
      rcases hc with z | z
      · rw [z]; exact nch b u e
      · exact nch c _ z
theorem Inv.turnedL {h' : Heap} {t' : Nat} {ch : List Addr} (I : Inv X pins σ H s) (hf : ∀ b ∈ ch, FpOk X pins H b) (k : ∀ b u, b ∉ ch → s.heap.get? b = some u → h'.get? b = some u) : Inv X pins σ H { s with heap := h', toks := t' } := by
  have nch : ∀ b u, H b = some u → b ∉ ch := fun b u e hb => by rw [(hf b hb).1] at e; cases e
  refine I.step (g' := s.gens) (d' := s.drawn) (ch := ch) (fun b hb => ?_) (fun b u _ _ hc e _ => k b u hc e) (fun b u _ _ hc e _ => ⟨u.slots, k b u hc e⟩) (fun b u _ e n => n) (fun b u hc e => ⟨u, k b u hc e⟩)
    (fun b zs e => e) (fun b ob u e => e) (fun b ps e => ⟨#[], by rw [e]; simp⟩) (fun m hm => ?_) (fun b u e => ?_) I.bare
  · exact ⟨(hf b hb).2.2.2.1, (hf b hb).2.1, (hf b hb).2.2.2.2.1, (hf b hb).2.2.2.2.2⟩
  · obtain ⟨ob, es, ep, ho, r⟩ := hm
    exact ⟨ob, es, ep, k _ ob (fun hb => (hf _ hb).2.1 rfl) ho, r⟩
  · refine (I.hok b u e).stay (fun c v hc q => k c v ?_ q) (fun _ q => q) fun _ _ q => q
    rcases hc with z | z
    · rw [z]; exact nch b u e
    · exact nch c _ z
end
def Itz (k1 k2 : SK) (K : PySem.W.Frag) (a b : Addr) : It :=
  ⟨fun i H => ∃ xs ys x y, SqK k1 K H a xs ∧ SqK k2 K H b ys ∧ xs[i]? = some x ∧ ys[i]? = some y,
   fun i H v H' => ∃ p, H p = none ∧ v = .ref p ∧ ∀ xs ys x y, SqK k1 K H a xs → SqK k2 K H b ys → xs[i]? = some x → ys[i]? = some y → H' = upd H p (.tup [x, y]),
   fun i H => ∃ xs ys, SqK k1 K H a xs ∧ SqK k2 K H b ys ∧ (xs.length ≤ i ∨ ys.length ≤ i)⟩
theorem turn_zip {P : Program} {w : World} {K : PySem.W.Frag} {es : List Expr} {n : Nat} {tp : Pos} {k1 k2 : SK} {z TI TO i1 i2 : Addr} (a b : Addr) (D : Ap z TI TO i1 i2) :
    Turn P w K (.Tuple es n tp) (Itz k1 k2 K a b) [z, TI, TO, i1, i2] z (fun i h => ZAt k1 k2 z TI TO i1 i2 a b .none i h) where
  mem := by simp
  obj := fun i h st c hc => by
    obtain ⟨q1, q2, ⟨u, v, q3⟩, q4, q5⟩ := st
    have hc' : c = z ∨ c = TI ∨ c = TO ∨ c = i1 ∨ c = i2 := by simpa using hc
    rcases hc' with rfl | rfl | rfl | rfl | rfl
    · exact ⟨_, q1, fun v z => by
        have z' : Data.fields _ = Data.cell v := z
        cases z'⟩
    · exact ⟨_, q2, fun v z => by
        have z' : Data.seq _ _ = Data.cell v := z
        cases z'⟩
    · exact ⟨_, q3, fun v z => by
        have z' : Data.seq _ _ = Data.cell v := z
        cases z'⟩
    · exact q4.obj
    · exact q5.obj
  keep := fun i h h' st k => st.keep k
  item := by
    intro X hP hw hK hc i pins s σ H E I hf st hg
    subst hP hw hK
    obtain ⟨xs, ys, x, y, ha, hb, hx, hy⟩ := hg
    obtain ⟨its1, r1, p1, _⟩ := I.seqK ha
    obtain ⟨its2, r2, p2, _⟩ := I.seqK hb
    obtain ⟨u1, e1, q1⟩ := r1.get hx
    obtain ⟨u2, e2, q2⟩ := r2.get hy
    have fz := hf z (by simp)
    have fo := hf TO (by simp)
    have f1 := hf i1 (by simp)
    have f2 := hf i2 (by simp)
    refine pyNext_item D ⟨I.off ha fz, I.off ha fo, I.off ha f1, I.off ha f2⟩ ⟨I.off hb fz, I.off hb fo, I.off hb f1, I.off hb f2⟩ st p1 p2 (by simpa using e1) (by simpa using e2) fun h1 Z1 T1 kk => ?_
    refine ⟨_, rfl, wpAny_letOwnedTupleGo_zip Z1.zz fun h2 z2 sb => ?_⟩
    have tz : s.heap.objs.size ≠ z := fun q => by
      have := Heap.lt_size st.zz
      rw [← q] at this
      exact Nat.lt_irrefl _ this
    have T2 : IsPair h2 s.heap.objs.size u1 u2 := sb.extBut _ _ tz T1
    have k2 : ∀ c o, c ∉ [z, TO, i1, i2] → s.heap.get? c = some o → h2.get? c = some o := fun c o hc e => by
      simp only [List.mem_cons, List.not_mem_nil, or_false, not_or] at hc
      exact sb.extBut c o hc.1 (kk c o hc.1 hc.2.1 hc.2.2.1 hc.2.2.2 e)
    have hn : H s.heap.objs.size = none := I.fresh
    refine ⟨.ref s.heap.objs.size, upd H s.heap.objs.size (.tup [x, y]), I.turnedLaid (t' := s.toks) (ch := [z, TO, i1, i2]) (fun c hc => hf c ?_) k2 (Nat.le_refl _) ?_, rfl, ⟨_, hn, rfl, fun xs' ys' x' y' ha' hb' hx' hy' => ?_⟩, ?_, fun c hc => ?_⟩
    · simp only [List.mem_cons, List.not_mem_nil, or_false] at hc ⊢
      rcases hc with q | q | q | q <;> simp [q]
    · exact ⟨by show 2 ≤ sizeLine; decide, [u1, u2], .cons q1 (.cons q2 .nil), ⟨_, T2, rfl, _, rfl⟩⟩
    · have := I.seqK_inj ha ha'
      subst this
      have := I.seqK_inj hb hb'
      subst this
      rw [hx] at hx'
      cases hx'
      rw [hy] at hy'
      cases hy'
      rfl
    · obtain ⟨_, q2, ⟨u, v, q3⟩, q4, q5⟩ := Z1
      exact ⟨z2, sb.extBut _ _ D.a1 q2, ⟨u, v, sb.extBut _ _ D.a2 q3⟩, q4.at fun o e => sb.extBut _ _ D.a3 e, q5.at fun o e => sb.extBut _ _ D.a4 e⟩
    · obtain ⟨q1, q2, ⟨u, v, q3⟩, q4, q5⟩ := st
      have lt : ∀ {c o}, s.heap.get? c = some o → c ≠ s.heap.objs.size := fun e => Nat.ne_of_lt (Heap.lt_size e)
      have hne : c ≠ s.heap.objs.size := by
        have hc' : c = z ∨ c = TI ∨ c = TO ∨ c = i1 ∨ c = i2 := by simpa using hc
        rcases hc' with rfl | rfl | rfl | rfl | rfl
        · exact lt q1
        · exact lt q2
        · exact lt q3
        · obtain ⟨o, e, _⟩ := q4.obj
          exact lt e
        · obtain ⟨o, e, _⟩ := q5.obj
          exact lt e
      rw [upd_ne hne]
      exact (hf c hc).1
  done := by
    intro X hP hw hK hc i pins s σ H E I hf st hg
    subst hP hw hK
    obtain ⟨xs, ys, ha, hb, hend⟩ := hg
    obtain ⟨its1, r1, p1, _⟩ := I.seqK ha
    obtain ⟨its2, r2, p2, _⟩ := I.seqK hb
    have l1 := r1.length
    have l2 := r2.length
    have fz := hf z (by simp)
    have fo := hf TO (by simp)
    have f1 := hf i1 (by simp)
    have f2 := hf i2 (by simp)
    refine pyNext_end (I.ok.hd hc) D ⟨I.off ha fz, I.off ha fo, I.off ha f1, I.off ha f2⟩ ⟨I.off hb fz, I.off hb fo, I.off hb f1, I.off hb f2⟩ st p1 p2 ?_ fun h' kk => ⟨rfl, I.turnedL (t' := s.toks) (ch := [z, TO, i1, i2]) (fun c hc => hf c ?_) fun c o hc e => ?_⟩
    · rcases hend with q | q
      · left; simp; omega
      · right; simp; omega
    · simp only [List.mem_cons, List.not_mem_nil, or_false] at hc ⊢
      rcases hc with q | q | q | q <;> simp [q]
    · simp only [List.mem_cons, List.not_mem_nil, or_false, not_or] at hc
      exact kk c o hc.1 hc.2.1 hc.2.2.1 hc.2.2.2 e
  self := fun _ _ _ _ _ st h => wpAny_pyIter_zip st.zz h
theorem ap_new (n : Nat) : Ap (n + 4) (n + 2) (n + 3) n (n + 1) :=
  ⟨Nat.ne_of_lt (by omega), Nat.ne_of_lt (by omega), Nat.ne_of_lt (by omega), Nat.ne_of_lt (by omega), Nat.ne_of_lt (by omega), Nat.ne_of_gt (by omega), Nat.ne_of_gt (by omega), Nat.ne_of_gt (by omega), Nat.ne_of_gt (by omega), Nat.ne_of_lt (by omega)⟩
theorem pe_cls {X : Cx} {x : Str} {C : Addr} {pos : Pos} (hm : X.mg x = some (.ref C)) (hg : Gl X x := by rfl) (hd : (x == ("__debug__" : Str)) = false := by decide) : PE X (.Name x pos) (tC (.ref C)) := pe_glob hg hm rfl hd
theorem pe_bty {X : Cx} {x : Str} {n : String} {pos : Pos} (hm : X.mg x = none) (hv : bootBuiltins x = some (.type n)) (hg : Gl X x := by rfl) (hn : x ≠ "__name__" := by decide) (hd : (x == ("__debug__" : Str)) = false := by decide) : PE X (.Name x pos) (tC (.ty n)) := pe_bltn hg hm hv rfl hn hd
def iZip (K : PySem.W.Frag) (ta : TA) : TI := fun σ H R => ta σ H fun vs H1 => ∃ k1 k2 a b xs ys, vs = [V.ref a, V.ref b] ∧ SqK k1 K H1 a xs ∧ SqK k2 K H1 b ys ∧ R (Itz k1 k2 K a b) H1
theorem bt_len : bootBuiltins "len" = some (.builtin "len") := by decide +kernel
theorem bt_int : bootBuiltins "int" = some (.type "int") := by decide +kernel
theorem bt_max : bootBuiltins "max" = some (.builtin "max") := by decide +kernel
theorem bt_isinstance : bootBuiltins "isinstance" = some (.builtin "isinstance") := by decide +kernel
theorem bt_abs : bootBuiltins "abs" = some (.builtin "abs") := by decide +kernel
theorem bt_str : bootBuiltins "str" = some (.type "str") := by decide +kernel
theorem bt_sum : bootBuiltins "sum" = some (.builtin "sum") := by decide +kernel
theorem bt_bool : bootBuiltins "bool" = some (.type "bool") := by decide +kernel
theorem bt_tuple : bootBuiltins "tuple" = some (.type "tuple") := by decide +kernel
theorem b01 (k : Bool) : -(2 ^ 64) < (if k = true then (1 : Int) else 0) ∧ (if k = true then (1 : Int) else 0) < 2 ^ 64 := by cases k <;> decide
theorem boot_zip : bootBuiltins "zip" = some (.type "zip") := by decide +kernel
theorem pi_zip {X : Cx} {es : List Expr} {n : Nat} {tp : Pos} {a b : Expr} {ta : TA} {p pos : Pos} (hg : Gl X "zip") (hm : X.mg "zip" = none) (ha : PA X [a, b] ta) (hs : starEach [a, b] X.env = [(false, eval a X.env), (false, eval b X.env)] := by rfl) (hs2 : starEach [b] X.env = [(false, eval b X.env)] := by rfl) :
    PI X (.Tuple es n tp) (.Call (.Name "zip" p) [a, b] [] pos) (iZip X.K ta) := by
  intro pins s σ H R I h
  refine Call_ (ld_blt I hg hm boot_zip (PyProof.Rows.callWith_type1 (thn (ha pos pins s σ H _ I h) fun us s1 ⟨vs, H1, I1, r1, q1⟩ => ?_) (by rw [hs, hs2]) (by rw [hs2]; rfl)))
  obtain ⟨k1, k2, a', b', xs, ys, e, h1, h2, q⟩ := q1
  subst e
  obtain ⟨u, v, rfl, ru, rv⟩ := r1.two
  cases ru
  cases rv
  obtain ⟨its1, x1, p1, _⟩ := I1.seqK h1
  obtain ⟨its2, x2, p2, _⟩ := I1.seqK h2
  refine call_zip p1 p2 fun h' Z kk => wpAny_pyIter_zip Z.zz ?_
  have fp : ∀ c ∈ [s1.heap.objs.size + 4, s1.heap.objs.size + 2, s1.heap.objs.size + 3, s1.heap.objs.size, s1.heap.objs.size + 1], FpOk X pins H1 c := fun c hc => by
    have hle : s1.heap.objs.size ≤ c := by
      simp only [List.mem_cons, List.not_mem_nil, or_false] at hc
      rcases hc with q | q | q | q | q <;> rw [q] <;> omega
    exact I1.fpOk hle (I1.hok.fresh hle)
  refine ⟨_, _, _, _, H1, rfl, I1.kept (t' := s1.toks) kk, turn_zip a' b' (ap_new _), Z, fp, q⟩
end L2

/-! BExt4 -/
set_option Elab.async false
set_option linter.all false
set_option maxRecDepth 100000
set_option maxHeartbeats 4000000
namespace L2
open PySem PySem.Spec PyProof.Rows
theorem getD_at {ns : List Int} {i : Nat} (h : i < ns.length) : ns.getD i 0 = ns[i] := by simp [List.getD, h]
theorem vals_at {ns : List Int} {its : List Value} (r : Vals (ns.map V.int) its) {i : Nat} {v : Value} (e : its.toArray[i]? = some v) : ∃ t, v = .int (ns.getD i 0) t := by
  have e' : its[i]? = some v := by simpa using e
  have hi : i < its.length := (List.getElem?_eq_some_iff.mp e').1
  have hl := r.length
  rw [List.length_map] at hl
  have hb : i < ns.length := by omega
  obtain ⟨u, e2, ru⟩ := r.get (i := i) (x := V.int ns[i]) (by simp [hb])
  rw [e'] at e2
  cases e2
  obtain ⟨t, rfl⟩ := ru
  exact ⟨t, by rw [getD_at hb]⟩
theorem best_gt (val : Nat → Int) : ∀ k, argBest (fun i j => decide (val i > val j)) k ≤ k ∧ ∀ j, j ≤ k → val j ≤ val (argBest (fun i j => decide (val i > val j)) k)
  | 0 => ⟨Nat.le_refl _, fun j hj => by rw [Nat.le_zero.mp hj]; exact Int.le_refl _⟩
  | k + 1 => by
    obtain ⟨h1, h2⟩ := best_gt val k
    show (if decide (val (k + 1) > val (argBest _ k)) = true then k + 1 else argBest _ k) ≤ k + 1 ∧ ∀ j, j ≤ k + 1 → val j ≤ val (if decide (val (k + 1) > val (argBest _ k)) = true then k + 1 else argBest _ k)
    by_cases q : val (k + 1) > val (argBest (fun i j => decide (val i > val j)) k)
    · rw [if_pos (decide_eq_true q)]
      refine ⟨Nat.le_refl _, fun j hj => ?_⟩
      by_cases e : j = k + 1
      · rw [e]; exact Int.le_refl _
      · have := h2 j (by omega)
        omega
    · rw [if_neg (fun z => q (of_decide_eq_true z))]
      refine ⟨Nat.le_succ_of_le h1, fun j hj => ?_⟩
      by_cases e : j = k + 1
      · rw [e]; omega
      · exact h2 j (by omega)
section
variable {P : Program} {w : World} {A : Around} {R : Result → Shared → Prop} {I S : Addr} {fp wr : List Addr} {n : Nat} {Is : Nat → Value → Prop} {St : Nat → Heap → Prop} {kw : List (Str × Value)}
end
theorem pre_take (ns : List Int) : ∀ k, preSum (fun i => ns.getD i 0) k = (ns.take k).sum
  | 0 => by simp [preSum]
  | k + 1 => by
    show preSum _ k + ns.getD k 0 = _
    rw [pre_take ns k, List.take_add_one]
    cases q : ns[k]? with
    | none => simp [List.getD, q]
    | some x => simp [List.getD, q]
def rSumI (K : PySem.W.Frag) : List V → Hp → VK → Prop := fun xs H Q => ∃ (a : Addr) (ns : List Int), xs = [V.ref a] ∧ SqL K H a (ns.map V.int) ∧ Q (.int ns.sum) H
section
variable {X : Cx}
theorem call_sumI (hc : X.calm = true) : CallR X (.builtin "sum") (rSumI X.K) := by
  intro pins s σ H xs us Q I r h
  obtain ⟨a, ns, rfl, ha, q⟩ := h
  obtain ⟨u, rfl, ru⟩ := r.one
  cases ru
  obtain ⟨its, rv, p, hz⟩ := I.list ha
  have lt : a < s.heap.objs.size := by
    obtain ⟨_, e, _⟩ := p.isList
    exact Heap.lt_size e
  refine call_sum_walkAnyS (wpAny_pyIter_list p.isList ?_)
  refine ⟨s.heap.objs.size, _, _, _, _, _, _, fun i => ns.getD i 0, rfl, (Walks.list (A := X.A.in1) (show X.A.in1.handled = none from I.ok.hd hc) s.heap.objs.size a (Nat.ne_of_lt lt) its.toArray).toS, ⟨⟨_, Heap.get?_push_size _ rfl, rfl, rfl⟩, p.isList.push _⟩, fun b hb => ?_, fun i v hv => vals_at rv hv, fun s' t' hm => ?_⟩
  · show b < (s.heap.push _).objs.size
    rw [Heap.size_push]
    have z : b = s.heap.objs.size ∨ b = a := by simpa using hb
    rcases z with z | z
    · rw [z]; exact Nat.lt_succ_self _
    · rw [z]; exact Nat.lt_succ_of_lt lt
  · obtain ⟨h', g', d', tk', os'⟩ := s'
    have e1 : g' = s.gens := hm.gens
    have e2 : d' = s.drawn := hm.drawn
    have e3 : os' = s.os := hm.os
    subst e1 e2 e3
    have hl := rv.length
    rw [List.length_map] at hl
    rw [pre_take, List.size_toArray, ← hl, List.take_length]
    exact ⟨.int _, H, I.kept (t' := tk') fun b o e => hm.heap b o (fun z => by
      rw [List.mem_singleton.mp z] at e
      exact Nat.lt_irrefl _ (Heap.lt_size e)) (Heap.get?_push_of_some _ e), ⟨_, rfl⟩, q⟩
end
end L2

/-! BExt5 -/
set_option Elab.async false
set_option linter.all false
set_option maxRecDepth 100000
set_option maxHeartbeats 4000000
namespace L2
open PySem PySem.Spec PyProof.Rows
section
variable {P : Program} {w : World} {A : Around} {E : Value → Shared → Prop}
end
end L2

/-! Em -/
set_option Elab.async false
set_option linter.all false
set_option maxRecDepth 100000
set_option maxHeartbeats 4000000
namespace K04
open PySem L2
inductive Ex where
  | num (i : Int)
  | name (x : Str)
  | two (w : Str) (e f : Ex)
  | mod (e : Ex) (n : Int)
  | less (e f g h : Ex)
def Ex.dep : Ex → Nat
  | .num _ => 1
  | .name _ => 1
  | .two _ e f => max e.dep f.dep + 1
  | .mod e _ => e.dep + 1
  | .less e f g h => max (max e.dep f.dep) (max g.dep h.dep) + 1
theorem Ex.dep_pos : ∀ e : Ex, 1 ≤ e.dep
  | .num _ => Nat.le_refl _
  | .name _ => Nat.le_refl _
  | .two _ _ _ => Nat.le_add_left _ _
  | .mod _ _ => Nat.le_add_left _ _
  | .less _ _ _ _ => Nat.le_add_left _ _
abbrev TwoW (w : Str) : Prop := w = "add" ∨ w = "sub" ∨ w = "min" ∨ w = "max"
def Ex.ok (names : List Str) : Ex → Prop
  | .num i => -100000000000000000000 < i ∧ i < 100000000000000000000
  | .name x => x ∈ names
  | .two w e f => TwoW w ∧ e.ok names ∧ f.ok names
  | .mod e n => (1 ≤ n ∧ n ≤ 1000000000) ∧ e.ok names
  | .less e f g h => e.ok names ∧ f.ok names ∧ g.ok names ∧ h.ok names
def Ext (l : Addr) (H H' : Hp) : Prop := ∀ b o, H b = some o → b ≠ l → H' b = some o
theorem Ext.refl {l : Addr} {H : Hp} : Ext l H H := fun _ _ e _ => e
theorem Ext.trans {l : Addr} {H H1 H2 : Hp} (a : Ext l H H1) (b : Ext l H1 H2) : Ext l H H2 := fun c o e n => b c o (a c o e n) n
theorem Ext.same {l : Addr} {H H' : Hp} (a : Same H H') : Ext l H H' := fun c o e _ => a c o e
theorem Ext.new {l p : Addr} {H : Hp} {o : HO} (h : H p = none) : Ext l H (upd H p o) := fun c u e _ => by rw [upd_ne (ne_of_none e h)]; exact e
theorem Ext.at {l : Addr} {H : Hp} {o : HO} : Ext l H (upd H l o) := fun c u e n => by rw [upd_ne n]; exact e
theorem Same.new {p : Addr} {H : Hp} {o : HO} (h : H p = none) : Same H (upd H p o) := fun c u e => by rw [upd_ne (ne_of_none e h)]; exact e
def StOk (st : List V) : Prop := (∃ a : Int, st = [V.int a]) ∨ ∃ a b c : Int, st = [V.int a, V.int b, V.int c]
def StAt (H : Hp) (l : Addr) : Prop := ∃ st, H l = some (.lst st) ∧ StOk st
theorem StAt.new {H : Hp} {l p : Addr} {o : HO} (s : StAt H l) (h : H p = none) : StAt (upd H p o) l := by
  obtain ⟨st, e, k⟩ := s
  exact ⟨st, by rw [upd_ne (ne_of_none e h)]; exact e, k⟩
theorem StAt.same {H H' : Hp} {l : Addr} (s : StAt H l) (h : Same H H') : StAt H' l := by
  obtain ⟨st, e, k⟩ := s
  exact ⟨st, h _ _ e, k⟩
def Told (H : Hp) : Ex → V → Prop
  | .num i, v => ∃ p, v = .ref p ∧ H p = some (.tup [.str "num", .int i])
  | .name x, v => ∃ p, v = .ref p ∧ H p = some (.tup [.str "name", .str x])
  | .two w e f, v => ∃ p a b, v = .ref p ∧ H p = some (.tup [.str w, a, b]) ∧ Told H e a ∧ Told H f b
  | .mod e n, v => ∃ p a, v = .ref p ∧ H p = some (.tup [.str "mod", a, .int n]) ∧ Told H e a
  | .less e f g h, v => ∃ p a b c d, v = .ref p ∧ H p = some (.tup [.str "less", a, b, c, d]) ∧ Told H e a ∧ Told H f b ∧ Told H g c ∧ Told H h d
theorem Told.mono {H H' : Hp} (k : ∀ b xs, H b = some (.tup xs) → H' b = some (.tup xs)) : ∀ {e : Ex} {v : V}, Told H e v → Told H' e v
  | .num _, _, ⟨p, e, h⟩ => ⟨p, e, k _ _ h⟩
  | .name _, _, ⟨p, e, h⟩ => ⟨p, e, k _ _ h⟩
  | .two _ _ _, _, ⟨p, a, b, e, h, t1, t2⟩ => ⟨p, a, b, e, k _ _ h, t1.mono k, t2.mono k⟩
  | .mod _ _, _, ⟨p, a, e, h, t1⟩ => ⟨p, a, e, k _ _ h, t1.mono k⟩
  | .less _ _ _ _, _, ⟨p, a, b, c, d, e, h, t1, t2, t3, t4⟩ => ⟨p, a, b, c, d, e, k _ _ h, t1.mono k, t2.mono k, t3.mono k, t4.mono k⟩
theorem Told.ext {l : Addr} {H H' : Hp} (s : StAt H l) (k : Ext l H H') {e : Ex} {v : V} (t : Told H e v) : Told H' e v := t.mono fun b xs h => k b _ h fun z => by
  obtain ⟨st, q, _⟩ := s
  rw [z, q] at h
  cases h
theorem Told.same {H H' : Hp} (k : Same H H') {e : Ex} {v : V} (t : Told H e v) : Told H' e v := t.mono fun b xs h => k b _ h
theorem Told.ref {H : Hp} : ∀ {e : Ex} {v : V}, Told H e v → ∃ p xs, v = .ref p ∧ H p = some (.tup xs)
  | .num _, _, ⟨p, e, h⟩ => ⟨p, _, e, h⟩
  | .name _, _, ⟨p, e, h⟩ => ⟨p, _, e, h⟩
  | .two _ _ _, _, ⟨p, a, b, e, h, _⟩ => ⟨p, _, e, h⟩
  | .mod _ _, _, ⟨p, a, e, h, _⟩ => ⟨p, _, e, h⟩
  | .less _ _ _ _, _, ⟨p, a, b, c, d, e, h, _⟩ => ⟨p, _, e, h⟩
theorem eqV_refl {x : V} (h : flatV x = true) : eqV x x = true := by
  cases x <;> simp [flatV] at h <;> simp [eqV]
theorem Same.made {H : Hp} {x dx C : Addr} {fs fs' : List (Str × V)} (nx : H x = none) (ndx : H dx = none) : Same H (upd (upd (upd H dx (.own x)) x (.ins C dx fs')) x (.ins C dx fs)) := fun b o e => by
  rw [upd_ne (ne_of_none e nx), upd_ne (ne_of_none e nx), upd_ne (ne_of_none e ndx)]
  exact e
theorem log_lt {n : Int} {m : Nat} (h1 : 0 < n) (h2 : n.natAbs < 2 ^ m) (h3 : m ≤ 9000) : n.natAbs.log2 < 9000 := by
  have h0 : n.natAbs ≠ 0 := by omega
  have := (Nat.log2_lt h0 (k := m)).mpr h2
  omega
theorem pow20 : (10 : Int) ^ (20 : Int).toNat = 100000000000000000000 := by decide
theorem pow9 : (10 : Int) ^ (9 : Int).toNat = 1000000000 := by decide
theorem StAt.ne {H : Hp} {l p : Addr} (s : StAt H l) (h : H p = none) : p ≠ l := by
  obtain ⟨st, e, _⟩ := s
  exact (ne_of_none e h).symm
theorem gn_if {i : Nat} {v : V} {τ : St} {H : Hp} {A B : St → Hp → Prop} (h : A (τ.set i (some v)) H) : gName i v τ H fun τ2 H4 => tYes τ2 H4 fun b H5 => if b = true then A τ2 H5 else B τ2 H5 := by
  show if true = true then A (τ.set i (some v)) H else B (τ.set i (some v)) H
  exact iteT h
theorem Told.updL {H : Hp} {D : Addr} {zs : List V} {o : HO} (hD : H D = some (.lst zs)) {e : Ex} {v : V} (t : Told H e v) : Told (upd H D o) e v := t.mono fun b xs h => by
  have hb : b ≠ D := ne_of h hD (by intro z; cases z)
  rw [upd_ne hb]
  exact h
theorem cut_ints {ns : List Int} {lo hi : Option Int} {i : Nat} {y : V} (h : (cutV (ns.map V.int) lo hi)[i]? = some y) : ∃ c, y = .int c := by
  have hm := List.mem_of_getElem? h
  unfold cutV at hm
  obtain ⟨c, _, e⟩ := List.mem_map.mp (List.mem_of_mem_drop (List.mem_of_mem_take hm))
  exact ⟨c, e.symm⟩
theorem log_1009 : ((1009 : Int).natAbs.log2 < 9000) := by decide
theorem log_2003 : ((2003 : Int).natAbs.log2 < 9000) := by decide
end K04

/-! Gm -/
set_option Elab.async false
set_option linter.all false
set_option maxRecDepth 100000
set_option maxHeartbeats 4000000
namespace K04
open PySem L2
def isIB : V → Bool
  | .int _ => true
  | .bl _ => true
  | _ => false
def isBl : V → Bool
  | .bl _ => true
  | _ => false
def isSt : V → Bool
  | .str _ => true
  | _ => false
def Lf (K : PySem.W.Frag) (H : Hp) (v : V) : Prop := ∃ t, TyOf K H v t ∧ PySem.W.kitOne K t (.type "int") = some (isIB v) ∧ PySem.W.kitOne K t (.type "bool") = some (isBl v) ∧ PySem.W.kitOne K t (.type "str") = some (isSt v)
def whole : V → Bool
  | .int _ => true
  | _ => false
def shortN : V → Bool
  | .int i => decide ((if i < 0 then -i else i) < 100000000000000000000)
  | _ => false
def wordIn (ws : List Str) : V → Bool
  | .str x => inV (.str x) (ws.map V.str)
  | _ => false
def divr : V → Bool
  | .int i => decide (1 ≤ i) && decide (i ≤ 1000000000)
  | _ => false
theorem whole_eq (v : V) : whole v = (isIB v && !isBl v) := by cases v <;> rfl
theorem whole_int {v : V} (h : whole v = true) : ∃ i, v = .int i := by
  cases v <;> simp [whole] at h
  exact ⟨_, rfl⟩
theorem isSt_str {v : V} (h : isSt v = true) : ∃ x, v = .str x := by
  cases v <;> simp [isSt] at h
  exact ⟨_, rfl⟩
theorem inV_str {x : Str} : ∀ {ws : List Str}, inV (.str x) (ws.map V.str) = true ↔ x ∈ ws
  | [] => by simp [inV]
  | w :: ws => by
    have ih := inV_str (x := x) (ws := ws)
    unfold inV at ih ⊢
    rw [List.map_cons, List.any_cons, Bool.or_eq_true, List.mem_cons, ih]
    constructor
    · rintro (h | h)
      · left
        have : V.str w = V.str x := by simpa [eqV] using h
        cases this
        rfl
      · exact .inr h
    · rintro (h | h)
      · left
        subst h
        exact eqV_refl rfl
      · exact .inr h
theorem flat_strs (ws : List Str) : (ws.map V.str).all flatV = true := by
  rw [List.all_eq_true]
  intro v hv
  obtain ⟨x, _, rfl⟩ := List.mem_map.mp hv
  rfl
inductive Gx where
  | num (v : V)
  | name (v : V)
  | two (w : V) (e f : Gx)
  | mod (e : Gx) (n : V)
  | less (e f g h : Gx)
  | oth (v : V)
abbrev twoWs : List Str := ["add", "sub", "min", "max"]
def Gx.sound (names : List Str) : Nat → Gx → Bool
  | 0, _ => false
  | _ + 1, .num v => shortN v
  | _ + 1, .name v => wordIn names v
  | n + 1, .two w e f => wordIn twoWs w && ([e, f].all (Gx.sound names n))
  | n + 1, .mod e v => divr v && Gx.sound names n e
  | n + 1, .less e f g h => [e, f, g, h].all (Gx.sound names n)
  | _ + 1, .oth _ => false
def Ex.gx : Ex → Gx
  | .num i => .num (.int i)
  | .name x => .name (.str x)
  | .two w e f => .two (.str w) e.gx f.gx
  | .mod e n => .mod e.gx (.int n)
  | .less e f g h => .less e.gx f.gx g.gx h.gx
theorem Ex.sound {names : List Str} : ∀ {n : Nat} {e : Ex}, e.ok names → e.dep ≤ n → e.gx.sound names n = true
  | 0, e, _, d => by have := e.dep_pos; omega
  | n + 1, .num i, o, d => by
    obtain ⟨o1, o2⟩ := o
    show decide _ = true
    refine decide_eq_true ?_
    split <;> omega
  | n + 1, .name x, o, d => inV_str.mpr o
  | n + 1, .two w e f, o, d => by
    obtain ⟨hw, o1, o2⟩ := o
    have d : max e.dep f.dep + 1 ≤ n + 1 := d
    have h1 := Ex.sound (n := n) o1 (by omega)
    have h2 := Ex.sound (n := n) o2 (by omega)
    show (inV (.str w) (twoWs.map V.str) && ([e.gx, f.gx].all _)) = true
    have hw' : inV (.str w) (twoWs.map V.str) = true := inV_str.mpr (by rcases hw with rfl | rfl | rfl | rfl <;> simp)
    rw [hw']
    simp [h1, h2]
  | n + 1, .mod e i, o, d => by
    obtain ⟨⟨i1, i2⟩, o1⟩ := o
    have d : e.dep + 1 ≤ n + 1 := d
    have h1 := Ex.sound (n := n) o1 (by omega)
    show ((decide (1 ≤ i) && decide (i ≤ 1000000000)) && e.gx.sound names n) = true
    simp [h1, i1, i2]
  | n + 1, .less e f g h, o, d => by
    obtain ⟨o1, o2, o3, o4⟩ := o
    have d : max (max e.dep f.dep) (max g.dep h.dep) + 1 ≤ n + 1 := d
    have h1 := Ex.sound (n := n) o1 (by omega)
    have h2 := Ex.sound (n := n) o2 (by omega)
    have h3 := Ex.sound (n := n) o3 (by omega)
    have h4 := Ex.sound (n := n) o4 (by omega)
    show ([e.gx, f.gx, g.gx, h.gx].all _) = true
    simp [h1, h2, h3, h4]
def Ex.words : Ex → List Str
  | .num i => [toString i]
  | .name x => [x]
  | .two w e f => w :: (e.words ++ f.words)
  | .mod e n => "mod" :: (e.words ++ [(toString n : Str)])
  | .less e f g h => "less" :: (e.words ++ (f.words ++ (g.words ++ h.words)))
def Ex.size : Ex → Nat
  | .num _ => 1
  | .name _ => 1
  | .two _ e f => 1 + e.size + f.size
  | .mod e _ => 2 + e.size
  | .less e f g h => 1 + e.size + f.size + g.size + h.size
theorem Ex.words_len : ∀ e : Ex, e.words.length = e.size
  | .num _ => rfl
  | .name _ => rfl
  | .two _ e f => by simp [Ex.words, Ex.size, Ex.words_len e, Ex.words_len f]; omega
  | .mod e _ => by simp [Ex.words, Ex.size, Ex.words_len e]; omega
  | .less e f g h => by simp [Ex.words, Ex.size, Ex.words_len e, Ex.words_len f, Ex.words_len g, Ex.words_len h]; omega
end K04

/-! Gm2 -/
set_option Elab.async false
set_option linter.all false
set_option maxRecDepth 100000
set_option maxHeartbeats 4000000
namespace K04
open PySem L2
theorem Gx.of_sound {names : List Str} : ∀ {n : Nat} {g : Gx}, g.sound names n = true → ∃ e : Ex, g = e.gx ∧ e.ok names ∧ e.dep ≤ n
  | 0, _, h => by cases h
  | n + 1, .num v, h => by
    cases v with
    | int i =>
      have h : decide ((if i < 0 then -i else i) < 100000000000000000000) = true := h
      have h := of_decide_eq_true h
      refine ⟨.num i, rfl, ?_, Nat.le_add_left _ _⟩
      split at h
      · constructor <;> omega
      · constructor <;> omega
    | _ => cases h
  | n + 1, .name v, h => by
    cases v with
    | str x => exact ⟨.name x, rfl, inV_str.mp h, Nat.le_add_left _ _⟩
    | _ => cases h
  | n + 1, .two w e f, h => by
    have h : (wordIn twoWs w && ([e, f].all (Gx.sound names n))) = true := h
    rw [Bool.and_eq_true] at h
    obtain ⟨hw, h⟩ := h
    simp only [List.all_cons, List.all_nil, Bool.and_true, Bool.and_eq_true] at h
    obtain ⟨e1, rfl, o1, d1⟩ := Gx.of_sound h.1
    obtain ⟨e2, rfl, o2, d2⟩ := Gx.of_sound h.2
    cases w with
    | str x =>
      refine ⟨.two x e1 e2, rfl, ⟨?_, o1, o2⟩, by show max e1.dep e2.dep + 1 ≤ n + 1; omega⟩
      have hm : x ∈ twoWs := inV_str.mp hw
      simp only [List.mem_cons, List.not_mem_nil, or_false] at hm
      exact hm
    | _ => cases hw
  | n + 1, .mod e v, h => by
    have h : (divr v && Gx.sound names n e) = true := h
    rw [Bool.and_eq_true] at h
    obtain ⟨e1, rfl, o1, d1⟩ := Gx.of_sound h.2
    cases v with
    | int i =>
      have h1 : (decide (1 ≤ i) && decide (i ≤ 1000000000)) = true := h.1
      rw [Bool.and_eq_true] at h1
      exact ⟨.mod e1 i, rfl, ⟨⟨of_decide_eq_true h1.1, of_decide_eq_true h1.2⟩, o1⟩, by show e1.dep + 1 ≤ n + 1; omega⟩
    | _ => cases h.1
  | n + 1, .less e f g k, h => by
    have h : [e, f, g, k].all (Gx.sound names n) = true := h
    simp only [List.all_cons, List.all_nil, Bool.and_true, Bool.and_eq_true] at h
    obtain ⟨h1, h2, h3, h4⟩ := h
    obtain ⟨e1, rfl, o1, d1⟩ := Gx.of_sound h1
    obtain ⟨e2, rfl, o2, d2⟩ := Gx.of_sound h2
    obtain ⟨e3, rfl, o3, d3⟩ := Gx.of_sound h3
    obtain ⟨e4, rfl, o4, d4⟩ := Gx.of_sound h4
    exact ⟨.less e1 e2 e3 e4, rfl, ⟨o1, o2, o3, o4⟩, by show max (max e1.dep e2.dep) (max e3.dep e4.dep) + 1 ≤ n + 1; omega⟩
  | n + 1, .oth _, h => by cases h
theorem Ex.gx_inj : ∀ {e f : Ex}, e.gx = f.gx → e = f
  | .num i, .num j, h => by cases h; rfl
  | .name i, .name j, h => by cases h; rfl
  | .two w e f, .two w' e' f', h => by
    injection h with h1 h2 h3
    cases h1
    rw [Ex.gx_inj h2, Ex.gx_inj h3]
  | .mod e n, .mod e' n', h => by
    injection h with h1 h2
    cases h2
    rw [Ex.gx_inj h1]
  | .less e f g k, .less e' f' g' k', h => by
    injection h with h1 h2 h3 h4
    rw [Ex.gx_inj h1, Ex.gx_inj h2, Ex.gx_inj h3, Ex.gx_inj h4]
theorem pow4 {a b : Nat} (h : a ≤ b) : 4 ^ a ≤ 4 ^ b := Nat.pow_le_pow_right (by decide) h
theorem Ex.size_le : ∀ e : Ex, 3 * e.size + 1 ≤ 4 ^ e.dep
  | .num _ => by show 4 ≤ 4 ^ 1; decide
  | .name _ => by show 4 ≤ 4 ^ 1; decide
  | .two _ e f => by
    have h1 := e.size_le
    have h2 := f.size_le
    have p1 := pow4 (Nat.le_max_left e.dep f.dep)
    have p2 := pow4 (Nat.le_max_right e.dep f.dep)
    show 3 * (1 + e.size + f.size) + 1 ≤ 4 ^ (max e.dep f.dep + 1)
    rw [Nat.pow_succ]
    omega
  | .mod e _ => by
    have h1 := e.size_le
    have h3 := e.dep_pos
    have p1 : 4 ^ 1 ≤ 4 ^ e.dep := pow4 h3
    show 3 * (2 + e.size) + 1 ≤ 4 ^ (e.dep + 1)
    rw [Nat.pow_succ]
    omega
  | .less e f g k => by
    have h1 := e.size_le
    have h2 := f.size_le
    have h3 := g.size_le
    have h4 := k.size_le
    have p1 := pow4 (Nat.le_trans (Nat.le_max_left e.dep f.dep) (Nat.le_max_left _ (max g.dep k.dep)))
    have p2 := pow4 (Nat.le_trans (Nat.le_max_right e.dep f.dep) (Nat.le_max_left _ (max g.dep k.dep)))
    have p3 := pow4 (Nat.le_trans (Nat.le_max_left g.dep k.dep) (Nat.le_max_right (max e.dep f.dep) _))
    have p4 := pow4 (Nat.le_trans (Nat.le_max_right g.dep k.dep) (Nat.le_max_right (max e.dep f.dep) _))
    show 3 * (1 + e.size + f.size + g.size + k.size) + 1 ≤ 4 ^ (max (max e.dep f.dep) (max g.dep k.dep) + 1)
    rw [Nat.pow_succ]
    omega
theorem Ex.size_line {e : Ex} (h : e.dep ≤ 8) : e.size ≤ sizeLine := by
  have h1 := e.size_le
  have h2 : 4 ^ e.dep ≤ 65536 := pow4 h
  have : sizeLine = 16777216 := by decide
  omega
end K04

/-! BExc -/
set_option Elab.async false
set_option linter.all false
set_option maxRecDepth 100000
set_option maxHeartbeats 4000000
namespace L2
open PySem PySem.Spec PyProof.Rows
section
variable {P : Program} {w : World} {H H' : Hp} {h h' : Heap} {a : Addr} {o : HO}
theorem ObjOk.thr (x : ObjOk P w H h a o) : ∃ u, h.get? a = some u := by
  cases o with
  | lst xs => obtain ⟨_, _, _, _, e⟩ := x; exact ⟨_, e⟩
  | tup xs => obtain ⟨_, _, _, _, e, _⟩ := x; exact ⟨_, e⟩
  | dK kvs => obtain ⟨_, _, _, _, o, _, _, e, _⟩ := x; exact ⟨_, e⟩
  | dT kvs => obtain ⟨_, _, _, _, o, _, _, e, _⟩ := x; exact ⟨_, e⟩
  | set S n => obtain ⟨o, _, _, _, e, _⟩ := x; exact ⟨_, e⟩
  | ins C dx fs => obtain ⟨_, _, _, e, _⟩ := x; exact ⟨_, e⟩
  | own y => obtain ⟨_, e⟩ := x; exact ⟨_, e⟩
  | xd fs => obtain ⟨_, ⟨_, _, _, e, _⟩, _⟩ := x; exact ⟨_, e⟩
  | rng lo hi => obtain ⟨_, _, _, e⟩ := x; exact ⟨_, e⟩
  | frz ob u => obtain ⟨e, _⟩ := x; exact ⟨_, e⟩
  | tbl ps => exact ⟨_, show h.get? a = some _ from x⟩
  | met f y => exact ⟨_, show h.get? a = some _ from x⟩
  | ext φ => obtain ⟨_, ⟨_, e⟩, _⟩ := x; exact ⟨_, e⟩
theorem HOk.thr (x : HOk P w H h) (e : H a = some o) : ∃ u, h.get? a = some u := (x a o e).thr
theorem HOk.keptT (x : HOk P w H h) (k : ∀ b u, H b ≠ none → h.get? b = some u → h'.get? b = some u) : HOk P w H h' := fun a o e =>
  (x a o e).stay (fun b u hb q => k b u (by rcases hb with rfl | hb <;> simp_all) q) (fun _ q => q) fun _ _ q => q
end
structure Lies (P : Program) (w : World) (l : List Env) (H : Hp) (s : Shared) (H' : Hp) (s' : Shared) (B : Heap) : Prop where
  os : s'.os = s.os
  bare : AllBare s'.gens
  un : Un (frs l) [] H H' s.heap s'.heap
  hok : HOk P w H' s'.heap
  c1 : ∀ b o, s.heap.get? b = some o → H b = none → b ∉ frs l → B.get? b = some o
  c2 : ∀ b o, H' b ≠ none → s'.heap.get? b = some o → B.get? b = some o
  c3 : ∀ b o, s.heap.get? b = some o → b ∉ frs l → ∃ o', B.get? b = some o'
abbrev CX1 (P : Program) (w : World) : CXT := fun l H s E e s' => ∃ (a : Addr) (cls a0 : Value) (H' : Hp) (B : Heap), e = .ref a ∧ Lies P w l H s H' s' B ∧ Heap.FlyingW B l a cls a0 s'.heap ∧ E cls none H'
section
variable {X : Cx} {pins : List (Addr × Obj)} {σ : St} {H H' : Hp} {s s' : Shared} {B h2 : Heap} {t2 : Nat}
theorem Lies.un2 (I : Inv X pins σ H s) (L : Lies X.prog X.w X.stack H s H' s' B) (st : B.StaysIn h2) (up : s'.heap.UpToSlots h2) : Un (frs X.stack) [] H H' s.heap h2 := by
  have sl : ∀ b o, s.heap.get? b = some o → b ∈ frs X.stack → ∃ z, h2.get? b = some { o with slots := z } := fun b o q hb => by
    obtain ⟨z, e1⟩ := L.un.slot b o q (I.stkFree b hb) hb (by simp)
    obtain ⟨_, o', ho', hd⟩ := I.stack.mem hb
    rw [q] at ho'
    cases ho'
    obtain ⟨z2, e2⟩ := up b _ e1 (fun vs z => hd vs z)
    exact ⟨z2, e2⟩
  refine ⟨fun b o q n hb _ => st b o (L.c1 b o q n hb), fun b o q _ hb _ => sl b o q hb, fun b o q n hx => L.un.free b o q n hx, fun b o q _ => ?_, L.un.tups, L.un.frzs, L.un.tbls⟩
  by_cases hb : b ∈ frs X.stack
  · obtain ⟨z, e⟩ := sl b o q hb
    exact ⟨_, e⟩
  · obtain ⟨o', e⟩ := L.c3 b o q hb
    exact ⟨o', st b o' e⟩
theorem Lies.ok2 {l : List Env} {P : Program} {w : World} (L : Lies P w l H s H' s' B) (st : B.StaysIn h2) : HOk P w H' h2 := L.hok.keptT fun b u hb q => st b u (L.c2 b u hb q)
theorem Lies.inv (I : Inv X pins σ H s) (L : Lies X.prog X.w X.stack H s H' s' B) (st : B.StaysIn h2) (up : s'.heap.UpToSlots h2) : Inv X pins σ H' { s' with heap := h2, toks := t2 } := by
  refine I.call' (s' := { s' with heap := h2, toks := t2 }) (ch := []) L.os (L.un2 I st up) (L.ok2 st) L.bare (fun b z => absurd z (by simp))
theorem Lies.out (I : Inv X pins σ H s) (L : Lies X.prog X.w X.stack H s H' s' B) (st : B.StaysIn h2) (up : s'.heap.UpToSlots h2) (hx : X.ex = []) : Lies X.prog X.w X.outer X.H₀ X.s₀ H' { s' with heap := h2 } B := by
  have J := Lies.inv (t2 := s'.toks) I L st up
  have ns : ∀ b o, X.s₀.heap.get? b = some o → b ∉ frs X.outer → b ∉ frs X.stack := fun b o q hb z => by
    rcases List.mem_cons.mp (I.stkSub b z) with e | e
    · exact absurd (Nat.lt_of_lt_of_le (Heap.lt_size q) I.ok.above) (by rw [e]; exact Nat.lt_irrefl _)
    · exact hb e
  have hn : ∀ b : Addr, b ∉ X.ex := fun b => by rw [hx]; simp
  refine ⟨J.os, J.bare, ?_, J.hok, fun b o q n hb => ?_, fun b o hb q => ?_, fun b o q hb => ?_⟩
  · have := J.base
    rw [hx] at this
    exact this
  · exact L.c1 b o (I.base.keep b o q n hb (hn b)) (I.base.free b o q n (hn b)) (ns b o q hb)
  · cases e : H' b with
    | none => exact absurd e hb
    | some u =>
      obtain ⟨v, hv⟩ := L.hok.thr e
      have z := L.c2 b v hb hv
      have q' : h2.get? b = some o := q
      rw [st b v z] at q'
      cases q'
      exact z
  · obtain ⟨o', e⟩ := I.base.there b o q (hn b)
    exact L.c3 b o' e (ns b o q hb)
theorem lies_new (I : Inv X pins σ H s) (k : ∀ b u, s.heap.get? b = some u → h2.get? b = some u) : Lies X.prog X.w X.stack H s H { s with heap := h2 } (PySem.W.hideAll s.heap (frs X.stack)) := by
  refine ⟨rfl, I.bare, Un.kept k, I.hok.kept k, fun b o q _ hb => PySem.W.hideAll_get _ q hb, fun b o hb q => ?_, fun b o q hb => ⟨o, PySem.W.hideAll_get _ q hb⟩⟩
  cases e : H b with
  | none => exact absurd e hb
  | some u =>
    obtain ⟨v, hv⟩ := I.hok.thr e
    have q' : h2.get? b = some o := q
    rw [k b v hv] at q'
    cases q'
    exact PySem.W.hideAll_get _ hv fun z => hb (I.stkFree b z)
end
section
variable {P : Program} {w : World} {K : PySem.W.Frag} {mg : Str → Option Value} {base : Heap} {N : List Str} {qual : Str} {scope : Scope} {f : Addr} {cd : Value} {A : Around} {outer : List Env} {s0 : Shared} {H0 : Hp} {E : XK}
theorem leave1 {pins : List (Addr × Obj)} {σ : St} {H : Hp} {s : Shared} {h' : Heap} {e : Addr} {cls : Value} {args : List Value} (I : Inv (cxOf (CX1 P w) P w K mg base N qual scope f cd A outer s0 H0 E) pins σ H s)
    (hx : Heap.MadeExcOf s.heap h' e cls args) (q : E cls none H) : (cxOf (CX1 P w) P w K mg base N qual scope f cd A outer s0 H0 E).xe (.ref e) { s with heap := h' } := by
  have hfr := I.ok.frames
  have L := lies_new I hx.keeps
  refine wpAny_leaves_madeW (M := model P w) (A := A.deeper (envOfC qual scope s0.heap.objs.size f cd)) (s := { s with heap := h' }) (outer := outer) (L := s0.heap.objs.size) (base := PySem.W.hideAll s.heap (frs (envOfC qual scope s0.heap.objs.size f cd :: outer))) hfr rfl (fun b o q => PySem.W.of_hideAll _ q)
    (PySem.W.funFrames_hide I.stack fun env he b hb => List.mem_filterMap.mpr ⟨env, he, hb⟩) hx fun h2 t F2 _ _ up => ?_
  exact ⟨e, cls, .ref t, H, _, rfl, L.out I F2.1 up rfl, F2, q⟩
end
end L2

/-! BExc2 -/
set_option Elab.async false
set_option linter.all false
set_option maxRecDepth 100000
set_option maxHeartbeats 4000000
namespace L2
open PySem PySem.Spec PyProof.Rows
abbrev bmVal : List Value := [.type "ValueError", .type "Exception", .type "BaseException", .type "object"]
def XCls (K : PySem.W.Frag) (C : Addr) : Prop := PySem.W.excIn K C bmVal "ValueError.__new__" = true
def XObj (h : Heap) (C : Addr) : Prop := ∃ bm N nm qn bs hd sn sub ab col dd k0 k1 k2 k3 k5 mN, h.get? C = some (excClassObj nm qn C N bs bm hd sn sub ab col dd k0 k1 k2 k3 k5 "ValueError.__new__") ∧ h.Ns N mN ∧ mN "__init__" = none ∧ OwnTail h bmVal bm
theorem XCls.obj {K : PySem.W.Frag} {C : Addr} (x : XCls K C) {h : Heap} (I : K.In h) : XObj h C := by
  unfold XCls PySem.W.excIn at x
  split at x
  case h_2 => cases x
  case h_1 dd cd sl lk =>
    split at x
    case h_2 => cases x
    case h_1 C2 bm k0 k1 k2 k3 nid k5 em es =>
      rw [Bool.and_eq_true, Bool.and_eq_true, Bool.and_eq_true, Bool.and_eq_true, Bool.and_eq_true] at x
      obtain ⟨⟨⟨⟨⟨x1, x2⟩, x3⟩, x4⟩, x5⟩, x6⟩ := x
      cases (beq_iff_eq.mp x1)
      cases (beq_iff_eq.mp x2)
      cases cd with
      | mk nm bs mro ns qn hd sn sub ab col del =>
        have e1 : mro = .ref C :: bm := em
        have e2 : del = false := by
          cases del with
          | false => rfl
          | true => cases x3
        have e3 : sl = #[k0, k1, k2, k3, some (.builtin "ValueError.__new__"), k5] := by
          cases sl with
          | mk l =>
            have e : l = _ := es
            rw [e]
        rw [e1, e2, e3] at lk
        exact ⟨bm, ns, nm, qn, bs, hd, sn, sub, ab, col, dd, k0, k1, k2, k3, k5, _, I _ _ lk, .of_isNs (PySem.W.isNs_of_in I x5), PySem.W.nsMap_none_of_in I x5 (beq_iff_eq.mp x6), PySem.W.tail_of_in I x4⟩
theorem XObj.keeps {h h' : Heap} {C : Addr} (x : XObj h C) (k : ∀ b o, h.get? b = some o → h'.get? b = some o) : XObj h' C := by
  obtain ⟨bm, N, nm, qn, bs, hd, sn, sub, ab, col, dd, k0, k1, k2, k3, k5, mN, h1, h2, h3, h4⟩ := x
  exact ⟨bm, N, nm, qn, bs, hd, sn, sub, ab, col, dd, k0, k1, k2, k3, k5, mN, k _ _ h1, h2.keeps k, h3, h4.keeps k⟩
section
variable {P : Program} {w : World} {K : PySem.W.Frag} {mg : Str → Option Value} {base : Heap} {N : List Str} {qual : Str} {scope : Scope} {f : Addr} {cd : Value} {A : Around} {outer : List Env} {s0 : Shared} {H0 : Hp} {E : XK}
  {x : Str} {C : Addr} {e : Expr} {es : List Expr} {t : TA} {np cpos pos : Pos}
def tRz (C : Addr) (E : XK) (t : TA) : TS := fun _ σ H => t σ H fun vs H1 => vs.length ≤ 1000 ∧ E (.ref C) none H1
theorem ps_raise (hc : (A.deeper (envOfC qual scope s0.heap.objs.size f cd)).handled = none) (c : XCls K C) (hm : mg x = some (.ref C)) (ha : PA (cxOf (CX1 P w) P w K mg base N qual scope f cd A outer s0 H0 E) (e :: es) t)
    (hg : Gl (cxOf (CX1 P w) P w K mg base N qual scope f cd A outer s0 H0 E) x := by rfl)
    (he : starEach (e :: es) (cxOf (CX1 P w) P w K mg base N qual scope f cd A outer s0 H0 E).env = (false, eval e (cxOf (CX1 P w) P w K mg base N qual scope f cd A outer s0 H0 E).env) :: starEach es (cxOf (CX1 P w) P w K mg base N qual scope f cd A outer s0 H0 E).env := by rfl)
    (hpl : (backTo cpos (starEach es (cxOf (CX1 P w) P w K mg base N qual scope f cd A outer s0 H0 E).env)).any (·.1) = false := by rfl) (hdb : (x == ("__debug__" : Str)) = false := by decide) :
    PS (cxOf (CX1 P w) P w K mg base N qual scope f cd A outer s0 H0 E) (.Raise (some (.Call (.Name x np) (e :: es) [] cpos)) none pos) (tRz C E t) := by
  intro pins s σ H D I h
  obtain ⟨bm, Nn, nm, qn, bs, hd, sn, sub, ab, col, dd, k0, k1, k2, k3, k5, mN, h1, h2, h3, h4⟩ := c.obj I.mod.kin
  refine wpAny_Raise_call_subT (C := C) (nm := nm) (q := qn) (N := Nn) (bs := bs) (bm := bm) (hdct := hd) (sn := sn) (sub := sub) (ab := ab) (col := col) (dd := dd) (k0 := k0) (k1 := k1) (k2 := k2) (k3 := k3) (k5 := k5) PySem.F.excBase_ValueError (mN := mN)
    (h4.hasType rfl) hc (by rw [he]; exact hpl) h3 (ld_glob I hg hm ⟨rfl, ?_⟩ hdb)
  have hA := ha cpos pins s σ H _ I h
  rw [he] at hA ⊢
  refine Calls.evalArgs_plain (wpAny_mono hA (fun us s2 hq => ?_) fun _ _ z => z)
  obtain ⟨vs, H1, I1, r1, hl, q⟩ := hq
  refine ⟨rfl, ?_, I1.bk _ _ h1, h2.keeps I1.bk, h4.keeps I1.bk, fun h' e' hx => leave1 I1 hx q⟩
  show us.length ≤ sizeLine
  rw [← r1.length]
  exact Nat.le_of_lt (small1000 hl)
end
end L2

/-! BExc3 -/
set_option Elab.async false
set_option linter.all false
set_option maxRecDepth 100000
set_option maxHeartbeats 4000000
namespace L2
open PySem PySem.Spec PyProof.Rows
def XP (X : Cx) (pins : List (Addr × Obj)) (σ : St) (E : XK) (e : Value) (s' : Shared) : Prop := ∃ H1 s1, Inv X pins σ H1 s1 ∧ CX1 X.prog X.w X.stack H1 s1 E e s'
def PV (X : Cx) (e : Expr) (t : XK → TE) : Prop := ∀ (pins : List (Addr × Obj)) (s : Shared) (σ : St) (H : Hp) (Q : VK) (E : XK), Inv X pins σ H s → t E σ H Q → wpAny (model X.prog X.w) X.A (eval e X.env) (EP X pins σ Q) (XP X pins σ E) s
def PX (X : Cx) (b : List Stmt) (t : XK → TS) : Prop := ∀ (pins : List (Addr × Obj)) (s : Shared) (σ : St) (H : Hp) (D : Ends) (E : XK), Inv X pins σ H s → t E D σ H → wpAny (model X.prog X.w) X.A (execs b X.env) (SP X pins D) (XP X pins σ E) s
section
variable {X : Cx} {k : Nat} {f C : Addr} {fd : FuncData} {ps : List Str} {sp : Sp} {dvs : List V} {ds : List Value} {x : Str} {p pos : Pos} {e : Expr} {es : List Expr} {t : TA}
theorem run_make1 {E : XK} {pins : List (Addr × Obj)} {σ : St} {H : Hp} {s : Shared} {Q : VK} {us : List Value} {vs : List V} (M : Mk X.K C f) (F : FnOk X.prog X.w X.K X.mg X.base (CX1 X.prog X.w) k f fd ps sp) (hr : Room (k + 1) X.A) (hb : Binds X.K fd ps ds) (hd : Vals dvs ds)
    (I : Inv X pins σ H s) (r : Vals vs us)
    (h : ∀ x dx, H x = none → H dx = none → dx ≠ x → sp (.ref x :: (vs ++ dvs)) (upd (upd H dx (.own x)) x (.ins C dx [])) (fun v H2 => v = .non ∧ Q (.ref x) H2) E) :
    wpAny (model X.prog X.w) X.A (call (.ref C) us) (EP X pins σ Q) (XP X pins σ E) s := by
  have hq := h (s.heap.objs.size + 1) s.heap.objs.size (I.hok.fresh (Nat.le_succ _)) (I.hok.fresh (Nat.le_refl _)) (Nat.ne_of_lt (Nat.lt_succ_self _))
  have I2 := Inv.made (C := C) I
  have r2 : Vals (V.ref (s.heap.objs.size + 1) :: (vs ++ dvs)) (Value.ref (s.heap.objs.size + 1) :: (us ++ ds)) := .cons rfl (r.append hd)
  have hl : (Value.ref (s.heap.objs.size + 1) :: us ++ ds).length = ps.length := by
    have e := r2.length
    rw [F.len _ _ _ _ hq] at e
    exact e.symm
  refine wpAny_call (make_map (f := f) I.kIn M.makes M.init (beq_iff_eq.mp M.fn) (codeAny_mono (F.run _ X.stack _ _ ⟨Value.ref (s.heap.objs.size + 1) :: us, []⟩ (Value.ref (s.heap.objs.size + 1) :: (us ++ ds)) _ _ E (hr.make C us [])
    (I2.env0.make C us []) (hb _ (Value.ref (s.heap.objs.size + 1) :: us) I2.kIn hl) r2 hq) fun r s' hq' => ?_))
  cases r with
  | error e => exact ⟨_, _, I2, hq'⟩
  | ok fl =>
    cases fl with
    | ret u =>
      obtain ⟨v, H', I3, rv, ev, q3⟩ := I2.after hq'
      subst ev
      exact ⟨rv, ⟨V.ref (s.heap.objs.size + 1), H', I3, rfl, q3⟩⟩
    | next => exact False.elim hq'
    | brk => exact False.elim hq'
    | cont => exact False.elim hq'
theorem pv_make (M : Mk X.K C f) (F : FnOk X.prog X.w X.K X.mg X.base (CX1 X.prog X.w) k f fd ps sp) (hr : Room (k + 1) X.A) (hm : X.mg x = some (.ref C)) (hb : Binds X.K fd ps [])
    (ha : PA X.nox (e :: es) t) (hg : Gl X x := by rfl) (hdb : (x == ("__debug__" : Str)) = false := by decide) (he : starEach (e :: es) X.env = (false, eval e X.env) :: starEach es X.env := by rfl) (hpl : (backTo pos (starEach es X.env)).any (·.1) = false := by rfl) :
    PV X (.Call (.Name x p) (e :: es) [] pos) (fun E => tMake C sp [] E t) := by
  intro pins s σ H Q E I h
  refine wpAny_Call_Name_kw (ld_glob I hg hm ?_ hdb)
  refine PySem.W.callWith_K (h₀ := X.base) I.ok.mod.kin M.kp (wpAny_mono (ha pos pins s σ H _ (I.wish _) h) (fun us s1 hq => ?_) (fun _ _ z => False.elim z)) he hpl
  obtain ⟨vs, H1, I1, r, q⟩ := hq
  exact ⟨I1.unwish.kIn, run_make1 M F hr hb .nil I1.unwish r q⟩
theorem px_expr {te : XK → TE} (h : PV X e te) (hs : swapsWith e none pos.line X.env = pure false := by rfl) : PX X [.Expr e pos] (fun E => tDrop (te E)) := by
  intro pins s σ H D E I q
  refine wpAny_execs_cons (wpAny_Expr_any (wpAny_mono (h pins s σ H _ E I q) (fun v s1 hq => ?_) fun _ _ z => z) I.quiet hs)
  obtain ⟨y, H1, I1, r1, q1⟩ := hq
  exact wpAny_execs_nil ⟨σ, H1, I1, q1⟩
end
abbrev Cx.inH (X : Cx) (a : Addr) : Cx := { X with A := X.A.mark (some (.ref a)), calm := false, xe := fun _ _ => False }
section
variable {X : Cx} {pins : List (Addr × Obj)} {σ : St} {H : Hp} {s : Shared} {a : Addr}
theorem Inv.inH (I : Inv X pins σ H s) (a : Addr) : Inv (X.inH a) pins σ H s :=
  ⟨⟨I.ok.mod, I.ok.kind, I.ok.glob, I.ok.blt, I.ok.above, I.ok.inj, I.ok.has, I.ok.cab, (fun z => nomatch z), I.ok.frames, I.ok.stk, I.ok.exf, I.ok.bs, I.ok.bsz, I.ok.noex, I.ok.exfs, I.ok.funs, I.ok.frf⟩, I.os, I.bare, I.base, I.loc, I.cell, I.free, I.freeC, I.pin, I.hok, I.len⟩
theorem Inv.unH (ok : X.Ok) (I : Inv (X.inH a) pins σ H s) : Inv X pins σ H s := ⟨ok, I.os, I.bare, I.base, I.loc, I.cell, I.free, I.freeC, I.pin, I.hok, I.len⟩
theorem SP.unH {D : Ends} {f : Flow} {s' : Shared} (ok : X.Ok) (h : SP (X.inH a) pins D f s') : SP X pins D f s' := by
  cases f with
  | next => obtain ⟨σ', H', I, q⟩ := h; exact ⟨σ', H', I.unH ok, q⟩
  | brk => obtain ⟨σ', H', I, q⟩ := h; exact ⟨σ', H', I.unH ok, q⟩
  | cont => obtain ⟨σ', H', I, q⟩ := h; exact ⟨σ', H', I.unH ok, q⟩
  | ret u => obtain ⟨v, σ', H', I, r, q⟩ := h; exact ⟨v, σ', H', I.unH ok, r, q⟩
end
def tTry (C : Addr) (tb : XK → TS) (th : TS) : TS := fun D σ H => tb (fun cls _ H' => cls = .ref C ∧ th D σ H') D σ H
theorem ps_try {X : Cx} {body suite : List Stmt} {b0 : Stmt} {x : Str} {C : Addr} {np hpos pos : Pos} {tb : XK → TS} {th : TS} (hst : X.stack = X.env :: X.outer) (hfr : X.env.frame = some X.env.locals) (c : XCls X.K C) (hm : X.mg x = some (.ref C))
    (hb : PX X body tb) (hh : ∀ a, PSs (X.inH a) (b0 :: suite) th) (hg : Gl X x := by rfl) (hdb : (x == ("__debug__" : Str)) = false := by decide) :
    PS X (.Try body [.ExceptHandler (some (.Name x np)) none (b0 :: suite) hpos] [] [] pos) (tTry C tb th) := by
  intro pins s σ H D I h
  refine wpAny_Try_except (wpAny_mono (hb pins s σ H D _ I h) (fun fl s1 q => ?_) (fun e s1 hx => ?_))
  · cases fl with
    | next => exact wpAny_execs_nil q
    | ret v => exact q
    | brk => exact q
    | cont => exact q
  · obtain ⟨H1, s2, I1, a, cls, a0, H', B, rfl, L, F, rfl, hts⟩ := hx
    obtain ⟨sh, sg, sd, stk, sos⟩ := s1
    have F' := F
    rw [hst] at F'
    refine wpAny_looks_onW (s := ⟨sh, sg, sd, stk, sos⟩) (outer := X.outer) (L := X.env.locals) (by rw [I.ok.frames, hst]) hfr F' fun h4 Hd4 up4 => wpAny_landsW (s := ⟨h4, sg, sd, stk, sos⟩) Hd4 fun h5 F5 up5 => ?_
    have up := up4.trans up5
    have I5 : Inv X pins σ H' ⟨h5, sg, sd, stk, sos⟩ := Lies.inv (t2 := stk) I1 L F5.1 up
    have J5 := I5.inH a
    refine wpAny_handleBy_cons (codeAny_handlers_test (ld_glob J5 hg hm ?_ hdb)) (by intro q; cases q)
    obtain ⟨bm, Nn, nm, qn, bs, hd, sn, sub, ab, col, dd, k0, k1, k2, k3, k5, mN, h1, h2, h3, h4'⟩ := (c.obj I.mod.kin).keeps I5.bk
    obtain ⟨ob, hob, hobc⟩ := F5.there
    refine wpAny_excMatches_sub_self h1 hob hobc (h4'.hasType rfl) ?_
    refine codeAny_handlers_suite (lands_againW (s := ⟨h5, sg, sd, stk, sos⟩) F5 fun h6 F6 up6 => ?_)
    have I6 : Inv X pins σ H' ⟨h6, sg, sd, stk, sos⟩ := Lies.inv (t2 := stk) I1 L F6.1 (up.trans up6)
    exact wpAny_mono (hh a pins _ σ H' D (I6.inH a) hts) (fun fl s7 q => q.unH I.ok) (fun _ _ z => False.elim z)
end L2
namespace L2
open PySem PySem.Spec PyProof.Rows
structure Maker1 (P : Program) (w : World) (K : PySem.W.Frag) (mg : Str → Option Value) (base : Heap) (x : Str) (C f : Addr) (fd : FuncData) (ps : List Str) (k : Nat) (sp : Sp) : Prop where
  ok : FnOk P w K mg base (CX1 P w) k f fd ps sp
  g : mg x = some (.ref C)
  mm : Mk K C f
  b : Binds K fd ps []
section
variable {X : Cx} {k : Nat} {f C : Addr} {fd : FuncData} {ps : List Str} {sp : Sp} {x : Str} {p pos : Pos} {e : Expr} {es : List Expr} {t : TA}
theorem pv_m (c : Maker1 X.prog X.w X.K X.mg X.base x C f fd ps k sp) (hr : Room (k + 1) X.A) (ha : PA X.nox (e :: es) t) (hg : Gl X x := by rfl) (hdb : (x == ("__debug__" : Str)) = false := by decide)
    (he : starEach (e :: es) X.env = (false, eval e X.env) :: starEach es X.env := by rfl) (hpl : (backTo pos (starEach es X.env)).any (·.1) = false := by rfl) : PV X (.Call (.Name x p) (e :: es) [] pos) (fun E => tMake C sp [] E t) :=
  pv_make c.mm c.ok hr c.g c.b ha hg hdb he hpl
end
section
variable {P : Program} {w : World} {K : PySem.W.Frag} {mg : Str → Option Value} {base : Heap}
theorem Fun.ok1 {x qual : Str} {st : Stmt} {f : Addr} {fd : FuncData} {N ps : List Str} {k : Nat} {sp : Sp} (F : Fun K x qual st f fd) (S : FnScope N ps (defScope st)) (len : ∀ vs H Q E, sp vs H Q E → vs.length = ps.length)
    (hbody : ∀ (cdv : Value) (A : Around) (outer : List Env) (s : Shared) (H : Hp) (vs : List V) (Q : VK) (E : XK), Room k (A.deeper (envOfC qual (defScope st) s.heap.objs.size f cdv)) → sp vs H Q E →
      ∃ t, PSs (cxOf (CX1 P w) P w K mg base N qual (defScope st) f cdv A outer s H E) (defBody st) t ∧ t { nx := fun _ H' => Q .non H', rt := Q } (start N vs) H) : FnOk P w K mg base (CX1 P w) (k + 1) f fd ps sp := by
  obtain ⟨oc, od, kV, doc, pm, an, cdv, ct, osl, rfl, lk, hcd⟩ := F.ex
  exact fn_of lk hcd S len fun A outer s H vs Q E hr hsp => hbody cdv A outer s H vs Q E hr hsp
end
end L2

/-! K08a -/
set_option Elab.async false
set_option linter.all false
set_option maxRecDepth 100000
set_option maxHeartbeats 4000000
namespace K04
open PySem L2
def top (i : Nat) : Stmt := PySem.Challenge.pw_beatless_k08_whole_programs_let_by.main.body.getD i (.Pass ⟨0, 0, 0, 0⟩)
abbrev st_is_whole : Stmt := top 12
abbrev st_is_short_number : Stmt := top 20
abbrev st_is_word_of : Stmt := top 21
abbrev st_is_divisor : Stmt := top 22
abbrev st_are_sound : Stmt := top 23
abbrev st_is_sound : Stmt := top 24
abbrev st_count_words : Stmt := top 25
abbrev st__law_digit : Stmt := top 29
abbrev st__law_some : Stmt := top 30
abbrev st__law_leaf : Stmt := top 31
abbrev st__law_told : Stmt := top 32
abbrev st__law_made : Stmt := top 33
abbrev st__law_look : Stmt := top 34
abbrev st__law_good : Stmt := top 35
abbrev st_law : Stmt := top 36
abbrev st_Num___init__ : Stmt := inClass (top 6) 0
abbrev st_Num_reckon : Stmt := inClass (top 6) 1
abbrev st_Num_words : Stmt := inClass (top 6) 3
abbrev st_Name___init__ : Stmt := inClass (top 7) 0
abbrev st_Name_reckon : Stmt := inClass (top 7) 1
abbrev st_Name_words : Stmt := inClass (top 7) 3
abbrev st_Two___init__ : Stmt := inClass (top 8) 0
abbrev st_Two_reckon : Stmt := inClass (top 8) 1
abbrev st_Two_words : Stmt := inClass (top 8) 3
abbrev st_Mod___init__ : Stmt := inClass (top 9) 0
abbrev st_Mod_reckon : Stmt := inClass (top 9) 1
abbrev st_Mod_words : Stmt := inClass (top 9) 3
abbrev st_Less___init__ : Stmt := inClass (top 10) 0
abbrev st_Less_reckon : Stmt := inClass (top 10) 1
abbrev st_Less_words : Stmt := inClass (top 10) 3
abbrev st_Program___init__ : Stmt := inClass (top 26) 0
theorem sc_is_whole : FnScope ["value"] ["value"] (defScope st_is_whole) := ⟨rfl, rfl, rfl, by decide +kernel, rfl, by decide +kernel, by decide +kernel⟩
theorem sc_is_short_number : FnScope ["value"] ["value"] (defScope st_is_short_number) := ⟨rfl, rfl, rfl, by decide +kernel, rfl, by decide +kernel, by decide +kernel⟩
theorem sc_is_word_of : FnScope ["word", "words"] ["word", "words"] (defScope st_is_word_of) := ⟨rfl, rfl, rfl, by decide +kernel, rfl, by decide +kernel, by decide +kernel⟩
theorem sc_is_divisor : FnScope ["number"] ["number"] (defScope st_is_divisor) := ⟨rfl, rfl, rfl, by decide +kernel, rfl, by decide +kernel, by decide +kernel⟩
theorem sc_are_sound : FnScope ["parts", "names", "deep", "part"] ["parts", "names", "deep"] (defScope st_are_sound) := ⟨rfl, rfl, rfl, by decide +kernel, rfl, by decide +kernel, by decide +kernel⟩
theorem sc_is_sound : FnScope ["expr", "names", "deep"] ["expr", "names", "deep"] (defScope st_is_sound) := ⟨rfl, rfl, rfl, by decide +kernel, rfl, by decide +kernel, by decide +kernel⟩
theorem sc_count_words : FnScope ["exprs"] ["exprs"] (defScope st_count_words) := ⟨rfl, rfl, rfl, by decide +kernel, rfl, by decide +kernel, by decide +kernel⟩
theorem sc__law_digit : FnScope ["_law_state", "_law_base", "_law_cell", "_law_found", "_law_number"] ["_law_state", "_law_base"] (defScope st__law_digit) := ⟨rfl, rfl, rfl, by decide +kernel, rfl, by decide +kernel, by decide +kernel⟩
theorem sc__law_some : FnScope ["_law_state", "_law_pool", "_law_seldom"] ["_law_state", "_law_pool", "_law_seldom"] (defScope st__law_some) := ⟨rfl, rfl, rfl, by decide +kernel, rfl, by decide +kernel, by decide +kernel⟩
theorem sc__law_leaf : FnScope ["_law_state", "_law_pool"] ["_law_state", "_law_pool"] (defScope st__law_leaf) := ⟨rfl, rfl, rfl, by decide +kernel, rfl, by decide +kernel, by decide +kernel⟩
theorem sc__law_told : FnScope ["_law_state", "_law_pool", "_law_told_here", "_law_k", "_law_kind", "_law_one", "_law_other", "_law_word"] ["_law_state", "_law_pool"] (defScope st__law_told) := ⟨rfl, rfl, rfl, by decide +kernel, rfl, by decide +kernel, by decide +kernel⟩
theorem sc__law_made : FnScope ["_law_told_here"] ["_law_told_here"] (defScope st__law_made) := ⟨rfl, rfl, rfl, by decide +kernel, rfl, by decide +kernel, by decide +kernel⟩
theorem sc__law_look : FnScope ["_law_told_here", "_law_names", "_law_words", "_law_good_here", "_law_deep", "_law_part", "_law_found"] ["_law_told_here", "_law_names"] (defScope st__law_look) := ⟨rfl, rfl, rfl, by decide +kernel, rfl, by decide +kernel, by decide +kernel⟩
theorem sc__law_good : FnScope ["_law_four", "_law_at_send", "_law_at_end", "_law_words", "_law_told_here", "_law_names", "_law_found"] ["_law_four"] (defScope st__law_good) := ⟨rfl, rfl, rfl, by decide +kernel, rfl, by decide +kernel, by decide +kernel⟩
theorem sc_law : FnScope ["_law_script", "_law_cell", "_law_state", "_law_at_end", "_law_four", "_law_pool", "_law_made_here"] ["_law_script"] (defScope st_law) := ⟨rfl, rfl, rfl, by decide +kernel, rfl, by decide +kernel, by decide +kernel⟩
theorem sc_Num___init__ : FnScope ["self", "value"] ["self", "value"] (defScope st_Num___init__) := ⟨rfl, rfl, rfl, by decide +kernel, rfl, by decide +kernel, by decide +kernel⟩
theorem sc_Num_words : FnScope ["self"] ["self"] (defScope st_Num_words) := ⟨rfl, rfl, rfl, by decide +kernel, rfl, by decide +kernel, by decide +kernel⟩
theorem sc_Name___init__ : FnScope ["self", "word"] ["self", "word"] (defScope st_Name___init__) := ⟨rfl, rfl, rfl, by decide +kernel, rfl, by decide +kernel, by decide +kernel⟩
theorem sc_Name_words : FnScope ["self"] ["self"] (defScope st_Name_words) := ⟨rfl, rfl, rfl, by decide +kernel, rfl, by decide +kernel, by decide +kernel⟩
theorem sc_Two___init__ : FnScope ["self", "word", "one", "other"] ["self", "word", "one", "other"] (defScope st_Two___init__) := ⟨rfl, rfl, rfl, by decide +kernel, rfl, by decide +kernel, by decide +kernel⟩
theorem sc_Two_words : FnScope ["self"] ["self"] (defScope st_Two_words) := ⟨rfl, rfl, rfl, by decide +kernel, rfl, by decide +kernel, by decide +kernel⟩
theorem sc_Mod___init__ : FnScope ["self", "inner", "number"] ["self", "inner", "number"] (defScope st_Mod___init__) := ⟨rfl, rfl, rfl, by decide +kernel, rfl, by decide +kernel, by decide +kernel⟩
theorem sc_Mod_words : FnScope ["self"] ["self"] (defScope st_Mod_words) := ⟨rfl, rfl, rfl, by decide +kernel, rfl, by decide +kernel, by decide +kernel⟩
theorem sc_Less___init__ : FnScope ["self", "one", "other", "third", "fourth"] ["self", "one", "other", "third", "fourth"] (defScope st_Less___init__) := ⟨rfl, rfl, rfl, by decide +kernel, rfl, by decide +kernel, by decide +kernel⟩
theorem sc_Less_words : FnScope ["self"] ["self"] (defScope st_Less_words) := ⟨rfl, rfl, rfl, by decide +kernel, rfl, by decide +kernel, by decide +kernel⟩
theorem sc_Program___init__ : FnScope ["self", "start", "send", "when", "renew"] ["self", "start", "send", "when", "renew"] (defScope st_Program___init__) := ⟨rfl, rfl, rfl, by decide +kernel, rfl, by decide +kernel, by decide +kernel⟩
structure Ad where
  f_is_whole : Addr
  d_is_whole : FuncData
  f_is_short_number : Addr
  d_is_short_number : FuncData
  f_is_word_of : Addr
  d_is_word_of : FuncData
  f_is_divisor : Addr
  d_is_divisor : FuncData
  f_are_sound : Addr
  d_are_sound : FuncData
  f_is_sound : Addr
  d_is_sound : FuncData
  f_count_words : Addr
  d_count_words : FuncData
  f__law_digit : Addr
  d__law_digit : FuncData
  f__law_some : Addr
  d__law_some : FuncData
  f__law_leaf : Addr
  d__law_leaf : FuncData
  f__law_told : Addr
  d__law_told : FuncData
  f__law_made : Addr
  d__law_made : FuncData
  f__law_look : Addr
  d__law_look : FuncData
  f__law_good : Addr
  d__law_good : FuncData
  f_law : Addr
  d_law : FuncData
  f_Num___init__ : Addr
  d_Num___init__ : FuncData
  f_Num_reckon : Addr
  d_Num_reckon : FuncData
  f_Num_words : Addr
  d_Num_words : FuncData
  f_Name___init__ : Addr
  d_Name___init__ : FuncData
  f_Name_reckon : Addr
  d_Name_reckon : FuncData
  f_Name_words : Addr
  d_Name_words : FuncData
  f_Two___init__ : Addr
  d_Two___init__ : FuncData
  f_Two_reckon : Addr
  d_Two_reckon : FuncData
  f_Two_words : Addr
  d_Two_words : FuncData
  f_Mod___init__ : Addr
  d_Mod___init__ : FuncData
  f_Mod_reckon : Addr
  d_Mod_reckon : FuncData
  f_Mod_words : Addr
  d_Mod_words : FuncData
  f_Less___init__ : Addr
  d_Less___init__ : FuncData
  f_Less_reckon : Addr
  d_Less_reckon : FuncData
  f_Less_words : Addr
  d_Less_words : FuncData
  f_Program___init__ : Addr
  d_Program___init__ : FuncData
  c_Num : Addr
  c_Name : Addr
  c_Two : Addr
  c_Mod : Addr
  c_Less : Addr
  c_Program : Addr
  c_NoProgram : Addr
  t_START_NAMES : Addr
  t_SEND_NAMES : Addr
  t_RENEW_NAMES : Addr
  t_TWO_WORDS : Addr
  t_MOST_WORDS : Tok
  t_MOST_DEEP : Tok
structure Txt (K : PySem.W.Frag) (mg : Str → Option Value) (a : Ad) : Prop where
  n_len : mg "len" = none
  n_int : mg "int" = none
  n_min : mg "min" = none
  n_max : mg "max" = none
  n_range : mg "range" = none
  n_isinstance : mg "isinstance" = none
  n_zip : mg "zip" = none
  n_abs : mg "abs" = none
  n_str : mg "str" = none
  n_sum : mg "sum" = none
  n_bool : mg "bool" = none
  n_tuple : mg "tuple" = none
  n_ValueError : mg "ValueError" = none
  F_is_whole : Fun K "is_whole" "is_whole" st_is_whole a.f_is_whole a.d_is_whole
  b_is_whole : Binds K a.d_is_whole ["value"] []
  g_is_whole : mg "is_whole" = some (.ref a.f_is_whole)
  F_is_short_number : Fun K "is_short_number" "is_short_number" st_is_short_number a.f_is_short_number a.d_is_short_number
  b_is_short_number : Binds K a.d_is_short_number ["value"] []
  g_is_short_number : mg "is_short_number" = some (.ref a.f_is_short_number)
  F_is_word_of : Fun K "is_word_of" "is_word_of" st_is_word_of a.f_is_word_of a.d_is_word_of
  b_is_word_of : Binds K a.d_is_word_of ["word", "words"] []
  g_is_word_of : mg "is_word_of" = some (.ref a.f_is_word_of)
  F_is_divisor : Fun K "is_divisor" "is_divisor" st_is_divisor a.f_is_divisor a.d_is_divisor
  b_is_divisor : Binds K a.d_is_divisor ["number"] []
  g_is_divisor : mg "is_divisor" = some (.ref a.f_is_divisor)
  F_are_sound : Fun K "are_sound" "are_sound" st_are_sound a.f_are_sound a.d_are_sound
  b_are_sound : Binds K a.d_are_sound ["parts", "names", "deep"] []
  g_are_sound : mg "are_sound" = some (.ref a.f_are_sound)
  F_is_sound : Fun K "is_sound" "is_sound" st_is_sound a.f_is_sound a.d_is_sound
  b_is_sound : Binds K a.d_is_sound ["expr", "names", "deep"] []
  g_is_sound : mg "is_sound" = some (.ref a.f_is_sound)
  F_count_words : Fun K "count_words" "count_words" st_count_words a.f_count_words a.d_count_words
  b_count_words : Binds K a.d_count_words ["exprs"] []
  g_count_words : mg "count_words" = some (.ref a.f_count_words)
  F__law_digit : Fun K "_law_digit" "_law_digit" st__law_digit a.f__law_digit a.d__law_digit
  b__law_digit : Binds K a.d__law_digit ["_law_state", "_law_base"] []
  g__law_digit : mg "_law_digit" = some (.ref a.f__law_digit)
  F__law_some : Fun K "_law_some" "_law_some" st__law_some a.f__law_some a.d__law_some
  b__law_some : Binds K a.d__law_some ["_law_state", "_law_pool", "_law_seldom"] []
  g__law_some : mg "_law_some" = some (.ref a.f__law_some)
  F__law_leaf : Fun K "_law_leaf" "_law_leaf" st__law_leaf a.f__law_leaf a.d__law_leaf
  b__law_leaf : Binds K a.d__law_leaf ["_law_state", "_law_pool"] []
  g__law_leaf : mg "_law_leaf" = some (.ref a.f__law_leaf)
  F__law_told : Fun K "_law_told" "_law_told" st__law_told a.f__law_told a.d__law_told
  b__law_told : Binds K a.d__law_told ["_law_state", "_law_pool"] []
  g__law_told : mg "_law_told" = some (.ref a.f__law_told)
  F__law_made : Fun K "_law_made" "_law_made" st__law_made a.f__law_made a.d__law_made
  b__law_made : Binds K a.d__law_made ["_law_told_here"] []
  g__law_made : mg "_law_made" = some (.ref a.f__law_made)
  F__law_look : Fun K "_law_look" "_law_look" st__law_look a.f__law_look a.d__law_look
  b__law_look : Binds K a.d__law_look ["_law_told_here", "_law_names"] []
  g__law_look : mg "_law_look" = some (.ref a.f__law_look)
  F__law_good : Fun K "_law_good" "_law_good" st__law_good a.f__law_good a.d__law_good
  b__law_good : Binds K a.d__law_good ["_law_four"] []
  g__law_good : mg "_law_good" = some (.ref a.f__law_good)
  F_law : Fun K "law" "law" st_law a.f_law a.d_law
  b_law : Binds K a.d_law ["_law_script"] []
  b0_law : ∀ (s : Shared) (u : Value), BindsTo s a.d_law ⟨[u], []⟩ [("_law_script", u)]
  g_law : mg "law" = some (.ref a.f_law)
  F_Num___init__ : Fun K "__init__" "Num.__init__" st_Num___init__ a.f_Num___init__ a.d_Num___init__
  b_Num___init__ : Binds K a.d_Num___init__ ["self", "value"] []
  F_Num_reckon : Fun K "reckon" "Num.reckon" st_Num_reckon a.f_Num_reckon a.d_Num_reckon
  b_Num_reckon : Binds K a.d_Num_reckon ["self", "worths"] []
  mt_Num_reckon : Meth K a.c_Num "reckon" a.f_Num_reckon
  F_Num_words : Fun K "words" "Num.words" st_Num_words a.f_Num_words a.d_Num_words
  b_Num_words : Binds K a.d_Num_words ["self"] []
  mt_Num_words : Meth K a.c_Num "words" a.f_Num_words
  F_Name___init__ : Fun K "__init__" "Name.__init__" st_Name___init__ a.f_Name___init__ a.d_Name___init__
  b_Name___init__ : Binds K a.d_Name___init__ ["self", "word"] []
  F_Name_reckon : Fun K "reckon" "Name.reckon" st_Name_reckon a.f_Name_reckon a.d_Name_reckon
  b_Name_reckon : Binds K a.d_Name_reckon ["self", "worths"] []
  mt_Name_reckon : Meth K a.c_Name "reckon" a.f_Name_reckon
  F_Name_words : Fun K "words" "Name.words" st_Name_words a.f_Name_words a.d_Name_words
  b_Name_words : Binds K a.d_Name_words ["self"] []
  mt_Name_words : Meth K a.c_Name "words" a.f_Name_words
  F_Two___init__ : Fun K "__init__" "Two.__init__" st_Two___init__ a.f_Two___init__ a.d_Two___init__
  b_Two___init__ : Binds K a.d_Two___init__ ["self", "word", "one", "other"] []
  F_Two_reckon : Fun K "reckon" "Two.reckon" st_Two_reckon a.f_Two_reckon a.d_Two_reckon
  b_Two_reckon : Binds K a.d_Two_reckon ["self", "worths"] []
  mt_Two_reckon : Meth K a.c_Two "reckon" a.f_Two_reckon
  F_Two_words : Fun K "words" "Two.words" st_Two_words a.f_Two_words a.d_Two_words
  b_Two_words : Binds K a.d_Two_words ["self"] []
  mt_Two_words : Meth K a.c_Two "words" a.f_Two_words
  F_Mod___init__ : Fun K "__init__" "Mod.__init__" st_Mod___init__ a.f_Mod___init__ a.d_Mod___init__
  b_Mod___init__ : Binds K a.d_Mod___init__ ["self", "inner", "number"] []
  F_Mod_reckon : Fun K "reckon" "Mod.reckon" st_Mod_reckon a.f_Mod_reckon a.d_Mod_reckon
  b_Mod_reckon : Binds K a.d_Mod_reckon ["self", "worths"] []
  mt_Mod_reckon : Meth K a.c_Mod "reckon" a.f_Mod_reckon
  F_Mod_words : Fun K "words" "Mod.words" st_Mod_words a.f_Mod_words a.d_Mod_words
  b_Mod_words : Binds K a.d_Mod_words ["self"] []
  mt_Mod_words : Meth K a.c_Mod "words" a.f_Mod_words
  F_Less___init__ : Fun K "__init__" "Less.__init__" st_Less___init__ a.f_Less___init__ a.d_Less___init__
  b_Less___init__ : Binds K a.d_Less___init__ ["self", "one", "other", "third", "fourth"] []
  F_Less_reckon : Fun K "reckon" "Less.reckon" st_Less_reckon a.f_Less_reckon a.d_Less_reckon
  b_Less_reckon : Binds K a.d_Less_reckon ["self", "worths"] []
  mt_Less_reckon : Meth K a.c_Less "reckon" a.f_Less_reckon
  F_Less_words : Fun K "words" "Less.words" st_Less_words a.f_Less_words a.d_Less_words
  b_Less_words : Binds K a.d_Less_words ["self"] []
  mt_Less_words : Meth K a.c_Less "words" a.f_Less_words
  F_Program___init__ : Fun K "__init__" "Program.__init__" st_Program___init__ a.f_Program___init__ a.d_Program___init__
  b_Program___init__ : Binds K a.d_Program___init__ ["self", "start", "send", "when", "renew"] []
  g_Num : mg "Num" = some (.ref a.c_Num)
  cl_Num : Cls K a.c_Num
  mk_Num : Mk K a.c_Num a.f_Num___init__
  ty_Num : ∀ (H : Hp) (p dx : Addr) (fs : List (Str × V)), H p = some (.ins a.c_Num dx fs) → TyOf K H (.ref p) (.ref a.c_Num)
  na_Num_value : NoAttr K a.c_Num "value"
  g_Name : mg "Name" = some (.ref a.c_Name)
  cl_Name : Cls K a.c_Name
  mk_Name : Mk K a.c_Name a.f_Name___init__
  ty_Name : ∀ (H : Hp) (p dx : Addr) (fs : List (Str × V)), H p = some (.ins a.c_Name dx fs) → TyOf K H (.ref p) (.ref a.c_Name)
  na_Name_word : NoAttr K a.c_Name "word"
  g_Two : mg "Two" = some (.ref a.c_Two)
  cl_Two : Cls K a.c_Two
  mk_Two : Mk K a.c_Two a.f_Two___init__
  ty_Two : ∀ (H : Hp) (p dx : Addr) (fs : List (Str × V)), H p = some (.ins a.c_Two dx fs) → TyOf K H (.ref p) (.ref a.c_Two)
  na_Two_word : NoAttr K a.c_Two "word"
  na_Two_one : NoAttr K a.c_Two "one"
  na_Two_other : NoAttr K a.c_Two "other"
  g_Mod : mg "Mod" = some (.ref a.c_Mod)
  cl_Mod : Cls K a.c_Mod
  mk_Mod : Mk K a.c_Mod a.f_Mod___init__
  ty_Mod : ∀ (H : Hp) (p dx : Addr) (fs : List (Str × V)), H p = some (.ins a.c_Mod dx fs) → TyOf K H (.ref p) (.ref a.c_Mod)
  na_Mod_inner : NoAttr K a.c_Mod "inner"
  na_Mod_number : NoAttr K a.c_Mod "number"
  g_Less : mg "Less" = some (.ref a.c_Less)
  cl_Less : Cls K a.c_Less
  mk_Less : Mk K a.c_Less a.f_Less___init__
  ty_Less : ∀ (H : Hp) (p dx : Addr) (fs : List (Str × V)), H p = some (.ins a.c_Less dx fs) → TyOf K H (.ref p) (.ref a.c_Less)
  na_Less_one : NoAttr K a.c_Less "one"
  na_Less_other : NoAttr K a.c_Less "other"
  na_Less_third : NoAttr K a.c_Less "third"
  na_Less_fourth : NoAttr K a.c_Less "fourth"
  g_Program : mg "Program" = some (.ref a.c_Program)
  cl_Program : Cls K a.c_Program
  mk_Program : Mk K a.c_Program a.f_Program___init__
  ty_Program : ∀ (H : Hp) (p dx : Addr) (fs : List (Str × V)), H p = some (.ins a.c_Program dx fs) → TyOf K H (.ref p) (.ref a.c_Program)
  na_Program_start : NoAttr K a.c_Program "start"
  na_Program_send : NoAttr K a.c_Program "send"
  na_Program_when : NoAttr K a.c_Program "when"
  na_Program_renew : NoAttr K a.c_Program "renew"
  k_Num_Num : PySem.W.kitOne K (.ref a.c_Num) (.ref a.c_Num) = some true
  k_Name_Num : PySem.W.kitOne K (.ref a.c_Name) (.ref a.c_Num) = some false
  k_Name_Name : PySem.W.kitOne K (.ref a.c_Name) (.ref a.c_Name) = some true
  k_Two_Num : PySem.W.kitOne K (.ref a.c_Two) (.ref a.c_Num) = some false
  k_Two_Name : PySem.W.kitOne K (.ref a.c_Two) (.ref a.c_Name) = some false
  k_Two_Two : PySem.W.kitOne K (.ref a.c_Two) (.ref a.c_Two) = some true
  k_Mod_Num : PySem.W.kitOne K (.ref a.c_Mod) (.ref a.c_Num) = some false
  k_Mod_Name : PySem.W.kitOne K (.ref a.c_Mod) (.ref a.c_Name) = some false
  k_Mod_Two : PySem.W.kitOne K (.ref a.c_Mod) (.ref a.c_Two) = some false
  k_Mod_Mod : PySem.W.kitOne K (.ref a.c_Mod) (.ref a.c_Mod) = some true
  k_Less_Num : PySem.W.kitOne K (.ref a.c_Less) (.ref a.c_Num) = some false
  k_Less_Name : PySem.W.kitOne K (.ref a.c_Less) (.ref a.c_Name) = some false
  k_Less_Two : PySem.W.kitOne K (.ref a.c_Less) (.ref a.c_Two) = some false
  k_Less_Mod : PySem.W.kitOne K (.ref a.c_Less) (.ref a.c_Mod) = some false
  k_Less_Less : PySem.W.kitOne K (.ref a.c_Less) (.ref a.c_Less) = some true
  k_tint_tint : PySem.W.kitOne K (.type "int") (.type "int") = some true
  k_tint_tbool : PySem.W.kitOne K (.type "int") (.type "bool") = some false
  k_tstr_tstr : PySem.W.kitOne K (.type "str") (.type "str") = some true
  k_ttuple_ttuple : PySem.W.kitOne K (.type "tuple") (.type "tuple") = some true
  k_tint_ttuple : PySem.W.kitOne K (.type "int") (.type "tuple") = some false
  k_tstr_ttuple : PySem.W.kitOne K (.type "str") (.type "tuple") = some false
  k_tint_tstr : PySem.W.kitOne K (.type "int") (.type "str") = some false
  k_tstr_tint : PySem.W.kitOne K (.type "str") (.type "int") = some false
  k_tstr_tbool : PySem.W.kitOne K (.type "str") (.type "bool") = some false
  g_START_NAMES : mg "START_NAMES" = some (.ref a.t_START_NAMES)
  s_START_NAMES : ∀ H : Hp, SqT K H a.t_START_NAMES [V.str "me", V.str "lines"]
  g_SEND_NAMES : mg "SEND_NAMES" = some (.ref a.t_SEND_NAMES)
  s_SEND_NAMES : ∀ H : Hp, SqT K H a.t_SEND_NAMES [V.str "worth", V.str "me", V.str "round", V.str "lines", V.str "to"]
  g_RENEW_NAMES : mg "RENEW_NAMES" = some (.ref a.t_RENEW_NAMES)
  s_RENEW_NAMES : ∀ H : Hp, SqT K H a.t_RENEW_NAMES [V.str "worth", V.str "me", V.str "round", V.str "lines", V.str "sum", V.str "least", V.str "most", V.str "count"]
  g_TWO_WORDS : mg "TWO_WORDS" = some (.ref a.t_TWO_WORDS)
  s_TWO_WORDS : ∀ H : Hp, SqT K H a.t_TWO_WORDS [V.str "add", V.str "sub", V.str "min", V.str "max"]
  g_MOST_WORDS : mg "MOST_WORDS" = some (.int 60 a.t_MOST_WORDS)
  g_MOST_DEEP : mg "MOST_DEEP" = some (.int 8 a.t_MOST_DEEP)
  g_NoProgram : mg "NoProgram" = some (.ref a.c_NoProgram)
  xc_NoProgram : XCls K a.c_NoProgram
def Made (a : Ad) (H : Hp) : Ex → V → Prop
  | .num i, v => ∃ p dx, v = .ref p ∧ H p = some (.ins a.c_Num dx [("value", .int i)])
  | .name x, v => ∃ p dx, v = .ref p ∧ H p = some (.ins a.c_Name dx [("word", .str x)])
  | .two w e f, v => ∃ p dx u1 u2, v = .ref p ∧ H p = some (.ins a.c_Two dx [("word", .str w), ("one", u1), ("other", u2)]) ∧ Made a H e u1 ∧ Made a H f u2
  | .mod e n, v => ∃ p dx u1, v = .ref p ∧ H p = some (.ins a.c_Mod dx [("inner", u1), ("number", .int n)]) ∧ Made a H e u1
  | .less e f g h, v => ∃ p dx u1 u2 u3 u4, v = .ref p ∧ H p = some (.ins a.c_Less dx [("one", u1), ("other", u2), ("third", u3), ("fourth", u4)]) ∧ Made a H e u1 ∧ Made a H f u2 ∧ Made a H g u3 ∧ Made a H h u4
theorem Made.mono {a : Ad} {H H' : Hp} (k : ∀ b C dx fs, H b = some (.ins C dx fs) → H' b = some (.ins C dx fs)) : ∀ {e : Ex} {v : V}, Made a H e v → Made a H' e v
  | .num _, _, ⟨p, dx, e, h⟩ => ⟨p, dx, e, k _ _ _ _ h⟩
  | .name _, _, ⟨p, dx, e, h⟩ => ⟨p, dx, e, k _ _ _ _ h⟩
  | .two _ _ _, _, ⟨p, dx, u1, u2, e, h, t1, t2⟩ => ⟨p, dx, u1, u2, e, k _ _ _ _ h, t1.mono k, t2.mono k⟩
  | .mod _ _, _, ⟨p, dx, u1, e, h, t1⟩ => ⟨p, dx, u1, e, k _ _ _ _ h, t1.mono k⟩
  | .less _ _ _ _, _, ⟨p, dx, u1, u2, u3, u4, e, h, t1, t2, t3, t4⟩ => ⟨p, dx, u1, u2, u3, u4, e, k _ _ _ _ h, t1.mono k, t2.mono k, t3.mono k, t4.mono k⟩
theorem Made.same {a : Ad} {H H' : Hp} (k : Same H H') {e : Ex} {v : V} (t : Made a H e v) : Made a H' e v := t.mono fun b C dx fs h => k b _ h
section
variable {P : Program} {w : World} {K : PySem.W.Frag} {mg : Str → Option Value} {base : Heap} {a : Ad}
def spI1 (C : Addr) (x : Str) : Sp := fun vs H Q _ => ∃ (p dx : Addr) (v : V), vs = [.ref p, v] ∧ H p = some (.ins C dx []) ∧ Q .non (upd H p (.ins C dx [(x, v)]))
def spI2 (C : Addr) (x y : Str) : Sp := fun vs H Q _ => ∃ (p dx : Addr) (v u : V), vs = [.ref p, v, u] ∧ H p = some (.ins C dx []) ∧ Q .non (upd H p (.ins C dx [(x, v), (y, u)]))
def spI3 (C : Addr) (x y z : Str) : Sp := fun vs H Q _ => ∃ (p dx : Addr) (v u t : V), vs = [.ref p, v, u, t] ∧ H p = some (.ins C dx []) ∧ Q .non (upd H p (.ins C dx [(x, v), (y, u), (z, t)]))
def spI4 (C : Addr) (x y z o : Str) : Sp := fun vs H Q _ => ∃ (p dx : Addr) (v u t r : V), vs = [.ref p, v, u, t, r] ∧ H p = some (.ins C dx []) ∧ Q .non (upd H p (.ins C dx [(x, v), (y, u), (z, t), (o, r)]))
theorem ok_Num_init (T : Txt K mg a) : FnOk P w K mg base CX0 1 a.f_Num___init__ a.d_Num___init__ ["self", "value"] (spI1 a.c_Num "value") := by
  refine T.F_Num___init__.ok sc_Num___init__ (fun vs H Q E h => ?_) (fun cdv A outer s H vs Q E hr h => ?_)
  · obtain ⟨p, dx, v, rfl, _⟩ := h
    rfl
  · obtain ⟨p, dx, v, rfl, hp, k⟩ := h
    refine ⟨_, (pss_one (ps_fld (pv 0) (pv 1) rfl)), ?_⟩
    refine ⟨_, rfl, _, rfl, p, a.c_Num, dx, _, rfl, hp, T.cl_Num, T.na_Num_value, (by show 0 < 1000; decide), ?_⟩
    exact k
theorem ok_Name_init (T : Txt K mg a) : FnOk P w K mg base CX0 1 a.f_Name___init__ a.d_Name___init__ ["self", "word"] (spI1 a.c_Name "word") := by
  refine T.F_Name___init__.ok sc_Name___init__ (fun vs H Q E h => ?_) (fun cdv A outer s H vs Q E hr h => ?_)
  · obtain ⟨p, dx, v, rfl, _⟩ := h
    rfl
  · obtain ⟨p, dx, v, rfl, hp, k⟩ := h
    refine ⟨_, (pss_one (ps_fld (pv 0) (pv 1) rfl)), ?_⟩
    refine ⟨_, rfl, _, rfl, p, a.c_Name, dx, _, rfl, hp, T.cl_Name, T.na_Name_word, (by show 0 < 1000; decide), ?_⟩
    exact k
theorem ok_Two_init (T : Txt K mg a) : FnOk P w K mg base CX0 1 a.f_Two___init__ a.d_Two___init__ ["self", "word", "one", "other"] (spI3 a.c_Two "word" "one" "other") := by
  refine T.F_Two___init__.ok sc_Two___init__ (fun vs H Q E h => ?_) (fun cdv A outer s H vs Q E hr h => ?_)
  · obtain ⟨p, dx, v, u, t, rfl, _⟩ := h
    rfl
  · obtain ⟨p, dx, v, u, t, rfl, hp, k⟩ := h
    refine ⟨_, (pss_cons (ps_fld (pv 0) (pv 1) rfl)
      (pss_cons (ps_fld (pv 0) (pv 2) rfl)
      (pss_one (ps_fld (pv 0) (pv 3) rfl)))), ?_⟩
    refine ⟨_, rfl, _, rfl, p, a.c_Two, dx, _, rfl, hp, T.cl_Two, T.na_Two_word, (by show 0 < 1000; decide), ?_⟩
    refine ⟨_, rfl, _, rfl, p, a.c_Two, dx, _, rfl, upd_same, T.cl_Two, T.na_Two_one, (by show 1 < 1000; decide), ?_⟩
    refine ⟨_, rfl, _, rfl, p, a.c_Two, dx, _, rfl, upd_same, T.cl_Two, T.na_Two_other, (by show 2 < 1000; decide), ?_⟩
    rw [upd_upd, upd_upd]
    exact k
theorem ok_Mod_init (T : Txt K mg a) : FnOk P w K mg base CX0 1 a.f_Mod___init__ a.d_Mod___init__ ["self", "inner", "number"] (spI2 a.c_Mod "inner" "number") := by
  refine T.F_Mod___init__.ok sc_Mod___init__ (fun vs H Q E h => ?_) (fun cdv A outer s H vs Q E hr h => ?_)
  · obtain ⟨p, dx, v, u, rfl, _⟩ := h
    rfl
  · obtain ⟨p, dx, v, u, rfl, hp, k⟩ := h
    refine ⟨_, (pss_cons (ps_fld (pv 0) (pv 1) rfl)
      (pss_one (ps_fld (pv 0) (pv 2) rfl))), ?_⟩
    refine ⟨_, rfl, _, rfl, p, a.c_Mod, dx, _, rfl, hp, T.cl_Mod, T.na_Mod_inner, (by show 0 < 1000; decide), ?_⟩
    refine ⟨_, rfl, _, rfl, p, a.c_Mod, dx, _, rfl, upd_same, T.cl_Mod, T.na_Mod_number, (by show 1 < 1000; decide), ?_⟩
    rw [upd_upd]
    exact k
theorem ok_Less_init (T : Txt K mg a) : FnOk P w K mg base CX0 1 a.f_Less___init__ a.d_Less___init__ ["self", "one", "other", "third", "fourth"] (spI4 a.c_Less "one" "other" "third" "fourth") := by
  refine T.F_Less___init__.ok sc_Less___init__ (fun vs H Q E h => ?_) (fun cdv A outer s H vs Q E hr h => ?_)
  · obtain ⟨p, dx, v, u, t, r, rfl, _⟩ := h
    rfl
  · obtain ⟨p, dx, v, u, t, r, rfl, hp, k⟩ := h
    refine ⟨_, (pss_cons (ps_fld (pv 0) (pv 1) rfl)
      (pss_cons (ps_fld (pv 0) (pv 2) rfl)
      (pss_cons (ps_fld (pv 0) (pv 3) rfl)
      (pss_one (ps_fld (pv 0) (pv 4) rfl))))), ?_⟩
    refine ⟨_, rfl, _, rfl, p, a.c_Less, dx, _, rfl, hp, T.cl_Less, T.na_Less_one, (by show 0 < 1000; decide), ?_⟩
    refine ⟨_, rfl, _, rfl, p, a.c_Less, dx, _, rfl, upd_same, T.cl_Less, T.na_Less_other, (by show 1 < 1000; decide), ?_⟩
    refine ⟨_, rfl, _, rfl, p, a.c_Less, dx, _, rfl, upd_same, T.cl_Less, T.na_Less_third, (by show 2 < 1000; decide), ?_⟩
    refine ⟨_, rfl, _, rfl, p, a.c_Less, dx, _, rfl, upd_same, T.cl_Less, T.na_Less_fourth, (by show 3 < 1000; decide), ?_⟩
    rw [upd_upd, upd_upd, upd_upd]
    exact k
end
end K04

/-! K08b -/
set_option Elab.async false
set_option linter.all false
set_option maxRecDepth 100000
set_option maxHeartbeats 4000000
namespace K04
open PySem L2
section
variable {P : Program} {w : World} {K : PySem.W.Frag} {mg : Str → Option Value} {base : Heap} {a : Ad}
def spDigit : Sp := fun vs H Q _ => ∃ (l : Addr) (n : Int), vs = [.ref l, .int n] ∧ StAt H l ∧ 0 < n ∧ n.natAbs.log2 < 9000 ∧ ∀ (d : Int) (H' : Hp), 0 ≤ d → d < n → StAt H' l → Ext l H H' → Q (.int d) H'
theorem ok_digit (T : Txt K mg a) : FnOk P w K mg base CX0 1 a.f__law_digit a.d__law_digit ["_law_state", "_law_base"] spDigit := by
  refine T.F__law_digit.ok sc__law_digit (fun vs H Q E h => ?_) (fun cdv A outer s H vs Q E hr h => ?_)
  · obtain ⟨l, n, rfl, _⟩ := h
    rfl
  · obtain ⟨l, n, rfl, ⟨st, hst, ok⟩, hn, hlog, k⟩ := h
    refine ⟨_, (pss_cut (ps_if (pt_cmpR op_eq (pe_callB call_len_seq (by rfl) T.n_len bt_len (pa_cons (pv 0) pa_nil)) pe_int (nomark _))
        (pss_cons (ps_set (i := 2) sc__law_digit.nd rfl (Or.inl rfl) (pe_ix ix_list (pv 0) pe_int (fun _ _ => rfl)))
        (pss_cons (ps_asg (pe_op op_mul (pv 2) (pe_callTy call_int1 (by rfl) T.n_int bt_int (pa_cons (pe_cmpR op_ge (pv 2) (pe_op op_pow pe_int pe_int) (nomark _)) pa_nil))) (pg_sub (pv 0) pe_int set_list))
        (pss_one (ps_expr (pe_bm PySem.F.plainAttrs_list PySem.F.slot_list_extend PySem.F.type_list_extend mt_extend (pv 0) (pa_cons (pe_lst (pa_cons (pe_op op_mod (pv 2) pe_int) (pa_cons pe_int pa_nil))) pa_nil))))))
        pss_nil)
      (pss_cons (ps_if (pt_cmpR op_gt (pe_ix ix_list (pv 0) pe_int (fun _ _ => rfl)) pe_int (nomark _))
        (pss_cons (ps_set (i := 3) sc__law_digit.nd rfl (Or.inl rfl) (pe_op op_mod (pe_ix ix_list (pv 0) pe_int (fun _ _ => rfl)) (pv 1)))
        (pss_cons (ps_asg (pe_op op_fdivG (pe_ix ix_list (pv 0) pe_int (fun _ _ => rfl)) (pv 1)) (pg_sub (pv 0) pe_int set_list))
        (pss_one (ps_ret (pv 3)))))
        pss_nil)
      (pss_cons (ps_asg (pe_op op_add (pe_ix ix_list (pv 0) pe_int (fun _ _ => rfl)) pe_int) (pg_sub (pv 0) pe_int set_list))
      (pss_cons (ps_set (i := 4) sc__law_digit.nd rfl (Or.inl rfl) (pe_op op_mod (pe_op op_mul (pe_op op_add (pe_op op_add (pe_ix ix_list (pv 0) pe_int (fun _ _ => rfl)) (pe_op op_mul pe_int (pe_ix ix_list (pv 0) pe_int (fun _ _ => rfl)))) pe_int) pe_int) pe_int))
      (pss_cons (ps_set (i := 4) sc__law_digit.nd rfl (Or.inl rfl) (pe_op op_mod (pe_op op_mul (pv 4) (pe_op op_add (pe_op op_fdivG (pv 4) pe_int) pe_int)) pe_int))
      (pss_one (ps_ret (pe_op op_mod (pe_op op_mod (pe_op op_mul (pv 4) (pe_op op_add (pe_op op_fdivG (pv 4) pe_int) pe_int)) pe_int) (pv 1))))))))), ?_⟩
    refine ⟨fun σ' H' => ∃ (c0 : Option V) (x y z : Int), σ' = [some (.ref l), some (.int n), c0, none, none] ∧ H' l = some (.lst [.int x, .int y, .int z]) ∧ Ext l H H', ?_, ?_⟩
    · -- if len(_law_state) == 1:
      refine ⟨_, rfl, l, st, rfl, .inl (SqL.of hst), rfl, _, rfl, ?_⟩
      rcases ok with ⟨x, rfl⟩ | ⟨x, y, z, rfl⟩
      · refine iteB rfl ?_
        refine ⟨_, rfl, l, _, 0, _, rfl, rfl, SqL.of hst, rfl, _, rfl, _, rfl, _, _, rfl, rfl, ⟨by decide, by decide, by decide⟩, _, _, rfl, rfl, .inr ⟨_, rfl, _, _, rfl, rfl, .inr (b01 _), _, rfl, l, _, 0, 0, rfl, rfl, hst, rfl, ?_⟩⟩
        · refine ⟨_, rfl, .inl ⟨rfl, _, SqL.of upd_same⟩, _, rfl, _, _, rfl, rfl, (by show (0 : Int) < 2147483647; decide), (by show 2 ≤ sizeLine; decide), fun p hp => ?_⟩
          have hpl : p ≠ l := by
            intro z
            rw [z, upd_same] at hp
            cases hp
          have hp0 : H p = none := by rw [upd_ne hpl] at hp; exact hp
          refine ⟨l, p, [_], [_, _], rfl, rfl, (upd_ne hpl.symm).trans upd_same, upd_same, (by show 1 + 2 ≤ sizeLine; decide), ?_⟩
          refine ⟨_, _, _, _, rfl, upd_same, fun b o e nb => ?_⟩
          rw [upd_ne nb, upd_ne (ne_of_none e hp0), upd_ne nb]
          exact e
      · refine iteN rfl ?_
        exact ⟨none, x, y, z, rfl, hst, Ext.refl⟩
    · rintro σ' H1 ⟨c0, x, y, z, rfl, hst, hx⟩
      -- if _law_state[0] > 0:
      refine ⟨_, rfl, l, _, 0, _, rfl, rfl, SqL.of hst, rfl, _, _, rfl, rfl, _, rfl, ?_⟩
      refine ite2 (fun q => ?_) (fun q => ?_)
      · refine ⟨_, rfl, l, _, 0, _, rfl, rfl, SqL.of hst, rfl, _, rfl, _, _, rfl, rfl, hn, _, rfl, l, _, 0, _, rfl, rfl, SqL.of hst, rfl, _, rfl, _, _, rfl, rfl, ⟨hn, hlog⟩, _, rfl, l, _, 0, 0, rfl, rfl, hst, rfl, _, rfl, ?_⟩
        exact k _ _ (Int.emod_nonneg _ (Int.ne_of_gt hn)) (Int.emod_lt_of_pos _ hn) ⟨_, upd_same, .inr ⟨_, _, _, rfl⟩⟩ (hx.trans Ext.at)
      · refine ⟨_, rfl, l, _, 2, _, rfl, rfl, SqL.of hst, rfl, _, _, rfl, rfl, _, rfl, l, _, 2, 2, rfl, rfl, hst, rfl, ?_⟩
        refine ⟨_, rfl, l, _, 1, _, rfl, rfl, SqL.of upd_same, rfl, _, rfl, l, _, 2, _, rfl, rfl, SqL.of upd_same, rfl, _, _, rfl, rfl, .inl ⟨by decide, by decide⟩, _, _, rfl, rfl, _, _, rfl, rfl, _, _, rfl, rfl, .inr ⟨by decide, by decide⟩, _, _, rfl, rfl, (by show (0 : Int) < 2147483647; decide), ?_⟩
        generalize hv : (y + 7919 * (z + 1) + 1) * 48271 % 2147483647 = v
        have v1 : 0 ≤ v := by rw [← hv]; exact Int.emod_nonneg _ (by decide)
        have v2 : v < 2147483647 := by rw [← hv]; exact Int.emod_lt_of_pos _ (by decide)
        refine ⟨_, rfl, _, rfl, _, _, rfl, rfl, ⟨by show (0 : Int) < 1009; decide, log_1009⟩, _, _, rfl, rfl, _, _, rfl, rfl, .inl ⟨by omega, by omega⟩, _, _, rfl, rfl, (by show (0 : Int) < 2147483647; decide), ?_⟩
        generalize hu : v * (v / 1009 + 69621) % 2147483647 = u
        have u1 : 0 ≤ u := by rw [← hu]; exact Int.emod_nonneg _ (by decide)
        have u2 : u < 2147483647 := by rw [← hu]; exact Int.emod_lt_of_pos _ (by decide)
        refine ⟨_, rfl, _, rfl, _, _, rfl, rfl, ⟨by show (0 : Int) < 2003; decide, log_2003⟩, _, _, rfl, rfl, _, _, rfl, rfl, .inl ⟨by omega, by omega⟩, _, _, rfl, rfl, (by show (0 : Int) < 2147483399; decide), _, rfl, _, _, rfl, rfl, hn, ?_⟩
        exact k _ _ (Int.emod_nonneg _ (Int.ne_of_gt hn)) (Int.emod_lt_of_pos _ hn) ⟨_, upd_same, .inr ⟨_, _, _, rfl⟩⟩ (hx.trans Ext.at)
abbrev isNum (e : Ex) : Prop := ∃ i, e = .num i
abbrev isName (e : Ex) : Prop := ∃ x, e = .name x
abbrev isTwo (e : Ex) : Prop := ∃ w e1 e2, e = .two w e1 e2
abbrev isMod (e : Ex) : Prop := ∃ e1 n, e = .mod e1 n
abbrev isLess (e : Ex) : Prop := ∃ e1 e2 e3 e4, e = .less e1 e2 e3 e4
end
end K04

/-! K08g -/
set_option Elab.async false
set_option linter.all false
set_option maxRecDepth 100000
set_option maxHeartbeats 4000000
namespace K04
open PySem L2
section
variable {P : Program} {w : World} {K : PySem.W.Frag} {mg : Str → Option Value} {base : Heap} {a : Ad}
def spLf (K : PySem.W.Frag) (f : V → Bool) : Sp := fun vs H Q _ => ∃ v, vs = [v] ∧ Lf K H v ∧ Q (.bl (f v)) H
theorem ok_is_whole (T : Txt K mg a) : FnOk P w K mg base CX0 1 a.f_is_whole a.d_is_whole ["value"] (spLf K whole) := by
  refine T.F_is_whole.ok sc_is_whole (fun vs H Q E h => ?_) (fun cdv A outer s H vs Q E hr h => ?_)
  · obtain ⟨v, rfl, _⟩ := h
    rfl
  · obtain ⟨v, rfl, ⟨t, ty, k1, k2, _⟩, k⟩ := h
    refine ⟨_, (pss_one (ps_ret (pe_and (pe_callB call_isi (by rfl) T.n_isinstance bt_isinstance (pa_cons (pv 0) (pa_cons (pe_bty T.n_int bt_int) pa_nil))) (pe_one (pe_not (pe_callB call_isi (by rfl) T.n_isinstance bt_isinstance (pa_cons (pv 0) (pa_cons (pe_bty T.n_bool bt_bool) pa_nil)))))))), ?_⟩
    rw [whole_eq] at k
    refine ⟨_, rfl, _, _, _, _, _, rfl, rfl, ty, k1, _, rfl, ?_⟩
    by_cases q : isIB v = true
    · rw [q] at k
      exact iteB q ⟨_, rfl, _, _, _, _, _, rfl, rfl, ty, k2, _, rfl, k⟩
    · have q := Bool.eq_false_iff.mpr q
      rw [q] at k
      exact iteN q k
theorem ok_is_short (T : Txt K mg a) : FnOk P w K mg base CX0 2 a.f_is_short_number a.d_is_short_number ["value"] (spLf K shortN) := by
  have c_is_whole : Callee P w K mg base "is_whole" a.f_is_whole a.d_is_whole ["value"] 1 (spLf K whole) := ⟨ok_is_whole T, T.g_is_whole, T.F_is_whole.kp, T.b_is_whole⟩
  refine T.F_is_short_number.ok sc_is_short_number (fun vs H Q E h => ?_) (fun cdv A outer s H vs Q E hr h => ?_)
  · obtain ⟨v, rfl, _⟩ := h
    rfl
  · obtain ⟨v, rfl, lf, k⟩ := h
    refine ⟨_, (pss_one (ps_ret (pe_and (pe_c c_is_whole (hr.mono (by omega)) (pa_cons (pv 0) pa_nil)) (pe_one (pe_cmpR op_lt (pe_callB call_abs (by rfl) T.n_abs bt_abs (pa_cons (pv 0) pa_nil)) (pe_op op_pow pe_int pe_int) (nomark _)))))), ?_⟩
    refine ⟨_, rfl, v, rfl, lf, _, rfl, ?_⟩
    by_cases q : whole v = true
    · obtain ⟨i, rfl⟩ := whole_int q
      refine iteB q ⟨_, rfl, i, rfl, _, _, rfl, rfl, ⟨by decide, by decide, by decide⟩, _, _, rfl, rfl, ?_⟩
      rw [pow20]
      exact k
    · have q := Bool.eq_false_iff.mpr q
      refine iteN q ?_
      have e : shortN v = false := by cases v <;> first | rfl | simp [whole] at q
      rw [e] at k
      exact k
theorem ok_is_divisor (T : Txt K mg a) : FnOk P w K mg base CX0 2 a.f_is_divisor a.d_is_divisor ["number"] (spLf K divr) := by
  have c_is_whole : Callee P w K mg base "is_whole" a.f_is_whole a.d_is_whole ["value"] 1 (spLf K whole) := ⟨ok_is_whole T, T.g_is_whole, T.F_is_whole.kp, T.b_is_whole⟩
  refine T.F_is_divisor.ok sc_is_divisor (fun vs H Q E h => ?_) (fun cdv A outer s H vs Q E hr h => ?_)
  · obtain ⟨v, rfl, _⟩ := h
    rfl
  · obtain ⟨v, rfl, lf, k⟩ := h
    refine ⟨_, (pss_one (ps_ret (pe_and (pe_c c_is_whole (hr.mono (by omega)) (pa_cons (pv 0) pa_nil)) (pe_and (pe_cmpR op_ge (pv 0) pe_int (nomark _)) (pe_one (pe_cmpR op_le (pv 0) (pe_op op_pow pe_int pe_int) (nomark _))))))), ?_⟩
    refine ⟨_, rfl, v, rfl, lf, _, rfl, ?_⟩
    by_cases q : whole v = true
    · obtain ⟨i, rfl⟩ := whole_int q
      have k' : Q (.bl (decide (1 ≤ i) && decide (i ≤ 1000000000))) H := k
      refine iteB q ⟨_, rfl, _, _, rfl, rfl, _, rfl, ?_⟩
      by_cases q1 : (1 : Int) ≤ i
      · refine iteB (decide_eq_true q1) ⟨_, rfl, _, _, rfl, rfl, ⟨by decide, by decide, by decide⟩, _, _, rfl, rfl, ?_⟩
        rw [decide_eq_true q1, Bool.true_and] at k'
        rw [pow9]
        exact k'
      · refine iteN (decide_eq_false q1) ?_
        rw [decide_eq_false q1, Bool.false_and] at k'
        exact k'
    · have q := Bool.eq_false_iff.mpr q
      refine iteN q ?_
      have e : divr v = false := by cases v <;> first | rfl | simp [whole] at q
      rw [e] at k
      exact k
def spWord (K : PySem.W.Frag) : Sp := fun vs H Q _ => ∃ (v : V) (p : Addr) (ws : List Str), vs = [v, .ref p] ∧ Lf K H v ∧ SqT K H p (ws.map V.str) ∧ Q (.bl (wordIn ws v)) H
theorem ok_is_word (T : Txt K mg a) : FnOk P w K mg base CX0 1 a.f_is_word_of a.d_is_word_of ["word", "words"] (spWord K) := by
  refine T.F_is_word_of.ok sc_is_word_of (fun vs H Q E h => ?_) (fun cdv A outer s H vs Q E hr h => ?_)
  · obtain ⟨v, p, ws, rfl, _⟩ := h
    rfl
  · obtain ⟨v, p, ws, rfl, ⟨t, ty, _, _, k3⟩, hp, k⟩ := h
    refine ⟨_, (pss_one (ps_ret (pe_and (pe_callB call_isi (by rfl) T.n_isinstance bt_isinstance (pa_cons (pv 0) (pa_cons (pe_bty T.n_str bt_str) pa_nil))) (pe_one (pe_cmpR op_in_seq (pv 0) (pv 1) (by with_unfolding_all rfl)))))), ?_⟩
    refine ⟨_, rfl, _, _, _, _, _, rfl, rfl, ty, k3, _, rfl, ?_⟩
    by_cases q : isSt v = true
    · obtain ⟨x, rfl⟩ := isSt_str q
      exact iteB q ⟨_, rfl, _, rfl, p, _, rfl, .inr hp, rfl, flat_strs ws, k⟩
    · have q := Bool.eq_false_iff.mpr q
      refine iteN q ?_
      have e : wordIn ws v = false := by cases v <;> first | rfl | simp [isSt] at q
      rw [e] at k
      exact k
end
end K04

/-! K08h -/
set_option Elab.async false
set_option linter.all false
set_option maxRecDepth 100000
set_option maxHeartbeats 4000000
namespace K04
open PySem L2
theorem TyOf.same {K : PySem.W.Frag} {H H' : Hp} {v : V} {t : Value} (s : Same H H') (h : TyOf K H v t) : TyOf K H' v t := by
  cases h with
  | non => exact .non
  | bl x => exact .bl x
  | int i => exact .int i
  | str x => exact .str x
  | flt x => exact .flt x
  | lst e => exact .lst (s _ _ e)
  | frz e => exact .frz (s _ _ e)
  | tup e => exact .tup (s _ _ e)
  | dK e => exact .dK (s _ _ e)
  | dT e => exact .dT (s _ _ e)
  | ins e cl ha hn htk hm => exact .ins (s _ _ e) cl ha hn htk hm
theorem Lf.same {K : PySem.W.Frag} {H H' : Hp} {v : V} (s : Same H H') (h : Lf K H v) : Lf K H' v := by
  obtain ⟨t, ty, k⟩ := h
  exact ⟨t, TyOf.same s ty, k⟩
section
variable {P : Program} {w : World} {K : PySem.W.Frag} {mg : Str → Option Value} {base : Heap} {a : Ad}
def GMade (K : PySem.W.Frag) (a : Ad) (H : Hp) : Gx → V → Prop
  | .num v, r => ∃ p dx, r = .ref p ∧ H p = some (.ins a.c_Num dx [("value", v)]) ∧ Lf K H v
  | .name v, r => ∃ p dx, r = .ref p ∧ H p = some (.ins a.c_Name dx [("word", v)]) ∧ Lf K H v
  | .two wd e f, r => ∃ p dx u1 u2, r = .ref p ∧ H p = some (.ins a.c_Two dx [("word", wd), ("one", u1), ("other", u2)]) ∧ Lf K H wd ∧ GMade K a H e u1 ∧ GMade K a H f u2
  | .mod e n, r => ∃ p dx u1, r = .ref p ∧ H p = some (.ins a.c_Mod dx [("inner", u1), ("number", n)]) ∧ Lf K H n ∧ GMade K a H e u1
  | .less e f g h, r => ∃ p dx u1 u2 u3 u4, r = .ref p ∧ H p = some (.ins a.c_Less dx [("one", u1), ("other", u2), ("third", u3), ("fourth", u4)]) ∧ GMade K a H e u1 ∧ GMade K a H f u2 ∧ GMade K a H g u3 ∧ GMade K a H h u4
  | .oth v, r => r = v ∧ ∃ t, TyOf K H v t ∧ PySem.W.kitOne K t (.ref a.c_Num) = some false ∧ PySem.W.kitOne K t (.ref a.c_Name) = some false ∧ PySem.W.kitOne K t (.ref a.c_Two) = some false ∧ PySem.W.kitOne K t (.ref a.c_Mod) = some false ∧ PySem.W.kitOne K t (.ref a.c_Less) = some false
theorem GMade.same {H H' : Hp} (s : Same H H') : ∀ {g : Gx} {r : V}, GMade K a H g r → GMade K a H' g r
  | .num _, _, ⟨p, dx, e, h, l⟩ => ⟨p, dx, e, s _ _ h, l.same s⟩
  | .name _, _, ⟨p, dx, e, h, l⟩ => ⟨p, dx, e, s _ _ h, l.same s⟩
  | .two _ _ _, _, ⟨p, dx, u1, u2, e, h, l, t1, t2⟩ => ⟨p, dx, u1, u2, e, s _ _ h, l.same s, t1.same s, t2.same s⟩
  | .mod _ _, _, ⟨p, dx, u1, e, h, l, t1⟩ => ⟨p, dx, u1, e, s _ _ h, l.same s, t1.same s⟩
  | .less _ _ _ _, _, ⟨p, dx, u1, u2, u3, u4, e, h, t1, t2, t3, t4⟩ => ⟨p, dx, u1, u2, u3, u4, e, s _ _ h, t1.same s, t2.same s, t3.same s, t4.same s⟩
  | .oth _, _, ⟨e, t, ty, k⟩ => ⟨e, t, TyOf.same s ty, k⟩
theorem lf_int (T : Txt K mg a) {H : Hp} (i : Int) : Lf K H (.int i) := ⟨_, .int i, T.k_tint_tint, T.k_tint_tbool, T.k_tint_tstr⟩
theorem lf_str (T : Txt K mg a) {H : Hp} (x : Str) : Lf K H (.str x) := ⟨_, .str x, T.k_tstr_tint, T.k_tstr_tbool, T.k_tstr_tstr⟩
theorem Made.gx (T : Txt K mg a) {H : Hp} : ∀ {e : Ex} {r : V}, Made a H e r → GMade K a H e.gx r
  | .num i, _, ⟨p, dx, e, h⟩ => ⟨p, dx, e, h, lf_int T i⟩
  | .name x, _, ⟨p, dx, e, h⟩ => ⟨p, dx, e, h, lf_str T x⟩
  | .two w _ _, _, ⟨p, dx, u1, u2, e, h, t1, t2⟩ => ⟨p, dx, u1, u2, e, h, lf_str T w, t1.gx T, t2.gx T⟩
  | .mod _ n, _, ⟨p, dx, u1, e, h, t1⟩ => ⟨p, dx, u1, e, h, lf_int T n, t1.gx T⟩
  | .less _ _ _ _, _, ⟨p, dx, u1, u2, u3, u4, e, h, t1, t2, t3, t4⟩ => ⟨p, dx, u1, u2, u3, u4, e, h, t1.gx T, t2.gx T, t3.gx T, t4.gx T⟩
def GMs (K : PySem.W.Frag) (a : Ad) (H : Hp) (rs : List V) (gs : List Gx) : Prop := rs.length = gs.length ∧ ∀ (i : Nat) r, rs[i]? = some r → ∃ g, gs[i]? = some g ∧ GMade K a H g r
def spSound (K : PySem.W.Frag) (a : Ad) (n : Nat) : Sp := fun vs H Q _ => ∃ (g : Gx) (r : V) (nm : Addr) (names : List Str) (d : Int), vs = [r, .ref nm, .int d] ∧ GMade K a H g r ∧ (∀ H, SqT K H nm (names.map V.str)) ∧ 0 ≤ d ∧ d < n ∧ ∀ H', Same H H' → Q (.bl (g.sound names d.toNat)) H'
def spAre (K : PySem.W.Frag) (a : Ad) (n : Nat) : Sp := fun vs H Q _ => ∃ (l : Addr) (rs : List V) (gs : List Gx) (nm : Addr) (names : List Str) (d : Int), vs = [.ref l, .ref nm, .int d] ∧ H l = some (.lst rs) ∧ GMs K a H rs gs ∧ (∀ H, SqT K H nm (names.map V.str)) ∧ 0 ≤ d ∧ d < n ∧ ∀ H', Same H H' → Q (.bl (gs.all (Gx.sound names d.toNat))) H'
theorem ok_are (T : Txt K mg a) {n : Nat} (I : FnOk P w K mg base CX0 (2 * n + 1) a.f_is_sound a.d_is_sound ["expr", "names", "deep"] (spSound K a n)) : FnOk P w K mg base CX0 (2 * n + 2) a.f_are_sound a.d_are_sound ["parts", "names", "deep"] (spAre K a n) := by
  have c_is_sound : Callee P w K mg base "is_sound" a.f_is_sound a.d_is_sound ["expr", "names", "deep"] (2 * n + 1) (spSound K a n) := ⟨I, T.g_is_sound, T.F_is_sound.kp, T.b_is_sound⟩
  refine T.F_are_sound.ok sc_are_sound (fun vs H Q E h => ?_) (fun cdv A outer s H vs Q E hr h => ?_)
  · obtain ⟨l, rs, gs, nm, names, d, rfl, _⟩ := h
    rfl
  · obtain ⟨l, rs, gs, nm, names, d, rfl, hl, ⟨hlen, hgm⟩, hn, d0, d1, k⟩ := h
    refine ⟨_, (pss_cons (ps_for PassesOwn.never rfl (pi_list (pv 0)) (pg_name (i := 3) sc_are_sound.nd rfl (Or.inl rfl))
        (pss_one (ps_if (pt_not (pt_val (pe_c c_is_sound (hr.mono (by omega)) (pa_cons (pv 3) (pa_cons (pv 1) (pa_cons (pv 2) pa_nil))))))
          (pss_one (ps_ret pe_bl))
          pss_nil)))
      (pss_one (ps_ret pe_bl))), ?_⟩
    refine ⟨_, rfl, l, rfl, ⟨_, SqL.of hl⟩, ?_⟩
    refine for_list (K := K) (a := l) (xs := rs) (fun i σ H' => ∃ o, σ = [some (.ref l), some (.ref nm), some (.int d), o] ∧ Same H H' ∧ (gs.take i).all (Gx.sound names d.toNat) = true) ?_ ?_ ?_ ?_
    · exact ⟨none, rfl, Same.refl H, by simp⟩
    · rintro i σ H' _ ⟨o, _, sm, _⟩
      exact SqL.of (sm _ _ hl)
    · rintro i x σ H' hi ⟨o, rfl, sm, ha⟩
      obtain ⟨g, hg, gm⟩ := hgm i x hi
      refine ⟨_, rfl, _, rfl, _, rfl, g, x, nm, names, d, rfl, gm.same sm, hn, d0, d1, fun H1 s1 => ⟨_, rfl, ?_⟩⟩
      have hi' : i < gs.length := (List.getElem?_eq_some_iff.mp hg).1
      by_cases q : g.sound names d.toNat = true
      · refine iteN (by rw [q]; rfl) ?_
        refine ⟨_, rfl, sm.trans s1, ?_⟩
        rw [List.take_add_one, hg, List.all_append, ha]
        simp [q]
      · have q := Bool.eq_false_iff.mpr q
        refine iteB (by rw [q]; rfl) ?_
        have e : gs.all (Gx.sound names d.toNat) = false := by
          rw [List.all_eq_false]
          exact ⟨g, List.mem_of_getElem? hg, by rw [q]; simp⟩
        have := k H1 (sm.trans s1)
        rw [e] at this
        exact this
    · rintro σ H' ⟨o, rfl, sm, ha⟩
      rw [hlen, List.take_length] at ha
      have := k H' sm
      rw [ha] at this
      exact this
theorem gms2 {H : Hp} {u1 u2 : V} {g1 g2 : Gx} (h1 : GMade K a H g1 u1) (h2 : GMade K a H g2 u2) : GMs K a H [u1, u2] [g1, g2] := ⟨rfl, fun i r e => by
  match i, e with
  | 0, e => cases e; exact ⟨_, rfl, h1⟩
  | 1, e => cases e; exact ⟨_, rfl, h2⟩
  | _ + 2, e => simp at e⟩
theorem gms4 {H : Hp} {u1 u2 u3 u4 : V} {g1 g2 g3 g4 : Gx} (h1 : GMade K a H g1 u1) (h2 : GMade K a H g2 u2) (h3 : GMade K a H g3 u3) (h4 : GMade K a H g4 u4) : GMs K a H [u1, u2, u3, u4] [g1, g2, g3, g4] := ⟨rfl, fun i r e => by
  match i, e with
  | 0, e => cases e; exact ⟨_, rfl, h1⟩
  | 1, e => cases e; exact ⟨_, rfl, h2⟩
  | 2, e => cases e; exact ⟨_, rfl, h3⟩
  | 3, e => cases e; exact ⟨_, rfl, h4⟩
  | _ + 4, e => simp at e⟩
theorem ok_is_sound (T : Txt K mg a) {n : Nat} (I : FnOk P w K mg base CX0 (2 * n + 1) a.f_is_sound a.d_is_sound ["expr", "names", "deep"] (spSound K a n)) : FnOk P w K mg base CX0 (2 * n + 3) a.f_is_sound a.d_is_sound ["expr", "names", "deep"] (spSound K a (n + 1)) := by
  have c_is_sound : Callee P w K mg base "is_sound" a.f_is_sound a.d_is_sound ["expr", "names", "deep"] (2 * n + 1) (spSound K a n) := ⟨I, T.g_is_sound, T.F_is_sound.kp, T.b_is_sound⟩
  have c_are_sound : Callee P w K mg base "are_sound" a.f_are_sound a.d_are_sound ["parts", "names", "deep"] (2 * n + 2) (spAre K a n) := ⟨ok_are T I, T.g_are_sound, T.F_are_sound.kp, T.b_are_sound⟩
  have c_is_short_number : Callee P w K mg base "is_short_number" a.f_is_short_number a.d_is_short_number ["value"] 2 (spLf K shortN) := ⟨ok_is_short T, T.g_is_short_number, T.F_is_short_number.kp, T.b_is_short_number⟩
  have c_is_divisor : Callee P w K mg base "is_divisor" a.f_is_divisor a.d_is_divisor ["number"] 2 (spLf K divr) := ⟨ok_is_divisor T, T.g_is_divisor, T.F_is_divisor.kp, T.b_is_divisor⟩
  have c_is_word_of : Callee P w K mg base "is_word_of" a.f_is_word_of a.d_is_word_of ["word", "words"] 1 (spWord K) := ⟨ok_is_word T, T.g_is_word_of, T.F_is_word_of.kp, T.b_is_word_of⟩
  refine T.F_is_sound.ok sc_is_sound (fun vs H Q E h => ?_) (fun cdv A outer s H vs Q E hr h => ?_)
  · obtain ⟨g, r, nm, names, d, rfl, _⟩ := h
    rfl
  · obtain ⟨g, r, nm, names, d, rfl, gm, hn, d0, d1, k⟩ := h
    refine ⟨_, (pss_cons (ps_if (pt_cmpR op_eq (pv 2) pe_int (nomark _))
        (pss_one (ps_ret pe_bl))
        pss_nil)
      (pss_cons (ps_if (pt_val (pe_callB call_isi (by rfl) T.n_isinstance bt_isinstance (pa_cons (pv 0) (pa_cons (pe_cls T.g_Num) pa_nil))))
        (pss_one (ps_ret (pe_c c_is_short_number (hr.mono (by omega)) (pa_cons (pe_fld (pv 0) rfl) pa_nil))))
        pss_nil)
      (pss_cons (ps_if (pt_val (pe_callB call_isi (by rfl) T.n_isinstance bt_isinstance (pa_cons (pv 0) (pa_cons (pe_cls T.g_Name) pa_nil))))
        (pss_one (ps_ret (pe_c c_is_word_of (hr.mono (by omega)) (pa_cons (pe_fld (pv 0) rfl) (pa_cons (pv 1) pa_nil)))))
        pss_nil)
      (pss_cons (ps_if (pt_val (pe_callB call_isi (by rfl) T.n_isinstance bt_isinstance (pa_cons (pv 0) (pa_cons (pe_cls T.g_Two) pa_nil))))
        (pss_one (ps_ret (pe_and (pe_c c_is_word_of (hr.mono (by omega)) (pa_cons (pe_fld (pv 0) rfl) (pa_cons (pe_glob (v := .ref a.t_TWO_WORDS) rfl T.g_TWO_WORDS rfl) pa_nil))) (pe_one (pe_c c_are_sound (hr.mono (by omega)) (pa_cons (pe_lst (pa_cons (pe_fld (pv 0) rfl) (pa_cons (pe_fld (pv 0) rfl) pa_nil))) (pa_cons (pv 1) (pa_cons (pe_op op_sub (pv 2) pe_int) pa_nil))))))))
        pss_nil)
      (pss_cons (ps_if (pt_val (pe_callB call_isi (by rfl) T.n_isinstance bt_isinstance (pa_cons (pv 0) (pa_cons (pe_cls T.g_Mod) pa_nil))))
        (pss_one (ps_ret (pe_and (pe_c c_is_divisor (hr.mono (by omega)) (pa_cons (pe_fld (pv 0) rfl) pa_nil)) (pe_one (pe_c c_is_sound (hr.mono (by omega)) (pa_cons (pe_fld (pv 0) rfl) (pa_cons (pv 1) (pa_cons (pe_op op_sub (pv 2) pe_int) pa_nil))))))))
        pss_nil)
      (pss_cons (ps_if (pt_val (pe_callB call_isi (by rfl) T.n_isinstance bt_isinstance (pa_cons (pv 0) (pa_cons (pe_cls T.g_Less) pa_nil))))
        (pss_one (ps_ret (pe_c c_are_sound (hr.mono (by omega)) (pa_cons (pe_lst (pa_cons (pe_fld (pv 0) rfl) (pa_cons (pe_fld (pv 0) rfl) (pa_cons (pe_fld (pv 0) rfl) (pa_cons (pe_fld (pv 0) rfl) pa_nil))))) (pa_cons (pv 1) (pa_cons (pe_op op_sub (pv 2) pe_int) pa_nil))))))
        pss_nil)
      (pss_one (ps_ret pe_bl)))))))), ?_⟩
    refine ⟨_, rfl, rfl, _, rfl, ?_⟩
    refine ite2 (fun q => ?_) (fun q => ?_)
    · have e : d = 0 := by simpa using q
      subst e
      exact k H (Same.refl H)
    have hd : d ≠ 0 := fun e => q (by subst e; rfl)
    have e1 : d.toNat = (d - 1).toNat + 1 := by omega
    rw [e1] at k
    have b0 : 0 ≤ d - 1 := by omega
    have b1 : d - 1 < n := by omega
    cases g with
    | num v =>
      obtain ⟨p, dx, rfl, hp, lf⟩ := gm
      refine ⟨_, rfl, _, _, _, _, _, rfl, rfl, T.ty_Num H p dx _ hp, T.k_Num_Num, _, rfl, iteT ?_⟩
      exact ⟨_, rfl, p, _, dx, _, _, rfl, hp, T.cl_Num, T.na_Num_value, rfl, v, rfl, lf, k H (Same.refl H)⟩
    | name v =>
      obtain ⟨p, dx, rfl, hp, lf⟩ := gm
      refine ⟨_, rfl, _, _, _, _, _, rfl, rfl, T.ty_Name H p dx _ hp, T.k_Name_Num, _, rfl, iteF ?_⟩
      refine ⟨_, rfl, _, _, _, _, _, rfl, rfl, T.ty_Name H p dx _ hp, T.k_Name_Name, _, rfl, iteT ?_⟩
      exact ⟨_, rfl, p, _, dx, _, _, rfl, hp, T.cl_Name, T.na_Name_word, rfl, _, rfl, v, nm, names, rfl, lf, hn H, k H (Same.refl H)⟩
    | two wd g1 g2 =>
      obtain ⟨p, dx, u1, u2, rfl, hp, lf, m1, m2⟩ := gm
      refine ⟨_, rfl, _, _, _, _, _, rfl, rfl, T.ty_Two H p dx _ hp, T.k_Two_Num, _, rfl, iteF ?_⟩
      refine ⟨_, rfl, _, _, _, _, _, rfl, rfl, T.ty_Two H p dx _ hp, T.k_Two_Name, _, rfl, iteF ?_⟩
      refine ⟨_, rfl, _, _, _, _, _, rfl, rfl, T.ty_Two H p dx _ hp, T.k_Two_Two, _, rfl, iteT ?_⟩
      refine ⟨_, rfl, p, _, dx, _, _, rfl, hp, T.cl_Two, T.na_Two_word, rfl, wd, _, twoWs, rfl, lf, T.s_TWO_WORDS H, _, rfl, ?_⟩
      have k' : ∀ H', Same H H' → Q (.bl (wordIn twoWs wd && ([g1, g2].all (Gx.sound names (d - 1).toNat)))) H' := k
      by_cases qw : wordIn twoWs wd = true
      · rw [qw] at k'
        refine iteB qw ?_
        refine ⟨_, rfl, p, _, dx, _, _, rfl, hp, T.cl_Two, T.na_Two_one, rfl, _, rfl, p, _, dx, _, _, rfl, hp, T.cl_Two, T.na_Two_other, rfl, (by show 2 ≤ sizeLine; decide), fun lp hlp => ?_⟩
        have s1 := Same.new (o := HO.lst [u1, u2]) hlp
        exact ⟨_, rfl, _, rfl, _, _, rfl, rfl, lp, _, _, nm, names, d - 1, rfl, upd_same, gms2 (m1.same s1) (m2.same s1), hn, b0, b1, fun H2 s2 => k' H2 (s1.trans s2)⟩
      · have qw := Bool.eq_false_iff.mpr qw
        rw [qw] at k'
        exact iteN qw (k' H (Same.refl H))
    | mod g1 v =>
      obtain ⟨p, dx, u1, rfl, hp, lf, m1⟩ := gm
      refine ⟨_, rfl, _, _, _, _, _, rfl, rfl, T.ty_Mod H p dx _ hp, T.k_Mod_Num, _, rfl, iteF ?_⟩
      refine ⟨_, rfl, _, _, _, _, _, rfl, rfl, T.ty_Mod H p dx _ hp, T.k_Mod_Name, _, rfl, iteF ?_⟩
      refine ⟨_, rfl, _, _, _, _, _, rfl, rfl, T.ty_Mod H p dx _ hp, T.k_Mod_Two, _, rfl, iteF ?_⟩
      refine ⟨_, rfl, _, _, _, _, _, rfl, rfl, T.ty_Mod H p dx _ hp, T.k_Mod_Mod, _, rfl, iteT ?_⟩
      refine ⟨_, rfl, p, _, dx, _, _, rfl, hp, T.cl_Mod, T.na_Mod_number, rfl, v, rfl, lf, _, rfl, ?_⟩
      have k' : ∀ H', Same H H' → Q (.bl (divr v && g1.sound names (d - 1).toNat)) H' := k
      by_cases qw : divr v = true
      · rw [qw] at k'
        refine iteB qw ?_
        exact ⟨_, rfl, p, _, dx, _, _, rfl, hp, T.cl_Mod, T.na_Mod_inner, rfl, _, rfl, _, rfl, _, _, rfl, rfl, g1, u1, nm, names, d - 1, rfl, m1, hn, b0, b1, k'⟩
      · have qw := Bool.eq_false_iff.mpr qw
        rw [qw] at k'
        exact iteN qw (k' H (Same.refl H))
    | less g1 g2 g3 g4 =>
      obtain ⟨p, dx, u1, u2, u3, u4, rfl, hp, m1, m2, m3, m4⟩ := gm
      refine ⟨_, rfl, _, _, _, _, _, rfl, rfl, T.ty_Less H p dx _ hp, T.k_Less_Num, _, rfl, iteF ?_⟩
      refine ⟨_, rfl, _, _, _, _, _, rfl, rfl, T.ty_Less H p dx _ hp, T.k_Less_Name, _, rfl, iteF ?_⟩
      refine ⟨_, rfl, _, _, _, _, _, rfl, rfl, T.ty_Less H p dx _ hp, T.k_Less_Two, _, rfl, iteF ?_⟩
      refine ⟨_, rfl, _, _, _, _, _, rfl, rfl, T.ty_Less H p dx _ hp, T.k_Less_Mod, _, rfl, iteF ?_⟩
      refine ⟨_, rfl, _, _, _, _, _, rfl, rfl, T.ty_Less H p dx _ hp, T.k_Less_Less, _, rfl, iteT ?_⟩
      refine ⟨_, rfl, p, _, dx, _, _, rfl, hp, T.cl_Less, T.na_Less_one, rfl, _, rfl, p, _, dx, _, _, rfl, hp, T.cl_Less, T.na_Less_other, rfl, _, rfl, p, _, dx, _, _, rfl, hp, T.cl_Less, T.na_Less_third, rfl, _, rfl, p, _, dx, _, _, rfl, hp, T.cl_Less, T.na_Less_fourth, rfl, (by show 4 ≤ sizeLine; decide), fun lp hlp => ?_⟩
      have s1 := Same.new (o := HO.lst [u1, u2, u3, u4]) hlp
      exact ⟨_, rfl, _, rfl, _, _, rfl, rfl, lp, _, _, nm, names, d - 1, rfl, upd_same, gms4 (m1.same s1) (m2.same s1) (m3.same s1) (m4.same s1), hn, b0, b1, fun H2 s2 => k H2 (s1.trans s2)⟩
    | oth v =>
      obtain ⟨rfl, t, ty, n1, n2, n3, n4, n5⟩ := gm
      refine ⟨_, rfl, _, _, _, _, _, rfl, rfl, ty, n1, _, rfl, iteF ?_⟩
      refine ⟨_, rfl, _, _, _, _, _, rfl, rfl, ty, n2, _, rfl, iteF ?_⟩
      refine ⟨_, rfl, _, _, _, _, _, rfl, rfl, ty, n3, _, rfl, iteF ?_⟩
      refine ⟨_, rfl, _, _, _, _, _, rfl, rfl, ty, n4, _, rfl, iteF ?_⟩
      refine ⟨_, rfl, _, _, _, _, _, rfl, rfl, ty, n5, _, rfl, iteF ?_⟩
      exact k H (Same.refl H)
theorem sound0 {k : Nat} : FnOk P w K mg base CX0 k a.f_is_sound a.d_is_sound ["expr", "names", "deep"] (spSound K a 0) :=
  ⟨fun vs H Q E h => by
    obtain ⟨g, r, nm, names, d, rfl, _⟩ := h
    rfl, fun A outer s H args us vs Q E _ _ _ _ h => by
    obtain ⟨g, r, nm, names, d, _, _, _, d0, d1, _⟩ := h
    exact absurd d1 (by simp; omega)⟩
theorem sounds (T : Txt K mg a) : ∀ n, FnOk P w K mg base CX0 (2 * n + 1) a.f_is_sound a.d_is_sound ["expr", "names", "deep"] (spSound K a n)
  | 0 => sound0
  | n + 1 => ok_is_sound T (sounds T n)
end
end K04

/-! K08i -/
set_option Elab.async false
set_option linter.all false
set_option maxRecDepth 100000
set_option maxHeartbeats 4000000
namespace K04
open PySem L2
theorem log_num {i : Int} (h : -100000000000000000000 < i ∧ i < 100000000000000000000) : i.natAbs.log2 < 1920 := by
  by_cases h0 : i.natAbs = 0
  · rw [h0]; decide
  · have := (Nat.log2_lt h0 (k := 67)).mpr (Nat.lt_of_le_of_lt (show i.natAbs ≤ 100000000000000000000 by omega) (by decide))
    omega
section
variable {P : Program} {w : World} {K : PySem.W.Frag} {mg : Str → Option Value} {base : Heap} {a : Ad}
def spWords (a : Ad) (n : Nat) (Kd : Ex → Prop) : Sp := fun vs H Q _ => ∃ (e : Ex) (r : V) (names : List Str), vs = [r] ∧ Kd e ∧ Made a H e r ∧ e.ok names ∧ e.dep ≤ n ∧ e.size ≤ sizeLine ∧ ∀ p H', H' p = some (.lst (e.words.map V.str)) → Same H H' → Q (.ref p) H'
structure Wordss (P : Program) (w : World) (K : PySem.W.Frag) (mg : Str → Option Value) (base : Heap) (a : Ad) (n : Nat) : Prop where
  num : FnOk P w K mg base CX0 (n + 1) a.f_Num_words a.d_Num_words ["self"] (spWords a n isNum)
  name : FnOk P w K mg base CX0 (n + 1) a.f_Name_words a.d_Name_words ["self"] (spWords a n isName)
  two : FnOk P w K mg base CX0 (n + 1) a.f_Two_words a.d_Two_words ["self"] (spWords a n isTwo)
  mod : FnOk P w K mg base CX0 (n + 1) a.f_Mod_words a.d_Mod_words ["self"] (spWords a n isMod)
  less : FnOk P w K mg base CX0 (n + 1) a.f_Less_words a.d_Less_words ["self"] (spWords a n isLess)
theorem Wordss.call {n : Nat} (R : Wordss P w K mg base a n) (T : Txt K mg a) {A : Around} (hr : Room (n + 1) A) {H : Hp} {e : Ex} {x : V} {names : List Str} (hM : Made a H e x) (ho : e.ok names) (hd : e.dep ≤ n) (hs : e.size ≤ sizeLine) :
    ∃ (p C dx : Addr) (fs : List (Str × V)) (f : Addr) (fd : FuncData) (ps : List Str) (k : Nat) (sp : Sp), x = .ref p ∧ H p = some (.ins C dx fs) ∧ fs.lookup ("words" : Str) = none ∧ Cls K C ∧ Meth K C "words" f ∧ FnOk P w K mg base CX0 k f fd ps sp ∧ Room k A ∧ Binds K fd ps [] ∧
      ∀ Q : VK, (∀ p H', H' p = some (.lst (e.words.map V.str)) → Same H H' → Q (.ref p) H') → sp (x :: ([] ++ [])) H Q E0 := by
  cases e with
  | num i =>
    obtain ⟨p, dx, rfl, hp⟩ := id hM
    exact ⟨p, _, dx, _, _, _, _, _, _, rfl, hp, rfl, T.cl_Num, T.mt_Num_words, R.num, hr, T.b_Num_words, fun Q q => ⟨_, _, names, rfl, ⟨_, rfl⟩, hM, ho, hd, hs, q⟩⟩
  | name i =>
    obtain ⟨p, dx, rfl, hp⟩ := id hM
    exact ⟨p, _, dx, _, _, _, _, _, _, rfl, hp, rfl, T.cl_Name, T.mt_Name_words, R.name, hr, T.b_Name_words, fun Q q => ⟨_, _, names, rfl, ⟨_, rfl⟩, hM, ho, hd, hs, q⟩⟩
  | two i e1 e2 =>
    obtain ⟨p, dx, u1, u2, rfl, hp, _⟩ := id hM
    exact ⟨p, _, dx, _, _, _, _, _, _, rfl, hp, rfl, T.cl_Two, T.mt_Two_words, R.two, hr, T.b_Two_words, fun Q q => ⟨_, _, names, rfl, ⟨_, _, _, rfl⟩, hM, ho, hd, hs, q⟩⟩
  | mod e1 i =>
    obtain ⟨p, dx, u1, rfl, hp, _⟩ := id hM
    exact ⟨p, _, dx, _, _, _, _, _, _, rfl, hp, rfl, T.cl_Mod, T.mt_Mod_words, R.mod, hr, T.b_Mod_words, fun Q q => ⟨_, _, names, rfl, ⟨_, _, rfl⟩, hM, ho, hd, hs, q⟩⟩
  | less e1 e2 e3 e4 =>
    obtain ⟨p, dx, u1, u2, u3, u4, rfl, hp, _⟩ := id hM
    exact ⟨p, _, dx, _, _, _, _, _, _, rfl, hp, rfl, T.cl_Less, T.mt_Less_words, R.less, hr, T.b_Less_words, fun Q q => ⟨_, _, names, rfl, ⟨_, _, _, _, rfl⟩, hM, ho, hd, hs, q⟩⟩
theorem ok_Num_words (T : Txt K mg a) (n : Nat) : FnOk P w K mg base CX0 (n + 1) a.f_Num_words a.d_Num_words ["self"] (spWords a n isNum) := by
  refine T.F_Num_words.ok sc_Num_words (fun vs H Q E h => ?_) (fun cdv A outer s H vs Q E hr h => ?_)
  · obtain ⟨e, r, names, rfl, _⟩ := h
    rfl
  · obtain ⟨e, r, names, rfl, ⟨i, rfl⟩, ⟨p, dx, rfl, hp⟩, ho, _, _, k⟩ := h
    refine ⟨_, (pss_one (ps_ret (pe_lst (pa_cons (pe_callTy call_str_int (by rfl) T.n_str bt_str (pa_cons (pe_fld (pv 0) rfl) pa_nil)) pa_nil)))), ?_⟩
    refine ⟨_, rfl, p, _, dx, _, _, rfl, hp, T.cl_Num, T.na_Num_value, rfl, i, rfl, log_num ho, (by show 1 ≤ sizeLine; decide), fun q hq => ?_⟩
    exact k _ _ upd_same (Same.new hq)
theorem ok_Name_words (T : Txt K mg a) (n : Nat) : FnOk P w K mg base CX0 (n + 1) a.f_Name_words a.d_Name_words ["self"] (spWords a n isName) := by
  refine T.F_Name_words.ok sc_Name_words (fun vs H Q E h => ?_) (fun cdv A outer s H vs Q E hr h => ?_)
  · obtain ⟨e, r, names, rfl, _⟩ := h
    rfl
  · obtain ⟨e, r, names, rfl, ⟨i, rfl⟩, ⟨p, dx, rfl, hp⟩, ho, _, _, k⟩ := h
    refine ⟨_, (pss_one (ps_ret (pe_lst (pa_cons (pe_fld (pv 0) rfl) pa_nil)))), ?_⟩
    refine ⟨_, rfl, p, _, dx, _, _, rfl, hp, T.cl_Name, T.na_Name_word, rfl, (by show 1 ≤ sizeLine; decide), fun q hq => ?_⟩
    exact k _ _ upd_same (Same.new hq)
theorem ok_Two_words (T : Txt K mg a) {n : Nat} (R : Wordss P w K mg base a n) : FnOk P w K mg base CX0 (n + 2) a.f_Two_words a.d_Two_words ["self"] (spWords a (n + 1) isTwo) := by
  refine T.F_Two_words.ok sc_Two_words (fun vs H Q E h => ?_) (fun cdv A outer s H vs Q E hr h => ?_)
  · obtain ⟨e, r, names, rfl, _⟩ := h
    rfl
  · obtain ⟨e, r, names, rfl, ⟨wd, e1, e2, rfl⟩, ⟨p, dx, u1, u2, rfl, hp, m1, m2⟩, ⟨_, o1, o2⟩, hdep, hz, k⟩ := h
    have hdep : max e1.dep e2.dep + 1 ≤ n + 1 := hdep
    have hz : 1 + e1.size + e2.size ≤ sizeLine := hz
    have l1 := e1.words_len
    have l2 := e2.words_len
    refine ⟨_, (pss_one (ps_ret (pe_op op_cat (pe_op op_cat (pe_lst (pa_cons (pe_fld (pv 0) rfl) pa_nil)) (pe_meth0D (pe_fld (pv 0) rfl))) (pe_meth0D (pe_fld (pv 0) rfl))))), ?_⟩
    refine ⟨_, rfl, p, _, dx, _, _, rfl, hp, T.cl_Two, T.na_Two_word, rfl, (by show 1 ≤ sizeLine; decide), fun q0 hq0 => ?_⟩
    have s0 := Same.new (o := HO.lst [V.str wd]) hq0
    refine ⟨_, rfl, p, _, dx, _, _, rfl, s0 _ _ hp, T.cl_Two, T.na_Two_one, rfl, ?_⟩
    obtain ⟨p1, c1, x1, f1, f2, f3, f4, f5, f6, q1, q2, q3, q4, q5, q6, q7, q8, q9⟩ := R.call T hr (m1.same s0) o1 (by omega) (by omega)
    refine ⟨p1, c1, x1, f1, f2, f3, f4, f5, f6, q1, q2, q3, q4, q5, q6, q7, q8, q9 _ fun w1 H1 t1 s1 => ?_⟩
    refine ⟨q0, w1, _, _, rfl, rfl, s1 _ _ upd_same, t1, (by simp [l1]; omega), fun q2 hq2 => ?_⟩
    have s2 := s0.trans (s1.trans (Same.new (o := HO.lst ([V.str wd] ++ e1.words.map V.str)) hq2))
    refine ⟨_, rfl, p, _, dx, _, _, rfl, s2 _ _ hp, T.cl_Two, T.na_Two_other, rfl, ?_⟩
    obtain ⟨p1, c1, x1, f1, f2, f3, f4, f5, f6, z1, z2, z3, z4, z5, z6, z7, z8, z9⟩ := R.call T hr (m2.same s2) o2 (by omega) (by omega)
    refine ⟨p1, c1, x1, f1, f2, f3, f4, f5, f6, z1, z2, z3, z4, z5, z6, z7, z8, z9 _ fun w2 H2 t2 s3 => ?_⟩
    refine ⟨q2, w2, _, _, rfl, rfl, s3 _ _ upd_same, t2, (by simp [l1, l2]; omega), fun q4 hq4 => ?_⟩
    refine k _ _ ?_ (s2.trans (s3.trans (Same.new hq4)))
    rw [upd_same]
    simp [Ex.words]
theorem ok_Mod_words (T : Txt K mg a) {n : Nat} (R : Wordss P w K mg base a n) : FnOk P w K mg base CX0 (n + 2) a.f_Mod_words a.d_Mod_words ["self"] (spWords a (n + 1) isMod) := by
  refine T.F_Mod_words.ok sc_Mod_words (fun vs H Q E h => ?_) (fun cdv A outer s H vs Q E hr h => ?_)
  · obtain ⟨e, r, names, rfl, _⟩ := h
    rfl
  · obtain ⟨e, r, names, rfl, ⟨e1, i, rfl⟩, ⟨p, dx, u1, rfl, hp, m1⟩, ⟨⟨i1, i2⟩, o1⟩, hdep, hz, k⟩ := h
    have hdep : e1.dep + 1 ≤ n + 1 := hdep
    have hz : 2 + e1.size ≤ sizeLine := hz
    have l1 := e1.words_len
    refine ⟨_, (pss_one (ps_ret (pe_op op_cat (pe_op op_cat (pe_lst (pa_cons pe_str pa_nil)) (pe_meth0D (pe_fld (pv 0) rfl))) (pe_lst (pa_cons (pe_callTy call_str_int (by rfl) T.n_str bt_str (pa_cons (pe_fld (pv 0) rfl) pa_nil)) pa_nil))))), ?_⟩
    refine ⟨by show 1 ≤ sizeLine; decide, fun q0 hq0 => ?_⟩
    have s0 := Same.new (o := HO.lst [V.str "mod"]) hq0
    refine ⟨_, rfl, p, _, dx, _, _, rfl, s0 _ _ hp, T.cl_Mod, T.na_Mod_inner, rfl, ?_⟩
    obtain ⟨p1, c1, x1, f1, f2, f3, f4, f5, f6, q1, q2, q3, q4, q5, q6, q7, q8, q9⟩ := R.call T hr (m1.same s0) o1 (by omega) (by omega)
    refine ⟨p1, c1, x1, f1, f2, f3, f4, f5, f6, q1, q2, q3, q4, q5, q6, q7, q8, q9 _ fun w1 H1 t1 s1 => ?_⟩
    refine ⟨q0, w1, _, _, rfl, rfl, s1 _ _ upd_same, t1, (by simp [l1]; omega), fun q2 hq2 => ?_⟩
    have s2 := s0.trans (s1.trans (Same.new (o := HO.lst ([V.str "mod"] ++ e1.words.map V.str)) hq2))
    refine ⟨_, rfl, p, _, dx, _, _, rfl, s2 _ _ hp, T.cl_Mod, T.na_Mod_number, rfl, i, rfl, log_num (by omega), (by show 1 ≤ sizeLine; decide), fun q3 hq3 => ?_⟩
    refine ⟨q2, q3, _, _, rfl, rfl, (Same.new hq3) _ _ upd_same, upd_same, (by simp [l1]; omega), fun q4 hq4 => ?_⟩
    refine k _ _ ?_ (s2.trans ((Same.new hq3).trans (Same.new hq4)))
    rw [upd_same]
    simp [Ex.words]
theorem ok_Less_words (T : Txt K mg a) {n : Nat} (R : Wordss P w K mg base a n) : FnOk P w K mg base CX0 (n + 2) a.f_Less_words a.d_Less_words ["self"] (spWords a (n + 1) isLess) := by
  refine T.F_Less_words.ok sc_Less_words (fun vs H Q E h => ?_) (fun cdv A outer s H vs Q E hr h => ?_)
  · obtain ⟨e, r, names, rfl, _⟩ := h
    rfl
  · obtain ⟨e, r, names, rfl, ⟨e1, e2, e3, e4, rfl⟩, ⟨p, dx, u1, u2, u3, u4, rfl, hp, m1, m2, m3, m4⟩, ⟨o1, o2, o3, o4⟩, hdep, hz, k⟩ := h
    have hdep : max (max e1.dep e2.dep) (max e3.dep e4.dep) + 1 ≤ n + 1 := hdep
    have hz : 1 + e1.size + e2.size + e3.size + e4.size ≤ sizeLine := hz
    have l1 := e1.words_len
    have l2 := e2.words_len
    have l3 := e3.words_len
    have l4 := e4.words_len
    refine ⟨_, (pss_one (ps_ret (pe_op op_cat (pe_op op_cat (pe_op op_cat (pe_op op_cat (pe_lst (pa_cons pe_str pa_nil)) (pe_meth0D (pe_fld (pv 0) rfl))) (pe_meth0D (pe_fld (pv 0) rfl))) (pe_meth0D (pe_fld (pv 0) rfl))) (pe_meth0D (pe_fld (pv 0) rfl))))), ?_⟩
    refine ⟨by show 1 ≤ sizeLine; decide, fun q0 hq0 => ?_⟩
    have s0 := Same.new (o := HO.lst [V.str "less"]) hq0
    refine ⟨_, rfl, p, _, dx, _, _, rfl, s0 _ _ hp, T.cl_Less, T.na_Less_one, rfl, ?_⟩
    obtain ⟨p1, c1, x1, f1, f2, f3, f4, f5, f6, z1, z2, z3, z4, z5, z6, z7, z8, z9⟩ := R.call T hr (m1.same s0) o1 (by omega) (by omega)
    refine ⟨p1, c1, x1, f1, f2, f3, f4, f5, f6, z1, z2, z3, z4, z5, z6, z7, z8, z9 _ fun w1 H1 t1 y1 => ?_⟩
    refine ⟨q0, w1, _, _, rfl, rfl, y1 _ _ upd_same, t1, (by simp [l1, l2, l3, l4]; omega), fun q1 hq1 => ?_⟩
    have s1 := s0.trans (y1.trans (Same.new (o := HO.lst ([V.str "less"] ++ e1.words.map V.str)) hq1))
    refine ⟨_, rfl, p, _, dx, _, _, rfl, s1 _ _ hp, T.cl_Less, T.na_Less_other, rfl, ?_⟩
    obtain ⟨p1, c1, x1, f1, f2, f3, f4, f5, f6, z1, z2, z3, z4, z5, z6, z7, z8, z9⟩ := R.call T hr (m2.same s1) o2 (by omega) (by omega)
    refine ⟨p1, c1, x1, f1, f2, f3, f4, f5, f6, z1, z2, z3, z4, z5, z6, z7, z8, z9 _ fun w2 H2 t2 y2 => ?_⟩
    refine ⟨q1, w2, _, _, rfl, rfl, y2 _ _ upd_same, t2, (by simp [l1, l2, l3, l4]; omega), fun q2 hq2 => ?_⟩
    have s2 := s1.trans (y2.trans (Same.new (o := HO.lst (([V.str "less"] ++ e1.words.map V.str) ++ e2.words.map V.str)) hq2))
    refine ⟨_, rfl, p, _, dx, _, _, rfl, s2 _ _ hp, T.cl_Less, T.na_Less_third, rfl, ?_⟩
    obtain ⟨p1, c1, x1, f1, f2, f3, f4, f5, f6, z1, z2, z3, z4, z5, z6, z7, z8, z9⟩ := R.call T hr (m3.same s2) o3 (by omega) (by omega)
    refine ⟨p1, c1, x1, f1, f2, f3, f4, f5, f6, z1, z2, z3, z4, z5, z6, z7, z8, z9 _ fun w3 H3 t3 y3 => ?_⟩
    refine ⟨q2, w3, _, _, rfl, rfl, y3 _ _ upd_same, t3, (by simp [l1, l2, l3, l4]; omega), fun q3 hq3 => ?_⟩
    have s3 := s2.trans (y3.trans (Same.new (o := HO.lst ((([V.str "less"] ++ e1.words.map V.str) ++ e2.words.map V.str) ++ e3.words.map V.str)) hq3))
    refine ⟨_, rfl, p, _, dx, _, _, rfl, s3 _ _ hp, T.cl_Less, T.na_Less_fourth, rfl, ?_⟩
    obtain ⟨p1, c1, x1, f1, f2, f3, f4, f5, f6, z1, z2, z3, z4, z5, z6, z7, z8, z9⟩ := R.call T hr (m4.same s3) o4 (by omega) (by omega)
    refine ⟨p1, c1, x1, f1, f2, f3, f4, f5, f6, z1, z2, z3, z4, z5, z6, z7, z8, z9 _ fun w4 H4 t4 y4 => ?_⟩
    refine ⟨q3, w4, _, _, rfl, rfl, y4 _ _ upd_same, t4, (by simp [l1, l2, l3, l4]; omega), fun q4 hq4 => ?_⟩
    refine k _ _ ?_ (s3.trans (y4.trans (Same.new hq4)))
    rw [upd_same]
    simp [Ex.words]
theorem no_depW {f : Addr} {fd : FuncData} {ps : List Str} {Kd : Ex → Prop} {k : Nat} (hl : ps.length = 1) : FnOk P w K mg base CX0 k f fd ps (spWords a 0 Kd) :=
  ⟨fun vs H Q E h => by
    obtain ⟨e, r, names, rfl, _⟩ := h
    exact hl.symm, fun A outer s H args us vs Q E _ _ _ _ h => by
    obtain ⟨e, r, names, _, _, _, _, hd, _⟩ := h
    have := e.dep_pos
    omega⟩
theorem wordss (T : Txt K mg a) : ∀ n, Wordss P w K mg base a n
  | 0 => ⟨no_depW rfl, no_depW rfl, no_depW rfl, no_depW rfl, no_depW rfl⟩
  | n + 1 => ⟨ok_Num_words T (n + 1), ok_Name_words T (n + 1), ok_Two_words T (wordss T n), ok_Mod_words T (wordss T n), ok_Less_words T (wordss T n)⟩
end
end K04

/-! K08j -/
set_option Elab.async false
set_option linter.all false
set_option maxRecDepth 100000
set_option maxHeartbeats 4000000
namespace K04
open PySem L2
section
variable {P : Program} {w : World} {K : PySem.W.Frag} {mg : Str → Option Value} {base : Heap} {a : Ad}
def MadeAll (a : Ad) (H : Hp) (n : Nat) (rs : List V) (es : List Ex) : Prop := rs.length = es.length ∧ ∀ (i : Nat) r, rs[i]? = some r → ∃ e names, es[i]? = some e ∧ Made a H e r ∧ e.ok names ∧ e.dep ≤ n ∧ e.size ≤ sizeLine
def sizes (es : List Ex) : List Int := es.map fun e => (e.size : Int)
def spCount (a : Ad) (n : Nat) : Sp := fun vs H Q _ => ∃ (l : Addr) (rs : List V) (es : List Ex), vs = [.ref l] ∧ H l = some (.lst rs) ∧ rs.length ≤ 1000 ∧ MadeAll a H n rs es ∧ ∀ H', Same H H' → Q (.int (sizes es).sum) H'
theorem ok_count (T : Txt K mg a) (n : Nat) : FnOk P w K mg base CX0 (n + 2) a.f_count_words a.d_count_words ["exprs"] (spCount a n) := by
  have WW : Wordss P w K mg base a n := wordss T n
  refine T.F_count_words.ok sc_count_words (fun vs H Q E h => ?_) (fun cdv A outer s H vs Q E hr h => ?_)
  · obtain ⟨l, rs, es, rfl, _⟩ := h
    rfl
  · obtain ⟨l, rs, es, rfl, hl, hz, ⟨hlen, hm⟩, k⟩ := h
    refine ⟨_, (pss_one (ps_ret (pe_callB (call_sumI rfl) (by rfl) T.n_sum bt_sum (pa_cons (pe_comp rfl (N' := ["expr"]) (t := 1) (caps := []) ⟨rfl, rfl, rfl⟩ (pi_list (pv 0)) (fun _ => (pg_name (i := 0) (show (["expr"] : List Str).Nodup by decide +kernel) rfl (Or.inl rfl))) (fun _ => pts_nil) (fun _ => (pe_callB call_len_seq (by rfl) T.n_len bt_len (pa_cons (pe_meth0D (pv 0)) pa_nil)))) pa_nil)))), ?_⟩
    refine ⟨_, rfl, l, rfl, ⟨_, SqL.of hl⟩, fun D hD _ => ?_⟩
    refine comp_list (K := K) (a := l) (xs := rs) (fun i zs τ H' => ∃ o, τ = [o] ∧ i ≤ rs.length ∧ zs = ((sizes es).take i).map V.int ∧ H' D = some (.lst zs) ∧ Same H H') ?_ ?_ ?_ ?_
    · exact ⟨none, rfl, Nat.zero_le _, by simp, upd_same, Same.new hD⟩
    · rintro i zs τ H' ⟨o, _, _, _, _, sm⟩
      exact SqL.of (sm _ _ hl)
    · rintro i x zs τ H' hi ⟨o, rfl, _, rfl, hD', sm⟩
      obtain ⟨e, names, he, m, ok, dd, sz⟩ := hm i x hi
      have hi' : i < rs.length := (List.getElem?_eq_some_iff.mp hi).1
      refine gn_if ?_
      refine ⟨_, rfl, ?_⟩
      obtain ⟨p1, c1, x1, f1, f2, f3, f4, f5, f6, z1, z2, z3, z4, z5, z6, z7, z8, z9⟩ := WW.call T (A := A.deeper (PyProof.Rows.envOfC "count_words" (defScope st_count_words) s.heap.objs.size a.f_count_words cdv)) hr (m.same sm) ok dd sz
      refine ⟨p1, c1, x1, f1, f2, f3, f4, f5, f6, z1, z2, z3, z4, z5, z6, z7, z8, z9 _ fun p H1 t1 s1 => ?_⟩
      have ez : (sizes es)[i]? = some ((e.size : Nat) : Int) := by unfold sizes; rw [List.getElem?_map, he]; rfl
      refine ⟨p, _, rfl, .inl (SqL.of t1), s1 _ _ hD', ?_, some x, rfl, hi', ?_, upd_same, ?_⟩
      · rw [List.length_map]
        exact small1000 (Nat.le_trans (List.length_take_le _ _) (by omega))
      · rw [List.take_add_one, ez, List.map_append, List.length_map, e.words_len]
        rfl
      · have s2 := sm.trans s1
        intro b o e
        have hb : b ≠ D := ne_of_none e hD
        rw [upd_ne hb]
        exact s2 b o e
    · rintro zs τ H' ⟨o, rfl, _, rfl, hD', sm⟩
      have el : (sizes es).take rs.length = sizes es := List.take_of_length_le (by unfold sizes; rw [List.length_map, hlen]; exact Nat.le_refl _)
      rw [el] at hD'
      exact ⟨D, sizes es, rfl, SqL.of hD', k H' sm⟩
abbrev startNs : List Str := ["me", "lines"]
abbrev sendNs : List Str := ["worth", "me", "round", "lines", "to"]
abbrev renewNs : List Str := ["worth", "me", "round", "lines", "sum", "least", "most", "count"]
theorem GMade.made {H : Hp} : ∀ {e : Ex} {r : V}, GMade K a H e.gx r → Made a H e r
  | .num i, _, ⟨p, dx, e, h, _⟩ => ⟨p, dx, e, h⟩
  | .name x, _, ⟨p, dx, e, h, _⟩ => ⟨p, dx, e, h⟩
  | .two w _ _, _, ⟨p, dx, u1, u2, e, h, _, t1, t2⟩ => ⟨p, dx, u1, u2, e, h, t1.made, t2.made⟩
  | .mod _ n, _, ⟨p, dx, u1, e, h, _, t1⟩ => ⟨p, dx, u1, e, h, t1.made⟩
  | .less _ _ _ _, _, ⟨p, dx, u1, u2, u3, u4, e, h, t1, t2, t3, t4⟩ => ⟨p, dx, u1, u2, u3, u4, e, h, t1.made, t2.made, t3.made, t4.made⟩
def Good4 (g1 g2 g3 g4 : Gx) : Prop := ∃ e1 e2 e3 e4 : Ex, (g1 = e1.gx ∧ g2 = e2.gx ∧ g3 = e3.gx ∧ g4 = e4.gx) ∧ (e1.ok startNs ∧ e2.ok sendNs ∧ e3.ok sendNs ∧ e4.ok renewNs) ∧ (e1.dep ≤ 8 ∧ e2.dep ≤ 8 ∧ e3.dep ≤ 8 ∧ e4.dep ≤ 8) ∧ e1.size + e2.size + e3.size + e4.size ≤ 60
def spProg1 (K : PySem.W.Frag) (a : Ad) : Sp := fun vs H Q E => ∃ (p dx : Addr) (r1 r2 r3 r4 : V) (g1 g2 g3 g4 : Gx), vs = [.ref p, r1, r2, r3, r4] ∧ H p = some (.ins a.c_Program dx []) ∧ (GMade K a H g1 r1 ∧ GMade K a H g2 r2 ∧ GMade K a H g3 r3 ∧ GMade K a H g4 r4) ∧
  (Good4 g1 g2 g3 g4 → ∀ H', Same H H' → Q .non (upd H' p (.ins a.c_Program dx [("start", r1), ("send", r2), ("when", r3), ("renew", r4)]))) ∧ (¬ Good4 g1 g2 g3 g4 → ∀ H', Same H H' → E (.ref a.c_NoProgram) none H')
theorem ok_prog1 (T : Txt K mg a) : FnOk P w K mg base (CX1 P w) 22 a.f_Program___init__ a.d_Program___init__ ["self", "start", "send", "when", "renew"] (spProg1 K a) := by
  have c_is_sound : Callee P w K mg base "is_sound" a.f_is_sound a.d_is_sound ["expr", "names", "deep"] 19 (spSound K a 9) := ⟨sounds T 9, T.g_is_sound, T.F_is_sound.kp, T.b_is_sound⟩
  have c_are_sound : Callee P w K mg base "are_sound" a.f_are_sound a.d_are_sound ["parts", "names", "deep"] 20 (spAre K a 9) := ⟨ok_are T (sounds T 9), T.g_are_sound, T.F_are_sound.kp, T.b_are_sound⟩
  have c_count_words : Callee P w K mg base "count_words" a.f_count_words a.d_count_words ["exprs"] 10 (spCount a 8) := ⟨ok_count T 8, T.g_count_words, T.F_count_words.kp, T.b_count_words⟩
  refine T.F_Program___init__.ok1 sc_Program___init__ (fun vs H Q E h => ?_) (fun cdv A outer s H vs Q E hr h => ?_)
  · obtain ⟨p, dx, r1, r2, r3, r4, g1, g2, g3, g4, rfl, _⟩ := h
    rfl
  · obtain ⟨p, dx, r1, r2, r3, r4, g1, g2, g3, g4, rfl, hp, ⟨m1, m2, m3, m4⟩, k, kx⟩ := h
    refine ⟨_, (pss_cons (ps_if (pt_not (pt_val (pe_c c_is_sound (hr.mono (by omega)) (pa_cons (pv 1) (pa_cons (pe_glob (v := .ref a.t_START_NAMES) rfl T.g_START_NAMES rfl) (pa_cons (pe_glob (v := .int 8) rfl T.g_MOST_DEEP ⟨_, rfl⟩) pa_nil))))))
        (pss_one (ps_raise hr.hd T.xc_NoProgram T.g_NoProgram (pa_cons pe_str pa_nil)))
        pss_nil)
      (pss_cons (ps_if (pt_not (pt_val (pe_c c_are_sound (hr.mono (by omega)) (pa_cons (pe_lst (pa_cons (pv 2) (pa_cons (pv 3) pa_nil))) (pa_cons (pe_glob (v := .ref a.t_SEND_NAMES) rfl T.g_SEND_NAMES rfl) (pa_cons (pe_glob (v := .int 8) rfl T.g_MOST_DEEP ⟨_, rfl⟩) pa_nil))))))
        (pss_one (ps_raise hr.hd T.xc_NoProgram T.g_NoProgram (pa_cons pe_str pa_nil)))
        pss_nil)
      (pss_cons (ps_if (pt_not (pt_val (pe_c c_is_sound (hr.mono (by omega)) (pa_cons (pv 4) (pa_cons (pe_glob (v := .ref a.t_RENEW_NAMES) rfl T.g_RENEW_NAMES rfl) (pa_cons (pe_glob (v := .int 8) rfl T.g_MOST_DEEP ⟨_, rfl⟩) pa_nil))))))
        (pss_one (ps_raise hr.hd T.xc_NoProgram T.g_NoProgram (pa_cons pe_str pa_nil)))
        pss_nil)
      (pss_cons (ps_if (pt_cmpR op_gt (pe_c c_count_words (hr.mono (by omega)) (pa_cons (pe_lst (pa_cons (pv 1) (pa_cons (pv 2) (pa_cons (pv 3) (pa_cons (pv 4) pa_nil))))) pa_nil)) (pe_glob (v := .int 60) rfl T.g_MOST_WORDS ⟨_, rfl⟩) (nomark _))
        (pss_one (ps_raise hr.hd T.xc_NoProgram T.g_NoProgram (pa_cons pe_str pa_nil)))
        pss_nil)
      (pss_cons (ps_fld (pv 0) (pv 1) rfl)
      (pss_cons (ps_fld (pv 0) (pv 2) rfl)
      (pss_cons (ps_fld (pv 0) (pv 3) rfl)
      (pss_one (ps_fld (pv 0) (pv 4) rfl))))))))), ?_⟩
    refine ⟨_, rfl, g1, r1, _, startNs, 8, rfl, m1, T.s_START_NAMES, by decide, by decide, fun H1 s1 => ⟨_, rfl, ?_⟩⟩
    by_cases q1 : g1.sound startNs (8 : Int).toNat = true
    case neg =>
      refine iteB (by rw [Bool.not_eq_true] at q1; rw [q1]; rfl) ⟨by show 1 ≤ 1000; decide, kx ?_ H1 s1⟩
      rintro ⟨e1, e2, e3, e4, ⟨rfl, _⟩, ⟨o1, _⟩, ⟨d1, _⟩, _⟩
      exact q1 (Ex.sound o1 d1)
    refine iteN (by rw [q1]; rfl) ?_
    refine ⟨_, rfl, _, rfl, (by show 2 ≤ sizeLine; decide), fun lp hlp => ?_⟩
    have s2 := s1.trans (Same.new (o := HO.lst [r2, r3]) hlp)
    refine ⟨lp, _, _, _, sendNs, 8, rfl, upd_same, gms2 (m2.same s2) (m3.same s2), T.s_SEND_NAMES, by decide, by decide, fun H3 s3 => ⟨_, rfl, ?_⟩⟩
    have s3 := s2.trans s3
    by_cases q2 : g2.sound sendNs (8 : Int).toNat = true
    case neg =>
      refine iteB (by rw [Bool.not_eq_true] at q2; rw [List.all_cons, q2]; rfl) ⟨by show 1 ≤ 1000; decide, kx ?_ H3 s3⟩
      rintro ⟨e1, e2, e3, e4, ⟨_, rfl, _⟩, ⟨_, o1, _⟩, ⟨_, d1, _⟩, _⟩
      exact q2 (Ex.sound o1 d1)
    by_cases q3 : g3.sound sendNs (8 : Int).toNat = true
    case neg =>
      refine iteB (by rw [Bool.not_eq_true] at q3; rw [List.all_cons, List.all_cons, q2, q3]; rfl) ⟨by show 1 ≤ 1000; decide, kx ?_ H3 s3⟩
      rintro ⟨e1, e2, e3, e4, ⟨_, _, rfl, _⟩, ⟨_, _, o1, _⟩, ⟨_, _, d1, _⟩, _⟩
      exact q3 (Ex.sound o1 d1)
    refine iteN (by rw [List.all_cons, List.all_cons, q2, q3]; rfl) ?_
    refine ⟨_, rfl, g4, r4, _, renewNs, 8, rfl, m4.same s3, T.s_RENEW_NAMES, by decide, by decide, fun H4 s4 => ⟨_, rfl, ?_⟩⟩
    have s4 := s3.trans s4
    by_cases q4 : g4.sound renewNs (8 : Int).toNat = true
    case neg =>
      refine iteB (by rw [Bool.not_eq_true] at q4; rw [q4]; rfl) ⟨by show 1 ≤ 1000; decide, kx ?_ H4 s4⟩
      rintro ⟨e1, e2, e3, e4, ⟨_, _, _, rfl⟩, ⟨_, _, _, o1⟩, ⟨_, _, _, d1⟩, _⟩
      exact q4 (Ex.sound o1 d1)
    refine iteN (by rw [q4]; rfl) ?_
    obtain ⟨e1, rfl, o1, d1⟩ := Gx.of_sound q1
    obtain ⟨e2, rfl, o2, d2⟩ := Gx.of_sound q2
    obtain ⟨e3, rfl, o3, d3⟩ := Gx.of_sound q3
    obtain ⟨e4, rfl, o4, d4⟩ := Gx.of_sound q4
    have m1 := m1.made
    have m2 := m2.made
    have m3 := m3.made
    have m4 := m4.made
    refine ⟨_, rfl, _, rfl, _, rfl, _, rfl, (by show 4 ≤ sizeLine; decide), fun lq hlq => ?_⟩
    have s5 := s4.trans (Same.new (o := HO.lst [r1, r2, r3, r4]) hlq)
    refine ⟨lq, _, [e1, e2, e3, e4], rfl, upd_same, by simp, ⟨rfl, fun i r hi => ?_⟩, fun H6 s6 => ⟨_, _, rfl, rfl, _, rfl, ?_⟩⟩
    · match i, hi with
      | 0, hi => cases hi; exact ⟨e1, _, rfl, m1.same s5, o1, d1, Ex.size_line d1⟩
      | 1, hi => cases hi; exact ⟨e2, _, rfl, m2.same s5, o2, d2, Ex.size_line d2⟩
      | 2, hi => cases hi; exact ⟨e3, _, rfl, m3.same s5, o3, d3, Ex.size_line d3⟩
      | 3, hi => cases hi; exact ⟨e4, _, rfl, m4.same s5, o4, d4, Ex.size_line d4⟩
      | _ + 4, hi => simp at hi
    have s6 := s5.trans s6
    have es : (sizes [e1, e2, e3, e4]).sum = (e1.size + e2.size + e3.size + e4.size : Nat) := by
      simp [sizes]
      omega
    rw [es]
    by_cases hz : e1.size + e2.size + e3.size + e4.size ≤ 60
    case neg =>
      refine iteB (decide_eq_true (by show ((e1.size + e2.size + e3.size + e4.size : Nat) : Int) > 60; omega)) ⟨by show 1 ≤ 1000; decide, kx ?_ H6 s6⟩
      rintro ⟨f1, f2, f3, f4, ⟨h1, h2, h3, h4⟩, _, _, z⟩
      cases Ex.gx_inj h1
      cases Ex.gx_inj h2
      cases Ex.gx_inj h3
      cases Ex.gx_inj h4
      exact hz z
    refine iteN (decide_eq_false (by show ¬ ((e1.size + e2.size + e3.size + e4.size : Nat) : Int) > 60; omega)) ?_
    refine ⟨_, rfl, _, rfl, p, a.c_Program, dx, _, rfl, s6 _ _ hp, T.cl_Program, T.na_Program_start, (by show 0 < 1000; decide), ?_⟩
    refine ⟨_, rfl, _, rfl, p, a.c_Program, dx, _, rfl, upd_same, T.cl_Program, T.na_Program_send, (by show 1 < 1000; decide), ?_⟩
    refine ⟨_, rfl, _, rfl, p, a.c_Program, dx, _, rfl, upd_same, T.cl_Program, T.na_Program_when, (by show 2 < 1000; decide), ?_⟩
    refine ⟨_, rfl, _, rfl, p, a.c_Program, dx, _, rfl, upd_same, T.cl_Program, T.na_Program_renew, (by show 3 < 1000; decide), ?_⟩
    rw [upd_upd, upd_upd, upd_upd]
    exact k ⟨e1, e2, e3, e4, ⟨rfl, rfl, rfl, rfl⟩, ⟨o1, o2, o3, o4⟩, ⟨d1, d2, d3, d4⟩, hz⟩ H6 s6
end
end K04

/-! K08m -/
set_option Elab.async false
set_option linter.all false
set_option maxRecDepth 100000
set_option maxHeartbeats 4000000
namespace K04
open PySem L2
section
variable {C : Addr} {x y z o : Str} {H : Hp} {R : Addr → Hp → Prop} {E : XK} {v u t r : V}
end
theorem pickV {xs : List V} {d : Int} (h0 : 0 ≤ d) (h1 : d < xs.length) : ∃ v, atI xs d = some v ∧ v ∈ xs := by
  obtain ⟨n, rfl⟩ : ∃ n : Nat, d = n := ⟨d.toNat, by omega⟩
  have hn : n < xs.length := by omega
  exact ⟨xs[n], atI_nat (by simp [hn]), List.getElem_mem hn⟩
section
variable {P : Program} {w : World} {K : PySem.W.Frag} {mg : Str → Option Value} {base : Heap} {a : Ad}
def spSome : Sp := fun vs H Q _ => ∃ (l p q : Addr) (xs ys : List V), vs = [.ref l, .ref p, .ref q] ∧ StAt H l ∧ H p = some (.lst xs) ∧ H q = some (.lst ys) ∧ p ≠ l ∧ q ≠ l ∧ (0 < xs.length ∧ xs.length ≤ 100) ∧ (0 < ys.length ∧ ys.length ≤ 100) ∧
  ∀ (v : V) (H' : Hp), (v ∈ xs ∨ v ∈ ys) → StAt H' l → Ext l H H' → Q v H'
theorem ok_some (T : Txt K mg a) : FnOk P w K mg base CX0 2 a.f__law_some a.d__law_some ["_law_state", "_law_pool", "_law_seldom"] spSome := by
  have c__law_digit : Callee P w K mg base "_law_digit" a.f__law_digit a.d__law_digit ["_law_state", "_law_base"] 1 spDigit := ⟨ok_digit T, T.g__law_digit, T.F__law_digit.kp, T.b__law_digit⟩
  refine T.F__law_some.ok sc__law_some (fun vs H Q E h => ?_) (fun cdv A outer s H vs Q E hr h => ?_)
  · obtain ⟨l, p, q, xs, ys, rfl, _⟩ := h
    rfl
  · obtain ⟨l, p, q, xs, ys, rfl, s0, hp, hq, np, nq, ⟨x0, x1⟩, ⟨y0, y1⟩, k⟩ := h
    refine ⟨_, (pss_cons (ps_if (pt_cmpR op_eq (pe_c c__law_digit (hr.mono (by omega)) (pa_cons (pv 0) (pa_cons pe_int pa_nil))) pe_int (nomark _))
        (pss_one (ps_ret (pe_ix ix_list (pv 2) (pe_c c__law_digit (hr.mono (by omega)) (pa_cons (pv 0) (pa_cons (pe_callB call_len_seq (by rfl) T.n_len bt_len (pa_cons (pv 2) pa_nil)) pa_nil))) (fun _ _ => rfl))))
        pss_nil)
      (pss_one (ps_ret (pe_ix ix_list (pv 1) (pe_c c__law_digit (hr.mono (by omega)) (pa_cons (pv 0) (pa_cons (pe_callB call_len_seq (by rfl) T.n_len bt_len (pa_cons (pv 1) pa_nil)) pa_nil))) (fun _ _ => rfl))))), ?_⟩
    refine ⟨_, rfl, l, 24, rfl, s0, by decide, by decide, fun d H1 g1 g2 s1 e1 => ?_⟩
    refine ⟨rfl, _, rfl, ?_⟩
    refine ite2 (fun _ => ?_) (fun _ => ?_)
    · refine ⟨_, rfl, _, rfl, _, rfl, q, _, rfl, .inl (SqL.of (e1 _ _ hq nq)), l, _, rfl, s1, by omega, log_lt (m := 8) (by omega) (by omega) (by decide), fun d2 H2 g3 g4 s2 e2 => ?_⟩
      obtain ⟨v, ha, hv⟩ := pickV g3 g4
      exact ⟨q, _, _, v, rfl, rfl, SqL.of ((e1.trans e2) _ _ hq nq), ha, k v H2 (.inr hv) s2 (e1.trans e2)⟩
    · refine ⟨_, rfl, _, rfl, _, rfl, p, _, rfl, .inl (SqL.of (e1 _ _ hp np)), l, _, rfl, s1, by omega, log_lt (m := 8) (by omega) (by omega) (by decide), fun d2 H2 g3 g4 s2 e2 => ?_⟩
      obtain ⟨v, ha, hv⟩ := pickV g3 g4
      exact ⟨p, _, _, v, rfl, rfl, SqL.of ((e1.trans e2) _ _ hp np), ha, k v H2 (.inl hv) s2 (e1.trans e2)⟩
def Ex.leaf : Ex → Prop
  | .num _ => True
  | .name _ => True
  | _ => False
def spLeaf : Sp := fun vs H Q _ => ∃ (l nm : Addr) (names : List Str), vs = [.ref l, .ref nm] ∧ StAt H l ∧ H nm = some (.lst (names.map V.str)) ∧ nm ≠ l ∧ 0 < names.length ∧ names.length ≤ 100 ∧
  ∀ (e : Ex) (v : V) (H' : Hp), Told H' e v → e.leaf → StAt H' l → Ext l H H' → Q v H'
theorem ok_leaf (T : Txt K mg a) : FnOk P w K mg base CX0 3 a.f__law_leaf a.d__law_leaf ["_law_state", "_law_pool"] spLeaf := by
  have c__law_digit : Callee P w K mg base "_law_digit" a.f__law_digit a.d__law_digit ["_law_state", "_law_base"] 1 spDigit := ⟨ok_digit T, T.g__law_digit, T.F__law_digit.kp, T.b__law_digit⟩
  have c__law_some : Callee P w K mg base "_law_some" a.f__law_some a.d__law_some ["_law_state", "_law_pool", "_law_seldom"] 2 spSome := ⟨ok_some T, T.g__law_some, T.F__law_some.kp, T.b__law_some⟩
  refine T.F__law_leaf.ok sc__law_leaf (fun vs H Q E h => ?_) (fun cdv A outer s H vs Q E hr h => ?_)
  · obtain ⟨l, nm, names, rfl, _⟩ := h
    rfl
  · obtain ⟨l, nm, names, rfl, s0, hn, nn, n0, n1, k⟩ := h
    refine ⟨_, (pss_cons (ps_if (pt_cmpR op_eq (pe_c c__law_digit (hr.mono (by omega)) (pa_cons (pv 0) (pa_cons pe_int pa_nil))) pe_int (nomark _))
        (pss_one (ps_ret (pe_tup (pa_cons pe_str (pa_cons (pe_c c__law_some (hr.mono (by omega)) (pa_cons (pv 0) (pa_cons (pe_lst (pa_cons pe_int (pa_cons pe_int (pa_cons (pe_un un_neg pe_int) (pa_cons (pe_op op_sub (pe_op op_pow pe_int pe_int) pe_int) (pa_cons (pe_op op_sub pe_int (pe_op op_pow pe_int pe_int)) pa_nil)))))) (pa_cons (pe_lst (pa_cons (pe_op op_pow pe_int pe_int) (pa_cons (pe_un un_neg (pe_op op_pow pe_int pe_int)) (pa_cons (pe_op op_pow pe_int pe_int) pa_nil)))) pa_nil)))) pa_nil)))))
        pss_nil)
      (pss_one (ps_ret (pe_tup (pa_cons pe_str (pa_cons (pe_c c__law_some (hr.mono (by omega)) (pa_cons (pv 0) (pa_cons (pv 1) (pa_cons (pe_lst (pa_cons pe_str (pa_cons pe_str (pa_cons pe_str (pa_cons pe_str (pa_cons pe_str (pa_cons pe_str (pa_cons pe_str (pa_cons pe_str (pa_cons pe_str pa_nil)))))))))) pa_nil)))) pa_nil)))))), ?_⟩
    refine ⟨_, rfl, l, 3, rfl, s0, by decide, by decide, fun d H1 g1 g2 s1 e1 => ?_⟩
    refine ⟨rfl, _, rfl, ?_⟩
    refine ite2 (fun _ => ?_) (fun _ => ?_)
    · refine ⟨_, rfl, _, rfl, _, _, rfl, rfl, ⟨by decide, by decide, by decide⟩, _, _, rfl, rfl, _, _, rfl, rfl, ⟨by decide, by decide, by decide⟩, _, _, rfl, rfl, (by show 5 ≤ sizeLine; decide), fun p1 hp1 => ?_⟩
      refine ⟨_, _, rfl, rfl, ⟨by decide, by decide, by decide⟩, _, _, rfl, rfl, ⟨by decide, by decide, by decide⟩, _, rfl, _, _, rfl, rfl, ⟨by decide, by decide, by decide⟩, (by show 3 ≤ sizeLine; decide), fun p2 hp2 => ?_⟩
      refine ⟨l, p1, p2, _, _, rfl, (s1.new hp1).new hp2, (Same.new hp2) _ _ upd_same, upd_same, s1.ne hp1, (s1.new hp1).ne hp2, ⟨by simp, by simp⟩, ⟨by simp, by simp⟩, fun v H2 hv s2 e2 => ?_⟩
      refine ⟨by show 2 ≤ sizeLine; decide, fun p3 hp3 => ?_⟩
      obtain ⟨i, rfl⟩ : ∃ i : Int, v = .int i := by
        simp only [List.mem_cons, List.not_mem_nil, or_false] at hv
        rcases hv with (rfl | rfl | rfl | rfl | rfl) | rfl | rfl | rfl <;> exact ⟨_, rfl⟩
      exact k (.num i) _ _ ⟨p3, rfl, upd_same⟩ True.intro (s2.new hp3) ((((e1.trans (Ext.new hp1)).trans (Ext.new hp2)).trans e2).trans (Ext.new hp3))
    · refine ⟨_, rfl, _, rfl, (by show 9 ≤ sizeLine; decide), fun p1 hp1 => ?_⟩
      refine ⟨l, nm, p1, _, _, rfl, s1.new hp1, (Same.new hp1) _ _ (e1 _ _ hn nn), upd_same, nn, s1.ne hp1, ⟨by rw [List.length_map]; exact n0, by rw [List.length_map]; exact n1⟩, ⟨by simp, by simp⟩, fun v H2 hv s2 e2 => ?_⟩
      refine ⟨by show 2 ≤ sizeLine; decide, fun p3 hp3 => ?_⟩
      obtain ⟨x, rfl⟩ : ∃ x : Str, v = .str x := by
        rcases hv with hv | hv
        · obtain ⟨x, _, rfl⟩ := List.mem_map.mp hv
          exact ⟨x, rfl⟩
        · simp only [List.mem_cons, List.not_mem_nil, or_false] at hv
          rcases hv with rfl | rfl | rfl | rfl | rfl | rfl | rfl | rfl | rfl <;> exact ⟨_, rfl⟩
      exact k (.name x) _ _ ⟨p3, rfl, upd_same⟩ True.intro (s2.new hp3) (((e1.trans (Ext.new hp1)).trans e2).trans (Ext.new hp3))
end
end K04

/-! K08n -/
set_option Elab.async false
set_option linter.all false
set_option maxRecDepth 100000
set_option maxHeartbeats 4000000
namespace K04
open PySem L2
def Ex.wk : Ex → Prop
  | .num _ => True
  | .name _ => True
  | .two w e f => (w ≠ "num" ∧ w ≠ "name" ∧ w ≠ "mod") ∧ e.wk ∧ f.wk
  | .mod e _ => e.wk
  | .less e f g h => e.wk ∧ f.wk ∧ g.wk ∧ h.wk
theorem Ex.leaf_wk : ∀ {e : Ex}, e.leaf → e.wk ∧ e.dep = 1
  | .num _, _ => ⟨True.intro, rfl⟩
  | .name _, _ => ⟨True.intro, rfl⟩
theorem last_at {zs : List V} (h : 0 < zs.length) : ∃ v, atI zs (-1) = some v ∧ v ∈ zs := by
  have hl : zs.length - 1 < zs.length := by omega
  refine ⟨zs[zs.length - 1], ?_, List.getElem_mem hl⟩
  unfold atI ixN
  rw [if_neg (by omega), if_pos (by omega)]
  show zs[(-1 + (zs.length : Int)).toNat]? = _
  have : (-1 + (zs.length : Int)).toNat = zs.length - 1 := by omega
  rw [this]
  simp [hl]
section
variable {P : Program} {w : World} {K : PySem.W.Frag} {mg : Str → Option Value} {base : Heap} {a : Ad}
def Tolds (H : Hp) (n : Nat) (zs : List V) : Prop := ∀ v ∈ zs, ∃ e : Ex, Told H e v ∧ e.wk ∧ e.dep ≤ n
theorem Tolds.mono {H H' : Hp} {n m : Nat} {zs : List V} (h : Tolds H n zs) (hn : n ≤ m) (k : ∀ (e : Ex) v, Told H e v → Told H' e v) : Tolds H' m zs := fun v hv => by
  obtain ⟨e, t, o, d⟩ := h v hv
  exact ⟨e, k e v t, o, by omega⟩
def spTold8 : Sp := fun vs H Q _ => ∃ (l nm : Addr) (names : List Str), vs = [.ref l, .ref nm] ∧ StAt H l ∧ H nm = some (.lst (names.map V.str)) ∧ nm ≠ l ∧ 0 < names.length ∧ names.length ≤ 100 ∧
  ∀ (e : Ex) (v : V) (H' : Hp), Told H' e v → e.wk → e.dep ≤ 10 → StAt H' l → Ext l H H' → Q v H'
theorem ok_told8 (T : Txt K mg a) : FnOk P w K mg base CX0 4 a.f__law_told a.d__law_told ["_law_state", "_law_pool"] spTold8 := by
  have c__law_digit : Callee P w K mg base "_law_digit" a.f__law_digit a.d__law_digit ["_law_state", "_law_base"] 1 spDigit := ⟨ok_digit T, T.g__law_digit, T.F__law_digit.kp, T.b__law_digit⟩
  have c__law_some : Callee P w K mg base "_law_some" a.f__law_some a.d__law_some ["_law_state", "_law_pool", "_law_seldom"] 2 spSome := ⟨ok_some T, T.g__law_some, T.F__law_some.kp, T.b__law_some⟩
  have c__law_leaf : Callee P w K mg base "_law_leaf" a.f__law_leaf a.d__law_leaf ["_law_state", "_law_pool"] 3 spLeaf := ⟨ok_leaf T, T.g__law_leaf, T.F__law_leaf.kp, T.b__law_leaf⟩
  refine T.F__law_told.ok sc__law_told (fun vs H Q E h => ?_) (fun cdv A outer s H vs Q E hr h => ?_)
  · obtain ⟨l, nm, names, rfl, _⟩ := h
    rfl
  · obtain ⟨l, nm, names, rfl, s0, hn, nn, n0, n1, k⟩ := h
    refine ⟨_, (pss_cons (ps_set (i := 2) sc__law_told.nd rfl (Or.inl rfl) (pe_lst (pa_cons (pe_c c__law_leaf (hr.mono (by omega)) (pa_cons (pv 0) (pa_cons (pv 1) pa_nil))) pa_nil)))
      (pss_cons (ps_for PassesOwn.never rfl (pi_range1 rfl T.n_range (pa_cons (pe_c c__law_some (hr.mono (by omega)) (pa_cons (pv 0) (pa_cons (pe_lst (pa_cons pe_int (pa_cons pe_int (pa_cons pe_int (pa_cons pe_int (pa_cons pe_int (pa_cons pe_int pa_nil))))))) (pa_cons (pe_lst (pa_cons pe_int (pa_cons pe_int (pa_cons pe_int (pa_cons pe_int (pa_cons pe_int (pa_cons pe_int pa_nil))))))) pa_nil)))) pa_nil)) (pg_name (i := 3) sc__law_told.nd rfl (Or.inl rfl))
        (pss_cons (ps_set (i := 4) sc__law_told.nd rfl (Or.inl rfl) (pe_c c__law_digit (hr.mono (by omega)) (pa_cons (pv 0) (pa_cons pe_int pa_nil))))
        (pss_cons (ps_set (i := 5) sc__law_told.nd rfl (Or.inl rfl) (pe_ix ix_list (pv 2) (pe_un un_neg pe_int) (fun _ _ => rfl)))
        (pss_cons (ps_set (i := 6) sc__law_told.nd rfl (Or.inl rfl) (pe_ix ix_list (pv 2) (pe_c c__law_digit (hr.mono (by omega)) (pa_cons (pv 0) (pa_cons (pe_callB call_len_seq (by rfl) T.n_len bt_len (pa_cons (pv 2) pa_nil)) pa_nil))) (fun _ _ => rfl)))
        (pss_one (ps_if (pt_cmpR op_lt (pv 4) pe_int (nomark _))
          (pss_one (ps_expr (pe_bm PySem.F.plainAttrs_list PySem.F.slot_list_append PySem.F.type_list_append mt_append (pv 2) (pa_cons (pe_tup (pa_cons pe_str (pa_cons (pv 5) (pa_cons (pe_c c__law_some (hr.mono (by omega)) (pa_cons (pv 0) (pa_cons (pe_lst (pa_cons pe_int (pa_cons pe_int (pa_cons (pe_op op_pow pe_int pe_int) pa_nil)))) (pa_cons (pe_lst (pa_cons pe_int (pa_cons (pe_un un_neg pe_int) (pa_cons (pe_op op_add (pe_op op_pow pe_int pe_int) pe_int) pa_nil)))) pa_nil)))) pa_nil)))) pa_nil))))
          (pss_one (ps_if (pt_cmpR op_lt (pv 4) pe_int (nomark _))
            (pss_cons (ps_set (i := 7) sc__law_told.nd rfl (Or.inl rfl) (pe_c c__law_some (hr.mono (by omega)) (pa_cons (pv 0) (pa_cons (pe_lst (pa_cons pe_str (pa_cons pe_str (pa_cons pe_str (pa_cons pe_str pa_nil))))) (pa_cons (pe_lst (pa_cons pe_str (pa_cons pe_str (pa_cons pe_str pa_nil)))) pa_nil)))))
            (pss_one (ps_expr (pe_bm PySem.F.plainAttrs_list PySem.F.slot_list_append PySem.F.type_list_append mt_append (pv 2) (pa_cons (pe_tup (pa_cons (pv 7) (pa_cons (pv 5) (pa_cons (pe_ix ix_list (pe_lst (pa_cons (pv 6) (pa_cons (pe_c c__law_leaf (hr.mono (by omega)) (pa_cons (pv 0) (pa_cons (pv 1) pa_nil))) pa_nil))) (pe_c c__law_digit (hr.mono (by omega)) (pa_cons (pv 0) (pa_cons pe_int pa_nil))) (fun _ _ => rfl)) pa_nil)))) pa_nil)))))
            (pss_one (ps_expr (pe_bm PySem.F.plainAttrs_list PySem.F.slot_list_append PySem.F.type_list_append mt_append (pv 2) (pa_cons (pe_tup (pa_cons pe_str (pa_cons (pe_c c__law_leaf (hr.mono (by omega)) (pa_cons (pv 0) (pa_cons (pv 1) pa_nil))) (pa_cons (pv 5) (pa_cons (pe_tup (pa_cons pe_str (pa_cons pe_int pa_nil))) (pa_cons (pe_c c__law_leaf (hr.mono (by omega)) (pa_cons (pv 0) (pa_cons (pv 1) pa_nil))) pa_nil)))))) pa_nil))))))))))))
      (pss_one (ps_ret (pe_ix ix_list (pv 2) (pe_un un_neg pe_int) (fun _ _ => rfl)))))), ?_⟩
    -- _law_told_here = [_law_leaf(_law_state, _law_pool)]
    refine ⟨_, rfl, _, rfl, l, nm, names, rfl, s0, hn, nn, n0, n1, fun e1 v1 H1 t1 f1 s1 x1 => ?_⟩
    refine ⟨by show 1 ≤ sizeLine; decide, fun D hD => ?_⟩
    have nD := s1.ne hD
    -- range
    refine ⟨_, rfl, (by show 6 ≤ sizeLine; decide), fun p1 hp1 => ?_⟩
    refine ⟨by show 6 ≤ sizeLine; decide, fun p2 hp2 => ?_⟩
    refine ⟨l, p1, p2, _, _, rfl, ((s1.new hD).new hp1).new hp2, (Same.new hp2) _ _ upd_same, upd_same, (s1.new hD).ne hp1, ((s1.new hD).new hp1).ne hp2, ⟨by simp, by simp⟩, ⟨by simp, by simp⟩, fun v H2 hv s2 x2 => ?_⟩
    obtain ⟨m, rfl, hm⟩ : ∃ m : Nat, v = .int m ∧ m ≤ 9 := by
      simp only [List.mem_cons, List.not_mem_nil, or_false] at hv
      rcases hv with (rfl | rfl | rfl | rfl | rfl | rfl) | rfl | rfl | rfl | rfl | rfl | rfl
      · exact ⟨0, rfl, by decide⟩
      · exact ⟨1, rfl, by decide⟩
      · exact ⟨2, rfl, by decide⟩
      · exact ⟨3, rfl, by decide⟩
      · exact ⟨4, rfl, by decide⟩
      · exact ⟨5, rfl, by decide⟩
      · exact ⟨6, rfl, by decide⟩
      · exact ⟨7, rfl, by decide⟩
      · exact ⟨8, rfl, by decide⟩
      · exact ⟨9, rfl, by decide⟩
      · exact ⟨7, rfl, by decide⟩
      · exact ⟨8, rfl, by decide⟩
    have X2 : Ext l (upd H1 D (HO.lst [v1])) H2 := ((Ext.new hp1).trans (Ext.new hp2)).trans x2
    have hD2 := X2 _ _ upd_same nD
    have hn2 := X2 _ _ ((Same.new hD) _ _ (x1 _ _ hn nn)) nn
    have t2 : Told H2 e1 v1 := (t1.same (Same.new (o := HO.lst [v1]) hD)).ext (s1.new hD) X2
    have XX : Ext l H H2 := (x1.trans (Ext.new hD)).trans X2
    have fD : H D = none := by
      cases e : H D with
      | none => rfl
      | some o => rw [x1 _ _ e nD] at hD; cases hD
    refine ⟨m, rfl, by omega, by omega, ?_⟩
    refine for_range (lo := 0) (n := (m : Int).toNat) (fun i σ H' => ∃ (zs : List V) (o3 o4 o5 o6 o7 : Option V), σ = [some (.ref l), some (.ref nm), some (.ref D), o3, o4, o5, o6, o7] ∧ H' D = some (.lst zs) ∧ (0 < zs.length ∧ zs.length ≤ i + 1) ∧ Tolds H' (i + 1) zs ∧ StAt H' l ∧ H' nm = some (.lst (names.map V.str)) ∧ Ext l H H') ?_ ?_ ?_
    · refine ⟨[v1], none, none, none, none, none, rfl, hD2, ⟨by simp, by simp⟩, fun v hv => ?_, s2, hn2, XX⟩
      rw [List.mem_singleton.mp hv]
      obtain ⟨w1, d1⟩ := Ex.leaf_wk f1
      exact ⟨e1, t2, w1, by omega⟩
    · rintro i σ H3 hi ⟨zs, o3, o4, o5, o6, o7, rfl, hD3, ⟨z0, z1⟩, tz, s3, hn3, x3⟩
      have hi9 : i < 9 := by omega
      -- _law_kind
      refine ⟨_, rfl, l, 5, rfl, s3, by decide, by decide, fun kd H4 g1 g2 s4 x4 => ?_⟩
      have hD4 := x4 _ _ hD3 nD
      -- _law_one
      obtain ⟨v1', ha1, hv1⟩ := last_at z0
      refine ⟨_, rfl, _, rfl, D, _, _, v1', rfl, rfl, SqL.of hD4, ha1, ?_⟩
      -- _law_other
      refine ⟨_, rfl, _, rfl, _, rfl, D, _, rfl, .inl (SqL.of hD4), l, _, rfl, s4, by omega, log_lt (m := 8) (by omega) (by omega) (by decide), fun d2 H5 g3 g4 s5 x5 => ?_⟩
      obtain ⟨v2', ha2, hv2⟩ := pickV g3 g4
      have X5 := x4.trans x5
      have hD5 := X5 _ _ hD3 nD
      have hn5 := X5 _ _ hn3 nn
      refine ⟨D, _, _, v2', rfl, rfl, SqL.of hD5, ha2, ?_⟩
      have tz5 : Tolds H5 (i + 1) zs := tz.mono (Nat.le_refl _) fun e v t => t.ext s3 X5
      have x5' : Ext l H H5 := x3.trans X5
      obtain ⟨ea, ta, wa, da⟩ := tz5 v1' hv1
      obtain ⟨eb, tb, wb, db⟩ := tz5 v2' hv2
      -- what is appended
      have app : ∀ (H6 : Hp) (e : Ex) (v : V) (q3 q4 q5 q6 q7 : Option V), Ext l H5 H6 → StAt H6 l → Told H6 e v → e.wk → e.dep ≤ i + 2 → H6 D = some (.lst zs) →
          ∃ (zs' : List V) (o3 o4 o5 o6 o7 : Option V), [some (V.ref l), some (V.ref nm), some (V.ref D), q3, q4, q5, q6, q7] = [some (.ref l), some (.ref nm), some (.ref D), o3, o4, o5, o6, o7] ∧ upd H6 D (.lst (zs ++ [v])) D = some (.lst zs') ∧ (0 < zs'.length ∧ zs'.length ≤ i + 1 + 1) ∧ Tolds (upd H6 D (.lst (zs ++ [v]))) (i + 1 + 1) zs' ∧ StAt (upd H6 D (.lst (zs ++ [v]))) l ∧ upd H6 D (.lst (zs ++ [v])) nm = some (.lst (names.map V.str)) ∧ Ext l H (upd H6 D (.lst (zs ++ [v]))) := by
        intro H6 e v q3 q4 q5 q6 q7 x6 s6 t6 w6 d6 hD6
        refine ⟨zs ++ [v], q3, q4, q5, q6, q7, rfl, upd_same, ⟨by simp, by simp; omega⟩, fun u hu => ?_, ?_, ?_, ?_⟩
        · rcases List.mem_append.mp hu with hu | hu
          · obtain ⟨e', t', w', d'⟩ := tz5 u hu
            exact ⟨e', (t'.ext s5 x6).updL hD6, w', by omega⟩
          · rw [List.mem_singleton.mp hu]
            exact ⟨e, t6.updL hD6, w6, by omega⟩
        · obtain ⟨st, e0, ok⟩ := s6
          exact ⟨st, by rw [upd_ne nD.symm]; exact e0, ok⟩
        · have : nm ≠ D := by
            intro z
            rw [z, fD] at hn
            cases hn
          rw [upd_ne this]
          exact x6 _ _ hn5 nn
        · intro b o e0 nb
          rw [upd_ne (ne_of_none e0 fD)]
          exact (x5'.trans x6) b o e0 nb
      -- the kinds
      refine ⟨_, rfl, _, _, rfl, rfl, _, rfl, ?_⟩
      refine ite2 (fun _ => ?_) (fun _ => ?_)
      · refine ⟨_, rfl, .inl ⟨rfl, _, SqL.of hD5⟩, _, rfl, _, rfl, _, _, rfl, rfl, ⟨by decide, by decide, by decide⟩, (by show 3 ≤ sizeLine; decide), fun q1 hq1 => ?_⟩
        refine ⟨_, rfl, _, _, rfl, rfl, ⟨by decide, by decide, by decide⟩, _, _, rfl, rfl, (by show 3 ≤ sizeLine; decide), fun q2 hq2 => ?_⟩
        refine ⟨l, q1, q2, _, _, rfl, (s5.new hq1).new hq2, (Same.new hq2) _ _ upd_same, upd_same, s5.ne hq1, (s5.new hq1).ne hq2, ⟨by simp, by simp⟩, ⟨by simp, by simp⟩, fun v H6 hv s6 x6 => ?_⟩
        obtain ⟨j, rfl⟩ : ∃ j : Int, v = .int j := by
          simp only [List.mem_cons, List.not_mem_nil, or_false] at hv
          rcases hv with (rfl | rfl | rfl) | rfl | rfl | rfl <;> exact ⟨_, rfl⟩
        have X6 : Ext l H5 H6 := ((Ext.new hq1).trans (Ext.new hq2)).trans x6
        refine ⟨by show 3 ≤ sizeLine; decide, fun q3 hq3 => ?_⟩
        have y3 := Same.new (o := HO.tup [V.str "mod", v1', V.int j]) hq3
        have hD6 := X6 _ _ hD5 nD
        refine ⟨D, _, _, rfl, rfl, y3 _ _ hD6, small1000 (by omega), ?_⟩
        exact app _ (.mod ea j) _ _ _ _ _ _ (X6.trans (Ext.same y3)) (s6.same y3) ⟨q3, v1', rfl, upd_same, (ta.ext s5 X6).same y3⟩ wa (by show ea.dep + 1 ≤ i + 2; omega) (y3 _ _ hD6)
      refine ⟨_, rfl, _, _, rfl, rfl, _, rfl, ?_⟩
      refine ite2 (fun _ => ?_) (fun _ => ?_)
      · refine ⟨_, rfl, (by show 4 ≤ sizeLine; decide), fun q1 hq1 => ?_⟩
        refine ⟨by show 3 ≤ sizeLine; decide, fun q2 hq2 => ?_⟩
        refine ⟨l, q1, q2, _, _, rfl, (s5.new hq1).new hq2, (Same.new hq2) _ _ upd_same, upd_same, s5.ne hq1, (s5.new hq1).ne hq2, ⟨by simp, by simp⟩, ⟨by simp, by simp⟩, fun v H6 hv s6 x6 => ?_⟩
        obtain ⟨wd, rfl, hw⟩ : ∃ wd : Str, v = .str wd ∧ (wd ≠ "num" ∧ wd ≠ "name" ∧ wd ≠ "mod") := by
          simp only [List.mem_cons, List.not_mem_nil, or_false] at hv
          rcases hv with (rfl | rfl | rfl | rfl) | rfl | rfl | rfl <;> exact ⟨_, rfl, by decide +kernel, by decide +kernel, by decide +kernel⟩
        have X6 : Ext l H5 H6 := ((Ext.new hq1).trans (Ext.new hq2)).trans x6
        have hD6 := X6 _ _ hD5 nD
        refine ⟨_, rfl, .inl ⟨rfl, _, SqL.of hD6⟩, _, rfl, _, rfl, _, rfl, _, rfl, _, rfl, l, nm, names, rfl, s6, X6 _ _ hn5 nn, nn, n0, n1, fun ec vc H7 tc fc s7 x7 => ?_⟩
        have X7 := X6.trans x7
        refine ⟨by show 2 ≤ sizeLine; decide, fun q3 hq3 => ?_⟩
        have y3 := Same.new (o := HO.lst [v2', vc]) hq3
        refine ⟨_, rfl, l, 2, rfl, s7.new hq3, by decide, by decide, fun d3 H8 g5 g6 s8 x8 => ?_⟩
        obtain ⟨v3, ha3, hv3⟩ := pickV (xs := [v2', vc]) g5 g6
        have nq3 := s7.ne hq3
        refine ⟨q3, _, _, v3, rfl, rfl, SqL.of (x8 _ _ upd_same nq3), ha3, ?_⟩
        have X8 : Ext l H5 H8 := (X7.trans (Ext.same y3)).trans x8
        have hD8 := X8 _ _ hD5 nD
        refine ⟨by show 3 ≤ sizeLine; decide, fun q4 hq4 => ?_⟩
        have y4 := Same.new (o := HO.tup [V.str wd, v1', v3]) hq4
        refine ⟨D, _, _, rfl, rfl, y4 _ _ hD8, small1000 (by omega), ?_⟩
        obtain ⟨ed, td, wkd, dd⟩ : ∃ ed : Ex, Told H8 ed v3 ∧ ed.wk ∧ ed.dep ≤ i + 1 := by
          simp only [List.mem_cons, List.not_mem_nil, or_false] at hv3
          rcases hv3 with rfl | rfl
          · exact ⟨eb, tb.ext s5 X8, wb, db⟩
          · obtain ⟨w1, d1⟩ := Ex.leaf_wk fc
            exact ⟨ec, (tc.same y3).ext (s7.new hq3) x8, w1, by omega⟩
        exact app _ (.two wd ea ed) _ _ _ _ _ _ (X8.trans (Ext.same y4)) (s8.same y4) ⟨q4, v1', v3, rfl, upd_same, (ta.ext s5 X8).same y4, td.same y4⟩ ⟨hw, wa, wkd⟩ (by show max ea.dep ed.dep + 1 ≤ i + 2; omega) (y4 _ _ hD8)
      · refine ⟨_, rfl, .inl ⟨rfl, _, SqL.of hD5⟩, _, rfl, _, rfl, l, nm, names, rfl, s5, hn5, nn, n0, n1, fun ec vc H6 tc fc s6 x6 => ?_⟩
        refine ⟨_, rfl, (by show 2 ≤ sizeLine; decide), fun q1 hq1 => ?_⟩
        have y1 := Same.new (o := HO.tup [V.str "num", V.int 3]) hq1
        have X6 : Ext l H5 (upd H6 q1 (HO.tup [V.str "num", V.int 3])) := x6.trans (Ext.same y1)
        refine ⟨_, rfl, _, rfl, l, nm, names, rfl, s6.new hq1, X6 _ _ hn5 nn, nn, n0, n1, fun eg vg H7 tg fg s7 x7 => ?_⟩
        have X7 := X6.trans x7
        have hD7 := X7 _ _ hD5 nD
        refine ⟨by show 5 ≤ sizeLine; decide, fun q4 hq4 => ?_⟩
        have y4 := Same.new (o := HO.tup [V.str "less", vc, v1', V.ref q1, vg]) hq4
        refine ⟨D, _, _, rfl, rfl, y4 _ _ hD7, small1000 (by omega), ?_⟩
        obtain ⟨w1, d1⟩ := Ex.leaf_wk fc
        obtain ⟨w2, d2⟩ := Ex.leaf_wk fg
        have tn : Told (upd H6 q1 (HO.tup [V.str "num", V.int 3])) (.num 3) (.ref q1) := ⟨q1, rfl, upd_same⟩
        exact app _ (.less ec ea (.num 3) eg) _ _ _ _ _ _ (X7.trans (Ext.same y4)) (s7.same y4) ⟨q4, vc, v1', V.ref q1, vg, rfl, upd_same, ((tc.same y1).ext (s6.new hq1) x7).same y4, (ta.ext s5 X7).same y4, (tn.ext (s6.new hq1) x7).same y4, tg.same y4⟩ ⟨w1, wa, True.intro, w2⟩ (by show max (max ec.dep ea.dep) (max 1 eg.dep) + 1 ≤ i + 2; omega) (y4 _ _ hD7)
    · rintro σ H3 ⟨zs, o3, o4, o5, o6, o7, rfl, hD3, ⟨z0, z1⟩, tz, s3, hn3, x3⟩
      obtain ⟨v1', ha1, hv1⟩ := last_at z0
      obtain ⟨ea, ta, wa, da⟩ := tz v1' hv1
      refine ⟨_, rfl, _, rfl, D, _, _, v1', rfl, rfl, SqL.of hD3, ha1, ?_⟩
      exact k ea v1' H3 ta wa (by omega) s3 x3
end
end K04

/-! K08o -/
set_option Elab.async false
set_option linter.all false
set_option maxRecDepth 100000
set_option maxHeartbeats 4000000
namespace K04
open PySem L2
theorem wk_no {w : Str} (h : w ≠ "num" ∧ w ≠ "name" ∧ w ≠ "mod") : decide (V.str w = V.str "num") = false ∧ decide (V.str w = V.str "name") = false ∧ decide (V.str w = V.str "mod") = false := by
  refine ⟨decide_eq_false fun z => ?_, decide_eq_false fun z => ?_, decide_eq_false fun z => ?_⟩
  · cases z; exact h.1 rfl
  · cases z; exact h.2.1 rfl
  · cases z; exact h.2.2 rfl
theorem and2 {c : Bool} {A B : Prop} (h1 : c = false → B) (h2 : c = true → A) : if c = true then A else B := by
  cases c with
  | true => exact iteT (h2 rfl)
  | false => exact iteF (h1 rfl)
section
variable {P : Program} {w : World} {K : PySem.W.Frag} {mg : Str → Option Value} {base : Heap} {a : Ad}
def spMade8 (a : Ad) (n : Nat) : Sp := fun vs H Q _ => ∃ (e : Ex) (v : V), vs = [v] ∧ Told H e v ∧ e.dep ≤ n ∧ e.wk ∧ ∀ r H', Made a H' e r → Same H H' → Q r H'
theorem ok_made8 (T : Txt K mg a) : ∀ n, FnOk P w K mg base CX0 (n + 2) a.f__law_made a.d__law_made ["_law_told_here"] (spMade8 a n)
  | 0 => ⟨fun vs H Q E h => by
      obtain ⟨e, v, rfl, _⟩ := h
      rfl, fun A outer s H args us vs Q E _ _ _ _ h => by
      obtain ⟨e, v, _, _, hd, _⟩ := h
      have := e.dep_pos
      omega⟩
  | n + 1 => by
    have c__law_made : Callee P w K mg base "_law_made" a.f__law_made a.d__law_made ["_law_told_here"] (n + 2) (spMade8 a n) := ⟨ok_made8 T n, T.g__law_made, T.F__law_made.kp, T.b__law_made⟩
    have m_Num : Maker P w K mg base "Num" a.c_Num a.f_Num___init__ a.d_Num___init__ ["self", "value"] 1 (spI1 a.c_Num "value") := ⟨ok_Num_init T, T.g_Num, T.mk_Num, T.b_Num___init__⟩
    have m_Name : Maker P w K mg base "Name" a.c_Name a.f_Name___init__ a.d_Name___init__ ["self", "word"] 1 (spI1 a.c_Name "word") := ⟨ok_Name_init T, T.g_Name, T.mk_Name, T.b_Name___init__⟩
    have m_Two : Maker P w K mg base "Two" a.c_Two a.f_Two___init__ a.d_Two___init__ ["self", "word", "one", "other"] 1 (spI3 a.c_Two "word" "one" "other") := ⟨ok_Two_init T, T.g_Two, T.mk_Two, T.b_Two___init__⟩
    have m_Mod : Maker P w K mg base "Mod" a.c_Mod a.f_Mod___init__ a.d_Mod___init__ ["self", "inner", "number"] 1 (spI2 a.c_Mod "inner" "number") := ⟨ok_Mod_init T, T.g_Mod, T.mk_Mod, T.b_Mod___init__⟩
    have m_Less : Maker P w K mg base "Less" a.c_Less a.f_Less___init__ a.d_Less___init__ ["self", "one", "other", "third", "fourth"] 1 (spI4 a.c_Less "one" "other" "third" "fourth") := ⟨ok_Less_init T, T.g_Less, T.mk_Less, T.b_Less___init__⟩
    refine T.F__law_made.ok sc__law_made (fun vs H Q E h => ?_) (fun cdv A outer s H vs Q E hr h => ?_)
    · obtain ⟨e, v, rfl, _⟩ := h
      rfl
    · obtain ⟨e, v, rfl, ht, hdep, ho, k⟩ := h
      refine ⟨_, (pss_cons (ps_if (pt_cmpR op_eq (pe_ix ix_tup (pv 0) pe_int (fun _ _ => rfl)) pe_str (nomark _))
        (pss_one (ps_ret (pe_m m_Num (hr.mono (by omega)) (pa_cons (pe_ix ix_tup (pv 0) pe_int (fun _ _ => rfl)) pa_nil))))
        pss_nil)
      (pss_cons (ps_if (pt_cmpR op_eq (pe_ix ix_tup (pv 0) pe_int (fun _ _ => rfl)) pe_str (nomark _))
        (pss_one (ps_ret (pe_m m_Name (hr.mono (by omega)) (pa_cons (pe_ix ix_tup (pv 0) pe_int (fun _ _ => rfl)) pa_nil))))
        pss_nil)
      (pss_cons (ps_if (pt_cmpR op_eq (pe_ix ix_tup (pv 0) pe_int (fun _ _ => rfl)) pe_str (nomark _))
        (pss_one (ps_ret (pe_m m_Mod (hr.mono (by omega)) (pa_cons (pe_c c__law_made (hr.mono (by omega)) (pa_cons (pe_ix ix_tup (pv 0) pe_int (fun _ _ => rfl)) pa_nil)) (pa_cons (pe_ix ix_tup (pv 0) pe_int (fun _ _ => rfl)) pa_nil)))))
        pss_nil)
      (pss_cons (ps_if (PW.pt (pw_and (pt_cmpR op_eq (pe_ix ix_tup (pv 0) pe_int (fun _ _ => rfl)) pe_str (nomark _)) (pw_and1 (pt_cmpR op_eq (pe_callB call_len_seq (by rfl) T.n_len bt_len (pa_cons (pv 0) pa_nil)) pe_int (nomark _)))))
        (pss_one (ps_ret (pe_m m_Less (hr.mono (by omega)) (pa_cons (pe_c c__law_made (hr.mono (by omega)) (pa_cons (pe_ix ix_tup (pv 0) pe_int (fun _ _ => rfl)) pa_nil)) (pa_cons (pe_c c__law_made (hr.mono (by omega)) (pa_cons (pe_ix ix_tup (pv 0) pe_int (fun _ _ => rfl)) pa_nil)) (pa_cons (pe_c c__law_made (hr.mono (by omega)) (pa_cons (pe_ix ix_tup (pv 0) pe_int (fun _ _ => rfl)) pa_nil)) (pa_cons (pe_c c__law_made (hr.mono (by omega)) (pa_cons (pe_ix ix_tup (pv 0) pe_int (fun _ _ => rfl)) pa_nil)) pa_nil)))))))
        pss_nil)
      (pss_one (ps_ret (pe_m m_Two (hr.mono (by omega)) (pa_cons (pe_ix ix_tup (pv 0) pe_int (fun _ _ => rfl)) (pa_cons (pe_c c__law_made (hr.mono (by omega)) (pa_cons (pe_ix ix_tup (pv 0) pe_int (fun _ _ => rfl)) pa_nil)) (pa_cons (pe_c c__law_made (hr.mono (by omega)) (pa_cons (pe_ix ix_tup (pv 0) pe_int (fun _ _ => rfl)) pa_nil)) pa_nil)))))))))), ?_⟩
      cases e with
      | num i =>
        obtain ⟨p, rfl, hp⟩ := ht
        refine ⟨_, rfl, p, _, 0, _, rfl, rfl, SqT.of hp, rfl, rfl, _, rfl, iteB (by decide +kernel) ?_⟩
        refine ⟨_, rfl, p, _, 1, _, rfl, rfl, SqT.of hp, rfl, fun x dx nx ndx nex => ⟨x, dx, _, rfl, upd_same, rfl, ?_⟩⟩
        exact k _ _ ⟨x, dx, rfl, upd_same⟩ (Same.made nx ndx)
      | name i =>
        obtain ⟨p, rfl, hp⟩ := ht
        refine ⟨_, rfl, p, _, 0, _, rfl, rfl, SqT.of hp, rfl, rfl, _, rfl, iteN (by decide +kernel) ?_⟩
        refine ⟨_, rfl, p, _, 0, _, rfl, rfl, SqT.of hp, rfl, rfl, _, rfl, iteB (by decide +kernel) ?_⟩
        refine ⟨_, rfl, p, _, 1, _, rfl, rfl, SqT.of hp, rfl, fun x dx nx ndx nex => ⟨x, dx, _, rfl, upd_same, rfl, ?_⟩⟩
        exact k _ _ ⟨x, dx, rfl, upd_same⟩ (Same.made nx ndx)
      | mod e1 i =>
        obtain ⟨p, u1, rfl, hp, t1⟩ := ht
        have o1 : e1.wk := ho
        have hdep : e1.dep + 1 ≤ n + 1 := hdep
        refine ⟨_, rfl, p, _, 0, _, rfl, rfl, SqT.of hp, rfl, rfl, _, rfl, iteN (by decide +kernel) ?_⟩
        refine ⟨_, rfl, p, _, 0, _, rfl, rfl, SqT.of hp, rfl, rfl, _, rfl, iteN (by decide +kernel) ?_⟩
        refine ⟨_, rfl, p, _, 0, _, rfl, rfl, SqT.of hp, rfl, rfl, _, rfl, iteB (by decide +kernel) ?_⟩
        refine ⟨_, rfl, p, _, 1, _, rfl, rfl, SqT.of hp, rfl, e1, _, rfl, t1, by omega, o1, fun r1 H1 m1 s1 => ?_⟩
        refine ⟨_, rfl, p, _, 2, _, rfl, rfl, SqT.of (s1 _ _ hp), rfl, fun x dx nx ndx nex => ⟨x, dx, _, _, rfl, upd_same, rfl, ?_⟩⟩
        exact k _ _ ⟨x, dx, r1, rfl, upd_same, m1.same (Same.made nx ndx)⟩ (s1.trans (Same.made nx ndx))
      | less e1 e2 e3 e4 =>
        obtain ⟨p, u1, u2, u3, u4, rfl, hp, t1, t2, t3, t4⟩ := ht
        obtain ⟨o1, o2, o3, o4⟩ := ho
        have hdep : max (max e1.dep e2.dep) (max e3.dep e4.dep) + 1 ≤ n + 1 := hdep
        refine ⟨_, rfl, p, _, 0, _, rfl, rfl, SqT.of hp, rfl, rfl, _, rfl, iteN (by decide +kernel) ?_⟩
        refine ⟨_, rfl, p, _, 0, _, rfl, rfl, SqT.of hp, rfl, rfl, _, rfl, iteN (by decide +kernel) ?_⟩
        refine ⟨_, rfl, p, _, 0, _, rfl, rfl, SqT.of hp, rfl, rfl, _, rfl, iteN (by decide +kernel) ?_⟩
        refine ⟨_, rfl, p, _, 0, _, rfl, rfl, SqT.of hp, rfl, rfl, _, rfl, iteB (by decide +kernel) ?_⟩
        refine ⟨_, rfl, p, _, rfl, .inr (SqT.of hp), rfl, _, rfl, iteB (decide_eq_true rfl) ?_⟩
        refine ⟨_, rfl, p, _, 1, _, rfl, rfl, SqT.of hp, rfl, e1, _, rfl, t1, by omega, o1, fun r1 H1 m1 s1 => ?_⟩
        refine ⟨_, rfl, p, _, 2, _, rfl, rfl, SqT.of (s1 _ _ hp), rfl, e2, _, rfl, t2.same s1, by omega, o2, fun r2 H2 m2 s2 => ?_⟩
        have s12 := s1.trans s2
        refine ⟨_, rfl, p, _, 3, _, rfl, rfl, SqT.of (s12 _ _ hp), rfl, e3, _, rfl, t3.same s12, by omega, o3, fun r3 H3 m3 s3 => ?_⟩
        have s123 := s12.trans s3
        refine ⟨_, rfl, p, _, 4, _, rfl, rfl, SqT.of (s123 _ _ hp), rfl, e4, _, rfl, t4.same s123, by omega, o4, fun r4 H4 m4 s4 => ?_⟩
        refine fun x dx nx ndx nex => ⟨x, dx, _, _, _, _, rfl, upd_same, rfl, ?_⟩
        have s5 : Same H4 _ := Same.made (C := a.c_Less) (fs := [("one", r1), ("other", r2), ("third", r3), ("fourth", r4)]) (fs' := []) nx ndx
        exact k _ _ ⟨x, dx, r1, r2, r3, r4, rfl, upd_same, m1.same (s2.trans (s3.trans (s4.trans s5))), m2.same (s3.trans (s4.trans s5)), m3.same (s4.trans s5), m4.same s5⟩ (s123.trans (s4.trans s5))
      | two wd e1 e2 =>
        obtain ⟨p, u1, u2, rfl, hp, t1, t2⟩ := ht
        obtain ⟨hw, o1, o2⟩ := ho
        have hdep : max e1.dep e2.dep + 1 ≤ n + 1 := hdep
        obtain ⟨w1, w2, w3⟩ := wk_no hw
        refine ⟨_, rfl, p, _, 0, _, rfl, rfl, SqT.of hp, rfl, rfl, _, rfl, iteN w1 ?_⟩
        refine ⟨_, rfl, p, _, 0, _, rfl, rfl, SqT.of hp, rfl, rfl, _, rfl, iteN w2 ?_⟩
        refine ⟨_, rfl, p, _, 0, _, rfl, rfl, SqT.of hp, rfl, rfl, _, rfl, iteN w3 ?_⟩
        refine ⟨_, rfl, p, _, 0, _, rfl, rfl, SqT.of hp, rfl, rfl, _, rfl, ?_⟩
        refine and2 (fun z => iteF ?_) (fun z => ⟨_, rfl, p, _, rfl, .inr (SqT.of hp), rfl, _, rfl, iteN (decide_eq_false (by intro z; cases z)) ?_⟩)
        all_goals
          refine ⟨_, rfl, p, _, 0, _, rfl, rfl, SqT.of hp, rfl, ?_⟩
          refine ⟨_, rfl, p, _, 1, _, rfl, rfl, SqT.of hp, rfl, e1, _, rfl, t1, by omega, o1, fun r1 H1 m1 s1 => ?_⟩
          refine ⟨_, rfl, p, _, 2, _, rfl, rfl, SqT.of (s1 _ _ hp), rfl, e2, _, rfl, t2.same s1, by omega, o2, fun r2 H2 m2 s2 => ?_⟩
          refine fun x dx nx ndx nex => ⟨x, dx, _, _, _, rfl, upd_same, rfl, ?_⟩
          have s5 : Same H2 _ := Same.made (C := a.c_Two) (fs := [("word", V.str wd), ("one", r1), ("other", r2)]) (fs' := []) nx ndx
          exact k _ _ ⟨x, dx, r1, r2, rfl, upd_same, m1.same (s2.trans s5), m2.same s5⟩ ((s1.trans s2).trans s5)
end
end K04

/-! K08p -/
set_option Elab.async false
set_option linter.all false
set_option maxRecDepth 100000
set_option maxHeartbeats 4000000
namespace K04
open PySem L2
theorem cut1 {x : V} {xs : List V} : cutV (x :: xs) (some 1) none = xs := by
  have h1 : HT.sIx (x :: xs).length 0 (some 1) = 1 := by
    unfold HT.sIx
    simp
  have h2 : HT.sIx (x :: xs).length (x :: xs).length none = xs.length + 1 := rfl
  unfold cutV
  rw [h1, h2]
  simp
theorem at0 {x : V} {xs : List V} : atI (x :: xs) 0 = some x := by
  unfold atI ixN
  simp
def bI (b : Bool) : Int := if b = true then 1 else 0
theorem bI_mul (b c : Bool) : bI b * bI c = bI (b && c) := by cases b <;> cases c <;> rfl
theorem bI01 (b : Bool) : 0 ≤ bI b ∧ bI b ≤ 1 := by cases b <;> decide
abbrev fiveWs : List Str := ["add", "sub", "min", "max", "mod"]
def Ex.okb (names : List Str) : Ex → Bool
  | .num i => decide ((if i < 0 then -i else i) < 100000000000000000000)
  | .name x => inV (.str x) (names.map V.str)
  | .two w e f => (inV (.str w) (fiveWs.map V.str) && e.okb names) && f.okb names
  | .mod e n => (decide (1 ≤ n) && decide (n ≤ 1000000000)) && e.okb names
  | .less e f g h => ((e.okb names && f.okb names) && g.okb names) && h.okb names
theorem Ex.okb_iff {names : List Str} : ∀ {e : Ex}, e.wk → (e.okb names = true ↔ e.ok names)
  | .num i, _ => by
    show decide _ = true ↔ (-100000000000000000000 < i ∧ i < 100000000000000000000)
    rw [decide_eq_true_iff]
    split <;> omega
  | .name x, _ => inV_str
  | .two w e f, ⟨hw, h1, h2⟩ => by
    have i1 := Ex.okb_iff (names := names) h1
    have i2 := Ex.okb_iff (names := names) h2
    show (((inV (.str w) (fiveWs.map V.str) && e.okb names) && f.okb names) = true) ↔ (TwoW w ∧ e.ok names ∧ f.ok names)
    rw [Bool.and_eq_true, Bool.and_eq_true, i1, i2, inV_str]
    have : w ∈ fiveWs ↔ TwoW w := by
      simp only [List.mem_cons, List.not_mem_nil, or_false]
      constructor
      · rintro (h | h | h | h | h)
        · exact .inl h
        · exact .inr (.inl h)
        · exact .inr (.inr (.inl h))
        · exact .inr (.inr (.inr h))
        · exact absurd h hw.2.2
      · rintro (h | h | h | h)
        · exact .inl h
        · exact .inr (.inl h)
        · exact .inr (.inr (.inl h))
        · exact .inr (.inr (.inr (.inl h)))
    rw [this, and_assoc]
  | .mod e n, h1 => by
    have i1 := Ex.okb_iff (names := names) (e := e) h1
    show (((decide (1 ≤ n) && decide (n ≤ 1000000000)) && e.okb names) = true) ↔ ((1 ≤ n ∧ n ≤ 1000000000) ∧ e.ok names)
    rw [Bool.and_eq_true, Bool.and_eq_true, i1, decide_eq_true_iff, decide_eq_true_iff]
  | .less e f g h, ⟨h1, h2, h3, h4⟩ => by
    have i1 := Ex.okb_iff (names := names) h1
    have i2 := Ex.okb_iff (names := names) h2
    have i3 := Ex.okb_iff (names := names) h3
    have i4 := Ex.okb_iff (names := names) h4
    show ((((e.okb names && f.okb names) && g.okb names) && h.okb names) = true) ↔ (e.ok names ∧ f.ok names ∧ g.ok names ∧ h.ok names)
    rw [Bool.and_eq_true, Bool.and_eq_true, Bool.and_eq_true, i1, i2, i3, i4, and_assoc, and_assoc]
def Ex.ps : Ex → List (Option Ex)
  | .two _ e f => [some e, some f]
  | .mod e _ => [some e, none]
  | .less e f g h => [some e, some f, some g, some h]
  | _ => []
def Ex.wd : Ex → Str
  | .num _ => "num"
  | .name _ => "name"
  | .two w _ _ => w
  | .mod _ _ => "mod"
  | .less _ _ _ _ => "less"
def Ex.w0 : Ex → Int
  | .mod _ _ => 2
  | _ => 1
def Ex.g1 : Ex → Bool
  | .two w _ _ => inV (.str w) (fiveWs.map V.str)
  | _ => true
def Ex.g0 : Ex → Bool
  | .two w _ _ => inV (.str w) (fiveWs.map V.str)
  | .mod _ n => decide (1 ≤ n) && decide (n ≤ 1000000000)
  | _ => true
def mx (i j : Int) : Int := if j > i then j else i
def stepL (names : List Str) (s : Int × Int × Int) : Option Ex → Int × Int × Int
  | none => s
  | some e => (s.1 + (e.size : Int), mx s.2.1 (e.dep : Int), s.2.2 * bI (e.okb names))
def walkL (names : List Str) (e : Ex) (i : Nat) : Int × Int × Int := (e.ps.take i).foldl (stepL names) (e.w0, 0, bI e.g0)
theorem mx_nat (i j : Nat) : mx (i : Int) (j : Int) = ((max i j : Nat) : Int) := by
  unfold mx
  split <;> omega
theorem walkL_end {names : List Str} : ∀ {e : Ex}, ¬ e.leaf → walkL names e e.ps.length = ((e.size : Int), (e.dep : Int) - 1, bI (e.okb names))
  | .num _, h => absurd True.intro h
  | .name _, h => absurd True.intro h
  | .two w e f, _ => by
    show (_, _, _) = _
    have hd : mx (mx 0 (e.dep : Int)) (f.dep : Int) = ((max e.dep f.dep : Nat) : Int) := by
      have h0 : mx 0 (e.dep : Int) = (e.dep : Int) := by
        have := e.dep_pos
        unfold mx
        rw [if_pos (by omega)]
      rw [h0, mx_nat]
    refine Prod.ext ?_ (Prod.ext ?_ ?_)
    · show (1 : Int) + (e.size : Int) + (f.size : Int) = ((1 + e.size + f.size : Nat) : Int)
      omega
    · show mx (mx 0 (e.dep : Int)) (f.dep : Int) = ((max e.dep f.dep + 1 : Nat) : Int) - 1
      rw [hd]
      omega
    · show bI (inV (.str w) (fiveWs.map V.str)) * bI (e.okb names) * bI (f.okb names) = _
      rw [bI_mul, bI_mul]
      rfl
  | .mod e n, _ => by
    refine Prod.ext ?_ (Prod.ext ?_ ?_)
    · show (2 : Int) + (e.size : Int) = ((2 + e.size : Nat) : Int)
      omega
    · show mx 0 (e.dep : Int) = ((e.dep + 1 : Nat) : Int) - 1
      have := e.dep_pos
      unfold mx
      rw [if_pos (by omega)]
      omega
    · show bI (decide (1 ≤ n) && decide (n ≤ 1000000000)) * bI (e.okb names) = _
      rw [bI_mul]
      rfl
  | .less e f g h, _ => by
    have h0 : mx 0 (e.dep : Int) = (e.dep : Int) := by
      have := e.dep_pos
      unfold mx
      rw [if_pos (by omega)]
    refine Prod.ext ?_ (Prod.ext ?_ ?_)
    · show (1 : Int) + (e.size : Int) + (f.size : Int) + (g.size : Int) + (h.size : Int) = ((1 + e.size + f.size + g.size + h.size : Nat) : Int)
      omega
    · show mx (mx (mx (mx 0 (e.dep : Int)) (f.dep : Int)) (g.dep : Int)) (h.dep : Int) = ((max (max e.dep f.dep) (max g.dep h.dep) + 1 : Nat) : Int) - 1
      rw [h0, mx_nat, mx_nat, mx_nat]
      omega
    · show bI true * bI (e.okb names) * bI (f.okb names) * bI (g.okb names) * bI (h.okb names) = _
      rw [bI_mul, bI_mul, bI_mul, bI_mul]
      rfl
theorem walkL_good {names : List Str} {e : Ex} : ∀ i, ∃ b, (walkL names e i).2.2 = bI b := by
  intro i
  unfold walkL
  generalize e.ps.take i = l
  have : ∀ (l : List (Option Ex)) (s : Int × Int × Int), (∃ b, s.2.2 = bI b) → ∃ b, (l.foldl (stepL names) s).2.2 = bI b := by
    intro l
    induction l with
    | nil => exact fun s h => h
    | cons x l ih =>
      intro s ⟨b, hb⟩
      refine ih _ ?_
      cases x with
      | none => exact ⟨b, hb⟩
      | some e =>
        refine ⟨b && e.okb names, ?_⟩
        show s.2.2 * bI (e.okb names) = _
        rw [hb, bI_mul]
  exact this l _ ⟨e.g0, rfl⟩
theorem walkL_next {names : List Str} {e : Ex} {i : Nat} {x : Option Ex} (h : e.ps[i]? = some x) : walkL names e (i + 1) = stepL names (walkL names e i) x := by
  unfold walkL
  rw [List.take_add_one, h, List.foldl_append]
  rfl
theorem Told.parts8 {H : Hp} : ∀ {e : Ex} {v : V}, Told H e v → e.wk → ¬ e.leaf → ∃ (p : Addr) (parts : List V), v = .ref p ∧ H p = some (.tup (.str e.wd :: parts)) ∧ parts.length = e.ps.length ∧
    ∀ (i : Nat) x, parts[i]? = some x → (∃ e', e.ps[i]? = some (some e') ∧ Told H e' x ∧ e'.wk ∧ e'.dep + 1 ≤ e.dep) ∨ (e.ps[i]? = some none ∧ ∃ m, x = .int m)
  | .num _, _, _, _, h => absurd True.intro h
  | .name _, _, _, _, h => absurd True.intro h
  | .two w e f, _, ⟨p, a1, b1, e1, h1, s1, s2⟩, ⟨_, w1, w2⟩, _ => by
    refine ⟨p, _, e1, h1, rfl, fun i x hi => ?_⟩
    have d : (Ex.two w e f).dep = max e.dep f.dep + 1 := rfl
    match i, hi with
    | 0, hi => cases hi; exact .inl ⟨e, rfl, s1, w1, by omega⟩
    | 1, hi => cases hi; exact .inl ⟨f, rfl, s2, w2, by omega⟩
    | _ + 2, hi => simp at hi
  | .mod e n, _, ⟨p, a1, e1, h1, s1⟩, w1, _ => by
    refine ⟨p, _, e1, h1, rfl, fun i x hi => ?_⟩
    have d : (Ex.mod e n).dep = e.dep + 1 := rfl
    match i, hi with
    | 0, hi => cases hi; exact .inl ⟨e, rfl, s1, w1, by omega⟩
    | 1, hi => cases hi; exact .inr ⟨rfl, n, rfl⟩
    | _ + 2, hi => simp at hi
  | .less e f g h, _, ⟨p, a1, b1, c1, d1, e1, h1, s1, s2, s3, s4⟩, ⟨w1, w2, w3, w4⟩, _ => by
    refine ⟨p, _, e1, h1, rfl, fun i x hi => ?_⟩
    have d : (Ex.less e f g h).dep = max (max e.dep f.dep) (max g.dep h.dep) + 1 := rfl
    match i, hi with
    | 0, hi => cases hi; exact .inl ⟨e, rfl, s1, w1, by omega⟩
    | 1, hi => cases hi; exact .inl ⟨f, rfl, s2, w2, by omega⟩
    | 2, hi => cases hi; exact .inl ⟨g, rfl, s3, w3, by omega⟩
    | 3, hi => cases hi; exact .inl ⟨h, rfl, s4, w4, by omega⟩
    | _ + 4, hi => simp at hi
theorem c_mod_num : decide (V.str "mod" = V.str "num") = false := by decide +kernel
theorem c_mod_name : decide (V.str "mod" = V.str "name") = false := by decide +kernel
theorem c_less_num : decide (V.str "less" = V.str "num") = false := by decide +kernel
theorem c_less_name : decide (V.str "less" = V.str "name") = false := by decide +kernel
theorem c_less_mod : decide (V.str "less" = V.str "mod") = false := by decide +kernel
theorem c_mod_mod : decide (V.str "mod" = V.str "mod") = true := by decide +kernel
theorem c_mod_five : inV (.str "mod") (fiveWs.map V.str) = true := by decide +kernel
theorem c_less_five : inV (.str "less") (fiveWs.map V.str) = false := by decide +kernel
theorem Ex.wd_no : ∀ {e : Ex}, e.wk → ¬ e.leaf → decide (V.str e.wd = V.str "num") = false ∧ decide (V.str e.wd = V.str "name") = false
  | .num _, _, h => absurd True.intro h
  | .name _, _, h => absurd True.intro h
  | .two w _ _, ⟨hw, _⟩, _ => ⟨(wk_no hw).1, (wk_no hw).2.1⟩
  | .mod _ _, _, _ => ⟨c_mod_num, c_mod_name⟩
  | .less _ _ _ _, _, _ => ⟨c_less_num, c_less_name⟩
section
variable {P : Program} {w : World} {K : PySem.W.Frag} {mg : Str → Option Value} {base : Heap} {a : Ad}
abbrev lookV (names : List Str) (e : Ex) : List V := [.int (e.size : Int), .int (e.dep : Int), .int (bI (e.okb names))]
def spLook (n : Nat) : Sp := fun vs H Q _ => ∃ (e : Ex) (v : V) (nm : Addr) (names : List Str), vs = [v, .ref nm] ∧ Told H e v ∧ e.dep ≤ n ∧ e.wk ∧ H nm = some (.lst (names.map V.str)) ∧ ∀ p H', H' p = some (.lst (lookV names e)) → Same H H' → Q (.ref p) H'
theorem ok_look (T : Txt K mg a) : ∀ n, FnOk P w K mg base CX0 (n + 2) a.f__law_look a.d__law_look ["_law_told_here", "_law_names"] (spLook n)
  | 0 => ⟨fun vs H Q E h => by
      obtain ⟨e, v, nm, names, rfl, _⟩ := h
      rfl, fun A outer s H args us vs Q E _ _ _ _ h => by
      obtain ⟨e, v, nm, names, _, _, hd, _⟩ := h
      have := e.dep_pos
      omega⟩
  | n + 1 => by
    have c__law_look : Callee P w K mg base "_law_look" a.f__law_look a.d__law_look ["_law_told_here", "_law_names"] (n + 2) (spLook n) := ⟨ok_look T n, T.g__law_look, T.F__law_look.kp, T.b__law_look⟩
    refine T.F__law_look.ok sc__law_look (fun vs H Q E h => ?_) (fun cdv A outer s H vs Q E hr h => ?_)
    · obtain ⟨e, v, nm, names, rfl, _⟩ := h
      rfl
    · obtain ⟨e, v, nm, names, rfl, ht, hdep, ho, hn, k⟩ := h
      refine ⟨_, (pss_cons (ps_if (pt_cmpR op_eq (pe_ix ix_tup (pv 0) pe_int (fun _ _ => rfl)) pe_str (nomark _))
        (pss_one (ps_ret (pe_lst (pa_cons pe_int (pa_cons pe_int (pa_cons (pe_callTy call_int1 (by rfl) T.n_int bt_int (pa_cons (pe_cmpR op_lt (pe_callB call_abs (by rfl) T.n_abs bt_abs (pa_cons (pe_ix ix_tup (pv 0) pe_int (fun _ _ => rfl)) pa_nil)) (pe_op op_pow pe_int pe_int) (nomark _)) pa_nil)) pa_nil))))))
        pss_nil)
      (pss_cons (ps_if (pt_cmpR op_eq (pe_ix ix_tup (pv 0) pe_int (fun _ _ => rfl)) pe_str (nomark _))
        (pss_one (ps_ret (pe_lst (pa_cons pe_int (pa_cons pe_int (pa_cons (pe_callTy call_int1 (by rfl) T.n_int bt_int (pa_cons (pe_cmpR op_in_seq (pe_ix ix_tup (pv 0) pe_int (fun _ _ => rfl)) (pv 1) (by with_unfolding_all rfl)) pa_nil)) pa_nil))))))
        pss_nil)
      (pss_cons (ps_set (i := 2) sc__law_look.nd rfl (Or.inl rfl) pe_int)
      (pss_cut (ps_set (i := 3) sc__law_look.nd rfl (Or.inl rfl) (pe_callTy call_int1 (by rfl) T.n_int bt_int (pa_cons (pe_or (pe_cmpR op_in_seq (pe_ix ix_tup (pv 0) pe_int (fun _ _ => rfl)) (pe_lst (pa_cons pe_str (pa_cons pe_str (pa_cons pe_str (pa_cons pe_str (pa_cons pe_str pa_nil)))))) (by with_unfolding_all rfl)) (pe_one (pe_cmpR op_eq (pe_callB call_len_seq (by rfl) T.n_len bt_len (pa_cons (pv 0) pa_nil)) pe_int (nomark _)))) pa_nil)))
      (pss_cut (ps_if (pt_cmpR op_eq (pe_ix ix_tup (pv 0) pe_int (fun _ _ => rfl)) pe_str (nomark _))
        (pss_cons (ps_set (i := 2) sc__law_look.nd rfl (Or.inl rfl) pe_int)
        (pss_one (ps_set (i := 3) sc__law_look.nd rfl (Or.inl rfl) (pe_callTy call_int1 (by rfl) T.n_int bt_int (pa_cons (pe_chain op_le op_le pe_int (pe_ix ix_tup (pv 0) pe_int (fun _ _ => rfl)) (pe_op op_pow pe_int pe_int)) pa_nil)))))
        pss_nil)
      (pss_cons (ps_set (i := 4) sc__law_look.nd rfl (Or.inl rfl) pe_int)
      (pss_cons (ps_for PassesOwn.never rfl (pi_tup (pe_slice sl_tup (pv 0) (po_some pe_int) po_none)) (pg_name (i := 5) sc__law_look.nd rfl (Or.inl rfl))
        (pss_one (ps_if (pt_val (pe_callB call_isi (by rfl) T.n_isinstance bt_isinstance (pa_cons (pv 5) (pa_cons (pe_bty T.n_tuple bt_tuple) pa_nil))))
          (pss_cons (ps_set (i := 6) sc__law_look.nd rfl (Or.inl rfl) (pe_c c__law_look (hr.mono (by omega)) (pa_cons (pv 5) (pa_cons (pv 1) pa_nil))))
          (pss_cons (ps_set (i := 2) sc__law_look.nd rfl (Or.inl rfl) (pe_op op_add (pv 2) (pe_ix ix_list (pv 6) pe_int (fun _ _ => rfl))))
          (pss_cons (ps_set (i := 4) sc__law_look.nd rfl (Or.inl rfl) (pe_callB (call_max2 rfl) (by rfl) T.n_max bt_max (pa_cons (pv 4) (pa_cons (pe_ix ix_list (pv 6) pe_int (fun _ _ => rfl)) pa_nil))))
          (pss_one (ps_set (i := 3) sc__law_look.nd rfl (Or.inl rfl) (pe_op op_mul (pv 3) (pe_ix ix_list (pv 6) pe_int (fun _ _ => rfl))))))))
          pss_nil)))
      (pss_one (ps_ret (pe_lst (pa_cons (pv 2) (pa_cons (pe_op op_add (pv 4) pe_int) (pa_cons (pv 3) pa_nil))))))))))))), ?_⟩
      by_cases hlf : e.leaf
      · cases e with
        | num i =>
          obtain ⟨p, rfl, hp⟩ := ht
          refine ⟨_, rfl, p, _, 0, _, rfl, rfl, SqT.of hp, rfl, rfl, _, rfl, iteB (by decide +kernel) ?_⟩
          refine ⟨_, rfl, p, _, 1, _, rfl, rfl, SqT.of hp, rfl, i, rfl, _, _, rfl, rfl, ⟨by decide, by decide, by decide⟩, _, _, rfl, rfl, .inr ⟨_, rfl, (by show 3 ≤ sizeLine; decide), fun q hq => ?_⟩⟩
          rw [pow20]
          exact k _ _ upd_same (Same.new hq)
        | name x =>
          obtain ⟨p, rfl, hp⟩ := ht
          refine ⟨_, rfl, p, _, 0, _, rfl, rfl, SqT.of hp, rfl, rfl, _, rfl, iteN (by decide +kernel) ?_⟩
          refine ⟨_, rfl, p, _, 0, _, rfl, rfl, SqT.of hp, rfl, rfl, _, rfl, iteB (by decide +kernel) ?_⟩
          refine ⟨_, rfl, p, _, 1, _, rfl, rfl, SqT.of hp, rfl, _, rfl, nm, _, rfl, .inl (SqL.of hn), rfl, flat_strs names, .inr ⟨_, rfl, (by show 3 ≤ sizeLine; decide), fun q hq => ?_⟩⟩
          exact k _ _ upd_same (Same.new hq)
        | two _ _ _ => exact hlf.elim
        | mod _ _ => exact hlf.elim
        | less _ _ _ _ => exact hlf.elim
      obtain ⟨p, parts, rfl, hp, hlen, hq⟩ := ht.parts8 ho hlf
      obtain ⟨w1, w2⟩ := Ex.wd_no ho hlf
      refine ⟨_, rfl, p, _, 0, _, rfl, rfl, SqT.of hp, at0, rfl, _, rfl, iteN w1 ?_⟩
      refine ⟨_, rfl, p, _, 0, _, rfl, rfl, SqT.of hp, at0, rfl, _, rfl, iteN w2 ?_⟩
      -- _law_good_here = int(..)
      refine ⟨fun σ' H' => σ' = [some (.ref p), some (.ref nm), some (.int 1), some (.int (bI e.g1)), none, none, none] ∧ Same H H', ?_, ?_⟩
      · refine ⟨_, rfl, p, _, 0, _, rfl, rfl, SqT.of hp, at0, (by show 5 ≤ sizeLine; decide), fun q0 hq0 => ?_⟩
        have y0 := Same.new (o := HO.lst (fiveWs.map V.str)) hq0
        refine ⟨q0, _, rfl, .inl (SqL.of upd_same), rfl, rfl, _, rfl, ?_⟩
        have hp0 := y0 _ _ hp
        cases e with
        | num _ => exact absurd True.intro hlf
        | name _ => exact absurd True.intro hlf
        | two wd e f =>
          refine and2 (fun z => ?_) (fun z => .inr ⟨_, rfl, ?_⟩)
          · refine ⟨_, rfl, p, _, rfl, .inr (SqT.of hp0), rfl, .inr ⟨_, rfl, ?_, y0⟩⟩
            have z : inV (.str wd) (fiveWs.map V.str) = false := z
            have z3 : decide (V.int ((V.str (Ex.two wd e f).wd :: parts).length : Int) = V.int 5) = false := by
              rw [List.length_cons, hlen]
              exact decide_eq_false (by intro z; cases z)
            rw [z3]
            show _ = [_, _, _, some (V.int (bI (inV (.str wd) (fiveWs.map V.str)))), _, _, _]
            rw [z]
            rfl
          · have z : inV (.str wd) (fiveWs.map V.str) = true := z
            refine ⟨?_, y0⟩
            show _ = [_, _, _, some (V.int (bI (inV (.str wd) (fiveWs.map V.str)))), _, _, _]
            rw [z]
            rfl
        | mod e n => exact iteB c_mod_five (.inr ⟨_, rfl, rfl, y0⟩)
        | less e f g h =>
          refine iteN c_less_five ⟨_, rfl, p, _, rfl, .inr (SqT.of hp0), rfl, .inr ⟨_, rfl, ?_, y0⟩⟩
          have z3 : decide (V.int ((V.str (Ex.less e f g h).wd :: parts).length : Int) = V.int 5) = true := by
            rw [List.length_cons, hlen]
            exact decide_eq_true rfl
          rw [z3]
          rfl
      rintro σ' H1 ⟨rfl, s1⟩
      -- if _law_told_here[0] == 'mod':
      refine ⟨fun σ' H' => σ' = [some (.ref p), some (.ref nm), some (.int e.w0), some (.int (bI e.g0)), none, none, none] ∧ Same H H', ?_, ?_⟩
      · refine ⟨_, rfl, p, _, 0, _, rfl, rfl, SqT.of (s1 _ _ hp), at0, rfl, _, rfl, ?_⟩
        cases e with
        | num _ => exact absurd True.intro hlf
        | name _ => exact absurd True.intro hlf
        | two wd e f => exact iteN (wk_no ho.1).2.2 ⟨rfl, s1⟩
        | less e f g h => exact iteN c_less_mod ⟨rfl, s1⟩
        | mod e m =>
          refine iteB c_mod_mod ?_
          obtain ⟨p', a1, e1, h1, _⟩ := ht
          cases e1
          rw [hp] at h1
          cases h1
          refine ⟨_, rfl, p, _, 2, _, rfl, rfl, SqT.of (s1 _ _ hp), rfl, _, _, rfl, rfl, _, rfl, ?_⟩
          by_cases z : (1 : Int) ≤ m
          · refine iteB (decide_eq_true z) ⟨_, _, rfl, rfl, ⟨by decide, by decide, by decide⟩, _, _, rfl, rfl, .inr ⟨_, rfl, ?_, s1⟩⟩
            rw [pow9]
            show _ = [_, _, _, some (V.int (bI (decide (1 ≤ m) && decide (m ≤ 1000000000)))), _, _, _]
            rw [decide_eq_true z, Bool.true_and]
            rfl
          · refine iteN (decide_eq_false z) (.inr ⟨_, rfl, ?_, s1⟩)
            show _ = [_, _, _, some (V.int (bI (decide (1 ≤ m) && decide (m ≤ 1000000000)))), _, _, _]
            rw [decide_eq_false z, Bool.false_and]
            rfl
      rintro σ' H2 ⟨rfl, s2⟩
      -- for _law_part in _law_told_here[1:]:
      refine ⟨_, rfl, _, rfl, p, _, rfl, SqT.of (s2 _ _ hp), (fun z => by
        have h1 : HT.sIx (V.str e.wd :: parts).length 0 (some 1) = 1 := by
          unfold HT.sIx
          simp
        rw [h1] at z
        exact absurd z.1 (by decide)), fun lt hlt => ?_⟩
      rw [cut1]
      have y3 := Same.new (o := HO.tup parts) hlt
      have s3 := s2.trans y3
      refine ⟨lt, rfl, ⟨_, SqT.of upd_same⟩, ?_⟩
      refine for_tup (K := K) (a := lt) (xs := parts) (fun i σ H' => ∃ (o5 o6 : Option V), σ = [some (.ref p), some (.ref nm), some (.int (walkL names e i).1), some (.int (walkL names e i).2.2), some (.int (walkL names e i).2.1), o5, o6] ∧ Same (upd H2 lt (HO.tup parts)) H') ?_ ?_ ?_ ?_
      · exact ⟨none, none, rfl, Same.refl _⟩
      · rintro i σ H' _ ⟨o5, o6, _, sm⟩
        exact SqT.of (sm _ _ upd_same)
      · rintro i x σ H' hi ⟨o5, o6, rfl, sm⟩
        have s4 := s3.trans sm
        rcases hq i x hi with ⟨e', he, te, oe, de⟩ | ⟨he, m, rfl⟩
        · obtain ⟨pe, xs, rfl, hpe⟩ := te.ref
          refine ⟨_, rfl, _, _, _, _, _, rfl, rfl, TyOf.tup (s4 _ _ hpe), T.k_ttuple_ttuple, _, rfl, iteT ?_⟩
          refine ⟨_, rfl, _, rfl, e', _, nm, names, rfl, te.same s4, by omega, oe, s4 _ _ hn, fun pf H5 hpf s5 => ?_⟩
          obtain ⟨b, hb⟩ := walkL_good (names := names) (e := e) i
          refine ⟨_, rfl, _, rfl, pf, _, 0, _, rfl, rfl, SqL.of hpf, rfl, _, _, rfl, rfl, ?_⟩
          refine ⟨_, rfl, _, rfl, pf, _, 1, _, rfl, rfl, SqL.of hpf, rfl, _, _, rfl, ?_⟩
          refine ⟨_, rfl, _, rfl, pf, _, 2, _, rfl, rfl, SqL.of hpf, rfl, _, _, rfl, rfl, .inl ?_, ?_⟩
          · have := bI01 b
            rw [hb]
            omega
          · refine ⟨some (.ref pe), some (.ref pf), ?_, sm.trans s5⟩
            rw [walkL_next he]
            rfl
        · refine ⟨_, rfl, _, _, _, _, _, rfl, rfl, TyOf.int m, T.k_tint_ttuple, _, rfl, iteF ?_⟩
          refine ⟨some (.int m), o6, ?_, sm⟩
          rw [walkL_next he]
          rfl
      · rintro σ H' ⟨o5, o6, rfl, sm⟩
        rw [hlen, walkL_end hlf]
        refine ⟨_, rfl, _, rfl, _, _, rfl, rfl, _, rfl, (by show 3 ≤ sizeLine; decide), fun q hq => ?_⟩
        refine k _ _ ?_ ((s3.trans sm).trans (Same.new hq))
        rw [upd_same]
        show some (HO.lst [_, V.int ((e.dep : Int) - 1 + 1), _]) = _
        rw [Int.sub_add_cancel]
end
end K04

/-! K08r -/
set_option Elab.async false
set_option linter.all false
set_option maxRecDepth 100000
set_option maxHeartbeats 4000000
namespace L2
open PySem PySem.Spec PyProof.Rows Zt
theorem for_zip {K : PySem.W.Frag} {k1 k2 : SK} {a b : Addr} {xs ys : List V} {g : TG} {tb : TS} {D : Ends} {σ : St} {H : Hp} (hlen : xs.length = ys.length) (Pv : Nat → St → Hp → Prop) (h0 : Pv 0 σ H) (hl : ∀ i σ H, i ≤ xs.length → Pv i σ H → SqK k1 K H a xs ∧ SqK k2 K H b ys)
    (hs : ∀ i x y σ H p, xs[i]? = some x → ys[i]? = some y → Pv i σ H → H p = none → g (.ref p) σ (upd H p (.tup [x, y])) fun σ2 H2 => tb { D with nx := Pv (i + 1), ct := Pv (i + 1), bk := D.nx } σ2 H2) (hd : ∀ σ H, Pv xs.length σ H → D.nx σ H) :
    ∃ W : Nat → Nat → St → Hp → Prop, (∃ m, W 0 m σ H) ∧ ∀ i m σ H, W i m σ H →
      ((Itz k1 k2 K a b).stop i H ∧ D.nx σ H) ∨ ((Itz k1 k2 K a b).go i H ∧ ∃ N : St → Hp → Prop, (∀ σ' H', N σ' H' → ∃ m', m' < m ∧ W (i + 1) m' σ' H') ∧ ∀ x H', (Itz k1 k2 K a b).yld i H x H' → g x σ H' fun σ2 H2 => tb { D with nx := N, ct := N, bk := D.nx } σ2 H2) := by
  refine ⟨fun i m σ H => m = xs.length - i ∧ i ≤ xs.length ∧ Pv i σ H, ⟨xs.length, by simp, Nat.zero_le _, h0⟩, ?_⟩
  rintro i m σ H ⟨rfl, hi, p⟩
  have q := hl i σ H hi p
  by_cases hlt : i < xs.length
  · have hi2 : i < ys.length := by omega
    have e1 : xs[i]? = some xs[i] := by simp [hlt]
    have e2 : ys[i]? = some ys[i] := by simp [hi2]
    refine .inr ⟨⟨xs, ys, xs[i], ys[i], q.1, q.2, e1, e2⟩, Pv (i + 1), fun σ' H' p' => ⟨xs.length - (i + 1), by omega, rfl, hlt, p'⟩, fun x H' y => ?_⟩
    obtain ⟨r, hr, rfl, y⟩ := y
    rw [y xs ys xs[i] ys[i] q.1 q.2 e1 e2]
    exact hs i _ _ σ H r e1 e2 p hr
  · have e : i = xs.length := by omega
    subst e
    exact .inl ⟨⟨xs, ys, q.1, q.2, .inl (Nat.le_refl _)⟩, hd σ H p⟩
end L2
namespace K04
open PySem L2
def fine (names : List Str) (e : Ex) : Bool := decide (e.dep ≤ 8) && e.okb names
abbrev nss : List (List Str) := [startNs, sendNs, sendNs, renewNs]
def fines (es : List Ex) (i : Nat) : Bool := ((es.zip nss).take i).all fun p => fine p.2 p.1
def sizeI (es : List Ex) (i : Nat) : Int := ((es.take i).map fun e => (e.size : Int)).sum
def goodB (es : List Ex) : Bool := fines es 4 && decide (sizeI es 4 ≤ 60)
theorem goodB_iff {e1 e2 e3 e4 : Ex} (w1 : e1.wk) (w2 : e2.wk) (w3 : e3.wk) (w4 : e4.wk) : goodB [e1, e2, e3, e4] = true ↔ Good4 e1.gx e2.gx e3.gx e4.gx := by
  have es : sizeI [e1, e2, e3, e4] 4 = (e1.size + e2.size + e3.size + e4.size : Nat) := by
    simp [sizeI]
    omega
  have i1 := Ex.okb_iff (names := startNs) w1
  have i2 := Ex.okb_iff (names := sendNs) w2
  have i3 := Ex.okb_iff (names := sendNs) w3
  have i4 := Ex.okb_iff (names := renewNs) w4
  have ef : fines [e1, e2, e3, e4] 4 = (fine startNs e1 && (fine sendNs e2 && (fine sendNs e3 && (fine renewNs e4 && true)))) := rfl
  unfold goodB
  rw [ef, es]
  unfold fine
  simp only [Bool.and_eq_true, decide_eq_true_iff, and_true, i1, i2, i3, i4]
  constructor
  · rintro ⟨⟨⟨d1, o1⟩, ⟨d2, o2⟩, ⟨d3, o3⟩, d4, o4⟩, z⟩
    exact ⟨e1, e2, e3, e4, ⟨rfl, rfl, rfl, rfl⟩, ⟨o1, o2, o3, o4⟩, ⟨d1, d2, d3, d4⟩, by omega⟩
  · rintro ⟨f1, f2, f3, f4, ⟨h1, h2, h3, h4⟩, ⟨o1, o2, o3, o4⟩, ⟨d1, d2, d3, d4⟩, z⟩
    cases Ex.gx_inj h1
    cases Ex.gx_inj h2
    cases Ex.gx_inj h3
    cases Ex.gx_inj h4
    exact ⟨⟨⟨d1, o1⟩, ⟨d2, o2⟩, ⟨d3, o3⟩, d4, o4⟩, by omega⟩
theorem fines_next {es : List Ex} {i : Nat} {e : Ex} {ns : List Str} (h1 : es[i]? = some e) (h2 : nss[i]? = some ns) : fines es (i + 1) = (fines es i && fine ns e) := by
  unfold fines
  have : (es.zip nss)[i]? = some (e, ns) := by rw [List.getElem?_zip_eq_some]; exact ⟨h1, h2⟩
  rw [List.take_add_one, this, List.all_append]
  simp
theorem sizeI_next {es : List Ex} {i : Nat} {e : Ex} (h1 : es[i]? = some e) : sizeI es (i + 1) = sizeI es i + (e.size : Int) := by
  unfold sizeI
  rw [List.take_add_one, h1]
  simp
theorem fines_no {es : List Ex} {i : Nat} {e : Ex} {ns : List Str} (h1 : es[i]? = some e) (h2 : nss[i]? = some ns) (hf : fine ns e = false) : goodB es = false := by
  have hm : (e, ns) ∈ es.zip nss := List.mem_of_getElem? (i := i) (by rw [List.getElem?_zip_eq_some]; exact ⟨h1, h2⟩)
  have : fines es 4 = false := by
    unfold fines
    rw [List.all_eq_false]
    refine ⟨(e, ns), ?_, by rw [show fine (e, ns).2 (e, ns).1 = false from hf]; simp⟩
    rw [List.take_of_length_le]
    · exact hm
    · rw [List.length_zip]
      exact Nat.min_le_right _ _
  unfold goodB
  rw [this]
  rfl
section
variable {P : Program} {w : World} {K : PySem.W.Frag} {mg : Str → Option Value} {base : Heap} {a : Ad}
def Told4 (H : Hp) (vs : List V) (es : List Ex) : Prop := vs.length = es.length ∧ ∀ (i : Nat) v, vs[i]? = some v → ∃ e, es[i]? = some e ∧ Told H e v ∧ e.wk ∧ e.dep ≤ 10
theorem Told4.mono {H H' : Hp} {vs : List V} {es : List Ex} (h : Told4 H vs es) (k : ∀ (e : Ex) v, Told H e v → Told H' e v) : Told4 H' vs es := ⟨h.1, fun i v hv => by
  obtain ⟨e, he, t, o, d⟩ := h.2 i v hv
  exact ⟨e, he, k e v t, o, d⟩⟩
theorem Told4.same {H H' : Hp} {vs : List V} {es : List Ex} (h : Told4 H vs es) (s : Same H H') : Told4 H' vs es := h.mono fun e v t => t.same s
def F4 (p0 p1 p2 lp : Addr) (H : Hp) : Prop := H p0 = some (.lst (startNs.map V.str)) ∧ H p1 = some (.lst (sendNs.map V.str)) ∧ H p2 = some (.lst (renewNs.map V.str)) ∧ H lp = some (.lst [V.ref p0, V.ref p1, V.ref p1, V.ref p2])
theorem F4.same {p0 p1 p2 lp : Addr} {H H' : Hp} (h : F4 p0 p1 p2 lp H) (s : Same H H') : F4 p0 p1 p2 lp H' := ⟨s _ _ h.1, s _ _ h.2.1, s _ _ h.2.2.1, s _ _ h.2.2.2⟩
def spGood : Sp := fun vs H Q _ => ∃ (l : Addr) (us : List V) (es : List Ex), vs = [.ref l] ∧ H l = some (.lst us) ∧ es.length = 4 ∧ Told4 H us es ∧ ∀ H', Same H H' → Q (.bl (goodB es)) H'
theorem ok_good (T : Txt K mg a) : FnOk P w K mg base CX0 13 a.f__law_good a.d__law_good ["_law_four"] spGood := by
  have c__law_look : Callee P w K mg base "_law_look" a.f__law_look a.d__law_look ["_law_told_here", "_law_names"] 12 (spLook 10) := ⟨ok_look T 10, T.g__law_look, T.F__law_look.kp, T.b__law_look⟩
  refine T.F__law_good.ok sc__law_good (fun vs H Q E h => ?_) (fun cdv A outer s H vs Q E hr h => ?_)
  · obtain ⟨l, us, es, rfl, _⟩ := h
    rfl
  · obtain ⟨l, us, es, rfl, hl, hes, ⟨hue, ht⟩, k⟩ := h
    refine ⟨_, (pss_cons (ps_set (i := 1) sc__law_good.nd rfl (Or.inl rfl) (pe_lst (pa_cons pe_str (pa_cons pe_str (pa_cons pe_str (pa_cons pe_str (pa_cons pe_str pa_nil)))))))
      (pss_cons (ps_set (i := 2) sc__law_good.nd rfl (Or.inl rfl) (pe_lst (pa_cons pe_str (pa_cons pe_str (pa_cons pe_str (pa_cons pe_str (pa_cons pe_str (pa_cons pe_str (pa_cons pe_str (pa_cons pe_str pa_nil))))))))))
      (pss_cons (ps_set (i := 3) sc__law_good.nd rfl (Or.inl rfl) pe_int)
      (pss_cons (ps_for PassesOwn.never rfl (pi_zip rfl T.n_zip (pa_cons (pv 0) (pa_cons (pe_lst (pa_cons (pe_lst (pa_cons pe_str (pa_cons pe_str pa_nil))) (pa_cons (pv 1) (pa_cons (pv 1) (pa_cons (pv 2) pa_nil))))) pa_nil))) (pg_tup rfl (pgs_cons (pg_name (i := 4) sc__law_good.nd rfl (Or.inl rfl)) (pgs_cons (pg_name (i := 5) sc__law_good.nd rfl (Or.inl rfl)) pgs_nil)))
        (pss_cons (ps_set (i := 6) sc__law_good.nd rfl (Or.inl rfl) (pe_c c__law_look (hr.mono (by omega)) (pa_cons (pv 4) (pa_cons (pv 5) pa_nil))))
        (pss_cons (ps_set (i := 3) sc__law_good.nd rfl (Or.inl rfl) (pe_op op_add (pv 3) (pe_ix ix_list (pv 6) pe_int (fun _ _ => rfl))))
        (pss_one (ps_if (PW.pt (pw_or (pt_cmpR op_gt (pe_ix ix_list (pv 6) pe_int (fun _ _ => rfl)) pe_int (nomark _)) (pw_or1 (pt_cmpR op_eq (pe_ix ix_list (pv 6) pe_int (fun _ _ => rfl)) pe_int (nomark _)))))
          (pss_one (ps_ret pe_bl))
          pss_nil)))))
      (pss_one (ps_ret (pe_cmpR op_le (pv 3) pe_int (nomark _)))))))), ?_⟩
    refine ⟨by show 5 ≤ sizeLine; decide, fun p1 hp1 => ?_⟩
    refine ⟨by show 8 ≤ sizeLine; decide, fun p2 hp2 => ?_⟩
    have s1 := Same.new (o := HO.lst (sendNs.map V.str)) hp1
    have s2 := Same.new (o := HO.lst (renewNs.map V.str)) hp2
    refine ⟨_, rfl, (by show 2 ≤ sizeLine; decide), fun p0 hp0 => ?_⟩
    have s0 := Same.new (o := HO.lst (startNs.map V.str)) hp0
    refine ⟨_, rfl, _, rfl, _, rfl, (by show 4 ≤ sizeLine; decide), fun lp hlp => ?_⟩
    have s3 := Same.new (o := HO.lst [V.ref p0, V.ref p1, V.ref p1, V.ref p2]) hlp
    have sA := ((s1.trans s2).trans s0).trans s3
    have f4 : F4 p0 p1 p2 lp _ := ⟨s3 _ _ upd_same, s3 _ _ (s0 _ _ (s2 _ _ upd_same)), s3 _ _ (s0 _ _ upd_same), upd_same⟩
    refine ⟨.l, .l, l, lp, us, [V.ref p0, V.ref p1, V.ref p1, V.ref p2], rfl, SqL.of (sA _ _ hl), SqL.of upd_same, ?_⟩
    refine for_zip (K := K) (k1 := .l) (k2 := .l) (a := l) (b := lp) (xs := us) (ys := [V.ref p0, V.ref p1, V.ref p1, V.ref p2]) (by rw [hue, hes]; rfl) (fun i σ H' => ∃ (o4 o5 o6 : Option V), σ = [some (.ref l), some (.ref p1), some (.ref p2), some (.int (sizeI es i)), o4, o5, o6] ∧ (Same H H' ∧ F4 p0 p1 p2 lp H') ∧ fines es i = true) ?_ ?_ ?_ ?_
    · exact ⟨none, none, none, rfl, ⟨sA, f4⟩, rfl⟩
    · rintro i σ H' _ ⟨o4, o5, o6, _, ⟨sm, fm⟩, _⟩
      exact ⟨SqL.of (sm _ _ hl), SqL.of fm.2.2.2⟩
    · rintro i x y σ H' q hx hy ⟨o4, o5, o6, rfl, ⟨sm, fm⟩, hf⟩ hq
      obtain ⟨e, he, te, we, de⟩ := ht i x hx
      have yq := Same.new (o := HO.tup [x, y]) hq
      have sq := sm.trans yq
      obtain ⟨nm, ns, rfl, hns, hnm⟩ : ∃ nm ns, y = .ref nm ∧ nss[i]? = some ns ∧ H' nm = some (.lst (ns.map V.str)) := by
        match i, hy with
        | 0, hy => cases hy; exact ⟨_, _, rfl, rfl, fm.1⟩
        | 1, hy => cases hy; exact ⟨_, _, rfl, rfl, fm.2.1⟩
        | 2, hy => cases hy; exact ⟨_, _, rfl, rfl, fm.2.1⟩
        | 3, hy => cases hy; exact ⟨_, _, rfl, rfl, fm.2.2.1⟩
        | _ + 4, hy => simp at hy
      refine ⟨q, [x, .ref nm], rfl, SqT.of upd_same, rfl, _, _, rfl, _, _, rfl, rfl, ?_⟩
      refine ⟨_, rfl, _, rfl, e, _, nm, ns, rfl, te.same sq, de, we, yq _ _ hnm, fun pf H5 hpf s5 => ?_⟩
      refine ⟨_, rfl, _, rfl, pf, _, 0, _, rfl, rfl, SqL.of hpf, rfl, _, _, rfl, rfl, ?_⟩
      refine ⟨_, rfl, pf, _, 1, _, rfl, rfl, SqL.of hpf, rfl, _, _, rfl, rfl, _, rfl, ?_⟩
      have s6 := sq.trans s5
      by_cases d8 : e.dep ≤ 8
      · refine iteN (decide_eq_false (by show ¬ ((e.dep : Int) > 8); omega)) ⟨_, rfl, pf, _, 2, _, rfl, rfl, SqL.of hpf, rfl, rfl, _, rfl, ?_⟩
        by_cases ob : e.okb ns = true
        · refine iteN (decide_eq_false (by intro z; rw [ob] at z; cases z)) ?_
          have hfe : fine ns e = true := by unfold fine; rw [ob, decide_eq_true d8]; rfl
          refine ⟨some x, some (.ref nm), some (.ref pf), ?_, ⟨s6, fm.same (yq.trans s5)⟩, by rw [fines_next he hns, hf, hfe]; rfl⟩
          rw [sizeI_next he]
          rfl
        · have ob := Bool.eq_false_iff.mpr ob
          refine iteB (decide_eq_true (by rw [ob]; rfl)) ?_
          have := k H5 s6
          rw [fines_no he hns (by unfold fine; rw [ob, Bool.and_false])] at this
          exact this
      · refine iteB (decide_eq_true (by show ((e.dep : Int) > 8); omega)) (iteT ?_)
        have := k H5 s6
        rw [fines_no he hns (by unfold fine; rw [decide_eq_false d8, Bool.false_and])] at this
        exact this
    · rintro σ H' ⟨o4, o5, o6, rfl, ⟨sm, fm⟩, hf⟩
      refine ⟨_, rfl, _, _, rfl, rfl, ?_⟩
      have e4 : us.length = 4 := by omega
      rw [e4] at hf ⊢
      have := k H' sm
      unfold goodB at this
      rw [hf, Bool.true_and] at this
      exact this
end
end K04

/-! K08q -/
set_option Elab.async false
set_option linter.all false
set_option maxRecDepth 100000
set_option maxHeartbeats 4000000
namespace K04
open PySem L2
theorem Same.ofExt {l : Addr} {H H1 H2 : Hp} (s : Same H H1) (hl : H l = none) (x : Ext l H1 H2) : Same H H2 := fun b o e => x b o (s b o e) (ne_of_none e hl)
abbrev pools : List (List Str) := [["me", "lines"], ["worth", "to", "round"], ["worth", "me", "lines", "to"], renewNs]
theorem pools_len {i : Nat} {ns : List Str} (h : pools[i]? = some ns) : 0 < ns.length ∧ ns.length ≤ 100 := by
  match i, h with
  | 0, h => cases h; decide
  | 1, h => cases h; decide
  | 2, h => cases h; decide
  | 3, h => cases h; decide
  | _ + 4, h => simp at h
section
variable {P : Program} {w : World} {K : PySem.W.Frag} {mg : Str → Option Value} {base : Heap} {a : Ad}
def G4 (p1 p2 p3 pe lp : Addr) (H : Hp) : Prop := (∀ (i : Nat) v, [V.ref p1, V.ref p2, V.ref p3, V.ref pe][i]? = some v → ∃ nm ns, v = .ref nm ∧ pools[i]? = some ns ∧ H nm = some (.lst (ns.map V.str))) ∧ H lp = some (.lst [V.ref p1, V.ref p2, V.ref p3, V.ref pe])
theorem G4.mono {p1 p2 p3 pe lp : Addr} {H H' : Hp} (h : G4 p1 p2 p3 pe lp H) (k : ∀ b xs, b ∈ [p1, p2, p3, pe, lp] → H b = some (.lst xs) → H' b = some (.lst xs)) : G4 p1 p2 p3 pe lp H' := by
  refine ⟨fun i v hv => ?_, k _ _ (by simp) h.2⟩
  obtain ⟨nm, ns, rfl, h1, h2⟩ := h.1 i v hv
  refine ⟨nm, ns, rfl, h1, k _ _ ?_ h2⟩
  match i, hv with
  | 0, hv => cases hv; simp
  | 1, hv => cases hv; simp
  | 2, hv => cases hv; simp
  | 3, hv => cases hv; simp
  | _ + 4, hv => simp at hv
def spLaw (K : PySem.W.Frag) : Sp := fun vs H Q _ => ∃ (a : Addr) (ns : List Int), vs = [.ref a] ∧ SqL K H a (ns.map V.int) ∧ ns.length ≤ 63 ∧ ∀ H', Q (.bl true) H'
theorem sp_law_of {K : PySem.W.Frag} {H : Hp} {a : Addr} {ns : List Int} (hl : ns.length ≤ 63) (hO : Only H) (hS : SqL K H a (ns.map V.int)) : spLaw K [.ref a] H (fun v _ => v = .bl true) fun _ _ _ => False := ⟨a, ns, rfl, hS, hl, fun _ => rfl⟩
theorem ok_law (T : Txt K mg a) : FnOk P w K mg base CX0 27 a.f_law a.d_law ["_law_script"] (spLaw K) := by
  have c__law_told : Callee P w K mg base "_law_told" a.f__law_told a.d__law_told ["_law_state", "_law_pool"] 4 spTold8 := ⟨ok_told8 T, T.g__law_told, T.F__law_told.kp, T.b__law_told⟩
  have c__law_made : Callee P w K mg base "_law_made" a.f__law_made a.d__law_made ["_law_told_here"] 12 (spMade8 a 10) := ⟨ok_made8 T 10, T.g__law_made, T.F__law_made.kp, T.b__law_made⟩
  have c__law_good : Callee P w K mg base "_law_good" a.f__law_good a.d__law_good ["_law_four"] 13 spGood := ⟨ok_good T, T.g__law_good, T.F__law_good.kp, T.b__law_good⟩
  have mx_Program : Maker1 P w K mg base "Program" a.c_Program a.f_Program___init__ a.d_Program___init__ ["self", "start", "send", "when", "renew"] 22 (spProg1 K a) := ⟨ok_prog1 T, T.g_Program, T.mk_Program, T.b_Program___init__⟩
  refine T.F_law.ok sc_law (fun vs H Q E h => ?_) (fun cdv A outer s H vs Q E hr h => ?_)
  · obtain ⟨sc, ns, rfl, _⟩ := h
    rfl
  · obtain ⟨sc, ns, rfl, hS, hns, k⟩ := h
    refine ⟨_, (pss_cons (ps_for PassesOwn.never rfl (pi_list (pe_slice sl_list (pv 0) po_none (po_some pe_int))) (pg_name (i := 1) sc_law.nd rfl (Or.inl rfl))
        (pss_cons (ps_set (i := 2) sc_law.nd rfl (Or.inl rfl) (pe_lst (pa_cons (pv 1) pa_nil)))
        (pss_cons (ps_set (i := 3) sc_law.nd rfl (Or.inl rfl) (pe_lst (pa_cons pe_str (pa_cons pe_str (pa_cons pe_str (pa_cons pe_str (pa_cons pe_str (pa_cons pe_str (pa_cons pe_str (pa_cons pe_str pa_nil))))))))))
        (pss_cons (ps_set (i := 4) sc_law.nd rfl (Or.inl rfl) (pe_lst pa_nil))
        (pss_cons (ps_for PassesOwn.never rfl (pi_list (pe_lst (pa_cons (pe_lst (pa_cons pe_str (pa_cons pe_str pa_nil))) (pa_cons (pe_lst (pa_cons pe_str (pa_cons pe_str (pa_cons pe_str pa_nil)))) (pa_cons (pe_lst (pa_cons pe_str (pa_cons pe_str (pa_cons pe_str (pa_cons pe_str pa_nil))))) (pa_cons (pv 3) pa_nil)))))) (pg_name (i := 5) sc_law.nd rfl (Or.inl rfl))
          (pss_one (ps_expr (pe_bm PySem.F.plainAttrs_list PySem.F.slot_list_append PySem.F.type_list_append mt_append (pv 4) (pa_cons (pe_c c__law_told (hr.mono (by omega)) (pa_cons (pv 2) (pa_cons (pv 5) pa_nil))) pa_nil)))))
        (pss_cons (ps_set (i := 6) sc_law.nd rfl (Or.inl rfl) pe_bl)
        (pss_cut (ps_try rfl rfl T.xc_NoProgram T.g_NoProgram (px_expr (pv_m mx_Program (hr.mono (by omega)) (pa_cons (pe_c c__law_made (hr.mono (by omega)) (pa_cons (pe_ix ix_list (pv 4) pe_int (fun _ _ => rfl)) pa_nil)) (pa_cons (pe_c c__law_made (hr.mono (by omega)) (pa_cons (pe_ix ix_list (pv 4) pe_int (fun _ _ => rfl)) pa_nil)) (pa_cons (pe_c c__law_made (hr.mono (by omega)) (pa_cons (pe_ix ix_list (pv 4) pe_int (fun _ _ => rfl)) pa_nil)) (pa_cons (pe_c c__law_made (hr.mono (by omega)) (pa_cons (pe_ix ix_list (pv 4) pe_int (fun _ _ => rfl)) pa_nil)) pa_nil)))))) (fun _ => (pss_one (ps_set (i := 6) sc_law.nd rfl (Or.inl rfl) pe_bl))))
        (pss_one (ps_if (pt_cmpR op_ne (pv 6) (pe_c c__law_good (hr.mono (by omega)) (pa_cons (pv 4) pa_nil)) (nomark _))
          (pss_one (ps_ret pe_bl))
          pss_nil)))))))))
      (pss_one (ps_ret pe_bl))), ?_⟩
    refine ⟨_, rfl, _, rfl, sc, _, rfl, hS, fun ps hps => ?_⟩
    refine ⟨ps, rfl, ⟨_, SqL.of upd_same⟩, ?_⟩
    refine for_list (K := K) (a := ps) (xs := cutV (ns.map V.int) none (some 16)) (fun i σ H' => ∃ (o1 o2 o3 o4 o5 o6 : Option V), σ = [some (.ref sc), o1, o2, o3, o4, o5, o6] ∧ H' ps = some (.lst (cutV (ns.map V.int) none (some 16)))) ?_ ?_ ?_ ?_
    · exact ⟨none, none, none, none, none, none, rfl, upd_same⟩
    · rintro i σ H' _ ⟨_, _, _, _, _, _, _, h⟩
      exact SqL.of h
    · rintro i x σ H0 hi ⟨o1, o2, o3, o4, o5, o6, rfl, hps0⟩
      obtain ⟨c, rfl⟩ := cut_ints hi
      refine ⟨_, rfl, (by show 1 ≤ sizeLine; decide), fun l hl => ?_⟩
      have y1 := Same.new (o := HO.lst [V.int c]) hl
      refine ⟨by show 8 ≤ sizeLine; decide, fun pe hpe => ?_⟩
      have y2 := Same.new (o := HO.lst (renewNs.map V.str)) hpe
      refine ⟨by show 0 ≤ sizeLine; decide, fun D hD => ?_⟩
      have y3 := Same.new (o := HO.lst []) hD
      refine ⟨by show 2 ≤ sizeLine; decide, fun p1 hp1 => ?_⟩
      have y4 := Same.new (o := HO.lst ((["me", "lines"] : List Str).map V.str)) hp1
      refine ⟨by show 3 ≤ sizeLine; decide, fun p2 hp2 => ?_⟩
      have y5 := Same.new (o := HO.lst ((["worth", "to", "round"] : List Str).map V.str)) hp2
      refine ⟨by show 4 ≤ sizeLine; decide, fun p3 hp3 => ?_⟩
      have y6 := Same.new (o := HO.lst ((["worth", "me", "lines", "to"] : List Str).map V.str)) hp3
      refine ⟨_, rfl, (by show 4 ≤ sizeLine; decide), fun lp hlp => ?_⟩
      have y7 := Same.new (o := HO.lst [V.ref p1, V.ref p2, V.ref p3, V.ref pe]) hlp
      have z6 := y6.trans y7
      have z5 := y5.trans z6
      have z4 := y4.trans z5
      have z3 := y3.trans z4
      have z2 := y2.trans z3
      have z1 := y1.trans z2
      have st0 : StAt _ l := ⟨[V.int c], z2 _ _ upd_same, .inl ⟨c, rfl⟩⟩
      have hD0 := z4 _ _ (show upd _ D (HO.lst []) D = some (HO.lst []) from upd_same)
      have g0 : G4 p1 p2 p3 pe lp _ := ⟨fun i v hv => by
        match i, hv with
        | 0, hv => cases hv; exact ⟨_, _, rfl, rfl, z5 _ _ upd_same⟩
        | 1, hv => cases hv; exact ⟨_, _, rfl, rfl, z6 _ _ upd_same⟩
        | 2, hv => cases hv; exact ⟨_, _, rfl, rfl, y7 _ _ upd_same⟩
        | 3, hv => cases hv; exact ⟨_, _, rfl, rfl, z3 _ _ upd_same⟩
        | _ + 4, hv => simp at hv, upd_same⟩
      have nl : ∀ b ∈ [p1, p2, p3, pe, lp], b ≠ l ∧ b ≠ D := by
        have e1 := z2 _ _ (show upd H0 l (HO.lst [V.int c]) l = some (HO.lst [V.int c]) from upd_same)
        have hl1 := (y2.trans (y3.trans (y4.trans (y5.trans y6))))
        intro b hb
        simp only [List.mem_cons, List.not_mem_nil, or_false] at hb
        have n1 : H0 l = none := hl
        rcases hb with rfl | rfl | rfl | rfl | rfl
        · exact ⟨(ne_of_none ((y2.trans y3) _ _ upd_same) hp1).symm, (ne_of_none upd_same hp1).symm⟩
        · exact ⟨(ne_of_none ((y2.trans (y3.trans y4)) _ _ upd_same) hp2).symm, (ne_of_none (y4 _ _ upd_same) hp2).symm⟩
        · exact ⟨(ne_of_none ((y2.trans (y3.trans (y4.trans y5))) _ _ upd_same) hp3).symm, (ne_of_none ((y4.trans y5) _ _ upd_same) hp3).symm⟩
        · exact ⟨(ne_of_none upd_same hpe).symm, ne_of_none upd_same hD⟩
        · exact ⟨(ne_of_none (hl1 _ _ upd_same) hlp).symm, (ne_of_none ((y4.trans (y5.trans y6)) _ _ upd_same) hlp).symm⟩
      have nDl : D ≠ l := (ne_of_none (y2 _ _ upd_same) hD).symm
      have hl0 : H0 l = none := hl
      have hD0' : H0 D = none := by
        cases e : H0 D with
        | none => rfl
        | some o => cases ((y1.trans y2) _ _ e).symm.trans hD
      refine ⟨lp, rfl, ⟨_, SqL.of upd_same⟩, ?_⟩
      refine for_list (K := K) (a := lp) (xs := [V.ref p1, V.ref p2, V.ref p3, V.ref pe]) (fun j σ H' => ∃ (o5 : Option V) (us : List V) (es : List Ex), σ = [some (.ref sc), some (.int c), some (.ref l), some (.ref pe), some (.ref D), o5, o6] ∧ H' D = some (.lst us) ∧ us.length = j ∧ Told4 H' us es ∧ StAt H' l ∧ G4 p1 p2 p3 pe lp H' ∧ Same H0 H') ?_ ?_ ?_ ?_
      · exact ⟨o5, [], [], rfl, hD0, rfl, ⟨rfl, fun i v hv => by simp at hv⟩, st0, g0, z1⟩
      · rintro j σ H' _ ⟨_, _, _, _, _, _, _, _, g, _⟩
        exact SqL.of g.2
      · rintro j x σ H1 hj ⟨o5, us, es, rfl, hD1, hu, ht, s1, g1, sm⟩
        obtain ⟨nm, pn, rfl, hpn, hnm⟩ := g1.1 j x hj
        have hj4 : j < 4 := (List.getElem?_eq_some_iff.mp hj).1
        have nnl : nm ≠ l := by
          refine (nl nm ?_).1
          match j, hj with
          | 0, hj => cases hj; simp
          | 1, hj => cases hj; simp
          | 2, hj => cases hj; simp
          | 3, hj => cases hj; simp
          | _ + 4, hj => simp at hj
        obtain ⟨q1, q2⟩ := pools_len hpn
        refine ⟨_, rfl, .inl ⟨rfl, _, SqL.of hD1⟩, _, rfl, _, rfl, l, nm, pn, rfl, s1, hnm, nnl, q1, q2, fun e v H2 te we de s2 x2 => ?_⟩
        have hD2 := x2 _ _ hD1 nDl
        refine ⟨D, _, _, rfl, rfl, hD2, small1000 (by omega), ?_⟩
        refine ⟨some (.ref nm), us ++ [v], es ++ [e], rfl, upd_same, by simp [hu], ⟨by simp [ht.1], fun n u hu' => ?_⟩, ?_, ?_, ?_⟩
        · by_cases q : n < us.length
          · rw [List.getElem?_append_left q] at hu'
            obtain ⟨e', h1, h2, h3, h4⟩ := ht.2 n u hu'
            have hn' : n < es.length := by rw [← ht.1]; exact q
            exact ⟨e', by rw [List.getElem?_append_left hn']; exact h1, (h2.ext s1 x2).updL hD2, h3, h4⟩
          · rw [List.getElem?_append_right (by omega)] at hu'
            rw [List.getElem?_append_right (by rw [← ht.1]; omega), ← ht.1]
            obtain ⟨m, hm⟩ : ∃ m, m = n - us.length := ⟨_, rfl⟩
            rw [← hm] at hu' ⊢
            cases m with
            | zero => cases hu'; exact ⟨e, rfl, te.updL hD2, we, de⟩
            | succ m => simp at hu'
        · obtain ⟨st, e0, ok⟩ := s2
          exact ⟨st, by rw [upd_ne nDl.symm]; exact e0, ok⟩
        · exact g1.mono fun b xs hb h => by
            rw [upd_ne (nl b hb).2]
            exact x2 _ _ h (nl b hb).1
        · intro b o e0
          rw [upd_ne (ne_of_none e0 hD0')]
          exact (Same.ofExt sm hl0 x2) b o e0
      · rintro σ H1 ⟨o5, us, es, rfl, hD1, hu, ht, s1, g1, sm⟩
        have hu : us.length = 4 := hu
        have he4 : es.length = 4 := by rw [← ht.1]; exact hu
        match us, hu, es, he4, hD1, ht with
        | [v1, v2, v3, v4], _, [e1, e2, e3, e4], _, hD1, ht =>
        obtain ⟨f1, h1, t1, w1, d1⟩ := ht.2 0 v1 rfl
        obtain ⟨f2, h2, t2, w2, d2⟩ := ht.2 1 v2 rfl
        obtain ⟨f3, h3, t3, w3, d3⟩ := ht.2 2 v3 rfl
        obtain ⟨f4, h4, t4, w4, d4⟩ := ht.2 3 v4 rfl
        cases h1
        cases h2
        cases h3
        cases h4
        have hg := goodB_iff w1 w2 w3 w4
        -- try
        refine ⟨fun σ' H' => σ' = [some (.ref sc), some (.int c), some (.ref l), some (.ref pe), some (.ref D), o5, some (.bl (goodB [e1, e2, e3, e4]))] ∧ Same H1 H', ?_, ?_⟩
        · refine ⟨_, rfl, D, _, 0, _, rfl, rfl, SqL.of hD1, rfl, e1, v1, rfl, t1, d1, w1, fun r1 H2 m1 a1 => ?_⟩
          refine ⟨_, rfl, D, _, 1, _, rfl, rfl, SqL.of (a1 _ _ hD1), rfl, e2, v2, rfl, t2.same a1, d2, w2, fun r2 H3 m2 a2 => ?_⟩
          have b2 := a1.trans a2
          refine ⟨_, rfl, D, _, 2, _, rfl, rfl, SqL.of (b2 _ _ hD1), rfl, e3, v3, rfl, t3.same b2, d3, w3, fun r3 H4 m3 a3 => ?_⟩
          have b3 := b2.trans a3
          refine ⟨_, rfl, D, _, 3, _, rfl, rfl, SqL.of (b3 _ _ hD1), rfl, e4, v4, rfl, t4.same b3, d4, w4, fun r4 H5 m4 a4 => ?_⟩
          have b4 := b3.trans a4
          refine fun x dx nx ndx nex => ?_
          have sN : Same H5 (upd (upd H5 dx (.own x)) x (.ins a.c_Program dx [])) := fun b o e => by
            rw [upd_ne (ne_of_none e nx), upd_ne (ne_of_none e ndx)]
            exact e
          refine ⟨x, dx, r1, r2, r3, r4, e1.gx, e2.gx, e3.gx, e4.gx, rfl, upd_same, ⟨((m1.same (a2.trans (a3.trans a4))).same sN).gx T, ((m2.same (a3.trans a4)).same sN).gx T, ((m3.same a4).same sN).gx T, (m4.same sN).gx T⟩, fun hgd H' s' => ⟨rfl, ?_, ?_⟩, fun hgd H' s' => ⟨rfl, ?_, ?_⟩⟩
          · rw [hg.mpr hgd]
            rfl
          · intro b o e
            rw [upd_ne (ne_of_none (b4 _ _ e) nx)]
            exact (sN.trans s') b o (b4 _ _ e)
          · have : goodB [e1, e2, e3, e4] = false := Bool.eq_false_iff.mpr fun z => hgd (hg.mp z)
            rw [this]
            rfl
          · exact b4.trans (sN.trans s')
        · rintro σ' H2 ⟨rfl, a2⟩
          refine ⟨_, rfl, _, rfl, D, _, [e1, e2, e3, e4], rfl, a2 _ _ hD1, rfl, ht.same a2, fun H3 a3 => ⟨rfl, _, rfl, iteNS rfl ?_⟩⟩
          exact ⟨_, _, _, _, _, _, rfl, (sm.trans (a2.trans a3)) _ _ hps0⟩
    · rintro σ H' _
      exact k H'
end
end K04

/-! Hx_k08 -/
set_option Elab.async false
set_option linter.all false
set_option maxRecDepth 100000
set_option maxHeartbeats 4000000
noncomputable section
namespace Hd
open PySem PySem.W PySem.Calls PyProof.Rows
def tt {α : Type} (_ : α) : Bool := true
def S (i : Nat) : Stmt := PySem.Challenge.pw_beatless_k08_whole_programs_let_by.main.body.getD i (.Pass ⟨0, 0, 0, 0⟩)
def en (P : Params) (x : Str) (t : Tok) (v : Value) : DictEntry := ⟨PyData.keyHash P x, .str x t, v⟩
def fd (n q : Str) (s : Stmt) (g : Addr) (cl : List (Str × Addr)) (d k c m : Value) (an : Option Addr) (cd ct : Value) (b : Addr) : FuncData :=
  ⟨n, q, L2.defArgs s, .stmts (L2.defBody s), L2.defScope s, g, cl, d, k, c, m, an, cd, ct, b⟩
abbrev an : Option Value := (Option.some (.ref 6))
def env : Env := { scope := PySem.Challenge.pw_beatless_k08_whole_programs_let_by.main.scope, locals := mainNs, globals := mainNs, cells := [], code := (.ref 13), frame := some 14 }
abbrev bE : List Stmt := behindTheImports PySem.Challenge.pw_beatless_k08_whole_programs_let_by
abbrev cE : Code := .body bE env
abbrev qE : Pos := (Pos.mk 0 0 0 0)
abbrev B : List Frame := [topFrame qE]
def s0 (w : World) (os : OsState) : Shared := ⟨boot_heap w.params, ⟨[]⟩, boot_drawn, boot_toks, os⟩
def o0 (P : Params) : Obj := (Obj.mk (.type "tuple") (Option.none) (Data.seq #[] 0) #[])
def o1 (P : Params) : Obj := (Obj.mk .none (Option.none) (Data.fields #[]) #[])
def o2 (P : Params) : Obj := (Obj.mk (.type "code") (Option.none) (Data.fields #[(.str "<module>" 182), (.str "<module>" 183), (.str "/claim/cut.py" 184), (.int (1 : Int) 0), (.int (0 : Int) 0), (.int (0 : Int) 0), (.int (0 : Int) 0), (.int (0 : Int) 0), (.ref 11), (.bool Bool.false), (.int (181 : Int) 0), (.ref 12), .none, .none, .none, .none, (.int (185 : Int) 0), (.int (1 : Int) 0), (.str "/claim/cut.py" 186)]) #[])
def o3 (P : Params) : Obj := (Obj.mk (.type "frame") (Option.none) Data.plain #[(Option.some (.ref 13)), (Option.some (.ref 3)), (Option.some (.ref 3)), (Option.none), (Option.some (.str "__main__" 164)), (Option.none), (Option.some (.ref 0))])
def t0 (P : Params) : BT := .node (boot_o_7 P) .nil .nil
def t1 (P : Params) : BT := .node (o0 P) .nil .nil
def t2 (P : Params) : BT := .node (boot_o_3 P) (t0 P) (t1 P)
def t3 (P : Params) : BT := .node (boot_o_9 P) .nil .nil
def t4 (P : Params) : BT := .node (o2 P) .nil .nil
def t5 (P : Params) : BT := .node (boot_o_5 P) (t3 P) (t4 P)
def t6 (P : Params) : BT := .node (boot_o_1 P) (t2 P) (t5 P)
def t7 (P : Params) : BT := .node (boot_o_8 P) .nil .nil
def t8 (P : Params) : BT := .node (o1 P) .nil .nil
def t9 (P : Params) : BT := .node (boot_o_4 P) (t7 P) (t8 P)
def t10 (P : Params) : BT := .node (boot_o_10 P) .nil .nil
def t11 (P : Params) : BT := .node (o3 P) .nil .nil
def t12 (P : Params) : BT := .node (boot_o_6 P) (t10 P) (t11 P)
def t13 (P : Params) : BT := .node (boot_o_2 P) (t9 P) (t12 P)
def t14 (P : Params) : BT := .node (boot_o_0 P) (t6 P) (t13 P)
def sa (w : World) (os : OsState) : SharedT := ⟨(t14 w.params), 15, (Life.mk [] [] [] 0 [] [] Bool.false #[] [] 0 Bool.false Bool.false Bool.false (0 : Int) [(2000 : Int), (10 : Int), (10 : Int)] Bool.false 0 Bool.true [] [] 0 Bool.false), ⟨[]⟩, (Drawn.mk 0 0 0 0), 187, os⟩
def La (w : World) (os : OsState) : Option (Shared × Thread) := topGo treeTable PySem.Challenge.pw_beatless_k08_whole_programs_let_by w 11 an 12 (s0 w os) (topStub PySem.Challenge.pw_beatless_k08_whole_programs_let_by)
def Ra (w : World) (os : OsState) : Option (Shared × Thread) := some ((sa w os).abs, ⟨denote treeTable cE, cE, (Pos.mk 0 0 0 0), B⟩)
theorem qa : tt (Hd.La, Hd.Ra) = true := by k_qdec
theorem ra : ∀ w, PySem.W.Fast.tw11367235000924431832 w = PySem.W.Fast.tw15912052731592885781 w := fun w => by kernel_rfl
theorem ea (w : World) (os : OsState) : Hd.La w os = Hd.Ra w os :=
  (congrFun (congrFun PySem.W.Fast.te11367235000924431832 w) os).trans ((congrFun (ra w) os).trans (congrFun (congrFun PySem.W.Fast.te15912052731592885781 w) os).symm)
def sb0 (w : World) (os : OsState) : SharedT := ⟨(t14 w.params), 15, (Life.mk [] [] [] 0 [] [] Bool.false #[] [] 0 Bool.false Bool.false Bool.false (0 : Int) [(2000 : Int), (10 : Int), (10 : Int)] Bool.false 0 Bool.true [] [] 0 Bool.false), ⟨[]⟩, (Drawn.mk 0 0 0 0), 187, os⟩
def Lb (w : World) (os : OsState) : Option (Flow × SharedT × Code × Pos) := segRunT treeTable PySem.Challenge.pw_beatless_k08_whole_programs_let_by w 11 an 1 1 (sa w os) (blockOf bE env cE (Pos.mk 0 0 0 0) B)
def Rb (w : World) (os : OsState) : Option (Flow × SharedT × Code × Pos) := some (.next, sb0 w os, cE, (Pos.mk 0 0 0 0))
theorem qb : tt (Hd.Lb, Hd.Rb) = true := by k_qdec
theorem rb : ∀ w, PySem.W.Fast.tw16430817790641568776 w = PySem.W.Fast.tw15716482383535360375 w := fun w => by kernel_rfl
theorem eb (w : World) (os : OsState) : Hd.Lb w os = Hd.Rb w os :=
  (congrFun (congrFun PySem.W.Fast.te16430817790641568776 w) os).trans ((congrFun (rb w) os).trans (congrFun (congrFun PySem.W.Fast.te15716482383535360375 w) os).symm)
def sts0 : List Stmt := [S 0, S 1, S 2]
def o4 (P : Params) : Obj := (Obj.mk (.type "dict") (Option.none) (Data.dict #[en P "__name__" 165 (.str "beatless.errors" 194), en P "__doc__" 166 .none, en P "__package__" 167 .none, en P "__loader__" 168 (.builtin "__main__.__loader__#opaque"), en P "__spec__" 169 .none, en P "__annotations__" 170 (.ref 6), en P "__builtins__" 171 (.ref 4), en P "__file__" 173 (.str "/claim/cut.py" 172), en P "__cached__" 174 .none, en P "_wall" 193 (.ref 21), en P "BeatlessError" 213 (.ref 31)] 11) #[])
def o5 (P : Params) : Obj := (Obj.mk .none (Option.none) (Data.fields #[(.int (1 : Int) 0), (.int (0 : Int) 0), (.ref 20), (.int (5 : Int) 0), (.int (0 : Int) 0), (.ref 27)]) #[])
def o6 (P : Params) : Obj := (Obj.mk (.type "tuple") (Option.none) (Data.seq #[] 0) #[])
def o7 (P : Params) : Obj := (Obj.mk .none (Option.none) (Data.fields #[]) #[])
def o8 (P : Params) : Obj := (Obj.mk (.type "tuple") (Option.none) (Data.seq #[(.str "k" 190)] 0) #[])
def o9 (P : Params) : Obj := (Obj.mk (.type "tuple") (Option.none) (Data.seq #[] 0) #[])
def o10 (P : Params) : Obj := (Obj.mk .none (Option.none) (Data.func (fd "_wall" "_wall" (S 0) 0 [] .none .none .none .none (Option.none) .none .none 0)) #[])
def o11 (P : Params) : Obj := (Obj.mk (.type "code") (Option.none) (Data.fields #[(.str "_wall" 187), (.str "_wall" 188), (.str "/claim/cut.py" 189), (.int (1 : Int) 0), (.int (1 : Int) 0), (.int (0 : Int) 0), (.int (0 : Int) 0), (.int (3 : Int) 0), (.ref 15), (.bool Bool.true), (.int (181 : Int) 0), (.ref 16), .none, (.ref 17), (.ref 18), (.ref 19), (.int (191 : Int) 0), (.int (1 : Int) 0), (.str "/claim/cut.py" 192)]) #[])
def o12 (P : Params) : Obj := (Obj.mk (.type "function") (Option.none) (Data.func (fd "_wall" "_wall" (S 0) 3 [] .none .none .none (.str "__main__" 164) (Option.none) (.ref 20) .none 0)) #[])
def o13 (P : Params) : Obj := (Obj.mk (.type "tuple") (Option.none) (Data.seq #[(.type "ValueError")] 0) #[])
def o14 (P : Params) : Obj := (Obj.mk (.type "builtin_function_or_method") (Option.none) (Data.fields #[(.builtin "type.__prepare__"), (.type "type")]) #[])
def o15 (P : Params) : Obj := (Obj.mk (.type "dict") (Option.none) (Data.dict #[en P "__module__" 203 (.str "beatless.errors" 194), en P "__qualname__" 205 (.str "BeatlessError" 204), en P "__firstlineno__" 207 (.int (5 : Int) 206), en P "__static_attributes__" 208 (.ref 29)] 4) #[])
def o16 (P : Params) : Obj := (Obj.mk (.type "tuple") (Option.none) (Data.seq #[] 0) #[])
def o17 (P : Params) : Obj := (Obj.mk .none (Option.none) (Data.fields #[]) #[])
def o18 (P : Params) : Obj := (Obj.mk (.type "code") (Option.none) (Data.fields #[(.str "BeatlessError" 198), (.str "BeatlessError" 199), (.str "/claim/cut.py" 200), (.int (5 : Int) 0), (.int (0 : Int) 0), (.int (0 : Int) 0), (.int (0 : Int) 0), (.int (0 : Int) 0), (.ref 25), (.bool Bool.false), (.int (181 : Int) 0), (.ref 26), .none, .none, .none, .none, (.int (201 : Int) 0), (.int (5 : Int) 0), (.str "/claim/cut.py" 202)]) #[])
def o19 (P : Params) : Obj := (Obj.mk (.type "frame") (Option.none) Data.plain #[(Option.some (.ref 27)), (Option.some (.ref 3)), (Option.some (.ref 24)), (Option.none), (Option.some (.str "beatless.errors" 194)), (Option.none), (Option.some (.ref 0))])
def o20 (P : Params) : Obj := (Obj.mk (.type "tuple") (Option.none) (Data.seq #[] 0) #[])
def o21 (P : Params) : Obj := (Obj.mk (.type "dict") (Option.none) (Data.dict #[en P "__module__" 203 (.str "beatless.errors" 194), en P "__firstlineno__" 207 (.int (5 : Int) 206), en P "__static_attributes__" 208 (.ref 29), en P "__weakref__" 210 (.ref 32), en P "__doc__" 211 .none] 3) #[])
def o22 (P : Params) : Obj := (Obj.mk (.type "type") (Option.none) (Data.cls (ClassData.mk "BeatlessError" [(.type "ValueError")] [(.ref 31), (.type "ValueError"), (.type "Exception"), (.type "BaseException"), (.type "object")] 30 "BeatlessError" Bool.true [] [] Bool.false (Option.none) Bool.false)) #[(Option.some (.ref 22)), (Option.none), (Option.some (.str "BeatlessError" 196)), (Option.some (.str "BeatlessError" 204)), (Option.some (.builtin "ValueError.__new__")), (Option.some (.bool Bool.true))])
def o23 (P : Params) : Obj := (Obj.mk (.type "getset_descriptor") (Option.none) (Data.fields #[(.str "__weakref__" 209), (.ref 31), (.builtin "ExceptionGroup.__weakref__"), .none]) #[])
def o24 (P : Params) : Obj := (Obj.mk (.type "super") (Option.none) (Data.fields #[(.ref 31), (.ref 31), (.ref 31)]) #[])
def o25 (P : Params) : Obj := (Obj.mk (.type "builtin_function_or_method") (Option.none) (Data.fields #[(.builtin "object.__init_subclass__"), (.ref 31)]) #[])
def t15 (P : Params) : BT := .node (o22 P) .nil .nil
def t16 (P : Params) : BT := .node (o6 P) (t15 P) .nil
def t17 (P : Params) : BT := .node (o14 P) .nil .nil
def t18 (P : Params) : BT := .node (boot_o_7 P) (t16 P) (t17 P)
def t19 (P : Params) : BT := .node (o10 P) .nil .nil
def t20 (P : Params) : BT := .node (o18 P) .nil .nil
def t21 (P : Params) : BT := .node (o0 P) (t19 P) (t20 P)
def t22 (P : Params) : BT := .node (o4 P) (t18 P) (t21 P)
def t23 (P : Params) : BT := .node (o24 P) .nil .nil
def t24 (P : Params) : BT := .node (o8 P) (t23 P) .nil
def t25 (P : Params) : BT := .node (o16 P) .nil .nil
def t26 (P : Params) : BT := .node (boot_o_9 P) (t24 P) (t25 P)
def t27 (P : Params) : BT := .node (o12 P) .nil .nil
def t28 (P : Params) : BT := .node (o20 P) .nil .nil
def t29 (P : Params) : BT := .node (o2 P) (t27 P) (t28 P)
def t30 (P : Params) : BT := .node (boot_o_5 P) (t26 P) (t29 P)
def t31 (P : Params) : BT := .node (boot_o_1 P) (t22 P) (t30 P)
def t32 (P : Params) : BT := .node (o23 P) .nil .nil
def t33 (P : Params) : BT := .node (o7 P) (t32 P) .nil
def t34 (P : Params) : BT := .node (o15 P) .nil .nil
def t35 (P : Params) : BT := .node (boot_o_8 P) (t33 P) (t34 P)
def t36 (P : Params) : BT := .node (o11 P) .nil .nil
def t37 (P : Params) : BT := .node (o19 P) .nil .nil
def t38 (P : Params) : BT := .node (o5 P) (t36 P) (t37 P)
def t39 (P : Params) : BT := .node (boot_o_4 P) (t35 P) (t38 P)
def t40 (P : Params) : BT := .node (o25 P) .nil .nil
def t41 (P : Params) : BT := .node (o9 P) (t40 P) .nil
def t42 (P : Params) : BT := .node (o17 P) .nil .nil
def t43 (P : Params) : BT := .node (boot_o_10 P) (t41 P) (t42 P)
def t44 (P : Params) : BT := .node (o13 P) .nil .nil
def t45 (P : Params) : BT := .node (o21 P) .nil .nil
def t46 (P : Params) : BT := .node (o3 P) (t44 P) (t45 P)
def t47 (P : Params) : BT := .node (boot_o_6 P) (t43 P) (t46 P)
def t48 (P : Params) : BT := .node (boot_o_2 P) (t39 P) (t47 P)
def t49 (P : Params) : BT := .node (boot_o_0 P) (t31 P) (t48 P)
def sb1 (w : World) (os : OsState) : SharedT := ⟨(t49 w.params), 35, (Life.mk [] [] [] 0 [] [] Bool.false #[] [] 0 Bool.false Bool.false Bool.false (0 : Int) [(2000 : Int), (10 : Int), (10 : Int)] Bool.false 0 Bool.true [] [] 0 Bool.false), ⟨[]⟩, (Drawn.mk 0 0 0 0), 214, os⟩
def L0 (w : World) (os : OsState) : Option (Flow × SharedT × Code × Pos) := segRunT treeTable PySem.Challenge.pw_beatless_k08_whole_programs_let_by w 11 an 1 225 (sb0 w os) (piecesOf sts0 env cE (Pos.mk 0 0 0 0) B)
def R0 (w : World) (os : OsState) : Option (Flow × SharedT × Code × Pos) := some (.next, sb1 w os, cE, (Pos.mk 5 0 6 8))
theorem q0 : tt (Hd.L0, Hd.R0) = true := by k_qdec
theorem r0 : ∀ w, PySem.W.Fast.tw4453942571644881324 w = PySem.W.Fast.tw13470614248104656481 w := fun w => by kernel_rfl
theorem e0 (w : World) (os : OsState) : Hd.L0 w os = Hd.R0 w os :=
  (congrFun (congrFun PySem.W.Fast.te4453942571644881324 w) os).trans ((congrFun (r0 w) os).trans (congrFun (congrFun PySem.W.Fast.te13470614248104656481 w) os).symm)
def sts1 : List Stmt := [S 3, S 4]
def o26 (P : Params) : Obj := (Obj.mk (.type "dict") (Option.none) (Data.dict #[en P "__name__" 165 (.str "beatless.exprs" 230), en P "__doc__" 166 .none, en P "__package__" 167 .none, en P "__loader__" 168 (.builtin "__main__.__loader__#opaque"), en P "__spec__" 169 .none, en P "__annotations__" 170 (.ref 6), en P "__builtins__" 171 (.ref 4), en P "__file__" 173 (.str "/claim/cut.py" 172), en P "__cached__" 174 .none, en P "_wall" 193 (.ref 21), en P "BeatlessError" 213 (.ref 31), en P "NoProgram" 229 (.ref 44)] 12) #[])
def o27 (P : Params) : Obj := (Obj.mk .none (Option.none) (Data.fields #[(.int (1 : Int) 0), (.int (0 : Int) 0), (.ref 20), (.int (5 : Int) 0), (.int (0 : Int) 0), (.ref 27), (.int (7 : Int) 0), (.int (0 : Int) 0), (.ref 40)]) #[])
def o28 (P : Params) : Obj := (Obj.mk (.type "type") (Option.none) (Data.cls (ClassData.mk "BeatlessError" [(.type "ValueError")] [(.ref 31), (.type "ValueError"), (.type "Exception"), (.type "BaseException"), (.type "object")] 30 "BeatlessError" Bool.true [] [(.ref 44)] Bool.false (Option.none) Bool.false)) #[(Option.some (.ref 22)), (Option.none), (Option.some (.str "BeatlessError" 196)), (Option.some (.str "BeatlessError" 204)), (Option.some (.builtin "ValueError.__new__")), (Option.some (.bool Bool.true))])
def o29 (P : Params) : Obj := (Obj.mk (.type "tuple") (Option.none) (Data.seq #[(.ref 31)] 0) #[])
def o30 (P : Params) : Obj := (Obj.mk (.type "builtin_function_or_method") (Option.none) (Data.fields #[(.builtin "type.__prepare__"), (.type "type")]) #[])
def o31 (P : Params) : Obj := (Obj.mk (.type "dict") (Option.none) (Data.dict #[en P "__module__" 221 (.str "beatless.errors" 194), en P "__qualname__" 223 (.str "NoProgram" 222), en P "__firstlineno__" 225 (.int (7 : Int) 224), en P "__static_attributes__" 226 (.ref 42)] 4) #[])
def o32 (P : Params) : Obj := (Obj.mk (.type "tuple") (Option.none) (Data.seq #[] 0) #[])
def o33 (P : Params) : Obj := (Obj.mk .none (Option.none) (Data.fields #[]) #[])
def o34 (P : Params) : Obj := (Obj.mk (.type "code") (Option.none) (Data.fields #[(.str "NoProgram" 216), (.str "NoProgram" 217), (.str "/claim/cut.py" 218), (.int (7 : Int) 0), (.int (0 : Int) 0), (.int (0 : Int) 0), (.int (0 : Int) 0), (.int (0 : Int) 0), (.ref 38), (.bool Bool.false), (.int (181 : Int) 0), (.ref 39), .none, .none, .none, .none, (.int (219 : Int) 0), (.int (7 : Int) 0), (.str "/claim/cut.py" 220)]) #[])
def o35 (P : Params) : Obj := (Obj.mk (.type "frame") (Option.none) Data.plain #[(Option.some (.ref 40)), (Option.some (.ref 3)), (Option.some (.ref 37)), (Option.none), (Option.some (.str "beatless.errors" 194)), (Option.none), (Option.some (.ref 0))])
def o36 (P : Params) : Obj := (Obj.mk (.type "tuple") (Option.none) (Data.seq #[] 0) #[])
def o37 (P : Params) : Obj := (Obj.mk (.type "dict") (Option.none) (Data.dict #[en P "__module__" 221 (.str "beatless.errors" 194), en P "__firstlineno__" 225 (.int (7 : Int) 224), en P "__static_attributes__" 226 (.ref 42), en P "__doc__" 227 .none] 2) #[])
def o38 (P : Params) : Obj := (Obj.mk (.type "type") (Option.none) (Data.cls (ClassData.mk "NoProgram" [(.ref 31)] [(.ref 44), (.ref 31), (.type "ValueError"), (.type "Exception"), (.type "BaseException"), (.type "object")] 43 "NoProgram" Bool.true [] [] Bool.false (Option.none) Bool.false)) #[(Option.some (.ref 35)), (Option.none), (Option.some (.str "NoProgram" 214)), (Option.some (.str "NoProgram" 222)), (Option.some (.builtin "ValueError.__new__")), (Option.some (.bool Bool.true))])
def o39 (P : Params) : Obj := (Obj.mk (.type "super") (Option.none) (Data.fields #[(.ref 44), (.ref 44), (.ref 44)]) #[])
def o40 (P : Params) : Obj := (Obj.mk (.type "builtin_function_or_method") (Option.none) (Data.fields #[(.builtin "object.__init_subclass__"), (.ref 44)]) #[])
def t50 (P : Params) : BT := .node (o28 P) .nil .nil
def t51 (P : Params) : BT := .node (o6 P) (t50 P) .nil
def t52 (P : Params) : BT := .node (o33 P) .nil .nil
def t53 (P : Params) : BT := .node (o14 P) (t52 P) .nil
def t54 (P : Params) : BT := .node (boot_o_7 P) (t51 P) (t53 P)
def t55 (P : Params) : BT := .node (o29 P) .nil .nil
def t56 (P : Params) : BT := .node (o10 P) (t55 P) .nil
def t57 (P : Params) : BT := .node (o37 P) .nil .nil
def t58 (P : Params) : BT := .node (o18 P) (t57 P) .nil
def t59 (P : Params) : BT := .node (o0 P) (t56 P) (t58 P)
def t60 (P : Params) : BT := .node (o26 P) (t54 P) (t59 P)
def t61 (P : Params) : BT := .node (o35 P) .nil .nil
def t62 (P : Params) : BT := .node (o16 P) (t61 P) .nil
def t63 (P : Params) : BT := .node (boot_o_9 P) (t24 P) (t62 P)
def t64 (P : Params) : BT := .node (o31 P) .nil .nil
def t65 (P : Params) : BT := .node (o12 P) (t64 P) .nil
def t66 (P : Params) : BT := .node (o39 P) .nil .nil
def t67 (P : Params) : BT := .node (o20 P) (t66 P) .nil
def t68 (P : Params) : BT := .node (o2 P) (t65 P) (t67 P)
def t69 (P : Params) : BT := .node (boot_o_5 P) (t63 P) (t68 P)
def t70 (P : Params) : BT := .node (boot_o_1 P) (t60 P) (t69 P)
def t71 (P : Params) : BT := .node (o34 P) .nil .nil
def t72 (P : Params) : BT := .node (o15 P) (t71 P) .nil
def t73 (P : Params) : BT := .node (boot_o_8 P) (t33 P) (t72 P)
def t74 (P : Params) : BT := .node (o30 P) .nil .nil
def t75 (P : Params) : BT := .node (o11 P) (t74 P) .nil
def t76 (P : Params) : BT := .node (o38 P) .nil .nil
def t77 (P : Params) : BT := .node (o19 P) (t76 P) .nil
def t78 (P : Params) : BT := .node (o27 P) (t75 P) (t77 P)
def t79 (P : Params) : BT := .node (boot_o_4 P) (t73 P) (t78 P)
def t80 (P : Params) : BT := .node (o36 P) .nil .nil
def t81 (P : Params) : BT := .node (o17 P) (t80 P) .nil
def t82 (P : Params) : BT := .node (boot_o_10 P) (t41 P) (t81 P)
def t83 (P : Params) : BT := .node (o32 P) .nil .nil
def t84 (P : Params) : BT := .node (o13 P) (t83 P) .nil
def t85 (P : Params) : BT := .node (o40 P) .nil .nil
def t86 (P : Params) : BT := .node (o21 P) (t85 P) .nil
def t87 (P : Params) : BT := .node (o3 P) (t84 P) (t86 P)
def t88 (P : Params) : BT := .node (boot_o_6 P) (t82 P) (t87 P)
def t89 (P : Params) : BT := .node (boot_o_2 P) (t79 P) (t88 P)
def t90 (P : Params) : BT := .node (boot_o_0 P) (t70 P) (t89 P)
def sb2 (w : World) (os : OsState) : SharedT := ⟨(t90 w.params), 47, (Life.mk [] [] [] 0 [] [] Bool.false #[] [] 0 Bool.false Bool.false Bool.false (0 : Int) [(2000 : Int), (10 : Int), (10 : Int)] Bool.false 0 Bool.true [] [] 0 Bool.false), ⟨[]⟩, (Drawn.mk 0 0 0 0), 232, os⟩
def L1 (w : World) (os : OsState) : Option (Flow × SharedT × Code × Pos) := segRunT treeTable PySem.Challenge.pw_beatless_k08_whole_programs_let_by w 11 an 1 223 (sb1 w os) (piecesOf sts1 env cE (Pos.mk 5 0 6 8) B)
def R1 (w : World) (os : OsState) : Option (Flow × SharedT × Code × Pos) := some (.next, sb2 w os, cE, (Pos.mk 9 0 9 8))
theorem q1 : tt (Hd.L1, Hd.R1) = true := by k_qdec
theorem r1 : ∀ w, PySem.W.Fast.tw6387051279210280424 w = PySem.W.Fast.tw17943070361625844382 w := fun w => by kernel_rfl
theorem e1 (w : World) (os : OsState) : Hd.L1 w os = Hd.R1 w os :=
  (congrFun (congrFun PySem.W.Fast.te6387051279210280424 w) os).trans ((congrFun (r1 w) os).trans (congrFun (congrFun PySem.W.Fast.te17943070361625844382 w) os).symm)
def sts2 : List Stmt := [S 5]
def o41 (P : Params) : Obj := (Obj.mk (.type "dict") (Option.none) (Data.dict #[en P "__name__" 165 (.str "beatless.exprs" 230), en P "__doc__" 166 .none, en P "__package__" 167 .none, en P "__loader__" 168 (.builtin "__main__.__loader__#opaque"), en P "__spec__" 169 .none, en P "__annotations__" 170 (.ref 6), en P "__builtins__" 171 (.ref 4), en P "__file__" 173 (.str "/claim/cut.py" 172), en P "__cached__" 174 .none, en P "_wall" 193 (.ref 21), en P "BeatlessError" 213 (.ref 31), en P "NoProgram" 229 (.ref 44), en P "Expr" 251 (.ref 56)] 13) #[])
def o42 (P : Params) : Obj := (Obj.mk .none (Option.none) (Data.fields #[(.int (1 : Int) 0), (.int (0 : Int) 0), (.ref 20), (.int (5 : Int) 0), (.int (0 : Int) 0), (.ref 27), (.int (7 : Int) 0), (.int (0 : Int) 0), (.ref 40), (.int (10 : Int) 0), (.int (0 : Int) 0), (.ref 52)]) #[])
def o43 (P : Params) : Obj := (Obj.mk (.type "tuple") (Option.none) (Data.seq #[] 0) #[])
def o44 (P : Params) : Obj := (Obj.mk (.type "builtin_function_or_method") (Option.none) (Data.fields #[(.builtin "type.__prepare__"), (.type "type")]) #[])
def o45 (P : Params) : Obj := (Obj.mk (.type "dict") (Option.none) (Data.dict #[en P "__module__" 239 (.str "beatless.exprs" 230), en P "__qualname__" 241 (.str "Expr" 240), en P "__firstlineno__" 243 (.int (10 : Int) 242), en P "__static_attributes__" 244 (.ref 54)] 4) #[])
def o46 (P : Params) : Obj := (Obj.mk (.type "tuple") (Option.none) (Data.seq #[] 0) #[])
def o47 (P : Params) : Obj := (Obj.mk .none (Option.none) (Data.fields #[]) #[])
def o48 (P : Params) : Obj := (Obj.mk (.type "code") (Option.none) (Data.fields #[(.str "Expr" 234), (.str "Expr" 235), (.str "/claim/cut.py" 236), (.int (10 : Int) 0), (.int (0 : Int) 0), (.int (0 : Int) 0), (.int (0 : Int) 0), (.int (0 : Int) 0), (.ref 50), (.bool Bool.false), (.int (181 : Int) 0), (.ref 51), .none, .none, .none, .none, (.int (237 : Int) 0), (.int (10 : Int) 0), (.str "/claim/cut.py" 238)]) #[])
def o49 (P : Params) : Obj := (Obj.mk (.type "frame") (Option.none) Data.plain #[(Option.some (.ref 52)), (Option.some (.ref 3)), (Option.some (.ref 49)), (Option.none), (Option.some (.str "beatless.exprs" 230)), (Option.none), (Option.some (.ref 0))])
def o50 (P : Params) : Obj := (Obj.mk (.type "tuple") (Option.none) (Data.seq #[] 0) #[])
def o51 (P : Params) : Obj := (Obj.mk (.type "dict") (Option.none) (Data.dict #[en P "__module__" 239 (.str "beatless.exprs" 230), en P "__firstlineno__" 243 (.int (10 : Int) 242), en P "__static_attributes__" 244 (.ref 54), en P "__dict__" 246 (.ref 57), en P "__weakref__" 248 (.ref 58), en P "__doc__" 249 .none] 4) #[])
def o52 (P : Params) : Obj := (Obj.mk (.type "type") (Option.none) (Data.cls (ClassData.mk "Expr" [(.type "object")] [(.ref 56), (.type "object")] 55 "Expr" Bool.true [] [] Bool.false (Option.none) Bool.false)) #[(Option.none), (Option.none), (Option.some (.str "Expr" 232)), (Option.some (.str "Expr" 240)), (Option.some (.builtin "object.__new__")), (Option.some (.bool Bool.true))])
def o53 (P : Params) : Obj := (Obj.mk (.type "getset_descriptor") (Option.none) (Data.fields #[(.str "__dict__" 245), (.ref 56), (.builtin "function.__dict__"), (.builtin "function.__dict__#set")]) #[])
def o54 (P : Params) : Obj := (Obj.mk (.type "getset_descriptor") (Option.none) (Data.fields #[(.str "__weakref__" 247), (.ref 56), (.builtin "ExceptionGroup.__weakref__"), .none]) #[])
def o55 (P : Params) : Obj := (Obj.mk (.type "super") (Option.none) (Data.fields #[(.ref 56), (.ref 56), (.ref 56)]) #[])
def o56 (P : Params) : Obj := (Obj.mk (.type "builtin_function_or_method") (Option.none) (Data.fields #[(.builtin "object.__init_subclass__"), (.ref 56)]) #[])
def t91 (P : Params) : BT := .node (o43 P) .nil .nil
def t92 (P : Params) : BT := .node (o6 P) (t50 P) (t91 P)
def t93 (P : Params) : BT := .node (o51 P) .nil .nil
def t94 (P : Params) : BT := .node (o14 P) (t52 P) (t93 P)
def t95 (P : Params) : BT := .node (boot_o_7 P) (t92 P) (t94 P)
def t96 (P : Params) : BT := .node (o47 P) .nil .nil
def t97 (P : Params) : BT := .node (o10 P) (t55 P) (t96 P)
def t98 (P : Params) : BT := .node (o55 P) .nil .nil
def t99 (P : Params) : BT := .node (o18 P) (t57 P) (t98 P)
def t100 (P : Params) : BT := .node (o0 P) (t97 P) (t99 P)
def t101 (P : Params) : BT := .node (o41 P) (t95 P) (t100 P)
def t102 (P : Params) : BT := .node (o45 P) .nil .nil
def t103 (P : Params) : BT := .node (o8 P) (t23 P) (t102 P)
def t104 (P : Params) : BT := .node (o53 P) .nil .nil
def t105 (P : Params) : BT := .node (o16 P) (t61 P) (t104 P)
def t106 (P : Params) : BT := .node (boot_o_9 P) (t103 P) (t105 P)
def t107 (P : Params) : BT := .node (o49 P) .nil .nil
def t108 (P : Params) : BT := .node (o12 P) (t64 P) (t107 P)
def t109 (P : Params) : BT := .node (o2 P) (t108 P) (t67 P)
def t110 (P : Params) : BT := .node (boot_o_5 P) (t106 P) (t109 P)
def t111 (P : Params) : BT := .node (boot_o_1 P) (t101 P) (t110 P)
def t112 (P : Params) : BT := .node (o44 P) .nil .nil
def t113 (P : Params) : BT := .node (o7 P) (t32 P) (t112 P)
def t114 (P : Params) : BT := .node (o52 P) .nil .nil
def t115 (P : Params) : BT := .node (o15 P) (t71 P) (t114 P)
def t116 (P : Params) : BT := .node (boot_o_8 P) (t113 P) (t115 P)
def t117 (P : Params) : BT := .node (o48 P) .nil .nil
def t118 (P : Params) : BT := .node (o11 P) (t74 P) (t117 P)
def t119 (P : Params) : BT := .node (o56 P) .nil .nil
def t120 (P : Params) : BT := .node (o19 P) (t76 P) (t119 P)
def t121 (P : Params) : BT := .node (o42 P) (t118 P) (t120 P)
def t122 (P : Params) : BT := .node (boot_o_4 P) (t116 P) (t121 P)
def t123 (P : Params) : BT := .node (o46 P) .nil .nil
def t124 (P : Params) : BT := .node (o9 P) (t40 P) (t123 P)
def t125 (P : Params) : BT := .node (o54 P) .nil .nil
def t126 (P : Params) : BT := .node (o17 P) (t80 P) (t125 P)
def t127 (P : Params) : BT := .node (boot_o_10 P) (t124 P) (t126 P)
def t128 (P : Params) : BT := .node (o50 P) .nil .nil
def t129 (P : Params) : BT := .node (o13 P) (t83 P) (t128 P)
def t130 (P : Params) : BT := .node (o3 P) (t129 P) (t86 P)
def t131 (P : Params) : BT := .node (boot_o_6 P) (t127 P) (t130 P)
def t132 (P : Params) : BT := .node (boot_o_2 P) (t122 P) (t131 P)
def t133 (P : Params) : BT := .node (boot_o_0 P) (t111 P) (t132 P)
def sb3 (w : World) (os : OsState) : SharedT := ⟨(t133 w.params), 61, (Life.mk [] [] [] 0 [] [] Bool.false #[] [] 0 Bool.false Bool.false Bool.false (0 : Int) [(2000 : Int), (10 : Int), (10 : Int)] Bool.false 0 Bool.true [] [] 0 Bool.false), ⟨[]⟩, (Drawn.mk 0 0 0 0), 252, os⟩
def L2 (w : World) (os : OsState) : Option (Flow × SharedT × Code × Pos) := segRunT treeTable PySem.Challenge.pw_beatless_k08_whole_programs_let_by w 11 an 1 191 (sb2 w os) (piecesOf sts2 env cE (Pos.mk 9 0 9 8) B)
def R2 (w : World) (os : OsState) : Option (Flow × SharedT × Code × Pos) := some (.next, sb3 w os, cE, (Pos.mk 10 0 11 8))
theorem q2 : tt (Hd.L2, Hd.R2) = true := by k_qdec
theorem r2 : ∀ w, PySem.W.Fast.tw9171306275460833034 w = PySem.W.Fast.tw12913952840628719863 w := fun w => by kernel_rfl
theorem e2 (w : World) (os : OsState) : Hd.L2 w os = Hd.R2 w os :=
  (congrFun (congrFun PySem.W.Fast.te9171306275460833034 w) os).trans ((congrFun (r2 w) os).trans (congrFun (congrFun PySem.W.Fast.te12913952840628719863 w) os).symm)
def sts3 : List Stmt := [S 6]
def o57 (P : Params) : Obj := (Obj.mk (.type "dict") (Option.none) (Data.dict #[en P "__name__" 165 (.str "beatless.exprs" 230), en P "__doc__" 166 .none, en P "__package__" 167 .none, en P "__loader__" 168 (.builtin "__main__.__loader__#opaque"), en P "__spec__" 169 .none, en P "__annotations__" 170 (.ref 6), en P "__builtins__" 171 (.ref 4), en P "__file__" 173 (.str "/claim/cut.py" 172), en P "__cached__" 174 .none, en P "_wall" 193 (.ref 21), en P "BeatlessError" 213 (.ref 31), en P "NoProgram" 229 (.ref 44), en P "Expr" 251 (.ref 56), en P "Num" 298 (.ref 98)] 14) #[])
def o58 (P : Params) : Obj := (Obj.mk .none (Option.none) (Data.fields #[(.int (1 : Int) 0), (.int (0 : Int) 0), (.ref 20), (.int (5 : Int) 0), (.int (0 : Int) 0), (.ref 27), (.int (7 : Int) 0), (.int (0 : Int) 0), (.ref 40), (.int (10 : Int) 0), (.int (0 : Int) 0), (.ref 52), (.int (12 : Int) 0), (.int (0 : Int) 0), (.ref 66)]) #[])
def o59 (P : Params) : Obj := (Obj.mk (.type "type") (Option.none) (Data.cls (ClassData.mk "Expr" [(.type "object")] [(.ref 56), (.type "object")] 55 "Expr" Bool.true [] [(.ref 98)] Bool.false (Option.none) Bool.false)) #[(Option.none), (Option.none), (Option.some (.str "Expr" 232)), (Option.some (.str "Expr" 240)), (Option.some (.builtin "object.__new__")), (Option.some (.bool Bool.true))])
def o60 (P : Params) : Obj := (Obj.mk (.type "tuple") (Option.none) (Data.seq #[(.ref 56)] 0) #[])
def o61 (P : Params) : Obj := (Obj.mk (.type "builtin_function_or_method") (Option.none) (Data.fields #[(.builtin "type.__prepare__"), (.type "type")]) #[])
def o62 (P : Params) : Obj := (Obj.mk (.type "dict") (Option.none) (Data.dict #[en P "__module__" 259 (.str "beatless.exprs" 230), en P "__qualname__" 261 (.str "Num" 260), en P "__firstlineno__" 263 (.int (12 : Int) 262), en P "__init__" 271 (.ref 74), en P "reckon" 279 (.ref 81), en P "told" 286 (.ref 88), en P "words" 293 (.ref 95), en P "__static_attributes__" 295 (.ref 96)] 8) #[])
def o63 (P : Params) : Obj := (Obj.mk (.type "tuple") (Option.none) (Data.seq #[] 0) #[])
def o64 (P : Params) : Obj := (Obj.mk .none (Option.none) (Data.fields #[(.int (14 : Int) 0), (.int (4 : Int) 0), (.ref 73), (.int (17 : Int) 0), (.int (4 : Int) 0), (.ref 80), (.int (20 : Int) 0), (.int (4 : Int) 0), (.ref 87), (.int (23 : Int) 0), (.int (4 : Int) 0), (.ref 94)]) #[])
def o65 (P : Params) : Obj := (Obj.mk (.type "code") (Option.none) (Data.fields #[(.str "Num" 254), (.str "Num" 255), (.str "/claim/cut.py" 256), (.int (12 : Int) 0), (.int (0 : Int) 0), (.int (0 : Int) 0), (.int (0 : Int) 0), (.int (0 : Int) 0), (.ref 64), (.bool Bool.false), (.int (181 : Int) 0), (.ref 65), .none, .none, .none, .none, (.int (257 : Int) 0), (.int (12 : Int) 0), (.str "/claim/cut.py" 258)]) #[])
def o66 (P : Params) : Obj := (Obj.mk (.type "frame") (Option.none) Data.plain #[(Option.some (.ref 66)), (Option.some (.ref 3)), (Option.some (.ref 63)), (Option.none), (Option.some (.str "beatless.exprs" 230)), (Option.none), (Option.some (.ref 0))])
def o67 (P : Params) : Obj := (Obj.mk (.type "tuple") (Option.none) (Data.seq #[] 0) #[])
def o68 (P : Params) : Obj := (Obj.mk .none (Option.none) (Data.fields #[]) #[])
def o69 (P : Params) : Obj := (Obj.mk (.type "tuple") (Option.none) (Data.seq #[(.str "self" 267), (.str "value" 268)] 0) #[])
def o70 (P : Params) : Obj := (Obj.mk (.type "tuple") (Option.none) (Data.seq #[] 0) #[])
def o71 (P : Params) : Obj := (Obj.mk .none (Option.none) (Data.func (fd "__init__" "Num.__init__" (L2.inClass (S 6) 0) 0 [] .none .none .none .none (Option.none) .none .none 0)) #[])
def o72 (P : Params) : Obj := (Obj.mk (.type "code") (Option.none) (Data.fields #[(.str "__init__" 264), (.str "Num.__init__" 265), (.str "/claim/cut.py" 266), (.int (14 : Int) 0), (.int (2 : Int) 0), (.int (0 : Int) 0), (.int (0 : Int) 0), (.int (3 : Int) 0), (.ref 68), (.bool Bool.true), (.int (181 : Int) 0), (.ref 69), .none, (.ref 70), (.ref 71), (.ref 72), (.int (269 : Int) 0), (.int (14 : Int) 0), (.str "/claim/cut.py" 270)]) #[])
def o73 (P : Params) : Obj := (Obj.mk (.type "function") (Option.none) (Data.func (fd "__init__" "Num.__init__" (L2.inClass (S 6) 0) 3 [] .none .none .none (.str "beatless.exprs" 230) (Option.none) (.ref 73) .none 0)) #[])
def o74 (P : Params) : Obj := (Obj.mk (.type "tuple") (Option.none) (Data.seq #[] 0) #[])
def o75 (P : Params) : Obj := (Obj.mk .none (Option.none) (Data.fields #[]) #[])
def o76 (P : Params) : Obj := (Obj.mk (.type "tuple") (Option.none) (Data.seq #[(.str "self" 275), (.str "worths" 276)] 0) #[])
def o77 (P : Params) : Obj := (Obj.mk (.type "tuple") (Option.none) (Data.seq #[] 0) #[])
def o78 (P : Params) : Obj := (Obj.mk .none (Option.none) (Data.func (fd "reckon" "Num.reckon" (L2.inClass (S 6) 1) 0 [] .none .none .none .none (Option.none) .none .none 0)) #[])
def o79 (P : Params) : Obj := (Obj.mk (.type "code") (Option.none) (Data.fields #[(.str "reckon" 272), (.str "Num.reckon" 273), (.str "/claim/cut.py" 274), (.int (17 : Int) 0), (.int (2 : Int) 0), (.int (0 : Int) 0), (.int (0 : Int) 0), (.int (3 : Int) 0), (.ref 75), (.bool Bool.true), (.int (181 : Int) 0), (.ref 76), .none, (.ref 77), (.ref 78), (.ref 79), (.int (277 : Int) 0), (.int (17 : Int) 0), (.str "/claim/cut.py" 278)]) #[])
def o80 (P : Params) : Obj := (Obj.mk (.type "function") (Option.none) (Data.func (fd "reckon" "Num.reckon" (L2.inClass (S 6) 1) 3 [] .none .none .none (.str "beatless.exprs" 230) (Option.none) (.ref 80) .none 0)) #[])
def o81 (P : Params) : Obj := (Obj.mk (.type "tuple") (Option.none) (Data.seq #[] 0) #[])
def o82 (P : Params) : Obj := (Obj.mk .none (Option.none) (Data.fields #[]) #[])
def o83 (P : Params) : Obj := (Obj.mk (.type "tuple") (Option.none) (Data.seq #[(.str "self" 283)] 0) #[])
def o84 (P : Params) : Obj := (Obj.mk (.type "tuple") (Option.none) (Data.seq #[] 0) #[])
def o85 (P : Params) : Obj := (Obj.mk .none (Option.none) (Data.func (fd "told" "Num.told" (L2.inClass (S 6) 2) 0 [] .none .none .none .none (Option.none) .none .none 0)) #[])
def o86 (P : Params) : Obj := (Obj.mk (.type "code") (Option.none) (Data.fields #[(.str "told" 280), (.str "Num.told" 281), (.str "/claim/cut.py" 282), (.int (20 : Int) 0), (.int (1 : Int) 0), (.int (0 : Int) 0), (.int (0 : Int) 0), (.int (3 : Int) 0), (.ref 82), (.bool Bool.true), (.int (181 : Int) 0), (.ref 83), .none, (.ref 84), (.ref 85), (.ref 86), (.int (284 : Int) 0), (.int (20 : Int) 0), (.str "/claim/cut.py" 285)]) #[])
def o87 (P : Params) : Obj := (Obj.mk (.type "function") (Option.none) (Data.func (fd "told" "Num.told" (L2.inClass (S 6) 2) 3 [] .none .none .none (.str "beatless.exprs" 230) (Option.none) (.ref 87) .none 0)) #[])
def o88 (P : Params) : Obj := (Obj.mk (.type "tuple") (Option.none) (Data.seq #[] 0) #[])
def o89 (P : Params) : Obj := (Obj.mk .none (Option.none) (Data.fields #[]) #[])
def o90 (P : Params) : Obj := (Obj.mk (.type "tuple") (Option.none) (Data.seq #[(.str "self" 290)] 0) #[])
def o91 (P : Params) : Obj := (Obj.mk (.type "tuple") (Option.none) (Data.seq #[] 0) #[])
def o92 (P : Params) : Obj := (Obj.mk .none (Option.none) (Data.func (fd "words" "Num.words" (L2.inClass (S 6) 3) 0 [] .none .none .none .none (Option.none) .none .none 0)) #[])
def o93 (P : Params) : Obj := (Obj.mk (.type "code") (Option.none) (Data.fields #[(.str "words" 287), (.str "Num.words" 288), (.str "/claim/cut.py" 289), (.int (23 : Int) 0), (.int (1 : Int) 0), (.int (0 : Int) 0), (.int (0 : Int) 0), (.int (3 : Int) 0), (.ref 89), (.bool Bool.true), (.int (181 : Int) 0), (.ref 90), .none, (.ref 91), (.ref 92), (.ref 93), (.int (291 : Int) 0), (.int (23 : Int) 0), (.str "/claim/cut.py" 292)]) #[])
def o94 (P : Params) : Obj := (Obj.mk (.type "function") (Option.none) (Data.func (fd "words" "Num.words" (L2.inClass (S 6) 3) 3 [] .none .none .none (.str "beatless.exprs" 230) (Option.none) (.ref 94) .none 0)) #[])
def o95 (P : Params) : Obj := (Obj.mk (.type "tuple") (Option.none) (Data.seq #[(.str "value" 294)] 0) #[])
def o96 (P : Params) : Obj := (Obj.mk (.type "dict") (Option.none) (Data.dict #[en P "__module__" 259 (.str "beatless.exprs" 230), en P "__firstlineno__" 263 (.int (12 : Int) 262), en P "__init__" 271 (.ref 74), en P "reckon" 279 (.ref 81), en P "told" 286 (.ref 88), en P "words" 293 (.ref 95), en P "__static_attributes__" 295 (.ref 96), en P "__doc__" 296 .none] 2) #[])
def o97 (P : Params) : Obj := (Obj.mk (.type "type") (Option.none) (Data.cls (ClassData.mk "Num" [(.ref 56)] [(.ref 98), (.ref 56), (.type "object")] 97 "Num" Bool.true [] [] Bool.false (Option.none) Bool.false)) #[(Option.some (.ref 61)), (Option.none), (Option.some (.str "Num" 252)), (Option.some (.str "Num" 260)), (Option.some (.builtin "object.__new__")), (Option.some (.bool Bool.true))])
def o98 (P : Params) : Obj := (Obj.mk (.type "super") (Option.none) (Data.fields #[(.ref 98), (.ref 98), (.ref 98)]) #[])
def o99 (P : Params) : Obj := (Obj.mk (.type "builtin_function_or_method") (Option.none) (Data.fields #[(.builtin "object.__init_subclass__"), (.ref 98)]) #[])
def t134 (P : Params) : BT := .node (o62 P) .nil .nil
def t135 (P : Params) : BT := .node (o94 P) .nil .nil
def t136 (P : Params) : BT := .node (o28 P) (t134 P) (t135 P)
def t137 (P : Params) : BT := .node (o78 P) .nil .nil
def t138 (P : Params) : BT := .node (o43 P) (t137 P) .nil
def t139 (P : Params) : BT := .node (o6 P) (t136 P) (t138 P)
def t140 (P : Params) : BT := .node (o70 P) .nil .nil
def t141 (P : Params) : BT := .node (o33 P) (t140 P) .nil
def t142 (P : Params) : BT := .node (o86 P) .nil .nil
def t143 (P : Params) : BT := .node (o51 P) (t142 P) .nil
def t144 (P : Params) : BT := .node (o14 P) (t141 P) (t143 P)
def t145 (P : Params) : BT := .node (boot_o_7 P) (t139 P) (t144 P)
def t146 (P : Params) : BT := .node (o66 P) .nil .nil
def t147 (P : Params) : BT := .node (o98 P) .nil .nil
def t148 (P : Params) : BT := .node (o29 P) (t146 P) (t147 P)
def t149 (P : Params) : BT := .node (o82 P) .nil .nil
def t150 (P : Params) : BT := .node (o47 P) (t149 P) .nil
def t151 (P : Params) : BT := .node (o10 P) (t148 P) (t150 P)
def t152 (P : Params) : BT := .node (o74 P) .nil .nil
def t153 (P : Params) : BT := .node (o37 P) (t152 P) .nil
def t154 (P : Params) : BT := .node (o90 P) .nil .nil
def t155 (P : Params) : BT := .node (o55 P) (t154 P) .nil
def t156 (P : Params) : BT := .node (o18 P) (t153 P) (t155 P)
def t157 (P : Params) : BT := .node (o0 P) (t151 P) (t156 P)
def t158 (P : Params) : BT := .node (o57 P) (t145 P) (t157 P)
def t159 (P : Params) : BT := .node (o64 P) .nil .nil
def t160 (P : Params) : BT := .node (o96 P) .nil .nil
def t161 (P : Params) : BT := .node (o24 P) (t159 P) (t160 P)
def t162 (P : Params) : BT := .node (o80 P) .nil .nil
def t163 (P : Params) : BT := .node (o45 P) (t162 P) .nil
def t164 (P : Params) : BT := .node (o8 P) (t161 P) (t163 P)
def t165 (P : Params) : BT := .node (o72 P) .nil .nil
def t166 (P : Params) : BT := .node (o35 P) (t165 P) .nil
def t167 (P : Params) : BT := .node (o88 P) .nil .nil
def t168 (P : Params) : BT := .node (o53 P) (t167 P) .nil
def t169 (P : Params) : BT := .node (o16 P) (t166 P) (t168 P)
def t170 (P : Params) : BT := .node (boot_o_9 P) (t164 P) (t169 P)
def t171 (P : Params) : BT := .node (o68 P) .nil .nil
def t172 (P : Params) : BT := .node (o31 P) (t171 P) .nil
def t173 (P : Params) : BT := .node (o84 P) .nil .nil
def t174 (P : Params) : BT := .node (o49 P) (t173 P) .nil
def t175 (P : Params) : BT := .node (o12 P) (t172 P) (t174 P)
def t176 (P : Params) : BT := .node (o76 P) .nil .nil
def t177 (P : Params) : BT := .node (o39 P) (t176 P) .nil
def t178 (P : Params) : BT := .node (o92 P) .nil .nil
def t179 (P : Params) : BT := .node (o60 P) (t178 P) .nil
def t180 (P : Params) : BT := .node (o20 P) (t177 P) (t179 P)
def t181 (P : Params) : BT := .node (o2 P) (t175 P) (t180 P)
def t182 (P : Params) : BT := .node (boot_o_5 P) (t170 P) (t181 P)
def t183 (P : Params) : BT := .node (boot_o_1 P) (t158 P) (t182 P)
def t184 (P : Params) : BT := .node (o63 P) .nil .nil
def t185 (P : Params) : BT := .node (o95 P) .nil .nil
def t186 (P : Params) : BT := .node (o23 P) (t184 P) (t185 P)
def t187 (P : Params) : BT := .node (o79 P) .nil .nil
def t188 (P : Params) : BT := .node (o44 P) (t187 P) .nil
def t189 (P : Params) : BT := .node (o7 P) (t186 P) (t188 P)
def t190 (P : Params) : BT := .node (o71 P) .nil .nil
def t191 (P : Params) : BT := .node (o34 P) (t190 P) .nil
def t192 (P : Params) : BT := .node (o87 P) .nil .nil
def t193 (P : Params) : BT := .node (o59 P) (t192 P) .nil
def t194 (P : Params) : BT := .node (o15 P) (t191 P) (t193 P)
def t195 (P : Params) : BT := .node (boot_o_8 P) (t189 P) (t194 P)
def t196 (P : Params) : BT := .node (o67 P) .nil .nil
def t197 (P : Params) : BT := .node (o99 P) .nil .nil
def t198 (P : Params) : BT := .node (o30 P) (t196 P) (t197 P)
def t199 (P : Params) : BT := .node (o83 P) .nil .nil
def t200 (P : Params) : BT := .node (o48 P) (t199 P) .nil
def t201 (P : Params) : BT := .node (o11 P) (t198 P) (t200 P)
def t202 (P : Params) : BT := .node (o75 P) .nil .nil
def t203 (P : Params) : BT := .node (o38 P) (t202 P) .nil
def t204 (P : Params) : BT := .node (o91 P) .nil .nil
def t205 (P : Params) : BT := .node (o56 P) (t204 P) .nil
def t206 (P : Params) : BT := .node (o19 P) (t203 P) (t205 P)
def t207 (P : Params) : BT := .node (o58 P) (t201 P) (t206 P)
def t208 (P : Params) : BT := .node (boot_o_4 P) (t195 P) (t207 P)
def t209 (P : Params) : BT := .node (o65 P) .nil .nil
def t210 (P : Params) : BT := .node (o97 P) .nil .nil
def t211 (P : Params) : BT := .node (o25 P) (t209 P) (t210 P)
def t212 (P : Params) : BT := .node (o81 P) .nil .nil
def t213 (P : Params) : BT := .node (o46 P) (t212 P) .nil
def t214 (P : Params) : BT := .node (o9 P) (t211 P) (t213 P)
def t215 (P : Params) : BT := .node (o73 P) .nil .nil
def t216 (P : Params) : BT := .node (o36 P) (t215 P) .nil
def t217 (P : Params) : BT := .node (o89 P) .nil .nil
def t218 (P : Params) : BT := .node (o54 P) (t217 P) .nil
def t219 (P : Params) : BT := .node (o17 P) (t216 P) (t218 P)
def t220 (P : Params) : BT := .node (boot_o_10 P) (t214 P) (t219 P)
def t221 (P : Params) : BT := .node (o69 P) .nil .nil
def t222 (P : Params) : BT := .node (o32 P) (t221 P) .nil
def t223 (P : Params) : BT := .node (o85 P) .nil .nil
def t224 (P : Params) : BT := .node (o50 P) (t223 P) .nil
def t225 (P : Params) : BT := .node (o13 P) (t222 P) (t224 P)
def t226 (P : Params) : BT := .node (o77 P) .nil .nil
def t227 (P : Params) : BT := .node (o40 P) (t226 P) .nil
def t228 (P : Params) : BT := .node (o93 P) .nil .nil
def t229 (P : Params) : BT := .node (o61 P) (t228 P) .nil
def t230 (P : Params) : BT := .node (o21 P) (t227 P) (t229 P)
def t231 (P : Params) : BT := .node (o3 P) (t225 P) (t230 P)
def t232 (P : Params) : BT := .node (boot_o_6 P) (t220 P) (t231 P)
def t233 (P : Params) : BT := .node (boot_o_2 P) (t208 P) (t232 P)
def t234 (P : Params) : BT := .node (boot_o_0 P) (t183 P) (t233 P)
def sb4 (w : World) (os : OsState) : SharedT := ⟨(t234 w.params), 101, (Life.mk [] [] [] 0 [] [] Bool.false #[] [] 0 Bool.false Bool.false Bool.false (0 : Int) [(2000 : Int), (10 : Int), (10 : Int)] Bool.false 0 Bool.true [] [] 0 Bool.false), ⟨[]⟩, (Drawn.mk 0 0 0 0), 299, os⟩
def L3 (w : World) (os : OsState) : Option (Flow × SharedT × Code × Pos) := segRunT treeTable PySem.Challenge.pw_beatless_k08_whole_programs_let_by w 11 an 1 340 (sb3 w os) (piecesOf sts3 env cE (Pos.mk 10 0 11 8) B)
def R3 (w : World) (os : OsState) : Option (Flow × SharedT × Code × Pos) := some (.next, sb4 w os, cE, (Pos.mk 12 0 24 32))
theorem q3 : tt (Hd.L3, Hd.R3) = true := by k_qdec
theorem r3 : ∀ w, PySem.W.Fast.tw6196771281854559479 w = PySem.W.Fast.tw4539841377621278456 w := fun w => by kernel_rfl
theorem e3 (w : World) (os : OsState) : Hd.L3 w os = Hd.R3 w os :=
  (congrFun (congrFun PySem.W.Fast.te6196771281854559479 w) os).trans ((congrFun (r3 w) os).trans (congrFun (congrFun PySem.W.Fast.te4539841377621278456 w) os).symm)
def sts4 : List Stmt := [S 7]
def o100 (P : Params) : Obj := (Obj.mk (.type "dict") (Option.none) (Data.dict #[en P "__name__" 165 (.str "beatless.exprs" 230), en P "__doc__" 166 .none, en P "__package__" 167 .none, en P "__loader__" 168 (.builtin "__main__.__loader__#opaque"), en P "__spec__" 169 .none, en P "__annotations__" 170 (.ref 6), en P "__builtins__" 171 (.ref 4), en P "__file__" 173 (.str "/claim/cut.py" 172), en P "__cached__" 174 .none, en P "_wall" 193 (.ref 21), en P "BeatlessError" 213 (.ref 31), en P "NoProgram" 229 (.ref 44), en P "Expr" 251 (.ref 56), en P "Num" 298 (.ref 98), en P "Name" 345 (.ref 138)] 15) #[])
def o101 (P : Params) : Obj := (Obj.mk .none (Option.none) (Data.fields #[(.int (1 : Int) 0), (.int (0 : Int) 0), (.ref 20), (.int (5 : Int) 0), (.int (0 : Int) 0), (.ref 27), (.int (7 : Int) 0), (.int (0 : Int) 0), (.ref 40), (.int (10 : Int) 0), (.int (0 : Int) 0), (.ref 52), (.int (12 : Int) 0), (.int (0 : Int) 0), (.ref 66), (.int (25 : Int) 0), (.int (0 : Int) 0), (.ref 106)]) #[])
def o102 (P : Params) : Obj := (Obj.mk (.type "type") (Option.none) (Data.cls (ClassData.mk "Expr" [(.type "object")] [(.ref 56), (.type "object")] 55 "Expr" Bool.true [] [(.ref 98), (.ref 138)] Bool.false (Option.none) Bool.false)) #[(Option.none), (Option.none), (Option.some (.str "Expr" 232)), (Option.some (.str "Expr" 240)), (Option.some (.builtin "object.__new__")), (Option.some (.bool Bool.true))])
def o103 (P : Params) : Obj := (Obj.mk (.type "tuple") (Option.none) (Data.seq #[(.ref 56)] 0) #[])
def o104 (P : Params) : Obj := (Obj.mk (.type "builtin_function_or_method") (Option.none) (Data.fields #[(.builtin "type.__prepare__"), (.type "type")]) #[])
def o105 (P : Params) : Obj := (Obj.mk (.type "dict") (Option.none) (Data.dict #[en P "__module__" 306 (.str "beatless.exprs" 230), en P "__qualname__" 308 (.str "Name" 307), en P "__firstlineno__" 310 (.int (25 : Int) 309), en P "__init__" 318 (.ref 114), en P "reckon" 326 (.ref 121), en P "told" 333 (.ref 128), en P "words" 340 (.ref 135), en P "__static_attributes__" 342 (.ref 136)] 8) #[])
def o106 (P : Params) : Obj := (Obj.mk (.type "tuple") (Option.none) (Data.seq #[] 0) #[])
def o107 (P : Params) : Obj := (Obj.mk .none (Option.none) (Data.fields #[(.int (27 : Int) 0), (.int (4 : Int) 0), (.ref 113), (.int (30 : Int) 0), (.int (4 : Int) 0), (.ref 120), (.int (33 : Int) 0), (.int (4 : Int) 0), (.ref 127), (.int (36 : Int) 0), (.int (4 : Int) 0), (.ref 134)]) #[])
def o108 (P : Params) : Obj := (Obj.mk (.type "code") (Option.none) (Data.fields #[(.str "Name" 301), (.str "Name" 302), (.str "/claim/cut.py" 303), (.int (25 : Int) 0), (.int (0 : Int) 0), (.int (0 : Int) 0), (.int (0 : Int) 0), (.int (0 : Int) 0), (.ref 104), (.bool Bool.false), (.int (181 : Int) 0), (.ref 105), .none, .none, .none, .none, (.int (304 : Int) 0), (.int (25 : Int) 0), (.str "/claim/cut.py" 305)]) #[])
def o109 (P : Params) : Obj := (Obj.mk (.type "frame") (Option.none) Data.plain #[(Option.some (.ref 106)), (Option.some (.ref 3)), (Option.some (.ref 103)), (Option.none), (Option.some (.str "beatless.exprs" 230)), (Option.none), (Option.some (.ref 0))])
def o110 (P : Params) : Obj := (Obj.mk (.type "tuple") (Option.none) (Data.seq #[] 0) #[])
def o111 (P : Params) : Obj := (Obj.mk .none (Option.none) (Data.fields #[]) #[])
def o112 (P : Params) : Obj := (Obj.mk (.type "tuple") (Option.none) (Data.seq #[(.str "self" 314), (.str "word" 315)] 0) #[])
def o113 (P : Params) : Obj := (Obj.mk (.type "tuple") (Option.none) (Data.seq #[] 0) #[])
def o114 (P : Params) : Obj := (Obj.mk .none (Option.none) (Data.func (fd "__init__" "Name.__init__" (L2.inClass (S 7) 0) 0 [] .none .none .none .none (Option.none) .none .none 0)) #[])
def o115 (P : Params) : Obj := (Obj.mk (.type "code") (Option.none) (Data.fields #[(.str "__init__" 311), (.str "Name.__init__" 312), (.str "/claim/cut.py" 313), (.int (27 : Int) 0), (.int (2 : Int) 0), (.int (0 : Int) 0), (.int (0 : Int) 0), (.int (3 : Int) 0), (.ref 108), (.bool Bool.true), (.int (181 : Int) 0), (.ref 109), .none, (.ref 110), (.ref 111), (.ref 112), (.int (316 : Int) 0), (.int (27 : Int) 0), (.str "/claim/cut.py" 317)]) #[])
def o116 (P : Params) : Obj := (Obj.mk (.type "function") (Option.none) (Data.func (fd "__init__" "Name.__init__" (L2.inClass (S 7) 0) 3 [] .none .none .none (.str "beatless.exprs" 230) (Option.none) (.ref 113) .none 0)) #[])
def o117 (P : Params) : Obj := (Obj.mk (.type "tuple") (Option.none) (Data.seq #[] 0) #[])
def o118 (P : Params) : Obj := (Obj.mk .none (Option.none) (Data.fields #[]) #[])
def o119 (P : Params) : Obj := (Obj.mk (.type "tuple") (Option.none) (Data.seq #[(.str "self" 322), (.str "worths" 323)] 0) #[])
def o120 (P : Params) : Obj := (Obj.mk (.type "tuple") (Option.none) (Data.seq #[] 0) #[])
def o121 (P : Params) : Obj := (Obj.mk .none (Option.none) (Data.func (fd "reckon" "Name.reckon" (L2.inClass (S 7) 1) 0 [] .none .none .none .none (Option.none) .none .none 0)) #[])
def o122 (P : Params) : Obj := (Obj.mk (.type "code") (Option.none) (Data.fields #[(.str "reckon" 319), (.str "Name.reckon" 320), (.str "/claim/cut.py" 321), (.int (30 : Int) 0), (.int (2 : Int) 0), (.int (0 : Int) 0), (.int (0 : Int) 0), (.int (3 : Int) 0), (.ref 115), (.bool Bool.true), (.int (181 : Int) 0), (.ref 116), .none, (.ref 117), (.ref 118), (.ref 119), (.int (324 : Int) 0), (.int (30 : Int) 0), (.str "/claim/cut.py" 325)]) #[])
def o123 (P : Params) : Obj := (Obj.mk (.type "function") (Option.none) (Data.func (fd "reckon" "Name.reckon" (L2.inClass (S 7) 1) 3 [] .none .none .none (.str "beatless.exprs" 230) (Option.none) (.ref 120) .none 0)) #[])
def o124 (P : Params) : Obj := (Obj.mk (.type "tuple") (Option.none) (Data.seq #[] 0) #[])
def o125 (P : Params) : Obj := (Obj.mk .none (Option.none) (Data.fields #[]) #[])
def o126 (P : Params) : Obj := (Obj.mk (.type "tuple") (Option.none) (Data.seq #[(.str "self" 330)] 0) #[])
def o127 (P : Params) : Obj := (Obj.mk (.type "tuple") (Option.none) (Data.seq #[] 0) #[])
def o128 (P : Params) : Obj := (Obj.mk .none (Option.none) (Data.func (fd "told" "Name.told" (L2.inClass (S 7) 2) 0 [] .none .none .none .none (Option.none) .none .none 0)) #[])
def o129 (P : Params) : Obj := (Obj.mk (.type "code") (Option.none) (Data.fields #[(.str "told" 327), (.str "Name.told" 328), (.str "/claim/cut.py" 329), (.int (33 : Int) 0), (.int (1 : Int) 0), (.int (0 : Int) 0), (.int (0 : Int) 0), (.int (3 : Int) 0), (.ref 122), (.bool Bool.true), (.int (181 : Int) 0), (.ref 123), .none, (.ref 124), (.ref 125), (.ref 126), (.int (331 : Int) 0), (.int (33 : Int) 0), (.str "/claim/cut.py" 332)]) #[])
def o130 (P : Params) : Obj := (Obj.mk (.type "function") (Option.none) (Data.func (fd "told" "Name.told" (L2.inClass (S 7) 2) 3 [] .none .none .none (.str "beatless.exprs" 230) (Option.none) (.ref 127) .none 0)) #[])
def o131 (P : Params) : Obj := (Obj.mk (.type "tuple") (Option.none) (Data.seq #[] 0) #[])
def o132 (P : Params) : Obj := (Obj.mk .none (Option.none) (Data.fields #[]) #[])
def o133 (P : Params) : Obj := (Obj.mk (.type "tuple") (Option.none) (Data.seq #[(.str "self" 337)] 0) #[])
def o134 (P : Params) : Obj := (Obj.mk (.type "tuple") (Option.none) (Data.seq #[] 0) #[])
def o135 (P : Params) : Obj := (Obj.mk .none (Option.none) (Data.func (fd "words" "Name.words" (L2.inClass (S 7) 3) 0 [] .none .none .none .none (Option.none) .none .none 0)) #[])
def o136 (P : Params) : Obj := (Obj.mk (.type "code") (Option.none) (Data.fields #[(.str "words" 334), (.str "Name.words" 335), (.str "/claim/cut.py" 336), (.int (36 : Int) 0), (.int (1 : Int) 0), (.int (0 : Int) 0), (.int (0 : Int) 0), (.int (3 : Int) 0), (.ref 129), (.bool Bool.true), (.int (181 : Int) 0), (.ref 130), .none, (.ref 131), (.ref 132), (.ref 133), (.int (338 : Int) 0), (.int (36 : Int) 0), (.str "/claim/cut.py" 339)]) #[])
def o137 (P : Params) : Obj := (Obj.mk (.type "function") (Option.none) (Data.func (fd "words" "Name.words" (L2.inClass (S 7) 3) 3 [] .none .none .none (.str "beatless.exprs" 230) (Option.none) (.ref 134) .none 0)) #[])
def o138 (P : Params) : Obj := (Obj.mk (.type "tuple") (Option.none) (Data.seq #[(.str "word" 341)] 0) #[])
def o139 (P : Params) : Obj := (Obj.mk (.type "dict") (Option.none) (Data.dict #[en P "__module__" 306 (.str "beatless.exprs" 230), en P "__firstlineno__" 310 (.int (25 : Int) 309), en P "__init__" 318 (.ref 114), en P "reckon" 326 (.ref 121), en P "told" 333 (.ref 128), en P "words" 340 (.ref 135), en P "__static_attributes__" 342 (.ref 136), en P "__doc__" 343 .none] 2) #[])
def o140 (P : Params) : Obj := (Obj.mk (.type "type") (Option.none) (Data.cls (ClassData.mk "Name" [(.ref 56)] [(.ref 138), (.ref 56), (.type "object")] 137 "Name" Bool.true [] [] Bool.false (Option.none) Bool.false)) #[(Option.some (.ref 101)), (Option.none), (Option.some (.str "Name" 299)), (Option.some (.str "Name" 307)), (Option.some (.builtin "object.__new__")), (Option.some (.bool Bool.true))])
def o141 (P : Params) : Obj := (Obj.mk (.type "super") (Option.none) (Data.fields #[(.ref 138), (.ref 138), (.ref 138)]) #[])
def o142 (P : Params) : Obj := (Obj.mk (.type "builtin_function_or_method") (Option.none) (Data.fields #[(.builtin "object.__init_subclass__"), (.ref 138)]) #[])
def t235 (P : Params) : BT := .node (o129 P) .nil .nil
def t236 (P : Params) : BT := .node (o62 P) (t235 P) .nil
def t237 (P : Params) : BT := .node (o28 P) (t236 P) (t135 P)
def t238 (P : Params) : BT := .node (o113 P) .nil .nil
def t239 (P : Params) : BT := .node (o43 P) (t137 P) (t238 P)
def t240 (P : Params) : BT := .node (o6 P) (t237 P) (t239 P)
def t241 (P : Params) : BT := .node (o137 P) .nil .nil
def t242 (P : Params) : BT := .node (o70 P) (t241 P) .nil
def t243 (P : Params) : BT := .node (o105 P) .nil .nil
def t244 (P : Params) : BT := .node (o33 P) (t242 P) (t243 P)
def t245 (P : Params) : BT := .node (o121 P) .nil .nil
def t246 (P : Params) : BT := .node (o51 P) (t142 P) (t245 P)
def t247 (P : Params) : BT := .node (o14 P) (t244 P) (t246 P)
def t248 (P : Params) : BT := .node (boot_o_7 P) (t240 P) (t247 P)
def t249 (P : Params) : BT := .node (o133 P) .nil .nil
def t250 (P : Params) : BT := .node (o66 P) (t249 P) .nil
def t251 (P : Params) : BT := .node (o29 P) (t250 P) (t147 P)
def t252 (P : Params) : BT := .node (o117 P) .nil .nil
def t253 (P : Params) : BT := .node (o47 P) (t149 P) (t252 P)
def t254 (P : Params) : BT := .node (o10 P) (t251 P) (t253 P)
def t255 (P : Params) : BT := .node (o141 P) .nil .nil
def t256 (P : Params) : BT := .node (o74 P) (t255 P) .nil
def t257 (P : Params) : BT := .node (o109 P) .nil .nil
def t258 (P : Params) : BT := .node (o37 P) (t256 P) (t257 P)
def t259 (P : Params) : BT := .node (o125 P) .nil .nil
def t260 (P : Params) : BT := .node (o55 P) (t154 P) (t259 P)
def t261 (P : Params) : BT := .node (o18 P) (t258 P) (t260 P)
def t262 (P : Params) : BT := .node (o0 P) (t254 P) (t261 P)
def t263 (P : Params) : BT := .node (o100 P) (t248 P) (t262 P)
def t264 (P : Params) : BT := .node (o131 P) .nil .nil
def t265 (P : Params) : BT := .node (o64 P) (t264 P) .nil
def t266 (P : Params) : BT := .node (o24 P) (t265 P) (t160 P)
def t267 (P : Params) : BT := .node (o115 P) .nil .nil
def t268 (P : Params) : BT := .node (o45 P) (t162 P) (t267 P)
def t269 (P : Params) : BT := .node (o8 P) (t266 P) (t268 P)
def t270 (P : Params) : BT := .node (o139 P) .nil .nil
def t271 (P : Params) : BT := .node (o72 P) (t270 P) .nil
def t272 (P : Params) : BT := .node (o107 P) .nil .nil
def t273 (P : Params) : BT := .node (o35 P) (t271 P) (t272 P)
def t274 (P : Params) : BT := .node (o123 P) .nil .nil
def t275 (P : Params) : BT := .node (o53 P) (t167 P) (t274 P)
def t276 (P : Params) : BT := .node (o16 P) (t273 P) (t275 P)
def t277 (P : Params) : BT := .node (boot_o_9 P) (t269 P) (t276 P)
def t278 (P : Params) : BT := .node (o135 P) .nil .nil
def t279 (P : Params) : BT := .node (o68 P) (t278 P) .nil
def t280 (P : Params) : BT := .node (o103 P) .nil .nil
def t281 (P : Params) : BT := .node (o31 P) (t279 P) (t280 P)
def t282 (P : Params) : BT := .node (o119 P) .nil .nil
def t283 (P : Params) : BT := .node (o49 P) (t173 P) (t282 P)
def t284 (P : Params) : BT := .node (o12 P) (t281 P) (t283 P)
def t285 (P : Params) : BT := .node (o111 P) .nil .nil
def t286 (P : Params) : BT := .node (o39 P) (t176 P) (t285 P)
def t287 (P : Params) : BT := .node (o127 P) .nil .nil
def t288 (P : Params) : BT := .node (o60 P) (t178 P) (t287 P)
def t289 (P : Params) : BT := .node (o20 P) (t286 P) (t288 P)
def t290 (P : Params) : BT := .node (o2 P) (t284 P) (t289 P)
def t291 (P : Params) : BT := .node (boot_o_5 P) (t277 P) (t290 P)
def t292 (P : Params) : BT := .node (boot_o_1 P) (t263 P) (t291 P)
def t293 (P : Params) : BT := .node (o130 P) .nil .nil
def t294 (P : Params) : BT := .node (o63 P) (t293 P) .nil
def t295 (P : Params) : BT := .node (o23 P) (t294 P) (t185 P)
def t296 (P : Params) : BT := .node (o114 P) .nil .nil
def t297 (P : Params) : BT := .node (o44 P) (t187 P) (t296 P)
def t298 (P : Params) : BT := .node (o7 P) (t295 P) (t297 P)
def t299 (P : Params) : BT := .node (o138 P) .nil .nil
def t300 (P : Params) : BT := .node (o71 P) (t299 P) .nil
def t301 (P : Params) : BT := .node (o106 P) .nil .nil
def t302 (P : Params) : BT := .node (o34 P) (t300 P) (t301 P)
def t303 (P : Params) : BT := .node (o122 P) .nil .nil
def t304 (P : Params) : BT := .node (o102 P) (t192 P) (t303 P)
def t305 (P : Params) : BT := .node (o15 P) (t302 P) (t304 P)
def t306 (P : Params) : BT := .node (boot_o_8 P) (t298 P) (t305 P)
def t307 (P : Params) : BT := .node (o134 P) .nil .nil
def t308 (P : Params) : BT := .node (o67 P) (t307 P) .nil
def t309 (P : Params) : BT := .node (o30 P) (t308 P) (t197 P)
def t310 (P : Params) : BT := .node (o118 P) .nil .nil
def t311 (P : Params) : BT := .node (o48 P) (t199 P) (t310 P)
def t312 (P : Params) : BT := .node (o11 P) (t309 P) (t311 P)
def t313 (P : Params) : BT := .node (o142 P) .nil .nil
def t314 (P : Params) : BT := .node (o75 P) (t313 P) .nil
def t315 (P : Params) : BT := .node (o110 P) .nil .nil
def t316 (P : Params) : BT := .node (o38 P) (t314 P) (t315 P)
def t317 (P : Params) : BT := .node (o126 P) .nil .nil
def t318 (P : Params) : BT := .node (o56 P) (t204 P) (t317 P)
def t319 (P : Params) : BT := .node (o19 P) (t316 P) (t318 P)
def t320 (P : Params) : BT := .node (o101 P) (t312 P) (t319 P)
def t321 (P : Params) : BT := .node (boot_o_4 P) (t306 P) (t320 P)
def t322 (P : Params) : BT := .node (o132 P) .nil .nil
def t323 (P : Params) : BT := .node (o65 P) (t322 P) .nil
def t324 (P : Params) : BT := .node (o25 P) (t323 P) (t210 P)
def t325 (P : Params) : BT := .node (o116 P) .nil .nil
def t326 (P : Params) : BT := .node (o46 P) (t212 P) (t325 P)
def t327 (P : Params) : BT := .node (o9 P) (t324 P) (t326 P)
def t328 (P : Params) : BT := .node (o140 P) .nil .nil
def t329 (P : Params) : BT := .node (o73 P) (t328 P) .nil
def t330 (P : Params) : BT := .node (o108 P) .nil .nil
def t331 (P : Params) : BT := .node (o36 P) (t329 P) (t330 P)
def t332 (P : Params) : BT := .node (o124 P) .nil .nil
def t333 (P : Params) : BT := .node (o54 P) (t217 P) (t332 P)
def t334 (P : Params) : BT := .node (o17 P) (t331 P) (t333 P)
def t335 (P : Params) : BT := .node (boot_o_10 P) (t327 P) (t334 P)
def t336 (P : Params) : BT := .node (o136 P) .nil .nil
def t337 (P : Params) : BT := .node (o69 P) (t336 P) .nil
def t338 (P : Params) : BT := .node (o104 P) .nil .nil
def t339 (P : Params) : BT := .node (o32 P) (t337 P) (t338 P)
def t340 (P : Params) : BT := .node (o120 P) .nil .nil
def t341 (P : Params) : BT := .node (o50 P) (t223 P) (t340 P)
def t342 (P : Params) : BT := .node (o13 P) (t339 P) (t341 P)
def t343 (P : Params) : BT := .node (o112 P) .nil .nil
def t344 (P : Params) : BT := .node (o40 P) (t226 P) (t343 P)
def t345 (P : Params) : BT := .node (o128 P) .nil .nil
def t346 (P : Params) : BT := .node (o61 P) (t228 P) (t345 P)
def t347 (P : Params) : BT := .node (o21 P) (t344 P) (t346 P)
def t348 (P : Params) : BT := .node (o3 P) (t342 P) (t347 P)
def t349 (P : Params) : BT := .node (boot_o_6 P) (t335 P) (t348 P)
def t350 (P : Params) : BT := .node (boot_o_2 P) (t321 P) (t349 P)
def t351 (P : Params) : BT := .node (boot_o_0 P) (t292 P) (t350 P)
def sb5 (w : World) (os : OsState) : SharedT := ⟨(t351 w.params), 141, (Life.mk [] [] [] 0 [] [] Bool.false #[] [] 0 Bool.false Bool.false Bool.false (0 : Int) [(2000 : Int), (10 : Int), (10 : Int)] Bool.false 0 Bool.true [] [] 0 Bool.false), ⟨[]⟩, (Drawn.mk 0 0 0 0), 346, os⟩
def L4 (w : World) (os : OsState) : Option (Flow × SharedT × Code × Pos) := segRunT treeTable PySem.Challenge.pw_beatless_k08_whole_programs_let_by w 11 an 1 340 (sb4 w os) (piecesOf sts4 env cE (Pos.mk 12 0 24 32) B)
def R4 (w : World) (os : OsState) : Option (Flow × SharedT × Code × Pos) := some (.next, sb5 w os, cE, (Pos.mk 25 0 37 26))
theorem q4 : tt (Hd.L4, Hd.R4) = true := by k_qdec
theorem r4 : ∀ w, PySem.W.Fast.tw18063231807419426806 w = PySem.W.Fast.tw9930642381628883879 w := fun w => by kernel_rfl
theorem e4 (w : World) (os : OsState) : Hd.L4 w os = Hd.R4 w os :=
  (congrFun (congrFun PySem.W.Fast.te18063231807419426806 w) os).trans ((congrFun (r4 w) os).trans (congrFun (congrFun PySem.W.Fast.te9930642381628883879 w) os).symm)
def sts5 : List Stmt := [S 8]
def o143 (P : Params) : Obj := (Obj.mk (.type "dict") (Option.none) (Data.dict #[en P "__name__" 165 (.str "beatless.exprs" 230), en P "__doc__" 166 .none, en P "__package__" 167 .none, en P "__loader__" 168 (.builtin "__main__.__loader__#opaque"), en P "__spec__" 169 .none, en P "__annotations__" 170 (.ref 6), en P "__builtins__" 171 (.ref 4), en P "__file__" 173 (.str "/claim/cut.py" 172), en P "__cached__" 174 .none, en P "_wall" 193 (.ref 21), en P "BeatlessError" 213 (.ref 31), en P "NoProgram" 229 (.ref 44), en P "Expr" 251 (.ref 56), en P "Num" 298 (.ref 98), en P "Name" 345 (.ref 138), en P "Two" 398 (.ref 178)] 16) #[])
def o144 (P : Params) : Obj := (Obj.mk .none (Option.none) (Data.fields #[(.int (1 : Int) 0), (.int (0 : Int) 0), (.ref 20), (.int (5 : Int) 0), (.int (0 : Int) 0), (.ref 27), (.int (7 : Int) 0), (.int (0 : Int) 0), (.ref 40), (.int (10 : Int) 0), (.int (0 : Int) 0), (.ref 52), (.int (12 : Int) 0), (.int (0 : Int) 0), (.ref 66), (.int (25 : Int) 0), (.int (0 : Int) 0), (.ref 106), (.int (38 : Int) 0), (.int (0 : Int) 0), (.ref 146)]) #[])
def o145 (P : Params) : Obj := (Obj.mk (.type "type") (Option.none) (Data.cls (ClassData.mk "Expr" [(.type "object")] [(.ref 56), (.type "object")] 55 "Expr" Bool.true [] [(.ref 98), (.ref 138), (.ref 178)] Bool.false (Option.none) Bool.false)) #[(Option.none), (Option.none), (Option.some (.str "Expr" 232)), (Option.some (.str "Expr" 240)), (Option.some (.builtin "object.__new__")), (Option.some (.bool Bool.true))])
def o146 (P : Params) : Obj := (Obj.mk (.type "tuple") (Option.none) (Data.seq #[(.ref 56)] 0) #[])
def o147 (P : Params) : Obj := (Obj.mk (.type "builtin_function_or_method") (Option.none) (Data.fields #[(.builtin "type.__prepare__"), (.type "type")]) #[])
def o148 (P : Params) : Obj := (Obj.mk (.type "dict") (Option.none) (Data.dict #[en P "__module__" 353 (.str "beatless.exprs" 230), en P "__qualname__" 355 (.str "Two" 354), en P "__firstlineno__" 357 (.int (38 : Int) 356), en P "__init__" 367 (.ref 154), en P "reckon" 377 (.ref 161), en P "told" 384 (.ref 168), en P "words" 391 (.ref 175), en P "__static_attributes__" 395 (.ref 176)] 8) #[])
def o149 (P : Params) : Obj := (Obj.mk (.type "tuple") (Option.none) (Data.seq #[] 0) #[])
def o150 (P : Params) : Obj := (Obj.mk .none (Option.none) (Data.fields #[(.int (40 : Int) 0), (.int (4 : Int) 0), (.ref 153), (.int (45 : Int) 0), (.int (4 : Int) 0), (.ref 160), (.int (56 : Int) 0), (.int (4 : Int) 0), (.ref 167), (.int (59 : Int) 0), (.int (4 : Int) 0), (.ref 174)]) #[])
def o151 (P : Params) : Obj := (Obj.mk (.type "code") (Option.none) (Data.fields #[(.str "Two" 348), (.str "Two" 349), (.str "/claim/cut.py" 350), (.int (38 : Int) 0), (.int (0 : Int) 0), (.int (0 : Int) 0), (.int (0 : Int) 0), (.int (0 : Int) 0), (.ref 144), (.bool Bool.false), (.int (181 : Int) 0), (.ref 145), .none, .none, .none, .none, (.int (351 : Int) 0), (.int (38 : Int) 0), (.str "/claim/cut.py" 352)]) #[])
def o152 (P : Params) : Obj := (Obj.mk (.type "frame") (Option.none) Data.plain #[(Option.some (.ref 146)), (Option.some (.ref 3)), (Option.some (.ref 143)), (Option.none), (Option.some (.str "beatless.exprs" 230)), (Option.none), (Option.some (.ref 0))])
def o153 (P : Params) : Obj := (Obj.mk (.type "tuple") (Option.none) (Data.seq #[] 0) #[])
def o154 (P : Params) : Obj := (Obj.mk .none (Option.none) (Data.fields #[]) #[])
def o155 (P : Params) : Obj := (Obj.mk (.type "tuple") (Option.none) (Data.seq #[(.str "self" 361), (.str "word" 362), (.str "one" 363), (.str "other" 364)] 0) #[])
def o156 (P : Params) : Obj := (Obj.mk (.type "tuple") (Option.none) (Data.seq #[] 0) #[])
def o157 (P : Params) : Obj := (Obj.mk .none (Option.none) (Data.func (fd "__init__" "Two.__init__" (L2.inClass (S 8) 0) 0 [] .none .none .none .none (Option.none) .none .none 0)) #[])
def o158 (P : Params) : Obj := (Obj.mk (.type "code") (Option.none) (Data.fields #[(.str "__init__" 358), (.str "Two.__init__" 359), (.str "/claim/cut.py" 360), (.int (40 : Int) 0), (.int (4 : Int) 0), (.int (0 : Int) 0), (.int (0 : Int) 0), (.int (3 : Int) 0), (.ref 148), (.bool Bool.true), (.int (181 : Int) 0), (.ref 149), .none, (.ref 150), (.ref 151), (.ref 152), (.int (365 : Int) 0), (.int (40 : Int) 0), (.str "/claim/cut.py" 366)]) #[])
def o159 (P : Params) : Obj := (Obj.mk (.type "function") (Option.none) (Data.func (fd "__init__" "Two.__init__" (L2.inClass (S 8) 0) 3 [] .none .none .none (.str "beatless.exprs" 230) (Option.none) (.ref 153) .none 0)) #[])
def o160 (P : Params) : Obj := (Obj.mk (.type "tuple") (Option.none) (Data.seq #[] 0) #[])
def o161 (P : Params) : Obj := (Obj.mk .none (Option.none) (Data.fields #[]) #[])
def o162 (P : Params) : Obj := (Obj.mk (.type "tuple") (Option.none) (Data.seq #[(.str "self" 371), (.str "worths" 372), (.str "one" 373), (.str "other" 374)] 0) #[])
def o163 (P : Params) : Obj := (Obj.mk (.type "tuple") (Option.none) (Data.seq #[] 0) #[])
def o164 (P : Params) : Obj := (Obj.mk .none (Option.none) (Data.func (fd "reckon" "Two.reckon" (L2.inClass (S 8) 1) 0 [] .none .none .none .none (Option.none) .none .none 0)) #[])
def o165 (P : Params) : Obj := (Obj.mk (.type "code") (Option.none) (Data.fields #[(.str "reckon" 368), (.str "Two.reckon" 369), (.str "/claim/cut.py" 370), (.int (45 : Int) 0), (.int (2 : Int) 0), (.int (0 : Int) 0), (.int (0 : Int) 0), (.int (3 : Int) 0), (.ref 155), (.bool Bool.true), (.int (181 : Int) 0), (.ref 156), .none, (.ref 157), (.ref 158), (.ref 159), (.int (375 : Int) 0), (.int (45 : Int) 0), (.str "/claim/cut.py" 376)]) #[])
def o166 (P : Params) : Obj := (Obj.mk (.type "function") (Option.none) (Data.func (fd "reckon" "Two.reckon" (L2.inClass (S 8) 1) 3 [] .none .none .none (.str "beatless.exprs" 230) (Option.none) (.ref 160) .none 0)) #[])
def o167 (P : Params) : Obj := (Obj.mk (.type "tuple") (Option.none) (Data.seq #[] 0) #[])
def o168 (P : Params) : Obj := (Obj.mk .none (Option.none) (Data.fields #[]) #[])
def o169 (P : Params) : Obj := (Obj.mk (.type "tuple") (Option.none) (Data.seq #[(.str "self" 381)] 0) #[])
def o170 (P : Params) : Obj := (Obj.mk (.type "tuple") (Option.none) (Data.seq #[] 0) #[])
def o171 (P : Params) : Obj := (Obj.mk .none (Option.none) (Data.func (fd "told" "Two.told" (L2.inClass (S 8) 2) 0 [] .none .none .none .none (Option.none) .none .none 0)) #[])
def o172 (P : Params) : Obj := (Obj.mk (.type "code") (Option.none) (Data.fields #[(.str "told" 378), (.str "Two.told" 379), (.str "/claim/cut.py" 380), (.int (56 : Int) 0), (.int (1 : Int) 0), (.int (0 : Int) 0), (.int (0 : Int) 0), (.int (3 : Int) 0), (.ref 162), (.bool Bool.true), (.int (181 : Int) 0), (.ref 163), .none, (.ref 164), (.ref 165), (.ref 166), (.int (382 : Int) 0), (.int (56 : Int) 0), (.str "/claim/cut.py" 383)]) #[])
def o173 (P : Params) : Obj := (Obj.mk (.type "function") (Option.none) (Data.func (fd "told" "Two.told" (L2.inClass (S 8) 2) 3 [] .none .none .none (.str "beatless.exprs" 230) (Option.none) (.ref 167) .none 0)) #[])
def o174 (P : Params) : Obj := (Obj.mk (.type "tuple") (Option.none) (Data.seq #[] 0) #[])
def o175 (P : Params) : Obj := (Obj.mk .none (Option.none) (Data.fields #[]) #[])
def o176 (P : Params) : Obj := (Obj.mk (.type "tuple") (Option.none) (Data.seq #[(.str "self" 388)] 0) #[])
def o177 (P : Params) : Obj := (Obj.mk (.type "tuple") (Option.none) (Data.seq #[] 0) #[])
def o178 (P : Params) : Obj := (Obj.mk .none (Option.none) (Data.func (fd "words" "Two.words" (L2.inClass (S 8) 3) 0 [] .none .none .none .none (Option.none) .none .none 0)) #[])
def o179 (P : Params) : Obj := (Obj.mk (.type "code") (Option.none) (Data.fields #[(.str "words" 385), (.str "Two.words" 386), (.str "/claim/cut.py" 387), (.int (59 : Int) 0), (.int (1 : Int) 0), (.int (0 : Int) 0), (.int (0 : Int) 0), (.int (3 : Int) 0), (.ref 169), (.bool Bool.true), (.int (181 : Int) 0), (.ref 170), .none, (.ref 171), (.ref 172), (.ref 173), (.int (389 : Int) 0), (.int (59 : Int) 0), (.str "/claim/cut.py" 390)]) #[])
def o180 (P : Params) : Obj := (Obj.mk (.type "function") (Option.none) (Data.func (fd "words" "Two.words" (L2.inClass (S 8) 3) 3 [] .none .none .none (.str "beatless.exprs" 230) (Option.none) (.ref 174) .none 0)) #[])
def o181 (P : Params) : Obj := (Obj.mk (.type "tuple") (Option.none) (Data.seq #[(.str "one" 392), (.str "other" 393), (.str "word" 394)] 0) #[])
def o182 (P : Params) : Obj := (Obj.mk (.type "dict") (Option.none) (Data.dict #[en P "__module__" 353 (.str "beatless.exprs" 230), en P "__firstlineno__" 357 (.int (38 : Int) 356), en P "__init__" 367 (.ref 154), en P "reckon" 377 (.ref 161), en P "told" 384 (.ref 168), en P "words" 391 (.ref 175), en P "__static_attributes__" 395 (.ref 176), en P "__doc__" 396 .none] 2) #[])
def o183 (P : Params) : Obj := (Obj.mk (.type "type") (Option.none) (Data.cls (ClassData.mk "Two" [(.ref 56)] [(.ref 178), (.ref 56), (.type "object")] 177 "Two" Bool.true [] [] Bool.false (Option.none) Bool.false)) #[(Option.some (.ref 141)), (Option.none), (Option.some (.str "Two" 346)), (Option.some (.str "Two" 354)), (Option.some (.builtin "object.__new__")), (Option.some (.bool Bool.true))])
def o184 (P : Params) : Obj := (Obj.mk (.type "super") (Option.none) (Data.fields #[(.ref 178), (.ref 178), (.ref 178)]) #[])
def o185 (P : Params) : Obj := (Obj.mk (.type "builtin_function_or_method") (Option.none) (Data.fields #[(.builtin "object.__init_subclass__"), (.ref 178)]) #[])
def t352 (P : Params) : BT := .node (o164 P) .nil .nil
def t353 (P : Params) : BT := .node (o94 P) (t352 P) .nil
def t354 (P : Params) : BT := .node (o28 P) (t236 P) (t353 P)
def t355 (P : Params) : BT := .node (o148 P) .nil .nil
def t356 (P : Params) : BT := .node (o78 P) (t355 P) .nil
def t357 (P : Params) : BT := .node (o180 P) .nil .nil
def t358 (P : Params) : BT := .node (o113 P) (t357 P) .nil
def t359 (P : Params) : BT := .node (o43 P) (t356 P) (t358 P)
def t360 (P : Params) : BT := .node (o6 P) (t354 P) (t359 P)
def t361 (P : Params) : BT := .node (o172 P) .nil .nil
def t362 (P : Params) : BT := .node (o105 P) (t361 P) .nil
def t363 (P : Params) : BT := .node (o33 P) (t242 P) (t362 P)
def t364 (P : Params) : BT := .node (o156 P) .nil .nil
def t365 (P : Params) : BT := .node (o86 P) (t364 P) .nil
def t366 (P : Params) : BT := .node (o51 P) (t365 P) (t245 P)
def t367 (P : Params) : BT := .node (o14 P) (t363 P) (t366 P)
def t368 (P : Params) : BT := .node (boot_o_7 P) (t360 P) (t367 P)
def t369 (P : Params) : BT := .node (o168 P) .nil .nil
def t370 (P : Params) : BT := .node (o98 P) (t369 P) .nil
def t371 (P : Params) : BT := .node (o29 P) (t250 P) (t370 P)
def t372 (P : Params) : BT := .node (o152 P) .nil .nil
def t373 (P : Params) : BT := .node (o82 P) (t372 P) .nil
def t374 (P : Params) : BT := .node (o184 P) .nil .nil
def t375 (P : Params) : BT := .node (o117 P) (t374 P) .nil
def t376 (P : Params) : BT := .node (o47 P) (t373 P) (t375 P)
def t377 (P : Params) : BT := .node (o10 P) (t371 P) (t376 P)
def t378 (P : Params) : BT := .node (o176 P) .nil .nil
def t379 (P : Params) : BT := .node (o109 P) (t378 P) .nil
def t380 (P : Params) : BT := .node (o37 P) (t256 P) (t379 P)
def t381 (P : Params) : BT := .node (o160 P) .nil .nil
def t382 (P : Params) : BT := .node (o90 P) (t381 P) .nil
def t383 (P : Params) : BT := .node (o55 P) (t382 P) (t259 P)
def t384 (P : Params) : BT := .node (o18 P) (t380 P) (t383 P)
def t385 (P : Params) : BT := .node (o0 P) (t377 P) (t384 P)
def t386 (P : Params) : BT := .node (o143 P) (t368 P) (t385 P)
def t387 (P : Params) : BT := .node (o166 P) .nil .nil
def t388 (P : Params) : BT := .node (o96 P) (t387 P) .nil
def t389 (P : Params) : BT := .node (o24 P) (t265 P) (t388 P)
def t390 (P : Params) : BT := .node (o150 P) .nil .nil
def t391 (P : Params) : BT := .node (o80 P) (t390 P) .nil
def t392 (P : Params) : BT := .node (o182 P) .nil .nil
def t393 (P : Params) : BT := .node (o115 P) (t392 P) .nil
def t394 (P : Params) : BT := .node (o45 P) (t391 P) (t393 P)
def t395 (P : Params) : BT := .node (o8 P) (t389 P) (t394 P)
def t396 (P : Params) : BT := .node (o174 P) .nil .nil
def t397 (P : Params) : BT := .node (o107 P) (t396 P) .nil
def t398 (P : Params) : BT := .node (o35 P) (t271 P) (t397 P)
def t399 (P : Params) : BT := .node (o158 P) .nil .nil
def t400 (P : Params) : BT := .node (o88 P) (t399 P) .nil
def t401 (P : Params) : BT := .node (o53 P) (t400 P) (t274 P)
def t402 (P : Params) : BT := .node (o16 P) (t398 P) (t401 P)
def t403 (P : Params) : BT := .node (boot_o_9 P) (t395 P) (t402 P)
def t404 (P : Params) : BT := .node (o170 P) .nil .nil
def t405 (P : Params) : BT := .node (o103 P) (t404 P) .nil
def t406 (P : Params) : BT := .node (o31 P) (t279 P) (t405 P)
def t407 (P : Params) : BT := .node (o154 P) .nil .nil
def t408 (P : Params) : BT := .node (o84 P) (t407 P) .nil
def t409 (P : Params) : BT := .node (o49 P) (t408 P) (t282 P)
def t410 (P : Params) : BT := .node (o12 P) (t406 P) (t409 P)
def t411 (P : Params) : BT := .node (o146 P) .nil .nil
def t412 (P : Params) : BT := .node (o76 P) (t411 P) .nil
def t413 (P : Params) : BT := .node (o178 P) .nil .nil
def t414 (P : Params) : BT := .node (o111 P) (t413 P) .nil
def t415 (P : Params) : BT := .node (o39 P) (t412 P) (t414 P)
def t416 (P : Params) : BT := .node (o162 P) .nil .nil
def t417 (P : Params) : BT := .node (o92 P) (t416 P) .nil
def t418 (P : Params) : BT := .node (o60 P) (t417 P) (t287 P)
def t419 (P : Params) : BT := .node (o20 P) (t415 P) (t418 P)
def t420 (P : Params) : BT := .node (o2 P) (t410 P) (t419 P)
def t421 (P : Params) : BT := .node (boot_o_5 P) (t403 P) (t420 P)
def t422 (P : Params) : BT := .node (boot_o_1 P) (t386 P) (t421 P)
def t423 (P : Params) : BT := .node (o165 P) .nil .nil
def t424 (P : Params) : BT := .node (o95 P) (t423 P) .nil
def t425 (P : Params) : BT := .node (o23 P) (t294 P) (t424 P)
def t426 (P : Params) : BT := .node (o149 P) .nil .nil
def t427 (P : Params) : BT := .node (o79 P) (t426 P) .nil
def t428 (P : Params) : BT := .node (o181 P) .nil .nil
def t429 (P : Params) : BT := .node (o114 P) (t428 P) .nil
def t430 (P : Params) : BT := .node (o44 P) (t427 P) (t429 P)
def t431 (P : Params) : BT := .node (o7 P) (t425 P) (t430 P)
def t432 (P : Params) : BT := .node (o173 P) .nil .nil
def t433 (P : Params) : BT := .node (o106 P) (t432 P) .nil
def t434 (P : Params) : BT := .node (o34 P) (t300 P) (t433 P)
def t435 (P : Params) : BT := .node (o157 P) .nil .nil
def t436 (P : Params) : BT := .node (o87 P) (t435 P) .nil
def t437 (P : Params) : BT := .node (o145 P) (t436 P) (t303 P)
def t438 (P : Params) : BT := .node (o15 P) (t434 P) (t437 P)
def t439 (P : Params) : BT := .node (boot_o_8 P) (t431 P) (t438 P)
def t440 (P : Params) : BT := .node (o169 P) .nil .nil
def t441 (P : Params) : BT := .node (o99 P) (t440 P) .nil
def t442 (P : Params) : BT := .node (o30 P) (t308 P) (t441 P)
def t443 (P : Params) : BT := .node (o153 P) .nil .nil
def t444 (P : Params) : BT := .node (o83 P) (t443 P) .nil
def t445 (P : Params) : BT := .node (o185 P) .nil .nil
def t446 (P : Params) : BT := .node (o118 P) (t445 P) .nil
def t447 (P : Params) : BT := .node (o48 P) (t444 P) (t446 P)
def t448 (P : Params) : BT := .node (o11 P) (t442 P) (t447 P)
def t449 (P : Params) : BT := .node (o177 P) .nil .nil
def t450 (P : Params) : BT := .node (o110 P) (t449 P) .nil
def t451 (P : Params) : BT := .node (o38 P) (t314 P) (t450 P)
def t452 (P : Params) : BT := .node (o161 P) .nil .nil
def t453 (P : Params) : BT := .node (o91 P) (t452 P) .nil
def t454 (P : Params) : BT := .node (o56 P) (t453 P) (t317 P)
def t455 (P : Params) : BT := .node (o19 P) (t451 P) (t454 P)
def t456 (P : Params) : BT := .node (o144 P) (t448 P) (t455 P)
def t457 (P : Params) : BT := .node (boot_o_4 P) (t439 P) (t456 P)
def t458 (P : Params) : BT := .node (o167 P) .nil .nil
def t459 (P : Params) : BT := .node (o97 P) (t458 P) .nil
def t460 (P : Params) : BT := .node (o25 P) (t323 P) (t459 P)
def t461 (P : Params) : BT := .node (o151 P) .nil .nil
def t462 (P : Params) : BT := .node (o81 P) (t461 P) .nil
def t463 (P : Params) : BT := .node (o183 P) .nil .nil
def t464 (P : Params) : BT := .node (o116 P) (t463 P) .nil
def t465 (P : Params) : BT := .node (o46 P) (t462 P) (t464 P)
def t466 (P : Params) : BT := .node (o9 P) (t460 P) (t465 P)
def t467 (P : Params) : BT := .node (o175 P) .nil .nil
def t468 (P : Params) : BT := .node (o108 P) (t467 P) .nil
def t469 (P : Params) : BT := .node (o36 P) (t329 P) (t468 P)
def t470 (P : Params) : BT := .node (o159 P) .nil .nil
def t471 (P : Params) : BT := .node (o89 P) (t470 P) .nil
def t472 (P : Params) : BT := .node (o54 P) (t471 P) (t332 P)
def t473 (P : Params) : BT := .node (o17 P) (t469 P) (t472 P)
def t474 (P : Params) : BT := .node (boot_o_10 P) (t466 P) (t473 P)
def t475 (P : Params) : BT := .node (o171 P) .nil .nil
def t476 (P : Params) : BT := .node (o104 P) (t475 P) .nil
def t477 (P : Params) : BT := .node (o32 P) (t337 P) (t476 P)
def t478 (P : Params) : BT := .node (o155 P) .nil .nil
def t479 (P : Params) : BT := .node (o85 P) (t478 P) .nil
def t480 (P : Params) : BT := .node (o50 P) (t479 P) (t340 P)
def t481 (P : Params) : BT := .node (o13 P) (t477 P) (t480 P)
def t482 (P : Params) : BT := .node (o147 P) .nil .nil
def t483 (P : Params) : BT := .node (o77 P) (t482 P) .nil
def t484 (P : Params) : BT := .node (o179 P) .nil .nil
def t485 (P : Params) : BT := .node (o112 P) (t484 P) .nil
def t486 (P : Params) : BT := .node (o40 P) (t483 P) (t485 P)
def t487 (P : Params) : BT := .node (o163 P) .nil .nil
def t488 (P : Params) : BT := .node (o93 P) (t487 P) .nil
def t489 (P : Params) : BT := .node (o61 P) (t488 P) (t345 P)
def t490 (P : Params) : BT := .node (o21 P) (t486 P) (t489 P)
def t491 (P : Params) : BT := .node (o3 P) (t481 P) (t490 P)
def t492 (P : Params) : BT := .node (boot_o_6 P) (t474 P) (t491 P)
def t493 (P : Params) : BT := .node (boot_o_2 P) (t457 P) (t492 P)
def t494 (P : Params) : BT := .node (boot_o_0 P) (t422 P) (t493 P)
def sb6 (w : World) (os : OsState) : SharedT := ⟨(t494 w.params), 181, (Life.mk [] [] [] 0 [] [] Bool.false #[] [] 0 Bool.false Bool.false Bool.false (0 : Int) [(2000 : Int), (10 : Int), (10 : Int)] Bool.false 0 Bool.true [] [] 0 Bool.false), ⟨[]⟩, (Drawn.mk 0 0 0 0), 399, os⟩
def L5 (w : World) (os : OsState) : Option (Flow × SharedT × Code × Pos) := segRunT treeTable PySem.Challenge.pw_beatless_k08_whole_programs_let_by w 11 an 1 346 (sb5 w os) (piecesOf sts5 env cE (Pos.mk 25 0 37 26) B)
def R5 (w : World) (os : OsState) : Option (Flow × SharedT × Code × Pos) := some (.next, sb6 w os, cE, (Pos.mk 38 0 60 66))
theorem q5 : tt (Hd.L5, Hd.R5) = true := by k_qdec
theorem r5 : ∀ w, PySem.W.Fast.tw7289443652863241282 w = PySem.W.Fast.tw2540258914238199871 w := fun w => by kernel_rfl
theorem e5 (w : World) (os : OsState) : Hd.L5 w os = Hd.R5 w os :=
  (congrFun (congrFun PySem.W.Fast.te7289443652863241282 w) os).trans ((congrFun (r5 w) os).trans (congrFun (congrFun PySem.W.Fast.te2540258914238199871 w) os).symm)
def sts6 : List Stmt := [S 9]
def o186 (P : Params) : Obj := (Obj.mk (.type "dict") (Option.none) (Data.dict #[en P "__name__" 165 (.str "beatless.exprs" 230), en P "__doc__" 166 .none, en P "__package__" 167 .none, en P "__loader__" 168 (.builtin "__main__.__loader__#opaque"), en P "__spec__" 169 .none, en P "__annotations__" 170 (.ref 6), en P "__builtins__" 171 (.ref 4), en P "__file__" 173 (.str "/claim/cut.py" 172), en P "__cached__" 174 .none, en P "_wall" 193 (.ref 21), en P "BeatlessError" 213 (.ref 31), en P "NoProgram" 229 (.ref 44), en P "Expr" 251 (.ref 56), en P "Num" 298 (.ref 98), en P "Name" 345 (.ref 138), en P "Two" 398 (.ref 178), en P "Mod" 447 (.ref 218)] 17) #[])
def o187 (P : Params) : Obj := (Obj.mk .none (Option.none) (Data.fields #[(.int (1 : Int) 0), (.int (0 : Int) 0), (.ref 20), (.int (5 : Int) 0), (.int (0 : Int) 0), (.ref 27), (.int (7 : Int) 0), (.int (0 : Int) 0), (.ref 40), (.int (10 : Int) 0), (.int (0 : Int) 0), (.ref 52), (.int (12 : Int) 0), (.int (0 : Int) 0), (.ref 66), (.int (25 : Int) 0), (.int (0 : Int) 0), (.ref 106), (.int (38 : Int) 0), (.int (0 : Int) 0), (.ref 146), (.int (61 : Int) 0), (.int (0 : Int) 0), (.ref 186)]) #[])
def o188 (P : Params) : Obj := (Obj.mk (.type "type") (Option.none) (Data.cls (ClassData.mk "Expr" [(.type "object")] [(.ref 56), (.type "object")] 55 "Expr" Bool.true [] [(.ref 98), (.ref 138), (.ref 178), (.ref 218)] Bool.false (Option.none) Bool.false)) #[(Option.none), (Option.none), (Option.some (.str "Expr" 232)), (Option.some (.str "Expr" 240)), (Option.some (.builtin "object.__new__")), (Option.some (.bool Bool.true))])
def o189 (P : Params) : Obj := (Obj.mk (.type "tuple") (Option.none) (Data.seq #[(.ref 56)] 0) #[])
def o190 (P : Params) : Obj := (Obj.mk (.type "builtin_function_or_method") (Option.none) (Data.fields #[(.builtin "type.__prepare__"), (.type "type")]) #[])
def o191 (P : Params) : Obj := (Obj.mk (.type "dict") (Option.none) (Data.dict #[en P "__module__" 406 (.str "beatless.exprs" 230), en P "__qualname__" 408 (.str "Mod" 407), en P "__firstlineno__" 410 (.int (61 : Int) 409), en P "__init__" 419 (.ref 194), en P "reckon" 427 (.ref 201), en P "told" 434 (.ref 208), en P "words" 441 (.ref 215), en P "__static_attributes__" 444 (.ref 216)] 8) #[])
def o192 (P : Params) : Obj := (Obj.mk (.type "tuple") (Option.none) (Data.seq #[] 0) #[])
def o193 (P : Params) : Obj := (Obj.mk .none (Option.none) (Data.fields #[(.int (63 : Int) 0), (.int (4 : Int) 0), (.ref 193), (.int (67 : Int) 0), (.int (4 : Int) 0), (.ref 200), (.int (70 : Int) 0), (.int (4 : Int) 0), (.ref 207), (.int (73 : Int) 0), (.int (4 : Int) 0), (.ref 214)]) #[])
def o194 (P : Params) : Obj := (Obj.mk (.type "code") (Option.none) (Data.fields #[(.str "Mod" 401), (.str "Mod" 402), (.str "/claim/cut.py" 403), (.int (61 : Int) 0), (.int (0 : Int) 0), (.int (0 : Int) 0), (.int (0 : Int) 0), (.int (0 : Int) 0), (.ref 184), (.bool Bool.false), (.int (181 : Int) 0), (.ref 185), .none, .none, .none, .none, (.int (404 : Int) 0), (.int (61 : Int) 0), (.str "/claim/cut.py" 405)]) #[])
def o195 (P : Params) : Obj := (Obj.mk (.type "frame") (Option.none) Data.plain #[(Option.some (.ref 186)), (Option.some (.ref 3)), (Option.some (.ref 183)), (Option.none), (Option.some (.str "beatless.exprs" 230)), (Option.none), (Option.some (.ref 0))])
def o196 (P : Params) : Obj := (Obj.mk (.type "tuple") (Option.none) (Data.seq #[] 0) #[])
def o197 (P : Params) : Obj := (Obj.mk .none (Option.none) (Data.fields #[]) #[])
def o198 (P : Params) : Obj := (Obj.mk (.type "tuple") (Option.none) (Data.seq #[(.str "self" 414), (.str "inner" 415), (.str "number" 416)] 0) #[])
def o199 (P : Params) : Obj := (Obj.mk (.type "tuple") (Option.none) (Data.seq #[] 0) #[])
def o200 (P : Params) : Obj := (Obj.mk .none (Option.none) (Data.func (fd "__init__" "Mod.__init__" (L2.inClass (S 9) 0) 0 [] .none .none .none .none (Option.none) .none .none 0)) #[])
def o201 (P : Params) : Obj := (Obj.mk (.type "code") (Option.none) (Data.fields #[(.str "__init__" 411), (.str "Mod.__init__" 412), (.str "/claim/cut.py" 413), (.int (63 : Int) 0), (.int (3 : Int) 0), (.int (0 : Int) 0), (.int (0 : Int) 0), (.int (3 : Int) 0), (.ref 188), (.bool Bool.true), (.int (181 : Int) 0), (.ref 189), .none, (.ref 190), (.ref 191), (.ref 192), (.int (417 : Int) 0), (.int (63 : Int) 0), (.str "/claim/cut.py" 418)]) #[])
def o202 (P : Params) : Obj := (Obj.mk (.type "function") (Option.none) (Data.func (fd "__init__" "Mod.__init__" (L2.inClass (S 9) 0) 3 [] .none .none .none (.str "beatless.exprs" 230) (Option.none) (.ref 193) .none 0)) #[])
def o203 (P : Params) : Obj := (Obj.mk (.type "tuple") (Option.none) (Data.seq #[] 0) #[])
def o204 (P : Params) : Obj := (Obj.mk .none (Option.none) (Data.fields #[]) #[])
def o205 (P : Params) : Obj := (Obj.mk (.type "tuple") (Option.none) (Data.seq #[(.str "self" 423), (.str "worths" 424)] 0) #[])
def o206 (P : Params) : Obj := (Obj.mk (.type "tuple") (Option.none) (Data.seq #[] 0) #[])
def o207 (P : Params) : Obj := (Obj.mk .none (Option.none) (Data.func (fd "reckon" "Mod.reckon" (L2.inClass (S 9) 1) 0 [] .none .none .none .none (Option.none) .none .none 0)) #[])
def o208 (P : Params) : Obj := (Obj.mk (.type "code") (Option.none) (Data.fields #[(.str "reckon" 420), (.str "Mod.reckon" 421), (.str "/claim/cut.py" 422), (.int (67 : Int) 0), (.int (2 : Int) 0), (.int (0 : Int) 0), (.int (0 : Int) 0), (.int (3 : Int) 0), (.ref 195), (.bool Bool.true), (.int (181 : Int) 0), (.ref 196), .none, (.ref 197), (.ref 198), (.ref 199), (.int (425 : Int) 0), (.int (67 : Int) 0), (.str "/claim/cut.py" 426)]) #[])
def o209 (P : Params) : Obj := (Obj.mk (.type "function") (Option.none) (Data.func (fd "reckon" "Mod.reckon" (L2.inClass (S 9) 1) 3 [] .none .none .none (.str "beatless.exprs" 230) (Option.none) (.ref 200) .none 0)) #[])
def o210 (P : Params) : Obj := (Obj.mk (.type "tuple") (Option.none) (Data.seq #[] 0) #[])
def o211 (P : Params) : Obj := (Obj.mk .none (Option.none) (Data.fields #[]) #[])
def o212 (P : Params) : Obj := (Obj.mk (.type "tuple") (Option.none) (Data.seq #[(.str "self" 431)] 0) #[])
def o213 (P : Params) : Obj := (Obj.mk (.type "tuple") (Option.none) (Data.seq #[] 0) #[])
def o214 (P : Params) : Obj := (Obj.mk .none (Option.none) (Data.func (fd "told" "Mod.told" (L2.inClass (S 9) 2) 0 [] .none .none .none .none (Option.none) .none .none 0)) #[])
def o215 (P : Params) : Obj := (Obj.mk (.type "code") (Option.none) (Data.fields #[(.str "told" 428), (.str "Mod.told" 429), (.str "/claim/cut.py" 430), (.int (70 : Int) 0), (.int (1 : Int) 0), (.int (0 : Int) 0), (.int (0 : Int) 0), (.int (3 : Int) 0), (.ref 202), (.bool Bool.true), (.int (181 : Int) 0), (.ref 203), .none, (.ref 204), (.ref 205), (.ref 206), (.int (432 : Int) 0), (.int (70 : Int) 0), (.str "/claim/cut.py" 433)]) #[])
def o216 (P : Params) : Obj := (Obj.mk (.type "function") (Option.none) (Data.func (fd "told" "Mod.told" (L2.inClass (S 9) 2) 3 [] .none .none .none (.str "beatless.exprs" 230) (Option.none) (.ref 207) .none 0)) #[])
def o217 (P : Params) : Obj := (Obj.mk (.type "tuple") (Option.none) (Data.seq #[] 0) #[])
def o218 (P : Params) : Obj := (Obj.mk .none (Option.none) (Data.fields #[]) #[])
def o219 (P : Params) : Obj := (Obj.mk (.type "tuple") (Option.none) (Data.seq #[(.str "self" 438)] 0) #[])
def o220 (P : Params) : Obj := (Obj.mk (.type "tuple") (Option.none) (Data.seq #[] 0) #[])
def o221 (P : Params) : Obj := (Obj.mk .none (Option.none) (Data.func (fd "words" "Mod.words" (L2.inClass (S 9) 3) 0 [] .none .none .none .none (Option.none) .none .none 0)) #[])
def o222 (P : Params) : Obj := (Obj.mk (.type "code") (Option.none) (Data.fields #[(.str "words" 435), (.str "Mod.words" 436), (.str "/claim/cut.py" 437), (.int (73 : Int) 0), (.int (1 : Int) 0), (.int (0 : Int) 0), (.int (0 : Int) 0), (.int (3 : Int) 0), (.ref 209), (.bool Bool.true), (.int (181 : Int) 0), (.ref 210), .none, (.ref 211), (.ref 212), (.ref 213), (.int (439 : Int) 0), (.int (73 : Int) 0), (.str "/claim/cut.py" 440)]) #[])
def o223 (P : Params) : Obj := (Obj.mk (.type "function") (Option.none) (Data.func (fd "words" "Mod.words" (L2.inClass (S 9) 3) 3 [] .none .none .none (.str "beatless.exprs" 230) (Option.none) (.ref 214) .none 0)) #[])
def o224 (P : Params) : Obj := (Obj.mk (.type "tuple") (Option.none) (Data.seq #[(.str "inner" 442), (.str "number" 443)] 0) #[])
def o225 (P : Params) : Obj := (Obj.mk (.type "dict") (Option.none) (Data.dict #[en P "__module__" 406 (.str "beatless.exprs" 230), en P "__firstlineno__" 410 (.int (61 : Int) 409), en P "__init__" 419 (.ref 194), en P "reckon" 427 (.ref 201), en P "told" 434 (.ref 208), en P "words" 441 (.ref 215), en P "__static_attributes__" 444 (.ref 216), en P "__doc__" 445 .none] 2) #[])
def o226 (P : Params) : Obj := (Obj.mk (.type "type") (Option.none) (Data.cls (ClassData.mk "Mod" [(.ref 56)] [(.ref 218), (.ref 56), (.type "object")] 217 "Mod" Bool.true [] [] Bool.false (Option.none) Bool.false)) #[(Option.some (.ref 181)), (Option.none), (Option.some (.str "Mod" 399)), (Option.some (.str "Mod" 407)), (Option.some (.builtin "object.__new__")), (Option.some (.bool Bool.true))])
def o227 (P : Params) : Obj := (Obj.mk (.type "super") (Option.none) (Data.fields #[(.ref 218), (.ref 218), (.ref 218)]) #[])
def o228 (P : Params) : Obj := (Obj.mk (.type "builtin_function_or_method") (Option.none) (Data.fields #[(.builtin "object.__init_subclass__"), (.ref 218)]) #[])
def t495 (P : Params) : BT := .node (o199 P) .nil .nil
def t496 (P : Params) : BT := .node (o62 P) (t235 P) (t495 P)
def t497 (P : Params) : BT := .node (o28 P) (t496 P) (t353 P)
def t498 (P : Params) : BT := .node (o215 P) .nil .nil
def t499 (P : Params) : BT := .node (o78 P) (t355 P) (t498 P)
def t500 (P : Params) : BT := .node (o43 P) (t499 P) (t358 P)
def t501 (P : Params) : BT := .node (o6 P) (t497 P) (t500 P)
def t502 (P : Params) : BT := .node (o207 P) .nil .nil
def t503 (P : Params) : BT := .node (o70 P) (t241 P) (t502 P)
def t504 (P : Params) : BT := .node (o33 P) (t503 P) (t362 P)
def t505 (P : Params) : BT := .node (o223 P) .nil .nil
def t506 (P : Params) : BT := .node (o86 P) (t364 P) (t505 P)
def t507 (P : Params) : BT := .node (o191 P) .nil .nil
def t508 (P : Params) : BT := .node (o121 P) (t507 P) .nil
def t509 (P : Params) : BT := .node (o51 P) (t506 P) (t508 P)
def t510 (P : Params) : BT := .node (o14 P) (t504 P) (t509 P)
def t511 (P : Params) : BT := .node (boot_o_7 P) (t501 P) (t510 P)
def t512 (P : Params) : BT := .node (o203 P) .nil .nil
def t513 (P : Params) : BT := .node (o66 P) (t249 P) (t512 P)
def t514 (P : Params) : BT := .node (o29 P) (t513 P) (t370 P)
def t515 (P : Params) : BT := .node (o219 P) .nil .nil
def t516 (P : Params) : BT := .node (o82 P) (t372 P) (t515 P)
def t517 (P : Params) : BT := .node (o47 P) (t516 P) (t375 P)
def t518 (P : Params) : BT := .node (o10 P) (t514 P) (t517 P)
def t519 (P : Params) : BT := .node (o211 P) .nil .nil
def t520 (P : Params) : BT := .node (o74 P) (t255 P) (t519 P)
def t521 (P : Params) : BT := .node (o37 P) (t520 P) (t379 P)
def t522 (P : Params) : BT := .node (o227 P) .nil .nil
def t523 (P : Params) : BT := .node (o90 P) (t381 P) (t522 P)
def t524 (P : Params) : BT := .node (o195 P) .nil .nil
def t525 (P : Params) : BT := .node (o125 P) (t524 P) .nil
def t526 (P : Params) : BT := .node (o55 P) (t523 P) (t525 P)
def t527 (P : Params) : BT := .node (o18 P) (t521 P) (t526 P)
def t528 (P : Params) : BT := .node (o0 P) (t518 P) (t527 P)
def t529 (P : Params) : BT := .node (o186 P) (t511 P) (t528 P)
def t530 (P : Params) : BT := .node (o201 P) .nil .nil
def t531 (P : Params) : BT := .node (o64 P) (t264 P) (t530 P)
def t532 (P : Params) : BT := .node (o24 P) (t531 P) (t388 P)
def t533 (P : Params) : BT := .node (o217 P) .nil .nil
def t534 (P : Params) : BT := .node (o80 P) (t390 P) (t533 P)
def t535 (P : Params) : BT := .node (o45 P) (t534 P) (t393 P)
def t536 (P : Params) : BT := .node (o8 P) (t532 P) (t535 P)
def t537 (P : Params) : BT := .node (o209 P) .nil .nil
def t538 (P : Params) : BT := .node (o72 P) (t270 P) (t537 P)
def t539 (P : Params) : BT := .node (o35 P) (t538 P) (t397 P)
def t540 (P : Params) : BT := .node (o225 P) .nil .nil
def t541 (P : Params) : BT := .node (o88 P) (t399 P) (t540 P)
def t542 (P : Params) : BT := .node (o193 P) .nil .nil
def t543 (P : Params) : BT := .node (o123 P) (t542 P) .nil
def t544 (P : Params) : BT := .node (o53 P) (t541 P) (t543 P)
def t545 (P : Params) : BT := .node (o16 P) (t539 P) (t544 P)
def t546 (P : Params) : BT := .node (boot_o_9 P) (t536 P) (t545 P)
def t547 (P : Params) : BT := .node (o205 P) .nil .nil
def t548 (P : Params) : BT := .node (o68 P) (t278 P) (t547 P)
def t549 (P : Params) : BT := .node (o31 P) (t548 P) (t405 P)
def t550 (P : Params) : BT := .node (o221 P) .nil .nil
def t551 (P : Params) : BT := .node (o84 P) (t407 P) (t550 P)
def t552 (P : Params) : BT := .node (o189 P) .nil .nil
def t553 (P : Params) : BT := .node (o119 P) (t552 P) .nil
def t554 (P : Params) : BT := .node (o49 P) (t551 P) (t553 P)
def t555 (P : Params) : BT := .node (o12 P) (t549 P) (t554 P)
def t556 (P : Params) : BT := .node (o213 P) .nil .nil
def t557 (P : Params) : BT := .node (o76 P) (t411 P) (t556 P)
def t558 (P : Params) : BT := .node (o39 P) (t557 P) (t414 P)
def t559 (P : Params) : BT := .node (o197 P) .nil .nil
def t560 (P : Params) : BT := .node (o127 P) (t559 P) .nil
def t561 (P : Params) : BT := .node (o60 P) (t417 P) (t560 P)
def t562 (P : Params) : BT := .node (o20 P) (t558 P) (t561 P)
def t563 (P : Params) : BT := .node (o2 P) (t555 P) (t562 P)
def t564 (P : Params) : BT := .node (boot_o_5 P) (t546 P) (t563 P)
def t565 (P : Params) : BT := .node (boot_o_1 P) (t529 P) (t564 P)
def t566 (P : Params) : BT := .node (o200 P) .nil .nil
def t567 (P : Params) : BT := .node (o63 P) (t293 P) (t566 P)
def t568 (P : Params) : BT := .node (o23 P) (t567 P) (t424 P)
def t569 (P : Params) : BT := .node (o216 P) .nil .nil
def t570 (P : Params) : BT := .node (o79 P) (t426 P) (t569 P)
def t571 (P : Params) : BT := .node (o44 P) (t570 P) (t429 P)
def t572 (P : Params) : BT := .node (o7 P) (t568 P) (t571 P)
def t573 (P : Params) : BT := .node (o208 P) .nil .nil
def t574 (P : Params) : BT := .node (o71 P) (t299 P) (t573 P)
def t575 (P : Params) : BT := .node (o34 P) (t574 P) (t433 P)
def t576 (P : Params) : BT := .node (o224 P) .nil .nil
def t577 (P : Params) : BT := .node (o87 P) (t435 P) (t576 P)
def t578 (P : Params) : BT := .node (o192 P) .nil .nil
def t579 (P : Params) : BT := .node (o122 P) (t578 P) .nil
def t580 (P : Params) : BT := .node (o188 P) (t577 P) (t579 P)
def t581 (P : Params) : BT := .node (o15 P) (t575 P) (t580 P)
def t582 (P : Params) : BT := .node (boot_o_8 P) (t572 P) (t581 P)
def t583 (P : Params) : BT := .node (o204 P) .nil .nil
def t584 (P : Params) : BT := .node (o67 P) (t307 P) (t583 P)
def t585 (P : Params) : BT := .node (o30 P) (t584 P) (t441 P)
def t586 (P : Params) : BT := .node (o220 P) .nil .nil
def t587 (P : Params) : BT := .node (o83 P) (t443 P) (t586 P)
def t588 (P : Params) : BT := .node (o48 P) (t587 P) (t446 P)
def t589 (P : Params) : BT := .node (o11 P) (t585 P) (t588 P)
def t590 (P : Params) : BT := .node (o212 P) .nil .nil
def t591 (P : Params) : BT := .node (o75 P) (t313 P) (t590 P)
def t592 (P : Params) : BT := .node (o38 P) (t591 P) (t450 P)
def t593 (P : Params) : BT := .node (o228 P) .nil .nil
def t594 (P : Params) : BT := .node (o91 P) (t452 P) (t593 P)
def t595 (P : Params) : BT := .node (o196 P) .nil .nil
def t596 (P : Params) : BT := .node (o126 P) (t595 P) .nil
def t597 (P : Params) : BT := .node (o56 P) (t594 P) (t596 P)
def t598 (P : Params) : BT := .node (o19 P) (t592 P) (t597 P)
def t599 (P : Params) : BT := .node (o187 P) (t589 P) (t598 P)
def t600 (P : Params) : BT := .node (boot_o_4 P) (t582 P) (t599 P)
def t601 (P : Params) : BT := .node (o202 P) .nil .nil
def t602 (P : Params) : BT := .node (o65 P) (t322 P) (t601 P)
def t603 (P : Params) : BT := .node (o25 P) (t602 P) (t459 P)
def t604 (P : Params) : BT := .node (o218 P) .nil .nil
def t605 (P : Params) : BT := .node (o81 P) (t461 P) (t604 P)
def t606 (P : Params) : BT := .node (o46 P) (t605 P) (t464 P)
def t607 (P : Params) : BT := .node (o9 P) (t603 P) (t606 P)
def t608 (P : Params) : BT := .node (o210 P) .nil .nil
def t609 (P : Params) : BT := .node (o73 P) (t328 P) (t608 P)
def t610 (P : Params) : BT := .node (o36 P) (t609 P) (t468 P)
def t611 (P : Params) : BT := .node (o226 P) .nil .nil
def t612 (P : Params) : BT := .node (o89 P) (t470 P) (t611 P)
def t613 (P : Params) : BT := .node (o194 P) .nil .nil
def t614 (P : Params) : BT := .node (o124 P) (t613 P) .nil
def t615 (P : Params) : BT := .node (o54 P) (t612 P) (t614 P)
def t616 (P : Params) : BT := .node (o17 P) (t610 P) (t615 P)
def t617 (P : Params) : BT := .node (boot_o_10 P) (t607 P) (t616 P)
def t618 (P : Params) : BT := .node (o206 P) .nil .nil
def t619 (P : Params) : BT := .node (o69 P) (t336 P) (t618 P)
def t620 (P : Params) : BT := .node (o32 P) (t619 P) (t476 P)
def t621 (P : Params) : BT := .node (o222 P) .nil .nil
def t622 (P : Params) : BT := .node (o85 P) (t478 P) (t621 P)
def t623 (P : Params) : BT := .node (o190 P) .nil .nil
def t624 (P : Params) : BT := .node (o120 P) (t623 P) .nil
def t625 (P : Params) : BT := .node (o50 P) (t622 P) (t624 P)
def t626 (P : Params) : BT := .node (o13 P) (t620 P) (t625 P)
def t627 (P : Params) : BT := .node (o214 P) .nil .nil
def t628 (P : Params) : BT := .node (o77 P) (t482 P) (t627 P)
def t629 (P : Params) : BT := .node (o40 P) (t628 P) (t485 P)
def t630 (P : Params) : BT := .node (o198 P) .nil .nil
def t631 (P : Params) : BT := .node (o128 P) (t630 P) .nil
def t632 (P : Params) : BT := .node (o61 P) (t488 P) (t631 P)
def t633 (P : Params) : BT := .node (o21 P) (t629 P) (t632 P)
def t634 (P : Params) : BT := .node (o3 P) (t626 P) (t633 P)
def t635 (P : Params) : BT := .node (boot_o_6 P) (t617 P) (t634 P)
def t636 (P : Params) : BT := .node (boot_o_2 P) (t600 P) (t635 P)
def t637 (P : Params) : BT := .node (boot_o_0 P) (t565 P) (t636 P)
def sb7 (w : World) (os : OsState) : SharedT := ⟨(t637 w.params), 221, (Life.mk [] [] [] 0 [] [] Bool.false #[] [] 0 Bool.false Bool.false Bool.false (0 : Int) [(2000 : Int), (10 : Int), (10 : Int)] Bool.false 0 Bool.true [] [] 0 Bool.false), ⟨[]⟩, (Drawn.mk 0 0 0 0), 448, os⟩
def L6 (w : World) (os : OsState) : Option (Flow × SharedT × Code × Pos) := segRunT treeTable PySem.Challenge.pw_beatless_k08_whole_programs_let_by w 11 an 1 342 (sb6 w os) (piecesOf sts6 env cE (Pos.mk 38 0 60 66) B)
def R6 (w : World) (os : OsState) : Option (Flow × SharedT × Code × Pos) := some (.next, sb7 w os, cE, (Pos.mk 61 0 74 64))
theorem q6 : tt (Hd.L6, Hd.R6) = true := by k_qdec
theorem r6 : ∀ w, PySem.W.Fast.tw11518265509499319272 w = PySem.W.Fast.tw3345738777826418175 w := fun w => by kernel_rfl
theorem e6 (w : World) (os : OsState) : Hd.L6 w os = Hd.R6 w os :=
  (congrFun (congrFun PySem.W.Fast.te11518265509499319272 w) os).trans ((congrFun (r6 w) os).trans (congrFun (congrFun PySem.W.Fast.te3345738777826418175 w) os).symm)
def sts7 : List Stmt := [S 10, S 11, S 12, S 13]
def o229 (P : Params) : Obj := (Obj.mk (.type "dict") (Option.none) (Data.dict #[en P "__name__" 165 (.str "beatless.programs" 510), en P "__doc__" 166 .none, en P "__package__" 167 .none, en P "__loader__" 168 (.builtin "__main__.__loader__#opaque"), en P "__spec__" 169 .none, en P "__annotations__" 170 (.ref 6), en P "__builtins__" 171 (.ref 4), en P "__file__" 173 (.str "/claim/cut.py" 172), en P "__cached__" 174 .none, en P "_wall" 193 (.ref 21), en P "BeatlessError" 213 (.ref 31), en P "NoProgram" 229 (.ref 44), en P "Expr" 251 (.ref 56), en P "Num" 298 (.ref 98), en P "Name" 345 (.ref 138), en P "Two" 398 (.ref 178), en P "Mod" 447 (.ref 218), en P "Less" 500 (.ref 258), en P "is_whole" 509 (.ref 267)] 19) #[])
def o230 (P : Params) : Obj := (Obj.mk .none (Option.none) (Data.fields #[(.int (1 : Int) 0), (.int (0 : Int) 0), (.ref 20), (.int (5 : Int) 0), (.int (0 : Int) 0), (.ref 27), (.int (7 : Int) 0), (.int (0 : Int) 0), (.ref 40), (.int (10 : Int) 0), (.int (0 : Int) 0), (.ref 52), (.int (12 : Int) 0), (.int (0 : Int) 0), (.ref 66), (.int (25 : Int) 0), (.int (0 : Int) 0), (.ref 106), (.int (38 : Int) 0), (.int (0 : Int) 0), (.ref 146), (.int (61 : Int) 0), (.int (0 : Int) 0), (.ref 186), (.int (75 : Int) 0), (.int (0 : Int) 0), (.ref 226), (.int (94 : Int) 0), (.int (0 : Int) 0), (.ref 266)]) #[])
def o231 (P : Params) : Obj := (Obj.mk (.type "type") (Option.none) (Data.cls (ClassData.mk "Expr" [(.type "object")] [(.ref 56), (.type "object")] 55 "Expr" Bool.true [] [(.ref 98), (.ref 138), (.ref 178), (.ref 218), (.ref 258)] Bool.false (Option.none) Bool.false)) #[(Option.none), (Option.none), (Option.some (.str "Expr" 232)), (Option.some (.str "Expr" 240)), (Option.some (.builtin "object.__new__")), (Option.some (.bool Bool.true))])
def o232 (P : Params) : Obj := (Obj.mk (.type "tuple") (Option.none) (Data.seq #[(.ref 56)] 0) #[])
def o233 (P : Params) : Obj := (Obj.mk (.type "builtin_function_or_method") (Option.none) (Data.fields #[(.builtin "type.__prepare__"), (.type "type")]) #[])
def o234 (P : Params) : Obj := (Obj.mk (.type "dict") (Option.none) (Data.dict #[en P "__module__" 455 (.str "beatless.exprs" 230), en P "__qualname__" 457 (.str "Less" 456), en P "__firstlineno__" 459 (.int (75 : Int) 458), en P "__init__" 470 (.ref 234), en P "reckon" 478 (.ref 241), en P "told" 485 (.ref 248), en P "words" 492 (.ref 255), en P "__static_attributes__" 497 (.ref 256)] 8) #[])
def o235 (P : Params) : Obj := (Obj.mk (.type "tuple") (Option.none) (Data.seq #[] 0) #[])
def o236 (P : Params) : Obj := (Obj.mk .none (Option.none) (Data.fields #[(.int (77 : Int) 0), (.int (4 : Int) 0), (.ref 233), (.int (83 : Int) 0), (.int (4 : Int) 0), (.ref 240), (.int (88 : Int) 0), (.int (4 : Int) 0), (.ref 247), (.int (91 : Int) 0), (.int (4 : Int) 0), (.ref 254)]) #[])
def o237 (P : Params) : Obj := (Obj.mk (.type "code") (Option.none) (Data.fields #[(.str "Less" 450), (.str "Less" 451), (.str "/claim/cut.py" 452), (.int (75 : Int) 0), (.int (0 : Int) 0), (.int (0 : Int) 0), (.int (0 : Int) 0), (.int (0 : Int) 0), (.ref 224), (.bool Bool.false), (.int (181 : Int) 0), (.ref 225), .none, .none, .none, .none, (.int (453 : Int) 0), (.int (75 : Int) 0), (.str "/claim/cut.py" 454)]) #[])
def o238 (P : Params) : Obj := (Obj.mk (.type "frame") (Option.none) Data.plain #[(Option.some (.ref 226)), (Option.some (.ref 3)), (Option.some (.ref 223)), (Option.none), (Option.some (.str "beatless.exprs" 230)), (Option.none), (Option.some (.ref 0))])
def o239 (P : Params) : Obj := (Obj.mk (.type "tuple") (Option.none) (Data.seq #[] 0) #[])
def o240 (P : Params) : Obj := (Obj.mk .none (Option.none) (Data.fields #[]) #[])
def o241 (P : Params) : Obj := (Obj.mk (.type "tuple") (Option.none) (Data.seq #[(.str "self" 463), (.str "one" 464), (.str "other" 465), (.str "third" 466), (.str "fourth" 467)] 0) #[])
def o242 (P : Params) : Obj := (Obj.mk (.type "tuple") (Option.none) (Data.seq #[] 0) #[])
def o243 (P : Params) : Obj := (Obj.mk .none (Option.none) (Data.func (fd "__init__" "Less.__init__" (L2.inClass (S 10) 0) 0 [] .none .none .none .none (Option.none) .none .none 0)) #[])
def o244 (P : Params) : Obj := (Obj.mk (.type "code") (Option.none) (Data.fields #[(.str "__init__" 460), (.str "Less.__init__" 461), (.str "/claim/cut.py" 462), (.int (77 : Int) 0), (.int (5 : Int) 0), (.int (0 : Int) 0), (.int (0 : Int) 0), (.int (3 : Int) 0), (.ref 228), (.bool Bool.true), (.int (181 : Int) 0), (.ref 229), .none, (.ref 230), (.ref 231), (.ref 232), (.int (468 : Int) 0), (.int (77 : Int) 0), (.str "/claim/cut.py" 469)]) #[])
def o245 (P : Params) : Obj := (Obj.mk (.type "function") (Option.none) (Data.func (fd "__init__" "Less.__init__" (L2.inClass (S 10) 0) 3 [] .none .none .none (.str "beatless.exprs" 230) (Option.none) (.ref 233) .none 0)) #[])
def o246 (P : Params) : Obj := (Obj.mk (.type "tuple") (Option.none) (Data.seq #[] 0) #[])
def o247 (P : Params) : Obj := (Obj.mk .none (Option.none) (Data.fields #[]) #[])
def o248 (P : Params) : Obj := (Obj.mk (.type "tuple") (Option.none) (Data.seq #[(.str "self" 474), (.str "worths" 475)] 0) #[])
def o249 (P : Params) : Obj := (Obj.mk (.type "tuple") (Option.none) (Data.seq #[] 0) #[])
def o250 (P : Params) : Obj := (Obj.mk .none (Option.none) (Data.func (fd "reckon" "Less.reckon" (L2.inClass (S 10) 1) 0 [] .none .none .none .none (Option.none) .none .none 0)) #[])
def o251 (P : Params) : Obj := (Obj.mk (.type "code") (Option.none) (Data.fields #[(.str "reckon" 471), (.str "Less.reckon" 472), (.str "/claim/cut.py" 473), (.int (83 : Int) 0), (.int (2 : Int) 0), (.int (0 : Int) 0), (.int (0 : Int) 0), (.int (3 : Int) 0), (.ref 235), (.bool Bool.true), (.int (181 : Int) 0), (.ref 236), .none, (.ref 237), (.ref 238), (.ref 239), (.int (476 : Int) 0), (.int (83 : Int) 0), (.str "/claim/cut.py" 477)]) #[])
def o252 (P : Params) : Obj := (Obj.mk (.type "function") (Option.none) (Data.func (fd "reckon" "Less.reckon" (L2.inClass (S 10) 1) 3 [] .none .none .none (.str "beatless.exprs" 230) (Option.none) (.ref 240) .none 0)) #[])
def o253 (P : Params) : Obj := (Obj.mk (.type "tuple") (Option.none) (Data.seq #[] 0) #[])
def o254 (P : Params) : Obj := (Obj.mk .none (Option.none) (Data.fields #[]) #[])
def o255 (P : Params) : Obj := (Obj.mk (.type "tuple") (Option.none) (Data.seq #[(.str "self" 482)] 0) #[])
def o256 (P : Params) : Obj := (Obj.mk (.type "tuple") (Option.none) (Data.seq #[] 0) #[])
def o257 (P : Params) : Obj := (Obj.mk .none (Option.none) (Data.func (fd "told" "Less.told" (L2.inClass (S 10) 2) 0 [] .none .none .none .none (Option.none) .none .none 0)) #[])
def o258 (P : Params) : Obj := (Obj.mk (.type "code") (Option.none) (Data.fields #[(.str "told" 479), (.str "Less.told" 480), (.str "/claim/cut.py" 481), (.int (88 : Int) 0), (.int (1 : Int) 0), (.int (0 : Int) 0), (.int (0 : Int) 0), (.int (3 : Int) 0), (.ref 242), (.bool Bool.true), (.int (181 : Int) 0), (.ref 243), .none, (.ref 244), (.ref 245), (.ref 246), (.int (483 : Int) 0), (.int (88 : Int) 0), (.str "/claim/cut.py" 484)]) #[])
def o259 (P : Params) : Obj := (Obj.mk (.type "function") (Option.none) (Data.func (fd "told" "Less.told" (L2.inClass (S 10) 2) 3 [] .none .none .none (.str "beatless.exprs" 230) (Option.none) (.ref 247) .none 0)) #[])
def o260 (P : Params) : Obj := (Obj.mk (.type "tuple") (Option.none) (Data.seq #[] 0) #[])
def o261 (P : Params) : Obj := (Obj.mk .none (Option.none) (Data.fields #[]) #[])
def o262 (P : Params) : Obj := (Obj.mk (.type "tuple") (Option.none) (Data.seq #[(.str "self" 489)] 0) #[])
def o263 (P : Params) : Obj := (Obj.mk (.type "tuple") (Option.none) (Data.seq #[] 0) #[])
def o264 (P : Params) : Obj := (Obj.mk .none (Option.none) (Data.func (fd "words" "Less.words" (L2.inClass (S 10) 3) 0 [] .none .none .none .none (Option.none) .none .none 0)) #[])
def o265 (P : Params) : Obj := (Obj.mk (.type "code") (Option.none) (Data.fields #[(.str "words" 486), (.str "Less.words" 487), (.str "/claim/cut.py" 488), (.int (91 : Int) 0), (.int (1 : Int) 0), (.int (0 : Int) 0), (.int (0 : Int) 0), (.int (3 : Int) 0), (.ref 249), (.bool Bool.true), (.int (181 : Int) 0), (.ref 250), .none, (.ref 251), (.ref 252), (.ref 253), (.int (490 : Int) 0), (.int (91 : Int) 0), (.str "/claim/cut.py" 491)]) #[])
def o266 (P : Params) : Obj := (Obj.mk (.type "function") (Option.none) (Data.func (fd "words" "Less.words" (L2.inClass (S 10) 3) 3 [] .none .none .none (.str "beatless.exprs" 230) (Option.none) (.ref 254) .none 0)) #[])
def o267 (P : Params) : Obj := (Obj.mk (.type "tuple") (Option.none) (Data.seq #[(.str "fourth" 493), (.str "one" 494), (.str "other" 495), (.str "third" 496)] 0) #[])
def o268 (P : Params) : Obj := (Obj.mk (.type "dict") (Option.none) (Data.dict #[en P "__module__" 455 (.str "beatless.exprs" 230), en P "__firstlineno__" 459 (.int (75 : Int) 458), en P "__init__" 470 (.ref 234), en P "reckon" 478 (.ref 241), en P "told" 485 (.ref 248), en P "words" 492 (.ref 255), en P "__static_attributes__" 497 (.ref 256), en P "__doc__" 498 .none] 2) #[])
def o269 (P : Params) : Obj := (Obj.mk (.type "type") (Option.none) (Data.cls (ClassData.mk "Less" [(.ref 56)] [(.ref 258), (.ref 56), (.type "object")] 257 "Less" Bool.true [] [] Bool.false (Option.none) Bool.false)) #[(Option.some (.ref 221)), (Option.none), (Option.some (.str "Less" 448)), (Option.some (.str "Less" 456)), (Option.some (.builtin "object.__new__")), (Option.some (.bool Bool.true))])
def o270 (P : Params) : Obj := (Obj.mk (.type "super") (Option.none) (Data.fields #[(.ref 258), (.ref 258), (.ref 258)]) #[])
def o271 (P : Params) : Obj := (Obj.mk (.type "builtin_function_or_method") (Option.none) (Data.fields #[(.builtin "object.__init_subclass__"), (.ref 258)]) #[])
def o272 (P : Params) : Obj := (Obj.mk (.type "tuple") (Option.none) (Data.seq #[] 0) #[])
def o273 (P : Params) : Obj := (Obj.mk .none (Option.none) (Data.fields #[]) #[])
def o274 (P : Params) : Obj := (Obj.mk (.type "tuple") (Option.none) (Data.seq #[(.str "value" 506)] 0) #[])
def o275 (P : Params) : Obj := (Obj.mk (.type "tuple") (Option.none) (Data.seq #[] 0) #[])
def o276 (P : Params) : Obj := (Obj.mk .none (Option.none) (Data.func (fd "is_whole" "is_whole" (S 12) 0 [] .none .none .none .none (Option.none) .none .none 0)) #[])
def o277 (P : Params) : Obj := (Obj.mk (.type "code") (Option.none) (Data.fields #[(.str "is_whole" 503), (.str "is_whole" 504), (.str "/claim/cut.py" 505), (.int (94 : Int) 0), (.int (1 : Int) 0), (.int (0 : Int) 0), (.int (0 : Int) 0), (.int (3 : Int) 0), (.ref 261), (.bool Bool.true), (.int (181 : Int) 0), (.ref 262), .none, (.ref 263), (.ref 264), (.ref 265), (.int (507 : Int) 0), (.int (94 : Int) 0), (.str "/claim/cut.py" 508)]) #[])
def o278 (P : Params) : Obj := (Obj.mk (.type "function") (Option.none) (Data.func (fd "is_whole" "is_whole" (S 12) 3 [] .none .none .none (.str "beatless.wholes" 501) (Option.none) (.ref 266) .none 0)) #[])
def t638 (P : Params) : BT := .node (o266 P) .nil .nil
def t639 (P : Params) : BT := .node (o129 P) (t638 P) .nil
def t640 (P : Params) : BT := .node (o62 P) (t639 P) (t495 P)
def t641 (P : Params) : BT := .node (o234 P) .nil .nil
def t642 (P : Params) : BT := .node (o94 P) (t352 P) (t641 P)
def t643 (P : Params) : BT := .node (o28 P) (t640 P) (t642 P)
def t644 (P : Params) : BT := .node (o250 P) .nil .nil
def t645 (P : Params) : BT := .node (o113 P) (t357 P) (t644 P)
def t646 (P : Params) : BT := .node (o43 P) (t499 P) (t645 P)
def t647 (P : Params) : BT := .node (o6 P) (t643 P) (t646 P)
def t648 (P : Params) : BT := .node (o274 P) .nil .nil
def t649 (P : Params) : BT := .node (o137 P) (t648 P) .nil
def t650 (P : Params) : BT := .node (o70 P) (t649 P) (t502 P)
def t651 (P : Params) : BT := .node (o242 P) .nil .nil
def t652 (P : Params) : BT := .node (o105 P) (t361 P) (t651 P)
def t653 (P : Params) : BT := .node (o33 P) (t650 P) (t652 P)
def t654 (P : Params) : BT := .node (o258 P) .nil .nil
def t655 (P : Params) : BT := .node (o121 P) (t507 P) (t654 P)
def t656 (P : Params) : BT := .node (o51 P) (t506 P) (t655 P)
def t657 (P : Params) : BT := .node (o14 P) (t653 P) (t656 P)
def t658 (P : Params) : BT := .node (boot_o_7 P) (t647 P) (t657 P)
def t659 (P : Params) : BT := .node (o270 P) .nil .nil
def t660 (P : Params) : BT := .node (o133 P) (t659 P) .nil
def t661 (P : Params) : BT := .node (o66 P) (t660 P) (t512 P)
def t662 (P : Params) : BT := .node (o238 P) .nil .nil
def t663 (P : Params) : BT := .node (o98 P) (t369 P) (t662 P)
def t664 (P : Params) : BT := .node (o29 P) (t661 P) (t663 P)
def t665 (P : Params) : BT := .node (o254 P) .nil .nil
def t666 (P : Params) : BT := .node (o117 P) (t374 P) (t665 P)
def t667 (P : Params) : BT := .node (o47 P) (t516 P) (t666 P)
def t668 (P : Params) : BT := .node (o10 P) (t664 P) (t667 P)
def t669 (P : Params) : BT := .node (o278 P) .nil .nil
def t670 (P : Params) : BT := .node (o141 P) (t669 P) .nil
def t671 (P : Params) : BT := .node (o74 P) (t670 P) (t519 P)
def t672 (P : Params) : BT := .node (o246 P) .nil .nil
def t673 (P : Params) : BT := .node (o109 P) (t378 P) (t672 P)
def t674 (P : Params) : BT := .node (o37 P) (t671 P) (t673 P)
def t675 (P : Params) : BT := .node (o262 P) .nil .nil
def t676 (P : Params) : BT := .node (o125 P) (t524 P) (t675 P)
def t677 (P : Params) : BT := .node (o55 P) (t523 P) (t676 P)
def t678 (P : Params) : BT := .node (o18 P) (t674 P) (t677 P)
def t679 (P : Params) : BT := .node (o0 P) (t668 P) (t678 P)
def t680 (P : Params) : BT := .node (o229 P) (t658 P) (t679 P)
def t681 (P : Params) : BT := .node (o268 P) .nil .nil
def t682 (P : Params) : BT := .node (o131 P) (t681 P) .nil
def t683 (P : Params) : BT := .node (o64 P) (t682 P) (t530 P)
def t684 (P : Params) : BT := .node (o236 P) .nil .nil
def t685 (P : Params) : BT := .node (o96 P) (t387 P) (t684 P)
def t686 (P : Params) : BT := .node (o24 P) (t683 P) (t685 P)
def t687 (P : Params) : BT := .node (o252 P) .nil .nil
def t688 (P : Params) : BT := .node (o115 P) (t392 P) (t687 P)
def t689 (P : Params) : BT := .node (o45 P) (t534 P) (t688 P)
def t690 (P : Params) : BT := .node (o8 P) (t686 P) (t689 P)
def t691 (P : Params) : BT := .node (o276 P) .nil .nil
def t692 (P : Params) : BT := .node (o139 P) (t691 P) .nil
def t693 (P : Params) : BT := .node (o72 P) (t692 P) (t537 P)
def t694 (P : Params) : BT := .node (o244 P) .nil .nil
def t695 (P : Params) : BT := .node (o107 P) (t396 P) (t694 P)
def t696 (P : Params) : BT := .node (o35 P) (t693 P) (t695 P)
def t697 (P : Params) : BT := .node (o260 P) .nil .nil
def t698 (P : Params) : BT := .node (o123 P) (t542 P) (t697 P)
def t699 (P : Params) : BT := .node (o53 P) (t541 P) (t698 P)
def t700 (P : Params) : BT := .node (o16 P) (t696 P) (t699 P)
def t701 (P : Params) : BT := .node (boot_o_9 P) (t690 P) (t700 P)
def t702 (P : Params) : BT := .node (o272 P) .nil .nil
def t703 (P : Params) : BT := .node (o135 P) (t702 P) .nil
def t704 (P : Params) : BT := .node (o68 P) (t703 P) (t547 P)
def t705 (P : Params) : BT := .node (o240 P) .nil .nil
def t706 (P : Params) : BT := .node (o103 P) (t404 P) (t705 P)
def t707 (P : Params) : BT := .node (o31 P) (t704 P) (t706 P)
def t708 (P : Params) : BT := .node (o256 P) .nil .nil
def t709 (P : Params) : BT := .node (o119 P) (t552 P) (t708 P)
def t710 (P : Params) : BT := .node (o49 P) (t551 P) (t709 P)
def t711 (P : Params) : BT := .node (o12 P) (t707 P) (t710 P)
def t712 (P : Params) : BT := .node (o248 P) .nil .nil
def t713 (P : Params) : BT := .node (o111 P) (t413 P) (t712 P)
def t714 (P : Params) : BT := .node (o39 P) (t557 P) (t713 P)
def t715 (P : Params) : BT := .node (o232 P) .nil .nil
def t716 (P : Params) : BT := .node (o92 P) (t416 P) (t715 P)
def t717 (P : Params) : BT := .node (o264 P) .nil .nil
def t718 (P : Params) : BT := .node (o127 P) (t559 P) (t717 P)
def t719 (P : Params) : BT := .node (o60 P) (t716 P) (t718 P)
def t720 (P : Params) : BT := .node (o20 P) (t714 P) (t719 P)
def t721 (P : Params) : BT := .node (o2 P) (t711 P) (t720 P)
def t722 (P : Params) : BT := .node (boot_o_5 P) (t701 P) (t721 P)
def t723 (P : Params) : BT := .node (boot_o_1 P) (t680 P) (t722 P)
def t724 (P : Params) : BT := .node (o267 P) .nil .nil
def t725 (P : Params) : BT := .node (o130 P) (t724 P) .nil
def t726 (P : Params) : BT := .node (o63 P) (t725 P) (t566 P)
def t727 (P : Params) : BT := .node (o235 P) .nil .nil
def t728 (P : Params) : BT := .node (o95 P) (t423 P) (t727 P)
def t729 (P : Params) : BT := .node (o23 P) (t726 P) (t728 P)
def t730 (P : Params) : BT := .node (o251 P) .nil .nil
def t731 (P : Params) : BT := .node (o114 P) (t428 P) (t730 P)
def t732 (P : Params) : BT := .node (o44 P) (t570 P) (t731 P)
def t733 (P : Params) : BT := .node (o7 P) (t729 P) (t732 P)
def t734 (P : Params) : BT := .node (o275 P) .nil .nil
def t735 (P : Params) : BT := .node (o138 P) (t734 P) .nil
def t736 (P : Params) : BT := .node (o71 P) (t735 P) (t573 P)
def t737 (P : Params) : BT := .node (o243 P) .nil .nil
def t738 (P : Params) : BT := .node (o106 P) (t432 P) (t737 P)
def t739 (P : Params) : BT := .node (o34 P) (t736 P) (t738 P)
def t740 (P : Params) : BT := .node (o259 P) .nil .nil
def t741 (P : Params) : BT := .node (o122 P) (t578 P) (t740 P)
def t742 (P : Params) : BT := .node (o231 P) (t577 P) (t741 P)
def t743 (P : Params) : BT := .node (o15 P) (t739 P) (t742 P)
def t744 (P : Params) : BT := .node (boot_o_8 P) (t733 P) (t743 P)
def t745 (P : Params) : BT := .node (o271 P) .nil .nil
def t746 (P : Params) : BT := .node (o134 P) (t745 P) .nil
def t747 (P : Params) : BT := .node (o67 P) (t746 P) (t583 P)
def t748 (P : Params) : BT := .node (o239 P) .nil .nil
def t749 (P : Params) : BT := .node (o99 P) (t440 P) (t748 P)
def t750 (P : Params) : BT := .node (o30 P) (t747 P) (t749 P)
def t751 (P : Params) : BT := .node (o255 P) .nil .nil
def t752 (P : Params) : BT := .node (o118 P) (t445 P) (t751 P)
def t753 (P : Params) : BT := .node (o48 P) (t587 P) (t752 P)
def t754 (P : Params) : BT := .node (o11 P) (t750 P) (t753 P)
def t755 (P : Params) : BT := .node (o247 P) .nil .nil
def t756 (P : Params) : BT := .node (o110 P) (t449 P) (t755 P)
def t757 (P : Params) : BT := .node (o38 P) (t591 P) (t756 P)
def t758 (P : Params) : BT := .node (o263 P) .nil .nil
def t759 (P : Params) : BT := .node (o126 P) (t595 P) (t758 P)
def t760 (P : Params) : BT := .node (o56 P) (t594 P) (t759 P)
def t761 (P : Params) : BT := .node (o19 P) (t757 P) (t760 P)
def t762 (P : Params) : BT := .node (o230 P) (t754 P) (t761 P)
def t763 (P : Params) : BT := .node (boot_o_4 P) (t744 P) (t762 P)
def t764 (P : Params) : BT := .node (o269 P) .nil .nil
def t765 (P : Params) : BT := .node (o132 P) (t764 P) .nil
def t766 (P : Params) : BT := .node (o65 P) (t765 P) (t601 P)
def t767 (P : Params) : BT := .node (o237 P) .nil .nil
def t768 (P : Params) : BT := .node (o97 P) (t458 P) (t767 P)
def t769 (P : Params) : BT := .node (o25 P) (t766 P) (t768 P)
def t770 (P : Params) : BT := .node (o253 P) .nil .nil
def t771 (P : Params) : BT := .node (o116 P) (t463 P) (t770 P)
def t772 (P : Params) : BT := .node (o46 P) (t605 P) (t771 P)
def t773 (P : Params) : BT := .node (o9 P) (t769 P) (t772 P)
def t774 (P : Params) : BT := .node (o277 P) .nil .nil
def t775 (P : Params) : BT := .node (o140 P) (t774 P) .nil
def t776 (P : Params) : BT := .node (o73 P) (t775 P) (t608 P)
def t777 (P : Params) : BT := .node (o245 P) .nil .nil
def t778 (P : Params) : BT := .node (o108 P) (t467 P) (t777 P)
def t779 (P : Params) : BT := .node (o36 P) (t776 P) (t778 P)
def t780 (P : Params) : BT := .node (o261 P) .nil .nil
def t781 (P : Params) : BT := .node (o124 P) (t613 P) (t780 P)
def t782 (P : Params) : BT := .node (o54 P) (t612 P) (t781 P)
def t783 (P : Params) : BT := .node (o17 P) (t779 P) (t782 P)
def t784 (P : Params) : BT := .node (boot_o_10 P) (t773 P) (t783 P)
def t785 (P : Params) : BT := .node (o273 P) .nil .nil
def t786 (P : Params) : BT := .node (o136 P) (t785 P) .nil
def t787 (P : Params) : BT := .node (o69 P) (t786 P) (t618 P)
def t788 (P : Params) : BT := .node (o241 P) .nil .nil
def t789 (P : Params) : BT := .node (o104 P) (t475 P) (t788 P)
def t790 (P : Params) : BT := .node (o32 P) (t787 P) (t789 P)
def t791 (P : Params) : BT := .node (o257 P) .nil .nil
def t792 (P : Params) : BT := .node (o120 P) (t623 P) (t791 P)
def t793 (P : Params) : BT := .node (o50 P) (t622 P) (t792 P)
def t794 (P : Params) : BT := .node (o13 P) (t790 P) (t793 P)
def t795 (P : Params) : BT := .node (o249 P) .nil .nil
def t796 (P : Params) : BT := .node (o112 P) (t484 P) (t795 P)
def t797 (P : Params) : BT := .node (o40 P) (t628 P) (t796 P)
def t798 (P : Params) : BT := .node (o233 P) .nil .nil
def t799 (P : Params) : BT := .node (o93 P) (t487 P) (t798 P)
def t800 (P : Params) : BT := .node (o265 P) .nil .nil
def t801 (P : Params) : BT := .node (o128 P) (t630 P) (t800 P)
def t802 (P : Params) : BT := .node (o61 P) (t799 P) (t801 P)
def t803 (P : Params) : BT := .node (o21 P) (t797 P) (t802 P)
def t804 (P : Params) : BT := .node (o3 P) (t794 P) (t803 P)
def t805 (P : Params) : BT := .node (boot_o_6 P) (t784 P) (t804 P)
def t806 (P : Params) : BT := .node (boot_o_2 P) (t763 P) (t805 P)
def t807 (P : Params) : BT := .node (boot_o_0 P) (t723 P) (t806 P)
def sb8 (w : World) (os : OsState) : SharedT := ⟨(t807 w.params), 268, (Life.mk [] [] [] 0 [] [] Bool.false #[] [] 0 Bool.false Bool.false Bool.false (0 : Int) [(2000 : Int), (10 : Int), (10 : Int)] Bool.false 0 Bool.true [] [] 0 Bool.false), ⟨[]⟩, (Drawn.mk 0 0 0 0), 512, os⟩
def L7 (w : World) (os : OsState) : Option (Flow × SharedT × Code × Pos) := segRunT treeTable PySem.Challenge.pw_beatless_k08_whole_programs_let_by w 11 an 1 393 (sb7 w os) (piecesOf sts7 env cE (Pos.mk 61 0 74 64) B)
def R7 (w : World) (os : OsState) : Option (Flow × SharedT × Code × Pos) := some (.next, sb8 w os, cE, (Pos.mk 96 0 96 8))
theorem q7 : tt (Hd.L7, Hd.R7) = true := by k_qdec
theorem r7 : ∀ w, PySem.W.Fast.tw9490284035958612641 w = PySem.W.Fast.tw15626045330170987150 w := fun w => by kernel_rfl
theorem e7 (w : World) (os : OsState) : Hd.L7 w os = Hd.R7 w os :=
  (congrFun (congrFun PySem.W.Fast.te9490284035958612641 w) os).trans ((congrFun (r7 w) os).trans (congrFun (congrFun PySem.W.Fast.te15626045330170987150 w) os).symm)
def sts8 : List Stmt := [S 14, S 15, S 16, S 17, S 18, S 19, S 20, S 21, S 22, S 23, S 24, S 25]
def o279 (P : Params) : Obj := (Obj.mk (.type "dict") (Option.none) (Data.dict #[en P "__name__" 165 (.str "beatless.programs" 510), en P "__doc__" 166 .none, en P "__package__" 167 .none, en P "__loader__" 168 (.builtin "__main__.__loader__#opaque"), en P "__spec__" 169 .none, en P "__annotations__" 170 (.ref 6), en P "__builtins__" 171 (.ref 4), en P "__file__" 173 (.str "/claim/cut.py" 172), en P "__cached__" 174 .none, en P "_wall" 193 (.ref 21), en P "BeatlessError" 213 (.ref 31), en P "NoProgram" 229 (.ref 44), en P "Expr" 251 (.ref 56), en P "Num" 298 (.ref 98), en P "Name" 345 (.ref 138), en P "Two" 398 (.ref 178), en P "Mod" 447 (.ref 218), en P "Less" 500 (.ref 258), en P "is_whole" 509 (.ref 267), en P "START_NAMES" 514 (.ref 268), en P "SEND_NAMES" 520 (.ref 269), en P "RENEW_NAMES" 529 (.ref 270), en P "TWO_WORDS" 534 (.ref 271), en P "MOST_WORDS" 536 (.int (60 : Int) 535), en P "MOST_DEEP" 538 (.int (8 : Int) 537), en P "is_short_number" 545 (.ref 278), en P "is_word_of" 553 (.ref 285), en P "is_divisor" 560 (.ref 292), en P "are_sound" 570 (.ref 299), en P "is_sound" 579 (.ref 306), en P "count_words" 585 (.ref 311)] 31) #[])
def o280 (P : Params) : Obj := (Obj.mk .none (Option.none) (Data.fields #[(.int (1 : Int) 0), (.int (0 : Int) 0), (.ref 20), (.int (5 : Int) 0), (.int (0 : Int) 0), (.ref 27), (.int (7 : Int) 0), (.int (0 : Int) 0), (.ref 40), (.int (10 : Int) 0), (.int (0 : Int) 0), (.ref 52), (.int (12 : Int) 0), (.int (0 : Int) 0), (.ref 66), (.int (25 : Int) 0), (.int (0 : Int) 0), (.ref 106), (.int (38 : Int) 0), (.int (0 : Int) 0), (.ref 146), (.int (61 : Int) 0), (.int (0 : Int) 0), (.ref 186), (.int (75 : Int) 0), (.int (0 : Int) 0), (.ref 226), (.int (94 : Int) 0), (.int (0 : Int) 0), (.ref 266), (.int (103 : Int) 0), (.int (0 : Int) 0), (.ref 277), (.int (105 : Int) 0), (.int (0 : Int) 0), (.ref 284), (.int (107 : Int) 0), (.int (0 : Int) 0), (.ref 291), (.int (109 : Int) 0), (.int (0 : Int) 0), (.ref 298), (.int (114 : Int) 0), (.int (0 : Int) 0), (.ref 305), (.int (128 : Int) 0), (.int (0 : Int) 0), (.ref 310)]) #[])
def o281 (P : Params) : Obj := (Obj.mk (.type "tuple") (Option.none) (Data.seq #[(.str "me" 512), (.str "lines" 513)] 0) #[])
def o282 (P : Params) : Obj := (Obj.mk (.type "tuple") (Option.none) (Data.seq #[(.str "worth" 515), (.str "me" 516), (.str "round" 517), (.str "lines" 518), (.str "to" 519)] 0) #[])
def o283 (P : Params) : Obj := (Obj.mk (.type "tuple") (Option.none) (Data.seq #[(.str "worth" 521), (.str "me" 522), (.str "round" 523), (.str "lines" 524), (.str "sum" 525), (.str "least" 526), (.str "most" 527), (.str "count" 528)] 0) #[])
def o284 (P : Params) : Obj := (Obj.mk (.type "tuple") (Option.none) (Data.seq #[(.str "add" 530), (.str "sub" 531), (.str "min" 532), (.str "max" 533)] 0) #[])
def o285 (P : Params) : Obj := (Obj.mk (.type "tuple") (Option.none) (Data.seq #[] 0) #[])
def o286 (P : Params) : Obj := (Obj.mk .none (Option.none) (Data.fields #[]) #[])
def o287 (P : Params) : Obj := (Obj.mk (.type "tuple") (Option.none) (Data.seq #[(.str "value" 542)] 0) #[])
def o288 (P : Params) : Obj := (Obj.mk (.type "tuple") (Option.none) (Data.seq #[] 0) #[])
def o289 (P : Params) : Obj := (Obj.mk .none (Option.none) (Data.func (fd "is_short_number" "is_short_number" (S 20) 0 [] .none .none .none .none (Option.none) .none .none 0)) #[])
def o290 (P : Params) : Obj := (Obj.mk (.type "code") (Option.none) (Data.fields #[(.str "is_short_number" 539), (.str "is_short_number" 540), (.str "/claim/cut.py" 541), (.int (103 : Int) 0), (.int (1 : Int) 0), (.int (0 : Int) 0), (.int (0 : Int) 0), (.int (3 : Int) 0), (.ref 272), (.bool Bool.true), (.int (181 : Int) 0), (.ref 273), .none, (.ref 274), (.ref 275), (.ref 276), (.int (543 : Int) 0), (.int (103 : Int) 0), (.str "/claim/cut.py" 544)]) #[])
def o291 (P : Params) : Obj := (Obj.mk (.type "function") (Option.none) (Data.func (fd "is_short_number" "is_short_number" (S 20) 3 [] .none .none .none (.str "beatless.programs" 510) (Option.none) (.ref 277) .none 0)) #[])
def o292 (P : Params) : Obj := (Obj.mk (.type "tuple") (Option.none) (Data.seq #[] 0) #[])
def o293 (P : Params) : Obj := (Obj.mk .none (Option.none) (Data.fields #[]) #[])
def o294 (P : Params) : Obj := (Obj.mk (.type "tuple") (Option.none) (Data.seq #[(.str "word" 549), (.str "words" 550)] 0) #[])
def o295 (P : Params) : Obj := (Obj.mk (.type "tuple") (Option.none) (Data.seq #[] 0) #[])
def o296 (P : Params) : Obj := (Obj.mk .none (Option.none) (Data.func (fd "is_word_of" "is_word_of" (S 21) 0 [] .none .none .none .none (Option.none) .none .none 0)) #[])
def o297 (P : Params) : Obj := (Obj.mk (.type "code") (Option.none) (Data.fields #[(.str "is_word_of" 546), (.str "is_word_of" 547), (.str "/claim/cut.py" 548), (.int (105 : Int) 0), (.int (2 : Int) 0), (.int (0 : Int) 0), (.int (0 : Int) 0), (.int (3 : Int) 0), (.ref 279), (.bool Bool.true), (.int (181 : Int) 0), (.ref 280), .none, (.ref 281), (.ref 282), (.ref 283), (.int (551 : Int) 0), (.int (105 : Int) 0), (.str "/claim/cut.py" 552)]) #[])
def o298 (P : Params) : Obj := (Obj.mk (.type "function") (Option.none) (Data.func (fd "is_word_of" "is_word_of" (S 21) 3 [] .none .none .none (.str "beatless.programs" 510) (Option.none) (.ref 284) .none 0)) #[])
def o299 (P : Params) : Obj := (Obj.mk (.type "tuple") (Option.none) (Data.seq #[] 0) #[])
def o300 (P : Params) : Obj := (Obj.mk .none (Option.none) (Data.fields #[]) #[])
def o301 (P : Params) : Obj := (Obj.mk (.type "tuple") (Option.none) (Data.seq #[(.str "number" 557)] 0) #[])
def o302 (P : Params) : Obj := (Obj.mk (.type "tuple") (Option.none) (Data.seq #[] 0) #[])
def o303 (P : Params) : Obj := (Obj.mk .none (Option.none) (Data.func (fd "is_divisor" "is_divisor" (S 22) 0 [] .none .none .none .none (Option.none) .none .none 0)) #[])
def o304 (P : Params) : Obj := (Obj.mk (.type "code") (Option.none) (Data.fields #[(.str "is_divisor" 554), (.str "is_divisor" 555), (.str "/claim/cut.py" 556), (.int (107 : Int) 0), (.int (1 : Int) 0), (.int (0 : Int) 0), (.int (0 : Int) 0), (.int (3 : Int) 0), (.ref 286), (.bool Bool.true), (.int (181 : Int) 0), (.ref 287), .none, (.ref 288), (.ref 289), (.ref 290), (.int (558 : Int) 0), (.int (107 : Int) 0), (.str "/claim/cut.py" 559)]) #[])
def o305 (P : Params) : Obj := (Obj.mk (.type "function") (Option.none) (Data.func (fd "is_divisor" "is_divisor" (S 22) 3 [] .none .none .none (.str "beatless.programs" 510) (Option.none) (.ref 291) .none 0)) #[])
def o306 (P : Params) : Obj := (Obj.mk (.type "tuple") (Option.none) (Data.seq #[] 0) #[])
def o307 (P : Params) : Obj := (Obj.mk .none (Option.none) (Data.fields #[]) #[])
def o308 (P : Params) : Obj := (Obj.mk (.type "tuple") (Option.none) (Data.seq #[(.str "parts" 564), (.str "names" 565), (.str "deep" 566), (.str "part" 567)] 0) #[])
def o309 (P : Params) : Obj := (Obj.mk (.type "tuple") (Option.none) (Data.seq #[] 0) #[])
def o310 (P : Params) : Obj := (Obj.mk .none (Option.none) (Data.func (fd "are_sound" "are_sound" (S 23) 0 [] .none .none .none .none (Option.none) .none .none 0)) #[])
def o311 (P : Params) : Obj := (Obj.mk (.type "code") (Option.none) (Data.fields #[(.str "are_sound" 561), (.str "are_sound" 562), (.str "/claim/cut.py" 563), (.int (109 : Int) 0), (.int (3 : Int) 0), (.int (0 : Int) 0), (.int (0 : Int) 0), (.int (3 : Int) 0), (.ref 293), (.bool Bool.true), (.int (181 : Int) 0), (.ref 294), .none, (.ref 295), (.ref 296), (.ref 297), (.int (568 : Int) 0), (.int (109 : Int) 0), (.str "/claim/cut.py" 569)]) #[])
def o312 (P : Params) : Obj := (Obj.mk (.type "function") (Option.none) (Data.func (fd "are_sound" "are_sound" (S 23) 3 [] .none .none .none (.str "beatless.programs" 510) (Option.none) (.ref 298) .none 0)) #[])
def o313 (P : Params) : Obj := (Obj.mk (.type "tuple") (Option.none) (Data.seq #[] 0) #[])
def o314 (P : Params) : Obj := (Obj.mk .none (Option.none) (Data.fields #[]) #[])
def o315 (P : Params) : Obj := (Obj.mk (.type "tuple") (Option.none) (Data.seq #[(.str "expr" 574), (.str "names" 575), (.str "deep" 576)] 0) #[])
def o316 (P : Params) : Obj := (Obj.mk (.type "tuple") (Option.none) (Data.seq #[] 0) #[])
def o317 (P : Params) : Obj := (Obj.mk .none (Option.none) (Data.func (fd "is_sound" "is_sound" (S 24) 0 [] .none .none .none .none (Option.none) .none .none 0)) #[])
def o318 (P : Params) : Obj := (Obj.mk (.type "code") (Option.none) (Data.fields #[(.str "is_sound" 571), (.str "is_sound" 572), (.str "/claim/cut.py" 573), (.int (114 : Int) 0), (.int (3 : Int) 0), (.int (0 : Int) 0), (.int (0 : Int) 0), (.int (3 : Int) 0), (.ref 300), (.bool Bool.true), (.int (181 : Int) 0), (.ref 301), .none, (.ref 302), (.ref 303), (.ref 304), (.int (577 : Int) 0), (.int (114 : Int) 0), (.str "/claim/cut.py" 578)]) #[])
def o319 (P : Params) : Obj := (Obj.mk (.type "function") (Option.none) (Data.func (fd "is_sound" "is_sound" (S 24) 3 [] .none .none .none (.str "beatless.programs" 510) (Option.none) (.ref 305) .none 0)) #[])
def o320 (P : Params) : Obj := (Obj.mk (.type "tuple") (Option.none) (Data.seq #[] 0) #[])
def o321 (P : Params) : Obj := (Obj.mk .none (Option.none) (Data.fields #[]) #[])
def o322 (P : Params) : Obj := (Obj.mk .none (Option.none) (Data.func (fd "count_words" "count_words" (S 25) 0 [] .none .none .none .none (Option.none) .none .none 0)) #[])
def o323 (P : Params) : Obj := (Obj.mk (.type "code") (Option.none) (Data.fields #[(.str "count_words" 580), (.str "count_words" 581), (.str "/claim/cut.py" 582), (.int (128 : Int) 0), (.int (1 : Int) 0), (.int (0 : Int) 0), (.int (0 : Int) 0), (.int (3 : Int) 0), (.ref 307), (.bool Bool.true), (.int (181 : Int) 0), (.ref 308), .none, .none, .none, (.ref 309), (.int (583 : Int) 0), (.int (128 : Int) 0), (.str "/claim/cut.py" 584)]) #[])
def o324 (P : Params) : Obj := (Obj.mk (.type "function") (Option.none) (Data.func (fd "count_words" "count_words" (S 25) 3 [] .none .none .none (.str "beatless.programs" 510) (Option.none) (.ref 310) .none 0)) #[])
def t808 (P : Params) : BT := .node (o300 P) .nil .nil
def t809 (P : Params) : BT := .node (o164 P) (t808 P) .nil
def t810 (P : Params) : BT := .node (o94 P) (t809 P) (t641 P)
def t811 (P : Params) : BT := .node (o28 P) (t640 P) (t810 P)
def t812 (P : Params) : BT := .node (o284 P) .nil .nil
def t813 (P : Params) : BT := .node (o148 P) (t812 P) .nil
def t814 (P : Params) : BT := .node (o78 P) (t813 P) (t498 P)
def t815 (P : Params) : BT := .node (o316 P) .nil .nil
def t816 (P : Params) : BT := .node (o180 P) (t815 P) .nil
def t817 (P : Params) : BT := .node (o113 P) (t816 P) (t644 P)
def t818 (P : Params) : BT := .node (o43 P) (t814 P) (t817 P)
def t819 (P : Params) : BT := .node (o6 P) (t811 P) (t818 P)
def t820 (P : Params) : BT := .node (o308 P) .nil .nil
def t821 (P : Params) : BT := .node (o172 P) (t820 P) .nil
def t822 (P : Params) : BT := .node (o105 P) (t821 P) (t651 P)
def t823 (P : Params) : BT := .node (o33 P) (t650 P) (t822 P)
def t824 (P : Params) : BT := .node (o292 P) .nil .nil
def t825 (P : Params) : BT := .node (o156 P) (t824 P) .nil
def t826 (P : Params) : BT := .node (o86 P) (t825 P) (t505 P)
def t827 (P : Params) : BT := .node (o324 P) .nil .nil
def t828 (P : Params) : BT := .node (o191 P) (t827 P) .nil
def t829 (P : Params) : BT := .node (o121 P) (t828 P) (t654 P)
def t830 (P : Params) : BT := .node (o51 P) (t826 P) (t829 P)
def t831 (P : Params) : BT := .node (o14 P) (t823 P) (t830 P)
def t832 (P : Params) : BT := .node (boot_o_7 P) (t819 P) (t831 P)
def t833 (P : Params) : BT := .node (o304 P) .nil .nil
def t834 (P : Params) : BT := .node (o168 P) (t833 P) .nil
def t835 (P : Params) : BT := .node (o98 P) (t834 P) (t662 P)
def t836 (P : Params) : BT := .node (o29 P) (t661 P) (t835 P)
def t837 (P : Params) : BT := .node (o288 P) .nil .nil
def t838 (P : Params) : BT := .node (o152 P) (t837 P) .nil
def t839 (P : Params) : BT := .node (o82 P) (t838 P) (t515 P)
def t840 (P : Params) : BT := .node (o320 P) .nil .nil
def t841 (P : Params) : BT := .node (o184 P) (t840 P) .nil
def t842 (P : Params) : BT := .node (o117 P) (t841 P) (t665 P)
def t843 (P : Params) : BT := .node (o47 P) (t839 P) (t842 P)
def t844 (P : Params) : BT := .node (o10 P) (t836 P) (t843 P)
def t845 (P : Params) : BT := .node (o312 P) .nil .nil
def t846 (P : Params) : BT := .node (o176 P) (t845 P) .nil
def t847 (P : Params) : BT := .node (o109 P) (t846 P) (t672 P)
def t848 (P : Params) : BT := .node (o37 P) (t671 P) (t847 P)
def t849 (P : Params) : BT := .node (o296 P) .nil .nil
def t850 (P : Params) : BT := .node (o160 P) (t849 P) .nil
def t851 (P : Params) : BT := .node (o90 P) (t850 P) (t522 P)
def t852 (P : Params) : BT := .node (o55 P) (t851 P) (t676 P)
def t853 (P : Params) : BT := .node (o18 P) (t848 P) (t852 P)
def t854 (P : Params) : BT := .node (o0 P) (t844 P) (t853 P)
def t855 (P : Params) : BT := .node (o279 P) (t832 P) (t854 P)
def t856 (P : Params) : BT := .node (o302 P) .nil .nil
def t857 (P : Params) : BT := .node (o166 P) (t856 P) .nil
def t858 (P : Params) : BT := .node (o96 P) (t857 P) (t684 P)
def t859 (P : Params) : BT := .node (o24 P) (t683 P) (t858 P)
def t860 (P : Params) : BT := .node (o286 P) .nil .nil
def t861 (P : Params) : BT := .node (o150 P) (t860 P) .nil
def t862 (P : Params) : BT := .node (o80 P) (t861 P) (t533 P)
def t863 (P : Params) : BT := .node (o318 P) .nil .nil
def t864 (P : Params) : BT := .node (o182 P) (t863 P) .nil
def t865 (P : Params) : BT := .node (o115 P) (t864 P) (t687 P)
def t866 (P : Params) : BT := .node (o45 P) (t862 P) (t865 P)
def t867 (P : Params) : BT := .node (o8 P) (t859 P) (t866 P)
def t868 (P : Params) : BT := .node (o310 P) .nil .nil
def t869 (P : Params) : BT := .node (o174 P) (t868 P) .nil
def t870 (P : Params) : BT := .node (o107 P) (t869 P) (t694 P)
def t871 (P : Params) : BT := .node (o35 P) (t693 P) (t870 P)
def t872 (P : Params) : BT := .node (o294 P) .nil .nil
def t873 (P : Params) : BT := .node (o158 P) (t872 P) .nil
def t874 (P : Params) : BT := .node (o88 P) (t873 P) (t540 P)
def t875 (P : Params) : BT := .node (o53 P) (t874 P) (t698 P)
def t876 (P : Params) : BT := .node (o16 P) (t871 P) (t875 P)
def t877 (P : Params) : BT := .node (boot_o_9 P) (t867 P) (t876 P)
def t878 (P : Params) : BT := .node (o306 P) .nil .nil
def t879 (P : Params) : BT := .node (o170 P) (t878 P) .nil
def t880 (P : Params) : BT := .node (o103 P) (t879 P) (t705 P)
def t881 (P : Params) : BT := .node (o31 P) (t704 P) (t880 P)
def t882 (P : Params) : BT := .node (o290 P) .nil .nil
def t883 (P : Params) : BT := .node (o154 P) (t882 P) .nil
def t884 (P : Params) : BT := .node (o84 P) (t883 P) (t550 P)
def t885 (P : Params) : BT := .node (o322 P) .nil .nil
def t886 (P : Params) : BT := .node (o189 P) (t885 P) .nil
def t887 (P : Params) : BT := .node (o119 P) (t886 P) (t708 P)
def t888 (P : Params) : BT := .node (o49 P) (t884 P) (t887 P)
def t889 (P : Params) : BT := .node (o12 P) (t881 P) (t888 P)
def t890 (P : Params) : BT := .node (o282 P) .nil .nil
def t891 (P : Params) : BT := .node (o146 P) (t890 P) .nil
def t892 (P : Params) : BT := .node (o76 P) (t891 P) (t556 P)
def t893 (P : Params) : BT := .node (o314 P) .nil .nil
def t894 (P : Params) : BT := .node (o178 P) (t893 P) .nil
def t895 (P : Params) : BT := .node (o111 P) (t894 P) (t712 P)
def t896 (P : Params) : BT := .node (o39 P) (t892 P) (t895 P)
def t897 (P : Params) : BT := .node (o298 P) .nil .nil
def t898 (P : Params) : BT := .node (o162 P) (t897 P) .nil
def t899 (P : Params) : BT := .node (o92 P) (t898 P) (t715 P)
def t900 (P : Params) : BT := .node (o60 P) (t899 P) (t718 P)
def t901 (P : Params) : BT := .node (o20 P) (t896 P) (t900 P)
def t902 (P : Params) : BT := .node (o2 P) (t889 P) (t901 P)
def t903 (P : Params) : BT := .node (boot_o_5 P) (t877 P) (t902 P)
def t904 (P : Params) : BT := .node (boot_o_1 P) (t855 P) (t903 P)
def t905 (P : Params) : BT := .node (o301 P) .nil .nil
def t906 (P : Params) : BT := .node (o165 P) (t905 P) .nil
def t907 (P : Params) : BT := .node (o95 P) (t906 P) (t727 P)
def t908 (P : Params) : BT := .node (o23 P) (t726 P) (t907 P)
def t909 (P : Params) : BT := .node (o285 P) .nil .nil
def t910 (P : Params) : BT := .node (o149 P) (t909 P) .nil
def t911 (P : Params) : BT := .node (o79 P) (t910 P) (t569 P)
def t912 (P : Params) : BT := .node (o317 P) .nil .nil
def t913 (P : Params) : BT := .node (o181 P) (t912 P) .nil
def t914 (P : Params) : BT := .node (o114 P) (t913 P) (t730 P)
def t915 (P : Params) : BT := .node (o44 P) (t911 P) (t914 P)
def t916 (P : Params) : BT := .node (o7 P) (t908 P) (t915 P)
def t917 (P : Params) : BT := .node (o309 P) .nil .nil
def t918 (P : Params) : BT := .node (o173 P) (t917 P) .nil
def t919 (P : Params) : BT := .node (o106 P) (t918 P) (t737 P)
def t920 (P : Params) : BT := .node (o34 P) (t736 P) (t919 P)
def t921 (P : Params) : BT := .node (o293 P) .nil .nil
def t922 (P : Params) : BT := .node (o157 P) (t921 P) .nil
def t923 (P : Params) : BT := .node (o87 P) (t922 P) (t576 P)
def t924 (P : Params) : BT := .node (o231 P) (t923 P) (t741 P)
def t925 (P : Params) : BT := .node (o15 P) (t920 P) (t924 P)
def t926 (P : Params) : BT := .node (boot_o_8 P) (t916 P) (t925 P)
def t927 (P : Params) : BT := .node (o305 P) .nil .nil
def t928 (P : Params) : BT := .node (o169 P) (t927 P) .nil
def t929 (P : Params) : BT := .node (o99 P) (t928 P) (t748 P)
def t930 (P : Params) : BT := .node (o30 P) (t747 P) (t929 P)
def t931 (P : Params) : BT := .node (o289 P) .nil .nil
def t932 (P : Params) : BT := .node (o153 P) (t931 P) .nil
def t933 (P : Params) : BT := .node (o83 P) (t932 P) (t586 P)
def t934 (P : Params) : BT := .node (o321 P) .nil .nil
def t935 (P : Params) : BT := .node (o185 P) (t934 P) .nil
def t936 (P : Params) : BT := .node (o118 P) (t935 P) (t751 P)
def t937 (P : Params) : BT := .node (o48 P) (t933 P) (t936 P)
def t938 (P : Params) : BT := .node (o11 P) (t930 P) (t937 P)
def t939 (P : Params) : BT := .node (o281 P) .nil .nil
def t940 (P : Params) : BT := .node (o142 P) (t939 P) .nil
def t941 (P : Params) : BT := .node (o75 P) (t940 P) (t590 P)
def t942 (P : Params) : BT := .node (o313 P) .nil .nil
def t943 (P : Params) : BT := .node (o177 P) (t942 P) .nil
def t944 (P : Params) : BT := .node (o110 P) (t943 P) (t755 P)
def t945 (P : Params) : BT := .node (o38 P) (t941 P) (t944 P)
def t946 (P : Params) : BT := .node (o297 P) .nil .nil
def t947 (P : Params) : BT := .node (o161 P) (t946 P) .nil
def t948 (P : Params) : BT := .node (o91 P) (t947 P) (t593 P)
def t949 (P : Params) : BT := .node (o56 P) (t948 P) (t759 P)
def t950 (P : Params) : BT := .node (o19 P) (t945 P) (t949 P)
def t951 (P : Params) : BT := .node (o280 P) (t938 P) (t950 P)
def t952 (P : Params) : BT := .node (boot_o_4 P) (t926 P) (t951 P)
def t953 (P : Params) : BT := .node (o303 P) .nil .nil
def t954 (P : Params) : BT := .node (o167 P) (t953 P) .nil
def t955 (P : Params) : BT := .node (o97 P) (t954 P) (t767 P)
def t956 (P : Params) : BT := .node (o25 P) (t766 P) (t955 P)
def t957 (P : Params) : BT := .node (o287 P) .nil .nil
def t958 (P : Params) : BT := .node (o151 P) (t957 P) .nil
def t959 (P : Params) : BT := .node (o81 P) (t958 P) (t604 P)
def t960 (P : Params) : BT := .node (o319 P) .nil .nil
def t961 (P : Params) : BT := .node (o183 P) (t960 P) .nil
def t962 (P : Params) : BT := .node (o116 P) (t961 P) (t770 P)
def t963 (P : Params) : BT := .node (o46 P) (t959 P) (t962 P)
def t964 (P : Params) : BT := .node (o9 P) (t956 P) (t963 P)
def t965 (P : Params) : BT := .node (o311 P) .nil .nil
def t966 (P : Params) : BT := .node (o175 P) (t965 P) .nil
def t967 (P : Params) : BT := .node (o108 P) (t966 P) (t777 P)
def t968 (P : Params) : BT := .node (o36 P) (t776 P) (t967 P)
def t969 (P : Params) : BT := .node (o295 P) .nil .nil
def t970 (P : Params) : BT := .node (o159 P) (t969 P) .nil
def t971 (P : Params) : BT := .node (o89 P) (t970 P) (t611 P)
def t972 (P : Params) : BT := .node (o54 P) (t971 P) (t781 P)
def t973 (P : Params) : BT := .node (o17 P) (t968 P) (t972 P)
def t974 (P : Params) : BT := .node (boot_o_10 P) (t964 P) (t973 P)
def t975 (P : Params) : BT := .node (o307 P) .nil .nil
def t976 (P : Params) : BT := .node (o171 P) (t975 P) .nil
def t977 (P : Params) : BT := .node (o104 P) (t976 P) (t788 P)
def t978 (P : Params) : BT := .node (o32 P) (t787 P) (t977 P)
def t979 (P : Params) : BT := .node (o291 P) .nil .nil
def t980 (P : Params) : BT := .node (o155 P) (t979 P) .nil
def t981 (P : Params) : BT := .node (o85 P) (t980 P) (t621 P)
def t982 (P : Params) : BT := .node (o323 P) .nil .nil
def t983 (P : Params) : BT := .node (o190 P) (t982 P) .nil
def t984 (P : Params) : BT := .node (o120 P) (t983 P) (t791 P)
def t985 (P : Params) : BT := .node (o50 P) (t981 P) (t984 P)
def t986 (P : Params) : BT := .node (o13 P) (t978 P) (t985 P)
def t987 (P : Params) : BT := .node (o283 P) .nil .nil
def t988 (P : Params) : BT := .node (o147 P) (t987 P) .nil
def t989 (P : Params) : BT := .node (o77 P) (t988 P) (t627 P)
def t990 (P : Params) : BT := .node (o315 P) .nil .nil
def t991 (P : Params) : BT := .node (o179 P) (t990 P) .nil
def t992 (P : Params) : BT := .node (o112 P) (t991 P) (t795 P)
def t993 (P : Params) : BT := .node (o40 P) (t989 P) (t992 P)
def t994 (P : Params) : BT := .node (o299 P) .nil .nil
def t995 (P : Params) : BT := .node (o163 P) (t994 P) .nil
def t996 (P : Params) : BT := .node (o93 P) (t995 P) (t798 P)
def t997 (P : Params) : BT := .node (o61 P) (t996 P) (t801 P)
def t998 (P : Params) : BT := .node (o21 P) (t993 P) (t997 P)
def t999 (P : Params) : BT := .node (o3 P) (t986 P) (t998 P)
def t1000 (P : Params) : BT := .node (boot_o_6 P) (t974 P) (t999 P)
def t1001 (P : Params) : BT := .node (boot_o_2 P) (t952 P) (t1000 P)
def t1002 (P : Params) : BT := .node (boot_o_0 P) (t904 P) (t1001 P)
def sb9 (w : World) (os : OsState) : SharedT := ⟨(t1002 w.params), 312, (Life.mk [] [] [] 0 [] [] Bool.false #[] [] 0 Bool.false Bool.false Bool.false (0 : Int) [(2000 : Int), (10 : Int), (10 : Int)] Bool.false 0 Bool.true [] [] 0 Bool.false), ⟨[]⟩, (Drawn.mk 0 0 0 0), 586, os⟩
def L8 (w : World) (os : OsState) : Option (Flow × SharedT × Code × Pos) := segRunT treeTable PySem.Challenge.pw_beatless_k08_whole_programs_let_by w 11 an 1 255 (sb8 w os) (piecesOf sts8 env cE (Pos.mk 96 0 96 8) B)
def R8 (w : World) (os : OsState) : Option (Flow × SharedT × Code × Pos) := some (.next, sb9 w os, cE, (Pos.mk 128 0 129 53))
theorem q8 : tt (Hd.L8, Hd.R8) = true := by k_qdec
theorem r8 : ∀ w, PySem.W.Fast.tw7116466485190837356 w = PySem.W.Fast.tw7334724712773792873 w := fun w => by kernel_rfl
theorem e8 (w : World) (os : OsState) : Hd.L8 w os = Hd.R8 w os :=
  (congrFun (congrFun PySem.W.Fast.te7116466485190837356 w) os).trans ((congrFun (r8 w) os).trans (congrFun (congrFun PySem.W.Fast.te7334724712773792873 w) os).symm)
def sts9 : List Stmt := [S 26, S 27, S 28]
def o325 (P : Params) : Obj := (Obj.mk (.type "dict") (Option.none) (Data.dict #[en P "__name__" 165 (.str "law_beatless_k08_whole_programs_let_by" 654), en P "__doc__" 166 .none, en P "__package__" 167 .none, en P "__loader__" 168 (.builtin "__main__.__loader__#opaque"), en P "__spec__" 169 .none, en P "__annotations__" 170 (.ref 6), en P "__builtins__" 171 (.ref 4), en P "__file__" 173 (.str "/claim/cut.py" 172), en P "__cached__" 174 .none, en P "_wall" 193 (.ref 21), en P "BeatlessError" 213 (.ref 31), en P "NoProgram" 229 (.ref 44), en P "Expr" 251 (.ref 56), en P "Num" 298 (.ref 98), en P "Name" 345 (.ref 138), en P "Two" 398 (.ref 178), en P "Mod" 447 (.ref 218), en P "Less" 500 (.ref 258), en P "is_whole" 509 (.ref 267), en P "START_NAMES" 514 (.ref 268), en P "SEND_NAMES" 520 (.ref 269), en P "RENEW_NAMES" 529 (.ref 270), en P "TWO_WORDS" 534 (.ref 271), en P "MOST_WORDS" 536 (.int (60 : Int) 535), en P "MOST_DEEP" 538 (.int (8 : Int) 537), en P "is_short_number" 545 (.ref 278), en P "is_word_of" 553 (.ref 285), en P "is_divisor" 560 (.ref 292), en P "are_sound" 570 (.ref 299), en P "is_sound" 579 (.ref 306), en P "count_words" 585 (.ref 311), en P "Program" 653 (.ref 349), en P "_law_cell_at" 663 (.ref 360)] 33) #[])
def o326 (P : Params) : Obj := (Obj.mk .none (Option.none) (Data.fields #[(.int (1 : Int) 0), (.int (0 : Int) 0), (.ref 20), (.int (5 : Int) 0), (.int (0 : Int) 0), (.ref 27), (.int (7 : Int) 0), (.int (0 : Int) 0), (.ref 40), (.int (10 : Int) 0), (.int (0 : Int) 0), (.ref 52), (.int (12 : Int) 0), (.int (0 : Int) 0), (.ref 66), (.int (25 : Int) 0), (.int (0 : Int) 0), (.ref 106), (.int (38 : Int) 0), (.int (0 : Int) 0), (.ref 146), (.int (61 : Int) 0), (.int (0 : Int) 0), (.ref 186), (.int (75 : Int) 0), (.int (0 : Int) 0), (.ref 226), (.int (94 : Int) 0), (.int (0 : Int) 0), (.ref 266), (.int (103 : Int) 0), (.int (0 : Int) 0), (.ref 277), (.int (105 : Int) 0), (.int (0 : Int) 0), (.ref 284), (.int (107 : Int) 0), (.int (0 : Int) 0), (.ref 291), (.int (109 : Int) 0), (.int (0 : Int) 0), (.ref 298), (.int (114 : Int) 0), (.int (0 : Int) 0), (.ref 305), (.int (128 : Int) 0), (.int (0 : Int) 0), (.ref 310), (.int (130 : Int) 0), (.int (0 : Int) 0), (.ref 317), (.int (155 : Int) 0), (.int (0 : Int) 0), (.ref 359)]) #[])
def o327 (P : Params) : Obj := (Obj.mk (.type "tuple") (Option.none) (Data.seq #[] 0) #[])
def o328 (P : Params) : Obj := (Obj.mk (.type "builtin_function_or_method") (Option.none) (Data.fields #[(.builtin "type.__prepare__"), (.type "type")]) #[])
def o329 (P : Params) : Obj := (Obj.mk (.type "dict") (Option.none) (Data.dict #[en P "__module__" 593 (.str "beatless.programs" 510), en P "__qualname__" 595 (.str "Program" 594), en P "__firstlineno__" 597 (.int (130 : Int) 596), en P "__init__" 608 (.ref 325), en P "first_worth" 617 (.ref 332), en P "word_to" 629 (.ref 339), en P "next_worth" 641 (.ref 346), en P "__static_attributes__" 646 (.ref 347)] 8) #[])
def o330 (P : Params) : Obj := (Obj.mk (.type "tuple") (Option.none) (Data.seq #[] 0) #[])
def o331 (P : Params) : Obj := (Obj.mk .none (Option.none) (Data.fields #[(.int (132 : Int) 0), (.int (4 : Int) 0), (.ref 324), (.int (146 : Int) 0), (.int (4 : Int) 0), (.ref 331), (.int (149 : Int) 0), (.int (4 : Int) 0), (.ref 338), (.int (152 : Int) 0), (.int (4 : Int) 0), (.ref 345)]) #[])
def o332 (P : Params) : Obj := (Obj.mk (.type "code") (Option.none) (Data.fields #[(.str "Program" 588), (.str "Program" 589), (.str "/claim/cut.py" 590), (.int (130 : Int) 0), (.int (0 : Int) 0), (.int (0 : Int) 0), (.int (0 : Int) 0), (.int (0 : Int) 0), (.ref 315), (.bool Bool.false), (.int (181 : Int) 0), (.ref 316), .none, .none, .none, .none, (.int (591 : Int) 0), (.int (130 : Int) 0), (.str "/claim/cut.py" 592)]) #[])
def o333 (P : Params) : Obj := (Obj.mk (.type "frame") (Option.none) Data.plain #[(Option.some (.ref 317)), (Option.some (.ref 3)), (Option.some (.ref 314)), (Option.none), (Option.some (.str "beatless.programs" 510)), (Option.none), (Option.some (.ref 0))])
def o334 (P : Params) : Obj := (Obj.mk (.type "tuple") (Option.none) (Data.seq #[] 0) #[])
def o335 (P : Params) : Obj := (Obj.mk .none (Option.none) (Data.fields #[]) #[])
def o336 (P : Params) : Obj := (Obj.mk (.type "tuple") (Option.none) (Data.seq #[(.str "self" 601), (.str "start" 602), (.str "send" 603), (.str "when" 604), (.str "renew" 605)] 0) #[])
def o337 (P : Params) : Obj := (Obj.mk (.type "tuple") (Option.none) (Data.seq #[] 0) #[])
def o338 (P : Params) : Obj := (Obj.mk .none (Option.none) (Data.func (fd "__init__" "Program.__init__" (L2.inClass (S 26) 0) 0 [] .none .none .none .none (Option.none) .none .none 0)) #[])
def o339 (P : Params) : Obj := (Obj.mk (.type "code") (Option.none) (Data.fields #[(.str "__init__" 598), (.str "Program.__init__" 599), (.str "/claim/cut.py" 600), (.int (132 : Int) 0), (.int (5 : Int) 0), (.int (0 : Int) 0), (.int (0 : Int) 0), (.int (3 : Int) 0), (.ref 319), (.bool Bool.true), (.int (181 : Int) 0), (.ref 320), .none, (.ref 321), (.ref 322), (.ref 323), (.int (606 : Int) 0), (.int (132 : Int) 0), (.str "/claim/cut.py" 607)]) #[])
def o340 (P : Params) : Obj := (Obj.mk (.type "function") (Option.none) (Data.func (fd "__init__" "Program.__init__" (L2.inClass (S 26) 0) 3 [] .none .none .none (.str "beatless.programs" 510) (Option.none) (.ref 324) .none 0)) #[])
def o341 (P : Params) : Obj := (Obj.mk (.type "tuple") (Option.none) (Data.seq #[] 0) #[])
def o342 (P : Params) : Obj := (Obj.mk .none (Option.none) (Data.fields #[]) #[])
def o343 (P : Params) : Obj := (Obj.mk (.type "tuple") (Option.none) (Data.seq #[(.str "self" 612), (.str "hand" 613), (.str "lines" 614)] 0) #[])
def o344 (P : Params) : Obj := (Obj.mk (.type "tuple") (Option.none) (Data.seq #[] 0) #[])
def o345 (P : Params) : Obj := (Obj.mk .none (Option.none) (Data.func (fd "first_worth" "Program.first_worth" (L2.inClass (S 26) 1) 0 [] .none .none .none .none (Option.none) .none .none 0)) #[])
def o346 (P : Params) : Obj := (Obj.mk (.type "code") (Option.none) (Data.fields #[(.str "first_worth" 609), (.str "Program.first_worth" 610), (.str "/claim/cut.py" 611), (.int (146 : Int) 0), (.int (3 : Int) 0), (.int (0 : Int) 0), (.int (0 : Int) 0), (.int (3 : Int) 0), (.ref 326), (.bool Bool.true), (.int (181 : Int) 0), (.ref 327), .none, (.ref 328), (.ref 329), (.ref 330), (.int (615 : Int) 0), (.int (146 : Int) 0), (.str "/claim/cut.py" 616)]) #[])
def o347 (P : Params) : Obj := (Obj.mk (.type "function") (Option.none) (Data.func (fd "first_worth" "Program.first_worth" (L2.inClass (S 26) 1) 3 [] .none .none .none (.str "beatless.programs" 510) (Option.none) (.ref 331) .none 0)) #[])
def o348 (P : Params) : Obj := (Obj.mk (.type "tuple") (Option.none) (Data.seq #[] 0) #[])
def o349 (P : Params) : Obj := (Obj.mk .none (Option.none) (Data.fields #[]) #[])
def o350 (P : Params) : Obj := (Obj.mk (.type "tuple") (Option.none) (Data.seq #[(.str "self" 621), (.str "worth" 622), (.str "hand" 623), (.str "turn" 624), (.str "lines" 625), (.str "other" 626)] 0) #[])
def o351 (P : Params) : Obj := (Obj.mk (.type "tuple") (Option.none) (Data.seq #[] 0) #[])
def o352 (P : Params) : Obj := (Obj.mk .none (Option.none) (Data.func (fd "word_to" "Program.word_to" (L2.inClass (S 26) 2) 0 [] .none .none .none .none (Option.none) .none .none 0)) #[])
def o353 (P : Params) : Obj := (Obj.mk (.type "code") (Option.none) (Data.fields #[(.str "word_to" 618), (.str "Program.word_to" 619), (.str "/claim/cut.py" 620), (.int (149 : Int) 0), (.int (6 : Int) 0), (.int (0 : Int) 0), (.int (0 : Int) 0), (.int (3 : Int) 0), (.ref 333), (.bool Bool.true), (.int (181 : Int) 0), (.ref 334), .none, (.ref 335), (.ref 336), (.ref 337), (.int (627 : Int) 0), (.int (149 : Int) 0), (.str "/claim/cut.py" 628)]) #[])
def o354 (P : Params) : Obj := (Obj.mk (.type "function") (Option.none) (Data.func (fd "word_to" "Program.word_to" (L2.inClass (S 26) 2) 3 [] .none .none .none (.str "beatless.programs" 510) (Option.none) (.ref 338) .none 0)) #[])
def o355 (P : Params) : Obj := (Obj.mk (.type "tuple") (Option.none) (Data.seq #[] 0) #[])
def o356 (P : Params) : Obj := (Obj.mk .none (Option.none) (Data.fields #[]) #[])
def o357 (P : Params) : Obj := (Obj.mk (.type "tuple") (Option.none) (Data.seq #[(.str "self" 633), (.str "worth" 634), (.str "hand" 635), (.str "turn" 636), (.str "lines" 637), (.str "heard" 638)] 0) #[])
def o358 (P : Params) : Obj := (Obj.mk (.type "tuple") (Option.none) (Data.seq #[] 0) #[])
def o359 (P : Params) : Obj := (Obj.mk .none (Option.none) (Data.func (fd "next_worth" "Program.next_worth" (L2.inClass (S 26) 3) 0 [] .none .none .none .none (Option.none) .none .none 0)) #[])
def o360 (P : Params) : Obj := (Obj.mk (.type "code") (Option.none) (Data.fields #[(.str "next_worth" 630), (.str "Program.next_worth" 631), (.str "/claim/cut.py" 632), (.int (152 : Int) 0), (.int (6 : Int) 0), (.int (0 : Int) 0), (.int (0 : Int) 0), (.int (3 : Int) 0), (.ref 340), (.bool Bool.true), (.int (181 : Int) 0), (.ref 341), .none, (.ref 342), (.ref 343), (.ref 344), (.int (639 : Int) 0), (.int (152 : Int) 0), (.str "/claim/cut.py" 640)]) #[])
def o361 (P : Params) : Obj := (Obj.mk (.type "function") (Option.none) (Data.func (fd "next_worth" "Program.next_worth" (L2.inClass (S 26) 3) 3 [] .none .none .none (.str "beatless.programs" 510) (Option.none) (.ref 345) .none 0)) #[])
def o362 (P : Params) : Obj := (Obj.mk (.type "tuple") (Option.none) (Data.seq #[(.str "renew" 642), (.str "send" 643), (.str "start" 644), (.str "when" 645)] 0) #[])
def o363 (P : Params) : Obj := (Obj.mk (.type "dict") (Option.none) (Data.dict #[en P "__module__" 593 (.str "beatless.programs" 510), en P "__firstlineno__" 597 (.int (130 : Int) 596), en P "__init__" 608 (.ref 325), en P "first_worth" 617 (.ref 332), en P "word_to" 629 (.ref 339), en P "next_worth" 641 (.ref 346), en P "__static_attributes__" 646 (.ref 347), en P "__dict__" 648 (.ref 350), en P "__weakref__" 650 (.ref 351), en P "__doc__" 651 .none] 4) #[])
def o364 (P : Params) : Obj := (Obj.mk (.type "type") (Option.none) (Data.cls (ClassData.mk "Program" [(.type "object")] [(.ref 349), (.type "object")] 348 "Program" Bool.true [] [] Bool.false (Option.none) Bool.false)) #[(Option.none), (Option.none), (Option.some (.str "Program" 586)), (Option.some (.str "Program" 594)), (Option.some (.builtin "object.__new__")), (Option.some (.bool Bool.true))])
def o365 (P : Params) : Obj := (Obj.mk (.type "getset_descriptor") (Option.none) (Data.fields #[(.str "__dict__" 647), (.ref 349), (.builtin "function.__dict__"), (.builtin "function.__dict__#set")]) #[])
def o366 (P : Params) : Obj := (Obj.mk (.type "getset_descriptor") (Option.none) (Data.fields #[(.str "__weakref__" 649), (.ref 349), (.builtin "ExceptionGroup.__weakref__"), .none]) #[])
def o367 (P : Params) : Obj := (Obj.mk (.type "super") (Option.none) (Data.fields #[(.ref 349), (.ref 349), (.ref 349)]) #[])
def o368 (P : Params) : Obj := (Obj.mk (.type "builtin_function_or_method") (Option.none) (Data.fields #[(.builtin "object.__init_subclass__"), (.ref 349)]) #[])
def o369 (P : Params) : Obj := (Obj.mk (.type "tuple") (Option.none) (Data.seq #[] 0) #[])
def o370 (P : Params) : Obj := (Obj.mk .none (Option.none) (Data.fields #[]) #[])
def o371 (P : Params) : Obj := (Obj.mk (.type "tuple") (Option.none) (Data.seq #[(.str "_law_script" 659), (.str "_law_k" 660)] 0) #[])
def o372 (P : Params) : Obj := (Obj.mk (.type "tuple") (Option.none) (Data.seq #[] 0) #[])
def o373 (P : Params) : Obj := (Obj.mk .none (Option.none) (Data.func (fd "_law_cell_at" "_law_cell_at" (S 28) 0 [] .none .none .none .none (Option.none) .none .none 0)) #[])
def o374 (P : Params) : Obj := (Obj.mk (.type "code") (Option.none) (Data.fields #[(.str "_law_cell_at" 656), (.str "_law_cell_at" 657), (.str "/claim/cut.py" 658), (.int (155 : Int) 0), (.int (2 : Int) 0), (.int (0 : Int) 0), (.int (0 : Int) 0), (.int (3 : Int) 0), (.ref 354), (.bool Bool.true), (.int (181 : Int) 0), (.ref 355), .none, (.ref 356), (.ref 357), (.ref 358), (.int (661 : Int) 0), (.int (155 : Int) 0), (.str "/claim/cut.py" 662)]) #[])
def o375 (P : Params) : Obj := (Obj.mk (.type "function") (Option.none) (Data.func (fd "_law_cell_at" "_law_cell_at" (S 28) 3 [] .none .none .none (.str "law_beatless_k08_whole_programs_let_by" 654) (Option.none) (.ref 359) .none 0)) #[])
def t1003 (P : Params) : BT := .node (o334 P) .nil .nil
def t1004 (P : Params) : BT := .node (o199 P) (t1003 P) .nil
def t1005 (P : Params) : BT := .node (o62 P) (t639 P) (t1004 P)
def t1006 (P : Params) : BT := .node (o366 P) .nil .nil
def t1007 (P : Params) : BT := .node (o234 P) (t1006 P) .nil
def t1008 (P : Params) : BT := .node (o94 P) (t809 P) (t1007 P)
def t1009 (P : Params) : BT := .node (o28 P) (t1005 P) (t1008 P)
def t1010 (P : Params) : BT := .node (o350 P) .nil .nil
def t1011 (P : Params) : BT := .node (o215 P) (t1010 P) .nil
def t1012 (P : Params) : BT := .node (o78 P) (t813 P) (t1011 P)
def t1013 (P : Params) : BT := .node (o43 P) (t1012 P) (t817 P)
def t1014 (P : Params) : BT := .node (o6 P) (t1009 P) (t1013 P)
def t1015 (P : Params) : BT := .node (o342 P) .nil .nil
def t1016 (P : Params) : BT := .node (o207 P) (t1015 P) .nil
def t1017 (P : Params) : BT := .node (o70 P) (t649 P) (t1016 P)
def t1018 (P : Params) : BT := .node (o374 P) .nil .nil
def t1019 (P : Params) : BT := .node (o242 P) (t1018 P) .nil
def t1020 (P : Params) : BT := .node (o105 P) (t821 P) (t1019 P)
def t1021 (P : Params) : BT := .node (o33 P) (t1017 P) (t1020 P)
def t1022 (P : Params) : BT := .node (o358 P) .nil .nil
def t1023 (P : Params) : BT := .node (o223 P) (t1022 P) .nil
def t1024 (P : Params) : BT := .node (o86 P) (t825 P) (t1023 P)
def t1025 (P : Params) : BT := .node (o51 P) (t1024 P) (t829 P)
def t1026 (P : Params) : BT := .node (o14 P) (t1021 P) (t1025 P)
def t1027 (P : Params) : BT := .node (boot_o_7 P) (t1014 P) (t1026 P)
def t1028 (P : Params) : BT := .node (o338 P) .nil .nil
def t1029 (P : Params) : BT := .node (o203 P) (t1028 P) .nil
def t1030 (P : Params) : BT := .node (o66 P) (t660 P) (t1029 P)
def t1031 (P : Params) : BT := .node (o370 P) .nil .nil
def t1032 (P : Params) : BT := .node (o238 P) (t1031 P) .nil
def t1033 (P : Params) : BT := .node (o98 P) (t834 P) (t1032 P)
def t1034 (P : Params) : BT := .node (o29 P) (t1030 P) (t1033 P)
def t1035 (P : Params) : BT := .node (o354 P) .nil .nil
def t1036 (P : Params) : BT := .node (o219 P) (t1035 P) .nil
def t1037 (P : Params) : BT := .node (o82 P) (t838 P) (t1036 P)
def t1038 (P : Params) : BT := .node (o47 P) (t1037 P) (t842 P)
def t1039 (P : Params) : BT := .node (o10 P) (t1034 P) (t1038 P)
def t1040 (P : Params) : BT := .node (o346 P) .nil .nil
def t1041 (P : Params) : BT := .node (o211 P) (t1040 P) .nil
def t1042 (P : Params) : BT := .node (o74 P) (t670 P) (t1041 P)
def t1043 (P : Params) : BT := .node (o37 P) (t1042 P) (t847 P)
def t1044 (P : Params) : BT := .node (o362 P) .nil .nil
def t1045 (P : Params) : BT := .node (o227 P) (t1044 P) .nil
def t1046 (P : Params) : BT := .node (o90 P) (t850 P) (t1045 P)
def t1047 (P : Params) : BT := .node (o330 P) .nil .nil
def t1048 (P : Params) : BT := .node (o195 P) (t1047 P) .nil
def t1049 (P : Params) : BT := .node (o125 P) (t1048 P) (t675 P)
def t1050 (P : Params) : BT := .node (o55 P) (t1046 P) (t1049 P)
def t1051 (P : Params) : BT := .node (o18 P) (t1043 P) (t1050 P)
def t1052 (P : Params) : BT := .node (o0 P) (t1039 P) (t1051 P)
def t1053 (P : Params) : BT := .node (o325 P) (t1027 P) (t1052 P)
def t1054 (P : Params) : BT := .node (o336 P) .nil .nil
def t1055 (P : Params) : BT := .node (o201 P) (t1054 P) .nil
def t1056 (P : Params) : BT := .node (o64 P) (t682 P) (t1055 P)
def t1057 (P : Params) : BT := .node (o368 P) .nil .nil
def t1058 (P : Params) : BT := .node (o236 P) (t1057 P) .nil
def t1059 (P : Params) : BT := .node (o96 P) (t857 P) (t1058 P)
def t1060 (P : Params) : BT := .node (o24 P) (t1056 P) (t1059 P)
def t1061 (P : Params) : BT := .node (o352 P) .nil .nil
def t1062 (P : Params) : BT := .node (o217 P) (t1061 P) .nil
def t1063 (P : Params) : BT := .node (o80 P) (t861 P) (t1062 P)
def t1064 (P : Params) : BT := .node (o45 P) (t1063 P) (t865 P)
def t1065 (P : Params) : BT := .node (o8 P) (t1060 P) (t1064 P)
def t1066 (P : Params) : BT := .node (o344 P) .nil .nil
def t1067 (P : Params) : BT := .node (o209 P) (t1066 P) .nil
def t1068 (P : Params) : BT := .node (o72 P) (t692 P) (t1067 P)
def t1069 (P : Params) : BT := .node (o35 P) (t1068 P) (t870 P)
def t1070 (P : Params) : BT := .node (o360 P) .nil .nil
def t1071 (P : Params) : BT := .node (o225 P) (t1070 P) .nil
def t1072 (P : Params) : BT := .node (o88 P) (t873 P) (t1071 P)
def t1073 (P : Params) : BT := .node (o328 P) .nil .nil
def t1074 (P : Params) : BT := .node (o193 P) (t1073 P) .nil
def t1075 (P : Params) : BT := .node (o123 P) (t1074 P) (t697 P)
def t1076 (P : Params) : BT := .node (o53 P) (t1072 P) (t1075 P)
def t1077 (P : Params) : BT := .node (o16 P) (t1069 P) (t1076 P)
def t1078 (P : Params) : BT := .node (boot_o_9 P) (t1065 P) (t1077 P)
def t1079 (P : Params) : BT := .node (o340 P) .nil .nil
def t1080 (P : Params) : BT := .node (o205 P) (t1079 P) .nil
def t1081 (P : Params) : BT := .node (o68 P) (t703 P) (t1080 P)
def t1082 (P : Params) : BT := .node (o372 P) .nil .nil
def t1083 (P : Params) : BT := .node (o240 P) (t1082 P) .nil
def t1084 (P : Params) : BT := .node (o103 P) (t879 P) (t1083 P)
def t1085 (P : Params) : BT := .node (o31 P) (t1081 P) (t1084 P)
def t1086 (P : Params) : BT := .node (o356 P) .nil .nil
def t1087 (P : Params) : BT := .node (o221 P) (t1086 P) .nil
def t1088 (P : Params) : BT := .node (o84 P) (t883 P) (t1087 P)
def t1089 (P : Params) : BT := .node (o49 P) (t1088 P) (t887 P)
def t1090 (P : Params) : BT := .node (o12 P) (t1085 P) (t1089 P)
def t1091 (P : Params) : BT := .node (o348 P) .nil .nil
def t1092 (P : Params) : BT := .node (o213 P) (t1091 P) .nil
def t1093 (P : Params) : BT := .node (o76 P) (t891 P) (t1092 P)
def t1094 (P : Params) : BT := .node (o39 P) (t1093 P) (t895 P)
def t1095 (P : Params) : BT := .node (o364 P) .nil .nil
def t1096 (P : Params) : BT := .node (o232 P) (t1095 P) .nil
def t1097 (P : Params) : BT := .node (o92 P) (t898 P) (t1096 P)
def t1098 (P : Params) : BT := .node (o332 P) .nil .nil
def t1099 (P : Params) : BT := .node (o197 P) (t1098 P) .nil
def t1100 (P : Params) : BT := .node (o127 P) (t1099 P) (t717 P)
def t1101 (P : Params) : BT := .node (o60 P) (t1097 P) (t1100 P)
def t1102 (P : Params) : BT := .node (o20 P) (t1094 P) (t1101 P)
def t1103 (P : Params) : BT := .node (o2 P) (t1090 P) (t1102 P)
def t1104 (P : Params) : BT := .node (boot_o_5 P) (t1078 P) (t1103 P)
def t1105 (P : Params) : BT := .node (boot_o_1 P) (t1053 P) (t1104 P)
def t1106 (P : Params) : BT := .node (o335 P) .nil .nil
def t1107 (P : Params) : BT := .node (o200 P) (t1106 P) .nil
def t1108 (P : Params) : BT := .node (o63 P) (t725 P) (t1107 P)
def t1109 (P : Params) : BT := .node (o367 P) .nil .nil
def t1110 (P : Params) : BT := .node (o235 P) (t1109 P) .nil
def t1111 (P : Params) : BT := .node (o95 P) (t906 P) (t1110 P)
def t1112 (P : Params) : BT := .node (o23 P) (t1108 P) (t1111 P)
def t1113 (P : Params) : BT := .node (o351 P) .nil .nil
def t1114 (P : Params) : BT := .node (o216 P) (t1113 P) .nil
def t1115 (P : Params) : BT := .node (o79 P) (t910 P) (t1114 P)
def t1116 (P : Params) : BT := .node (o44 P) (t1115 P) (t914 P)
def t1117 (P : Params) : BT := .node (o7 P) (t1112 P) (t1116 P)
def t1118 (P : Params) : BT := .node (o343 P) .nil .nil
def t1119 (P : Params) : BT := .node (o208 P) (t1118 P) .nil
def t1120 (P : Params) : BT := .node (o71 P) (t735 P) (t1119 P)
def t1121 (P : Params) : BT := .node (o375 P) .nil .nil
def t1122 (P : Params) : BT := .node (o243 P) (t1121 P) .nil
def t1123 (P : Params) : BT := .node (o106 P) (t918 P) (t1122 P)
def t1124 (P : Params) : BT := .node (o34 P) (t1120 P) (t1123 P)
def t1125 (P : Params) : BT := .node (o359 P) .nil .nil
def t1126 (P : Params) : BT := .node (o224 P) (t1125 P) .nil
def t1127 (P : Params) : BT := .node (o87 P) (t922 P) (t1126 P)
def t1128 (P : Params) : BT := .node (o327 P) .nil .nil
def t1129 (P : Params) : BT := .node (o192 P) (t1128 P) .nil
def t1130 (P : Params) : BT := .node (o122 P) (t1129 P) (t740 P)
def t1131 (P : Params) : BT := .node (o231 P) (t1127 P) (t1130 P)
def t1132 (P : Params) : BT := .node (o15 P) (t1124 P) (t1131 P)
def t1133 (P : Params) : BT := .node (boot_o_8 P) (t1117 P) (t1132 P)
def t1134 (P : Params) : BT := .node (o339 P) .nil .nil
def t1135 (P : Params) : BT := .node (o204 P) (t1134 P) .nil
def t1136 (P : Params) : BT := .node (o67 P) (t746 P) (t1135 P)
def t1137 (P : Params) : BT := .node (o371 P) .nil .nil
def t1138 (P : Params) : BT := .node (o239 P) (t1137 P) .nil
def t1139 (P : Params) : BT := .node (o99 P) (t928 P) (t1138 P)
def t1140 (P : Params) : BT := .node (o30 P) (t1136 P) (t1139 P)
def t1141 (P : Params) : BT := .node (o355 P) .nil .nil
def t1142 (P : Params) : BT := .node (o220 P) (t1141 P) .nil
def t1143 (P : Params) : BT := .node (o83 P) (t932 P) (t1142 P)
def t1144 (P : Params) : BT := .node (o48 P) (t1143 P) (t936 P)
def t1145 (P : Params) : BT := .node (o11 P) (t1140 P) (t1144 P)
def t1146 (P : Params) : BT := .node (o347 P) .nil .nil
def t1147 (P : Params) : BT := .node (o212 P) (t1146 P) .nil
def t1148 (P : Params) : BT := .node (o75 P) (t940 P) (t1147 P)
def t1149 (P : Params) : BT := .node (o38 P) (t1148 P) (t944 P)
def t1150 (P : Params) : BT := .node (o363 P) .nil .nil
def t1151 (P : Params) : BT := .node (o228 P) (t1150 P) .nil
def t1152 (P : Params) : BT := .node (o91 P) (t947 P) (t1151 P)
def t1153 (P : Params) : BT := .node (o331 P) .nil .nil
def t1154 (P : Params) : BT := .node (o196 P) (t1153 P) .nil
def t1155 (P : Params) : BT := .node (o126 P) (t1154 P) (t758 P)
def t1156 (P : Params) : BT := .node (o56 P) (t1152 P) (t1155 P)
def t1157 (P : Params) : BT := .node (o19 P) (t1149 P) (t1156 P)
def t1158 (P : Params) : BT := .node (o326 P) (t1145 P) (t1157 P)
def t1159 (P : Params) : BT := .node (boot_o_4 P) (t1133 P) (t1158 P)
def t1160 (P : Params) : BT := .node (o337 P) .nil .nil
def t1161 (P : Params) : BT := .node (o202 P) (t1160 P) .nil
def t1162 (P : Params) : BT := .node (o65 P) (t765 P) (t1161 P)
def t1163 (P : Params) : BT := .node (o369 P) .nil .nil
def t1164 (P : Params) : BT := .node (o237 P) (t1163 P) .nil
def t1165 (P : Params) : BT := .node (o97 P) (t954 P) (t1164 P)
def t1166 (P : Params) : BT := .node (o25 P) (t1162 P) (t1165 P)
def t1167 (P : Params) : BT := .node (o353 P) .nil .nil
def t1168 (P : Params) : BT := .node (o218 P) (t1167 P) .nil
def t1169 (P : Params) : BT := .node (o81 P) (t958 P) (t1168 P)
def t1170 (P : Params) : BT := .node (o46 P) (t1169 P) (t962 P)
def t1171 (P : Params) : BT := .node (o9 P) (t1166 P) (t1170 P)
def t1172 (P : Params) : BT := .node (o345 P) .nil .nil
def t1173 (P : Params) : BT := .node (o210 P) (t1172 P) .nil
def t1174 (P : Params) : BT := .node (o73 P) (t775 P) (t1173 P)
def t1175 (P : Params) : BT := .node (o36 P) (t1174 P) (t967 P)
def t1176 (P : Params) : BT := .node (o361 P) .nil .nil
def t1177 (P : Params) : BT := .node (o226 P) (t1176 P) .nil
def t1178 (P : Params) : BT := .node (o89 P) (t970 P) (t1177 P)
def t1179 (P : Params) : BT := .node (o329 P) .nil .nil
def t1180 (P : Params) : BT := .node (o194 P) (t1179 P) .nil
def t1181 (P : Params) : BT := .node (o124 P) (t1180 P) (t780 P)
def t1182 (P : Params) : BT := .node (o54 P) (t1178 P) (t1181 P)
def t1183 (P : Params) : BT := .node (o17 P) (t1175 P) (t1182 P)
def t1184 (P : Params) : BT := .node (boot_o_10 P) (t1171 P) (t1183 P)
def t1185 (P : Params) : BT := .node (o341 P) .nil .nil
def t1186 (P : Params) : BT := .node (o206 P) (t1185 P) .nil
def t1187 (P : Params) : BT := .node (o69 P) (t786 P) (t1186 P)
def t1188 (P : Params) : BT := .node (o373 P) .nil .nil
def t1189 (P : Params) : BT := .node (o241 P) (t1188 P) .nil
def t1190 (P : Params) : BT := .node (o104 P) (t976 P) (t1189 P)
def t1191 (P : Params) : BT := .node (o32 P) (t1187 P) (t1190 P)
def t1192 (P : Params) : BT := .node (o357 P) .nil .nil
def t1193 (P : Params) : BT := .node (o222 P) (t1192 P) .nil
def t1194 (P : Params) : BT := .node (o85 P) (t980 P) (t1193 P)
def t1195 (P : Params) : BT := .node (o50 P) (t1194 P) (t984 P)
def t1196 (P : Params) : BT := .node (o13 P) (t1191 P) (t1195 P)
def t1197 (P : Params) : BT := .node (o349 P) .nil .nil
def t1198 (P : Params) : BT := .node (o214 P) (t1197 P) .nil
def t1199 (P : Params) : BT := .node (o77 P) (t988 P) (t1198 P)
def t1200 (P : Params) : BT := .node (o40 P) (t1199 P) (t992 P)
def t1201 (P : Params) : BT := .node (o365 P) .nil .nil
def t1202 (P : Params) : BT := .node (o233 P) (t1201 P) .nil
def t1203 (P : Params) : BT := .node (o93 P) (t995 P) (t1202 P)
def t1204 (P : Params) : BT := .node (o333 P) .nil .nil
def t1205 (P : Params) : BT := .node (o198 P) (t1204 P) .nil
def t1206 (P : Params) : BT := .node (o128 P) (t1205 P) (t800 P)
def t1207 (P : Params) : BT := .node (o61 P) (t1203 P) (t1206 P)
def t1208 (P : Params) : BT := .node (o21 P) (t1200 P) (t1207 P)
def t1209 (P : Params) : BT := .node (o3 P) (t1196 P) (t1208 P)
def t1210 (P : Params) : BT := .node (boot_o_6 P) (t1184 P) (t1209 P)
def t1211 (P : Params) : BT := .node (boot_o_2 P) (t1159 P) (t1210 P)
def t1212 (P : Params) : BT := .node (boot_o_0 P) (t1105 P) (t1211 P)
def sb10 (w : World) (os : OsState) : SharedT := ⟨(t1212 w.params), 361, (Life.mk [] [] [] 0 [] [] Bool.false #[] [] 0 Bool.false Bool.false Bool.false (0 : Int) [(2000 : Int), (10 : Int), (10 : Int)] Bool.false 0 Bool.true [] [] 0 Bool.false), ⟨[]⟩, (Drawn.mk 0 0 0 0), 664, os⟩
def L9 (w : World) (os : OsState) : Option (Flow × SharedT × Code × Pos) := segRunT treeTable PySem.Challenge.pw_beatless_k08_whole_programs_let_by w 11 an 1 373 (sb9 w os) (piecesOf sts9 env cE (Pos.mk 128 0 129 53) B)
def R9 (w : World) (os : OsState) : Option (Flow × SharedT × Code × Pos) := some (.next, sb10 w os, cE, (Pos.mk 155 0 158 12))
theorem q9 : tt (Hd.L9, Hd.R9) = true := by k_qdec
theorem r9 : ∀ w, PySem.W.Fast.tw16134767483146388640 w = PySem.W.Fast.tw11929225935839250262 w := fun w => by kernel_rfl
theorem e9 (w : World) (os : OsState) : Hd.L9 w os = Hd.R9 w os :=
  (congrFun (congrFun PySem.W.Fast.te16134767483146388640 w) os).trans ((congrFun (r9 w) os).trans (congrFun (congrFun PySem.W.Fast.te11929225935839250262 w) os).symm)
def sts10 : List Stmt := [S 29, S 30, S 31, S 32, S 33, S 34, S 35, S 36]
def o376 (P : Params) : Obj := (Obj.mk (.type "dict") (Option.none) (Data.dict #[en P "__name__" 165 (.str "law_beatless_k08_whole_programs_let_by" 654), en P "__doc__" 166 .none, en P "__package__" 167 .none, en P "__loader__" 168 (.builtin "__main__.__loader__#opaque"), en P "__spec__" 169 .none, en P "__annotations__" 170 (.ref 6), en P "__builtins__" 171 (.ref 4), en P "__file__" 173 (.str "/claim/cut.py" 172), en P "__cached__" 174 .none, en P "_wall" 193 (.ref 21), en P "BeatlessError" 213 (.ref 31), en P "NoProgram" 229 (.ref 44), en P "Expr" 251 (.ref 56), en P "Num" 298 (.ref 98), en P "Name" 345 (.ref 138), en P "Two" 398 (.ref 178), en P "Mod" 447 (.ref 218), en P "Less" 500 (.ref 258), en P "is_whole" 509 (.ref 267), en P "START_NAMES" 514 (.ref 268), en P "SEND_NAMES" 520 (.ref 269), en P "RENEW_NAMES" 529 (.ref 270), en P "TWO_WORDS" 534 (.ref 271), en P "MOST_WORDS" 536 (.int (60 : Int) 535), en P "MOST_DEEP" 538 (.int (8 : Int) 537), en P "is_short_number" 545 (.ref 278), en P "is_word_of" 553 (.ref 285), en P "is_divisor" 560 (.ref 292), en P "are_sound" 570 (.ref 299), en P "is_sound" 579 (.ref 306), en P "count_words" 585 (.ref 311), en P "Program" 653 (.ref 349), en P "_law_cell_at" 663 (.ref 360), en P "_law_digit" 674 (.ref 367), en P "_law_some" 683 (.ref 374), en P "_law_leaf" 691 (.ref 381), en P "_law_told" 705 (.ref 388), en P "_law_made" 712 (.ref 395), en P "_law_look" 725 (.ref 402), en P "_law_good" 738 (.ref 409), en P "law" 751 (.ref 416)] 41) #[])
def o377 (P : Params) : Obj := (Obj.mk .none (Option.none) (Data.fields #[(.int (1 : Int) 0), (.int (0 : Int) 0), (.ref 20), (.int (5 : Int) 0), (.int (0 : Int) 0), (.ref 27), (.int (7 : Int) 0), (.int (0 : Int) 0), (.ref 40), (.int (10 : Int) 0), (.int (0 : Int) 0), (.ref 52), (.int (12 : Int) 0), (.int (0 : Int) 0), (.ref 66), (.int (25 : Int) 0), (.int (0 : Int) 0), (.ref 106), (.int (38 : Int) 0), (.int (0 : Int) 0), (.ref 146), (.int (61 : Int) 0), (.int (0 : Int) 0), (.ref 186), (.int (75 : Int) 0), (.int (0 : Int) 0), (.ref 226), (.int (94 : Int) 0), (.int (0 : Int) 0), (.ref 266), (.int (103 : Int) 0), (.int (0 : Int) 0), (.ref 277), (.int (105 : Int) 0), (.int (0 : Int) 0), (.ref 284), (.int (107 : Int) 0), (.int (0 : Int) 0), (.ref 291), (.int (109 : Int) 0), (.int (0 : Int) 0), (.ref 298), (.int (114 : Int) 0), (.int (0 : Int) 0), (.ref 305), (.int (128 : Int) 0), (.int (0 : Int) 0), (.ref 310), (.int (130 : Int) 0), (.int (0 : Int) 0), (.ref 317), (.int (155 : Int) 0), (.int (0 : Int) 0), (.ref 359), (.int (159 : Int) 0), (.int (0 : Int) 0), (.ref 366), (.int (172 : Int) 0), (.int (0 : Int) 0), (.ref 373), (.int (176 : Int) 0), (.int (0 : Int) 0), (.ref 380), (.int (180 : Int) 0), (.int (0 : Int) 0), (.ref 387), (.int (194 : Int) 0), (.int (0 : Int) 0), (.ref 394), (.int (204 : Int) 0), (.int (0 : Int) 0), (.ref 401), (.int (222 : Int) 0), (.int (0 : Int) 0), (.ref 408), (.int (232 : Int) 0), (.int (0 : Int) 0), (.ref 415)]) #[])
def o378 (P : Params) : Obj := (Obj.mk (.type "tuple") (Option.none) (Data.seq #[] 0) #[])
def o379 (P : Params) : Obj := (Obj.mk .none (Option.none) (Data.fields #[]) #[])
def o380 (P : Params) : Obj := (Obj.mk (.type "tuple") (Option.none) (Data.seq #[(.str "_law_state" 667), (.str "_law_base" 668), (.str "_law_cell" 669), (.str "_law_found" 670), (.str "_law_number" 671)] 0) #[])
def o381 (P : Params) : Obj := (Obj.mk (.type "tuple") (Option.none) (Data.seq #[] 0) #[])
def o382 (P : Params) : Obj := (Obj.mk .none (Option.none) (Data.func (fd "_law_digit" "_law_digit" (S 29) 0 [] .none .none .none .none (Option.none) .none .none 0)) #[])
def o383 (P : Params) : Obj := (Obj.mk (.type "code") (Option.none) (Data.fields #[(.str "_law_digit" 664), (.str "_law_digit" 665), (.str "/claim/cut.py" 666), (.int (159 : Int) 0), (.int (2 : Int) 0), (.int (0 : Int) 0), (.int (0 : Int) 0), (.int (3 : Int) 0), (.ref 361), (.bool Bool.true), (.int (181 : Int) 0), (.ref 362), .none, (.ref 363), (.ref 364), (.ref 365), (.int (672 : Int) 0), (.int (159 : Int) 0), (.str "/claim/cut.py" 673)]) #[])
def o384 (P : Params) : Obj := (Obj.mk (.type "function") (Option.none) (Data.func (fd "_law_digit" "_law_digit" (S 29) 3 [] .none .none .none (.str "law_beatless_k08_whole_programs_let_by" 654) (Option.none) (.ref 366) .none 0)) #[])
def o385 (P : Params) : Obj := (Obj.mk (.type "tuple") (Option.none) (Data.seq #[] 0) #[])
def o386 (P : Params) : Obj := (Obj.mk .none (Option.none) (Data.fields #[]) #[])
def o387 (P : Params) : Obj := (Obj.mk (.type "tuple") (Option.none) (Data.seq #[(.str "_law_state" 678), (.str "_law_pool" 679), (.str "_law_seldom" 680)] 0) #[])
def o388 (P : Params) : Obj := (Obj.mk (.type "tuple") (Option.none) (Data.seq #[] 0) #[])
def o389 (P : Params) : Obj := (Obj.mk .none (Option.none) (Data.func (fd "_law_some" "_law_some" (S 30) 0 [] .none .none .none .none (Option.none) .none .none 0)) #[])
def o390 (P : Params) : Obj := (Obj.mk (.type "code") (Option.none) (Data.fields #[(.str "_law_some" 675), (.str "_law_some" 676), (.str "/claim/cut.py" 677), (.int (172 : Int) 0), (.int (3 : Int) 0), (.int (0 : Int) 0), (.int (0 : Int) 0), (.int (3 : Int) 0), (.ref 368), (.bool Bool.true), (.int (181 : Int) 0), (.ref 369), .none, (.ref 370), (.ref 371), (.ref 372), (.int (681 : Int) 0), (.int (172 : Int) 0), (.str "/claim/cut.py" 682)]) #[])
def o391 (P : Params) : Obj := (Obj.mk (.type "function") (Option.none) (Data.func (fd "_law_some" "_law_some" (S 30) 3 [] .none .none .none (.str "law_beatless_k08_whole_programs_let_by" 654) (Option.none) (.ref 373) .none 0)) #[])
def o392 (P : Params) : Obj := (Obj.mk (.type "tuple") (Option.none) (Data.seq #[] 0) #[])
def o393 (P : Params) : Obj := (Obj.mk .none (Option.none) (Data.fields #[]) #[])
def o394 (P : Params) : Obj := (Obj.mk (.type "tuple") (Option.none) (Data.seq #[(.str "_law_state" 687), (.str "_law_pool" 688)] 0) #[])
def o395 (P : Params) : Obj := (Obj.mk (.type "tuple") (Option.none) (Data.seq #[] 0) #[])
def o396 (P : Params) : Obj := (Obj.mk .none (Option.none) (Data.func (fd "_law_leaf" "_law_leaf" (S 31) 0 [] .none .none .none .none (Option.none) .none .none 0)) #[])
def o397 (P : Params) : Obj := (Obj.mk (.type "code") (Option.none) (Data.fields #[(.str "_law_leaf" 684), (.str "_law_leaf" 685), (.str "/claim/cut.py" 686), (.int (176 : Int) 0), (.int (2 : Int) 0), (.int (0 : Int) 0), (.int (0 : Int) 0), (.int (3 : Int) 0), (.ref 375), (.bool Bool.true), (.int (181 : Int) 0), (.ref 376), .none, (.ref 377), (.ref 378), (.ref 379), (.int (689 : Int) 0), (.int (176 : Int) 0), (.str "/claim/cut.py" 690)]) #[])
def o398 (P : Params) : Obj := (Obj.mk (.type "function") (Option.none) (Data.func (fd "_law_leaf" "_law_leaf" (S 31) 3 [] .none .none .none (.str "law_beatless_k08_whole_programs_let_by" 654) (Option.none) (.ref 380) .none 0)) #[])
def o399 (P : Params) : Obj := (Obj.mk (.type "tuple") (Option.none) (Data.seq #[] 0) #[])
def o400 (P : Params) : Obj := (Obj.mk .none (Option.none) (Data.fields #[]) #[])
def o401 (P : Params) : Obj := (Obj.mk (.type "tuple") (Option.none) (Data.seq #[(.str "_law_state" 695), (.str "_law_pool" 696), (.str "_law_told_here" 697), (.str "_law_k" 698), (.str "_law_kind" 699), (.str "_law_one" 700), (.str "_law_other" 701), (.str "_law_word" 702)] 0) #[])
def o402 (P : Params) : Obj := (Obj.mk (.type "tuple") (Option.none) (Data.seq #[] 0) #[])
def o403 (P : Params) : Obj := (Obj.mk .none (Option.none) (Data.func (fd "_law_told" "_law_told" (S 32) 0 [] .none .none .none .none (Option.none) .none .none 0)) #[])
def o404 (P : Params) : Obj := (Obj.mk (.type "code") (Option.none) (Data.fields #[(.str "_law_told" 692), (.str "_law_told" 693), (.str "/claim/cut.py" 694), (.int (180 : Int) 0), (.int (2 : Int) 0), (.int (0 : Int) 0), (.int (0 : Int) 0), (.int (3 : Int) 0), (.ref 382), (.bool Bool.true), (.int (181 : Int) 0), (.ref 383), .none, (.ref 384), (.ref 385), (.ref 386), (.int (703 : Int) 0), (.int (180 : Int) 0), (.str "/claim/cut.py" 704)]) #[])
def o405 (P : Params) : Obj := (Obj.mk (.type "function") (Option.none) (Data.func (fd "_law_told" "_law_told" (S 32) 3 [] .none .none .none (.str "law_beatless_k08_whole_programs_let_by" 654) (Option.none) (.ref 387) .none 0)) #[])
def o406 (P : Params) : Obj := (Obj.mk (.type "tuple") (Option.none) (Data.seq #[] 0) #[])
def o407 (P : Params) : Obj := (Obj.mk .none (Option.none) (Data.fields #[]) #[])
def o408 (P : Params) : Obj := (Obj.mk (.type "tuple") (Option.none) (Data.seq #[(.str "_law_told_here" 709)] 0) #[])
def o409 (P : Params) : Obj := (Obj.mk (.type "tuple") (Option.none) (Data.seq #[] 0) #[])
def o410 (P : Params) : Obj := (Obj.mk .none (Option.none) (Data.func (fd "_law_made" "_law_made" (S 33) 0 [] .none .none .none .none (Option.none) .none .none 0)) #[])
def o411 (P : Params) : Obj := (Obj.mk (.type "code") (Option.none) (Data.fields #[(.str "_law_made" 706), (.str "_law_made" 707), (.str "/claim/cut.py" 708), (.int (194 : Int) 0), (.int (1 : Int) 0), (.int (0 : Int) 0), (.int (0 : Int) 0), (.int (3 : Int) 0), (.ref 389), (.bool Bool.true), (.int (181 : Int) 0), (.ref 390), .none, (.ref 391), (.ref 392), (.ref 393), (.int (710 : Int) 0), (.int (194 : Int) 0), (.str "/claim/cut.py" 711)]) #[])
def o412 (P : Params) : Obj := (Obj.mk (.type "function") (Option.none) (Data.func (fd "_law_made" "_law_made" (S 33) 3 [] .none .none .none (.str "law_beatless_k08_whole_programs_let_by" 654) (Option.none) (.ref 394) .none 0)) #[])
def o413 (P : Params) : Obj := (Obj.mk (.type "tuple") (Option.none) (Data.seq #[] 0) #[])
def o414 (P : Params) : Obj := (Obj.mk .none (Option.none) (Data.fields #[]) #[])
def o415 (P : Params) : Obj := (Obj.mk (.type "tuple") (Option.none) (Data.seq #[(.str "_law_told_here" 716), (.str "_law_names" 717), (.str "_law_words" 718), (.str "_law_good_here" 719), (.str "_law_deep" 720), (.str "_law_part" 721), (.str "_law_found" 722)] 0) #[])
def o416 (P : Params) : Obj := (Obj.mk (.type "tuple") (Option.none) (Data.seq #[] 0) #[])
def o417 (P : Params) : Obj := (Obj.mk .none (Option.none) (Data.func (fd "_law_look" "_law_look" (S 34) 0 [] .none .none .none .none (Option.none) .none .none 0)) #[])
def o418 (P : Params) : Obj := (Obj.mk (.type "code") (Option.none) (Data.fields #[(.str "_law_look" 713), (.str "_law_look" 714), (.str "/claim/cut.py" 715), (.int (204 : Int) 0), (.int (2 : Int) 0), (.int (0 : Int) 0), (.int (0 : Int) 0), (.int (3 : Int) 0), (.ref 396), (.bool Bool.true), (.int (181 : Int) 0), (.ref 397), .none, (.ref 398), (.ref 399), (.ref 400), (.int (723 : Int) 0), (.int (204 : Int) 0), (.str "/claim/cut.py" 724)]) #[])
def o419 (P : Params) : Obj := (Obj.mk (.type "function") (Option.none) (Data.func (fd "_law_look" "_law_look" (S 34) 3 [] .none .none .none (.str "law_beatless_k08_whole_programs_let_by" 654) (Option.none) (.ref 401) .none 0)) #[])
def o420 (P : Params) : Obj := (Obj.mk (.type "tuple") (Option.none) (Data.seq #[] 0) #[])
def o421 (P : Params) : Obj := (Obj.mk .none (Option.none) (Data.fields #[]) #[])
def o422 (P : Params) : Obj := (Obj.mk (.type "tuple") (Option.none) (Data.seq #[(.str "_law_four" 729), (.str "_law_at_send" 730), (.str "_law_at_end" 731), (.str "_law_words" 732), (.str "_law_told_here" 733), (.str "_law_names" 734), (.str "_law_found" 735)] 0) #[])
def o423 (P : Params) : Obj := (Obj.mk (.type "tuple") (Option.none) (Data.seq #[] 0) #[])
def o424 (P : Params) : Obj := (Obj.mk .none (Option.none) (Data.func (fd "_law_good" "_law_good" (S 35) 0 [] .none .none .none .none (Option.none) .none .none 0)) #[])
def o425 (P : Params) : Obj := (Obj.mk (.type "code") (Option.none) (Data.fields #[(.str "_law_good" 726), (.str "_law_good" 727), (.str "/claim/cut.py" 728), (.int (222 : Int) 0), (.int (1 : Int) 0), (.int (0 : Int) 0), (.int (0 : Int) 0), (.int (3 : Int) 0), (.ref 403), (.bool Bool.true), (.int (181 : Int) 0), (.ref 404), .none, (.ref 405), (.ref 406), (.ref 407), (.int (736 : Int) 0), (.int (222 : Int) 0), (.str "/claim/cut.py" 737)]) #[])
def o426 (P : Params) : Obj := (Obj.mk (.type "function") (Option.none) (Data.func (fd "_law_good" "_law_good" (S 35) 3 [] .none .none .none (.str "law_beatless_k08_whole_programs_let_by" 654) (Option.none) (.ref 408) .none 0)) #[])
def o427 (P : Params) : Obj := (Obj.mk (.type "tuple") (Option.none) (Data.seq #[] 0) #[])
def o428 (P : Params) : Obj := (Obj.mk .none (Option.none) (Data.fields #[]) #[])
def o429 (P : Params) : Obj := (Obj.mk (.type "tuple") (Option.none) (Data.seq #[(.str "_law_script" 742), (.str "_law_cell" 743), (.str "_law_state" 744), (.str "_law_at_end" 745), (.str "_law_four" 746), (.str "_law_pool" 747), (.str "_law_made_here" 748)] 0) #[])
def o430 (P : Params) : Obj := (Obj.mk (.type "tuple") (Option.none) (Data.seq #[] 0) #[])
def o431 (P : Params) : Obj := (Obj.mk .none (Option.none) (Data.func (fd "law" "law" (S 36) 0 [] .none .none .none .none (Option.none) .none .none 0)) #[])
def o432 (P : Params) : Obj := (Obj.mk (.type "code") (Option.none) (Data.fields #[(.str "law" 739), (.str "law" 740), (.str "/claim/cut.py" 741), (.int (232 : Int) 0), (.int (1 : Int) 0), (.int (0 : Int) 0), (.int (0 : Int) 0), (.int (3 : Int) 0), (.ref 410), (.bool Bool.true), (.int (181 : Int) 0), (.ref 411), .none, (.ref 412), (.ref 413), (.ref 414), (.int (749 : Int) 0), (.int (232 : Int) 0), (.str "/claim/cut.py" 750)]) #[])
def o433 (P : Params) : Obj := (Obj.mk (.type "function") (Option.none) (Data.func (fd "law" "law" (S 36) 3 [] .none .none .none (.str "law_beatless_k08_whole_programs_let_by" 654) (Option.none) (.ref 415) .none 0)) #[])
def t1213 (P : Params) : BT := .node (o400 P) .nil .nil
def t1214 (P : Params) : BT := .node (o129 P) (t638 P) (t1213 P)
def t1215 (P : Params) : BT := .node (o62 P) (t1214 P) (t1004 P)
def t1216 (P : Params) : BT := .node (o432 P) .nil .nil
def t1217 (P : Params) : BT := .node (o164 P) (t808 P) (t1216 P)
def t1218 (P : Params) : BT := .node (o94 P) (t1217 P) (t1007 P)
def t1219 (P : Params) : BT := .node (o28 P) (t1215 P) (t1218 P)
def t1220 (P : Params) : BT := .node (o416 P) .nil .nil
def t1221 (P : Params) : BT := .node (o148 P) (t812 P) (t1220 P)
def t1222 (P : Params) : BT := .node (o78 P) (t1221 P) (t1011 P)
def t1223 (P : Params) : BT := .node (o384 P) .nil .nil
def t1224 (P : Params) : BT := .node (o250 P) (t1223 P) .nil
def t1225 (P : Params) : BT := .node (o113 P) (t816 P) (t1224 P)
def t1226 (P : Params) : BT := .node (o43 P) (t1222 P) (t1225 P)
def t1227 (P : Params) : BT := .node (o6 P) (t1219 P) (t1226 P)
def t1228 (P : Params) : BT := .node (o408 P) .nil .nil
def t1229 (P : Params) : BT := .node (o137 P) (t648 P) (t1228 P)
def t1230 (P : Params) : BT := .node (o70 P) (t1229 P) (t1016 P)
def t1231 (P : Params) : BT := .node (o33 P) (t1230 P) (t1020 P)
def t1232 (P : Params) : BT := .node (o424 P) .nil .nil
def t1233 (P : Params) : BT := .node (o156 P) (t824 P) (t1232 P)
def t1234 (P : Params) : BT := .node (o86 P) (t1233 P) (t1023 P)
def t1235 (P : Params) : BT := .node (o392 P) .nil .nil
def t1236 (P : Params) : BT := .node (o258 P) (t1235 P) .nil
def t1237 (P : Params) : BT := .node (o121 P) (t828 P) (t1236 P)
def t1238 (P : Params) : BT := .node (o51 P) (t1234 P) (t1237 P)
def t1239 (P : Params) : BT := .node (o14 P) (t1231 P) (t1238 P)
def t1240 (P : Params) : BT := .node (boot_o_7 P) (t1227 P) (t1239 P)
def t1241 (P : Params) : BT := .node (o404 P) .nil .nil
def t1242 (P : Params) : BT := .node (o133 P) (t659 P) (t1241 P)
def t1243 (P : Params) : BT := .node (o66 P) (t1242 P) (t1029 P)
def t1244 (P : Params) : BT := .node (o29 P) (t1243 P) (t1033 P)
def t1245 (P : Params) : BT := .node (o420 P) .nil .nil
def t1246 (P : Params) : BT := .node (o152 P) (t837 P) (t1245 P)
def t1247 (P : Params) : BT := .node (o82 P) (t1246 P) (t1036 P)
def t1248 (P : Params) : BT := .node (o388 P) .nil .nil
def t1249 (P : Params) : BT := .node (o254 P) (t1248 P) .nil
def t1250 (P : Params) : BT := .node (o117 P) (t841 P) (t1249 P)
def t1251 (P : Params) : BT := .node (o47 P) (t1247 P) (t1250 P)
def t1252 (P : Params) : BT := .node (o10 P) (t1244 P) (t1251 P)
def t1253 (P : Params) : BT := .node (o412 P) .nil .nil
def t1254 (P : Params) : BT := .node (o141 P) (t669 P) (t1253 P)
def t1255 (P : Params) : BT := .node (o74 P) (t1254 P) (t1041 P)
def t1256 (P : Params) : BT := .node (o380 P) .nil .nil
def t1257 (P : Params) : BT := .node (o246 P) (t1256 P) .nil
def t1258 (P : Params) : BT := .node (o109 P) (t846 P) (t1257 P)
def t1259 (P : Params) : BT := .node (o37 P) (t1255 P) (t1258 P)
def t1260 (P : Params) : BT := .node (o428 P) .nil .nil
def t1261 (P : Params) : BT := .node (o160 P) (t849 P) (t1260 P)
def t1262 (P : Params) : BT := .node (o90 P) (t1261 P) (t1045 P)
def t1263 (P : Params) : BT := .node (o396 P) .nil .nil
def t1264 (P : Params) : BT := .node (o262 P) (t1263 P) .nil
def t1265 (P : Params) : BT := .node (o125 P) (t1048 P) (t1264 P)
def t1266 (P : Params) : BT := .node (o55 P) (t1262 P) (t1265 P)
def t1267 (P : Params) : BT := .node (o18 P) (t1259 P) (t1266 P)
def t1268 (P : Params) : BT := .node (o0 P) (t1252 P) (t1267 P)
def t1269 (P : Params) : BT := .node (o376 P) (t1240 P) (t1268 P)
def t1270 (P : Params) : BT := .node (o402 P) .nil .nil
def t1271 (P : Params) : BT := .node (o131 P) (t681 P) (t1270 P)
def t1272 (P : Params) : BT := .node (o64 P) (t1271 P) (t1055 P)
def t1273 (P : Params) : BT := .node (o24 P) (t1272 P) (t1059 P)
def t1274 (P : Params) : BT := .node (o418 P) .nil .nil
def t1275 (P : Params) : BT := .node (o150 P) (t860 P) (t1274 P)
def t1276 (P : Params) : BT := .node (o80 P) (t1275 P) (t1062 P)
def t1277 (P : Params) : BT := .node (o386 P) .nil .nil
def t1278 (P : Params) : BT := .node (o252 P) (t1277 P) .nil
def t1279 (P : Params) : BT := .node (o115 P) (t864 P) (t1278 P)
def t1280 (P : Params) : BT := .node (o45 P) (t1276 P) (t1279 P)
def t1281 (P : Params) : BT := .node (o8 P) (t1273 P) (t1280 P)
def t1282 (P : Params) : BT := .node (o410 P) .nil .nil
def t1283 (P : Params) : BT := .node (o139 P) (t691 P) (t1282 P)
def t1284 (P : Params) : BT := .node (o72 P) (t1283 P) (t1067 P)
def t1285 (P : Params) : BT := .node (o378 P) .nil .nil
def t1286 (P : Params) : BT := .node (o244 P) (t1285 P) .nil
def t1287 (P : Params) : BT := .node (o107 P) (t869 P) (t1286 P)
def t1288 (P : Params) : BT := .node (o35 P) (t1284 P) (t1287 P)
def t1289 (P : Params) : BT := .node (o426 P) .nil .nil
def t1290 (P : Params) : BT := .node (o158 P) (t872 P) (t1289 P)
def t1291 (P : Params) : BT := .node (o88 P) (t1290 P) (t1071 P)
def t1292 (P : Params) : BT := .node (o394 P) .nil .nil
def t1293 (P : Params) : BT := .node (o260 P) (t1292 P) .nil
def t1294 (P : Params) : BT := .node (o123 P) (t1074 P) (t1293 P)
def t1295 (P : Params) : BT := .node (o53 P) (t1291 P) (t1294 P)
def t1296 (P : Params) : BT := .node (o16 P) (t1288 P) (t1295 P)
def t1297 (P : Params) : BT := .node (boot_o_9 P) (t1281 P) (t1296 P)
def t1298 (P : Params) : BT := .node (o406 P) .nil .nil
def t1299 (P : Params) : BT := .node (o135 P) (t702 P) (t1298 P)
def t1300 (P : Params) : BT := .node (o68 P) (t1299 P) (t1080 P)
def t1301 (P : Params) : BT := .node (o31 P) (t1300 P) (t1084 P)
def t1302 (P : Params) : BT := .node (o422 P) .nil .nil
def t1303 (P : Params) : BT := .node (o154 P) (t882 P) (t1302 P)
def t1304 (P : Params) : BT := .node (o84 P) (t1303 P) (t1087 P)
def t1305 (P : Params) : BT := .node (o390 P) .nil .nil
def t1306 (P : Params) : BT := .node (o256 P) (t1305 P) .nil
def t1307 (P : Params) : BT := .node (o119 P) (t886 P) (t1306 P)
def t1308 (P : Params) : BT := .node (o49 P) (t1304 P) (t1307 P)
def t1309 (P : Params) : BT := .node (o12 P) (t1301 P) (t1308 P)
def t1310 (P : Params) : BT := .node (o414 P) .nil .nil
def t1311 (P : Params) : BT := .node (o146 P) (t890 P) (t1310 P)
def t1312 (P : Params) : BT := .node (o76 P) (t1311 P) (t1092 P)
def t1313 (P : Params) : BT := .node (o382 P) .nil .nil
def t1314 (P : Params) : BT := .node (o248 P) (t1313 P) .nil
def t1315 (P : Params) : BT := .node (o111 P) (t894 P) (t1314 P)
def t1316 (P : Params) : BT := .node (o39 P) (t1312 P) (t1315 P)
def t1317 (P : Params) : BT := .node (o430 P) .nil .nil
def t1318 (P : Params) : BT := .node (o162 P) (t897 P) (t1317 P)
def t1319 (P : Params) : BT := .node (o92 P) (t1318 P) (t1096 P)
def t1320 (P : Params) : BT := .node (o398 P) .nil .nil
def t1321 (P : Params) : BT := .node (o264 P) (t1320 P) .nil
def t1322 (P : Params) : BT := .node (o127 P) (t1099 P) (t1321 P)
def t1323 (P : Params) : BT := .node (o60 P) (t1319 P) (t1322 P)
def t1324 (P : Params) : BT := .node (o20 P) (t1316 P) (t1323 P)
def t1325 (P : Params) : BT := .node (o2 P) (t1309 P) (t1324 P)
def t1326 (P : Params) : BT := .node (boot_o_5 P) (t1297 P) (t1325 P)
def t1327 (P : Params) : BT := .node (boot_o_1 P) (t1269 P) (t1326 P)
def t1328 (P : Params) : BT := .node (o401 P) .nil .nil
def t1329 (P : Params) : BT := .node (o130 P) (t724 P) (t1328 P)
def t1330 (P : Params) : BT := .node (o63 P) (t1329 P) (t1107 P)
def t1331 (P : Params) : BT := .node (o433 P) .nil .nil
def t1332 (P : Params) : BT := .node (o165 P) (t905 P) (t1331 P)
def t1333 (P : Params) : BT := .node (o95 P) (t1332 P) (t1110 P)
def t1334 (P : Params) : BT := .node (o23 P) (t1330 P) (t1333 P)
def t1335 (P : Params) : BT := .node (o417 P) .nil .nil
def t1336 (P : Params) : BT := .node (o149 P) (t909 P) (t1335 P)
def t1337 (P : Params) : BT := .node (o79 P) (t1336 P) (t1114 P)
def t1338 (P : Params) : BT := .node (o385 P) .nil .nil
def t1339 (P : Params) : BT := .node (o251 P) (t1338 P) .nil
def t1340 (P : Params) : BT := .node (o114 P) (t913 P) (t1339 P)
def t1341 (P : Params) : BT := .node (o44 P) (t1337 P) (t1340 P)
def t1342 (P : Params) : BT := .node (o7 P) (t1334 P) (t1341 P)
def t1343 (P : Params) : BT := .node (o409 P) .nil .nil
def t1344 (P : Params) : BT := .node (o138 P) (t734 P) (t1343 P)
def t1345 (P : Params) : BT := .node (o71 P) (t1344 P) (t1119 P)
def t1346 (P : Params) : BT := .node (o34 P) (t1345 P) (t1123 P)
def t1347 (P : Params) : BT := .node (o425 P) .nil .nil
def t1348 (P : Params) : BT := .node (o157 P) (t921 P) (t1347 P)
def t1349 (P : Params) : BT := .node (o87 P) (t1348 P) (t1126 P)
def t1350 (P : Params) : BT := .node (o393 P) .nil .nil
def t1351 (P : Params) : BT := .node (o259 P) (t1350 P) .nil
def t1352 (P : Params) : BT := .node (o122 P) (t1129 P) (t1351 P)
def t1353 (P : Params) : BT := .node (o231 P) (t1349 P) (t1352 P)
def t1354 (P : Params) : BT := .node (o15 P) (t1346 P) (t1353 P)
def t1355 (P : Params) : BT := .node (boot_o_8 P) (t1342 P) (t1354 P)
def t1356 (P : Params) : BT := .node (o405 P) .nil .nil
def t1357 (P : Params) : BT := .node (o134 P) (t745 P) (t1356 P)
def t1358 (P : Params) : BT := .node (o67 P) (t1357 P) (t1135 P)
def t1359 (P : Params) : BT := .node (o30 P) (t1358 P) (t1139 P)
def t1360 (P : Params) : BT := .node (o421 P) .nil .nil
def t1361 (P : Params) : BT := .node (o153 P) (t931 P) (t1360 P)
def t1362 (P : Params) : BT := .node (o83 P) (t1361 P) (t1142 P)
def t1363 (P : Params) : BT := .node (o389 P) .nil .nil
def t1364 (P : Params) : BT := .node (o255 P) (t1363 P) .nil
def t1365 (P : Params) : BT := .node (o118 P) (t935 P) (t1364 P)
def t1366 (P : Params) : BT := .node (o48 P) (t1362 P) (t1365 P)
def t1367 (P : Params) : BT := .node (o11 P) (t1359 P) (t1366 P)
def t1368 (P : Params) : BT := .node (o413 P) .nil .nil
def t1369 (P : Params) : BT := .node (o142 P) (t939 P) (t1368 P)
def t1370 (P : Params) : BT := .node (o75 P) (t1369 P) (t1147 P)
def t1371 (P : Params) : BT := .node (o381 P) .nil .nil
def t1372 (P : Params) : BT := .node (o247 P) (t1371 P) .nil
def t1373 (P : Params) : BT := .node (o110 P) (t943 P) (t1372 P)
def t1374 (P : Params) : BT := .node (o38 P) (t1370 P) (t1373 P)
def t1375 (P : Params) : BT := .node (o429 P) .nil .nil
def t1376 (P : Params) : BT := .node (o161 P) (t946 P) (t1375 P)
def t1377 (P : Params) : BT := .node (o91 P) (t1376 P) (t1151 P)
def t1378 (P : Params) : BT := .node (o397 P) .nil .nil
def t1379 (P : Params) : BT := .node (o263 P) (t1378 P) .nil
def t1380 (P : Params) : BT := .node (o126 P) (t1154 P) (t1379 P)
def t1381 (P : Params) : BT := .node (o56 P) (t1377 P) (t1380 P)
def t1382 (P : Params) : BT := .node (o19 P) (t1374 P) (t1381 P)
def t1383 (P : Params) : BT := .node (o377 P) (t1367 P) (t1382 P)
def t1384 (P : Params) : BT := .node (boot_o_4 P) (t1355 P) (t1383 P)
def t1385 (P : Params) : BT := .node (o403 P) .nil .nil
def t1386 (P : Params) : BT := .node (o132 P) (t764 P) (t1385 P)
def t1387 (P : Params) : BT := .node (o65 P) (t1386 P) (t1161 P)
def t1388 (P : Params) : BT := .node (o25 P) (t1387 P) (t1165 P)
def t1389 (P : Params) : BT := .node (o419 P) .nil .nil
def t1390 (P : Params) : BT := .node (o151 P) (t957 P) (t1389 P)
def t1391 (P : Params) : BT := .node (o81 P) (t1390 P) (t1168 P)
def t1392 (P : Params) : BT := .node (o387 P) .nil .nil
def t1393 (P : Params) : BT := .node (o253 P) (t1392 P) .nil
def t1394 (P : Params) : BT := .node (o116 P) (t961 P) (t1393 P)
def t1395 (P : Params) : BT := .node (o46 P) (t1391 P) (t1394 P)
def t1396 (P : Params) : BT := .node (o9 P) (t1388 P) (t1395 P)
def t1397 (P : Params) : BT := .node (o411 P) .nil .nil
def t1398 (P : Params) : BT := .node (o140 P) (t774 P) (t1397 P)
def t1399 (P : Params) : BT := .node (o73 P) (t1398 P) (t1173 P)
def t1400 (P : Params) : BT := .node (o379 P) .nil .nil
def t1401 (P : Params) : BT := .node (o245 P) (t1400 P) .nil
def t1402 (P : Params) : BT := .node (o108 P) (t966 P) (t1401 P)
def t1403 (P : Params) : BT := .node (o36 P) (t1399 P) (t1402 P)
def t1404 (P : Params) : BT := .node (o427 P) .nil .nil
def t1405 (P : Params) : BT := .node (o159 P) (t969 P) (t1404 P)
def t1406 (P : Params) : BT := .node (o89 P) (t1405 P) (t1177 P)
def t1407 (P : Params) : BT := .node (o395 P) .nil .nil
def t1408 (P : Params) : BT := .node (o261 P) (t1407 P) .nil
def t1409 (P : Params) : BT := .node (o124 P) (t1180 P) (t1408 P)
def t1410 (P : Params) : BT := .node (o54 P) (t1406 P) (t1409 P)
def t1411 (P : Params) : BT := .node (o17 P) (t1403 P) (t1410 P)
def t1412 (P : Params) : BT := .node (boot_o_10 P) (t1396 P) (t1411 P)
def t1413 (P : Params) : BT := .node (o407 P) .nil .nil
def t1414 (P : Params) : BT := .node (o136 P) (t785 P) (t1413 P)
def t1415 (P : Params) : BT := .node (o69 P) (t1414 P) (t1186 P)
def t1416 (P : Params) : BT := .node (o32 P) (t1415 P) (t1190 P)
def t1417 (P : Params) : BT := .node (o423 P) .nil .nil
def t1418 (P : Params) : BT := .node (o155 P) (t979 P) (t1417 P)
def t1419 (P : Params) : BT := .node (o85 P) (t1418 P) (t1193 P)
def t1420 (P : Params) : BT := .node (o391 P) .nil .nil
def t1421 (P : Params) : BT := .node (o257 P) (t1420 P) .nil
def t1422 (P : Params) : BT := .node (o120 P) (t983 P) (t1421 P)
def t1423 (P : Params) : BT := .node (o50 P) (t1419 P) (t1422 P)
def t1424 (P : Params) : BT := .node (o13 P) (t1416 P) (t1423 P)
def t1425 (P : Params) : BT := .node (o415 P) .nil .nil
def t1426 (P : Params) : BT := .node (o147 P) (t987 P) (t1425 P)
def t1427 (P : Params) : BT := .node (o77 P) (t1426 P) (t1198 P)
def t1428 (P : Params) : BT := .node (o383 P) .nil .nil
def t1429 (P : Params) : BT := .node (o249 P) (t1428 P) .nil
def t1430 (P : Params) : BT := .node (o112 P) (t991 P) (t1429 P)
def t1431 (P : Params) : BT := .node (o40 P) (t1427 P) (t1430 P)
def t1432 (P : Params) : BT := .node (o431 P) .nil .nil
def t1433 (P : Params) : BT := .node (o163 P) (t994 P) (t1432 P)
def t1434 (P : Params) : BT := .node (o93 P) (t1433 P) (t1202 P)
def t1435 (P : Params) : BT := .node (o399 P) .nil .nil
def t1436 (P : Params) : BT := .node (o265 P) (t1435 P) .nil
def t1437 (P : Params) : BT := .node (o128 P) (t1205 P) (t1436 P)
def t1438 (P : Params) : BT := .node (o61 P) (t1434 P) (t1437 P)
def t1439 (P : Params) : BT := .node (o21 P) (t1431 P) (t1438 P)
def t1440 (P : Params) : BT := .node (o3 P) (t1424 P) (t1439 P)
def t1441 (P : Params) : BT := .node (boot_o_6 P) (t1412 P) (t1440 P)
def t1442 (P : Params) : BT := .node (boot_o_2 P) (t1384 P) (t1441 P)
def t1443 (P : Params) : BT := .node (boot_o_0 P) (t1327 P) (t1442 P)
def sb11 (w : World) (os : OsState) : SharedT := ⟨(t1443 w.params), 417, (Life.mk [] [] [] 0 [] [] Bool.false #[] [] 0 Bool.false Bool.false Bool.false (0 : Int) [(2000 : Int), (10 : Int), (10 : Int)] Bool.false 0 Bool.true [] [] 0 Bool.false), ⟨[]⟩, (Drawn.mk 0 0 0 0), 752, os⟩
def L10 (w : World) (os : OsState) : Option (Flow × SharedT × Code × Pos) := segRunT treeTable PySem.Challenge.pw_beatless_k08_whole_programs_let_by w 11 an 1 265 (sb10 w os) (piecesOf sts10 env cE (Pos.mk 155 0 158 12) B)
def R10 (w : World) (os : OsState) : Option (Flow × SharedT × Code × Pos) := some (.next, sb11 w os, cE, (Pos.mk 232 0 246 15))
theorem q10 : tt (Hd.L10, Hd.R10) = true := by k_qdec
theorem r10 : ∀ w, PySem.W.Fast.tw8817224096938630680 w = PySem.W.Fast.tw7136840460202682750 w := fun w => by kernel_rfl
theorem e10 (w : World) (os : OsState) : Hd.L10 w os = Hd.R10 w os :=
  (congrFun (congrFun PySem.W.Fast.te8817224096938630680 w) os).trans ((congrFun (r10 w) os).trans (congrFun (congrFun PySem.W.Fast.te7136840460202682750 w) os).symm)
def h34 (P : Params) : List Obj := o425 P :: o426 P :: o427 P :: o428 P :: o429 P :: o430 P :: o431 P :: o432 P :: o433 P :: []
def h33 (P : Params) : List Obj := o413 P :: o414 P :: o415 P :: o416 P :: o417 P :: o418 P :: o419 P :: o420 P :: o421 P :: o422 P :: o423 P :: o424 P :: h34 P
def h32 (P : Params) : List Obj := o401 P :: o402 P :: o403 P :: o404 P :: o405 P :: o406 P :: o407 P :: o408 P :: o409 P :: o410 P :: o411 P :: o412 P :: h33 P
def h31 (P : Params) : List Obj := o389 P :: o390 P :: o391 P :: o392 P :: o393 P :: o394 P :: o395 P :: o396 P :: o397 P :: o398 P :: o399 P :: o400 P :: h32 P
def h30 (P : Params) : List Obj := o375 P :: o378 P :: o379 P :: o380 P :: o381 P :: o382 P :: o383 P :: o384 P :: o385 P :: o386 P :: o387 P :: o388 P :: h31 P
def h29 (P : Params) : List Obj := o363 P :: o364 P :: o365 P :: o366 P :: o367 P :: o368 P :: o369 P :: o370 P :: o371 P :: o372 P :: o373 P :: o374 P :: h30 P
def h28 (P : Params) : List Obj := o351 P :: o352 P :: o353 P :: o354 P :: o355 P :: o356 P :: o357 P :: o358 P :: o359 P :: o360 P :: o361 P :: o362 P :: h29 P
def h27 (P : Params) : List Obj := o339 P :: o340 P :: o341 P :: o342 P :: o343 P :: o344 P :: o345 P :: o346 P :: o347 P :: o348 P :: o349 P :: o350 P :: h28 P
def h26 (P : Params) : List Obj := o327 P :: o328 P :: o329 P :: o330 P :: o331 P :: o332 P :: o333 P :: o334 P :: o335 P :: o336 P :: o337 P :: o338 P :: h27 P
def h25 (P : Params) : List Obj := o313 P :: o314 P :: o315 P :: o316 P :: o317 P :: o318 P :: o319 P :: o320 P :: o321 P :: o322 P :: o323 P :: o324 P :: h26 P
def h24 (P : Params) : List Obj := o301 P :: o302 P :: o303 P :: o304 P :: o305 P :: o306 P :: o307 P :: o308 P :: o309 P :: o310 P :: o311 P :: o312 P :: h25 P
def h23 (P : Params) : List Obj := o289 P :: o290 P :: o291 P :: o292 P :: o293 P :: o294 P :: o295 P :: o296 P :: o297 P :: o298 P :: o299 P :: o300 P :: h24 P
def h22 (P : Params) : List Obj := o275 P :: o276 P :: o277 P :: o278 P :: o281 P :: o282 P :: o283 P :: o284 P :: o285 P :: o286 P :: o287 P :: o288 P :: h23 P
def h21 (P : Params) : List Obj := o263 P :: o264 P :: o265 P :: o266 P :: o267 P :: o268 P :: o269 P :: o270 P :: o271 P :: o272 P :: o273 P :: o274 P :: h22 P
def h20 (P : Params) : List Obj := o251 P :: o252 P :: o253 P :: o254 P :: o255 P :: o256 P :: o257 P :: o258 P :: o259 P :: o260 P :: o261 P :: o262 P :: h21 P
def h19 (P : Params) : List Obj := o239 P :: o240 P :: o241 P :: o242 P :: o243 P :: o244 P :: o245 P :: o246 P :: o247 P :: o248 P :: o249 P :: o250 P :: h20 P
def h18 (P : Params) : List Obj := o224 P :: o225 P :: o226 P :: o227 P :: o228 P :: o232 P :: o233 P :: o234 P :: o235 P :: o236 P :: o237 P :: o238 P :: h19 P
def h17 (P : Params) : List Obj := o212 P :: o213 P :: o214 P :: o215 P :: o216 P :: o217 P :: o218 P :: o219 P :: o220 P :: o221 P :: o222 P :: o223 P :: h18 P
def h16 (P : Params) : List Obj := o200 P :: o201 P :: o202 P :: o203 P :: o204 P :: o205 P :: o206 P :: o207 P :: o208 P :: o209 P :: o210 P :: o211 P :: h17 P
def h15 (P : Params) : List Obj := o185 P :: o189 P :: o190 P :: o191 P :: o192 P :: o193 P :: o194 P :: o195 P :: o196 P :: o197 P :: o198 P :: o199 P :: h16 P
def h14 (P : Params) : List Obj := o173 P :: o174 P :: o175 P :: o176 P :: o177 P :: o178 P :: o179 P :: o180 P :: o181 P :: o182 P :: o183 P :: o184 P :: h15 P
def h13 (P : Params) : List Obj := o161 P :: o162 P :: o163 P :: o164 P :: o165 P :: o166 P :: o167 P :: o168 P :: o169 P :: o170 P :: o171 P :: o172 P :: h14 P
def h12 (P : Params) : List Obj := o149 P :: o150 P :: o151 P :: o152 P :: o153 P :: o154 P :: o155 P :: o156 P :: o157 P :: o158 P :: o159 P :: o160 P :: h13 P
def h11 (P : Params) : List Obj := o134 P :: o135 P :: o136 P :: o137 P :: o138 P :: o139 P :: o140 P :: o141 P :: o142 P :: o146 P :: o147 P :: o148 P :: h12 P
def h10 (P : Params) : List Obj := o122 P :: o123 P :: o124 P :: o125 P :: o126 P :: o127 P :: o128 P :: o129 P :: o130 P :: o131 P :: o132 P :: o133 P :: h11 P
def h9 (P : Params) : List Obj := o110 P :: o111 P :: o112 P :: o113 P :: o114 P :: o115 P :: o116 P :: o117 P :: o118 P :: o119 P :: o120 P :: o121 P :: h10 P
def h8 (P : Params) : List Obj := o95 P :: o96 P :: o97 P :: o98 P :: o99 P :: o103 P :: o104 P :: o105 P :: o106 P :: o107 P :: o108 P :: o109 P :: h9 P
def h7 (P : Params) : List Obj := o83 P :: o84 P :: o85 P :: o86 P :: o87 P :: o88 P :: o89 P :: o90 P :: o91 P :: o92 P :: o93 P :: o94 P :: h8 P
def h6 (P : Params) : List Obj := o71 P :: o72 P :: o73 P :: o74 P :: o75 P :: o76 P :: o77 P :: o78 P :: o79 P :: o80 P :: o81 P :: o82 P :: h7 P
def h5 (P : Params) : List Obj := o56 P :: o60 P :: o61 P :: o62 P :: o63 P :: o64 P :: o65 P :: o66 P :: o67 P :: o68 P :: o69 P :: o70 P :: h6 P
def h4 (P : Params) : List Obj := o44 P :: o45 P :: o46 P :: o47 P :: o48 P :: o49 P :: o50 P :: o51 P :: o231 P :: o53 P :: o54 P :: o55 P :: h5 P
def h3 (P : Params) : List Obj := o30 P :: o31 P :: o32 P :: o33 P :: o34 P :: o35 P :: o36 P :: o37 P :: o38 P :: o39 P :: o40 P :: o43 P :: h4 P
def h2 (P : Params) : List Obj := o15 P :: o16 P :: o17 P :: o18 P :: o19 P :: o20 P :: o21 P :: o28 P :: o23 P :: o24 P :: o25 P :: o29 P :: h3 P
def h1 (P : Params) : List Obj := o377 P :: o2 P :: o3 P :: o6 P :: o7 P :: o8 P :: o9 P :: o10 P :: o11 P :: o12 P :: o13 P :: o14 P :: h2 P
def h0 (P : Params) : List Obj := boot_o_0 P :: boot_o_1 P :: boot_o_2 P :: o376 P :: boot_o_4 P :: boot_o_5 P :: boot_o_6 P :: boot_o_7 P :: boot_o_8 P :: boot_o_9 P :: boot_o_10 P :: o0 P :: h1 P
def H1 (P : Params) : Heap := ⟨⟨h0 P⟩, (Life.mk [] [] [] 0 [] [] Bool.false #[] [] 0 Bool.false Bool.false Bool.false (0 : Int) [(2000 : Int), (10 : Int), (10 : Int)] Bool.false 0 Bool.true [] [] 0 Bool.false)⟩
def sf (w : World) (os : OsState) : Shared := ⟨H1 w.params, ⟨[]⟩, (Drawn.mk 0 0 0 0), 752, os⟩
def Lf (w : World) (os : OsState) : Option Shared := topRun treeTable PySem.Challenge.pw_beatless_k08_whole_programs_let_by w 11 an 2 (sb11 w os).abs ⟨doneF .next, cE, (Pos.mk 232 0 246 15), B⟩
def Rf (w : World) (os : OsState) : Option Shared := some (sf w os)
theorem qf : tt (Hd.Lf, Hd.Rf) = true := by k_qdec
theorem rf : ∀ w, PySem.W.Fast.tw2640074843757178226 w = PySem.W.Fast.tw15533242664859900563 w := fun w => by kernel_rfl
theorem ef (w : World) (os : OsState) : Hd.Lf w os = Hd.Rf w os :=
  (congrFun (congrFun PySem.W.Fast.te2640074843757178226 w) os).trans ((congrFun (rf w) os).trans (congrFun (congrFun PySem.W.Fast.te15533242664859900563 w) os).symm)
theorem cut : bE = sts0 ++ (sts1 ++ (sts2 ++ (sts3 ++ (sts4 ++ (sts5 ++ (sts6 ++ (sts7 ++ (sts8 ++ (sts9 ++ (sts10 ++ ([]))))))))))) := by kernel_rfl
theorem run (w : World) (os : OsState) : topRun treeTable PySem.Challenge.pw_beatless_k08_whole_programs_let_by w 11 an (12 + (1 + (225 + (223 + (191 + (340 + (340 + (346 + (342 + (393 + (255 + (373 + (265 + 2))))))))))))) (s0 w os) (topStub PySem.Challenge.pw_beatless_k08_whole_programs_let_by) = some (sf w os) := by
  refine go_top (ea w os) (piece_block (q := qE) (env := env) (b := bE) (segRun_of (eb w os)) ?_)
  rw [show restOf bE env cE (Pos.mk 0 0 0 0) [topFrame qE] = restOf _ env cE _ [topFrame qE] from congrArg (fun l => restOf l env cE (Pos.mk 0 0 0 0) [topFrame qE]) cut]
  refine piece_app (segRun_of (e0 w os)) ?_
  refine piece_app (segRun_of (e1 w os)) ?_
  refine piece_app (segRun_of (e2 w os)) ?_
  refine piece_app (segRun_of (e3 w os)) ?_
  refine piece_app (segRun_of (e4 w os)) ?_
  refine piece_app (segRun_of (e5 w os)) ?_
  refine piece_app (segRun_of (e6 w os)) ?_
  refine piece_app (segRun_of (e7 w os)) ?_
  refine piece_app (segRun_of (e8 w os)) ?_
  refine piece_app (segRun_of (e9 w os)) ?_
  refine piece_app (segRun_of (e10 w os)) ?_
  exact ef w os
def M : Nat := 12 + (1 + (225 + (223 + (191 + (340 + (340 + (346 + (342 + (393 + (255 + (373 + (265 + 2))))))))))))
abbrev rW : RowW := (PySem.Challenge.rw_beatless_k08_whole_programs_let_by.row).toRowW
def Q : Program := { PySem.Challenge.pw_beatless_k08_whole_programs_let_by with main := { PySem.Challenge.pw_beatless_k08_whole_programs_let_by.main with body := [S 0, S 2, S 3, S 5, S 6, S 7, S 8, S 9, S 10, S 12, S 14, S 15, S 16, S 17, S 18, S 19, S 20, S 21, S 22, S 23, S 24, S 25, S 26, S 28, S 29, S 30, S 31, S 32, S 33, S 34, S 35, S 36] } }
def Xt (s : Shared) : Bool := xlAt Q [] s && recOk (RowW.records rW) s
def K (P : Params) : Frag := (nat_lit 2, boot_o_2 P) :: (nat_lit 3, o376 P) :: (nat_lit 15, o6 P) :: (nat_lit 17, o8 P) :: (nat_lit 18, o9 P) :: (nat_lit 20, o11 P) :: (nat_lit 21, o12 P) :: (nat_lit 22, o13 P) :: (nat_lit 29, o20 P) :: (nat_lit 30, o21 P) :: (nat_lit 31, o28 P) :: (nat_lit 32, o23 P) :: (nat_lit 35, o29 P) :: (nat_lit 42, o36 P) :: (nat_lit 43, o37 P) :: (nat_lit 44, o38 P) :: (nat_lit 54, o50 P) :: (nat_lit 55, o51 P) :: (nat_lit 56, o231 P) :: (nat_lit 57, o53 P) :: (nat_lit 58, o54 P) :: (nat_lit 61, o60 P) :: (nat_lit 68, o67 P) :: (nat_lit 70, o69 P) :: (nat_lit 71, o70 P) :: (nat_lit 73, o72 P) :: (nat_lit 74, o73 P) :: (nat_lit 75, o74 P) :: (nat_lit 77, o76 P) :: (nat_lit 78, o77 P) :: (nat_lit 80, o79 P) :: (nat_lit 81, o80 P) :: (nat_lit 82, o81 P) :: (nat_lit 84, o83 P) :: (nat_lit 85, o84 P) :: (nat_lit 87, o86 P) :: (nat_lit 88, o87 P) :: (nat_lit 89, o88 P) :: (nat_lit 91, o90 P) :: (nat_lit 92, o91 P) :: (nat_lit 94, o93 P) :: (nat_lit 95, o94 P) :: (nat_lit 96, o95 P) :: (nat_lit 97, o96 P) :: (nat_lit 98, o97 P) :: (nat_lit 101, o103 P) :: (nat_lit 108, o110 P) :: (nat_lit 110, o112 P) :: (nat_lit 111, o113 P) :: (nat_lit 113, o115 P) :: (nat_lit 114, o116 P) :: (nat_lit 115, o117 P) :: (nat_lit 117, o119 P) :: (nat_lit 118, o120 P) :: (nat_lit 120, o122 P) :: (nat_lit 121, o123 P) :: (nat_lit 122, o124 P) :: (nat_lit 124, o126 P) :: (nat_lit 125, o127 P) :: (nat_lit 127, o129 P) :: (nat_lit 128, o130 P) :: (nat_lit 129, o131 P) :: (nat_lit 131, o133 P) :: (nat_lit 132, o134 P) :: (nat_lit 134, o136 P) :: (nat_lit 135, o137 P) :: (nat_lit 136, o138 P) :: (nat_lit 137, o139 P) :: (nat_lit 138, o140 P) :: (nat_lit 141, o146 P) :: (nat_lit 148, o153 P) :: (nat_lit 150, o155 P) :: (nat_lit 151, o156 P) :: (nat_lit 153, o158 P) :: (nat_lit 154, o159 P) :: (nat_lit 155, o160 P) :: (nat_lit 157, o162 P) :: (nat_lit 158, o163 P) :: (nat_lit 160, o165 P) :: (nat_lit 161, o166 P) :: (nat_lit 162, o167 P) :: (nat_lit 164, o169 P) :: (nat_lit 165, o170 P) :: (nat_lit 167, o172 P) :: (nat_lit 168, o173 P) :: (nat_lit 169, o174 P) :: (nat_lit 171, o176 P) :: (nat_lit 172, o177 P) :: (nat_lit 174, o179 P) :: (nat_lit 175, o180 P) :: (nat_lit 176, o181 P) :: (nat_lit 177, o182 P) :: (nat_lit 178, o183 P) :: (nat_lit 181, o189 P) :: (nat_lit 188, o196 P) :: (nat_lit 190, o198 P) :: (nat_lit 191, o199 P) :: (nat_lit 193, o201 P) :: (nat_lit 194, o202 P) :: (nat_lit 195, o203 P) :: (nat_lit 197, o205 P) :: (nat_lit 198, o206 P) :: (nat_lit 200, o208 P) :: (nat_lit 201, o209 P) :: (nat_lit 202, o210 P) :: (nat_lit 204, o212 P) :: (nat_lit 205, o213 P) :: (nat_lit 207, o215 P) :: (nat_lit 208, o216 P) :: (nat_lit 209, o217 P) :: (nat_lit 211, o219 P) :: (nat_lit 212, o220 P) :: (nat_lit 214, o222 P) :: (nat_lit 215, o223 P) :: (nat_lit 216, o224 P) :: (nat_lit 217, o225 P) :: (nat_lit 218, o226 P) :: (nat_lit 221, o232 P) :: (nat_lit 228, o239 P) :: (nat_lit 230, o241 P) :: (nat_lit 231, o242 P) :: (nat_lit 233, o244 P) :: (nat_lit 234, o245 P) :: (nat_lit 235, o246 P) :: (nat_lit 237, o248 P) :: (nat_lit 238, o249 P) :: (nat_lit 240, o251 P) :: (nat_lit 241, o252 P) :: (nat_lit 242, o253 P) :: (nat_lit 244, o255 P) :: (nat_lit 245, o256 P) :: (nat_lit 247, o258 P) :: (nat_lit 248, o259 P) :: (nat_lit 249, o260 P) :: (nat_lit 251, o262 P) :: (nat_lit 252, o263 P) :: (nat_lit 254, o265 P) :: (nat_lit 255, o266 P) :: (nat_lit 256, o267 P) :: (nat_lit 257, o268 P) :: (nat_lit 258, o269 P) :: (nat_lit 261, o272 P) :: (nat_lit 263, o274 P) :: (nat_lit 264, o275 P) :: (nat_lit 266, o277 P) :: (nat_lit 267, o278 P) :: (nat_lit 268, o281 P) :: (nat_lit 269, o282 P) :: (nat_lit 270, o283 P) :: (nat_lit 271, o284 P) :: (nat_lit 272, o285 P) :: (nat_lit 274, o287 P) :: (nat_lit 275, o288 P) :: (nat_lit 277, o290 P) :: (nat_lit 278, o291 P) :: (nat_lit 279, o292 P) :: (nat_lit 281, o294 P) :: (nat_lit 282, o295 P) :: (nat_lit 284, o297 P) :: (nat_lit 285, o298 P) :: (nat_lit 286, o299 P) :: (nat_lit 288, o301 P) :: (nat_lit 289, o302 P) :: (nat_lit 291, o304 P) :: (nat_lit 292, o305 P) :: (nat_lit 293, o306 P) :: (nat_lit 295, o308 P) :: (nat_lit 296, o309 P) :: (nat_lit 298, o311 P) :: (nat_lit 299, o312 P) :: (nat_lit 300, o313 P) :: (nat_lit 302, o315 P) :: (nat_lit 303, o316 P) :: (nat_lit 305, o318 P) :: (nat_lit 306, o319 P) :: (nat_lit 307, o320 P) :: (nat_lit 310, o323 P) :: (nat_lit 311, o324 P) :: (nat_lit 319, o334 P) :: (nat_lit 321, o336 P) :: (nat_lit 322, o337 P) :: (nat_lit 324, o339 P) :: (nat_lit 325, o340 P) :: (nat_lit 326, o341 P) :: (nat_lit 328, o343 P) :: (nat_lit 329, o344 P) :: (nat_lit 331, o346 P) :: (nat_lit 332, o347 P) :: (nat_lit 333, o348 P) :: (nat_lit 335, o350 P) :: (nat_lit 336, o351 P) :: (nat_lit 338, o353 P) :: (nat_lit 339, o354 P) :: (nat_lit 340, o355 P) :: (nat_lit 342, o357 P) :: (nat_lit 343, o358 P) :: (nat_lit 345, o360 P) :: (nat_lit 346, o361 P) :: (nat_lit 347, o362 P) :: (nat_lit 348, o363 P) :: (nat_lit 349, o364 P) :: (nat_lit 350, o365 P) :: (nat_lit 351, o366 P) :: (nat_lit 361, o378 P) :: (nat_lit 363, o380 P) :: (nat_lit 364, o381 P) :: (nat_lit 366, o383 P) :: (nat_lit 367, o384 P) :: (nat_lit 368, o385 P) :: (nat_lit 370, o387 P) :: (nat_lit 371, o388 P) :: (nat_lit 373, o390 P) :: (nat_lit 374, o391 P) :: (nat_lit 375, o392 P) :: (nat_lit 377, o394 P) :: (nat_lit 378, o395 P) :: (nat_lit 380, o397 P) :: (nat_lit 381, o398 P) :: (nat_lit 382, o399 P) :: (nat_lit 384, o401 P) :: (nat_lit 385, o402 P) :: (nat_lit 387, o404 P) :: (nat_lit 388, o405 P) :: (nat_lit 389, o406 P) :: (nat_lit 391, o408 P) :: (nat_lit 392, o409 P) :: (nat_lit 394, o411 P) :: (nat_lit 395, o412 P) :: (nat_lit 396, o413 P) :: (nat_lit 398, o415 P) :: (nat_lit 399, o416 P) :: (nat_lit 401, o418 P) :: (nat_lit 402, o419 P) :: (nat_lit 403, o420 P) :: (nat_lit 405, o422 P) :: (nat_lit 406, o423 P) :: (nat_lit 408, o425 P) :: (nat_lit 409, o426 P) :: (nat_lit 410, o427 P) :: (nat_lit 412, o429 P) :: (nat_lit 413, o430 P) :: (nat_lit 415, o432 P) :: (nat_lit 416, o433 P) :: []
def as : List Addr := [2, 3, 15, 17, 18, 20, 21, 22, 29, 30, 31, 32, 35, 42, 43, 44, 54, 55, 56, 57, 58, 61, 68, 70, 71, 73, 74, 75, 77, 78, 80, 81, 82, 84, 85, 87, 88, 89, 91, 92, 94, 95, 96, 97, 98, 101, 108, 110, 111, 113, 114, 115, 117, 118, 120, 121, 122, 124, 125, 127, 128, 129, 131, 132, 134, 135, 136, 137, 138, 141, 148, 150, 151, 153, 154, 155, 157, 158, 160, 161, 162, 164, 165, 167, 168, 169, 171, 172, 174, 175, 176, 177, 178, 181, 188, 190, 191, 193, 194, 195, 197, 198, 200, 201, 202, 204, 205, 207, 208, 209, 211, 212, 214, 215, 216, 217, 218, 221, 228, 230, 231, 233, 234, 235, 237, 238, 240, 241, 242, 244, 245, 247, 248, 249, 251, 252, 254, 255, 256, 257, 258, 261, 263, 264, 266, 267, 268, 269, 270, 271, 272, 274, 275, 277, 278, 279, 281, 282, 284, 285, 286, 288, 289, 291, 292, 293, 295, 296, 298, 299, 300, 302, 303, 305, 306, 307, 310, 311, 319, 321, 322, 324, 325, 326, 328, 329, 331, 332, 333, 335, 336, 338, 339, 340, 342, 343, 345, 346, 347, 348, 349, 350, 351, 361, 363, 364, 366, 367, 368, 370, 371, 373, 374, 375, 377, 378, 380, 381, 382, 384, 385, 387, 388, 389, 391, 392, 394, 395, 396, 398, 399, 401, 402, 403, 405, 406, 408, 409, 410, 412, 413, 415, 416]
def y20 (P : Params) : List (Option Obj) := some (o430 P) :: some (o432 P) :: some (o433 P) :: []
def y19 (P : Params) : List (Option Obj) := some (o413 P) :: some (o415 P) :: some (o416 P) :: some (o418 P) :: some (o419 P) :: some (o420 P) :: some (o422 P) :: some (o423 P) :: some (o425 P) :: some (o426 P) :: some (o427 P) :: some (o429 P) :: y20 P
def y18 (P : Params) : List (Option Obj) := some (o397 P) :: some (o398 P) :: some (o399 P) :: some (o401 P) :: some (o402 P) :: some (o404 P) :: some (o405 P) :: some (o406 P) :: some (o408 P) :: some (o409 P) :: some (o411 P) :: some (o412 P) :: y19 P
def y17 (P : Params) : List (Option Obj) := some (o380 P) :: some (o381 P) :: some (o383 P) :: some (o384 P) :: some (o385 P) :: some (o387 P) :: some (o388 P) :: some (o390 P) :: some (o391 P) :: some (o392 P) :: some (o394 P) :: some (o395 P) :: y18 P
def y16 (P : Params) : List (Option Obj) := some (o354 P) :: some (o355 P) :: some (o357 P) :: some (o358 P) :: some (o360 P) :: some (o361 P) :: some (o362 P) :: some (o363 P) :: some (o364 P) :: some (o365 P) :: some (o366 P) :: some (o378 P) :: y17 P
def y15 (P : Params) : List (Option Obj) := some (o337 P) :: some (o339 P) :: some (o340 P) :: some (o341 P) :: some (o343 P) :: some (o344 P) :: some (o346 P) :: some (o347 P) :: some (o348 P) :: some (o350 P) :: some (o351 P) :: some (o353 P) :: y16 P
def y14 (P : Params) : List (Option Obj) := some (o311 P) :: some (o312 P) :: some (o313 P) :: some (o315 P) :: some (o316 P) :: some (o318 P) :: some (o319 P) :: some (o320 P) :: some (o323 P) :: some (o324 P) :: some (o334 P) :: some (o336 P) :: y15 P
def y13 (P : Params) : List (Option Obj) := some (o294 P) :: some (o295 P) :: some (o297 P) :: some (o298 P) :: some (o299 P) :: some (o301 P) :: some (o302 P) :: some (o304 P) :: some (o305 P) :: some (o306 P) :: some (o308 P) :: some (o309 P) :: y14 P
def y12 (P : Params) : List (Option Obj) := some (o277 P) :: some (o278 P) :: some (o281 P) :: some (o282 P) :: some (o283 P) :: some (o284 P) :: some (o285 P) :: some (o287 P) :: some (o288 P) :: some (o290 P) :: some (o291 P) :: some (o292 P) :: y13 P
def y11 (P : Params) : List (Option Obj) := some (o259 P) :: some (o260 P) :: some (o262 P) :: some (o263 P) :: some (o265 P) :: some (o266 P) :: some (o267 P) :: some (o268 P) :: some (o269 P) :: some (o272 P) :: some (o274 P) :: some (o275 P) :: y12 P
def y10 (P : Params) : List (Option Obj) := some (o242 P) :: some (o244 P) :: some (o245 P) :: some (o246 P) :: some (o248 P) :: some (o249 P) :: some (o251 P) :: some (o252 P) :: some (o253 P) :: some (o255 P) :: some (o256 P) :: some (o258 P) :: y11 P
def y9 (P : Params) : List (Option Obj) := some (o216 P) :: some (o217 P) :: some (o219 P) :: some (o220 P) :: some (o222 P) :: some (o223 P) :: some (o224 P) :: some (o225 P) :: some (o226 P) :: some (o232 P) :: some (o239 P) :: some (o241 P) :: y10 P
def y8 (P : Params) : List (Option Obj) := some (o199 P) :: some (o201 P) :: some (o202 P) :: some (o203 P) :: some (o205 P) :: some (o206 P) :: some (o208 P) :: some (o209 P) :: some (o210 P) :: some (o212 P) :: some (o213 P) :: some (o215 P) :: y9 P
def y7 (P : Params) : List (Option Obj) := some (o173 P) :: some (o174 P) :: some (o176 P) :: some (o177 P) :: some (o179 P) :: some (o180 P) :: some (o181 P) :: some (o182 P) :: some (o183 P) :: some (o189 P) :: some (o196 P) :: some (o198 P) :: y8 P
def y6 (P : Params) : List (Option Obj) := some (o156 P) :: some (o158 P) :: some (o159 P) :: some (o160 P) :: some (o162 P) :: some (o163 P) :: some (o165 P) :: some (o166 P) :: some (o167 P) :: some (o169 P) :: some (o170 P) :: some (o172 P) :: y7 P
def y5 (P : Params) : List (Option Obj) := some (o130 P) :: some (o131 P) :: some (o133 P) :: some (o134 P) :: some (o136 P) :: some (o137 P) :: some (o138 P) :: some (o139 P) :: some (o140 P) :: some (o146 P) :: some (o153 P) :: some (o155 P) :: y6 P
def y4 (P : Params) : List (Option Obj) := some (o113 P) :: some (o115 P) :: some (o116 P) :: some (o117 P) :: some (o119 P) :: some (o120 P) :: some (o122 P) :: some (o123 P) :: some (o124 P) :: some (o126 P) :: some (o127 P) :: some (o129 P) :: y5 P
def y3 (P : Params) : List (Option Obj) := some (o87 P) :: some (o88 P) :: some (o90 P) :: some (o91 P) :: some (o93 P) :: some (o94 P) :: some (o95 P) :: some (o96 P) :: some (o97 P) :: some (o103 P) :: some (o110 P) :: some (o112 P) :: y4 P
def y2 (P : Params) : List (Option Obj) := some (o70 P) :: some (o72 P) :: some (o73 P) :: some (o74 P) :: some (o76 P) :: some (o77 P) :: some (o79 P) :: some (o80 P) :: some (o81 P) :: some (o83 P) :: some (o84 P) :: some (o86 P) :: y3 P
def y1 (P : Params) : List (Option Obj) := some (o29 P) :: some (o36 P) :: some (o37 P) :: some (o38 P) :: some (o50 P) :: some (o51 P) :: some (o231 P) :: some (o53 P) :: some (o54 P) :: some (o60 P) :: some (o67 P) :: some (o69 P) :: y2 P
def y0 (P : Params) : List (Option Obj) := some (boot_o_2 P) :: some (o376 P) :: some (o6 P) :: some (o8 P) :: some (o9 P) :: some (o11 P) :: some (o12 P) :: some (o13 P) :: some (o20 P) :: some (o21 P) :: some (o28 P) :: some (o23 P) :: y1 P
theorem asK (P : Params) : as = (K P).map (·.1) := by kernel_rfl
theorem yK (P : Params) : (K P).map (fun p => some p.2) = y0 P := by kernel_rfl
def Ly (w : World) (os : OsState) : List (Option Obj) := as.map (sf w os).heap.get?
def Ry (w : World) (_ : OsState) : List (Option Obj) := y0 w.params
theorem qy : tt (Hd.Ly, Hd.Ry) = true := by k_qdec
theorem ry : ∀ w, PySem.W.Fast.tw691215026958702249 w = PySem.W.Fast.tw5434166109932796141 w := fun w => by kernel_rfl
theorem ey (w : World) (os : OsState) : Hd.Ly w os = Hd.Ry w os :=
  (congrFun (congrFun PySem.W.Fast.te691215026958702249 w) os).trans ((congrFun (ry w) os).trans (congrFun (congrFun PySem.W.Fast.te5434166109932796141 w) os).symm)
abbrev hk : Hook := kHook K as asK
abbrev mods : List Str := importedModules PySem.Challenge.pw_beatless_k08_whole_programs_let_by.main.body
def A (w : World) (os : OsState) := openSeen Q [] mods Xt true (sf w os)
def G (_ : World) (_ : OsState) := openGood Q []
def A0 (w : World) (os : OsState) := (A w os).1
def G0 (w : World) (os : OsState) := (G w os).1
theorem qA0 : tt (Hd.A0, Hd.G0) = true := by k_qdec
theorem rA0 : ∀ w, PySem.W.Fast.tw6131166808449026830 w = PySem.W.Fast.tw11727352099349840545 w := fun w => by kernel_rfl
theorem eA0 (w : World) (os : OsState) : Hd.A0 w os = Hd.G0 w os :=
  (congrFun (congrFun PySem.W.Fast.te6131166808449026830 w) os).trans ((congrFun (rA0 w) os).trans (congrFun (congrFun PySem.W.Fast.te11727352099349840545 w) os).symm)
def A1 (w : World) (os : OsState) := (A w os).2.1
def G1 (w : World) (os : OsState) := (G w os).2.1
theorem qA1 : tt (Hd.A1, Hd.G1) = true := by k_qdec
theorem rA1 : ∀ w, PySem.W.Fast.tw7581016493306269660 w = PySem.W.Fast.tw14656944741971684193 w := fun w => by kernel_rfl
theorem eA1 (w : World) (os : OsState) : Hd.A1 w os = Hd.G1 w os :=
  (congrFun (congrFun PySem.W.Fast.te7581016493306269660 w) os).trans ((congrFun (rA1 w) os).trans (congrFun (congrFun PySem.W.Fast.te14656944741971684193 w) os).symm)
def A2 (w : World) (os : OsState) := (A w os).2.2.1
def G2 (w : World) (os : OsState) := (G w os).2.2.1
theorem qA2 : tt (Hd.A2, Hd.G2) = true := by k_qdec
theorem rA2 : ∀ w, PySem.W.Fast.tw2900191123710467766 w = PySem.W.Fast.tw10880070632800087129 w := fun w => by kernel_rfl
theorem eA2 (w : World) (os : OsState) : Hd.A2 w os = Hd.G2 w os :=
  (congrFun (congrFun PySem.W.Fast.te2900191123710467766 w) os).trans ((congrFun (rA2 w) os).trans (congrFun (congrFun PySem.W.Fast.te10880070632800087129 w) os).symm)
def A3 (w : World) (os : OsState) := (A w os).2.2.2.1
def G3 (w : World) (os : OsState) := (G w os).2.2.2.1
theorem qA3 : tt (Hd.A3, Hd.G3) = true := by k_qdec
theorem rA3 : ∀ w, PySem.W.Fast.tw447134267514248570 w = PySem.W.Fast.tw4145583888436359099 w := fun w => by kernel_rfl
theorem eA3 (w : World) (os : OsState) : Hd.A3 w os = Hd.G3 w os :=
  (congrFun (congrFun PySem.W.Fast.te447134267514248570 w) os).trans ((congrFun (rA3 w) os).trans (congrFun (congrFun PySem.W.Fast.te4145583888436359099 w) os).symm)
def A4 (w : World) (os : OsState) := (A w os).2.2.2.2.1
def G4 (w : World) (os : OsState) := (G w os).2.2.2.2.1
theorem qA4 : tt (Hd.A4, Hd.G4) = true := by k_qdec
theorem rA4 : ∀ w, PySem.W.Fast.tw14409291123802741499 w = PySem.W.Fast.tw6531939937263253831 w := fun w => by kernel_rfl
theorem eA4 (w : World) (os : OsState) : Hd.A4 w os = Hd.G4 w os :=
  (congrFun (congrFun PySem.W.Fast.te14409291123802741499 w) os).trans ((congrFun (rA4 w) os).trans (congrFun (congrFun PySem.W.Fast.te6531939937263253831 w) os).symm)
def A5 (w : World) (os : OsState) := (A w os).2.2.2.2.2.1
def G5 (w : World) (os : OsState) := (G w os).2.2.2.2.2.1
theorem qA5 : tt (Hd.A5, Hd.G5) = true := by k_qdec
theorem rA5 : ∀ w, PySem.W.Fast.tw7163156141784225904 w = PySem.W.Fast.tw5989712690265804088 w := fun w => by kernel_rfl
theorem eA5 (w : World) (os : OsState) : Hd.A5 w os = Hd.G5 w os :=
  (congrFun (congrFun PySem.W.Fast.te7163156141784225904 w) os).trans ((congrFun (rA5 w) os).trans (congrFun (congrFun PySem.W.Fast.te5989712690265804088 w) os).symm)
def A6 (w : World) (os : OsState) := (A w os).2.2.2.2.2.2.1
def G6 (w : World) (os : OsState) := (G w os).2.2.2.2.2.2.1
theorem qA6 : tt (Hd.A6, Hd.G6) = true := by k_qdec
theorem rA6 : ∀ w, PySem.W.Fast.tw148487786646926683 w = PySem.W.Fast.tw12956129408465502666 w := fun w => by kernel_rfl
theorem eA6 (w : World) (os : OsState) : Hd.A6 w os = Hd.G6 w os :=
  (congrFun (congrFun PySem.W.Fast.te148487786646926683 w) os).trans ((congrFun (rA6 w) os).trans (congrFun (congrFun PySem.W.Fast.te12956129408465502666 w) os).symm)
def A7 (w : World) (os : OsState) := (A w os).2.2.2.2.2.2.2.1
def G7 (w : World) (os : OsState) := (G w os).2.2.2.2.2.2.2.1
theorem qA7 : tt (Hd.A7, Hd.G7) = true := by k_qdec
theorem rA7 : ∀ w, PySem.W.Fast.tw17782257788342479682 w = PySem.W.Fast.tw9566738594451217396 w := fun w => by kernel_rfl
theorem eA7 (w : World) (os : OsState) : Hd.A7 w os = Hd.G7 w os :=
  (congrFun (congrFun PySem.W.Fast.te17782257788342479682 w) os).trans ((congrFun (rA7 w) os).trans (congrFun (congrFun PySem.W.Fast.te9566738594451217396 w) os).symm)
def A8 (w : World) (os : OsState) := (A w os).2.2.2.2.2.2.2.2
def G8 (w : World) (os : OsState) := (G w os).2.2.2.2.2.2.2.2
theorem qA8 : tt (Hd.A8, Hd.G8) = true := by k_qdec
theorem rA8 : ∀ w, PySem.W.Fast.tw8885869309975874061 w = PySem.W.Fast.tw17952483438457428275 w := fun w => by kernel_rfl
theorem eA8 (w : World) (os : OsState) : Hd.A8 w os = Hd.G8 w os :=
  (congrFun (congrFun PySem.W.Fast.te8885869309975874061 w) os).trans ((congrFun (rA8 w) os).trans (congrFun (congrFun PySem.W.Fast.te17952483438457428275 w) os).symm)
def Ls (w : World) (os : OsState) : Bool := staticsOk mods (boot_heap w.params) (H1 w.params) && namesBound PySem.Challenge.pw_beatless_k08_whole_programs_let_by (H1 w.params) && gensDone (sf w os) && laidKept (boot_heap w.params) (H1 w.params)
def Rs (_ : World) (_ : OsState) : Bool := true
def Lz (w : World) (_ : OsState) := ((boot_heap w.params).isNs mainGlobals && (⟨[]⟩ : Array GenState).size == 0, (boot_heap w.params).objs.size, (boot_heap w.params).nsMap mainGlobals "__annotations__")
def Rz (_ : World) (_ : OsState) : Bool × Nat × Option Value := (true, 11, an)
theorem qs : tt Hd.Ls = true := by k_qdec
theorem rs : ∀ w, PySem.W.Fast.tw4959303863618478765 w = Hd.Rs w := fun w => by kernel_rfl
theorem es (w : World) (os : OsState) : Hd.Ls w os = Hd.Rs w os := (congrFun (congrFun PySem.W.Fast.te4959303863618478765 w) os).trans (congrFun (rs w) os)
theorem qz : tt Hd.Lz = true := by k_qdec
theorem rz : ∀ w, PySem.W.Fast.tw17831390912981975158 w = Hd.Rz w := fun w => by kernel_rfl
theorem ez (w : World) (os : OsState) : Hd.Lz w os = Hd.Rz w os := (congrFun (congrFun PySem.W.Fast.te17831390912981975158 w) os).trans (congrFun (rz w) os)
theorem op : opening PySem.Challenge.pw_beatless_k08_whole_programs_let_by = plainProg PySem.Challenge.pw_beatless_k08_whole_programs_let_by.main.scope.names := by kernel_rfl
theorem fe (s : Shared) : fenceModules? PySem.Challenge.pw_beatless_k08_whole_programs_let_by s = some s := by kernel_rfl
theorem left : LeftO PySem.Challenge.pw_beatless_k08_whole_programs_let_by Q [] Xt hk.obs hk.val 6690 :=
  LeftO.of_pieces (M := M) (m₀ := 11) (ann := an) (H₀ := boot_heap) (H₁ := H1) (boot_open op (by kernel_rfl) fe) (fun w => ez w (start PySem.Challenge.pw_beatless_k08_whole_programs_let_by).1.os) run (by kernel_rfl) (fun w => funext fun os => looks_pair (es w os) (looks_pair
    (Prod.ext (eA0 w os) (Prod.ext (eA1 w os) (Prod.ext (eA2 w os) (Prod.ext (eA3 w os) (Prod.ext (eA4 w os) (Prod.ext (eA5 w os) (Prod.ext (eA6 w os) (Prod.ext (eA7 w os) (eA8 w os)))))))))
    ((ey w os).trans (yK w.params).symm)))
theorem both {a b : Bool} (z : (a && b) = true) : a = true ∧ b = true := Bool.and_eq_true_iff.mp z
end Hd
end

/-! K08z -/
set_option Elab.async false
set_option linter.all false
set_option maxRecDepth 100000
set_option maxHeartbeats 4000000
namespace K04
open PySem L2
theorem txt_mk {K : PySem.W.Frag} {h : Heap} {mg : Str → Option Value} (X : K.In h) (G : h.Ns mainGlobals mg)
    {f_is_whole : Addr} {od0 an0 : Option Addr} {sl0 : Array (Option Value)} {oc0 kV0 dc0 pm0 cd0 ct0 : Value} {f_is_short_number : Addr} {od1 an1 : Option Addr} {sl1 : Array (Option Value)} {oc1 kV1 dc1 pm1 cd1 ct1 : Value} {f_is_word_of : Addr} {od2 an2 : Option Addr} {sl2 : Array (Option Value)} {oc2 kV2 dc2 pm2 cd2 ct2 : Value} {f_is_divisor : Addr} {od3 an3 : Option Addr} {sl3 : Array (Option Value)} {oc3 kV3 dc3 pm3 cd3 ct3 : Value} {f_are_sound : Addr} {od4 an4 : Option Addr} {sl4 : Array (Option Value)} {oc4 kV4 dc4 pm4 cd4 ct4 : Value} {f_is_sound : Addr} {od5 an5 : Option Addr} {sl5 : Array (Option Value)} {oc5 kV5 dc5 pm5 cd5 ct5 : Value} {f_count_words : Addr} {od6 an6 : Option Addr} {sl6 : Array (Option Value)} {oc6 kV6 dc6 pm6 cd6 ct6 : Value} {f__law_digit : Addr} {od7 an7 : Option Addr} {sl7 : Array (Option Value)} {oc7 kV7 dc7 pm7 cd7 ct7 : Value} {f__law_some : Addr} {od8 an8 : Option Addr} {sl8 : Array (Option Value)} {oc8 kV8 dc8 pm8 cd8 ct8 : Value} {f__law_leaf : Addr} {od9 an9 : Option Addr} {sl9 : Array (Option Value)} {oc9 kV9 dc9 pm9 cd9 ct9 : Value} {f__law_told : Addr} {od10 an10 : Option Addr} {sl10 : Array (Option Value)} {oc10 kV10 dc10 pm10 cd10 ct10 : Value} {f__law_made : Addr} {od11 an11 : Option Addr} {sl11 : Array (Option Value)} {oc11 kV11 dc11 pm11 cd11 ct11 : Value} {f__law_look : Addr} {od12 an12 : Option Addr} {sl12 : Array (Option Value)} {oc12 kV12 dc12 pm12 cd12 ct12 : Value} {f__law_good : Addr} {od13 an13 : Option Addr} {sl13 : Array (Option Value)} {oc13 kV13 dc13 pm13 cd13 ct13 : Value} {f_law : Addr} {od14 an14 : Option Addr} {sl14 : Array (Option Value)} {oc14 kV14 dc14 pm14 cd14 ct14 : Value} {f_Num___init__ : Addr} {od15 an15 : Option Addr} {sl15 : Array (Option Value)} {oc15 kV15 dc15 pm15 cd15 ct15 : Value} {f_Num_reckon : Addr} {od16 an16 : Option Addr} {sl16 : Array (Option Value)} {oc16 kV16 dc16 pm16 cd16 ct16 : Value} {f_Num_words : Addr} {od17 an17 : Option Addr} {sl17 : Array (Option Value)} {oc17 kV17 dc17 pm17 cd17 ct17 : Value} {f_Name___init__ : Addr} {od18 an18 : Option Addr} {sl18 : Array (Option Value)} {oc18 kV18 dc18 pm18 cd18 ct18 : Value} {f_Name_reckon : Addr} {od19 an19 : Option Addr} {sl19 : Array (Option Value)} {oc19 kV19 dc19 pm19 cd19 ct19 : Value} {f_Name_words : Addr} {od20 an20 : Option Addr} {sl20 : Array (Option Value)} {oc20 kV20 dc20 pm20 cd20 ct20 : Value} {f_Two___init__ : Addr} {od21 an21 : Option Addr} {sl21 : Array (Option Value)} {oc21 kV21 dc21 pm21 cd21 ct21 : Value} {f_Two_reckon : Addr} {od22 an22 : Option Addr} {sl22 : Array (Option Value)} {oc22 kV22 dc22 pm22 cd22 ct22 : Value} {f_Two_words : Addr} {od23 an23 : Option Addr} {sl23 : Array (Option Value)} {oc23 kV23 dc23 pm23 cd23 ct23 : Value} {f_Mod___init__ : Addr} {od24 an24 : Option Addr} {sl24 : Array (Option Value)} {oc24 kV24 dc24 pm24 cd24 ct24 : Value} {f_Mod_reckon : Addr} {od25 an25 : Option Addr} {sl25 : Array (Option Value)} {oc25 kV25 dc25 pm25 cd25 ct25 : Value} {f_Mod_words : Addr} {od26 an26 : Option Addr} {sl26 : Array (Option Value)} {oc26 kV26 dc26 pm26 cd26 ct26 : Value} {f_Less___init__ : Addr} {od27 an27 : Option Addr} {sl27 : Array (Option Value)} {oc27 kV27 dc27 pm27 cd27 ct27 : Value} {f_Less_reckon : Addr} {od28 an28 : Option Addr} {sl28 : Array (Option Value)} {oc28 kV28 dc28 pm28 cd28 ct28 : Value} {f_Less_words : Addr} {od29 an29 : Option Addr} {sl29 : Array (Option Value)} {oc29 kV29 dc29 pm29 cd29 ct29 : Value} {f_Program___init__ : Addr} {od30 an30 : Option Addr} {sl30 : Array (Option Value)} {oc30 kV30 dc30 pm30 cd30 ct30 : Value} {c_Num : Addr} {c_Name : Addr} {c_Two : Addr} {c_Mod : Addr} {c_Less : Addr} {c_Program : Addr} {c_NoProgram : Addr} {t_START_NAMES : Addr} {od_START_NAMES : Option Addr} {n_START_NAMES : Nat} {sl_START_NAMES : Array (Option Value)} {u_START_NAMES0 u_START_NAMES1 : Tok} {t_SEND_NAMES : Addr} {od_SEND_NAMES : Option Addr} {n_SEND_NAMES : Nat} {sl_SEND_NAMES : Array (Option Value)} {u_SEND_NAMES0 u_SEND_NAMES1 u_SEND_NAMES2 u_SEND_NAMES3 u_SEND_NAMES4 : Tok} {t_RENEW_NAMES : Addr} {od_RENEW_NAMES : Option Addr} {n_RENEW_NAMES : Nat} {sl_RENEW_NAMES : Array (Option Value)} {u_RENEW_NAMES0 u_RENEW_NAMES1 u_RENEW_NAMES2 u_RENEW_NAMES3 u_RENEW_NAMES4 u_RENEW_NAMES5 u_RENEW_NAMES6 u_RENEW_NAMES7 : Tok} {t_TWO_WORDS : Addr} {od_TWO_WORDS : Option Addr} {n_TWO_WORDS : Nat} {sl_TWO_WORDS : Array (Option Value)} {u_TWO_WORDS0 u_TWO_WORDS1 u_TWO_WORDS2 u_TWO_WORDS3 : Tok} {t_MOST_WORDS : Tok} {t_MOST_DEEP : Tok}
    (z_len : PySem.W.nsIn K mainGlobals "len" = some none)
    (z_int : PySem.W.nsIn K mainGlobals "int" = some none)
    (z_min : PySem.W.nsIn K mainGlobals "min" = some none)
    (z_max : PySem.W.nsIn K mainGlobals "max" = some none)
    (z_range : PySem.W.nsIn K mainGlobals "range" = some none)
    (z_isinstance : PySem.W.nsIn K mainGlobals "isinstance" = some none)
    (z_zip : PySem.W.nsIn K mainGlobals "zip" = some none)
    (z_abs : PySem.W.nsIn K mainGlobals "abs" = some none)
    (z_str : PySem.W.nsIn K mainGlobals "str" = some none)
    (z_sum : PySem.W.nsIn K mainGlobals "sum" = some none)
    (z_bool : PySem.W.nsIn K mainGlobals "bool" = some none)
    (z_tuple : PySem.W.nsIn K mainGlobals "tuple" = some none)
    (z_ValueError : PySem.W.nsIn K mainGlobals "ValueError" = some none)
    (A_Num : PySem.W.nsIn K mainGlobals "Num" = some (some (.ref c_Num)))
    (A_Name : PySem.W.nsIn K mainGlobals "Name" = some (some (.ref c_Name)))
    (A_Two : PySem.W.nsIn K mainGlobals "Two" = some (some (.ref c_Two)))
    (A_Mod : PySem.W.nsIn K mainGlobals "Mod" = some (some (.ref c_Mod)))
    (A_Less : PySem.W.nsIn K mainGlobals "Less" = some (some (.ref c_Less)))
    (A_Program : PySem.W.nsIn K mainGlobals "Program" = some (some (.ref c_Program)))
    (a_0 : PySem.W.nsIn K mainGlobals "is_whole" = some (some (.ref f_is_whole)))
    (l_0 : K.lookup f_is_whole = some ⟨oc0, od0, .func (PySem.W.fnOf "is_whole" "is_whole" (defArgs st_is_whole) (defBody st_is_whole) (defScope st_is_whole) .none kV0 dc0 pm0 an0 cd0 ct0), sl0⟩)
    (cc_0 : PySem.W.codeIn K cd0 "is_whole" = true)
    (kk_0 : PySem.W.keepIn K (.ref f_is_whole) = true)
    (a_1 : PySem.W.nsIn K mainGlobals "is_short_number" = some (some (.ref f_is_short_number)))
    (l_1 : K.lookup f_is_short_number = some ⟨oc1, od1, .func (PySem.W.fnOf "is_short_number" "is_short_number" (defArgs st_is_short_number) (defBody st_is_short_number) (defScope st_is_short_number) .none kV1 dc1 pm1 an1 cd1 ct1), sl1⟩)
    (cc_1 : PySem.W.codeIn K cd1 "is_short_number" = true)
    (kk_1 : PySem.W.keepIn K (.ref f_is_short_number) = true)
    (a_2 : PySem.W.nsIn K mainGlobals "is_word_of" = some (some (.ref f_is_word_of)))
    (l_2 : K.lookup f_is_word_of = some ⟨oc2, od2, .func (PySem.W.fnOf "is_word_of" "is_word_of" (defArgs st_is_word_of) (defBody st_is_word_of) (defScope st_is_word_of) .none kV2 dc2 pm2 an2 cd2 ct2), sl2⟩)
    (cc_2 : PySem.W.codeIn K cd2 "is_word_of" = true)
    (kk_2 : PySem.W.keepIn K (.ref f_is_word_of) = true)
    (a_3 : PySem.W.nsIn K mainGlobals "is_divisor" = some (some (.ref f_is_divisor)))
    (l_3 : K.lookup f_is_divisor = some ⟨oc3, od3, .func (PySem.W.fnOf "is_divisor" "is_divisor" (defArgs st_is_divisor) (defBody st_is_divisor) (defScope st_is_divisor) .none kV3 dc3 pm3 an3 cd3 ct3), sl3⟩)
    (cc_3 : PySem.W.codeIn K cd3 "is_divisor" = true)
    (kk_3 : PySem.W.keepIn K (.ref f_is_divisor) = true)
    (a_4 : PySem.W.nsIn K mainGlobals "are_sound" = some (some (.ref f_are_sound)))
    (l_4 : K.lookup f_are_sound = some ⟨oc4, od4, .func (PySem.W.fnOf "are_sound" "are_sound" (defArgs st_are_sound) (defBody st_are_sound) (defScope st_are_sound) .none kV4 dc4 pm4 an4 cd4 ct4), sl4⟩)
    (cc_4 : PySem.W.codeIn K cd4 "are_sound" = true)
    (kk_4 : PySem.W.keepIn K (.ref f_are_sound) = true)
    (a_5 : PySem.W.nsIn K mainGlobals "is_sound" = some (some (.ref f_is_sound)))
    (l_5 : K.lookup f_is_sound = some ⟨oc5, od5, .func (PySem.W.fnOf "is_sound" "is_sound" (defArgs st_is_sound) (defBody st_is_sound) (defScope st_is_sound) .none kV5 dc5 pm5 an5 cd5 ct5), sl5⟩)
    (cc_5 : PySem.W.codeIn K cd5 "is_sound" = true)
    (kk_5 : PySem.W.keepIn K (.ref f_is_sound) = true)
    (a_6 : PySem.W.nsIn K mainGlobals "count_words" = some (some (.ref f_count_words)))
    (l_6 : K.lookup f_count_words = some ⟨oc6, od6, .func (PySem.W.fnOf "count_words" "count_words" (defArgs st_count_words) (defBody st_count_words) (defScope st_count_words) .none kV6 dc6 pm6 an6 cd6 ct6), sl6⟩)
    (cc_6 : PySem.W.codeIn K cd6 "count_words" = true)
    (kk_6 : PySem.W.keepIn K (.ref f_count_words) = true)
    (a_7 : PySem.W.nsIn K mainGlobals "_law_digit" = some (some (.ref f__law_digit)))
    (l_7 : K.lookup f__law_digit = some ⟨oc7, od7, .func (PySem.W.fnOf "_law_digit" "_law_digit" (defArgs st__law_digit) (defBody st__law_digit) (defScope st__law_digit) .none kV7 dc7 pm7 an7 cd7 ct7), sl7⟩)
    (cc_7 : PySem.W.codeIn K cd7 "_law_digit" = true)
    (kk_7 : PySem.W.keepIn K (.ref f__law_digit) = true)
    (a_8 : PySem.W.nsIn K mainGlobals "_law_some" = some (some (.ref f__law_some)))
    (l_8 : K.lookup f__law_some = some ⟨oc8, od8, .func (PySem.W.fnOf "_law_some" "_law_some" (defArgs st__law_some) (defBody st__law_some) (defScope st__law_some) .none kV8 dc8 pm8 an8 cd8 ct8), sl8⟩)
    (cc_8 : PySem.W.codeIn K cd8 "_law_some" = true)
    (kk_8 : PySem.W.keepIn K (.ref f__law_some) = true)
    (a_9 : PySem.W.nsIn K mainGlobals "_law_leaf" = some (some (.ref f__law_leaf)))
    (l_9 : K.lookup f__law_leaf = some ⟨oc9, od9, .func (PySem.W.fnOf "_law_leaf" "_law_leaf" (defArgs st__law_leaf) (defBody st__law_leaf) (defScope st__law_leaf) .none kV9 dc9 pm9 an9 cd9 ct9), sl9⟩)
    (cc_9 : PySem.W.codeIn K cd9 "_law_leaf" = true)
    (kk_9 : PySem.W.keepIn K (.ref f__law_leaf) = true)
    (a_10 : PySem.W.nsIn K mainGlobals "_law_told" = some (some (.ref f__law_told)))
    (l_10 : K.lookup f__law_told = some ⟨oc10, od10, .func (PySem.W.fnOf "_law_told" "_law_told" (defArgs st__law_told) (defBody st__law_told) (defScope st__law_told) .none kV10 dc10 pm10 an10 cd10 ct10), sl10⟩)
    (cc_10 : PySem.W.codeIn K cd10 "_law_told" = true)
    (kk_10 : PySem.W.keepIn K (.ref f__law_told) = true)
    (a_11 : PySem.W.nsIn K mainGlobals "_law_made" = some (some (.ref f__law_made)))
    (l_11 : K.lookup f__law_made = some ⟨oc11, od11, .func (PySem.W.fnOf "_law_made" "_law_made" (defArgs st__law_made) (defBody st__law_made) (defScope st__law_made) .none kV11 dc11 pm11 an11 cd11 ct11), sl11⟩)
    (cc_11 : PySem.W.codeIn K cd11 "_law_made" = true)
    (kk_11 : PySem.W.keepIn K (.ref f__law_made) = true)
    (a_12 : PySem.W.nsIn K mainGlobals "_law_look" = some (some (.ref f__law_look)))
    (l_12 : K.lookup f__law_look = some ⟨oc12, od12, .func (PySem.W.fnOf "_law_look" "_law_look" (defArgs st__law_look) (defBody st__law_look) (defScope st__law_look) .none kV12 dc12 pm12 an12 cd12 ct12), sl12⟩)
    (cc_12 : PySem.W.codeIn K cd12 "_law_look" = true)
    (kk_12 : PySem.W.keepIn K (.ref f__law_look) = true)
    (a_13 : PySem.W.nsIn K mainGlobals "_law_good" = some (some (.ref f__law_good)))
    (l_13 : K.lookup f__law_good = some ⟨oc13, od13, .func (PySem.W.fnOf "_law_good" "_law_good" (defArgs st__law_good) (defBody st__law_good) (defScope st__law_good) .none kV13 dc13 pm13 an13 cd13 ct13), sl13⟩)
    (cc_13 : PySem.W.codeIn K cd13 "_law_good" = true)
    (kk_13 : PySem.W.keepIn K (.ref f__law_good) = true)
    (a_14 : PySem.W.nsIn K mainGlobals "law" = some (some (.ref f_law)))
    (l_14 : K.lookup f_law = some ⟨oc14, od14, .func (PySem.W.fnOf "law" "law" (defArgs st_law) (defBody st_law) (defScope st_law) .none kV14 dc14 pm14 an14 cd14 ct14), sl14⟩)
    (cc_14 : PySem.W.codeIn K cd14 "law" = true)
    (kk_14 : PySem.W.keepIn K (.ref f_law) = true)
    (a_15 : PySem.W.findIn K (.ref c_Num) "__init__" = some (some (.ref f_Num___init__)))
    (i_15 : PySem.W.isFn K (.ref f_Num___init__) = true)
    (l_15 : K.lookup f_Num___init__ = some ⟨oc15, od15, .func (PySem.W.fnOf "__init__" "Num.__init__" (defArgs st_Num___init__) (defBody st_Num___init__) (defScope st_Num___init__) .none kV15 dc15 pm15 an15 cd15 ct15), sl15⟩)
    (cc_15 : PySem.W.codeIn K cd15 "Num.__init__" = true)
    (kk_15 : PySem.W.keepIn K (.ref f_Num___init__) = true)
    (a_16 : PySem.W.findIn K (.ref c_Num) "reckon" = some (some (.ref f_Num_reckon)))
    (i_16 : PySem.W.isFn K (.ref f_Num_reckon) = true)
    (l_16 : K.lookup f_Num_reckon = some ⟨oc16, od16, .func (PySem.W.fnOf "reckon" "Num.reckon" (defArgs st_Num_reckon) (defBody st_Num_reckon) (defScope st_Num_reckon) .none kV16 dc16 pm16 an16 cd16 ct16), sl16⟩)
    (cc_16 : PySem.W.codeIn K cd16 "Num.reckon" = true)
    (kk_16 : PySem.W.keepIn K (.ref f_Num_reckon) = true)
    (a_17 : PySem.W.findIn K (.ref c_Num) "words" = some (some (.ref f_Num_words)))
    (i_17 : PySem.W.isFn K (.ref f_Num_words) = true)
    (l_17 : K.lookup f_Num_words = some ⟨oc17, od17, .func (PySem.W.fnOf "words" "Num.words" (defArgs st_Num_words) (defBody st_Num_words) (defScope st_Num_words) .none kV17 dc17 pm17 an17 cd17 ct17), sl17⟩)
    (cc_17 : PySem.W.codeIn K cd17 "Num.words" = true)
    (kk_17 : PySem.W.keepIn K (.ref f_Num_words) = true)
    (a_18 : PySem.W.findIn K (.ref c_Name) "__init__" = some (some (.ref f_Name___init__)))
    (i_18 : PySem.W.isFn K (.ref f_Name___init__) = true)
    (l_18 : K.lookup f_Name___init__ = some ⟨oc18, od18, .func (PySem.W.fnOf "__init__" "Name.__init__" (defArgs st_Name___init__) (defBody st_Name___init__) (defScope st_Name___init__) .none kV18 dc18 pm18 an18 cd18 ct18), sl18⟩)
    (cc_18 : PySem.W.codeIn K cd18 "Name.__init__" = true)
    (kk_18 : PySem.W.keepIn K (.ref f_Name___init__) = true)
    (a_19 : PySem.W.findIn K (.ref c_Name) "reckon" = some (some (.ref f_Name_reckon)))
    (i_19 : PySem.W.isFn K (.ref f_Name_reckon) = true)
    (l_19 : K.lookup f_Name_reckon = some ⟨oc19, od19, .func (PySem.W.fnOf "reckon" "Name.reckon" (defArgs st_Name_reckon) (defBody st_Name_reckon) (defScope st_Name_reckon) .none kV19 dc19 pm19 an19 cd19 ct19), sl19⟩)
    (cc_19 : PySem.W.codeIn K cd19 "Name.reckon" = true)
    (kk_19 : PySem.W.keepIn K (.ref f_Name_reckon) = true)
    (a_20 : PySem.W.findIn K (.ref c_Name) "words" = some (some (.ref f_Name_words)))
    (i_20 : PySem.W.isFn K (.ref f_Name_words) = true)
    (l_20 : K.lookup f_Name_words = some ⟨oc20, od20, .func (PySem.W.fnOf "words" "Name.words" (defArgs st_Name_words) (defBody st_Name_words) (defScope st_Name_words) .none kV20 dc20 pm20 an20 cd20 ct20), sl20⟩)
    (cc_20 : PySem.W.codeIn K cd20 "Name.words" = true)
    (kk_20 : PySem.W.keepIn K (.ref f_Name_words) = true)
    (a_21 : PySem.W.findIn K (.ref c_Two) "__init__" = some (some (.ref f_Two___init__)))
    (i_21 : PySem.W.isFn K (.ref f_Two___init__) = true)
    (l_21 : K.lookup f_Two___init__ = some ⟨oc21, od21, .func (PySem.W.fnOf "__init__" "Two.__init__" (defArgs st_Two___init__) (defBody st_Two___init__) (defScope st_Two___init__) .none kV21 dc21 pm21 an21 cd21 ct21), sl21⟩)
    (cc_21 : PySem.W.codeIn K cd21 "Two.__init__" = true)
    (kk_21 : PySem.W.keepIn K (.ref f_Two___init__) = true)
    (a_22 : PySem.W.findIn K (.ref c_Two) "reckon" = some (some (.ref f_Two_reckon)))
    (i_22 : PySem.W.isFn K (.ref f_Two_reckon) = true)
    (l_22 : K.lookup f_Two_reckon = some ⟨oc22, od22, .func (PySem.W.fnOf "reckon" "Two.reckon" (defArgs st_Two_reckon) (defBody st_Two_reckon) (defScope st_Two_reckon) .none kV22 dc22 pm22 an22 cd22 ct22), sl22⟩)
    (cc_22 : PySem.W.codeIn K cd22 "Two.reckon" = true)
    (kk_22 : PySem.W.keepIn K (.ref f_Two_reckon) = true)
    (a_23 : PySem.W.findIn K (.ref c_Two) "words" = some (some (.ref f_Two_words)))
    (i_23 : PySem.W.isFn K (.ref f_Two_words) = true)
    (l_23 : K.lookup f_Two_words = some ⟨oc23, od23, .func (PySem.W.fnOf "words" "Two.words" (defArgs st_Two_words) (defBody st_Two_words) (defScope st_Two_words) .none kV23 dc23 pm23 an23 cd23 ct23), sl23⟩)
    (cc_23 : PySem.W.codeIn K cd23 "Two.words" = true)
    (kk_23 : PySem.W.keepIn K (.ref f_Two_words) = true)
    (a_24 : PySem.W.findIn K (.ref c_Mod) "__init__" = some (some (.ref f_Mod___init__)))
    (i_24 : PySem.W.isFn K (.ref f_Mod___init__) = true)
    (l_24 : K.lookup f_Mod___init__ = some ⟨oc24, od24, .func (PySem.W.fnOf "__init__" "Mod.__init__" (defArgs st_Mod___init__) (defBody st_Mod___init__) (defScope st_Mod___init__) .none kV24 dc24 pm24 an24 cd24 ct24), sl24⟩)
    (cc_24 : PySem.W.codeIn K cd24 "Mod.__init__" = true)
    (kk_24 : PySem.W.keepIn K (.ref f_Mod___init__) = true)
    (a_25 : PySem.W.findIn K (.ref c_Mod) "reckon" = some (some (.ref f_Mod_reckon)))
    (i_25 : PySem.W.isFn K (.ref f_Mod_reckon) = true)
    (l_25 : K.lookup f_Mod_reckon = some ⟨oc25, od25, .func (PySem.W.fnOf "reckon" "Mod.reckon" (defArgs st_Mod_reckon) (defBody st_Mod_reckon) (defScope st_Mod_reckon) .none kV25 dc25 pm25 an25 cd25 ct25), sl25⟩)
    (cc_25 : PySem.W.codeIn K cd25 "Mod.reckon" = true)
    (kk_25 : PySem.W.keepIn K (.ref f_Mod_reckon) = true)
    (a_26 : PySem.W.findIn K (.ref c_Mod) "words" = some (some (.ref f_Mod_words)))
    (i_26 : PySem.W.isFn K (.ref f_Mod_words) = true)
    (l_26 : K.lookup f_Mod_words = some ⟨oc26, od26, .func (PySem.W.fnOf "words" "Mod.words" (defArgs st_Mod_words) (defBody st_Mod_words) (defScope st_Mod_words) .none kV26 dc26 pm26 an26 cd26 ct26), sl26⟩)
    (cc_26 : PySem.W.codeIn K cd26 "Mod.words" = true)
    (kk_26 : PySem.W.keepIn K (.ref f_Mod_words) = true)
    (a_27 : PySem.W.findIn K (.ref c_Less) "__init__" = some (some (.ref f_Less___init__)))
    (i_27 : PySem.W.isFn K (.ref f_Less___init__) = true)
    (l_27 : K.lookup f_Less___init__ = some ⟨oc27, od27, .func (PySem.W.fnOf "__init__" "Less.__init__" (defArgs st_Less___init__) (defBody st_Less___init__) (defScope st_Less___init__) .none kV27 dc27 pm27 an27 cd27 ct27), sl27⟩)
    (cc_27 : PySem.W.codeIn K cd27 "Less.__init__" = true)
    (kk_27 : PySem.W.keepIn K (.ref f_Less___init__) = true)
    (a_28 : PySem.W.findIn K (.ref c_Less) "reckon" = some (some (.ref f_Less_reckon)))
    (i_28 : PySem.W.isFn K (.ref f_Less_reckon) = true)
    (l_28 : K.lookup f_Less_reckon = some ⟨oc28, od28, .func (PySem.W.fnOf "reckon" "Less.reckon" (defArgs st_Less_reckon) (defBody st_Less_reckon) (defScope st_Less_reckon) .none kV28 dc28 pm28 an28 cd28 ct28), sl28⟩)
    (cc_28 : PySem.W.codeIn K cd28 "Less.reckon" = true)
    (kk_28 : PySem.W.keepIn K (.ref f_Less_reckon) = true)
    (a_29 : PySem.W.findIn K (.ref c_Less) "words" = some (some (.ref f_Less_words)))
    (i_29 : PySem.W.isFn K (.ref f_Less_words) = true)
    (l_29 : K.lookup f_Less_words = some ⟨oc29, od29, .func (PySem.W.fnOf "words" "Less.words" (defArgs st_Less_words) (defBody st_Less_words) (defScope st_Less_words) .none kV29 dc29 pm29 an29 cd29 ct29), sl29⟩)
    (cc_29 : PySem.W.codeIn K cd29 "Less.words" = true)
    (kk_29 : PySem.W.keepIn K (.ref f_Less_words) = true)
    (a_30 : PySem.W.findIn K (.ref c_Program) "__init__" = some (some (.ref f_Program___init__)))
    (i_30 : PySem.W.isFn K (.ref f_Program___init__) = true)
    (l_30 : K.lookup f_Program___init__ = some ⟨oc30, od30, .func (PySem.W.fnOf "__init__" "Program.__init__" (defArgs st_Program___init__) (defBody st_Program___init__) (defScope st_Program___init__) .none kV30 dc30 pm30 an30 cd30 ct30), sl30⟩)
    (cc_30 : PySem.W.codeIn K cd30 "Program.__init__" = true)
    (kk_30 : PySem.W.keepIn K (.ref f_Program___init__) = true)
    (pg_Num : PySem.W.plainGet K c_Num Str.empty = true)
    (hd_Num : PySem.W.hasDictIn K c_Num = true)
    (po_Num : PySem.W.plainOver K c_Num = true)
    (sa_Num : PySem.W.findIn K (.ref c_Num) "__setattr__" = some (some (.builtin "object.__setattr__")))
    (mk_Num : PySem.W.makesIn K c_Num = true)
    (kc_Num : PySem.W.keepIn K (.ref c_Num) = true)
    (ha_Num : PySem.W.findIn K (.ref c_Num) "__class__" = some (some (.builtin "object.__class__")))
    (hm_Num : PySem.W.mroIn K c_Num (.type "object") = some true)
    (na_Num_value : PySem.W.findIn K (.ref c_Num) "value" = some none)
    (pg_Name : PySem.W.plainGet K c_Name Str.empty = true)
    (hd_Name : PySem.W.hasDictIn K c_Name = true)
    (po_Name : PySem.W.plainOver K c_Name = true)
    (sa_Name : PySem.W.findIn K (.ref c_Name) "__setattr__" = some (some (.builtin "object.__setattr__")))
    (mk_Name : PySem.W.makesIn K c_Name = true)
    (kc_Name : PySem.W.keepIn K (.ref c_Name) = true)
    (ha_Name : PySem.W.findIn K (.ref c_Name) "__class__" = some (some (.builtin "object.__class__")))
    (hm_Name : PySem.W.mroIn K c_Name (.type "object") = some true)
    (na_Name_word : PySem.W.findIn K (.ref c_Name) "word" = some none)
    (pg_Two : PySem.W.plainGet K c_Two Str.empty = true)
    (hd_Two : PySem.W.hasDictIn K c_Two = true)
    (po_Two : PySem.W.plainOver K c_Two = true)
    (sa_Two : PySem.W.findIn K (.ref c_Two) "__setattr__" = some (some (.builtin "object.__setattr__")))
    (mk_Two : PySem.W.makesIn K c_Two = true)
    (kc_Two : PySem.W.keepIn K (.ref c_Two) = true)
    (ha_Two : PySem.W.findIn K (.ref c_Two) "__class__" = some (some (.builtin "object.__class__")))
    (hm_Two : PySem.W.mroIn K c_Two (.type "object") = some true)
    (na_Two_word : PySem.W.findIn K (.ref c_Two) "word" = some none)
    (na_Two_one : PySem.W.findIn K (.ref c_Two) "one" = some none)
    (na_Two_other : PySem.W.findIn K (.ref c_Two) "other" = some none)
    (pg_Mod : PySem.W.plainGet K c_Mod Str.empty = true)
    (hd_Mod : PySem.W.hasDictIn K c_Mod = true)
    (po_Mod : PySem.W.plainOver K c_Mod = true)
    (sa_Mod : PySem.W.findIn K (.ref c_Mod) "__setattr__" = some (some (.builtin "object.__setattr__")))
    (mk_Mod : PySem.W.makesIn K c_Mod = true)
    (kc_Mod : PySem.W.keepIn K (.ref c_Mod) = true)
    (ha_Mod : PySem.W.findIn K (.ref c_Mod) "__class__" = some (some (.builtin "object.__class__")))
    (hm_Mod : PySem.W.mroIn K c_Mod (.type "object") = some true)
    (na_Mod_inner : PySem.W.findIn K (.ref c_Mod) "inner" = some none)
    (na_Mod_number : PySem.W.findIn K (.ref c_Mod) "number" = some none)
    (pg_Less : PySem.W.plainGet K c_Less Str.empty = true)
    (hd_Less : PySem.W.hasDictIn K c_Less = true)
    (po_Less : PySem.W.plainOver K c_Less = true)
    (sa_Less : PySem.W.findIn K (.ref c_Less) "__setattr__" = some (some (.builtin "object.__setattr__")))
    (mk_Less : PySem.W.makesIn K c_Less = true)
    (kc_Less : PySem.W.keepIn K (.ref c_Less) = true)
    (ha_Less : PySem.W.findIn K (.ref c_Less) "__class__" = some (some (.builtin "object.__class__")))
    (hm_Less : PySem.W.mroIn K c_Less (.type "object") = some true)
    (na_Less_one : PySem.W.findIn K (.ref c_Less) "one" = some none)
    (na_Less_other : PySem.W.findIn K (.ref c_Less) "other" = some none)
    (na_Less_third : PySem.W.findIn K (.ref c_Less) "third" = some none)
    (na_Less_fourth : PySem.W.findIn K (.ref c_Less) "fourth" = some none)
    (pg_Program : PySem.W.plainGet K c_Program Str.empty = true)
    (hd_Program : PySem.W.hasDictIn K c_Program = true)
    (po_Program : PySem.W.plainOver K c_Program = true)
    (sa_Program : PySem.W.findIn K (.ref c_Program) "__setattr__" = some (some (.builtin "object.__setattr__")))
    (mk_Program : PySem.W.makesIn K c_Program = true)
    (kc_Program : PySem.W.keepIn K (.ref c_Program) = true)
    (ha_Program : PySem.W.findIn K (.ref c_Program) "__class__" = some (some (.builtin "object.__class__")))
    (hm_Program : PySem.W.mroIn K c_Program (.type "object") = some true)
    (na_Program_start : PySem.W.findIn K (.ref c_Program) "start" = some none)
    (na_Program_send : PySem.W.findIn K (.ref c_Program) "send" = some none)
    (na_Program_when : PySem.W.findIn K (.ref c_Program) "when" = some none)
    (na_Program_renew : PySem.W.findIn K (.ref c_Program) "renew" = some none)
    (hn : PySem.W.specialIn K (.builtin "object.__class__") "__get__" = some (some (.builtin "getset_descriptor.__get__")))
    (htk : PySem.W.takesIn K (.builtin "object.__class__") = some true)
    (k_Num_Num : PySem.W.kitOne K (.ref c_Num) (.ref c_Num) = some true)
    (k_Name_Num : PySem.W.kitOne K (.ref c_Name) (.ref c_Num) = some false)
    (k_Name_Name : PySem.W.kitOne K (.ref c_Name) (.ref c_Name) = some true)
    (k_Two_Num : PySem.W.kitOne K (.ref c_Two) (.ref c_Num) = some false)
    (k_Two_Name : PySem.W.kitOne K (.ref c_Two) (.ref c_Name) = some false)
    (k_Two_Two : PySem.W.kitOne K (.ref c_Two) (.ref c_Two) = some true)
    (k_Mod_Num : PySem.W.kitOne K (.ref c_Mod) (.ref c_Num) = some false)
    (k_Mod_Name : PySem.W.kitOne K (.ref c_Mod) (.ref c_Name) = some false)
    (k_Mod_Two : PySem.W.kitOne K (.ref c_Mod) (.ref c_Two) = some false)
    (k_Mod_Mod : PySem.W.kitOne K (.ref c_Mod) (.ref c_Mod) = some true)
    (k_Less_Num : PySem.W.kitOne K (.ref c_Less) (.ref c_Num) = some false)
    (k_Less_Name : PySem.W.kitOne K (.ref c_Less) (.ref c_Name) = some false)
    (k_Less_Two : PySem.W.kitOne K (.ref c_Less) (.ref c_Two) = some false)
    (k_Less_Mod : PySem.W.kitOne K (.ref c_Less) (.ref c_Mod) = some false)
    (k_Less_Less : PySem.W.kitOne K (.ref c_Less) (.ref c_Less) = some true)
    (k_tint_tint : PySem.W.kitOne K (.type "int") (.type "int") = some true)
    (k_tint_tbool : PySem.W.kitOne K (.type "int") (.type "bool") = some false)
    (k_tstr_tstr : PySem.W.kitOne K (.type "str") (.type "str") = some true)
    (k_ttuple_ttuple : PySem.W.kitOne K (.type "tuple") (.type "tuple") = some true)
    (k_tint_ttuple : PySem.W.kitOne K (.type "int") (.type "tuple") = some false)
    (k_tstr_ttuple : PySem.W.kitOne K (.type "str") (.type "tuple") = some false)
    (k_tint_tstr : PySem.W.kitOne K (.type "int") (.type "str") = some false)
    (k_tstr_tint : PySem.W.kitOne K (.type "str") (.type "int") = some false)
    (k_tstr_tbool : PySem.W.kitOne K (.type "str") (.type "bool") = some false)
    (G_START_NAMES : PySem.W.nsIn K mainGlobals "START_NAMES" = some (some (.ref t_START_NAMES)))
    (L_START_NAMES : K.lookup t_START_NAMES = some ⟨.type "tuple", od_START_NAMES, .seq #[.str "me" u_START_NAMES0, .str "lines" u_START_NAMES1] n_START_NAMES, sl_START_NAMES⟩)
    (G_SEND_NAMES : PySem.W.nsIn K mainGlobals "SEND_NAMES" = some (some (.ref t_SEND_NAMES)))
    (L_SEND_NAMES : K.lookup t_SEND_NAMES = some ⟨.type "tuple", od_SEND_NAMES, .seq #[.str "worth" u_SEND_NAMES0, .str "me" u_SEND_NAMES1, .str "round" u_SEND_NAMES2, .str "lines" u_SEND_NAMES3, .str "to" u_SEND_NAMES4] n_SEND_NAMES, sl_SEND_NAMES⟩)
    (G_RENEW_NAMES : PySem.W.nsIn K mainGlobals "RENEW_NAMES" = some (some (.ref t_RENEW_NAMES)))
    (L_RENEW_NAMES : K.lookup t_RENEW_NAMES = some ⟨.type "tuple", od_RENEW_NAMES, .seq #[.str "worth" u_RENEW_NAMES0, .str "me" u_RENEW_NAMES1, .str "round" u_RENEW_NAMES2, .str "lines" u_RENEW_NAMES3, .str "sum" u_RENEW_NAMES4, .str "least" u_RENEW_NAMES5, .str "most" u_RENEW_NAMES6, .str "count" u_RENEW_NAMES7] n_RENEW_NAMES, sl_RENEW_NAMES⟩)
    (G_TWO_WORDS : PySem.W.nsIn K mainGlobals "TWO_WORDS" = some (some (.ref t_TWO_WORDS)))
    (L_TWO_WORDS : K.lookup t_TWO_WORDS = some ⟨.type "tuple", od_TWO_WORDS, .seq #[.str "add" u_TWO_WORDS0, .str "sub" u_TWO_WORDS1, .str "min" u_TWO_WORDS2, .str "max" u_TWO_WORDS3] n_TWO_WORDS, sl_TWO_WORDS⟩)
    (G_MOST_WORDS : PySem.W.nsIn K mainGlobals "MOST_WORDS" = some (some (.int 60 t_MOST_WORDS)))
    (G_MOST_DEEP : PySem.W.nsIn K mainGlobals "MOST_DEEP" = some (some (.int 8 t_MOST_DEEP)))
    (A_NoProgram : PySem.W.nsIn K mainGlobals "NoProgram" = some (some (.ref c_NoProgram)))
    (X_NoProgram : PySem.W.excIn K c_NoProgram bmVal "ValueError.__new__" = true) :
    ∃ a : Ad, Txt K mg a := by
  have F0 := fun_mk (st := st_is_whole) l_0 cc_0 kk_0
  have F1 := fun_mk (st := st_is_short_number) l_1 cc_1 kk_1
  have F2 := fun_mk (st := st_is_word_of) l_2 cc_2 kk_2
  have F3 := fun_mk (st := st_is_divisor) l_3 cc_3 kk_3
  have F4 := fun_mk (st := st_are_sound) l_4 cc_4 kk_4
  have F5 := fun_mk (st := st_is_sound) l_5 cc_5 kk_5
  have F6 := fun_mk (st := st_count_words) l_6 cc_6 kk_6
  have F7 := fun_mk (st := st__law_digit) l_7 cc_7 kk_7
  have F8 := fun_mk (st := st__law_some) l_8 cc_8 kk_8
  have F9 := fun_mk (st := st__law_leaf) l_9 cc_9 kk_9
  have F10 := fun_mk (st := st__law_told) l_10 cc_10 kk_10
  have F11 := fun_mk (st := st__law_made) l_11 cc_11 kk_11
  have F12 := fun_mk (st := st__law_look) l_12 cc_12 kk_12
  have F13 := fun_mk (st := st__law_good) l_13 cc_13 kk_13
  have F14 := fun_mk (st := st_law) l_14 cc_14 kk_14
  have F15 := fun_mk (st := st_Num___init__) l_15 cc_15 kk_15
  have F16 := fun_mk (st := st_Num_reckon) l_16 cc_16 kk_16
  have F17 := fun_mk (st := st_Num_words) l_17 cc_17 kk_17
  have F18 := fun_mk (st := st_Name___init__) l_18 cc_18 kk_18
  have F19 := fun_mk (st := st_Name_reckon) l_19 cc_19 kk_19
  have F20 := fun_mk (st := st_Name_words) l_20 cc_20 kk_20
  have F21 := fun_mk (st := st_Two___init__) l_21 cc_21 kk_21
  have F22 := fun_mk (st := st_Two_reckon) l_22 cc_22 kk_22
  have F23 := fun_mk (st := st_Two_words) l_23 cc_23 kk_23
  have F24 := fun_mk (st := st_Mod___init__) l_24 cc_24 kk_24
  have F25 := fun_mk (st := st_Mod_reckon) l_25 cc_25 kk_25
  have F26 := fun_mk (st := st_Mod_words) l_26 cc_26 kk_26
  have F27 := fun_mk (st := st_Less___init__) l_27 cc_27 kk_27
  have F28 := fun_mk (st := st_Less_reckon) l_28 cc_28 kk_28
  have F29 := fun_mk (st := st_Less_words) l_29 cc_29 kk_29
  have F30 := fun_mk (st := st_Program___init__) l_30 cc_30 kk_30
  refine ⟨⟨f_is_whole, PySem.W.fnOf "is_whole" "is_whole" (defArgs st_is_whole) (defBody st_is_whole) (defScope st_is_whole) .none kV0 dc0 pm0 an0 cd0 ct0, f_is_short_number, PySem.W.fnOf "is_short_number" "is_short_number" (defArgs st_is_short_number) (defBody st_is_short_number) (defScope st_is_short_number) .none kV1 dc1 pm1 an1 cd1 ct1, f_is_word_of, PySem.W.fnOf "is_word_of" "is_word_of" (defArgs st_is_word_of) (defBody st_is_word_of) (defScope st_is_word_of) .none kV2 dc2 pm2 an2 cd2 ct2, f_is_divisor, PySem.W.fnOf "is_divisor" "is_divisor" (defArgs st_is_divisor) (defBody st_is_divisor) (defScope st_is_divisor) .none kV3 dc3 pm3 an3 cd3 ct3, f_are_sound, PySem.W.fnOf "are_sound" "are_sound" (defArgs st_are_sound) (defBody st_are_sound) (defScope st_are_sound) .none kV4 dc4 pm4 an4 cd4 ct4, f_is_sound, PySem.W.fnOf "is_sound" "is_sound" (defArgs st_is_sound) (defBody st_is_sound) (defScope st_is_sound) .none kV5 dc5 pm5 an5 cd5 ct5, f_count_words, PySem.W.fnOf "count_words" "count_words" (defArgs st_count_words) (defBody st_count_words) (defScope st_count_words) .none kV6 dc6 pm6 an6 cd6 ct6, f__law_digit, PySem.W.fnOf "_law_digit" "_law_digit" (defArgs st__law_digit) (defBody st__law_digit) (defScope st__law_digit) .none kV7 dc7 pm7 an7 cd7 ct7, f__law_some, PySem.W.fnOf "_law_some" "_law_some" (defArgs st__law_some) (defBody st__law_some) (defScope st__law_some) .none kV8 dc8 pm8 an8 cd8 ct8, f__law_leaf, PySem.W.fnOf "_law_leaf" "_law_leaf" (defArgs st__law_leaf) (defBody st__law_leaf) (defScope st__law_leaf) .none kV9 dc9 pm9 an9 cd9 ct9, f__law_told, PySem.W.fnOf "_law_told" "_law_told" (defArgs st__law_told) (defBody st__law_told) (defScope st__law_told) .none kV10 dc10 pm10 an10 cd10 ct10, f__law_made, PySem.W.fnOf "_law_made" "_law_made" (defArgs st__law_made) (defBody st__law_made) (defScope st__law_made) .none kV11 dc11 pm11 an11 cd11 ct11, f__law_look, PySem.W.fnOf "_law_look" "_law_look" (defArgs st__law_look) (defBody st__law_look) (defScope st__law_look) .none kV12 dc12 pm12 an12 cd12 ct12, f__law_good, PySem.W.fnOf "_law_good" "_law_good" (defArgs st__law_good) (defBody st__law_good) (defScope st__law_good) .none kV13 dc13 pm13 an13 cd13 ct13, f_law, PySem.W.fnOf "law" "law" (defArgs st_law) (defBody st_law) (defScope st_law) .none kV14 dc14 pm14 an14 cd14 ct14, f_Num___init__, PySem.W.fnOf "__init__" "Num.__init__" (defArgs st_Num___init__) (defBody st_Num___init__) (defScope st_Num___init__) .none kV15 dc15 pm15 an15 cd15 ct15, f_Num_reckon, PySem.W.fnOf "reckon" "Num.reckon" (defArgs st_Num_reckon) (defBody st_Num_reckon) (defScope st_Num_reckon) .none kV16 dc16 pm16 an16 cd16 ct16, f_Num_words, PySem.W.fnOf "words" "Num.words" (defArgs st_Num_words) (defBody st_Num_words) (defScope st_Num_words) .none kV17 dc17 pm17 an17 cd17 ct17, f_Name___init__, PySem.W.fnOf "__init__" "Name.__init__" (defArgs st_Name___init__) (defBody st_Name___init__) (defScope st_Name___init__) .none kV18 dc18 pm18 an18 cd18 ct18, f_Name_reckon, PySem.W.fnOf "reckon" "Name.reckon" (defArgs st_Name_reckon) (defBody st_Name_reckon) (defScope st_Name_reckon) .none kV19 dc19 pm19 an19 cd19 ct19, f_Name_words, PySem.W.fnOf "words" "Name.words" (defArgs st_Name_words) (defBody st_Name_words) (defScope st_Name_words) .none kV20 dc20 pm20 an20 cd20 ct20, f_Two___init__, PySem.W.fnOf "__init__" "Two.__init__" (defArgs st_Two___init__) (defBody st_Two___init__) (defScope st_Two___init__) .none kV21 dc21 pm21 an21 cd21 ct21, f_Two_reckon, PySem.W.fnOf "reckon" "Two.reckon" (defArgs st_Two_reckon) (defBody st_Two_reckon) (defScope st_Two_reckon) .none kV22 dc22 pm22 an22 cd22 ct22, f_Two_words, PySem.W.fnOf "words" "Two.words" (defArgs st_Two_words) (defBody st_Two_words) (defScope st_Two_words) .none kV23 dc23 pm23 an23 cd23 ct23, f_Mod___init__, PySem.W.fnOf "__init__" "Mod.__init__" (defArgs st_Mod___init__) (defBody st_Mod___init__) (defScope st_Mod___init__) .none kV24 dc24 pm24 an24 cd24 ct24, f_Mod_reckon, PySem.W.fnOf "reckon" "Mod.reckon" (defArgs st_Mod_reckon) (defBody st_Mod_reckon) (defScope st_Mod_reckon) .none kV25 dc25 pm25 an25 cd25 ct25, f_Mod_words, PySem.W.fnOf "words" "Mod.words" (defArgs st_Mod_words) (defBody st_Mod_words) (defScope st_Mod_words) .none kV26 dc26 pm26 an26 cd26 ct26, f_Less___init__, PySem.W.fnOf "__init__" "Less.__init__" (defArgs st_Less___init__) (defBody st_Less___init__) (defScope st_Less___init__) .none kV27 dc27 pm27 an27 cd27 ct27, f_Less_reckon, PySem.W.fnOf "reckon" "Less.reckon" (defArgs st_Less_reckon) (defBody st_Less_reckon) (defScope st_Less_reckon) .none kV28 dc28 pm28 an28 cd28 ct28, f_Less_words, PySem.W.fnOf "words" "Less.words" (defArgs st_Less_words) (defBody st_Less_words) (defScope st_Less_words) .none kV29 dc29 pm29 an29 cd29 ct29, f_Program___init__, PySem.W.fnOf "__init__" "Program.__init__" (defArgs st_Program___init__) (defBody st_Program___init__) (defScope st_Program___init__) .none kV30 dc30 pm30 an30 cd30 ct30, c_Num, c_Name, c_Two, c_Mod, c_Less, c_Program, c_NoProgram, t_START_NAMES, t_SEND_NAMES, t_RENEW_NAMES, t_TWO_WORDS, t_MOST_WORDS, t_MOST_DEEP⟩, ?_⟩
  exact ⟨PySem.W.mg_none_of X G z_len,
    PySem.W.mg_none_of X G z_int,
    PySem.W.mg_none_of X G z_min,
    PySem.W.mg_none_of X G z_max,
    PySem.W.mg_none_of X G z_range,
    PySem.W.mg_none_of X G z_isinstance,
    PySem.W.mg_none_of X G z_zip,
    PySem.W.mg_none_of X G z_abs,
    PySem.W.mg_none_of X G z_str,
    PySem.W.mg_none_of X G z_sum,
    PySem.W.mg_none_of X G z_bool,
    PySem.W.mg_none_of X G z_tuple,
    PySem.W.mg_none_of X G z_ValueError,
    F0,
    F0.binds (ps := ["value"]) fun _ _ _ _ _ _ us hl => match us, hl with | [_], _ => rfl,
    PySem.W.mg_of X G a_0,
    F1,
    F1.binds (ps := ["value"]) fun _ _ _ _ _ _ us hl => match us, hl with | [_], _ => rfl,
    PySem.W.mg_of X G a_1,
    F2,
    F2.binds (ps := ["word", "words"]) fun _ _ _ _ _ _ us hl => match us, hl with | [_, _], _ => rfl,
    PySem.W.mg_of X G a_2,
    F3,
    F3.binds (ps := ["number"]) fun _ _ _ _ _ _ us hl => match us, hl with | [_], _ => rfl,
    PySem.W.mg_of X G a_3,
    F4,
    F4.binds (ps := ["parts", "names", "deep"]) fun _ _ _ _ _ _ us hl => match us, hl with | [_, _, _], _ => rfl,
    PySem.W.mg_of X G a_4,
    F5,
    F5.binds (ps := ["expr", "names", "deep"]) fun _ _ _ _ _ _ us hl => match us, hl with | [_, _, _], _ => rfl,
    PySem.W.mg_of X G a_5,
    F6,
    F6.binds (ps := ["exprs"]) fun _ _ _ _ _ _ us hl => match us, hl with | [_], _ => rfl,
    PySem.W.mg_of X G a_6,
    F7,
    F7.binds (ps := ["_law_state", "_law_base"]) fun _ _ _ _ _ _ us hl => match us, hl with | [_, _], _ => rfl,
    PySem.W.mg_of X G a_7,
    F8,
    F8.binds (ps := ["_law_state", "_law_pool", "_law_seldom"]) fun _ _ _ _ _ _ us hl => match us, hl with | [_, _, _], _ => rfl,
    PySem.W.mg_of X G a_8,
    F9,
    F9.binds (ps := ["_law_state", "_law_pool"]) fun _ _ _ _ _ _ us hl => match us, hl with | [_, _], _ => rfl,
    PySem.W.mg_of X G a_9,
    F10,
    F10.binds (ps := ["_law_state", "_law_pool"]) fun _ _ _ _ _ _ us hl => match us, hl with | [_, _], _ => rfl,
    PySem.W.mg_of X G a_10,
    F11,
    F11.binds (ps := ["_law_told_here"]) fun _ _ _ _ _ _ us hl => match us, hl with | [_], _ => rfl,
    PySem.W.mg_of X G a_11,
    F12,
    F12.binds (ps := ["_law_told_here", "_law_names"]) fun _ _ _ _ _ _ us hl => match us, hl with | [_, _], _ => rfl,
    PySem.W.mg_of X G a_12,
    F13,
    F13.binds (ps := ["_law_four"]) fun _ _ _ _ _ _ us hl => match us, hl with | [_], _ => rfl,
    PySem.W.mg_of X G a_13,
    F14,
    F14.binds (ps := ["_law_script"]) fun _ _ _ _ _ _ us hl => match us, hl with | [_], _ => rfl,
    fun s v => .of_eq rfl,
    PySem.W.mg_of X G a_14,
    F15,
    F15.binds (ps := ["self", "value"]) fun _ _ _ _ _ _ us hl => match us, hl with | [_, _], _ => rfl,
    F16,
    F16.binds (ps := ["self", "worths"]) fun _ _ _ _ _ _ us hl => match us, hl with | [_, _], _ => rfl,
    ⟨a_16, i_16, kk_16⟩,
    F17,
    F17.binds (ps := ["self"]) fun _ _ _ _ _ _ us hl => match us, hl with | [_], _ => rfl,
    ⟨a_17, i_17, kk_17⟩,
    F18,
    F18.binds (ps := ["self", "word"]) fun _ _ _ _ _ _ us hl => match us, hl with | [_, _], _ => rfl,
    F19,
    F19.binds (ps := ["self", "worths"]) fun _ _ _ _ _ _ us hl => match us, hl with | [_, _], _ => rfl,
    ⟨a_19, i_19, kk_19⟩,
    F20,
    F20.binds (ps := ["self"]) fun _ _ _ _ _ _ us hl => match us, hl with | [_], _ => rfl,
    ⟨a_20, i_20, kk_20⟩,
    F21,
    F21.binds (ps := ["self", "word", "one", "other"]) fun _ _ _ _ _ _ us hl => match us, hl with | [_, _, _, _], _ => rfl,
    F22,
    F22.binds (ps := ["self", "worths"]) fun _ _ _ _ _ _ us hl => match us, hl with | [_, _], _ => rfl,
    ⟨a_22, i_22, kk_22⟩,
    F23,
    F23.binds (ps := ["self"]) fun _ _ _ _ _ _ us hl => match us, hl with | [_], _ => rfl,
    ⟨a_23, i_23, kk_23⟩,
    F24,
    F24.binds (ps := ["self", "inner", "number"]) fun _ _ _ _ _ _ us hl => match us, hl with | [_, _, _], _ => rfl,
    F25,
    F25.binds (ps := ["self", "worths"]) fun _ _ _ _ _ _ us hl => match us, hl with | [_, _], _ => rfl,
    ⟨a_25, i_25, kk_25⟩,
    F26,
    F26.binds (ps := ["self"]) fun _ _ _ _ _ _ us hl => match us, hl with | [_], _ => rfl,
    ⟨a_26, i_26, kk_26⟩,
    F27,
    F27.binds (ps := ["self", "one", "other", "third", "fourth"]) fun _ _ _ _ _ _ us hl => match us, hl with | [_, _, _, _, _], _ => rfl,
    F28,
    F28.binds (ps := ["self", "worths"]) fun _ _ _ _ _ _ us hl => match us, hl with | [_, _], _ => rfl,
    ⟨a_28, i_28, kk_28⟩,
    F29,
    F29.binds (ps := ["self"]) fun _ _ _ _ _ _ us hl => match us, hl with | [_], _ => rfl,
    ⟨a_29, i_29, kk_29⟩,
    F30,
    F30.binds (ps := ["self", "start", "send", "when", "renew"]) fun _ _ _ _ _ _ us hl => match us, hl with | [_, _, _, _, _], _ => rfl,
    PySem.W.mg_of X G A_Num,
    ⟨pg_Num, hd_Num, po_Num, sa_Num⟩,
    ⟨mk_Num, a_15, i_15, kc_Num⟩,
    fun H p dx fs e => .ins e ⟨pg_Num, hd_Num, po_Num, sa_Num⟩ ha_Num hn htk hm_Num,
    na_Num_value,
    PySem.W.mg_of X G A_Name,
    ⟨pg_Name, hd_Name, po_Name, sa_Name⟩,
    ⟨mk_Name, a_18, i_18, kc_Name⟩,
    fun H p dx fs e => .ins e ⟨pg_Name, hd_Name, po_Name, sa_Name⟩ ha_Name hn htk hm_Name,
    na_Name_word,
    PySem.W.mg_of X G A_Two,
    ⟨pg_Two, hd_Two, po_Two, sa_Two⟩,
    ⟨mk_Two, a_21, i_21, kc_Two⟩,
    fun H p dx fs e => .ins e ⟨pg_Two, hd_Two, po_Two, sa_Two⟩ ha_Two hn htk hm_Two,
    na_Two_word,
    na_Two_one,
    na_Two_other,
    PySem.W.mg_of X G A_Mod,
    ⟨pg_Mod, hd_Mod, po_Mod, sa_Mod⟩,
    ⟨mk_Mod, a_24, i_24, kc_Mod⟩,
    fun H p dx fs e => .ins e ⟨pg_Mod, hd_Mod, po_Mod, sa_Mod⟩ ha_Mod hn htk hm_Mod,
    na_Mod_inner,
    na_Mod_number,
    PySem.W.mg_of X G A_Less,
    ⟨pg_Less, hd_Less, po_Less, sa_Less⟩,
    ⟨mk_Less, a_27, i_27, kc_Less⟩,
    fun H p dx fs e => .ins e ⟨pg_Less, hd_Less, po_Less, sa_Less⟩ ha_Less hn htk hm_Less,
    na_Less_one,
    na_Less_other,
    na_Less_third,
    na_Less_fourth,
    PySem.W.mg_of X G A_Program,
    ⟨pg_Program, hd_Program, po_Program, sa_Program⟩,
    ⟨mk_Program, a_30, i_30, kc_Program⟩,
    fun H p dx fs e => .ins e ⟨pg_Program, hd_Program, po_Program, sa_Program⟩ ha_Program hn htk hm_Program,
    na_Program_start,
    na_Program_send,
    na_Program_when,
    na_Program_renew,
    k_Num_Num,
    k_Name_Num,
    k_Name_Name,
    k_Two_Num,
    k_Two_Name,
    k_Two_Two,
    k_Mod_Num,
    k_Mod_Name,
    k_Mod_Two,
    k_Mod_Mod,
    k_Less_Num,
    k_Less_Name,
    k_Less_Two,
    k_Less_Mod,
    k_Less_Less,
    k_tint_tint,
    k_tint_tbool,
    k_tstr_tstr,
    k_ttuple_ttuple,
    k_tint_ttuple,
    k_tstr_ttuple,
    k_tint_tstr,
    k_tstr_tint,
    k_tstr_tbool,
    PySem.W.mg_of X G G_START_NAMES,
    fun H => .inr ⟨_, _, _, L_START_NAMES, rfl, rfl, by show 2 ≤ sizeLine; decide, by exact .cons ⟨_, rfl⟩ (.cons ⟨_, rfl⟩ (.nil))⟩,
    PySem.W.mg_of X G G_SEND_NAMES,
    fun H => .inr ⟨_, _, _, L_SEND_NAMES, rfl, rfl, by show 5 ≤ sizeLine; decide, by exact .cons ⟨_, rfl⟩ (.cons ⟨_, rfl⟩ (.cons ⟨_, rfl⟩ (.cons ⟨_, rfl⟩ (.cons ⟨_, rfl⟩ (.nil)))))⟩,
    PySem.W.mg_of X G G_RENEW_NAMES,
    fun H => .inr ⟨_, _, _, L_RENEW_NAMES, rfl, rfl, by show 8 ≤ sizeLine; decide, by exact .cons ⟨_, rfl⟩ (.cons ⟨_, rfl⟩ (.cons ⟨_, rfl⟩ (.cons ⟨_, rfl⟩ (.cons ⟨_, rfl⟩ (.cons ⟨_, rfl⟩ (.cons ⟨_, rfl⟩ (.cons ⟨_, rfl⟩ (.nil))))))))⟩,
    PySem.W.mg_of X G G_TWO_WORDS,
    fun H => .inr ⟨_, _, _, L_TWO_WORDS, rfl, rfl, by show 4 ≤ sizeLine; decide, by exact .cons ⟨_, rfl⟩ (.cons ⟨_, rfl⟩ (.cons ⟨_, rfl⟩ (.cons ⟨_, rfl⟩ (.nil))))⟩,
    PySem.W.mg_of X G G_MOST_WORDS,
    PySem.W.mg_of X G G_MOST_DEEP,
    PySem.W.mg_of X G A_NoProgram,
    X_NoProgram⟩
end K04
open PySem PySem.W PyProof.Rows
set_option maxRecDepth 100000 in
set_option maxHeartbeats 0 in
theorem PySem.Challenge.cw_beatless_k08_whole_programs_let_by_holds : PySem.Challenge.rw_beatless_k08_whole_programs_let_by.Holds := by
  w_on; o_law
  refine holds_open (XP := XL Hd.Q []) (YP := (kHook Hd.K Hd.as Hd.asK).says) Hd.left Hd.hk.of Hd.hk.keeps
    (fun s z => xl_of s (Hd.both z).1) XL.keeps (by rfl) (by rfl) (by rfl)
    (fun s z => recFacts_of (Hd.both z).2) (by rfl) (by assumption) (by decide +kernel)
    ⟨rfl, rfl, rfl, rfl, rfl, by decide +kernel⟩ ?hw ?hc
  case hw => w_witness2
  k_fill
  refine L2.walk_ofK (l := PySem.Challenge.rw_beatless_k08_whole_programs_let_by) (n := 63) (k := 27) (x := "_law_script") (CX := L2.CX0) (sp := K04.spLaw) rfl (by decide) rfl ⟨rfl, by decide, by decide⟩ (fun w h Y => PySem.W.kIn_of Y) ?F ?S ?C
  case F =>
    intro w mg fa h KX G hmg
    have T : ∃ a, K04.Txt (L2.KOf KX) mg a := by
      dsimp only [L2.KOf]
      refine' K04.txt_mk KX G ?z_len ?z_int ?z_min ?z_max ?z_range ?z_isinstance ?z_zip ?z_abs ?z_str ?z_sum ?z_bool ?z_tuple ?z_ValueError ?A_Num ?A_Name ?A_Two ?A_Mod ?A_Less ?A_Program ?a_0 ?l_0 ?cc_0 ?kk_0 ?a_1 ?l_1 ?cc_1 ?kk_1 ?a_2 ?l_2 ?cc_2 ?kk_2 ?a_3 ?l_3 ?cc_3 ?kk_3 ?a_4 ?l_4 ?cc_4 ?kk_4 ?a_5 ?l_5 ?cc_5 ?kk_5 ?a_6 ?l_6 ?cc_6 ?kk_6 ?a_7 ?l_7 ?cc_7 ?kk_7 ?a_8 ?l_8 ?cc_8 ?kk_8 ?a_9 ?l_9 ?cc_9 ?kk_9 ?a_10 ?l_10 ?cc_10 ?kk_10 ?a_11 ?l_11 ?cc_11 ?kk_11 ?a_12 ?l_12 ?cc_12 ?kk_12 ?a_13 ?l_13 ?cc_13 ?kk_13 ?a_14 ?l_14 ?cc_14 ?kk_14 ?a_15 ?i_15 ?l_15 ?cc_15 ?kk_15 ?a_16 ?i_16 ?l_16 ?cc_16 ?kk_16 ?a_17 ?i_17 ?l_17 ?cc_17 ?kk_17 ?a_18 ?i_18 ?l_18 ?cc_18 ?kk_18 ?a_19 ?i_19 ?l_19 ?cc_19 ?kk_19 ?a_20 ?i_20 ?l_20 ?cc_20 ?kk_20 ?a_21 ?i_21 ?l_21 ?cc_21 ?kk_21 ?a_22 ?i_22 ?l_22 ?cc_22 ?kk_22 ?a_23 ?i_23 ?l_23 ?cc_23 ?kk_23 ?a_24 ?i_24 ?l_24 ?cc_24 ?kk_24 ?a_25 ?i_25 ?l_25 ?cc_25 ?kk_25 ?a_26 ?i_26 ?l_26 ?cc_26 ?kk_26 ?a_27 ?i_27 ?l_27 ?cc_27 ?kk_27 ?a_28 ?i_28 ?l_28 ?cc_28 ?kk_28 ?a_29 ?i_29 ?l_29 ?cc_29 ?kk_29 ?a_30 ?i_30 ?l_30 ?cc_30 ?kk_30 ?pg_Num ?hd_Num ?po_Num ?sa_Num ?mk_Num ?kc_Num ?ha_Num ?hm_Num ?na_Num_value ?pg_Name ?hd_Name ?po_Name ?sa_Name ?mk_Name ?kc_Name ?ha_Name ?hm_Name ?na_Name_word ?pg_Two ?hd_Two ?po_Two ?sa_Two ?mk_Two ?kc_Two ?ha_Two ?hm_Two ?na_Two_word ?na_Two_one ?na_Two_other ?pg_Mod ?hd_Mod ?po_Mod ?sa_Mod ?mk_Mod ?kc_Mod ?ha_Mod ?hm_Mod ?na_Mod_inner ?na_Mod_number ?pg_Less ?hd_Less ?po_Less ?sa_Less ?mk_Less ?kc_Less ?ha_Less ?hm_Less ?na_Less_one ?na_Less_other ?na_Less_third ?na_Less_fourth ?pg_Program ?hd_Program ?po_Program ?sa_Program ?mk_Program ?kc_Program ?ha_Program ?hm_Program ?na_Program_start ?na_Program_send ?na_Program_when ?na_Program_renew ?hn ?htk ?k_Num_Num ?k_Name_Num ?k_Name_Name ?k_Two_Num ?k_Two_Name ?k_Two_Two ?k_Mod_Num ?k_Mod_Name ?k_Mod_Two ?k_Mod_Mod ?k_Less_Num ?k_Less_Name ?k_Less_Two ?k_Less_Mod ?k_Less_Less ?k_tint_tint ?k_tint_tbool ?k_tstr_tstr ?k_ttuple_ttuple ?k_tint_ttuple ?k_tstr_ttuple ?k_tint_tstr ?k_tstr_tint ?k_tstr_tbool ?G_START_NAMES ?L_START_NAMES ?G_SEND_NAMES ?L_SEND_NAMES ?G_RENEW_NAMES ?L_RENEW_NAMES ?G_TWO_WORDS ?L_TWO_WORDS ?G_MOST_WORDS ?G_MOST_DEEP ?A_NoProgram ?X_NoProgram
      (case z_len => k_is)
      (case z_int => k_is)
      (case z_min => k_is)
      (case z_max => k_is)
      (case z_range => k_is)
      (case z_isinstance => k_is)
      (case z_zip => k_is)
      (case z_abs => k_is)
      (case z_str => k_is)
      (case z_sum => k_is)
      (case z_bool => k_is)
      (case z_tuple => k_is)
      (case z_ValueError => k_is)
      (case A_Num => k_is)
      (case A_Name => k_is)
      (case A_Two => k_is)
      (case A_Mod => k_is)
      (case A_Less => k_is)
      (case A_Program => k_is)
      (case a_0 => k_is)
      (case l_0 => k_is)
      (case cc_0 => k_is)
      (case kk_0 => k_is)
      (case a_1 => k_is)
      (case l_1 => k_is)
      (case cc_1 => k_is)
      (case kk_1 => k_is)
      (case a_2 => k_is)
      (case l_2 => k_is)
      (case cc_2 => k_is)
      (case kk_2 => k_is)
      (case a_3 => k_is)
      (case l_3 => k_is)
      (case cc_3 => k_is)
      (case kk_3 => k_is)
      (case a_4 => k_is)
      (case l_4 => k_is)
      (case cc_4 => k_is)
      (case kk_4 => k_is)
      (case a_5 => k_is)
      (case l_5 => k_is)
      (case cc_5 => k_is)
      (case kk_5 => k_is)
      (case a_6 => k_is)
      (case l_6 => k_is)
      (case cc_6 => k_is)
      (case kk_6 => k_is)
      (case a_7 => k_is)
      (case l_7 => k_is)
      (case cc_7 => k_is)
      (case kk_7 => k_is)
      (case a_8 => k_is)
      (case l_8 => k_is)
      (case cc_8 => k_is)
      (case kk_8 => k_is)
      (case a_9 => k_is)
      (case l_9 => k_is)
      (case cc_9 => k_is)
      (case kk_9 => k_is)
      (case a_10 => k_is)
      (case l_10 => k_is)
      (case cc_10 => k_is)
      (case kk_10 => k_is)
      (case a_11 => k_is)
      (case l_11 => k_is)
      (case cc_11 => k_is)
      (case kk_11 => k_is)
      (case a_12 => k_is)
      (case l_12 => k_is)
      (case cc_12 => k_is)
      (case kk_12 => k_is)
      (case a_13 => k_is)
      (case l_13 => k_is)
      (case cc_13 => k_is)
      (case kk_13 => k_is)
      (case a_14 => k_is)
      (case l_14 => k_is)
      (case cc_14 => k_is)
      (case kk_14 => k_is)
      (case a_15 => k_is)
      (case i_15 => k_is)
      (case l_15 => k_is)
      (case cc_15 => k_is)
      (case kk_15 => k_is)
      (case a_16 => k_is)
      (case i_16 => k_is)
      (case l_16 => k_is)
      (case cc_16 => k_is)
      (case kk_16 => k_is)
      (case a_17 => k_is)
      (case i_17 => k_is)
      (case l_17 => k_is)
      (case cc_17 => k_is)
      (case kk_17 => k_is)
      (case a_18 => k_is)
      (case i_18 => k_is)
      (case l_18 => k_is)
      (case cc_18 => k_is)
      (case kk_18 => k_is)
      (case a_19 => k_is)
      (case i_19 => k_is)
      (case l_19 => k_is)
      (case cc_19 => k_is)
      (case kk_19 => k_is)
      (case a_20 => k_is)
      (case i_20 => k_is)
      (case l_20 => k_is)
      (case cc_20 => k_is)
      (case kk_20 => k_is)
      (case a_21 => k_is)
      (case i_21 => k_is)
      (case l_21 => k_is)
      (case cc_21 => k_is)
      (case kk_21 => k_is)
      (case a_22 => k_is)
      (case i_22 => k_is)
      (case l_22 => k_is)
      (case cc_22 => k_is)
      (case kk_22 => k_is)
      (case a_23 => k_is)
      (case i_23 => k_is)
      (case l_23 => k_is)
      (case cc_23 => k_is)
      (case kk_23 => k_is)
      (case a_24 => k_is)
      (case i_24 => k_is)
      (case l_24 => k_is)
      (case cc_24 => k_is)
      (case kk_24 => k_is)
      (case a_25 => k_is)
      (case i_25 => k_is)
      (case l_25 => k_is)
      (case cc_25 => k_is)
      (case kk_25 => k_is)
      (case a_26 => k_is)
      (case i_26 => k_is)
      (case l_26 => k_is)
      (case cc_26 => k_is)
      (case kk_26 => k_is)
      (case a_27 => k_is)
      (case i_27 => k_is)
      (case l_27 => k_is)
      (case cc_27 => k_is)
      (case kk_27 => k_is)
      (case a_28 => k_is)
      (case i_28 => k_is)
      (case l_28 => k_is)
      (case cc_28 => k_is)
      (case kk_28 => k_is)
      (case a_29 => k_is)
      (case i_29 => k_is)
      (case l_29 => k_is)
      (case cc_29 => k_is)
      (case kk_29 => k_is)
      (case a_30 => k_is)
      (case i_30 => k_is)
      (case l_30 => k_is)
      (case cc_30 => k_is)
      (case kk_30 => k_is)
      (case pg_Num => k_is)
      (case hd_Num => k_is)
      (case po_Num => k_is)
      (case sa_Num => k_is)
      (case mk_Num => k_is)
      (case kc_Num => k_is)
      (case ha_Num => k_is)
      (case hm_Num => k_is)
      (case na_Num_value => k_is)
      (case pg_Name => k_is)
      (case hd_Name => k_is)
      (case po_Name => k_is)
      (case sa_Name => k_is)
      (case mk_Name => k_is)
      (case kc_Name => k_is)
      (case ha_Name => k_is)
      (case hm_Name => k_is)
      (case na_Name_word => k_is)
      (case pg_Two => k_is)
      (case hd_Two => k_is)
      (case po_Two => k_is)
      (case sa_Two => k_is)
      (case mk_Two => k_is)
      (case kc_Two => k_is)
      (case ha_Two => k_is)
      (case hm_Two => k_is)
      (case na_Two_word => k_is)
      (case na_Two_one => k_is)
      (case na_Two_other => k_is)
      (case pg_Mod => k_is)
      (case hd_Mod => k_is)
      (case po_Mod => k_is)
      (case sa_Mod => k_is)
      (case mk_Mod => k_is)
      (case kc_Mod => k_is)
      (case ha_Mod => k_is)
      (case hm_Mod => k_is)
      (case na_Mod_inner => k_is)
      (case na_Mod_number => k_is)
      (case pg_Less => k_is)
      (case hd_Less => k_is)
      (case po_Less => k_is)
      (case sa_Less => k_is)
      (case mk_Less => k_is)
      (case kc_Less => k_is)
      (case ha_Less => k_is)
      (case hm_Less => k_is)
      (case na_Less_one => k_is)
      (case na_Less_other => k_is)
      (case na_Less_third => k_is)
      (case na_Less_fourth => k_is)
      (case pg_Program => k_is)
      (case hd_Program => k_is)
      (case po_Program => k_is)
      (case sa_Program => k_is)
      (case mk_Program => k_is)
      (case kc_Program => k_is)
      (case ha_Program => k_is)
      (case hm_Program => k_is)
      (case na_Program_start => k_is)
      (case na_Program_send => k_is)
      (case na_Program_when => k_is)
      (case na_Program_renew => k_is)
      (case hn => k_is)
      (case htk => k_is)
      (case k_Num_Num => kit_is)
      (case k_Name_Num => kit_is)
      (case k_Name_Name => kit_is)
      (case k_Two_Num => kit_is)
      (case k_Two_Name => kit_is)
      (case k_Two_Two => kit_is)
      (case k_Mod_Num => kit_is)
      (case k_Mod_Name => kit_is)
      (case k_Mod_Two => kit_is)
      (case k_Mod_Mod => kit_is)
      (case k_Less_Num => kit_is)
      (case k_Less_Name => kit_is)
      (case k_Less_Two => kit_is)
      (case k_Less_Mod => kit_is)
      (case k_Less_Less => kit_is)
      (case k_tint_tint => kit_is)
      (case k_tint_tbool => kit_is)
      (case k_tstr_tstr => kit_is)
      (case k_ttuple_ttuple => kit_is)
      (case k_tint_ttuple => kit_is)
      (case k_tstr_ttuple => kit_is)
      (case k_tint_tstr => kit_is)
      (case k_tstr_tint => kit_is)
      (case k_tstr_tbool => kit_is)
      (case G_START_NAMES => k_is)
      (case L_START_NAMES => k_is)
      (case G_SEND_NAMES => k_is)
      (case L_SEND_NAMES => k_is)
      (case G_RENEW_NAMES => k_is)
      (case L_RENEW_NAMES => k_is)
      (case G_TWO_WORDS => k_is)
      (case L_TWO_WORDS => k_is)
      (case G_MOST_WORDS => k_is)
      (case G_MOST_DEEP => k_is)
      (case A_NoProgram => k_is)
      (case X_NoProgram => k_exc)
    obtain ⟨a, T⟩ := T
    have e0 := hmg.symm.trans T.g_law
    cases e0
    exact ⟨_, T.b0_law, fun base kb nb => K04.ok_law T⟩
  case S => exact fun K H a ns hl hO hS => K04.sp_law_of hl hO hS
  case C => exact fun _ _ _ _ z => z

