import PyProof.Rows.All
import Wide.All
import OpenK.AllK
import Wide.FinOn
import PySem.Challenge.RW_beatless_k02_webs_refused
import Lean
import PyProof.EqAt
import PyProof.EqKinds
import PyProof.TupleCall
import PyProof.ZipIter
import PyProof.WalksMore
import KE.KRevSl
/-! BLayer -/
set_option Elab.async false
set_option linter.all false
set_option maxRecDepth 100000
namespace L2
open PySem PySem.Spec PyProof.Rows
abbrev Key := Sum Int Str
def keyIs : Key → Value → Bool
  | .inl k, v => Value.isInt k v
  | .inr x, v => Value.isStrOf x v
def keyH (w : World) : Key → Int
  | .inl k => hashInt k
  | .inr x => hashStr w x
theorem keyIs_shape : ∀ {k : Key} {v : Value}, keyIs k v = true → (∃ i t, k = Sum.inl i ∧ v = Value.int i t) ∨ (∃ x t, k = Sum.inr x ∧ v = Value.str x t)
  | .inl i, v, h => by
    obtain ⟨t, e⟩ := Value.isInt_shape (k := i) (v := v) h
    exact .inl ⟨i, t, rfl, e⟩
  | .inr x, v, h => by
    obtain ⟨t, e⟩ := Value.isStrOf_shape (x := x) (v := v) h
    exact .inr ⟨x, t, rfl, e⟩
theorem keyIs_int (i : Int) (t : Tok) : keyIs (.inl i) (.int i t) = true := by simp [keyIs, Value.isInt]
theorem keyIs_str (x : Str) (t : Tok) : keyIs (.inr x) (.str x t) = true := by simp [keyIs, Value.isStrOf]
theorem key_ll (a b : Int) : decide ((Sum.inl a : Key) = Sum.inl b) = (a == b) := by
  by_cases e : a = b
  · subst e; simp
  · have h : ¬ (Sum.inl a : Key) = Sum.inl b := fun q => e (Sum.inl.inj q)
    rw [decide_eq_false h]
    exact (beq_eq_false_iff_ne.mpr e).symm
theorem key_rr (a b : Str) : decide ((Sum.inr a : Key) = Sum.inr b) = decide (a = b) := by
  by_cases e : a = b
  · subst e; simp
  · have h : ¬ (Sum.inr a : Key) = Sum.inr b := fun q => e (Sum.inr.inj q)
    rw [decide_eq_false h, decide_eq_false e]
theorem key_lr (a : Int) (b : Str) : decide ((Sum.inl a : Key) = Sum.inr b) = false := decide_eq_false (fun q => nomatch q)
theorem key_rl (a : Str) (b : Int) : decide ((Sum.inr a : Key) = Sum.inl b) = false := decide_eq_false (fun q => nomatch q)
def mixKind (prog : Program) (w : World) : PySem.KeyKind prog w Key where
  is := keyIs
  hash := keyH w
  inj := fun v a b ha hb => by
    rcases keyIs_shape ha with ⟨i, t, rfl, rfl⟩ | ⟨x, t, rfl, rfl⟩
    · rcases keyIs_shape hb with ⟨j, u, rfl, e⟩ | ⟨y, u, rfl, e⟩
      · injection e with e1 _; rw [e1]
      · exact nomatch e
    · rcases keyIs_shape hb with ⟨j, u, rfl, e⟩ | ⟨y, u, rfl, e⟩
      · exact nomatch e
      · injection e with e1 _; rw [e1]
  byValue := fun k v h => by
    rcases keyIs_shape h with ⟨i, t, rfl, rfl⟩ | ⟨x, t, rfl, rfl⟩ <;> rfl
  pyHash := fun hv h => by
    rcases keyIs_shape hv with ⟨i, t, rfl, rfl⟩ | ⟨x, t, rfl, rfl⟩
    · exact wpAny_pyHash_int h
    · exact wpAny_pyHash_str h
  eqBool := fun hu hv h => by
    rcases keyIs_shape hu with ⟨i, t, rfl, rfl⟩ | ⟨x, t, rfl, rfl⟩
    · rcases keyIs_shape hv with ⟨j, u, rfl, rfl⟩ | ⟨y, u, rfl, rfl⟩
      · rw [key_ll] at h; exact wpAny_eqBool_int h
      · rw [key_lr] at h; exact SeqAt.EqAt.int_str i t y u _ _ _ _ h
    · rcases keyIs_shape hv with ⟨j, u, rfl, rfl⟩ | ⟨y, u, rfl, rfl⟩
      · rw [key_rl] at h; exact SeqAt.EqAt.str_int x t j u _ _ _ _ h
      · rw [key_rr] at h; exact wpAny_eqBool_str h
  «strs» := fun k x t v h => by
    rcases keyIs_shape h with ⟨i, u, rfl, e⟩ | ⟨y, u, rfl, e⟩
    · exact nomatch e
    · injection e with e1 _
      subst e1
      cases v <;> rfl
theorem mixKind_int (prog : Program) (w : World) (i : Int) (t : Tok) : (mixKind prog w).is (.inl i) (.int i t) = true := keyIs_int i t
theorem mixKind_str (prog : Program) (w : World) (x : Str) (t : Tok) : (mixKind prog w).is (.inr x) (.str x t) = true := keyIs_str x t
end L2
namespace L2
open PySem PySem.Spec PyProof.Rows
inductive V where
  | non | bl (b : Bool) | int (i : Int) | str (x : Str) | byt (b : Array UInt8) | flt (b : UInt64) | ref (a : Addr) | ty (n : String)
  deriving DecidableEq
def RelV : V → Value → Prop
  | .non, u => u = Value.none
  | .bl b, u => u = Value.bool b
  | .int i, u => ∃ t, u = Value.int i t
  | .str x, u => ∃ t, u = Value.str x t
  | .byt b, u => ∃ t, u = Value.bytes b t
  | .flt b, u => ∃ t, u = Value.float b t
  | .ref a, u => u = Value.ref a
  | .ty n, u => u = Value.type n
abbrev Vals : List V → List Value → Prop := Paired RelV
theorem Vals.length {xs : List V} {us : List Value} (r : Vals xs us) : xs.length = us.length := Paired.length r
theorem Vals.get : ∀ {xs : List V} {us : List Value} {i : Nat} {x : V}, Vals xs us → xs[i]? = some x → ∃ u, us[i]? = some u ∧ RelV x u
  | _, _, _, _, .nil, e => by simp at e
  | _, _, 0, _, .cons r _, e => by simp at e; subst e; exact ⟨_, rfl, r⟩
  | _, _, i + 1, x, .cons _ t, e => by
    obtain ⟨u, h1, h2⟩ := Vals.get (i := i) (x := x) t (by simpa using e)
    exact ⟨u, by simpa using h1, h2⟩
theorem Vals.set {x : V} {u : Value} (r : RelV x u) : ∀ {xs : List V} {us : List Value} (i : Nat), Vals xs us → Vals (xs.set i x) (us.set i u)
  | _, _, _, .nil => .nil
  | _, _, 0, .cons _ t => .cons r t
  | _, _, i + 1, .cons q t => .cons q (Vals.set r i t)
theorem Vals.append : ∀ {xs ys : List V} {us ws : List Value}, Vals xs us → Vals ys ws → Vals (xs ++ ys) (us ++ ws)
  | _, _, _, _, .nil, s => s
  | _, _, _, _, .cons r t, s => .cons r (Vals.append t s)
theorem Vals.take : ∀ {xs : List V} {us : List Value} (n : Nat), Vals xs us → Vals (xs.take n) (us.take n)
  | _, _, 0, _ => .nil
  | _, _, _ + 1, .nil => .nil
  | _, _, n + 1, .cons r t => .cons r (Vals.take n t)
theorem Vals.drop : ∀ {xs : List V} {us : List Value} (n : Nat), Vals xs us → Vals (xs.drop n) (us.drop n)
  | _, _, 0, r => r
  | _, _, _ + 1, .nil => .nil
  | _, _, n + 1, .cons _ t => Vals.drop n t
def RelO : Option V → Option Value → Prop
  | some v, some u => RelV v u
  | none, none => True
  | _, _ => False
def KV {κ : Type} : List (κ × V) → List (κ × Value) → Prop := Paired fun (p : κ × V) (q : κ × Value) => p.1 = q.1 ∧ RelV p.2 q.2
def kV : Key → V
  | .inl i => .int i
  | .inr x => .str x
inductive HO where
  /-- a list -/
  | lst (xs : List V)
  /-- a tuple (never changes) -/
  | tup (xs : List V)
  /-- a dict whose keys are ints and texts; one whose keys are tuples of ints and texts (the empty one is both) -/
  | dK (kvs : List (Key × V)) | dT (kvs : List (List Key × V))
  /-- a set of ints: its members, its size -/
  | set (S : Int → Bool) (n : Nat)
  /-- an instance of the class at C, its dict at dx, its attributes -/
  | ins (C dx : Addr) (fs : List (Str × V))
  /-- the dict of the instance at x -/
  | own (x : Addr)
  /-- the dict of an exception -/
  | xd (fs : List (Str × V))
  /-- a bound method, f of x -/
  | met (f x : Addr)
  /-- a range object lo, lo + 1, .. below hi -/
  | rng (lo hi : Int)
  /-- a thing that is known to the object (the script; a dict while a loop walks it): read, never written while it is so -/
  | frz (o : Obj) (u : HO)
  /-- a code object's table -/
  | tbl (ps : Array Value)
  /-- any other thing, by what is true of its one object (a def of one's own: SetO a S n := HO.ext fun h => ..) -/
  | ext (φ : Heap → Prop)
abbrev Hp := Addr → Option HO
def upd (H : Hp) (a : Addr) (o : HO) : Hp := fun b => if b = a then some o else H b
theorem upd_same {H : Hp} {a : Addr} {o : HO} : upd H a o a = some o := by unfold upd; rw [if_pos rfl]
theorem upd_ne {H : Hp} {a b : Addr} {o : HO} (h : b ≠ a) : upd H a o b = H b := by unfold upd; rw [if_neg h]
theorem ne_of {H : Hp} {a b : Addr} {o u : HO} (h : H a = some o) (h' : H b = some u) (d : o ≠ u) : a ≠ b := by
  intro e; subst e; rw [h] at h'; exact d (Option.some.inj h')
theorem ne_of_none {H : Hp} {a b : Addr} {o : HO} (h : H a = some o) (h' : H b = none) : a ≠ b := by
  intro e; subst e; rw [h] at h'; cases h'
section
variable (P : Program) (w : World)
def ObjOk (H : Hp) (h : Heap) (a : Addr) : HO → Prop
  | .lst xs => xs.length ≤ sizeLine ∧ ∃ (its : List Value) (n : Nat), Vals xs its ∧ h.get? a = some { cls := .type "list", data := .seq its.toArray n }
  | .tup xs => xs.length ≤ sizeLine ∧ ∃ its : List Value, Vals xs its ∧ IsTup h a its.toArray
  | .dK kvs => kvs.length ≤ sizeLine ∧ (a == sysModules) = false ∧ ∃ vs, KV kvs vs ∧ h.DictOf (mixKind P w) a vs
  | .dT kvs => kvs.length ≤ sizeLine ∧ (a == sysModules) = false ∧ ∃ xs : List (List Key × Addr × Value),
      Paired (fun (p : List Key × V) (q : List Key × Addr × Value) => p.1 = q.1 ∧ H q.2.1 = some (.tup (p.1.map kV)) ∧ RelV p.2 q.2.2) kvs xs ∧
      ∃ o es ep, h.get? a = some o ∧ o.ExactDict ∧ o.data = .dict es ep ∧ es.toList = xs.map (entryOfKey (tupleKind (mixKind P w))) ∧ (xs.map (·.1)).Nodup
  | .set S n => h.SetOf (intKind P w) a S n
  | .ins C dx fs => H dx = some (.own a) ∧ fs.length ≤ 1000 ∧ dx ≠ a ∧ h.get? a = some (PySem.W.instObj C dx) ∧
      ∃ mA, h.Ns1 dx mA ∧ (∀ f, RelO (fs.lookup f) (mA f)) ∧ PySem.Within mA (fs.map (·.1))
  | .own _ => ∃ o, h.get? a = some o
  | .xd fs => ∃ mA, h.Ns1 a mA ∧ ∀ f, RelO (fs.lookup f) (mA f)
  | .rng lo hi => ∃ t u v, h.get? a = some { cls := .type "range", data := .fields #[.int lo t, .int hi u, .int 1 v] }
  | .frz o u => h.get? a = some o ∧ ObjOk H h a u
  | .tbl ps => h.get? a = some { cls := .none, data := .fields ps }
  | .met f x => h.get? a = some (PySem.W.methodObj (.ref f) (.ref x))
  | .ext φ => φ h ∧ (∃ o, h.get? a = some o) ∧ ∀ h1 h2 : Heap, φ h1 → (∀ o, h1.get? a = some o → h2.get? a = some o) → φ h2
def HOk (H : Hp) (h : Heap) : Prop := ∀ a o, H a = some o → ObjOk P w H h a o
end
section
variable {P : Program} {w : World} {H H' : Hp} {h h' : Heap} {a : Addr} {o : HO}
theorem ObjOk.lt (x : ObjOk P w H h a o) : a < h.objs.size := by
  cases o with
  | lst xs => obtain ⟨_, _, _, _, e⟩ := x; exact Heap.lt_size e
  | tup xs => obtain ⟨_, _, _, p⟩ := x; exact p.lt
  | dK kvs => obtain ⟨_, _, _, _, o, _, _, e, _⟩ := x; exact Heap.lt_size e
  | dT kvs => obtain ⟨_, _, _, _, o, _, _, e, _⟩ := x; exact Heap.lt_size e
  | set S n => obtain ⟨o, _, _, _, e, _⟩ := x; exact Heap.lt_size e
  | ins C dx fs => obtain ⟨_, _, _, e, _⟩ := x; exact Heap.lt_size e
  | own y => obtain ⟨_, e⟩ := x; exact Heap.lt_size e
  | xd fs => obtain ⟨_, ⟨_, _, _, e, _⟩, _⟩ := x; exact Heap.lt_size e
  | rng lo hi => obtain ⟨_, _, _, e⟩ := x; exact Heap.lt_size e
  | frz ob u => obtain ⟨e, _⟩ := x; exact Heap.lt_size e
  | tbl ps => exact Heap.lt_size (show h.get? a = some _ from x)
  | met f y => exact Heap.lt_size (show h.get? a = some _ from x)
  | ext φ => obtain ⟨_, ⟨_, e⟩, _⟩ := x; exact Heap.lt_size e
theorem Paired.mapP {α β : Type} {F G : α → β → Prop} : ∀ {l₁ : List α} {l₂ : List β}, Paired F l₁ l₂ → (∀ a b, F a b → G a b) → Paired G l₁ l₂
  | _, _, .nil, _ => .nil
  | _, _, .cons r t, f => .cons (f _ _ r) (Paired.mapP t f)
theorem Paired.imp' {α β : Type} {F G : α → β → Prop} (f : ∀ a b, F a b → G a b) {l₁ : List α} {l₂ : List β} (r : Paired F l₁ l₂) : Paired G l₁ l₂ := Paired.mapP r f
theorem ObjOk.stay (x : ObjOk P w H h a o) (k : ∀ b u, (b = a ∨ H b = some (.own a)) → h.get? b = some u → h'.get? b = some u)
    (ho : ∀ b, H b = some (.own a) → H' b = some (.own a)) (ht : ∀ b xs, H b = some (.tup xs) → H' b = some (.tup xs)) : ObjOk P w H' h' a o := by
  induction o with
  | lst xs => obtain ⟨z, its, n, r, e⟩ := x; exact ⟨z, its, n, r, k _ _ (.inl rfl) e⟩
  | tup xs => obtain ⟨z, its, r, ob, e, c⟩ := x; exact ⟨z, its, r, ob, k _ _ (.inl rfl) e, c⟩
  | dK kvs => obtain ⟨z, y, vs, r, ob, es, ep, e, c⟩ := x; exact ⟨z, y, vs, r, ob, es, ep, k _ _ (.inl rfl) e, c⟩
  | dT kvs =>
    obtain ⟨z, y, xs, r, ob, es, ep, e, c⟩ := x
    exact ⟨z, y, xs, Paired.mapP r fun p q z => ⟨z.1, ht _ _ z.2.1, z.2.2⟩, ob, es, ep, k _ _ (.inl rfl) e, c⟩
  | set S n => obtain ⟨ob, es, ep, t, e, c⟩ := x; exact ⟨ob, es, ep, t, k _ _ (.inl rfl) e, c⟩
  | ins C dx fs =>
    obtain ⟨d, z, ne, e, mA, ⟨od, es, ep, e2, c⟩, r⟩ := x
    exact ⟨ho _ d, z, ne, k _ _ (.inl rfl) e, mA, ⟨od, es, ep, k _ _ (.inr d) e2, c⟩, r⟩
  | own y => obtain ⟨ob, e⟩ := x; exact ⟨ob, k _ _ (.inl rfl) e⟩
  | xd fs => obtain ⟨mA, ⟨od, es, ep, e, c⟩, r⟩ := x; exact ⟨mA, ⟨od, es, ep, k _ _ (.inl rfl) e, c⟩, r⟩
  | rng lo hi => obtain ⟨t, u, v, e⟩ := x; exact ⟨t, u, v, k _ _ (.inl rfl) e⟩
  | frz ob u ih => obtain ⟨e, q⟩ := x; exact ⟨k _ _ (.inl rfl) e, ih q⟩
  | tbl ps =>
    have e : h.get? a = some { cls := .none, data := .fields ps } := x
    show h'.get? a = some { cls := .none, data := .fields ps }
    exact k a _ (.inl rfl) e
  | met f y =>
    have e : h.get? a = some (PySem.W.methodObj (.ref f) (.ref y)) := x
    show h'.get? a = some (PySem.W.methodObj (.ref f) (.ref y))
    exact k a _ (.inl rfl) e
  | ext φ => obtain ⟨p, ⟨o, e⟩, st⟩ := x; exact ⟨st _ _ p fun o q => k _ _ (.inl rfl) q, ⟨o, k _ _ (.inl rfl) e⟩, st⟩
theorem HOk.lt (x : HOk P w H h) (e : H a = some o) : a < h.objs.size := (x a o e).lt
theorem HOk.fresh (x : HOk P w H h) (e : h.objs.size ≤ a) : H a = none := by
  cases q : H a with
  | none => rfl
  | some u => exact absurd (Nat.lt_of_lt_of_le (x.lt q) e) (Nat.lt_irrefl _)
theorem HOk.kept (x : HOk P w H h) (k : ∀ b u, h.get? b = some u → h'.get? b = some u) : HOk P w H h' := fun a o e =>
  (x a o e).stay (fun b u _ q => k b u q) (fun _ q => q) fun _ _ q => q
theorem HOk.laid (x : HOk P w H h) (k : ∀ b u, h.get? b = some u → h'.get? b = some u) (hp : h.objs.size ≤ a) (new : ObjOk P w (upd H a o) h' a o) : HOk P w (upd H a o) h' := fun b u e => by
  have hn := x.fresh hp
  by_cases hb : b = a
  · subst hb; rw [upd_same] at e; cases e; exact new
  · rw [upd_ne hb] at e
    exact (x b u e).stay (fun c v _ q => k c v q) (fun c q => by rw [upd_ne (ne_of_none q hn)]; exact q) fun c xs q => by rw [upd_ne (ne_of_none q hn)]; exact q
end
def Rd (H : Hp) (a : Addr) (u : HO) : Prop := H a = some u ∨ ∃ o, H a = some (.frz o u)
theorem Rd.ok {P : Program} {w : World} {H : Hp} {h : Heap} {a : Addr} {u : HO} (r : Rd H a u) (x : HOk P w H h) : ObjOk P w H h a u := by
  rcases r with r | ⟨o, r⟩
  · exact x a u r
  · obtain ⟨_, q⟩ := x a _ r
    exact q
def Mut : Option HO → Prop
  | some (.lst _) => True
  | some (.dK _) => True
  | some (.dT _) => True
  | some (.set _ _) => True
  | some (.ins _ _ _) => True
  | some (.ext _) => True
  | _ => False
section
variable {P : Program} {w : World} {H : Hp} {h h' : Heap} {x e : Addr} {o' : HO}
theorem HOk.write (ok : HOk P w H h) (mu : Mut (H x)) (he : e = x ∨ H e = some (.own x)) (k : ∀ b u, b ≠ e → h.get? b = some u → h'.get? b = some u) (heo : ∃ u, h'.get? e = some u)
    (new : ObjOk P w (upd H x o') h' x o') : HOk P w (upd H x o') h' := fun b u q => by
  have nown : ∀ c y, H c = some (.own y) → c ≠ x := fun c y r z => by subst z; rw [r] at mu; exact mu
  have ntup : ∀ c xs, H c = some (.tup xs) → c ≠ x := fun c xs r z => by subst z; rw [r] at mu; exact mu
  by_cases hb : b = x
  · subst hb; rw [upd_same] at q; cases q; exact new
  · rw [upd_ne hb] at q
    by_cases hbe : b = e
    · have q' : H b = some (.own x) := by
        rcases he with z | z
        · exact absurd (hbe.trans z) hb
        · rw [hbe]; exact z
      rw [q] at q'; cases q'
      obtain ⟨v, hv⟩ := heo
      exact ⟨v, by rw [hbe]; exact hv⟩
    · refine (ok b u q).stay (fun c v hc r => k c v ?_ r) (fun c r => by rw [upd_ne (nown c b r)]; exact r) fun c xs r => by rw [upd_ne (ntup c xs r)]; exact r
      rcases hc with rfl | hc
      · exact hbe
      · rintro rfl
        rcases he with z | z
        · exact nown c b hc z
        · rw [hc] at z; cases z; exact hb rfl
end
structure Un (fs ex : List Addr) (H H' : Hp) (h h' : Heap) : Prop where
  keep : ∀ b o, h.get? b = some o → H b = none → b ∉ fs → b ∉ ex → h'.get? b = some o
  slot : ∀ b o, h.get? b = some o → H b = none → b ∈ fs → b ∉ ex → ∃ sl, h'.get? b = some { o with slots := sl }
  free : ∀ b o, h.get? b = some o → H b = none → b ∉ ex → H' b = none
  there : ∀ b o, h.get? b = some o → b ∉ ex → ∃ o', h'.get? b = some o'
  tups : ∀ b xs, H b = some (.tup xs) → H' b = some (.tup xs)
  frzs : ∀ b o u, H b = some (.frz o u) → H' b = some (.frz o u)
  tbls : ∀ b ps, H b = some (.tbl ps) → ∃ more, H' b = some (.tbl (ps ++ more))
section
variable {fs fs' ex ex' : List Addr} {H H1 H2 : Hp} {h h1 h2 h' : Heap} {a x e : Addr} {o : HO}
theorem Un.any (u : Un fs ex H H1 h h1) {b : Addr} {ob : Obj} (q : h.get? b = some ob) (n : H b = none) (hx : b ∉ ex) : ∃ sl, h1.get? b = some { ob with slots := sl } := by
  by_cases hb : b ∈ fs
  · exact u.slot b ob q n hb hx
  · exact ⟨ob.slots, u.keep b ob q n hb hx⟩
theorem Un.kept (k : ∀ b u, h.get? b = some u → h'.get? b = some u) : Un fs ex H H h h' :=
  ⟨fun b ob q _ _ _ => k b ob q, fun b ob q _ _ _ => ⟨ob.slots, k b ob q⟩, fun _ _ _ n _ => n, fun b ob q _ => ⟨ob, k b ob q⟩, fun _ _ q => q, fun _ _ _ q => q, fun _ ps q => ⟨#[], by rw [q]; simp⟩⟩
theorem Un.refl : Un fs ex H H h h := Un.kept fun _ _ q => q
theorem Un.laid (k : ∀ b u, h.get? b = some u → h'.get? b = some u) (hp : h.objs.size ≤ a) (hn : H a = none) : Un fs ex H (upd H a o) h h' where
  keep := fun b u q _ _ _ => k b u q
  slot := fun b u q _ _ _ => ⟨u.slots, k b u q⟩
  free := fun b u q n _ => by rw [upd_ne (Nat.ne_of_lt (Nat.lt_of_lt_of_le (Heap.lt_size q) hp))]; exact n
  there := fun b u q _ => ⟨u, k b u q⟩
  tups := fun b xs q => by rw [upd_ne (ne_of_none q hn)]; exact q
  frzs := fun b u xs q => by rw [upd_ne (ne_of_none q hn)]; exact q
  tbls := fun b ps q => ⟨#[], by rw [upd_ne (ne_of_none q hn), q]; simp⟩
theorem Un.write (mu : Mut (H x)) (he : e = x ∨ H e = some (.own x)) (k : ∀ b u, b ≠ e → h.get? b = some u → h'.get? b = some u) (heo : ∃ u, h'.get? e = some u) : Un fs ex H (upd H x o) h h' := by
  have hx : ∀ b, H b = none → b ≠ x := fun b n z => by subst z; rw [n] at mu; exact mu
  have hb : ∀ b, H b = none → b ≠ e := fun b n z => by
    subst z
    rcases he with r | r
    · exact hx b n r
    · rw [n] at r; cases r
  have hm : ∀ b u, H b = some u → ¬ Mut (some u) → b ≠ x := fun b u q nm z => by subst z; rw [q] at mu; exact nm mu
  refine ⟨fun b u q n _ _ => k b u (hb b n) q, fun b u q n _ _ => ⟨u.slots, k b u (hb b n) q⟩, fun b u q n _ => by rw [upd_ne (hx b n)]; exact n, fun b u q _ => ?_,
    fun b xs q => by rw [upd_ne (hm b _ q fun z => z)]; exact q, fun b u xs q => by rw [upd_ne (hm b _ q fun z => z)]; exact q, fun b ps q => ⟨#[], by rw [upd_ne (hm b _ q fun z => z), q]; simp⟩⟩
  by_cases hbe : b = e
  · subst hbe; exact heo
  · exact ⟨u, k b u hbe q⟩
end
def trk (h : Heap) (H : Hp) : List Addr := (List.range h.objs.size).filter fun a => (H a).isSome
def hidT (h : Heap) (H : Hp) : Heap := PySem.W.hideAll h (trk h H)
theorem hidT_size (h : Heap) (H : Hp) : (hidT h H).objs.size = h.objs.size := PySem.W.hideAll_size _ _
theorem hidT_get {h : Heap} {H : Hp} {b : Addr} {o : Obj} (e : h.get? b = some o) (n : H b = none) : (hidT h H).get? b = some o :=
  PySem.W.hideAll_get _ e fun hm => by
    have q : (H b).isSome = true := (List.mem_filter.mp hm).2
    rw [n] at q; simp at q
theorem of_hidT {h : Heap} {H : Hp} {b : Addr} {o : Obj} (e : (hidT h H).get? b = some o) : h.get? b = some o ∧ H b = none := by
  have e' : h.get? b = some o := PySem.W.of_hideAll (trk h H) e
  refine ⟨e', ?_⟩
  cases q : H b with
  | none => rfl
  | some x =>
    have hm : b ∈ trk h H := List.mem_filter.mpr ⟨List.mem_range.mpr (Heap.lt_size e'), by simp [q]⟩
    have z : (hidT h H).get? b = none := PySem.W.hideAll_none (trk h H) hm
    rw [z] at e; cases e
end L2
namespace L2
open PySem PySem.Spec PyProof.Rows
structure Mod (K : PySem.W.Frag) (mg : Str → Option Value) (base : Heap) : Prop where
  kin : K.In base
  glob : base.Ns mainGlobals mg
  blt : ∃ mb, base.Ns builtinsNs mb ∧ ∀ x : Str, x ≠ "__name__" → mb x = bootBuiltins x
  nolimit : base.NoLimit
structure Cx where
  prog : Program
  w : World
  K : PySem.W.Frag
  mg : Str → Option Value
  base : Heap
  A : Around
  N : List Str
  s₀ : Shared
  H₀ : Hp
  env : Env
  outer : List Env
  stack : List Env
  ex : List Addr
  fn : Str → Bool
  calm : Bool
  pn : List (Addr × Obj)
  xe : Value → Shared → Prop
def frs (l : List Env) : List Addr := l.filterMap (·.frame)
abbrev Cx.fs (X : Cx) : List Addr := frs X.outer
def Vis (sc : Scope) (x : Str) : Prop := sc.names.lookup x = some .local ∨ sc.names.lookup x = some .cell ∨ sc.names.lookup x = some .free
def Loc (sc : Scope) (x : Str) : Prop := sc.names.lookup x = some .local ∨ sc.names.lookup x = some .cell
def Look (env : Env) (h : Heap) (m : Str → Option Value) (x : Str) (u : Value) : Prop :=
  (env.kindOf x = some .local ∧ m x = some u) ∨ ((env.kindOf x = some .cell ∨ env.kindOf x = some .free) ∧ ∃ c, env.cells.lookup x = some c ∧ h.IsCell c (some u))
structure Cx.Ok (X : Cx) : Prop where
  mod : Mod X.K X.mg X.base
  kind : X.env.scope.kind = .function
  glob : X.env.globals = mainGlobals
  blt : X.env.builtins = builtinsNs
  above : X.s₀.heap.objs.size ≤ X.env.locals
  inj : ∀ x y c, X.env.cells.lookup x = some c → X.env.cells.lookup y = some c → x = y
  has : ∀ x, (X.env.kindOf x = some .cell ∨ X.env.kindOf x = some .free) → ∃ c, X.env.cells.lookup x = some c
  cab : ∀ x c, X.fn x = true → X.env.cells.lookup x = some c → X.s₀.heap.objs.size ≤ c
  hd : X.calm = true → X.A.handled = none
  frames : X.A.frames = some X.stack
  stk : X.stack = X.outer ∨ (X.stack = X.env :: X.outer ∧ X.env.frame = some X.env.locals)
  exf : ∀ b ∈ X.ex, b ≠ X.env.locals ∧ ∀ x c, X.env.cells.lookup x = some c → c ≠ b
  bs : ∀ b o, X.base.get? b = some o → X.s₀.heap.get? b = some o ∧ X.H₀ b = none
  bsz : X.base.objs.size ≤ X.s₀.heap.objs.size
  noex : ∀ b o, X.base.get? b = some o → b ∉ X.ex
  exfs : ∀ b ∈ X.ex, b ∉ X.fs
  funs : X.s₀.heap.FunFrames X.base X.outer
  frf : ∀ b ∈ X.fs, X.H₀ b = none
structure Inv (X : Cx) (pins : List (Addr × Obj)) (σ : List (Option V)) (H : Hp) (s : Shared) : Prop where
  ok : X.Ok
  os : s.os = X.s₀.os
  bare : AllBare s.gens
  base : Un X.fs X.ex X.H₀ H X.s₀.heap s.heap
  loc : ∃ m, s.heap.Ns X.env.locals m ∧ ∀ (i : Nat) (x : Str) (v : V), X.N[i]? = some x → σ[i]? = some (some v) → Vis X.env.scope x → ∃ u, RelV v u ∧ Look X.env s.heap m x u
  cell : ∀ x c, X.env.cells.lookup x = some c → ∃ v, s.heap.IsCell c v
  free : H X.env.locals = none
  freeC : ∀ x c, X.env.cells.lookup x = some c → H c = none
  pin : ∀ p ∈ X.pn ++ pins, s.heap.get? p.1 = some p.2 ∧ H p.1 = none ∧ p.1 ≠ X.env.locals ∧ p.1 ∉ X.fs ∧ ∀ v, p.2.data ≠ .cell v
  hok : HOk X.prog X.w H s.heap
  len : σ.length = X.N.length
section
variable {X : Cx} {pins : List (Addr × Obj)} {σ : List (Option V)} {H H' : Hp} {s : Shared} {h' : Heap}
theorem Cx.Ok.nofr (ok : X.Ok) {b : Addr} {o : Obj} (e : X.base.get? b = some o) : b ∉ X.fs := fun hb => by
  have := (ok.funs.mem hb).1
  rw [e] at this; cases this
theorem Inv.bs (I : Inv X pins σ H s) : ∀ b o, X.base.get? b = some o → s.heap.get? b = some o ∧ H b = none := fun b o e =>
  ⟨I.base.keep b o (I.ok.bs b o e).1 (I.ok.bs b o e).2 (I.ok.nofr e) (I.ok.noex b o e), I.base.free b o (I.ok.bs b o e).1 (I.ok.bs b o e).2 (I.ok.noex b o e)⟩
theorem Inv.bk (I : Inv X pins σ H s) : ∀ b o, X.base.get? b = some o → s.heap.get? b = some o := fun b o e => (I.bs b o e).1
theorem Inv.mod (I : Inv X pins σ H s) : Mod X.K X.mg X.base := I.ok.mod
theorem Inv.kIn (I : Inv X pins σ H s) : X.K.In s.heap := I.ok.mod.kin.keeps I.bk
theorem Inv.lt (I : Inv X pins σ H s) : X.env.locals < s.heap.objs.size := let ⟨_, hn, _⟩ := I.loc; hn.lt
theorem Inv.sz (I : Inv X pins σ H s) : X.s₀.heap.objs.size ≤ s.heap.objs.size := Nat.le_trans I.ok.above (Nat.le_of_lt I.lt)
theorem Inv.nofs (I : Inv X pins σ H s) {a : Addr} (h : s.heap.objs.size ≤ a) : a ∉ X.fs := fun hb => by
  obtain ⟨_, o, ho, _⟩ := I.ok.funs.mem hb
  exact absurd (Nat.lt_of_lt_of_le (Heap.lt_size ho) (Nat.le_trans I.sz h)) (Nat.lt_irrefl _)
theorem Inv.cne (I : Inv X pins σ H s) : ∀ x c, X.env.cells.lookup x = some c → c ≠ X.env.locals := fun x c e z => by
  obtain ⟨v, o, ho, hd⟩ := I.cell x c e
  obtain ⟨m, ⟨o', es, ep, ho', hd', _⟩, _⟩ := I.loc
  rw [z, ho'] at ho; cases ho; rw [hd'] at hd; cases hd
theorem Inv.funs (I : Inv X pins σ H s) : s.heap.FunFrames X.base X.outer := by
  have all : ∀ (l : List Env), (∀ b ∈ frs l, b ∈ X.fs) → X.s₀.heap.FunFrames X.base l → s.heap.FunFrames X.base l := by
    intro l
    induction l with
    | nil => intro _ _; trivial
    | cons env r ih =>
      intro hs hl
      obtain ⟨hk, ⟨L, o, hf, hn, ho, hd⟩, hr⟩ := hl
      have hL : L ∈ X.fs := hs L (by unfold frs; rw [List.filterMap_cons, hf]; exact List.mem_cons_self)
      obtain ⟨sl, e⟩ := I.base.slot L o ho (I.ok.frf L hL) hL fun z => I.ok.exfs L z hL
      exact ⟨hk, ⟨L, _, hf, hn, e, hd⟩, ih (fun b hb => hs b (by unfold frs; rw [List.filterMap_cons, hf]; exact List.mem_cons_of_mem _ hb)) hr⟩
  exact all X.outer (fun _ hb => hb) I.ok.funs
theorem Inv.stack (I : Inv X pins σ H s) : s.heap.FunFrames X.base X.stack := by
  rcases I.ok.stk with e | ⟨e, hf⟩
  · rw [e]; exact I.funs
  · rw [e]
    obtain ⟨m, hn, _⟩ := I.loc
    refine .cons (by rw [I.ok.kind]; decide) hf hn ?_ I.funs
    exact Heap.get?_none_of_le (Nat.le_trans I.ok.bsz I.ok.above)
theorem Inv.stkSub (I : Inv X pins σ H s) : ∀ b ∈ frs X.stack, b ∈ X.env.locals :: X.fs := fun b hb => by
  rcases I.ok.stk with e | ⟨e, hf⟩
  · rw [e] at hb; exact List.mem_cons_of_mem _ hb
  · rw [e] at hb
    unfold frs at hb
    rw [List.filterMap_cons, hf] at hb
    exact hb
theorem Inv.stkFree (I : Inv X pins σ H s) : ∀ b ∈ frs X.stack, H b = none := fun b hb => by
  rcases List.mem_cons.mp (I.stkSub b hb) with e | hb
  · rw [e]; exact I.free
  · obtain ⟨_, o, ho, _⟩ := I.ok.funs.mem hb
    exact I.base.free b o ho (I.ok.frf b hb) fun z => I.ok.exfs b z hb
theorem Inv.step {g' : Array GenState} {t' : Nat} {d' : Drawn} {ch : List Addr} (I : Inv X pins σ H s)
    (hch : ∀ b ∈ ch, (b ∈ X.ex ∨ X.s₀.heap.objs.size ≤ b) ∧ b ≠ X.env.locals ∧ (∀ x c, X.env.cells.lookup x = some c → c ≠ b) ∧ ∀ p ∈ X.pn ++ pins, p.1 ≠ b)
    (keep : ∀ b o, b ≠ X.env.locals → b ∉ X.fs → b ∉ ch → s.heap.get? b = some o → H b = none → h'.get? b = some o)
    (slot : ∀ b o, b ≠ X.env.locals → b ∈ X.fs → b ∉ ch → s.heap.get? b = some o → H b = none → ∃ sl, h'.get? b = some { o with slots := sl }) (free : ∀ b o, b ∉ ch → s.heap.get? b = some o → H b = none → H' b = none)
    (there : ∀ b o, b ∉ ch → s.heap.get? b = some o → ∃ o', h'.get? b = some o')
    (tups : ∀ b xs, H b = some (.tup xs) → H' b = some (.tup xs)) (frzs : ∀ b o u, H b = some (.frz o u) → H' b = some (.frz o u)) (tbls : ∀ b ps, H b = some (.tbl ps) → ∃ more, H' b = some (.tbl (ps ++ more)))
    (ns : ∀ m, s.heap.Ns X.env.locals m → h'.Ns X.env.locals m) (hok : HOk X.prog X.w H' h') (hg : AllBare g') :
    Inv X pins σ H' { s with heap := h', gens := g', drawn := d', toks := t' } := by
  have neL : ∀ b o, X.s₀.heap.get? b = some o → b ≠ X.env.locals := fun b o e => Nat.ne_of_lt (Nat.lt_of_lt_of_le (Heap.lt_size e) I.ok.above)
  have neC : ∀ b o, X.s₀.heap.get? b = some o → b ∉ X.ex → b ∉ ch := fun b o e hx hb => by
    rcases (hch b hb).1 with z | z
    · exact hx z
    · exact absurd (Nat.lt_of_lt_of_le (Heap.lt_size e) z) (Nat.lt_irrefl _)
  have cellK : ∀ x c, X.env.cells.lookup x = some c → ∀ v, s.heap.IsCell c v → h'.IsCell c v := fun x c e v ⟨o, ho, hd⟩ => by
    have nch : c ∉ ch := fun z => (hch c z).2.2.1 x c e rfl
    by_cases hc : c ∈ X.fs
    · obtain ⟨sl, q⟩ := slot c o (I.cne x c e) hc nch ho (I.freeC x c e)
      exact ⟨_, q, hd⟩
    · exact ⟨o, keep c o (I.cne x c e) hc nch ho (I.freeC x c e), hd⟩
  refine ⟨I.ok, I.os, hg, ⟨fun b o e n hb hx => ?_, fun b o e n hb hx => ?_, fun b o e n hx => ?_, fun b o e hx => ?_, fun b xs e => tups b xs (I.base.tups b xs e), fun b o xs e => frzs b o xs (I.base.frzs b o xs e), fun b ps e => ?_⟩, ?_, fun x c e => ?_, ?_, fun x c e => ?_, fun p hp => ?_, hok, I.len⟩
  · exact keep b o (neL b o e) hb (neC b o e hx) (I.base.keep b o e n hb hx) (I.base.free b o e n hx)
  · obtain ⟨sl, e1⟩ := I.base.slot b o e n hb hx
    obtain ⟨sl', e2⟩ := slot b _ (neL b o e) hb (neC b o e hx) e1 (I.base.free b o e n hx)
    exact ⟨sl', e2⟩
  · obtain ⟨o', e1⟩ := I.base.there b o e hx
    exact free b o' (neC b o e hx) e1 (I.base.free b o e n hx)
  · obtain ⟨o', e1⟩ := I.base.there b o e hx
    exact there b o' (neC b o e hx) e1
  · obtain ⟨m1, e1⟩ := I.base.tbls b ps e
    obtain ⟨m2, e2⟩ := tbls b _ e1
    exact ⟨m1 ++ m2, by rw [e2, Array.append_assoc]⟩
  · obtain ⟨m, hn, hl⟩ := I.loc
    refine ⟨m, ns m hn, fun i x v e1 e2 e3 => ?_⟩
    obtain ⟨u, r, l⟩ := hl i x v e1 e2 e3
    refine ⟨u, r, ?_⟩
    rcases l with l | ⟨k, c, e, z⟩
    · exact .inl l
    · exact .inr ⟨k, c, e, cellK x c e _ z⟩
  · obtain ⟨v, z⟩ := I.cell x c e
    exact ⟨v, cellK x c e v z⟩
  · obtain ⟨m, ⟨o, _, _, ho, _⟩, _⟩ := I.loc
    exact free _ o (fun z => (hch _ z).2.1 rfl) ho I.free
  · obtain ⟨v, o, ho, hd⟩ := I.cell x c e
    exact free c o (fun z => (hch c z).2.2.1 x c e rfl) ho (I.freeC x c e)
  · obtain ⟨e, n, ne, nf, d⟩ := I.pin p hp
    have nch : p.1 ∉ ch := fun z => (hch p.1 z).2.2.2 p hp rfl
    exact ⟨keep p.1 p.2 ne nf nch e n, free p.1 p.2 nch e n, ne, nf, d⟩
theorem Inv.un {t' : Nat} (I : Inv X pins σ H s) (u : Un X.fs [] H H' s.heap h') (hok : HOk X.prog X.w H' h') : Inv X pins σ H' { s with heap := h', toks := t' } := by
  obtain ⟨m, ⟨o, es, ep, ho, r⟩, _⟩ := id I.loc
  obtain ⟨sl, hL⟩ := u.any ho I.free (by simp)
  exact I.step (g' := s.gens) (d' := s.drawn) (ch := []) (fun _ z => nomatch z) (fun b o _ hb _ e n => u.keep b o e n hb (by simp)) (fun b o _ hb _ e n => u.slot b o e n hb (by simp)) (fun b o _ e n => u.free b o e n (by simp)) (fun b o _ e => u.there b o e (by simp)) u.tups u.frzs u.tbls (fun m' hm => by
    obtain ⟨o', es', ep', ho', r'⟩ := hm
    rw [ho] at ho'; cases ho'
    exact ⟨_, es', ep', hL, r'⟩) hok I.bare
theorem Inv.call {g' : Array GenState} {t' : Nat} {d' : Drawn} {ch : List Addr} (I : Inv X pins σ H s) (u : Un (frs X.stack) ch H H' s.heap h') (hok : HOk X.prog X.w H' h') (hg : AllBare g')
    (hch : ∀ b ∈ ch, (b ∈ X.ex ∨ X.s₀.heap.objs.size ≤ b) ∧ b ≠ X.env.locals ∧ (∀ x c, X.env.cells.lookup x = some c → c ≠ b) ∧ ∀ p ∈ X.pn ++ pins, p.1 ≠ b) :
    Inv X pins σ H' { s with heap := h', gens := g', drawn := d', toks := t' } := by
  obtain ⟨m, ⟨o, es, ep, ho, r⟩, _⟩ := id I.loc
  obtain ⟨sl, hL⟩ := u.any ho I.free fun z => (hch _ z).2.1 rfl
  exact I.step (ch := ch) hch (fun b o hL hb hc e n => u.keep b o e n (fun z => (List.mem_cons.mp (I.stkSub b z)).elim hL hb) hc) (fun b o _ _ hc e n => u.any e n hc) (fun b o hc e n => u.free b o e n hc) (fun b o hc e => u.there b o e hc) u.tups u.frzs u.tbls (fun m' hm => by
    obtain ⟨o', es', ep', ho', r'⟩ := hm
    rw [ho] at ho'; cases ho'
    exact ⟨_, es', ep', hL, r'⟩) hok hg
theorem Inv.turned {t' : Nat} {it : Addr} (I : Inv X pins σ H s) (k : ∀ b o, b ≠ it → s.heap.get? b = some o → h'.get? b = some o) (hn : H it = none) (hL : it ≠ X.env.locals)
    (h1 : it ∈ X.ex ∨ X.s₀.heap.objs.size ≤ it) (h2 : ∀ x c, X.env.cells.lookup x = some c → c ≠ it) (h3 : ∀ p ∈ X.pn ++ pins, p.1 ≠ it) : Inv X pins σ H { s with heap := h', toks := t' } := by
  have nit : ∀ b u, H b = some u → b ≠ it := fun b u e z => by rw [z, hn] at e; cases e
  refine I.step (g' := s.gens) (d' := s.drawn) (ch := [it]) (fun b hb => ?_) (fun b o _ _ hc e _ => k b o (fun z => hc (by simp [z])) e) (fun b o _ _ hc e _ => ⟨o.slots, k b o (fun z => hc (by simp [z])) e⟩) (fun _ _ _ _ n => n)
    (fun b o hc e => ⟨o, k b o (fun z => hc (by simp [z])) e⟩) (fun _ _ e => e) (fun _ _ _ e => e) (fun b ps e => ⟨#[], by rw [e]; simp⟩) (fun m hm => ?_) (fun b u e => ?_) I.bare
  · have e : b = it := by simpa using hb
    subst e
    exact ⟨h1, hL, h2, h3⟩
  · obtain ⟨o, es, ep, ho, r⟩ := hm
    exact ⟨o, es, ep, k _ o (Ne.symm hL) ho, r⟩
  · refine (I.hok b u e).stay (fun c v hc q => k c v ?_ q) (fun _ q => q) fun _ _ q => q
    rcases hc with z | z
    · rw [z]; exact nit b u e
    · exact nit c _ z
theorem Inv.tok (I : Inv X pins σ H s) (t : Nat) : Inv X pins σ H { s with toks := t } := I.un (h' := s.heap) (t' := t) Un.refl I.hok
theorem Inv.kept {t' : Nat} (I : Inv X pins σ H s) (k : ∀ b u, s.heap.get? b = some u → h'.get? b = some u) : Inv X pins σ H { s with heap := h', toks := t' } := I.un (Un.kept k) (I.hok.kept k)
theorem Inv.laid {a : Addr} {o : HO} {t' : Nat} (I : Inv X pins σ H s) (k : ∀ b u, s.heap.get? b = some u → h'.get? b = some u) (hp : s.heap.objs.size ≤ a) (new : ObjOk X.prog X.w (upd H a o) h' a o) :
    Inv X pins σ (upd H a o) { s with heap := h', toks := t' } := I.un (Un.laid k hp (I.hok.fresh hp)) (I.hok.laid k hp new)
theorem Inv.write {x e : Addr} {o : HO} {t' : Nat} (I : Inv X pins σ H s) (mu : Mut (H x)) (he : e = x ∨ H e = some (.own x)) (k : ∀ b u, b ≠ e → s.heap.get? b = some u → h'.get? b = some u) (heo : ∃ u, h'.get? e = some u)
    (new : ObjOk X.prog X.w (upd H x o) h' x o) : Inv X pins σ (upd H x o) { s with heap := h', toks := t' } := I.un (Un.write mu he k heo) (I.hok.write mu he k heo new)
theorem Inv.pins_of {pins' : List (Addr × Obj)} (I : Inv X pins σ H s) (h : ∀ p ∈ pins', s.heap.get? p.1 = some p.2 ∧ H p.1 = none ∧ p.1 ≠ X.env.locals ∧ p.1 ∉ X.fs ∧ ∀ v, p.2.data ≠ .cell v) : Inv X pins' σ H s :=
  ⟨I.ok, I.os, I.bare, I.base, I.loc, I.cell, I.free, I.freeC, fun p hp => (List.mem_append.mp hp).elim (fun z => I.pin p (List.mem_append_left _ z)) (h p), I.hok, I.len⟩
theorem nodup_ix {N : List Str} (hN : N.Nodup) {i j : Nat} {x : Str} (a : N[i]? = some x) (b : N[j]? = some x) : i = j := by
  obtain ⟨h1, e1⟩ := List.getElem?_eq_some_iff.mp a
  obtain ⟨h2, e2⟩ := List.getElem?_eq_some_iff.mp b
  exact (List.getElem_inj hN).mp (e1.trans e2.symm)
theorem store_ok2 {M : Model} {A : Around} {E : Value → Shared → Prop} {i : Nat} {x : Str} {v : V} {u : Value} {Q : Unit → Shared → Prop} (I : Inv X pins σ H s) (hN : X.N.Nodup) (hi : X.N[i]? = some x) (hx : Loc X.env.scope x) (r : RelV v u)
    (h : ∀ s', Inv X pins (σ.set i (some v)) H s' → (∃ a, Heap.SameBut a s.heap s'.heap ∧ (a = X.env.locals ∨ X.env.cells.lookup x = some a)) → Q () s') (hf : X.fn x = true ∨ X.env.scope.names.lookup x = some .local := by first | exact .inl rfl | exact .inr rfl | assumption) : wpAny M A (storeName X.env x u) Q E s := by
  obtain ⟨m, hn, hl⟩ := id I.loc
  have hcls : (X.env.scope.kind == .class || (X.env.scope.kind == .module && X.env.locals != X.env.globals)) = false := by rw [I.ok.kind]; rfl
  have hiσ : i < σ.length := by rw [I.len]; exact (List.getElem?_eq_some_iff.mp hi).1
  have cne := I.cne
  have tracked : ∀ {a : Addr} {h' : Heap}, (∃ o, s.heap.get? a = some o ∧ H a = none) → Heap.SameBut a s.heap h' → HOk X.prog X.w H h' := fun {a h'} ha hs b ob e => by
    obtain ⟨_, _, hfree⟩ := ha
    refine (I.hok b ob e).stay (fun c w' hc q => (hs.2 c ?_).trans q) (fun _ q => q) fun _ _ q => q
    rintro rfl
    rcases hc with rfl | hc
    · rw [hfree] at e; cases e
    · rw [hfree] at hc; cases hc
  rcases hx with hk | hk
  · refine wpAny_storeName_local hk hn (fun h' hn' hs => ?_) hcls
    obtain ⟨oL, _, _, hoL, _⟩ := id hn
    refine h _ ⟨I.ok, I.os, I.bare, ⟨fun b o e n hb hx => ?_, fun b o e n hb hx => ?_, I.base.free, fun b o e hx => ?_, I.base.tups, I.base.frzs, I.base.tbls⟩, ⟨_, hn', fun j y v' e1 e2 e3 => ?_⟩, fun y c e => ?_, I.free, I.freeC, fun p hp => ?_, tracked ⟨oL, hoL, I.free⟩ hs, by simpa using I.len⟩ ⟨_, hs, .inl rfl⟩
    · exact (hs.2 b (Nat.ne_of_lt (Nat.lt_of_lt_of_le (Heap.lt_size e) I.ok.above))).trans (I.base.keep b o e n hb hx)
    · obtain ⟨sl, e1⟩ := I.base.slot b o e n hb hx
      exact ⟨sl, (hs.2 b (Nat.ne_of_lt (Nat.lt_of_lt_of_le (Heap.lt_size e) I.ok.above))).trans e1⟩
    · obtain ⟨o', e1⟩ := I.base.there b o e hx
      exact ⟨o', (hs.2 b (Nat.ne_of_lt (Nat.lt_of_lt_of_le (Heap.lt_size e) I.ok.above))).trans e1⟩
    · by_cases hj : j = i
      · subst hj
        rw [hi] at e1; cases e1
        rw [List.getElem?_set_self hiσ] at e2
        cases e2
        exact ⟨u, r, .inl ⟨hk, by simp⟩⟩
      · rw [List.getElem?_set_ne (Ne.symm hj)] at e2
        obtain ⟨u', r', q⟩ := hl j y v' e1 e2 e3
        refine ⟨u', r', ?_⟩
        rcases q with ⟨k, e⟩ | ⟨k, c, e, z⟩
        · refine .inl ⟨k, ?_⟩
          have : y ≠ x := fun e => hj (nodup_ix hN e1 (e ▸ hi))
          simp [this, e]
        · exact .inr ⟨k, c, e, z.sameBut hs (cne y c e)⟩
    · obtain ⟨w', z⟩ := I.cell y c e
      exact ⟨w', z.sameBut hs (cne y c e)⟩
    · obtain ⟨e, n, ne, nf, d⟩ := I.pin p hp
      exact ⟨(hs.2 p.1 ne).trans e, n, ne, nf, d⟩
  · have hfn : X.fn x = true := by
      rcases hf with z | z
      · exact z
      · rw [z] at hk; cases hk
    obtain ⟨c, hc⟩ := I.ok.has x (.inl hk)
    obtain ⟨w', z⟩ := I.cell x c hc
    refine wpAny_storeName_cell I.ok.kind hk hc z (fun h' hc' hs => ?_)
    obtain ⟨oc, hoc, hocd⟩ := id z
    refine h { s with heap := h' } ⟨I.ok, I.os, I.bare, ⟨fun b o e n hb hx => ?_, fun b o e n hb hx => ?_, I.base.free, fun b o e hx => ?_, I.base.tups, I.base.frzs, I.base.tbls⟩, ⟨m, hn.sameBut hs (Ne.symm (cne x c hc)), fun j y v' e1 e2 e3 => ?_⟩, fun y c' e => ?_, I.free, I.freeC, fun p hp => ?_, tracked ⟨oc, hoc, I.freeC x c hc⟩ hs, by simpa using I.len⟩ ⟨c, hs, .inr hc⟩
    · exact (hs.2 b (Nat.ne_of_lt (Nat.lt_of_lt_of_le (Heap.lt_size e) (I.ok.cab x c hfn hc)))).trans (I.base.keep b o e n hb hx)
    · obtain ⟨sl, e1⟩ := I.base.slot b o e n hb hx
      exact ⟨sl, (hs.2 b (Nat.ne_of_lt (Nat.lt_of_lt_of_le (Heap.lt_size e) (I.ok.cab x c hfn hc)))).trans e1⟩
    · obtain ⟨o', e1⟩ := I.base.there b o e hx
      exact ⟨o', (hs.2 b (Nat.ne_of_lt (Nat.lt_of_lt_of_le (Heap.lt_size e) (I.ok.cab x c hfn hc)))).trans e1⟩
    · by_cases hj : j = i
      · subst hj
        rw [hi] at e1; cases e1
        rw [List.getElem?_set_self hiσ] at e2
        cases e2
        exact ⟨u, r, .inr ⟨.inl hk, c, hc, hc'⟩⟩
      · rw [List.getElem?_set_ne (Ne.symm hj)] at e2
        obtain ⟨u', r', q⟩ := hl j y v' e1 e2 e3
        refine ⟨u', r', ?_⟩
        rcases q with q | ⟨k, c', e, z'⟩
        · exact .inl q
        · refine .inr ⟨k, c', e, z'.sameBut hs ?_⟩
          rintro rfl
          exact hj (nodup_ix hN e1 (I.ok.inj _ _ _ e hc ▸ hi))
    · by_cases hcc : c' = c
      · subst hcc; exact ⟨_, hc'⟩
      · obtain ⟨w2, z2⟩ := I.cell y c' e
        exact ⟨w2, z2.sameBut hs hcc⟩
    · obtain ⟨e, n, ne, nf, d⟩ := I.pin p hp
      refine ⟨(hs.2 p.1 ?_).trans e, n, ne, nf, d⟩
      intro q
      rw [q, hoc] at e
      have q' : oc = p.2 := Option.some.inj e
      exact d w' (by rw [← q']; exact hocd)
theorem store_ok {M : Model} {A : Around} {E : Value → Shared → Prop} {i : Nat} {x : Str} {v : V} {u : Value} {Q : Unit → Shared → Prop} (I : Inv X pins σ H s) (hN : X.N.Nodup) (hi : X.N[i]? = some x) (hx : Loc X.env.scope x) (r : RelV v u)
    (h : ∀ s', Inv X pins (σ.set i (some v)) H s' → Q () s') (hf : X.fn x = true ∨ X.env.scope.names.lookup x = some .local := by first | exact .inl rfl | exact .inr rfl | assumption) : wpAny M A (storeName X.env x u) Q E s :=
  store_ok2 I hN hi hx r (fun s' I' _ => h s' I') hf
theorem Inv.call' {s' : Shared} {ch : List Addr} (I : Inv X pins σ H s) (ho : s'.os = s.os) (u : Un (frs X.stack) ch H H' s.heap s'.heap) (hok : HOk X.prog X.w H' s'.heap) (hg : AllBare s'.gens)
    (hch : ∀ b ∈ ch, (b ∈ X.ex ∨ X.s₀.heap.objs.size ≤ b) ∧ b ≠ X.env.locals ∧ (∀ x c, X.env.cells.lookup x = some c → c ≠ b) ∧ ∀ p ∈ X.pn ++ pins, p.1 ≠ b) : Inv X pins σ H' s' := by
  obtain ⟨h', g', d', t', o'⟩ := s'
  have e : o' = s.os := ho
  subst e
  exact I.call (g' := g') (t' := t') (d' := d') u hok hg hch
end
abbrev XK := Value → Option Addr → Hp → Prop
abbrev St := List (Option V)
abbrev VK := V → Hp → Prop
abbrev TE := St → Hp → VK → Prop
abbrev TT := St → Hp → (Bool → Hp → Prop) → Prop
abbrev TA := St → Hp → (List V → Hp → Prop) → Prop
structure Ends where
  nx : St → Hp → Prop
  rt : VK
  bk : St → Hp → Prop := fun _ _ => False
  ct : St → Hp → Prop := fun _ _ => False
abbrev TS := Ends → St → Hp → Prop
def EP (X : Cx) (pins : List (Addr × Obj)) (σ : St) (Q : VK) (u : Value) (s' : Shared) : Prop := ∃ v H', Inv X pins σ H' s' ∧ RelV v u ∧ Q v H'
def TP (X : Cx) (pins : List (Addr × Obj)) (σ : St) (Q : Bool → Hp → Prop) (b : Bool) (s' : Shared) : Prop := ∃ H', Inv X pins σ H' s' ∧ Q b H'
def AP (X : Cx) (pins : List (Addr × Obj)) (σ : St) (Q : List V → Hp → Prop) (us : List Value) (s' : Shared) : Prop := ∃ vs H', Inv X pins σ H' s' ∧ Vals vs us ∧ Q vs H'
def SP (X : Cx) (pins : List (Addr × Obj)) (D : Ends) (f : Flow) (s' : Shared) : Prop :=
  match f with
  | .next => ∃ σ' H', Inv X pins σ' H' s' ∧ D.nx σ' H'
  | .brk => ∃ σ' H', Inv X pins σ' H' s' ∧ D.bk σ' H'
  | .cont => ∃ σ' H', Inv X pins σ' H' s' ∧ D.ct σ' H'
  | .ret u => ∃ v σ' H', Inv X pins σ' H' s' ∧ RelV v u ∧ D.rt v H'
def PE (X : Cx) (e : Expr) (t : TE) : Prop :=
  ∀ (pins : List (Addr × Obj)) (s : Shared) (σ : St) (H : Hp) (Q : VK), Inv X pins σ H s → t σ H Q → wpAny (model X.prog X.w) X.A (eval e X.env) (EP X pins σ Q) X.xe s
def PT (X : Cx) (e : Expr) (t : TT) : Prop :=
  ∀ (pins : List (Addr × Obj)) (s : Shared) (σ : St) (H : Hp) (Q : Bool → Hp → Prop), Inv X pins σ H s → t σ H Q → wpAny (model X.prog X.w) X.A (isTrue e X.env (eval e X.env)) (TP X pins σ Q) X.xe s
def PW (X : Cx) (e : Expr) (t : TT) : Prop :=
  ∀ (whole : Sem Value) (pins : List (Addr × Obj)) (s : Shared) (σ : St) (H : Hp) (Q : Bool → Hp → Prop), Inv X pins σ H s → t σ H Q → wpAny (model X.prog X.w) X.A (isTrue e X.env whole) (TP X pins σ Q) X.xe s
theorem PW.pt {X : Cx} {e : Expr} {t : TT} (h : PW X e t) : PT X e t := h _
def PA (X : Cx) (es : List Expr) (t : TA) : Prop :=
  ∀ (pos : Pos) (pins : List (Addr × Obj)) (s : Shared) (σ : St) (H : Hp) (Q : List V → Hp → Prop), Inv X pins σ H s → t σ H Q → wpAny (model X.prog X.w) X.A (spliced (backTo pos (starEach es X.env))) (AP X pins σ Q) X.xe s
def PS (X : Cx) (st : Stmt) (t : TS) : Prop :=
  ∀ (pins : List (Addr × Obj)) (s : Shared) (σ : St) (H : Hp) (D : Ends), Inv X pins σ H s → t D σ H → wpAny (model X.prog X.w) X.A (exec st X.env) (SP X pins D) X.xe s
def PSs (X : Cx) (st : List Stmt) (t : TS) : Prop :=
  ∀ (pins : List (Addr × Obj)) (s : Shared) (σ : St) (H : Hp) (D : Ends), Inv X pins σ H s → t D σ H → wpAny (model X.prog X.w) X.A (execs st X.env) (SP X pins D) X.xe s
theorem thn {α : Type} {t : Sem α} {Q Q' : α → Shared → Prop} {M : Model} {A : Around} {E : Value → Shared → Prop} {s : Shared} (h : wpAny M A t Q E s) (hQ : ∀ a s, Q a s → Q' a s) : wpAny M A t Q' E s := wpAny_mono h hQ fun _ _ x => x
end L2
namespace L2
open PySem PySem.Spec PyProof.Rows
section
variable {X : Cx}
theorem bin {a b : Expr} {ta tb : TE} (ha : PE X a ta) (hb : PE X b tb) {pins : List (Addr × Obj)} {s : Shared} {σ : St} {H : Hp} {R : V → V → Hp → Prop} (I : Inv X pins σ H s) (h : ta σ H fun x H1 => tb σ H1 fun y H2 => R x y H2)
    {α : Type} {Q : α → Shared → Prop} {f : Value → Value → Sem α}
    (hf : ∀ v u s2 x y H2, Inv X pins σ H2 s2 → RelV x v → RelV y u → R x y H2 → wpAny (model X.prog X.w) X.A (f v u) Q X.xe s2) :
    wpAny (model X.prog X.w) X.A (eval a X.env) (fun v s₁ => wpAny (model X.prog X.w) X.A (eval b X.env) (fun u s₂ => wpAny (model X.prog X.w) X.A (f v u) Q X.xe s₂) X.xe s₁) X.xe s := by
  refine thn (ha pins s σ H _ I h) fun v s1 ⟨x, H1, I1, r1, q1⟩ => ?_
  refine thn (hb pins s1 σ H1 _ I1 q1) fun u s2 ⟨y, H2, I2, r2, q2⟩ => ?_
  exact hf v u s2 x y H2 I2 r1 r2 q2
def tVar (i : Nat) : TE := fun σ H Q => ∃ v, σ[i]? = some (some v) ∧ Q v H
def tC (v : V) : TE := fun _ H Q => Q v H
theorem pe_var {i : Nat} {x : Str} {pos : Pos} (hN : X.N[i]? = some x) (hv : Vis X.env.scope x) (hd : (x == ("__debug__" : Str)) = false := by decide) (hcd : (x == ("__classdict__" : Str)) = false := by decide) : PE X (.Name x pos) (tVar i) := by
  intro pins s σ H Q I h
  obtain ⟨v, e, h⟩ := h
  obtain ⟨m, hn, hl⟩ := I.loc
  obtain ⟨u, r, l⟩ := hl i x v hN e hv
  have fin : EP X pins σ Q u s := ⟨v, H, I, r, h⟩
  rcases l with ⟨hk, hm⟩ | ⟨hk, c, hc, hcell⟩
  · exact wpAny_Name (wpAny_loadName_local I.ok.kind hk hn hm fin) hd
  · rcases hk with hk | hk
    · exact wpAny_Name (wpAny_loadName_cell I.ok.kind hk hc hcell fin) hd
    · exact wpAny_Name (wpAny_loadName_free I.ok.kind hk hc hcell fin hcd) hd
theorem pe_int {i j pos} : PE X (.Constant (.int i) j pos) (tC (.int i)) := fun _ _ _ H _ I h => wpAny_Constant_int ⟨.int i, H, I.tok _, ⟨_, rfl⟩, h⟩
theorem pe_bl {b j pos} : PE X (.Constant (.bool b) j pos) (tC (.bl b)) := fun _ _ _ H _ I h => Constant_bool ⟨.bl b, H, I, rfl, h⟩
theorem pe_non {j pos} : PE X (.Constant .none j pos) (tC .non) := fun _ _ _ H _ I h => Constant_none ⟨.non, H, I, rfl, h⟩
theorem pe_str {x j pos} : PE X (.Constant (.str x) j pos) (tC (.str x)) := fun _ _ _ H _ I h => Calls.Constant_str ⟨.str x, H, I.tok _, ⟨_, rfl⟩, h⟩
def Gl (X : Cx) (x : Str) : Prop := X.env.kindOf x = some .globalImplicit
theorem ld_glob {E : Value → Shared → Prop} {pins : List (Addr × Obj)} {s : Shared} {σ : St} {H : Hp} {x : Str} {u : Value} {pos : Pos} {Q : Value → Shared → Prop} (I : Inv X pins σ H s) (hg : Gl X x) (hm : X.mg x = some u) (h : Q u s)
    (hd : (x == ("__debug__" : Str)) = false := by decide) : wpAny (model X.prog X.w) X.A (eval (.Name x pos) X.env) Q E s :=
  Calls.Name_function_global I.ok.kind hg (Calls.loadGlobal_global (by rw [I.ok.glob]; exact I.mod.glob.keeps I.bk) hm h) hd
theorem ld_blt {E : Value → Shared → Prop} {pins : List (Addr × Obj)} {s : Shared} {σ : St} {H : Hp} {x : Str} {u : Value} {pos : Pos} {Q : Value → Shared → Prop} (I : Inv X pins σ H s) (hg : Gl X x) (hm : X.mg x = none) (hv : bootBuiltins x = some u) (h : Q u s)
    (hn : x ≠ "__name__" := by decide) (hd : (x == ("__debug__" : Str)) = false := by decide) : wpAny (model X.prog X.w) X.A (eval (.Name x pos) X.env) Q E s := by
  obtain ⟨mb, h1, h2⟩ := I.mod.blt
  exact Calls.Name_function_global I.ok.kind hg (Calls.loadGlobal_builtin (by rw [I.ok.glob]; exact I.mod.glob.keeps I.bk) hm (by rw [I.ok.blt]; exact h1.keeps I.bk) ((h2 x hn).trans hv) h) hd
theorem pe_glob {x : Str} {v : V} {u : Value} {pos : Pos} (hg : Gl X x) (hm : X.mg x = some u) (r : RelV v u) (hd : (x == ("__debug__" : Str)) = false := by decide) : PE X (.Name x pos) (tC v) :=
  fun _ _ _ H _ I h => ld_glob I hg hm ⟨v, H, I, r, h⟩ hd
theorem pe_bltn {x : Str} {v : V} {u : Value} {pos : Pos} (hg : Gl X x) (hm : X.mg x = none) (hv : bootBuiltins x = some u) (r : RelV v u) (hn : x ≠ "__name__" := by decide) (hd : (x == ("__debug__" : Str)) = false := by decide) : PE X (.Name x pos) (tC v) :=
  fun _ _ _ H _ I h => ld_blt I hg hm hv ⟨v, H, I, r, h⟩ hn hd
variable {a b : Expr} {ta tb : TE} {pos : Pos}
def PC (X : Cx) (op : CmpOp) (a b : Expr) (t : TE) : Prop :=
  ∀ (pins : List (Addr × Obj)) (s : Shared) (σ : St) (H : Hp) (Q : VK), Inv X pins σ H s → t σ H Q →
    wpAny (model X.prog X.w) X.A (eval a X.env) (fun v s₁ => wpAny (model X.prog X.w) X.A (eval b X.env) (fun u s₂ => wpAny (model X.prog X.w) X.A (compareOp op v u) (EP X pins σ Q) X.xe s₂) X.xe s₁) X.xe s
def tB (t : TE) : TT := fun σ H Q => t σ H fun x H1 => ∃ c, x = .bl c ∧ Q c H1
theorem pt_cmp {op : CmpOp} {t : TE} (h : PC X op a b t) (h1 : behindInMarks op b = false := by first | exact nobehind _ (by decide) (by decide) | rfl) : PT X (.Compare a [op] [b] pos) (tB t) := by
  intro pins s σ H Q I hw
  refine wpAny_isTrue_Compare1 (thn (h pins s σ H _ I hw) fun v s1 h1 => thn h1 fun u s2 h2 => thn h2 fun c s3 ⟨x, H1, I1, r1, q1⟩ => ?_) h1
  obtain ⟨d, rfl, q⟩ := q1
  cases r1
  exact wpAny_truthy_bool ⟨H1, I1, q⟩
theorem pt_val {e : Expr} {t : TE} (h : PE X e t) (he : ∀ whole, isTrue e X.env whole = (do let v ← whole; standAt e.pos; holding [v] (truthy v)) := by intro _; rfl) : PT X e (tB t) := by
  intro pins s σ H Q I hw
  refine isTrue_plain (thn (h pins s σ H _ I hw) fun v s1 ⟨x, H1, I1, r1, q1⟩ => ?_) (he _)
  obtain ⟨d, rfl, q⟩ := q1
  cases r1
  exact wpAny_truthy_bool ⟨H1, I1, q⟩
variable {tA tB' : TT} {rest : List Expr}
def tAnd (t u : TT) : TT := fun σ H Q => t σ H fun c H1 => if c = true then u σ H1 Q else Q false H1
def tOr (t u : TT) : TT := fun σ H Q => t σ H fun c H1 => if c = true then Q true H1 else u σ H1 Q
def tNot (t : TT) : TT := fun σ H Q => t σ H fun c H1 => Q (!c) H1
theorem pw_and1 (ha : PT X a tA) : PW X (.BoolOp .And [a] pos) tA := by
  intro wh pins s σ H Q I h
  refine isTrue_and (thn (ha pins s σ H Q I h) fun c s1 e => ?_)
  cases c with
  | true => exact isTrue_and_nil e
  | false => exact e
theorem pw_or1 (ha : PT X a tA) : PW X (.BoolOp .Or [a] pos) tA := by
  intro wh pins s σ H Q I h
  refine isTrue_or (thn (ha pins s σ H Q I h) fun c s1 e => ?_)
  cases c with
  | false => exact isTrue_or_nil e
  | true => exact e
theorem pw_and (ha : PT X a tA) (hb : PW X (.BoolOp .And (b :: rest) pos) tB') : PW X (.BoolOp .And (a :: b :: rest) pos) (tAnd tA tB') := by
  intro wh pins s σ H Q I h
  refine isTrue_and (thn (ha pins s σ H _ I h) fun c s1 ⟨H1, I1, q1⟩ => ?_)
  cases c with
  | true => exact hb wh pins s1 σ H1 Q I1 q1
  | false => exact ⟨H1, I1, q1⟩
theorem pw_or (ha : PT X a tA) (hb : PW X (.BoolOp .Or (b :: rest) pos) tB') : PW X (.BoolOp .Or (a :: b :: rest) pos) (tOr tA tB') := by
  intro wh pins s σ H Q I h
  refine isTrue_or (thn (ha pins s σ H _ I h) fun c s1 ⟨H1, I1, q1⟩ => ?_)
  cases c with
  | true => exact ⟨H1, I1, q1⟩
  | false => exact hb wh pins s1 σ H1 Q I1 q1
theorem pt_not (ha : PT X a tA) : PT X (.UnaryOp .Not a pos) (tNot tA) := by
  intro pins s σ H Q I h
  exact isTrue_not (ha pins s σ H (fun c H1 => Q (!c) H1) I h)
def tAndV (ta tb : TE) : TE := fun σ H Q => ta σ H fun x H1 => ∃ c, x = .bl c ∧ if c = true then tb σ H1 Q else Q (.bl false) H1
def tNotV (ta : TE) : TE := fun σ H Q => ta σ H fun x H1 => ∃ c, x = .bl c ∧ Q (.bl (!c)) H1
theorem pe_one {op} {t : TE} (h : PE X a t) : PE X (.BoolOp op [a] pos) t := fun pins s σ H Q I hw => BoolOp_one (h pins s σ H Q I hw)
theorem pe_and (ha : PE X a ta) (hb : PE X (.BoolOp .And (b :: rest) pos) tb) : PE X (.BoolOp .And (a :: b :: rest) pos) (tAndV ta tb) := by
  intro pins s σ H Q I h
  refine BoolOp_and (thn (ha pins s σ H _ I h) fun v s1 ⟨x, H1, I1, r1, q1⟩ => ?_)
  obtain ⟨c, rfl, q1⟩ := q1
  cases r1
  refine wpAny_truthy_bool ?_
  cases c with
  | true => exact hb pins s1 σ H1 Q I1 q1
  | false => exact ⟨.bl false, H1, I1, rfl, q1⟩
theorem pe_not (ha : PE X a ta) : PE X (.UnaryOp .Not a pos) (tNotV ta) := by
  intro pins s σ H Q I h
  refine UnaryOp_ (thn (ha pins s σ H _ I h) fun v s1 ⟨x, H1, I1, r1, q1⟩ => ?_)
  obtain ⟨c, rfl, q1⟩ := q1
  cases r1
  exact not_of (wpAny_truthy_bool ⟨.bl (!c), H1, I1, rfl, q1⟩)
end
end L2
namespace L2
open PySem PySem.Spec PyProof.Rows
def SqL (K : PySem.W.Frag) (H : Hp) (a : Addr) (xs : List V) : Prop :=
  Rd H a (.lst xs) ∨
    ∃ (o : Obj) (its : Array Value) (n : Nat), K.lookup a = some o ∧ o.cls = .type "list" ∧ o.dict = none ∧ o.data = .seq its n ∧ its.size ≤ sizeLine ∧ Vals xs its.toList
def SqT (K : PySem.W.Frag) (H : Hp) (a : Addr) (xs : List V) : Prop :=
  Rd H a (.tup xs) ∨
    ∃ (o : Obj) (its : Array Value) (n : Nat), K.lookup a = some o ∧ o.cls = .type "tuple" ∧ o.data = .seq its n ∧ its.size ≤ sizeLine ∧ Vals xs its.toList
def absV : Value → Option V
  | .none => some .non
  | .bool b => some (.bl b)
  | .int i _ => some (.int i)
  | .str x _ => some (.str x)
  | .bytes b _ => some (.byt b)
  | .float b _ => some (.flt b)
  | .ref a => some (.ref a)
  | .type n => some (.ty n)
  | _ => none
theorem RelV.abs {x : V} {u : Value} (r : RelV x u) : absV u = some x := by
  cases x with
  | non => cases r; rfl
  | bl _ => cases r; rfl
  | int _ => obtain ⟨t, rfl⟩ := r; rfl
  | str _ => obtain ⟨t, rfl⟩ := r; rfl
  | byt _ => obtain ⟨t, rfl⟩ := r; rfl
  | flt _ => obtain ⟨t, rfl⟩ := r; rfl
  | ref _ => cases r; rfl
  | ty _ => cases r; rfl
theorem RelV.inj {x y : V} {u : Value} (r : RelV x u) (q : RelV y u) : x = y := Option.some.inj (r.abs.symm.trans q.abs)
theorem Vals.inj : ∀ {xs ys : List V} {us : List Value}, Vals xs us → Vals ys us → xs = ys
  | _, _, _, .nil, .nil => rfl
  | _, _, _, .cons r t, .cons r' t' => by rw [r.inj r', Vals.inj t t']
section
variable {X : Cx} {pins : List (Addr × Obj)} {σ : St} {H : Hp} {s : Shared} {a : Addr} {xs ys : List V}
theorem SqL.of {K : PySem.W.Frag} (h : H a = some (.lst xs)) : SqL K H a xs := .inl (.inl h)
theorem SqT.of {K : PySem.W.Frag} (h : H a = some (.tup xs)) : SqT K H a xs := .inl (.inl h)
theorem Inv.list (I : Inv X pins σ H s) (h : SqL X.K H a xs) : ∃ its : List Value, Vals xs its ∧ PlainL s.heap a its.toArray ∧ xs.length ≤ sizeLine := by
  rcases h with h | ⟨o, its, n, hk, hc, hd, hs, hz, r⟩
  · obtain ⟨z, its, n, r, e⟩ := h.ok I.hok
    exact ⟨its, r, ⟨_, n, e, rfl, rfl, rfl⟩, z⟩
  · refine ⟨its.toList, r, ⟨o, n, I.kIn a o hk, hc, hd, by simpa using hs⟩, ?_⟩
    have e := r.length
    simp only [Array.length_toList] at e
    omega
theorem Inv.tuple (I : Inv X pins σ H s) (h : SqT X.K H a xs) : ∃ its : List Value, Vals xs its ∧ IsTup s.heap a its.toArray ∧ xs.length ≤ sizeLine := by
  rcases h with h | ⟨o, its, n, hk, hc, hs, hz, r⟩
  · obtain ⟨z, its, r, p⟩ := h.ok I.hok
    exact ⟨its, r, p, z⟩
  · refine ⟨its.toList, r, ⟨o, I.kIn a o hk, hc, n, by simpa using hs⟩, ?_⟩
    have e := r.length
    simp only [Array.length_toList] at e
    omega
theorem Inv.list_inj (I : Inv X pins σ H s) (h : SqL X.K H a xs) (h' : SqL X.K H a ys) : xs = ys := by
  obtain ⟨its, r, ⟨o, n, e, _, _, d⟩, _⟩ := I.list h
  obtain ⟨its', r', ⟨o', n', e', _, _, d'⟩, _⟩ := I.list h'
  rw [e] at e'; cases e'
  rw [d] at d'
  injection d' with d1 _
  have : its = its' := by simpa using congrArg Array.toList d1
  subst this
  exact r.inj r'
end
abbrev Cx.wish (X : Cx) (E : Value → Shared → Prop) : Cx := { X with xe := E }
abbrev Cx.nox (X : Cx) : Cx := X.wish fun _ _ => False
theorem Cx.Ok.wish {X : Cx} (ok : X.Ok) (E : Value → Shared → Prop) : (X.wish E).Ok :=
  ⟨ok.mod, ok.kind, ok.glob, ok.blt, ok.above, ok.inj, ok.has, ok.cab, ok.hd, ok.frames, ok.stk, ok.exf, ok.bs, ok.bsz, ok.noex, ok.exfs, ok.funs, ok.frf⟩
theorem Cx.Ok.unwish {X : Cx} {E : Value → Shared → Prop} (ok : (X.wish E).Ok) : X.Ok :=
  ⟨ok.mod, ok.kind, ok.glob, ok.blt, ok.above, ok.inj, ok.has, ok.cab, ok.hd, ok.frames, ok.stk, ok.exf, ok.bs, ok.bsz, ok.noex, ok.exfs, ok.funs, ok.frf⟩
section
variable {X : Cx} {pins : List (Addr × Obj)} {σ : St} {H : Hp} {s : Shared} {E : Value → Shared → Prop}
theorem Inv.wish (I : Inv X pins σ H s) (E : Value → Shared → Prop) : Inv (X.wish E) pins σ H s := ⟨I.ok.wish E, I.os, I.bare, I.base, I.loc, I.cell, I.free, I.freeC, I.pin, I.hok, I.len⟩
theorem Inv.unwish (I : Inv (X.wish E) pins σ H s) : Inv X pins σ H s := ⟨I.ok.unwish, I.os, I.bare, I.base, I.loc, I.cell, I.free, I.freeC, I.pin, I.hok, I.len⟩
theorem SP.unwish {D : Ends} {f : Flow} {s' : Shared} (h : SP (X.wish E) pins D f s') : SP X pins D f s' := by
  cases f with
  | next => obtain ⟨σ', H', I, q⟩ := h; exact ⟨σ', H', I.unwish, q⟩
  | brk => obtain ⟨σ', H', I, q⟩ := h; exact ⟨σ', H', I.unwish, q⟩
  | cont => obtain ⟨σ', H', I, q⟩ := h; exact ⟨σ', H', I.unwish, q⟩
  | ret u => obtain ⟨v, σ', H', I, r, q⟩ := h; exact ⟨v, σ', H', I.unwish, r, q⟩
theorem PSs.nox {st : List Stmt} {t : TS} (h : PSs X.nox st t) : PSs X st t := fun pins s σ H D I hw =>
  wpAny_mono (h pins s σ H D (I.wish _) hw) (fun _ _ q => q.unwish) fun _ _ z => False.elim z
end
section
variable {X : Cx} {st : Stmt} {rest : List Stmt} {t u : TS} {e : Expr} {te : TE} {pos : Pos}
def tNext : TS := fun D σ H => D.nx σ H
def tSeq (t u : TS) : TS := fun D σ H => t { D with nx := u D } σ H
theorem pss_nil : PSs X [] tNext := fun _ _ σ H _ I h => wpAny_execs_nil ⟨σ, H, I, h⟩
theorem pss_cons (h1 : PS X st t) (h2 : PSs X rest u) : PSs X (st :: rest) (tSeq t u) := by
  intro pins s σ H D I h
  refine wpAny_execs_cons (thn (h1 pins s σ H { D with nx := u D } I h) fun f s1 q => ?_)
  cases f with
  | next =>
    obtain ⟨σ', H', I', q⟩ := q
    exact h2 pins s1 σ' H' D I' q
  | ret v => exact q
  | brk => exact q
  | cont => exact q
theorem pss_one (h1 : PS X st t) : PSs X [st] t := by
  intro pins s σ H D I h
  refine wpAny_execs_cons (thn (h1 pins s σ H D I h) fun f s1 q => ?_)
  cases f with
  | next => exact wpAny_execs_nil q
  | ret v => exact q
  | brk => exact q
  | cont => exact q
theorem Inv.quiet {pins : List (Addr × Obj)} {σ : St} {H : Hp} {s : Shared} (I : Inv X pins σ H s) : interactive X.env = false := by simp [interactive, I.ok.kind]
def tDrop (te : TE) : TS := fun D σ H => te σ H fun _ H1 => D.nx σ H1
theorem ps_expr (he : PE X e te) (hs : swapsWith e none pos.line X.env = pure false := by rfl) : PS X (.Expr e pos) (tDrop te) := by
  intro pins s σ H D I h
  exact wpAny_Expr_any (thn (he pins s σ H _ I h) fun v s1 ⟨x, H1, I1, r1, q1⟩ => ⟨σ, H1, I1, q1⟩) I.quiet hs
def tRet (te : TE) : TS := fun D σ H => te σ H D.rt
theorem ps_ret (he : PE X e te) : PS X (.Return (some e) pos) (tRet te) := by
  intro pins s σ H D I h
  exact wpAny_Return_some (thn (he pins s σ H _ I h) fun v s1 ⟨x, H1, I1, r1, q1⟩ => ⟨x, σ, H1, I1, r1, q1⟩)
def tIfS (c : TT) (t u : TS) : TS := fun D σ H => c σ H fun b H1 => if b = true then t D σ H1 else u D σ H1
theorem ps_if {c : Expr} {a b : List Stmt} {tc : TT} (hc : PT X c tc) (ha : PSs X a t) (hb : PSs X b u) : PS X (.If c a b pos) (tIfS tc t u) := by
  intro pins s σ H D I h
  refine wpAny_If (thn (hc pins s σ H _ I h) fun d s1 ⟨H1, I1, q1⟩ => ?_)
  cases d with
  | true => exact ha pins s1 σ H1 D I1 q1
  | false => exact hb pins s1 σ H1 D I1 q1
end
abbrev TG := V → St → Hp → (St → Hp → Prop) → Prop
abbrev TGs := List V → St → Hp → (St → Hp → Prop) → Prop
def PG (X : Cx) (target : Expr) (t : TG) : Prop :=
  ∀ (pins : List (Addr × Obj)) (s : Shared) (σ : St) (H : Hp) (v : V) (u : Value) (Q : St → Hp → Prop), Inv X pins σ H s → RelV v u → t v σ H Q →
    wpAny (model X.prog X.w) X.A (assign target X.env u) (fun _ s' => ∃ σ' H', Inv X pins σ' H' s' ∧ Q σ' H') X.xe s
def PGs (X : Cx) (ts : List Expr) (t : TGs) : Prop :=
  ∀ (pins : List (Addr × Obj)) (s : Shared) (σ : St) (H : Hp) (vs : List V) (us : List Value) (Q : St → Hp → Prop), Inv X pins σ H s → Vals vs us → t vs σ H Q →
    wpAny (model X.prog X.w) X.A (assignInOrder ((assignEach ts X.env).map (·.2)) us) (fun _ s' => ∃ σ' H', Inv X pins σ' H' s' ∧ Q σ' H') X.xe s
abbrev TSet := V → V → V → Hp → (Hp → Prop) → Prop
def PSet (X : Cx) (t : TSet) : Prop :=
  ∀ (pins : List (Addr × Obj)) (s : Shared) (σ : St) (H : Hp) (o i v : V) (ov iv u : Value) (Q : Hp → Prop), Inv X pins σ H s → RelV o ov → RelV i iv → RelV v u → t o i v H Q →
    wpAny (model X.prog X.w) X.A (setItem ov iv u) (fun _ s' => ∃ H', Inv X pins σ H' s' ∧ Q H') X.xe s
section
variable {X : Cx} {pos : Pos}
def gName (i : Nat) : TG := fun v σ H Q => Q (σ.set i (some v)) H
theorem pg_name {i : Nat} {x : Str} (hN : X.N.Nodup) (hi : X.N[i]? = some x) (hx : Loc X.env.scope x) (hf : X.fn x = true ∨ X.env.scope.names.lookup x = some .local := by first | exact .inl rfl | exact .inr rfl | assumption) : PG X (.Name x pos) (gName i) := by
  intro pins s σ H v u Q I r h
  exact wpAny_assign_Name (store_ok I hN hi hx r (fun s' I' => ⟨_, H, I', h⟩) hf)
def gNil : TGs := fun vs σ H Q => vs = [] ∧ Q σ H
def gCons (t : TG) (u : TGs) : TGs := fun vs σ H Q => ∃ v r, vs = v :: r ∧ t v σ H fun σ' H' => u r σ' H' Q
theorem pgs_nil : PGs X [] gNil := by
  intro pins s σ H vs us Q I r h
  obtain ⟨e, h⟩ := h
  subst e
  cases r
  exact assignInOrder_nil ⟨σ, H, I, h⟩
theorem pgs_cons {e : Expr} {es : List Expr} {t : TG} {u : TGs} (h1 : PG X e t) (h2 : PGs X es u)
    (hs : (assignEach (e :: es) X.env).map (·.2) = assign e X.env :: (assignEach es X.env).map (·.2) := by rfl) : PGs X (e :: es) (gCons t u) := by
  intro pins s σ H vs us Q I r h
  obtain ⟨v, vr, e1, h⟩ := h
  subst e1
  cases r with
  | cons r rr =>
    rw [hs]
    refine assignInOrder_cons (thn (h1 pins s σ H _ _ _ I r h) fun _ s1 ⟨σ1, H1, I1, q1⟩ => ?_)
    exact h2 pins s1 σ1 H1 _ _ Q I1 rr q1
def gTup (K : PySem.W.Frag) (n : Nat) (t : TGs) : TG := fun v σ H Q => ∃ a xs, v = .ref a ∧ SqT K H a xs ∧ xs.length = n ∧ t xs σ H Q
theorem pg_tup {es : List Expr} {k : Nat} {t : TGs} {n : Nat} (hc : X.calm = true) (h : PGs X es t)
    (hn : (assignEach es X.env).length = n := by rfl) (hst : (assignEach es X.env).findIdx? (·.1) = none := by rfl) : PG X (.Tuple es k pos) (gTup X.K n t) := by
  intro pins s σ H v u Q I r hw
  obtain ⟨a, xs, e1, hq, hl, hw⟩ := hw
  subst e1
  cases r
  obtain ⟨its, rv, ht, hz⟩ := I.tuple hq
  refine assign_Tuple_tuple (I.ok.hd hc) ht (by simp [hn, ← hl, rv.length]) hst fun h' hx => ?_
  have I1 : Inv X pins σ H { s with heap := h' } := I.kept (t' := s.toks) fun b o e => hx b o (Nat.ne_of_lt (Heap.lt_size e)) e
  exact h pins _ σ H xs _ Q I1 (by simpa using rv) hw
def gSub (to ti : TE) (t : TSet) : TG := fun v σ H Q => to σ H fun o H1 => ti σ H1 fun i H2 => t o i v H2 fun H3 => Q σ H3
theorem pg_sub {o i : Expr} {to ti : TE} {t : TSet} (ho : PE X o to) (hi : PE X i ti) (hs : PSet X t)
    (ha : ∀ v, assign (.Subscript o i pos) X.env v = (do
      let ov ← holding [v] (eval o X.env)
      let iv ← holding [v, ov] (eval i X.env)
      standAt pos
      holding [v, ov, iv] (setItem ov iv v)
      release [v, ov, iv] []) := by intro _; rfl) : PG X (.Subscript o i pos) (gSub to ti t) := by
  intro pins s σ H v u Q I r h
  rw [ha]
  refine wpAny_bind (wpAny_holding (thn (ho pins s σ H _ I h) fun ov s1 ⟨x, H1, I1, r1, q1⟩ => ?_))
  refine wpAny_bind (wpAny_holding (thn (hi pins s1 σ H1 _ I1 q1) fun iv s2 ⟨y, H2, I2, r2, q2⟩ => ?_))
  refine wpAny_bind (wpAny_standAt (wpAny_bind (wpAny_holding (thn (hs pins s2 σ H2 x y v ov iv u _ I2 r1 r2 r q2) fun _ s3 ⟨H3, I3, q3⟩ => ?_))))
  exact wpAny_release ⟨σ, H3, I3, q3⟩
def tAsg (te : TE) (g : TG) : TS := fun D σ H => te σ H fun x H1 => g x σ H1 D.nx
theorem ps_asg {tg e : Expr} {te : TE} {g : TG} (he : PE X e te) (hg : PG X tg g) (hs : swapsWithSole [tg] e pos.line X.env = pure false := by rfl) (hw : swappedStores [tg] e X.env = pure none := by rfl)
    (h1 : (assignEach [tg] X.env).map (·.2) = [assign tg X.env] := by rfl) : PS X (.Assign [tg] e pos) (tAsg te g) := by
  intro pins s σ H D I h
  refine wpAny_Assign_stores (thn (he pins s σ H _ I h) fun v s1 ⟨x, H1, I1, r1, q1⟩ => ?_) hs hw
  rw [h1]
  exact thn (hg pins s1 σ H1 x v _ I1 r1 q1) fun _ s2 q => q
theorem ps_set {i : Nat} {x : Str} {e : Expr} {te : TE} {pos' : Pos} (hN : X.N.Nodup) (hi : X.N[i]? = some x) (hx : Loc X.env.scope x) (he : PE X e te) (hs : swapsWith e (some (.Name x pos')) pos.line X.env = pure false := by rfl) (hf : X.fn x = true ∨ X.env.scope.names.lookup x = some .local := by first | exact .inl rfl | exact .inr rfl | assumption) :
    PS X (.Assign [.Name x pos'] e pos) (tAsg te (gName i)) := by
  intro pins s σ H D I h
  refine wpAny_Assign_Name (thn (he pins s σ H _ I h) fun v s1 ⟨y, H1, I1, r1, q1⟩ => ?_) hs
  exact store_ok I1 hN hi hx r1 (fun s2 I2 => ⟨_, H1, I2, q1⟩) hf
end
section
variable {X : Cx} {pos : Pos}
end
structure It where
  go : Nat → Hp → Prop
  yld : Nat → Hp → V → Hp → Prop
  stop : Nat → Hp → Prop
def FpOk (X : Cx) (pins : List (Addr × Obj)) (H : Hp) (b : Addr) : Prop :=
  H b = none ∧ b ≠ X.env.locals ∧ b ∉ X.fs ∧ (b ∈ X.ex ∨ X.s₀.heap.objs.size ≤ b) ∧ (∀ x c, X.env.cells.lookup x = some c → c ≠ b) ∧ ∀ p ∈ X.pn ++ pins, p.1 ≠ b
theorem Inv.fpOk {X : Cx} {pins : List (Addr × Obj)} {σ : St} {H H' : Hp} {s : Shared} {b : Addr} (I : Inv X pins σ H s) (hb : s.heap.objs.size ≤ b) (hn : H' b = none) : FpOk X pins H' b := by
  refine ⟨hn, Nat.ne_of_gt (Nat.lt_of_lt_of_le I.lt hb), I.nofs hb, .inr (Nat.le_trans I.sz hb), fun x c e z => ?_, fun p hp z => ?_⟩
  · obtain ⟨v, q⟩ := I.cell x c e
    exact absurd (Nat.lt_of_lt_of_le q.lt (by rw [z]; exact hb)) (Nat.lt_irrefl _)
  · exact absurd (Nat.lt_of_lt_of_le (Heap.lt_size (I.pin p hp).1) (by rw [z]; exact hb)) (Nat.lt_irrefl _)
structure Turn (P : Program) (w : World) (K : PySem.W.Frag) (tg : Expr) (J : It) (fp : List Addr) (it : Addr) (tn : Nat → Heap → Prop) : Prop where
  mem : it ∈ fp
  obj : ∀ i h, tn i h → ∀ b ∈ fp, ∃ o, h.get? b = some o ∧ ∀ v, o.data ≠ .cell v
  keep : ∀ i h h', tn i h → (∀ b ∈ fp, ∀ o, h.get? b = some o → h'.get? b = some o) → tn i h'
  item : ∀ (X : Cx), X.prog = P → X.w = w → X.K = K → X.calm = true → ∀ (i : Nat) (pins : List (Addr × Obj)) (s : Shared) (σ : St) (H : Hp) (E : Value → Shared → Prop), Inv X pins σ H s → (∀ b ∈ fp, FpOk X pins H b) → tn i s.heap → J.go i H →
    wpAny (model P w) X.A (pyNext (.ref it)) (fun r s1 => ∃ u, r = some u ∧
      wpAny (model P w) X.A (letOwnedTupleGo tg (.ref it) u) (fun _ s2 => ∃ x H', Inv X pins σ H' s2 ∧ RelV x u ∧ J.yld i H x H' ∧ tn (i + 1) s2.heap ∧ ∀ b ∈ fp, H' b = none) E s1) E s
  done : ∀ (X : Cx), X.prog = P → X.w = w → X.K = K → X.calm = true → ∀ (i : Nat) (pins : List (Addr × Obj)) (s : Shared) (σ : St) (H : Hp) (E : Value → Shared → Prop), Inv X pins σ H s → (∀ b ∈ fp, FpOk X pins H b) → tn i s.heap → J.stop i H →
    wpAny (model P w) X.A (pyNext (.ref it)) (fun r s1 => r = none ∧ Inv X pins σ H s1) E s
  self : ∀ (A : Around) (i : Nat) (s : Shared) (Q : Value → Shared → Prop) (E : Value → Shared → Prop), tn i s.heap → Q (.ref it) s → wpAny (model P w) A (pyIter (.ref it)) Q E s
abbrev TI := St → Hp → (It → Hp → Prop) → Prop
def PIE (X : Cx) (pins : List (Addr × Obj)) (σ : St) (tg : Expr) (R : It → Hp → Prop) (itv : Value) (s2 : Shared) : Prop :=
  ∃ (it : Addr) (fp : List Addr) (tn : Nat → Heap → Prop) (J : It) (H' : Hp), itv = .ref it ∧ Inv X pins σ H' s2 ∧ Turn X.prog X.w X.K tg J fp it tn ∧ tn 0 s2.heap ∧ (∀ b ∈ fp, FpOk X pins H' b) ∧ R J H'
def PI (X : Cx) (tg iter : Expr) (wi : TI) : Prop :=
  ∀ (pins : List (Addr × Obj)) (s : Shared) (σ : St) (H : Hp) (R : It → Hp → Prop), Inv X pins σ H s → wi σ H R →
    wpAny (model X.prog X.w) X.A (eval iter X.env) (fun v s1 => wpAny (model X.prog X.w) X.A (pyIter v) (PIE X pins σ tg R) X.xe s1) X.xe s
theorem go_of {M : Model} {A : Around} {E : Value → Shared → Prop} {s : Shared} {tg : Expr} {it : Addr} {u : Value} {o : Obj} {n : String} {vs : Array Value} {Q : Unit → Shared → Prop} (ho : s.heap.get? it = some o) (hc : o.cls = .type n) (hd : o.data = .fields vs)
    (hn : ["enumerate", "zip", "dict_itemiterator", "dict_reverseitemiterator", "odict_iterator", "itertools.zip_longest", "itertools.pairwise"].contains n = false) (hQ : Q () s) : wpAny M A (letOwnedTupleGo tg (.ref it) u) Q E s := by
  unfold letOwnedTupleGo
  cases tg <;> first
    | exact wpAny_pure hQ
    | (cases u <;> first
        | exact wpAny_pure hQ
        | (refine wpAny_bind (wpAny_load ho ?_)
           rw [hc, hd]
           show wpAny M A (if (["enumerate", "zip", "dict_itemiterator", "dict_reverseitemiterator", "odict_iterator", "itertools.zip_longest", "itertools.pairwise"].contains n && vs[0]? == some (rawInt _)) = true then _ else _) Q E s
           rw [if_neg (by intro h; rw [hn, Bool.false_and] at h; cases h)]
           exact wpAny_pure hQ))
def Itl (K : PySem.W.Frag) (a : Addr) : It :=
  ⟨fun i H => ∃ xs x, SqL K H a xs ∧ xs[i]? = some x, fun i H x H' => H' = H ∧ ∀ xs, SqL K H a xs → xs[i]? = some x, fun i H => ∃ xs, SqL K H a xs ∧ xs.length ≤ i⟩
def Itr (lo : Int) (n : Nat) : It := ⟨fun i _ => i < n, fun i H x H' => H' = H ∧ x = .int (lo + i), fun i _ => n ≤ i⟩
theorem turn_list {P : Program} {w : World} {K : PySem.W.Frag} {tg : Expr} (a it : Addr) : Turn P w K tg (Itl K a) [it] it (fun i h => h.IsListIter it a i) where
  mem := by simp
  obj := fun i h st b hb => by
    have e : b = it := by simpa using hb
    subst e
    obtain ⟨o, e, c, d⟩ := st
    exact ⟨o, e, fun v z => by rw [d] at z; cases z⟩
  keep := fun i h h' st k => st.at fun o e => k it (by simp) o e
  item := by
    intro X hP hw hK hc i pins s σ H E I hf st hg
    subst hP hw hK
    obtain ⟨xs, x, hq, hx⟩ := hg
    obtain ⟨its, rv, p, hz⟩ := I.list hq
    obtain ⟨u, hu, ru⟩ := rv.get hx
    obtain ⟨f0, f1, f2, f3, f4, f5⟩ := hf it (by simp)
    refine wpAny_pyNext_list_item st p.isList (x := u) (by simpa using hu) fun h' st' sb => ?_
    have I1 : Inv X pins σ H { s with heap := h' } := I.turned (t' := s.toks) (fun b o hb e => (sb.2 b hb).trans e) f0 f1 f3 f4 f5
    obtain ⟨o, e, c, d⟩ := id st'
    exact ⟨u, rfl, go_of (s := { s with heap := h' }) e c d (by decide) ⟨x, H, I1, ru, ⟨rfl, fun ys hy => by rw [I.list_inj hy hq]; exact hx⟩, st', fun b hb => (hf b hb).1⟩⟩
  done := by
    intro X hP hw hK hc i pins s σ H E I hf st hg
    subst hP hw hK
    obtain ⟨xs, hq, hx⟩ := hg
    obtain ⟨its, rv, p, hz⟩ := I.list hq
    obtain ⟨f0, f1, f2, f3, f4, f5⟩ := hf it (by simp)
    have hl := rv.length
    exact wpAny_pyNext_list_end (I.ok.hd hc) st p.isList (by simp; omega) fun h' eb => ⟨rfl, I.turned (t' := s.toks) (fun b o hb e => eb b o hb e) f0 f1 f3 f4 f5⟩
  self := fun _ _ _ _ _ st h => wpAny_pyIter_listiter st h
theorem turn_range {P : Program} {w : World} {K : PySem.W.Frag} {tg : Expr} (it : Addr) (lo : Int) (n : Nat) : Turn P w K tg (Itr lo n) [it] it (fun i h => IsRangeIter h it (lo + (i : Nat) * 1) ((n : Int) - (i : Nat)) 1) where
  mem := by simp
  obj := fun i h st b hb => by
    have e : b = it := by simpa using hb
    subst e
    exact ⟨_, st, fun v z => by
      have z' : Data.fields _ = Data.cell v := z
      cases z'⟩
  keep := fun i h h' st k => k it (by simp) _ st
  item := by
    intro X hP hw hK hc i pins s σ H E I hf st hg
    subst hP hw hK
    obtain ⟨f0, f1, f2, f3, f4, f5⟩ := hf it (by simp)
    have W := Walks.range (prog := X.prog) (w := X.w) (I.ok.hd hc) it lo 1 n
    refine W.item i s _ _ hg st fun v h' tk hv st' kk => ?_
    obtain ⟨t, rfl⟩ := hv
    have I1 : Inv X pins σ H { s with heap := h', toks := tk } := I.turned (fun b o hb e => kk b o (by simpa using hb) e) f0 f1 f3 f4 f5
    refine ⟨_, rfl, go_of (s := { s with heap := h', toks := tk }) (n := "range_iterator") st' rfl rfl (by decide) ⟨.int (lo + i), H, I1, ⟨t, ?_⟩, ⟨rfl, rfl⟩, st', fun b hb => (hf b hb).1⟩⟩
    rw [Int.mul_one]
  done := by
    intro X hP hw hK hc i pins s σ H E I hf st hg
    subst hP hw hK
    obtain ⟨f0, f1, f2, f3, f4, f5⟩ := hf it (by simp)
    exact wpAny_pyNext_range_end (I.ok.hd hc) st (by have : n ≤ i := hg; omega) fun h' eb => ⟨rfl, I.turned (t' := s.toks) (fun b o hb e => eb b o hb e) f0 f1 f3 f4 f5⟩
  self := fun _ _ _ _ _ st h => wpAny_pyIter_rangeiter st h
end L2
namespace L2
open PySem PySem.Spec PyProof.Rows
section
variable {X : Cx} {tg : Expr}
def iList (K : PySem.W.Frag) (tl : TE) : TI := fun σ H R => tl σ H fun x H1 => ∃ a, x = .ref a ∧ (∃ xs, SqL K H1 a xs) ∧ R (Itl K a) H1
theorem pi_list {l : Expr} {tl : TE} (hl : PE X l tl) : PI X tg l (iList X.K tl) := by
  intro pins s σ H R I h
  refine thn (hl pins s σ H _ I h) fun v s1 ⟨x, H1, I1, r1, q1⟩ => ?_
  obtain ⟨a, e, ⟨xs, hq⟩, q⟩ := q1
  subst e
  cases r1
  obtain ⟨its, rv, p, hz⟩ := I1.list hq
  refine wpAny_pyIter_list p.isList ?_
  refine ⟨s1.heap.objs.size, [s1.heap.objs.size], _, _, H1, rfl, I1.kept (t' := s1.toks) fun b o e => Heap.get?_push_of_some _ e, turn_list a _, ⟨_, Heap.get?_push_size _ rfl, rfl, rfl⟩, fun b hb => ?_, q⟩
  have e : b = s1.heap.objs.size := by simpa using hb
  subst e
  exact I1.fpOk (Nat.le_refl _) (I1.hok.fresh (Nat.le_refl _))
theorem range_it {pins : List (Addr × Obj)} {σ : St} {H : Hp} {s : Shared} {R : It → Hp → Prop} {E : Value → Shared → Prop} {lo hi : Int} {t u v : Tok} {tk : Nat} (I : Inv X pins σ H s) (h1 : -(2 ^ 62) ≤ lo) (h2 : lo < 2 ^ 62) (h3 : -(2 ^ 62) ≤ hi) (h4 : hi < 2 ^ 62)
    (q : R (Itr lo (hi - lo).toNat) H) : wpAny (model X.prog X.w) X.A (pyIter (.ref s.heap.objs.size)) (PIE X pins σ tg R) E { s with heap := s.heap.push { cls := .type "range", data := .fields #[.int lo t, .int hi u, .int 1 v] }, toks := tk } := by
  refine wpAny_pyIter_range (IsRange.new ..) (small_one h1 h2 h3 h4) ?_
  have I1 : Inv X pins σ H { s with heap := s.heap.push { cls := .type "range", data := .fields #[.int lo t, .int hi u, .int 1 v] }, toks := tk } := I.kept fun b o e => Heap.get?_push_of_some _ e
  refine ⟨(s.heap.push { cls := .type "range", data := .fields #[.int lo t, .int hi u, .int 1 v] }).objs.size, [(s.heap.push { cls := .type "range", data := .fields #[.int lo t, .int hi u, .int 1 v] }).objs.size], _, _, H, rfl,
    I1.kept (t' := tk) fun b o e => Heap.get?_push_of_some _ e, turn_range _ lo (hi - lo).toNat, ?_, fun b hb => ?_, q⟩
  · have e1 : lo + ((0 : Nat) : Int) * 1 = lo := by simp
    have e2 : (((hi - lo).toNat : Nat) : Int) - ((0 : Nat) : Int) = Builtin.Range.rangeSize lo hi 1 := by rw [rangeSize_one]; split <;> omega
    show IsRangeIter _ _ (lo + ((0 : Nat) : Int) * 1) ((((hi - lo).toNat : Nat) : Int) - ((0 : Nat) : Int)) 1
    rw [e1, e2]
    exact Heap.get?_push_size _ rfl
  · have e : b = (s.heap.push { cls := .type "range", data := .fields #[.int lo t, .int hi u, .int 1 v] }).objs.size := by simpa using hb
    subst e
    exact I1.fpOk (Nat.le_refl _) (I1.hok.fresh (Nat.le_refl _))
def iRng1 (ta : TA) : TI := fun σ H R => ta σ H fun vs H1 => ∃ j : Int, vs = [.int j] ∧ -(2 ^ 62) ≤ j ∧ j < 2 ^ 62 ∧ R (Itr 0 j.toNat) H1
def iRng2 (ta : TA) : TI := fun σ H R => ta σ H fun vs H1 => ∃ i j : Int, vs = [.int i, .int j] ∧ (-(2 ^ 62) ≤ i ∧ i < 2 ^ 62 ∧ -(2 ^ 62) ≤ j ∧ j < 2 ^ 62) ∧ R (Itr i (j - i).toNat) H1
theorem pi_range1 {a : Expr} {ta : TA} {p pos : Pos} (hg : Gl X "range") (hm : X.mg "range" = none) (ha : PA X [a] ta) (hs : starEach [a] X.env = [(false, eval a X.env)] := by rfl) : PI X tg (.Call (.Name "range" p) [a] [] pos) (iRng1 ta) := by
  intro pins s σ H R I h
  refine Call_ (ld_blt I hg hm boot_range (PyProof.Rows.callWith_type1 (thn (ha pos pins s σ H _ I h) fun us s1 ⟨vs, H1, I1, r1, q1⟩ => ?_) hs rfl))
  obtain ⟨j, e, q1, q2, q⟩ := q1
  subst e
  cases r1 with
  | cons r rr =>
    cases rr
    obtain ⟨t, rfl⟩ := r
    exact call_range_1 (range_it I1 (by omega) (by omega) q1 q2 (by simpa using q))
theorem pi_range2 {a b : Expr} {ta : TA} {p pos : Pos} (hg : Gl X "range") (hm : X.mg "range" = none) (ha : PA X [a, b] ta) (hs : starEach [a, b] X.env = [(false, eval a X.env), (false, eval b X.env)] := by rfl) (hs2 : starEach [b] X.env = [(false, eval b X.env)] := by rfl) :
    PI X tg (.Call (.Name "range" p) [a, b] [] pos) (iRng2 ta) := by
  intro pins s σ H R I h
  refine Call_ (ld_blt I hg hm boot_range (PyProof.Rows.callWith_type1 (thn (ha pos pins s σ H _ I h) fun us s1 ⟨vs, H1, I1, r1, q1⟩ => ?_) (by rw [hs, hs2]) (by rw [hs2]; rfl)))
  obtain ⟨i, j, e, ⟨q1, q2, q3, q4⟩, q⟩ := q1
  subst e
  cases r1 with
  | cons r rr =>
    cases rr with
    | cons r' rr =>
      cases rr
      obtain ⟨t, rfl⟩ := r
      obtain ⟨t', rfl⟩ := r'
      exact call_range_2 (range_it I1 q1 q2 q3 q4 q)
def tFor (wi : TI) (g : TG) (tb : TS) : TS := fun D σ H => wi σ H fun J H1 => ∃ W : Nat → Nat → St → Hp → Prop, (∃ m, W 0 m σ H1) ∧ ∀ i m σ H, W i m σ H →
  (J.stop i H ∧ D.nx σ H) ∨ (J.go i H ∧ ∃ N : St → Hp → Prop, (∀ σ' H', N σ' H' → ∃ m', m' < m ∧ W (i + 1) m' σ' H') ∧ ∀ x H', J.yld i H x H' → g x σ H' fun σ2 H2 => tb { D with nx := N, ct := N, bk := D.nx } σ2 H2)
def pinsAt (fp : List Addr) (h : Heap) : List (Addr × Obj) := fp.filterMap fun b => (h.get? b).map fun o => (b, o)
theorem mem_pinsAt {fp : List Addr} {h : Heap} {b : Addr} {o : Obj} (hb : b ∈ fp) (e : h.get? b = some o) : (b, o) ∈ pinsAt fp h := List.mem_filterMap.mpr ⟨b, hb, by rw [e]; rfl⟩
theorem of_pinsAt {fp : List Addr} {h : Heap} {p : Addr × Obj} (hp : p ∈ pinsAt fp h) : p.1 ∈ fp ∧ h.get? p.1 = some p.2 := by
  obtain ⟨b, hb, e⟩ := List.mem_filterMap.mp hp
  cases q : h.get? b with
  | none => rw [q] at e; cases e
  | some o =>
    rw [q] at e
    have e' : (b, o) = p := Option.some.inj e
    subst e'
    exact ⟨hb, q⟩
theorem Inv.pinned {pins : List (Addr × Obj)} {σ : St} {H : Hp} {s : Shared} {fp : List Addr} (I : Inv X pins σ H s) (hf : ∀ b ∈ fp, FpOk X pins H b) (ho : ∀ b ∈ fp, ∃ o, s.heap.get? b = some o ∧ ∀ v, o.data ≠ .cell v) : Inv X (pins ++ pinsAt fp s.heap) σ H s :=
  I.pins_of fun p hp => (List.mem_append.mp hp).elim (fun z => I.pin p (List.mem_append_right _ z)) fun z => by
    obtain ⟨hb, e⟩ := of_pinsAt z
    obtain ⟨f0, f1, f2, _⟩ := hf p.1 hb
    obtain ⟨o, e', d⟩ := ho p.1 hb
    rw [e] at e'; cases e'
    exact ⟨e, f0, f1, f2, d⟩
theorem Inv.unpinned {pins pl : List (Addr × Obj)} {σ : St} {H : Hp} {s : Shared} (I : Inv X (pins ++ pl) σ H s) : Inv X pins σ H s := I.pins_of fun p hp => I.pin p (List.mem_append_right _ (List.mem_append_left _ hp))
theorem ps_for {iter : Expr} {body : List Stmt} {wi : TI} {g : TG} {tb : TS} {pos : Pos} (hp : PassesOwn (model X.prog X.w) X.A X.env X.xe) (hc : X.calm = true) (hi : PI X tg iter wi) (hg : PG X tg g) (hb : PSs X body tb)
    (hs : ∀ x, foldedSetIterable iter X.env x = pure x := by intro _; rfl) : PS X (.For tg iter body [] pos) (tFor wi g tb) := by
  intro pins s σ H D I h
  refine wpAny_For (thn (hi pins s σ H _ I h) fun v s1 h1 => thn h1 fun itv s2 h2 => ?_) hs
  obtain ⟨it, fp, tn, J, H2, e, I2, T, st2, f2, W, ⟨m0, w0⟩, turn⟩ := h2
  subst e
  -- what stays true of the iterator's objects through the loop
  have stat : ∀ {H' : Hp}, (∀ b ∈ fp, H' b = none) → ∀ b ∈ fp, FpOk X pins H' b := fun hn b hb => ⟨hn b hb, (f2 b hb).2⟩
  refine codeAny_forLoop_any (fun n s' => ∃ i σ' H', Inv X pins σ' H' s' ∧ tn i s'.heap ∧ (∀ b ∈ fp, H' b = none) ∧ W i n σ' H') ?_ m0 ⟨0, σ, H2, I2, st2, fun b hb => (f2 b hb).1, w0⟩
  rintro n s3 ⟨i, σ3, H3, I3, st3, fr3, w3⟩
  rcases turn i n σ3 H3 w3 with ⟨stop, qn⟩ | ⟨go, N, hN, step⟩
  · refine wpAny_passesOwn hp (thn (T.done X rfl rfl rfl hc i pins s3 σ3 H3 X.xe I3 (stat fr3) st3 stop) fun r s4 ⟨hr, I4⟩ => ?_)
    subst hr
    exact wpAny_execs_nil ⟨σ3, H3, I4, qn⟩
  · refine wpAny_passesOwn hp (thn (T.item X rfl rfl rfl hc i pins s3 σ3 H3 X.xe I3 (stat fr3) st3 go) fun r s4 ⟨u, hr, h4⟩ => ?_)
    subst hr
    refine wpAny_passesOwn hp (thn h4 fun _ s5 ⟨x, H5, I5, r5, y5, st5, fr5⟩ => ?_)
    have I5' := I5.pinned (stat fr5) (T.obj _ _ st5)
    refine wpAny_passesOwn hp (thn (hg _ s5 σ3 H5 x u _ I5' r5 (step x H5 y5)) fun _ s6 ⟨σ6, H6, I6, q6⟩ => ?_)
    refine wpAny_passesOwn hp (thn (hb _ s6 σ6 H6 _ I6 q6) fun f s7 q7 => ?_)
    have again : ∀ {σ7 : St} {H7 : Hp}, Inv X (pins ++ pinsAt fp s5.heap) σ7 H7 s7 → N σ7 H7 → ∃ m, m < n ∧ ∃ i σ' H', Inv X pins σ' H' s7 ∧ tn i s7.heap ∧ (∀ b ∈ fp, H' b = none) ∧ W i m σ' H' := fun {σ7 H7} I7 n7 => by
      obtain ⟨m', hm, w7⟩ := hN σ7 H7 n7
      refine ⟨m', hm, i + 1, σ7, H7, I7.unpinned, T.keep _ _ _ st5 fun b hb o e => (I7.pin (b, o) (List.mem_append_right _ (List.mem_append_right _ (mem_pinsAt hb e)))).1, fun b hb => ?_, w7⟩
      obtain ⟨o, e, d⟩ := T.obj _ _ st5 b hb
      exact (I7.pin (b, o) (List.mem_append_right _ (List.mem_append_right _ (mem_pinsAt hb e)))).2.1
    cases f with
    | next => obtain ⟨σ7, H7, I7, n7⟩ := q7; exact again I7 n7
    | cont => obtain ⟨σ7, H7, I7, n7⟩ := q7; exact again I7 n7
    | brk => obtain ⟨σ7, H7, I7, q7⟩ := q7; exact ⟨σ7, H7, I7.unpinned, q7⟩
    | ret v => obtain ⟨x7, σ7, H7, I7, r7, q7⟩ := q7; exact ⟨x7, σ7, H7, I7.unpinned, r7, q7⟩
end
theorem for_list {K : PySem.W.Frag} {a : Addr} {xs : List V} {g : TG} {tb : TS} {D : Ends} {σ : St} {H : Hp} (Pv : Nat → St → Hp → Prop) (h0 : Pv 0 σ H) (hl : ∀ i σ H, i ≤ xs.length → Pv i σ H → SqL K H a xs)
    (hs : ∀ i x σ H, xs[i]? = some x → Pv i σ H → g x σ H fun σ2 H2 => tb { D with nx := Pv (i + 1), ct := Pv (i + 1), bk := D.nx } σ2 H2) (hd : ∀ σ H, Pv xs.length σ H → D.nx σ H) :
    ∃ W : Nat → Nat → St → Hp → Prop, (∃ m, W 0 m σ H) ∧ ∀ i m σ H, W i m σ H →
      ((Itl K a).stop i H ∧ D.nx σ H) ∨ ((Itl K a).go i H ∧ ∃ N : St → Hp → Prop, (∀ σ' H', N σ' H' → ∃ m', m' < m ∧ W (i + 1) m' σ' H') ∧ ∀ x H', (Itl K a).yld i H x H' → g x σ H' fun σ2 H2 => tb { D with nx := N, ct := N, bk := D.nx } σ2 H2) := by
  refine ⟨fun i m σ H => m = xs.length - i ∧ i ≤ xs.length ∧ Pv i σ H, ⟨xs.length, by simp, Nat.zero_le _, h0⟩, ?_⟩
  rintro i m σ H ⟨rfl, hi, p⟩
  have q := hl i σ H hi p
  by_cases hlt : i < xs.length
  · refine .inr ⟨⟨xs, xs[i], q, by simp [hlt]⟩, Pv (i + 1), fun σ' H' p' => ⟨xs.length - (i + 1), by omega, rfl, hlt, p'⟩, fun x H' y => ?_⟩
    obtain ⟨e, y⟩ := y
    subst e
    exact hs i x σ _ (y xs q) p
  · have e : i = xs.length := by omega
    subst e
    exact .inl ⟨⟨xs, q, Nat.le_refl _⟩, hd σ H p⟩
theorem for_range {lo : Int} {n : Nat} {g : TG} {tb : TS} {D : Ends} {σ : St} {H : Hp} (Pv : Nat → St → Hp → Prop) (h0 : Pv 0 σ H)
    (hs : ∀ i σ H, i < n → Pv i σ H → g (.int (lo + i)) σ H fun σ2 H2 => tb { D with nx := Pv (i + 1), ct := Pv (i + 1), bk := D.nx } σ2 H2) (hd : ∀ σ H, Pv n σ H → D.nx σ H) :
    ∃ W : Nat → Nat → St → Hp → Prop, (∃ m, W 0 m σ H) ∧ ∀ i m σ H, W i m σ H →
      ((Itr lo n).stop i H ∧ D.nx σ H) ∨ ((Itr lo n).go i H ∧ ∃ N : St → Hp → Prop, (∀ σ' H', N σ' H' → ∃ m', m' < m ∧ W (i + 1) m' σ' H') ∧ ∀ x H', (Itr lo n).yld i H x H' → g x σ H' fun σ2 H2 => tb { D with nx := N, ct := N, bk := D.nx } σ2 H2) := by
  refine ⟨fun i m σ H => m = n - i ∧ i ≤ n ∧ Pv i σ H, ⟨n, by simp, Nat.zero_le _, h0⟩, ?_⟩
  rintro i m σ H ⟨rfl, hi, p⟩
  by_cases hlt : i < n
  · refine .inr ⟨hlt, Pv (i + 1), fun σ' H' p' => ⟨n - (i + 1), by omega, rfl, hlt, p'⟩, fun x H' y => ?_⟩
    obtain ⟨e, y⟩ := y
    subst e y
    exact hs i σ _ hlt p
  · have e : i = n := by omega
    subst e
    exact .inl ⟨Nat.le_refl _, hd σ H p⟩
end L2
namespace L2
open PySem PySem.Spec PyProof.Rows
abbrev R2 := V → V → Hp → VK → Prop
def OpR (X : Cx) (f : Value → Value → Sem Value) (r : R2) : Prop :=
  ∀ (pins : List (Addr × Obj)) (s : Shared) (σ : St) (H : Hp) (x y : V) (v u : Value) (Q : VK), Inv X pins σ H s → RelV x v → RelV y u → r x y H Q →
    wpAny (model X.prog X.w) X.A (f v u) (EP X pins σ Q) X.xe s
def UnR (X : Cx) (f : Value → Sem Value) (r : V → Hp → VK → Prop) : Prop :=
  ∀ (pins : List (Addr × Obj)) (s : Shared) (σ : St) (H : Hp) (x : V) (v : Value) (Q : VK), Inv X pins σ H s → RelV x v → r x H Q →
    wpAny (model X.prog X.w) X.A (f v) (EP X pins σ Q) X.xe s
def CallR (X : Cx) (f : Value) (r : List V → Hp → VK → Prop) : Prop :=
  ∀ (pins : List (Addr × Obj)) (s : Shared) (σ : St) (H : Hp) (xs : List V) (us : List Value) (Q : VK), Inv X pins σ H s → Vals xs us → r xs H Q →
    wpAny (model X.prog X.w) X.A (call f us) (EP X pins σ Q) X.xe s
def tOp (r : R2) (ta tb : TE) : TE := fun σ H Q => ta σ H fun x H1 => tb σ H1 fun y H2 => r x y H2 Q
def tUn (r : V → Hp → VK → Prop) (ta : TE) : TE := fun σ H Q => ta σ H fun x H1 => r x H1 Q
def rI (C : Int → Int → Prop) (g : Int → Int → V) : R2 := fun x y H Q => ∃ i j, x = .int i ∧ y = .int j ∧ C i j ∧ Q (g i j) H
def rI0 (g : Int → Int → V) : R2 := fun x y H Q => ∃ i j, x = .int i ∧ y = .int j ∧ Q (g i j) H
def rU (g : Int → V) : V → Hp → VK → Prop := fun x H Q => ∃ i, x = .int i ∧ Q (g i) H
section
variable {X : Cx} {a b c : Expr} {ta tb tc : TE} {pos : Pos}
theorem binT (ha : PE X a ta) (hb : PE X b tb) {pins : List (Addr × Obj)} {s : Shared} {σ : St} {H : Hp} {R : V → V → Hp → Prop} (I : Inv X pins σ H s)
    (h : ta σ H fun x H1 => tb σ H1 fun y H2 => R x y H2) {Q : Value → Shared → Prop} {f : Value → Value → Sem Value}
    (hf : ∀ v u s2 x y H2, Inv X pins σ H2 s2 → RelV x v → RelV y u → R x y H2 → wpAny (model X.prog X.w) X.A (f v u) Q X.xe s2) :
    wpAny (model X.prog X.w) X.A (eval a X.env) (fun v s₁ => wpAny (model X.prog X.w) X.A (eval b X.env) (fun u s₂ => wpAny (model X.prog X.w) X.A (f v u) Q X.xe s₂) X.xe s₁) X.xe s := by
  refine thn (ha pins s σ H _ I h) fun v s1 ⟨x, H1, I1, r1, q1⟩ => ?_
  refine thn (hb pins s1 σ H1 _ I1 q1) fun u s2 ⟨y, H2, I2, r2, q2⟩ => ?_
  exact hf v u s2 x y H2 I2 r1 r2 q2
theorem pe_op {op : Operator} {r : R2} (ho : OpR X (binaryOp op) r) (ha : PE X a ta) (hb : PE X b tb) : PE X (.BinOp a op b pos) (tOp r ta tb) := by
  intro pins s σ H Q I h
  exact wpAny_BinOp (binT ha hb I h fun v u s2 x y H2 I2 rx ry q => ho pins s2 σ H2 x y v u Q I2 rx ry q)
theorem pe_un {op : UnaryOp} {r : V → Hp → VK → Prop} (ho : UnR X (unaryOp op) r) (ha : PE X a ta) : PE X (.UnaryOp op a pos) (tUn r ta) := by
  intro pins s σ H Q I h
  exact UnaryOp_ (thn (ha pins s σ H _ I h) fun v s1 ⟨x, H1, I1, r1, q1⟩ => ho pins s1 σ H1 x v Q I1 r1 q1)
theorem opI {f : Value → Value → Sem Value} {C : Int → Int → Prop} {g : Int → Int → Int}
    (rule : ∀ (i j : Int) (t u : Tok) (s : Shared) (Q : Value → Shared → Prop) (E : Value → Shared → Prop), C i j → Q (.int (g i j) s.toks) { s with toks := s.toks + 1 } → wpAny (model X.prog X.w) X.A (f (.int i t) (.int j u)) Q E s) :
    OpR X f (rI C fun i j => .int (g i j)) := by
  intro pins s σ H x y v u Q I rx ry h
  obtain ⟨i, j, rfl, rfl, hc, q⟩ := h
  obtain ⟨t, rfl⟩ := rx
  obtain ⟨t', rfl⟩ := ry
  exact rule i j t t' s _ _ hc ⟨.int (g i j), H, I.tok _, ⟨_, rfl⟩, q⟩
theorem opI0 {f : Value → Value → Sem Value} {g : Int → Int → Int}
    (rule : ∀ (i j : Int) (t u : Tok) (s : Shared) (Q : Value → Shared → Prop) (E : Value → Shared → Prop), Q (.int (g i j) s.toks) { s with toks := s.toks + 1 } → wpAny (model X.prog X.w) X.A (f (.int i t) (.int j u)) Q E s) :
    OpR X f (rI0 fun i j => .int (g i j)) := by
  intro pins s σ H x y v u Q I rx ry h
  obtain ⟨i, j, rfl, rfl, q⟩ := h
  obtain ⟨t, rfl⟩ := rx
  obtain ⟨t', rfl⟩ := ry
  exact rule i j t t' s _ _ ⟨.int (g i j), H, I.tok _, ⟨_, rfl⟩, q⟩
theorem opB0 {f : Value → Value → Sem Value} {g : Int → Int → Bool}
    (rule : ∀ (i j : Int) (t u : Tok) (s : Shared) (Q : Value → Shared → Prop) (E : Value → Shared → Prop), Q (.bool (g i j)) s → wpAny (model X.prog X.w) X.A (f (.int i t) (.int j u)) Q E s) :
    OpR X f (rI0 fun i j => .bl (g i j)) := by
  intro pins s σ H x y v u Q I rx ry h
  obtain ⟨i, j, rfl, rfl, q⟩ := h
  obtain ⟨t, rfl⟩ := rx
  obtain ⟨t', rfl⟩ := ry
  exact rule i j t t' s _ _ ⟨.bl (g i j), H, I, rfl, q⟩
def CPow (i j : Int) : Prop := 0 ≤ j ∧ j ≤ 1000000 ∧ i.natAbs < 2 ^ 64
def CMul (i j : Int) : Prop := (-(2 ^ 64) < i ∧ i < 2 ^ 64) ∨ (-(2 ^ 64) < j ∧ j < 2 ^ 64)
theorem CMul.ok {i j : Int} (h : CMul i j) : IntMulOk i j := by
  rcases h with ⟨h1, h2⟩ | ⟨h1, h2⟩
  · exact .of_left (intBits_le_64 h1 h2)
  · exact .of_right (intBits_le_64 h1 h2)
theorem op_add : OpR X (binaryOp .Add) (rI0 fun i j => .int (i + j)) := opI0 fun _ _ _ _ _ _ _ q => add_int q
theorem op_sub : OpR X (binaryOp .Sub) (rI0 fun i j => .int (i - j)) := opI0 fun _ _ _ _ _ _ _ q => sub_int q
theorem op_mul : OpR X (binaryOp .Mult) (rI CMul fun i j => .int (i * j)) := opI fun _ _ _ _ _ _ _ hc q => mul_int q hc.ok
theorem op_mod : OpR X (binaryOp .Mod) (rI (fun _ j => 0 < j) fun i j => .int (i % j)) := opI fun i j _ _ _ _ _ hc q => by
  have h1 : (0 : Int) < j := hc
  exact mod_int' (by omega) (by rw [Int.fmod_eq_emod_of_nonneg i (by omega)]; exact q)
theorem op_pow : OpR X (binaryOp .Pow) (rI CPow fun i j => .int (i ^ j.toNat)) := opI fun _ _ _ _ _ _ _ hc q => pow_int_small hc.1 hc.2.1 hc.2.2 q
theorem unI {f : Value → Sem Value} {g : Int → Int}
    (rule : ∀ (i : Int) (t : Tok) (s : Shared) (Q : Value → Shared → Prop) (E : Value → Shared → Prop), Q (.int (g i) s.toks) { s with toks := s.toks + 1 } → wpAny (model X.prog X.w) X.A (f (.int i t)) Q E s) :
    UnR X f (rU fun i => .int (g i)) := by
  intro pins s σ H x v Q I rx h
  obtain ⟨i, rfl, q⟩ := h
  obtain ⟨t, rfl⟩ := rx
  exact rule i t s _ _ ⟨.int (g i), H, I.tok _, ⟨_, rfl⟩, q⟩
theorem un_neg : UnR X (unaryOp .USub) (rU fun i => .int (-i)) := unI fun _ _ _ _ _ q => neg_int q
end
def scal : V → V → Bool
  | .non, .non => true | .non, .int _ => true | .int _, .non => true | .non, .bl _ => true | .bl _, .non => true | .non, .str _ => true | .str _, .non => true
  | .int _, .int _ => true | .bl _, .bl _ => true | .str _, .str _ => true | .byt _, .byt _ => true
  | .int _, .str _ => true | .str _, .int _ => true | .bl _, .str _ => true | .str _, .bl _ => true
  | _, _ => false
def rEq : R2 := fun x y H Q => scal x y = true ∧ Q (.bl (decide (x = y))) H
def rNe : R2 := fun x y H Q => scal x y = true ∧ Q (.bl (!decide (x = y))) H
theorem dec_int {i j : Int} : decide (V.int i = V.int j) = (i == j) := by
  rw [Bool.eq_iff_iff]
  simp
theorem dec_bl {i j : Bool} : decide (V.bl i = V.bl j) = (i == j) := by
  rw [Bool.eq_iff_iff]
  simp
theorem dec_str {i j : Str} : decide (V.str i = V.str j) = (i == j) := by
  rw [Bool.eq_iff_iff]
  simp
theorem dec_byt {i j : Array UInt8} : decide (V.byt i = V.byt j) = (i.toList == j.toList) := by
  rw [Bool.eq_iff_iff]
  cases i
  cases j
  simp
section
variable {X : Cx} {a b c : Expr} {ta tb tc : TE} {pos : Pos}
theorem fin_bl {pins : List (Addr × Obj)} {σ : St} {H : Hp} {s : Shared} {Q : VK} {k k' : Bool} (I : Inv X pins σ H s) (q : Q (.bl k) H) (e : k = k') : EP X pins σ Q (.bool k') s := by
  subst e
  exact ⟨.bl k, H, I, rfl, q⟩
theorem op_eq : OpR X (compareOp .Eq) rEq := by
  intro pins s σ H x y v u Q I rx ry h
  obtain ⟨hs, q⟩ := h
  cases x with
  | non =>
    cases rx
    cases y with
    | non => cases ry; exact PySem.EqNone.eq_none_none (fin_bl I q (by simp))
    | bl j => cases ry; exact PySem.EqNone.eq_none_bool (fin_bl I q (by simp))
    | int j => obtain ⟨t', rfl⟩ := ry; exact PySem.EqNone.eq_none_int (fin_bl I q (by simp))
    | str j => obtain ⟨t', rfl⟩ := ry; exact PySem.EqNone.eq_none_str (fin_bl I q (by simp))
    | _ => exact absurd (show false = true from hs) Bool.false_ne_true
  | bl i =>
    cases rx
    cases y with
    | non => cases ry; exact PySem.EqNone.eq_bool_none (fin_bl I q (by simp))
    | bl j => cases ry; exact eq_bool (fin_bl I q dec_bl)
    | str j => obtain ⟨t', rfl⟩ := ry; exact PySem.EqMixed.eq_bool_str (fin_bl I q (by simp))
    | _ => exact absurd (show false = true from hs) Bool.false_ne_true
  | int i =>
    obtain ⟨t, rfl⟩ := rx
    cases y with
    | non => cases ry; exact PySem.EqNone.eq_int_none (fin_bl I q (by simp))
    | int j => obtain ⟨t', rfl⟩ := ry; exact eq_int (fin_bl I q dec_int)
    | str j => obtain ⟨t', rfl⟩ := ry; exact PySem.EqMixed.eq_int_str (fin_bl I q (by simp))
    | _ => exact absurd (show false = true from hs) Bool.false_ne_true
  | str i =>
    obtain ⟨t, rfl⟩ := rx
    cases y with
    | non => cases ry; exact PySem.EqNone.eq_str_none (fin_bl I q (by simp))
    | bl j => cases ry; exact PySem.EqMixed.eq_str_bool (fin_bl I q (by simp))
    | int j => obtain ⟨t', rfl⟩ := ry; exact PySem.EqMixed.eq_str_int (fin_bl I q (by simp))
    | str j => obtain ⟨t', rfl⟩ := ry; exact eq_str (fin_bl I q dec_str)
    | _ => exact absurd (show false = true from hs) Bool.false_ne_true
  | byt i =>
    obtain ⟨t, rfl⟩ := rx
    cases y with
    | byt j => obtain ⟨t', rfl⟩ := ry; exact PySem.W.eq_bytes (fin_bl I q dec_byt)
    | _ => exact absurd (show false = true from hs) Bool.false_ne_true
  | _ => cases y <;> exact absurd (show false = true from hs) Bool.false_ne_true
theorem op_ne : OpR X (compareOp .NotEq) rNe := by
  intro pins s σ H x y v u Q I rx ry h
  obtain ⟨hs, q⟩ := h
  cases x with
  | non =>
    cases rx
    cases y with
    | non => cases ry; exact PySem.EqNone.ne_none_none (fin_bl I q (by simp))
    | bl j => cases ry; exact PySem.EqNone.ne_none_bool (fin_bl I q (by simp))
    | int j => obtain ⟨t', rfl⟩ := ry; exact PySem.EqNone.ne_none_int (fin_bl I q (by simp))
    | str j => obtain ⟨t', rfl⟩ := ry; exact PySem.EqNone.ne_none_str (fin_bl I q (by simp))
    | _ => exact absurd (show false = true from hs) Bool.false_ne_true
  | bl i =>
    cases rx
    cases y with
    | non => cases ry; exact PySem.EqNone.ne_bool_none (fin_bl I q (by simp))
    | bl j => cases ry; exact ne_bool (fin_bl I q (congrArg not dec_bl))
    | str j => obtain ⟨t', rfl⟩ := ry; exact PySem.EqMixed.ne_bool_str (fin_bl I q (by simp))
    | _ => exact absurd (show false = true from hs) Bool.false_ne_true
  | int i =>
    obtain ⟨t, rfl⟩ := rx
    cases y with
    | non => cases ry; exact PySem.EqNone.ne_int_none (fin_bl I q (by simp))
    | int j => obtain ⟨t', rfl⟩ := ry; exact ne_int (fin_bl I q (congrArg not dec_int))
    | str j => obtain ⟨t', rfl⟩ := ry; exact PySem.EqMixed.ne_int_str (fin_bl I q (by simp))
    | _ => exact absurd (show false = true from hs) Bool.false_ne_true
  | str i =>
    obtain ⟨t, rfl⟩ := rx
    cases y with
    | non => cases ry; exact PySem.EqNone.ne_str_none (fin_bl I q (by simp))
    | bl j => cases ry; exact PySem.EqMixed.ne_str_bool (fin_bl I q (by simp))
    | int j => obtain ⟨t', rfl⟩ := ry; exact PySem.EqMixed.ne_str_int (fin_bl I q (by simp))
    | str j => obtain ⟨t', rfl⟩ := ry; exact ne_str (fin_bl I q (congrArg not dec_str))
    | _ => exact absurd (show false = true from hs) Bool.false_ne_true
  | byt i =>
    obtain ⟨t, rfl⟩ := rx
    cases y with
    | byt j => obtain ⟨t', rfl⟩ := ry; exact PySem.W.ne_bytes (fin_bl I q (congrArg not dec_byt))
    | _ => exact absurd (show false = true from hs) Bool.false_ne_true
  | _ => cases y <;> exact absurd (show false = true from hs) Bool.false_ne_true
theorem op_lt : OpR X (compareOp .Lt) (rI0 fun i j => .bl (decide (i < j))) := opB0 fun _ _ _ _ _ _ _ q => lt_int q
theorem op_le : OpR X (compareOp .LtE) (rI0 fun i j => .bl (decide (i ≤ j))) := opB0 fun _ _ _ _ _ _ _ q => le_int q
theorem op_gt : OpR X (compareOp .Gt) (rI0 fun i j => .bl (decide (j < i))) := opB0 fun _ _ _ _ _ _ _ q => gt_int q
theorem op_ge : OpR X (compareOp .GtE) (rI0 fun i j => .bl (decide (j ≤ i))) := opB0 fun _ _ _ _ _ _ _ q => ge_int q
theorem nomark (b : Expr) {op : CmpOp} (h : op ≠ .In := by decide) (h2 : op ≠ .NotIn := by decide) : behindInMarks op b = false := by
  have e1 : (op == CmpOp.In) = false := by cases op <;> first | rfl | exact absurd rfl h
  have e2 : (op == CmpOp.NotIn) = false := by cases op <;> first | rfl | exact absurd rfl h2
  cases b <;> simp [behindInMarks, e1, e2]
theorem pe_cmpR {op : CmpOp} {r : R2} (ho : OpR X (compareOp op) r) (ha : PE X a ta) (hb : PE X b tb) (hm : behindInMarks op b = false) : PE X (.Compare a [op] [b] pos) (tOp r ta tb) := by
  intro pins s σ H Q I h
  exact wpAny_Compare1 (binT ha hb I h fun v u s2 x y H2 I2 rx ry q => ho pins s2 σ H2 x y v u Q I2 rx ry q) hm
def tTest (t : TE) : TT := fun σ H Q => t σ H fun x H' => ∃ k, x = .bl k ∧ Q k H'
theorem pt_cmpR {op : CmpOp} {r : R2} (ho : OpR X (compareOp op) r) (ha : PE X a ta) (hb : PE X b tb) (hm : behindInMarks op b = false) : PT X (.Compare a [op] [b] pos) (tTest (tOp r ta tb)) := by
  intro pins s σ H Q I h
  refine wpAny_isTrue_Compare1 (thn (ha pins s σ H _ I h) fun v s1 ⟨x, H1, I1, r1, q1⟩ => thn (hb pins s1 σ H1 _ I1 q1) fun u s2 ⟨y, H2, I2, r2, q2⟩ =>
    thn (ho pins s2 σ H2 x y v u _ I2 r1 r2 q2) fun c s3 ⟨z, H3, I3, r3, k, e, q3⟩ => ?_) hm
  subst e
  cases r3
  exact wpAny_truthy_bool ⟨H3, I3, q3⟩
theorem line63 : (sizeLine : Nat) < 2 ^ 63 := by rw [sizeLine_eq]; decide
theorem vals1 {x : V} {us : List Value} (r : Vals [x] us) : ∃ u, us = [u] ∧ RelV x u := by
  cases r with
  | cons r1 r2 => cases r2; exact ⟨_, rfl, r1⟩
theorem vals2 {x y : V} {us : List Value} (r : Vals [x, y] us) : ∃ u w', us = [u, w'] ∧ RelV x u ∧ RelV y w' := by
  cases r with
  | cons r1 r2 =>
    cases r2 with
    | cons r3 r4 => cases r4; exact ⟨_, _, rfl, r1, r3⟩
theorem call_max2 (hc : X.calm = true) : CallR X (.builtin "max") (fun xs H Q => ∃ i j, xs = [.int i, .int j] ∧ Q (.int (if j > i then j else i)) H) := by
  intro pins s σ H xs us Q I r h
  obtain ⟨i, j, rfl, q⟩ := h
  obtain ⟨u, w', rfl, ⟨t, rfl⟩, ⟨t', rfl⟩⟩ := vals2 r
  refine max_two_ints (I.ok.hd hc) fun h' tk k => ⟨_, H, I.kept k, ?_, q⟩
  by_cases hj : j > i
  · rw [if_pos hj, if_pos hj]; exact ⟨_, rfl⟩
  · rw [if_neg hj, if_neg hj]; exact ⟨_, rfl⟩
theorem call_min2 (hc : X.calm = true) : CallR X (.builtin "min") (fun xs H Q => ∃ i j, xs = [.int i, .int j] ∧ Q (.int (if j < i then j else i)) H) := by
  intro pins s σ H xs us Q I r h
  obtain ⟨i, j, rfl, q⟩ := h
  obtain ⟨u, w', rfl, ⟨t, rfl⟩, ⟨t', rfl⟩⟩ := vals2 r
  refine min_two_ints (I.ok.hd hc) fun h' tk k => ⟨_, H, I.kept k, ?_, q⟩
  by_cases hj : j < i
  · rw [if_pos hj, if_pos hj]; exact ⟨_, rfl⟩
  · rw [if_neg hj, if_neg hj]; exact ⟨_, rfl⟩
theorem call_int1 : CallR X (.type "int") (fun xs H Q => (∃ i, xs = [.int i] ∧ Q (.int i) H) ∨ ∃ k, xs = [.bl k] ∧ Q (.int (if k then 1 else 0)) H) := by
  intro pins s σ H xs us Q I r h
  rcases h with ⟨i, rfl, q⟩ | ⟨k, rfl, q⟩
  · obtain ⟨u, rfl, t, rfl⟩ := vals1 r
    exact call_int_int ⟨.int i, H, I, ⟨_, rfl⟩, q⟩
  · obtain ⟨u, rfl, r1⟩ := vals1 r
    cases r1
    exact call_int_bool ⟨.int (if k then 1 else 0), H, I.tok _, ⟨_, rfl⟩, q⟩
end
end L2
namespace L2
open PySem PySem.Spec PyProof.Rows
structure ObjM (h : Heap) (x dx C : Addr) (mA : Str → Option Value) : Prop where
  obj : h.get? x = some (PySem.W.instObj C dx)
  ns : h.Ns1 dx mA
  ne : dx ≠ x
theorem lookIn_ns {h : Heap} {dx : Addr} {mA : Str → Option Value} (n : h.Ns1 dx mA) : ∃ od, h.get? dx = some od ∧ ∀ name, PySem.W.lookIn name od = some (mA name) := by
  obtain ⟨o, es, ep, ho, hd, hk, _, hm⟩ := n
  refine ⟨o, ho, fun name => ?_⟩
  have e := hm name
  unfold nsFind findBy at e
  rw [← Array.find?_toList] at e
  unfold PySem.W.lookIn
  rw [hd]
  dsimp only
  split
  · rename_i y q
    rw [q] at e
    exact congrArg some e
  · rename_i q
    rw [q] at e
    have a : es.toList.any (·.refKey) = false := by
      rw [List.any_eq_false]
      intro y hy
      obtain ⟨z, t, hkey⟩ := hk y (Array.mem_toList_iff.mp hy)
      simp [DictEntry.refKey, hkey]
    have a' : ¬ es.toList.any (·.refKey) = true := by rw [a]; exact Bool.false_ne_true
    rw [if_neg a']
    exact congrArg some e
theorem ObjM.look {h : Heap} {x dx C : Addr} {mA : Str → Option Value} (I : ObjM h x dx C mA) : ∃ od, PySem.W.InstAt h x (PySem.W.instObj C dx) C (some od) ∧ ∀ name, PySem.W.lookIn name od = some (mA name) :=
  let ⟨od, ho, hl⟩ := lookIn_ns I.ns
  ⟨od, ⟨I.obj, rfl, rfl, ho⟩, hl⟩
section
variable {prog : Program} {w : World} {A : Around} {E : Value → Shared → Prop} {s : Shared} {K : PySem.W.Frag} {x dx C f : Addr} {mA : Str → Option Value} {name : Str} {v : Value}
theorem set_map {ns : List Str} {Q : Unit → Shared → Prop} (X : K.In s.heap) (I : ObjM s.heap x dx C mA)
    (hs : PySem.W.findIn K (.ref C) "__setattr__" = some (some (.builtin "object.__setattr__"))) (hp : PySem.W.plainOver K C = true) (ht : PySem.W.takerIn K C name = some none) (hh : PySem.W.hasDictIn K C = true)
    (hw : PySem.Within mA ns) (hsz : ns.length ≤ sizeLine)
    (h : ∀ h', ObjM h' x dx C (fun y => if y = name then some v else mA y) → Heap.SameBut dx s.heap h' → Q () { s with heap := h', toks := s.toks + 2 }) :
    wpAny (model prog w) A (setAttr (.ref x) name v) Q E s := by
  obtain ⟨od, J, hl⟩ := I.look
  refine PySem.W.set_plain X J hs (PySem.W.osa_open (s := { s with toks := s.toks + 1 }) (r := none) X J hp ht fun b => ?_)
  obtain ⟨cd, hc, hd'⟩ := PySem.W.any_some hh
  have hx : s.heap.get? x = some ⟨.ref C, some dx, .plain, #[]⟩ := I.obj
  refine wpAny_bind (wpAny_pure (wpAny_bind (wpAny_bind (wpAny_loadPart hx (wpAny_bind (PySem.W.Looks.here (s := { s with toks := s.toks + 1 }) (PySem.W.looks_clsIn X hc) ?_))))))
  rw [hd']
  refine wpAny_pure (a := some dx) (wpAny_bind (wpAny_pure (wpAny_bind ?_)))
  refine wpAny_nsSet1 (s := { s with toks := s.toks + 1 }) I.ns fun h' hn2 hs2 => ?_
  obtain ⟨oD, esD, epD, hoD, hdD, hcD⟩ := hn2.count (PySem.Within.cons name v hw)
  refine wpAny_bind (wpAny_lookBehind hoD (by rw [hdD]; exact pastItsLine_dict (Nat.le_trans hcD (by rw [List.length_cons]; omega))) ?_)
  exact wpAny_pure (h _ ⟨(hs2.2 _ (Ne.symm I.ne)).trans I.obj, hn2, I.ne⟩ hs2)
theorem make_map {R : Result → Shared → Prop} {vs : List Value} {kw : List (Str × Value)} (X : K.In s.heap) (hm : PySem.W.makesIn K C = true)
    (hi : PySem.W.findIn K (.ref C) "__init__" = some (some (.ref f))) (hf : PySem.W.typeIn K (.ref f) = some (.type "function"))
    (h : codeAny (model prog w) (A.under (.builtin "type.__call__" ⟨.ref C :: vs, kw⟩)) (.call (.ref f) ⟨.ref (s.heap.objs.size + 1) :: vs, kw⟩) (PySem.W.InitBack (s.heap.objs.size + 1) R)
      { s with heap := (s.heap.push PySem.W.emptyDict).push (PySem.W.instObj C s.heap.objs.size) }) :
    codeAny (model prog w) A (.call (.ref C) ⟨vs, kw⟩) R s := by
  obtain ⟨hh, g, d, t, os⟩ := s
  exact PySem.W.make_core (PySem.W.makes_of X hm) (PySem.W.looks_findIn X hi) (fun self => PySem.W.bind_fn X self hf) (.inl rfl) h
end
def putF (f : Str) (v : V) : List (Str × V) → List (Str × V)
  | [] => [(f, v)]
  | (g, x) :: r => if g = f then (g, v) :: r else (g, x) :: putF f v r
theorem lookup_putF (f g : Str) (v : V) : ∀ fs : List (Str × V), (putF f v fs).lookup g = if g = f then some v else fs.lookup g
  | [] => by
    show List.lookup g [(f, v)] = _
    by_cases h : g = f
    · have hb : (g == f) = true := beq_iff_eq.mpr h
      simp only [List.lookup, hb, if_pos h]
    · have hb : (g == f) = false := beq_eq_false_iff_ne.mpr h
      simp only [List.lookup, hb, if_neg h]
  | (k, x) :: r => by
    have ih := lookup_putF f g v r
    rw [show putF f v ((k, x) :: r) = (if k = f then (k, v) :: r else (k, x) :: putF f v r) from rfl]
    by_cases hk : k = f
    · rw [if_pos hk]
      by_cases h : g = k
      · have hb : (g == k) = true := beq_iff_eq.mpr h
        simp only [List.lookup, hb, if_pos (h.trans hk)]
      · have hb : (g == k) = false := beq_eq_false_iff_ne.mpr h
        simp only [List.lookup, hb, if_neg (fun e : g = f => h (e.trans hk.symm))]
    · rw [if_neg hk]
      by_cases h : g = k
      · have hb : (g == k) = true := beq_iff_eq.mpr h
        simp only [List.lookup, hb, if_neg (fun e : g = f => hk (h.symm.trans e))]
      · have hb : (g == k) = false := beq_eq_false_iff_ne.mpr h
        simp only [List.lookup, hb]
        exact ih
theorem keys_putF (f : Str) (v : V) : ∀ fs : List (Str × V), f ∈ (putF f v fs).map (·.1) ∧ ∀ g, g ∈ fs.map (·.1) → g ∈ (putF f v fs).map (·.1)
  | [] => ⟨by simp [putF], fun g h => by simp at h⟩
  | (k, x) :: r => by
    obtain ⟨i1, i2⟩ := keys_putF f v r
    rw [show putF f v ((k, x) :: r) = (if k = f then (k, v) :: r else (k, x) :: putF f v r) from rfl]
    by_cases hk : k = f
    · rw [if_pos hk]
      subst hk
      exact ⟨by simp, fun g h => by simpa using h⟩
    · rw [if_neg hk]
      refine ⟨?_, fun g h => ?_⟩
      · rw [List.map_cons]
        exact List.mem_cons_of_mem _ i1
      · rw [List.map_cons] at h ⊢
        rcases List.mem_cons.mp h with e | e
        · exact List.mem_cons.mpr (.inl e)
        · exact List.mem_cons_of_mem _ (i2 g e)
theorem length_putF (f : Str) (v : V) : ∀ fs : List (Str × V), (putF f v fs).length ≤ fs.length + 1
  | [] => by simp [putF]
  | (k, x) :: r => by
    have ih := length_putF f v r
    rw [show putF f v ((k, x) :: r) = (if k = f then (k, v) :: r else (k, x) :: putF f v r) from rfl]
    by_cases hk : k = f
    · rw [if_pos hk, List.length_cons, List.length_cons]; omega
    · rw [if_neg hk, List.length_cons, List.length_cons]; omega
theorem RelO.some_of {v : V} {o : Option Value} (r : RelO (some v) o) : ∃ u, o = some u ∧ RelV v u := by
  cases o with
  | none => exact (show False from r).elim
  | some u => exact ⟨u, rfl, r⟩
section
variable {P : Program} {w : World} {H H' : Hp} {h h' : Heap} {a C dx : Addr} {fs fs' : List (Str × V)}
theorem ins_get (hok : HOk P w H h) (e : H a = some (.ins C dx fs)) : ∃ mA, ObjM h a dx C mA ∧ (∀ f, RelO (fs.lookup f) (mA f)) ∧ PySem.Within mA (fs.map (·.1)) ∧ fs.length ≤ 1000 ∧ H dx = some (.own a) := by
  obtain ⟨d, z, ne, ob, mA, n, r, q⟩ := (show ObjOk P w H h a (.ins C dx fs) from hok a _ e)
  exact ⟨mA, ⟨ob, n, ne⟩, r, q, z, d⟩
end
structure Cls (K : PySem.W.Frag) (C : Addr) : Prop where
  pg : PySem.W.plainGet K C Str.empty = true
  hd : PySem.W.hasDictIn K C = true
  po : PySem.W.plainOver K C = true
  sa : PySem.W.findIn K (.ref C) "__setattr__" = some (some (.builtin "object.__setattr__"))
theorem Cls.get {K : PySem.W.Frag} {C : Addr} (c : Cls K C) (f : Str) : PySem.W.plainGet K C f = true := c.pg
def NoAttr (K : PySem.W.Frag) (C : Addr) (f : Str) : Prop := PySem.W.findIn K (.ref C) f = some none
theorem NoAttr.taker {K : PySem.W.Frag} {C : Addr} {f : Str} (n : NoAttr K C f) : PySem.W.takerIn K C f = some none := by
  unfold PySem.W.takerIn
  rw [show PySem.W.findIn K (.ref C) f = some none from n]
  rfl
structure Meth (K : PySem.W.Frag) (C : Addr) (m : Str) (f : Addr) : Prop where
  at_ : PySem.W.findIn K (.ref C) m = some (some (.ref f))
  fn : PySem.W.isFn K (.ref f) = true
  kp : PySem.W.keepIn K (.ref f) = true
section
variable {X : Cx} {pins : List (Addr × Obj)} {σ : St} {H : Hp} {s : Shared} {a C dx : Addr} {fs : List (Str × V)} {f : Str} {v : V} {A : Around} {E : Value → Shared → Prop}
theorem setattr_ok {y : V} {u : Value} {Q : Unit → Shared → Prop} (I : Inv X pins σ H s) (e : H a = some (.ins C dx fs)) (c : Cls X.K C) (n : NoAttr X.K C f) (hl : fs.length < 1000) (ry : RelV y u)
    (h : ∀ s', Inv X pins σ (upd H a (.ins C dx (putF f y fs))) s' → Q () s') : wpAny (model X.prog X.w) A (setAttr (.ref a) f u) Q E s := by
  obtain ⟨mA, O, r, wi, _, ho⟩ := ins_get I.hok e
  have hz : (fs.map (·.1)).length ≤ sizeLine := by rw [List.length_map, sizeLine_eq]; omega
  refine set_map I.kIn O c.sa c.po n.taker c.hd wi hz fun h' O' sb => h _ ?_
  have hd : ∃ o, h'.get? dx = some o := let ⟨o, _, _, e', _⟩ := O'.ns; ⟨o, e'⟩
  refine I.write (x := a) (e := dx) (by rw [e]; exact True.intro) (.inr ho) (fun b q hb z => (sb.2 b hb).trans z) hd ?_
  refine ⟨by rw [upd_ne O.ne]; exact ho, ?_, O.ne, O'.obj, _, O'.ns, fun g => ?_, fun g hg => ?_⟩
  · have := length_putF f y fs; omega
  · show RelO ((putF f y fs).lookup g) (if g = f then some u else mA g)
    rw [lookup_putF]
    by_cases q : g = f
    · rw [if_pos q, if_pos q]; exact ry
    · rw [if_neg q, if_neg q]; exact r g
  · by_cases q : g = f
    · rw [q]; exact (keys_putF f y fs).1
    · refine (keys_putF f y fs).2 g (wi g fun z => hg ?_)
      show (if g = f then some u else mA g) = none
      rw [if_neg q]; exact z
theorem Inv.made (I : Inv X pins σ H s) : Inv X pins σ (upd (upd H s.heap.objs.size (.own (s.heap.objs.size + 1))) (s.heap.objs.size + 1) (.ins C s.heap.objs.size []))
    { s with heap := (s.heap.push PySem.W.emptyDict).push (PySem.W.instObj C s.heap.objs.size) } := by
  have e1 : (s.heap.push PySem.W.emptyDict).get? s.heap.objs.size = some PySem.W.emptyDict := Heap.get?_push_size s.heap rfl
  have e2 : ((s.heap.push PySem.W.emptyDict).push (PySem.W.instObj C s.heap.objs.size)).get? (s.heap.objs.size + 1) = some (PySem.W.instObj C s.heap.objs.size) := by
    have := Heap.get?_push_size (s.heap.push PySem.W.emptyDict) (o := PySem.W.instObj C s.heap.objs.size) rfl
    rwa [Heap.size_push] at this
  have e3 : (s.heap.push PySem.W.emptyDict).Ns s.heap.objs.size (fun _ => none) := ⟨PySem.W.emptyDict, #[], _, e1, rfl, (fun e he => absurd he (by simp)), fun _ => rfl⟩
  have I1 := I.laid (a := s.heap.objs.size) (o := .own (s.heap.objs.size + 1)) (h' := s.heap.push PySem.W.emptyDict) (t' := s.toks) (fun b u q => Heap.get?_push_of_some _ q) (Nat.le_refl _) ⟨_, e1⟩
  refine I1.laid (a := s.heap.objs.size + 1) (o := .ins C s.heap.objs.size []) (t' := s.toks) (fun b u q => Heap.get?_push_of_some _ q) (Nat.le_of_eq (Heap.size_push _ _)) ?_
  have ne : s.heap.objs.size ≠ s.heap.objs.size + 1 := Nat.ne_of_lt (Nat.lt_succ_self _)
  refine ⟨by rw [upd_ne ne, upd_same], Nat.zero_le _, ne, e2, fun _ => none, (Heap.Ns1.of_empty e3).at fun o q => Heap.get?_push_of_some _ q, fun _ => True.intro, fun y hy => absurd rfl hy⟩
end
def sFld (K : PySem.W.Frag) (ta tv : TE) (f : Str) : TS := fun D σ H => tv σ H fun y H1 => ta σ H1 fun x H2 => ∃ a C dx fs, x = .ref a ∧ H2 a = some (.ins C dx fs) ∧ Cls K C ∧ NoAttr K C f ∧ fs.length < 1000 ∧
  D.nx σ (upd H2 a (.ins C dx (putF f y fs)))
section
variable {X : Cx} {o e value : Expr} {f : Str} {pos pos' tpos : Pos} {ta tv : TE}
theorem ps_fld (ha : PE X o ta) (hv : PE X value tv) (hs : swapsWith value (some (.Attribute o f pos')) pos.line X.env = pure false) : PS X (.Assign [.Attribute o f pos'] value pos) (sFld X.K ta tv f) := by
  intro pins s σ H D I h
  refine plainObj_wpAny_Assign_Attribute (thn (hv pins s σ H _ I h) fun u s1 ⟨y, H1, I1, ry, q⟩ => thn (ha pins s1 σ H1 _ I1 q) fun ov s2 ⟨x, H2, I2, rx, a, C, dx, fs, ex, ea, c, n, l, q2⟩ => ?_) hs
  subst ex
  obtain rfl : ov = Value.ref a := rx
  exact setattr_ok I2 ea c n l ry fun s3 I3 => ⟨σ, _, I3, q2⟩
end
section
variable {X : Cx} {pins : List (Addr × Obj)} {σ : St} {H : Hp} {s : Shared} {A : Around} {E : Value → Shared → Prop} {Q : Value → Shared → Prop} {c : Value} {b : Bool}
inductive TyOf (K : PySem.W.Frag) (H : Hp) : V → Value → Prop where
  | non : TyOf K H .non (.type "NoneType")
  | bl (x : Bool) : TyOf K H (.bl x) (.type "bool")
  | int (i : Int) : TyOf K H (.int i) (.type "int")
  | str (x : Str) : TyOf K H (.str x) (.type "str")
  | flt (x : UInt64) : TyOf K H (.flt x) (.type "float")
  | lst {a : Addr} {xs : List V} (e : H a = some (.lst xs)) : TyOf K H (.ref a) (.type "list")
  | frz {a : Addr} {o : Obj} {xs : List V} (e : H a = some (.frz o (.lst xs))) : TyOf K H (.ref a) (.type "list")
  | tup {a : Addr} {xs : List V} (e : H a = some (.tup xs)) : TyOf K H (.ref a) (.type "tuple")
  | dK {a : Addr} {kvs : List (Key × V)} (e : H a = some (.dK kvs)) : TyOf K H (.ref a) (.type "dict")
  | dT {a : Addr} {kvs : List (List Key × V)} (e : H a = some (.dT kvs)) : TyOf K H (.ref a) (.type "dict")
  | ins {a C dx : Addr} {fs : List (Str × V)} (e : H a = some (.ins C dx fs)) (cl : Cls K C) (ha : PySem.W.findIn K (.ref C) "__class__" = some (some (.builtin "object.__class__")))
      (hn : PySem.W.specialIn K (.builtin "object.__class__") "__get__" = some (some (.builtin "getset_descriptor.__get__"))) (htk : PySem.W.takesIn K (.builtin "object.__class__") = some true)
      (hm : PySem.W.mroIn K C (.type "object") = some true) : TyOf K H (.ref a) (.ref C)
theorem isinst_ok {x : V} {u t : Value} (I : Inv X pins σ H s) (rx : RelV x u) (ty : TyOf X.K H x t) (e : PySem.W.kitOne X.K t c = some b) (h : ∀ tk, Q (.bool b) { s with toks := tk }) :
    wpAny (model X.prog X.w) A (call (.builtin "isinstance") [u, c]) Q E s := by
  cases ty with
  | non => cases (show u = Value.none from rx); exact PySem.W.kia_one PySem.W.kitx_none I.kIn True.intro e (fun z => nomatch z) h
  | bl y => cases (show u = Value.bool y from rx); exact PySem.W.kia_one PySem.W.kitx_bool I.kIn True.intro e (fun z => nomatch z) h
  | int i => obtain ⟨t, q⟩ := (show ∃ t, u = Value.int i t from rx); cases q; exact PySem.W.kia_one PySem.W.kitx_int I.kIn True.intro e (fun z => nomatch z) h
  | str y => obtain ⟨t, q⟩ := (show ∃ t, u = Value.str y t from rx); cases q; exact PySem.W.kia_one PySem.W.kitx_str I.kIn True.intro e (fun z => nomatch z) h
  | flt y => obtain ⟨t, q⟩ := (show ∃ t, u = Value.float y t from rx); cases q; exact PySem.W.kia_one PySem.W.kitx_float I.kIn True.intro e (fun z => nomatch z) h
  | @lst a xs ea =>
    cases (show u = Value.ref a from rx)
    obtain ⟨_, _, n, _, h1⟩ := (show ObjOk X.prog X.w H s.heap a (.lst xs) from I.hok a _ ea)
    exact PySem.W.kia_one PySem.W.kitx_list I.kIn ⟨_, h1, rfl⟩ e (fun z => nomatch z) h
  | @frz a ob xs ea =>
    cases (show u = Value.ref a from rx)
    obtain ⟨_, _, _, n, _, h1⟩ := (show ObjOk X.prog X.w H s.heap a (.frz ob (.lst xs)) from I.hok a _ ea)
    exact PySem.W.kia_one PySem.W.kitx_list I.kIn ⟨_, h1, rfl⟩ e (fun z => nomatch z) h
  | @tup a xs ea =>
    cases (show u = Value.ref a from rx)
    obtain ⟨_, _, _, p⟩ := (show ObjOk X.prog X.w H s.heap a (.tup xs) from I.hok a _ ea)
    obtain ⟨o, h1, h2, _⟩ := p
    exact PySem.W.kia_one PySem.W.kitx_tuple I.kIn ⟨o, h1, h2⟩ e (fun z => nomatch z) h
  | @dK a kvs ea =>
    cases (show u = Value.ref a from rx)
    obtain ⟨_, _, vs, _, p⟩ := (show ObjOk X.prog X.w H s.heap a (.dK kvs) from I.hok a _ ea)
    obtain ⟨o, es, ep, h1, h2, _⟩ := p
    exact PySem.W.kia_one PySem.W.kitx_dict I.kIn ⟨o, h1, h2.1⟩ e (fun z => nomatch z) h
  | @dT a kvs ea =>
    cases (show u = Value.ref a from rx)
    obtain ⟨_, _, xs, _, o, es, ep, h1, h2, _⟩ := (show ObjOk X.prog X.w H s.heap a (.dT kvs) from I.hok a _ ea)
    exact PySem.W.kia_one PySem.W.kitx_dict I.kIn ⟨o, h1, h2.1⟩ e (fun z => nomatch z) h
  | @ins a C dx fs ea cl ha hn htk hm =>
    cases (show u = Value.ref a from rx)
    obtain ⟨mA, O, _⟩ := ins_get I.hok ea
    obtain ⟨od, J, _⟩ := O.look
    exact PySem.W.kia_one (PySem.W.kitx_own (cl.get _) cl.hd ha hn htk hm) I.kIn J e (fun z => nomatch z) h
end
end L2
namespace L2
open PySem PySem.Spec PyProof.Rows
structure Room (k : Nat) (A : Around) : Prop where
  hd : A.handled = none
  dp : A.depth + 3 * k + 5 < recursionLimit
  un : A.units + 16 * k + 200 < cLine
theorem Room.mono {j k : Nat} {A : Around} (r : Room k A) (h : j ≤ k) : Room j A := ⟨r.hd, by have := r.dp; omega, by have := r.un; omega⟩
theorem Room.deeper {k : Nat} {A : Around} (r : Room (k + 1) A) (env : Env) : Room k (A.deeper env) :=
  ⟨r.hd, by have := r.dp; show A.depth + 1 + 3 * k + 5 < _; omega, by have := r.un; show A.units + 3 + 16 * k + 200 < _; omega⟩
theorem make_depth {A : Around} {C : Addr} {us : List Value} {kw : List (Str × Value)} : (A.under (.builtin "type.__call__" ⟨.ref C :: us, kw⟩)).depth = A.depth + 1 := by
  first | rfl | simp [Around.under, Code.weight, Code.isCreation, Code.isGuard, Code.isCaller, Code.frames, Code.isFrame, guardIds]
theorem make_units {A : Around} {C : Addr} {us : List Value} {kw : List (Str × Value)} : (A.under (.builtin "type.__call__" ⟨.ref C :: us, kw⟩)).units = A.units + 1 := by
  first | rfl | simp [Around.under, Code.cUnits, Code.frames, Code.isFrame]
theorem Room.make {k : Nat} {A : Around} (r : Room (k + 1) A) (C : Addr) (us : List Value) (kw : List (Str × Value)) : Room k (A.under (.builtin "type.__call__" ⟨.ref C :: us, kw⟩)) :=
  ⟨r.hd, by have := r.dp; rw [make_depth]; omega, by have := r.un; rw [make_units]; omega⟩
theorem Room.depth {k : Nat} {A : Around} (r : Room k A) : A.depth < recursionLimit := by have := r.dp; omega
theorem Room.units {k : Nat} {A : Around} (r : Room k A) : A.units + 64 < cLine := by have := r.un; omega
def tNil : TA := fun _ H Q => Q [] H
def tCons (ta : TE) (tr : TA) : TA := fun σ H Q => ta σ H fun x H1 => tr σ H1 fun xs H2 => Q (x :: xs) H2
section
variable {X : Cx} {e : Expr} {es : List Expr} {te : TE} {t : TA} {pos : Pos}
theorem pa_nil : PA X [] tNil := fun _ _ _ _ H Q I h => Calls.spliced_nil ⟨[], H, I, .nil, h⟩
theorem pa_cons (ha : PE X e te) (hr : PA X es t) (hs : starEach (e :: es) X.env = (false, eval e X.env) :: starEach es X.env := by rfl) : PA X (e :: es) (tCons te t) := by
  intro pos pins s σ H Q I h
  rw [hs]
  show wpAny _ _ (spliced ((false, eval e X.env) :: backTo pos (starEach es X.env))) _ _ s
  refine Calls.spliced_cons (thn (ha pins s σ H _ I h) fun u s1 ⟨x, H1, I1, r1, q1⟩ => ?_)
  exact thn (hr pos pins s1 σ H1 _ I1 q1) fun us s2 ⟨xs, H2, I2, r2, q2⟩ => ⟨x :: xs, H2, I2, .cons r1 r2, q2⟩
def tTup (t : TA) : TE := fun σ H Q => t σ H fun xs H1 => xs.length ≤ sizeLine ∧ ∀ p, H1 p = none → Q (.ref p) (upd H1 p (.tup xs))
def tLst (t : TA) : TE := fun σ H Q => t σ H fun xs H1 => xs.length ≤ sizeLine ∧ ∀ p, H1 p = none → Q (.ref p) (upd H1 p (.lst xs))
theorem pe_tup {x1} (h : PA X es t) : PE X (.Tuple es x1 pos) (tTup t) := by
  intro pins s σ H Q I hq
  refine wpAny_Tuple_spliced (thn (h pos pins s σ H _ I hq) fun us s1 ⟨xs, H1, I1, r, z, q⟩ => ⟨by rw [← r.length]; exact z, ?_⟩)
  have hf : H1 s1.heap.objs.size = none := I1.hok.fresh (Nat.le_refl _)
  refine ⟨.ref s1.heap.objs.size, upd H1 s1.heap.objs.size (.tup xs), I1.laid (t' := s1.toks) (fun b u e => Heap.get?_push_of_some _ e) (Nat.le_refl _) ?_, rfl, q _ hf⟩
  exact ⟨z, us, r, ⟨_, Heap.get?_push_size _ rfl, rfl, _, rfl⟩⟩
theorem pe_lst (h : PA X es t) : PE X (.List es pos) (tLst t) := by
  intro pins s σ H Q I hq
  refine wpAny_List_spliced (thn (h pos pins s σ H _ I hq) fun us s1 ⟨xs, H1, I1, r, z, q⟩ => ⟨by rw [← r.length]; exact z, ?_⟩)
  have hf : H1 s1.heap.objs.size = none := I1.hok.fresh (Nat.le_refl _)
  refine ⟨.ref s1.heap.objs.size, upd H1 s1.heap.objs.size (.lst xs), I1.laid (t' := s1.toks) (fun b u e => Heap.get?_push_of_some _ e) (Nat.le_refl _) ?_, rfl, q _ hf⟩
  exact ⟨z, us, 0, r, Heap.get?_push_size _ rfl⟩
end
abbrev Sp := List V → Hp → VK → XK → Prop
abbrev CXT := List Env → Hp → Shared → XK → Value → Shared → Prop
structure Env0 (P : Program) (w : World) (K : PySem.W.Frag) (mg : Str → Option Value) (base : Heap) (A : Around) (outer : List Env) (s : Shared) (H : Hp) : Prop where
  frames : A.frames = some outer
  mod : Mod K mg base
  bs : ∀ b o, base.get? b = some o → s.heap.get? b = some o ∧ H b = none
  bsz : base.objs.size ≤ s.heap.objs.size
  funs : s.heap.FunFrames base outer
  frf : ∀ b ∈ frs outer, H b = none
  hok : HOk P w H s.heap
  bare : AllBare s.gens
def CE (outer : List Env) (P : Program) (w : World) (H : Hp) (s : Shared) (Q : VK) (u : Value) (s' : Shared) : Prop :=
  ∃ v H', s'.os = s.os ∧ AllBare s'.gens ∧ Un (frs outer) [] H H' s.heap s'.heap ∧ HOk P w H' s'.heap ∧ RelV v u ∧ Q v H'
def CR (CX : CXT) (outer : List Env) (P : Program) (w : World) (H : Hp) (s : Shared) (Q : VK) (E : XK) (r : Result) (s' : Shared) : Prop :=
  match r with
  | .ok (.ret u) => CE outer P w H s Q u s'
  | .ok _ => False
  | .error e => CX outer H s E e s'
structure FnOk (P : Program) (w : World) (K : PySem.W.Frag) (mg : Str → Option Value) (base : Heap) (CX : CXT) (k : Nat) (f : Addr) (fd : FuncData) (ps : List Str) (sp : Sp) : Prop where
  len : ∀ vs H Q E, sp vs H Q E → vs.length = ps.length
  run : ∀ (A : Around) (outer : List Env) (s : Shared) (H : Hp) (args : Args) (us : List Value) (vs : List V) (Q : VK) (E : XK), Room k A → Env0 P w K mg base A outer s H → BindsTo s fd args (ps.zip us) → Vals vs us → sp vs H Q E →
    codeAny (model P w) A (.call (.ref f) args) (CR CX outer P w H s Q E) s
theorem Env0.make {P : Program} {w : World} {K : PySem.W.Frag} {mg : Str → Option Value} {base : Heap} {A : Around} {outer : List Env} {s : Shared} {H : Hp} (e : Env0 P w K mg base A outer s H) (C : Addr) (us : List Value) (kw : List (Str × Value)) :
    Env0 P w K mg base (A.under (.builtin "type.__call__" ⟨.ref C :: us, kw⟩)) outer s H := ⟨by first | exact e.frames | (simpa [Around.under, Code.envs, Code.isFrame, pushEnvs] using e.frames), e.mod, e.bs, e.bsz, e.funs, e.frf, e.hok, e.bare⟩
section
variable {X : Cx} {pins : List (Addr × Obj)} {σ : St} {H : Hp} {s s' : Shared}
theorem Inv.env0 (I : Inv X pins σ H s) : Env0 X.prog X.w X.K X.mg X.base X.A X.stack s H :=
  ⟨I.ok.frames, I.ok.mod, I.bs, Nat.le_trans I.ok.bsz I.sz, I.stack, I.stkFree, I.hok, I.bare⟩
theorem Inv.after {Q : VK} {u : Value} (I : Inv X pins σ H s) (h : CE X.stack X.prog X.w H s Q u s') : EP X pins σ Q u s' := by
  obtain ⟨v, H', os, bare, un, hok, r, q⟩ := h
  obtain ⟨hh, g, d, t, os'⟩ := s'
  obtain rfl : os' = s.os := os
  exact ⟨v, H', I.call (h' := hh) (g' := g) (d' := d) (t' := t) (ch := []) un hok bare (fun b z => absurd z (by simp)), r, q⟩
end
def tCall (sp : Sp) (dvs : List V) (E : XK) (t : TA) : TE := fun σ H Q => t σ H fun vs H1 => sp (vs ++ dvs) H1 Q E
def tMake (C : Addr) (sp : Sp) (dvs : List V) (E : XK) (t : TA) : TE := fun σ H Q => t σ H fun vs H1 => ∀ x dx, H1 x = none → H1 dx = none → dx ≠ x →
  sp (.ref x :: (vs ++ dvs)) (upd (upd H1 dx (.own x)) x (.ins C dx [])) (fun v H2 => v = .non ∧ Q (.ref x) H2) E
def Binds (K : PySem.W.Frag) (fd : FuncData) (ps : List Str) (ds : List Value) : Prop :=
  ∀ (s : Shared) (us : List Value), K.In s.heap → (us ++ ds).length = ps.length → BindsTo s fd ⟨us, []⟩ (ps.zip (us ++ ds))
theorem Binds.all {K : PySem.W.Frag} {fd : FuncData} {ps : List Str} (h : ∀ us : List Value, us.length = ps.length → bindArgs fd ⟨us, []⟩ = pure (ps.zip us)) : Binds K fd ps [] := fun s us _ hl => by
  rw [List.append_nil] at hl ⊢
  exact .of_eq (h us hl)
def Passes (CX : CXT) (X : Cx) (E : XK) : Prop := ∀ (pins : List (Addr × Obj)) (σ : St) (H : Hp) (s : Shared) (e : Value) (s' : Shared), Inv X pins σ H s → CX X.stack H s E e s' → X.xe e s'
section
variable {X : Cx} {CX : CXT} {k : Nat} {f C : Addr} {fd : FuncData} {ps : List Str} {sp : Sp} {dvs : List V} {ds : List Value} {E : XK} {x m : Str} {p pos apos : Pos} {e o : Expr} {es : List Expr} {ta : TE} {t : TA}
theorem run_fn {pins : List (Addr × Obj)} {σ : St} {H : Hp} {s : Shared} {Q : VK} {us : List Value} {vs : List V} (F : FnOk X.prog X.w X.K X.mg X.base CX k f fd ps sp) (hr : Room k X.A) (hb : Binds X.K fd ps ds) (hd : Vals dvs ds) (hx : Passes CX X E)
    (I : Inv X pins σ H s) (r : Vals vs us) (h : sp (vs ++ dvs) H Q E) : wpAny (model X.prog X.w) X.A (call (.ref f) us) (EP X pins σ Q) X.xe s := by
  have r2 : Vals (vs ++ dvs) (us ++ ds) := r.append hd
  have hl : (us ++ ds).length = ps.length := by rw [← r2.length]; exact F.len _ _ _ _ h
  refine wpAny_call (codeAny_mono (F.run X.A X.stack s H ⟨us, []⟩ (us ++ ds) (vs ++ dvs) Q E hr I.env0 (hb s us I.kIn hl) r2 h) fun r s' hq => ?_)
  cases r with
  | error e => exact hx pins σ H s e s' I hq
  | ok fl =>
    cases fl with
    | ret u => exact I.after hq
    | next => exact False.elim hq
    | brk => exact False.elim hq
    | cont => exact False.elim hq
theorem pe_call (F : FnOk X.prog X.w X.K X.mg X.base CX k f fd ps sp) (hr : Room k X.A) (hg : Gl X x) (hm : X.mg x = some (.ref f)) (hk : PySem.W.keepIn X.K (.ref f) = true) (hb : Binds X.K fd ps ds) (hd : Vals dvs ds) (hx : Passes CX X E)
    (ha : PA X (e :: es) t) (hdb : (x == ("__debug__" : Str)) = false := by decide) (he : starEach (e :: es) X.env = (false, eval e X.env) :: starEach es X.env := by rfl) (hpl : (backTo pos (starEach es X.env)).any (·.1) = false := by rfl) :
    PE X (.Call (.Name x p) (e :: es) [] pos) (tCall sp dvs E t) := by
  intro pins s σ H Q I h
  refine wpAny_Call_Name_kw (ld_glob I hg hm ?_ hdb)
  refine PySem.W.callWith_K (h₀ := X.base) I.ok.mod.kin hk (thn (ha pos pins s σ H _ I h) fun us s1 ⟨vs, H1, I1, r, q⟩ => ⟨I1.kIn, ?_⟩) he hpl
  exact run_fn F hr hb hd hx I1 r q
structure Mk (K : PySem.W.Frag) (C f : Addr) : Prop where
  makes : PySem.W.makesIn K C = true
  init : PySem.W.findIn K (.ref C) "__init__" = some (some (.ref f))
  fn : PySem.W.isFn K (.ref f) = true
  kp : PySem.W.keepIn K (.ref C) = true
end
section
variable {X : Cx} {CX : CXT} {k : Nat} {f C : Addr} {fd : FuncData} {ps ks : List Str} {sp : Sp} {E : XK} {x m : Str} {p pos apos kpos : Pos} {e o : Expr} {es : List Expr} {kws : List Keyword} {te ta : TE} {t tk : TA} {nm : Option Str}
variable {g : List Value → List Value → List Value} {gV : List V → List V → List V}
end
structure FnScope (N P : List Str) (sc : Scope) : Prop where
  kind : sc.kind = .function
  co : sc.isCoroutine = false
  gen : sc.isGenerator = false
  nd : N.Nodup
  pre : N.take P.length = P
  par : ∀ x ∈ P, sc.names.lookup x = some .local ∨ sc.names.lookup x = some .cell
  nofree : ∀ y ∈ sc.names, y.2 ≠ .free
theorem bindL_out {kindOf : Str → Option NameKind} {x : Str} : ∀ {binds : List (Str × Value)} {m : Str → Option Value}, (∀ v, (x, v) ∉ binds) → bindL kindOf binds m x = m x
  | [], _, _ => rfl
  | (n, v) :: r, m, h => by
    unfold bindL
    rw [bindL_out fun w hw => h w (List.mem_cons_of_mem _ hw)]
    split
    · have : x ≠ n := by rintro rfl; exact h v List.mem_cons_self
      simp [this]
    · rfl
theorem bindC_out {kindOf : Str → Option NameKind} {x : Str} : ∀ {binds : List (Str × Value)} {m : Str → Option Value}, (∀ v, (x, v) ∉ binds) → bindC kindOf binds m x = m x
  | [], _, _ => rfl
  | (n, v) :: r, m, h => by
    unfold bindC
    rw [bindC_out fun w hw => h w (List.mem_cons_of_mem _ hw)]
    split
    · rfl
    · have : x ≠ n := by rintro rfl; exact h v List.mem_cons_self
      simp [this]
theorem bindL_get {kindOf : Str → Option NameKind} {x : Str} {v : Value} : ∀ {P : List Str} {vs : List Value} {i : Nat} {m : Str → Option Value}, P.Nodup → P[i]? = some x → vs[i]? = some v → kindOf x = some .local →
    bindL kindOf (P.zip vs) m x = some v
  | [], _, _, _, _, h, _, _ => by simp at h
  | _ :: _, [], _, _, _, _, h, _ => by simp at h
  | p :: P, w :: vs, 0, m, nd, h1, h2, hk => by
    simp at h1 h2; subst h1; subst h2
    show bindL kindOf ((p, w) :: P.zip vs) m p = _
    unfold bindL
    rw [bindL_out fun v hv => (List.nodup_cons.mp nd).1 (List.of_mem_zip hv).1, if_pos hk]
    simp
  | p :: P, w :: vs, i + 1, m, nd, h1, h2, hk => by
    show bindL kindOf ((p, w) :: P.zip vs) m x = _
    unfold bindL
    exact bindL_get (i := i) (List.nodup_cons.mp nd).2 (by simpa using h1) (by simpa using h2) hk
theorem bindC_get {kindOf : Str → Option NameKind} {x : Str} {v : Value} : ∀ {P : List Str} {vs : List Value} {i : Nat} {m : Str → Option Value}, P.Nodup → P[i]? = some x → vs[i]? = some v → kindOf x ≠ some .local →
    bindC kindOf (P.zip vs) m x = some v
  | [], _, _, _, _, h, _, _ => by simp at h
  | _ :: _, [], _, _, _, _, h, _ => by simp at h
  | p :: P, w :: vs, 0, m, nd, h1, h2, hk => by
    simp at h1 h2; subst h1; subst h2
    show bindC kindOf ((p, w) :: P.zip vs) m p = _
    unfold bindC
    rw [bindC_out fun v hv => (List.nodup_cons.mp nd).1 (List.of_mem_zip hv).1, if_neg hk]
    simp
  | p :: P, w :: vs, i + 1, m, nd, h1, h2, hk => by
    show bindC kindOf ((p, w) :: P.zip vs) m x = _
    unfold bindC
    exact bindC_get (i := i) (List.nodup_cons.mp nd).2 (by simpa using h1) (by simpa using h2) hk
def start (N : List Str) (vs : List V) : St := vs.map some ++ List.replicate (N.length - vs.length) none
def cxOf (CX : CXT) (P : Program) (w : World) (K : PySem.W.Frag) (mg : Str → Option Value) (base : Heap) (N : List Str) (qual : Str) (scope : Scope) (f : Addr) (cd : Value) (A : Around) (outer : List Env) (s : Shared) (H : Hp) (E : XK) : Cx where
  prog := P
  w := w
  K := K
  mg := mg
  base := base
  A := A.deeper (envOfC qual scope s.heap.objs.size f cd)
  N := N
  s₀ := s
  H₀ := H
  env := envOfC qual scope s.heap.objs.size f cd
  outer := outer
  stack := envOfC qual scope s.heap.objs.size f cd :: outer
  ex := []
  calm := true
  fn := fun _ => true
  pn := []
  xe := fun e s' => wpAny (model P w) (A.deeper (envOfC qual scope s.heap.objs.size f cd)) (leaving (envOfC qual scope s.heap.objs.size f cd) e) (fun _ s'' => CX outer H s E e s'') (fun e' s'' => CX outer H s E e' s'') s'
theorem cell_has {sc : Scope} {n : Nat} {x : Str} (h : sc.names.lookup x = some .cell) : ∃ c, (cellsFrom n sc.names []).lookup x = some c := by
  have q := PySem.W.cellsFrom_some sc.names n [] (.inl h)
  exact Option.isSome_iff_exists.mp q
theorem inv_start {CX : CXT} {P : Program} {w : World} {K : PySem.W.Frag} {mg : Str → Option Value} {base : Heap} {N ps : List Str} {qual : Str} {scope : Scope} {f : Addr} {cd : Value} {A : Around} {outer : List Env} {s s1 : Shared} {H : Hp} {E : XK} {us : List Value} {vs : List V}
    (S : FnScope N ps scope) (hd : A.handled = none) (e0 : Env0 P w K mg base A outer s H) (hl : vs.length = ps.length) (r : Vals vs us)
    (x : InCallC s s.heap.objs.size (bindL (envOfC qual scope s.heap.objs.size f cd).kindOf (ps.zip us) fun _ => none) (cellsFrom (s.heap.objs.size + 1) scope.names []) (bindC (envOfC qual scope s.heap.objs.size f cd).kindOf (ps.zip us) fun _ => none) s1) :
    Inv (cxOf CX P w K mg base N qual scope f cd A outer s H E) [] (start N vs) H s1 := by
  have hpl : ps.length ≤ N.length := by have := congrArg List.length S.pre; rw [List.length_take] at this; omega
  obtain ⟨h1, tk, rfl, hk⟩ := x.done
  have noA : ∀ b : Addr, b ∉ (cxOf CX P w K mg base N qual scope f cd A outer s H E).ex := fun b z => absurd (show b ∈ ([] : List Addr) from z) (by simp)
  refine ⟨⟨e0.mod, S.kind, rfl, rfl, Nat.le_refl _, fun y z c h1 h2 => ?_, fun y hy => ?_, fun y c _ h => ?_, fun _ => hd, Around.frames_deeper e0.frames, .inr ⟨rfl, rfl⟩, fun b z => absurd z (noA b), e0.bs, e0.bsz, fun b _ _ => noA b, fun b z => absurd z (noA b), e0.funs, e0.frf⟩,
    rfl, e0.bare, Un.kept hk, ⟨_, x.toInCall.ns, fun i y v h1 h2 h3 => ?_⟩, fun y c h => ⟨_, x.cell y c h⟩, e0.hok.fresh (Nat.le_refl _), fun y c h => ?_, fun p hp => absurd (show p ∈ ([] : List (Addr × Obj)) from hp) (by simp), e0.hok.kept hk, ?_⟩
  · exact name_of_addr x.apart (PySem.mem_of_lookup h1) (PySem.mem_of_lookup h2)
  · have hy : scope.names.lookup y = some .cell ∨ scope.names.lookup y = some .free := hy
    rcases hy with hy | hy
    · exact cell_has hy
    · exact absurd rfl (S.nofree _ (PySem.mem_of_lookup hy))
  · exact Nat.le_of_lt (x.above y c (PySem.mem_of_lookup h))
  · have hi : i < vs.length := by
      unfold start at h2
      by_cases hi : i < vs.length
      · exact hi
      · rw [List.getElem?_append_right (by simpa using hi)] at h2
        rw [List.getElem?_replicate] at h2
        split at h2 <;> cases h2
    have ha : vs[i]? = some v := by
      unfold start at h2
      rw [List.getElem?_append_left (by simpa using hi), List.getElem?_map] at h2
      cases e : vs[i]? with
      | none => rw [e] at h2; cases h2
      | some a => rw [e] at h2; cases h2; rfl
    obtain ⟨u, hu, rv⟩ := r.get ha
    have hp : ps[i]? = some y := by
      rw [← S.pre, List.getElem?_take_of_lt (by omega)]; exact h1
    have ndP : ps.Nodup := by rw [← S.pre]; exact S.nd.sublist (List.take_sublist _ _)
    refine ⟨u, rv, ?_⟩
    rcases S.par y (List.mem_of_getElem? hp) with k | k
    · exact .inl ⟨k, bindL_get ndP hp hu k⟩
    · obtain ⟨c, e⟩ := cell_has (n := s.heap.objs.size + 1) k
      refine .inr ⟨.inl k, c, e, ?_⟩
      have q := x.cell y c e
      rw [bindC_get ndP hp hu (by show scope.names.lookup y ≠ _; rw [k]; decide)] at q
      exact q
  · exact e0.hok.fresh (Nat.le_of_lt (x.above y c (PySem.mem_of_lookup h)))
  · unfold start
    show _ = N.length
    rw [List.length_append, List.length_map, List.length_replicate]
    omega
theorem fn_of {CX : CXT} {P : Program} {w : World} {K : PySem.W.Frag} {mg : Str → Option Value} {base : Heap} {k : Nat} {f : Addr} {name qual : Str} {params : Arguments} {body : List Stmt} {scope : Scope} {dV kV doc pm cdv ct oc : Value} {an od : Option Addr}
    {osl : Array (Option Value)} {N ps : List Str} {sp : Sp} (lk : K.lookup f = some ⟨oc, od, .func (PySem.W.fnOf name qual params body scope dV kV doc pm an cdv ct), osl⟩) (hcd : PySem.W.codeIn K cdv qual = true) (S : FnScope N ps scope)
    (len : ∀ vs H Q E, sp vs H Q E → vs.length = ps.length)
    (hbody : ∀ (A : Around) (outer : List Env) (s : Shared) (H : Hp) (vs : List V) (Q : VK) (E : XK), Room k (A.deeper (envOfC qual scope s.heap.objs.size f cdv)) → sp vs H Q E →
      ∃ t, PSs (cxOf CX P w K mg base N qual scope f cdv A outer s H E) body t ∧ t { nx := fun _ H' => Q .non H', rt := Q } (start N vs) H) :
    FnOk P w K mg base CX (k + 1) f (PySem.W.fnOf name qual params body scope dV kV doc pm an cdv ct) ps sp := by
  refine ⟨len, fun A outer s H args us vs Q E hr e0 hb r hsp => ?_⟩
  have hl := len _ _ _ _ hsp
  have KX : K.In s.heap := e0.mod.kin.keeps fun b o e => (e0.bs b o e).1
  have lim : s.heap.NoLimit := e0.mod.nolimit.keeps fun b o e => (e0.bs b o e).1
  have hkind : ∀ y ∈ ps.zip us, scope.names.lookup y.1 = some .local ∨ (scope.names.lookup y.1 = some .cell ∧ ((cellsFrom (s.heap.objs.size + 1) scope.names []).lookup y.1).isSome = true) := fun ⟨n, v⟩ hy => by
    rcases S.par n (List.of_mem_zip hy).1 with q | q
    · exact .inl q
    · exact .inr ⟨q, PySem.W.cellsFrom_some _ _ _ (.inl q)⟩
  refine codeAny_call_function hr.depth (KX _ _ lk) rfl S.co S.gen rfl (PySem.W.codeRec_of KX hcd) (hb _ _ _ _ ?_)
  refine wpAny_newFunctionEnv_cells S.kind hkind fun env he s1 x => ?_
  subst he
  refine ⟨lim.keeps x.toInCall.keep, codeAny_func ?_⟩
  obtain ⟨t, ht, hq⟩ := hbody A outer s H vs Q E (hr.deeper _) hsp
  have I : Inv (cxOf CX P w K mg base N qual scope f cdv A outer s H E) [] (start N vs) H s1 := inv_start S hr.hd e0 hl r x
  refine wpAny_mono (ht [] s1 (start N vs) H _ I hq) (fun fl s' hs => ?_) fun e s' hs => hs
  have fin : ∀ {σ' : St} {H' : Hp} {v : V} {u : Value}, Inv (cxOf CX P w K mg base N qual scope f cdv A outer s H E) [] σ' H' s' → RelV v u → Q v H' → CE outer P w H s Q u s' :=
    fun {σ' H' v u} J rv q => ⟨v, H', J.os, J.bare, J.base, J.hok, rv, q⟩
  cases fl with
  | ret u =>
    obtain ⟨v, σ', H', J, rv, q⟩ := hs
    exact fin J rv q
  | next =>
    obtain ⟨σ', H', J, q⟩ := hs
    exact fin (v := V.non) (u := Value.none) J rfl q
  | brk =>
    obtain ⟨_, _, _, q⟩ := hs
    exact False.elim q
  | cont =>
    obtain ⟨_, _, _, q⟩ := hs
    exact False.elim q
end L2
namespace L2
open PySem PySem.Spec PyProof.Rows
section
variable {X : Cx} {x : Str} {p pos : Pos} {e : Expr} {es : List Expr} {t : TA} {id T : String} {r : List V → Hp → VK → Prop}
def tCB (r : List V → Hp → VK → Prop) (t : TA) : TE := fun σ H Q => t σ H fun vs H1 => r vs H1 Q
theorem pe_callB (hc : CallR X (.builtin id) r) (hg : Gl X x) (hm : X.mg x = none) (hv : bootBuiltins x = some (.builtin id)) (ha : PA X (e :: es) t) (hn : x ≠ "__name__" := by decide) (hdb : (x == ("__debug__" : Str)) = false := by decide)
    (he : starEach (e :: es) X.env = (false, eval e X.env) :: starEach es X.env := by rfl) (hpl : (backTo pos (starEach es X.env)).any (·.1) = false := by rfl) : PE X (.Call (.Name x p) (e :: es) [] pos) (tCB r t) := by
  intro pins s σ H Q I h
  refine wpAny_Call_Name_kw (ld_blt I hg hm hv ?_ hn hdb)
  exact PyProof.Rows.callWith_builtin1 (thn (ha pos pins s σ H _ I h) fun us s1 ⟨vs, H1, I1, r1, q1⟩ => hc pins s1 σ H1 vs us Q I1 r1 q1) he hpl
theorem pe_callTy (hc : CallR X (.type T) r) (hg : Gl X x) (hm : X.mg x = none) (hv : bootBuiltins x = some (.type T)) (ha : PA X (e :: es) t) (hn : x ≠ "__name__" := by decide) (hdb : (x == ("__debug__" : Str)) = false := by decide)
    (he : starEach (e :: es) X.env = (false, eval e X.env) :: starEach es X.env := by rfl) (hpl : (backTo pos (starEach es X.env)).any (·.1) = false := by rfl) : PE X (.Call (.Name x p) (e :: es) [] pos) (tCB r t) := by
  intro pins s σ H Q I h
  refine wpAny_Call_Name_kw (ld_blt I hg hm hv ?_ hn hdb)
  exact PyProof.Rows.callWith_type1 (thn (ha pos pins s σ H _ I h) fun us s1 ⟨vs, H1, I1, r1, q1⟩ => hc pins s1 σ H1 vs us Q I1 r1 q1) he hpl
end
end L2
namespace HT
open PySem PyProof.Rows
section
open PySem.SeqAt
open PySem.AutoSeq1 (wpAny_loadPart')
open PySem.MeetsSeq PySem.MeetsSeq2 PySem.MeetsSeq3
end
section
variable {prog : Program} {w : World} {A : Around} {E : Value → Shared → Prop} {s : Shared}
def sIx (n d : Nat) : Option Int → Nat
  | none => d
  | some v => if v < 0 then (v + (n : Int)).toNat else min v.toNat n
theorem sIx_none (n d : Nat) : sIx n d none = d := rfl
theorem sIx_nat (n d k : Nat) : sIx n d (some (k : Int)) = min k n := by
  show (if (k : Int) < 0 then ((k : Int) + (n : Int)).toNat else min (k : Int).toNat n) = min k n
  rw [if_neg (by omega), Int.toNat_natCast]
end
end HT
namespace L2
open PySem PySem.Spec PyProof.Rows
abbrev TO := St → Hp → (Option Int → Hp → Prop) → Prop
def PO (X : Cx) (e : Option Expr) (t : TO) : Prop :=
  ∀ (pins : List (Addr × Obj)) (s : Shared) (σ : St) (H : Hp) (Q : Option Int → Hp → Prop), Inv X pins σ H s → t σ H Q →
    wpAny (model X.prog X.w) X.A (evalPart e X.env) (fun u s' => ∃ o H', Inv X pins σ H' s' ∧ IsPart u o ∧ Q o H') X.xe s
def tNoPart : TO := fun _ H Q => Q none H
def tPart (t : TE) : TO := fun σ H Q => t σ H fun x H1 => ∃ i, x = .int i ∧ Q (some i) H1
section
variable {X : Cx} {e : Expr} {te : TE} {lo hi : Option Expr} {tl th : TO} {pos p2 : Pos}
theorem po_none : PO X none tNoPart := by
  intro pins s σ H Q I h
  rw [evalPart_none]
  exact wpAny_pure ⟨none, H, I, .none, h⟩
theorem po_some (h : PE X e te) : PO X (some e) (tPart te) := by
  intro pins s σ H Q I hw
  rw [evalPart_some]
  refine thn (h pins s σ H _ I hw) fun u s1 ⟨x, H1, I1, r1, q1⟩ => ?_
  obtain ⟨i, rfl, q⟩ := q1
  obtain ⟨t, rfl⟩ := r1
  exact ⟨some i, H1, I1, .int i t, q⟩
def SlR (X : Cx) (r : V → Option Int → Option Int → Hp → VK → Prop) : Prop :=
  ∀ (pins : List (Addr × Obj)) (s : Shared) (σ : St) (H : Hp) (x : V) (v vl vu : Value) (lo hi : Option Int) (sl : Addr) (Q : VK), Inv X pins σ H s → RelV x v → s.heap.IsSliceOf sl vl vu .none → IsPart vl lo → IsPart vu hi → r x lo hi H Q →
    ∃ T id, typeLookup (.type T) "__getitem__" = pure (some (.builtin id)) ∧ s.TypeIs v T ∧ wpAny (model X.prog X.w) X.A (getItem v (.ref sl)) (EP X pins σ Q) X.xe s
def tSl (r : V → Option Int → Option Int → Hp → VK → Prop) (te : TE) (tl th : TO) : TE := fun σ H Q => te σ H fun x H1 => tl σ H1 fun l H2 => th σ H2 fun u H3 => r x l u H3 Q
theorem pe_slice {r : V → Option Int → Option Int → Hp → VK → Prop} (hr : SlR X r) (he : PE X e te) (hl : PO X lo tl) (hu : PO X hi th) : PE X (.Subscript e (.Slice lo hi none p2) pos) (tSl r te tl th) := by
  intro pins s σ H Q I h
  refine Subscript_ (thn (he pins s σ H _ I h) fun v s1 ⟨x, H1, I1, r1, q1⟩ => ?_)
  refine wpAny_Slice (thn (hl pins s1 σ H1 _ I1 q1) fun vl s2 ⟨l, H2, I2, pl, q2⟩ => thn (hu pins s2 σ H2 _ I2 q2) fun vu s3 ⟨u, H3, I3, pu, q3⟩ => ?_)
  rw [evalPart_none]
  refine wpAny_pure ?_
  have I4 : Inv X pins σ H3 { s3 with heap := s3.heap.push { cls := .type "slice", data := .fields #[vl, vu, .none] } } := I3.kept (t' := s3.toks) fun b ob q => Heap.get?_push_of_some _ q
  obtain ⟨T, id, hT, ht, hg⟩ := hr pins { s3 with heap := s3.heap.push { cls := .type "slice", data := .fields #[vl, vu, .none] } } σ H3 x v vl vu l u s3.heap.objs.size Q I4 r1 (Heap.IsSliceOf.new ..) pl pu q3
  show wpAny (model X.prog X.w) X.A (subscriptTail e (.Slice lo hi none p2) v (.ref s3.heap.objs.size)) (EP X pins σ Q) X.xe { s3 with heap := s3.heap.push { cls := .type "slice", data := .fields #[vl, vu, .none] } }
  exact tail_any (ops := [.ref s3.heap.objs.size, v]) ht hT hg (by with_unfolding_all rfl)
def cutV (xs : List V) (lo hi : Option Int) : List V := (xs.drop (HT.sIx xs.length 0 lo)).take (HT.sIx xs.length xs.length hi - HT.sIx xs.length 0 lo)
theorem cutV_length (xs : List V) (lo hi : Option Int) : (cutV xs lo hi).length ≤ xs.length := by
  unfold cutV
  rw [List.length_take, List.length_drop]
  omega
end
end L2
namespace L2
open PySem PySem.Spec PyProof.Rows
def ixN (n : Nat) (i : Int) : Option Nat := if 0 ≤ i then (if i < n then some i.toNat else none) else if -(n : Int) ≤ i then some (i + n).toNat else none
def atI {α : Type} (xs : List α) (i : Int) : Option α := (ixN xs.length i).bind fun j => xs[j]?
theorem ixN_seq {n : Nat} {i : Int} {j : Nat} (h : ixN n i = some j) : seqIndex? i n = some j ∧ j < n ∧ -(n : Int) ≤ i ∧ i < n := by
  unfold ixN at h
  by_cases h0 : 0 ≤ i
  · rw [if_pos h0] at h
    by_cases h1 : i < n
    · rw [if_pos h1] at h
      have e : i.toNat = j := Option.some.inj h
      exact ⟨by rw [seqIndex_of h0 h1, e], by omega, by omega, h1⟩
    · rw [if_neg h1] at h; cases h
  · rw [if_neg h0] at h
    by_cases h1 : -(n : Int) ≤ i
    · rw [if_pos h1] at h
      have e : (i + n).toNat = j := Option.some.inj h
      exact ⟨by rw [seqIndex_neg (by omega) h1, e], by omega, h1, by omega⟩
    · rw [if_neg h1] at h; cases h
theorem atI_get {α : Type} {xs : List α} {i : Int} {v : α} (h : atI xs i = some v) : ∃ j, seqIndex? i xs.length = some j ∧ xs[j]? = some v ∧ j < xs.length ∧ -(xs.length : Int) ≤ i ∧ i < xs.length := by
  unfold atI at h
  cases e : ixN xs.length i with
  | none => rw [e] at h; cases h
  | some j =>
    rw [e] at h
    obtain ⟨h1, h2, h3, h4⟩ := ixN_seq e
    exact ⟨j, h1, h, h2, h3, h4⟩
theorem atI_nat {α : Type} {xs : List α} {j : Nat} {v : α} (h : xs[j]? = some v) : atI xs (j : Int) = some v := by
  have hj : j < xs.length := (List.getElem?_eq_some_iff.mp h).1
  have e : ixN xs.length (j : Int) = some j := by
    unfold ixN
    rw [if_pos (by omega), if_pos (by omega)]; simp
  unfold atI; rw [e]; exact h
theorem atI_last {α : Type} (xs : List α) (v : α) : atI (xs ++ [v]) (-1) = some v := by
  have hl : (xs ++ [v]).length = xs.length + 1 := by simp
  have e : ixN (xs ++ [v]).length (-1) = some xs.length := by
    unfold ixN
    rw [hl, if_neg (by decide), if_pos (by omega)]
    congr 1
    omega
  unfold atI
  rw [e]
  show (xs ++ [v])[xs.length]? = some v
  simp
def PlainIx (b : Expr) : Prop := ∀ o i, subscripted b false o i = operate [o, i] (getItem o i)
def IxR (X : Cx) (r : R2) : Prop :=
  ∀ (value slice : Expr) (pins : List (Addr × Obj)) (s : Shared) (σ : St) (H : Hp) (x y : V) (v u : Value) (Q : VK), Inv X pins σ H s → RelV x v → RelV y u → r x y H Q →
    subscripted slice false v u = operate [v, u] (getItem v u) → wpAny (model X.prog X.w) X.A (subscriptTail value slice v u) (EP X pins σ Q) X.xe s
def MtR (X : Cx) (id : String) (r : V → List V → Hp → VK → Prop) : Prop :=
  ∀ (pins : List (Addr × Obj)) (s : Shared) (σ : St) (H : Hp) (x : V) (xs : List V) (v : Value) (us : List Value) (Q : VK), Inv X pins σ H s → RelV x v → Vals xs us → r x xs H Q →
    wpAny (model X.prog X.w) X.A (call (.builtin id) (v :: us)) (EP X pins σ Q) X.xe s
section
variable {X : Cx} {a b : Expr} {ta tb : TE} {pos : Pos}
theorem pe_ix {r : R2} (hr : IxR X r) (ha : PE X a ta) (hb : PE X b tb) (hs : PlainIx b) : PE X (.Subscript a b pos) (tOp r ta tb) := by
  intro pins s σ H Q I h
  exact Subscript_ (binT ha hb I h fun v u s2 x y H2 I2 rx ry q => hr a b pins s2 σ H2 x y v u Q I2 rx ry q (hs _ _))
def rIxL (K : PySem.W.Frag) : R2 := fun x y H Q => ∃ p xs i v, x = .ref p ∧ y = .int i ∧ SqL K H p xs ∧ atI xs i = some v ∧ Q v H
def rIxT (K : PySem.W.Frag) : R2 := fun x y H Q => ∃ p xs i v, x = .ref p ∧ y = .int i ∧ SqT K H p xs ∧ atI xs i = some v ∧ Q v H
theorem ix_list : IxR X (rIxL X.K) := by
  intro value slice pins s σ H x y v u Q I rx ry h hs
  obtain ⟨p, xs, i, z, rfl, rfl, hq, he, q⟩ := h
  cases rx
  obtain ⟨t, rfl⟩ := ry
  obtain ⟨its, r, pl, hz⟩ := I.list hq
  obtain ⟨j, h1, h2, h3, h4, h5⟩ := atI_get he
  obtain ⟨w, ew, rw'⟩ := r.get h2
  have hl := r.length
  have hn := line63
  have fin : EP X pins σ Q w s := ⟨z, H, I, rw', q⟩
  by_cases h0 : 0 ≤ i
  · have hj : i.toNat = j := by
      rw [seqIndex_of h0 h5] at h1
      exact Option.some.inj h1
    exact item_listR pl.isList h0 (by omega) (by rw [hj]; simpa using ew) fin hs
  · have hj : (i + (its.toArray.size : Int)).toNat = j := by
      rw [seqIndex_neg (by omega) h4] at h1
      rw [List.size_toArray, ← hl]
      exact Option.some.inj h1
    exact subscriptTail_builtinR (x := w) pl.isList.typeIs slot_list_getitem.lookup
      (wpAny_getItem_list_neg (Q := fun r s' => r = w ∧ EP X pins σ Q r s') pl.isList (by omega) (by rw [List.size_toArray] <;> omega) (by omega) (by rw [hj]; simpa using ew) ⟨rfl, fin⟩) hs
theorem ix_tup : IxR X (rIxT X.K) := by
  intro value slice pins s σ H x y v u Q I rx ry h hs
  obtain ⟨p, xs, i, z, rfl, rfl, hq, he, q⟩ := h
  cases rx
  obtain ⟨t, rfl⟩ := ry
  obtain ⟨its, r, pl, hz⟩ := I.tuple hq
  obtain ⟨j, h1, h2, h3, h4, h5⟩ := atI_get he
  obtain ⟨w, ew, rw'⟩ := r.get h2
  have hl := r.length
  have hn := line63
  have fin : EP X pins σ Q w s := ⟨z, H, I, rw', q⟩
  exact subscriptTail_builtinR (x := w) pl.typeIs slot_tuple_getitem.lookup
    (getItem_tuple (j := j) (Q := fun r s' => r = w ∧ EP X pins σ Q r s') pl (by omega) (by omega) (by rw [List.size_toArray, ← hl]; exact h1) (by simpa using ew) ⟨rfl, fin⟩) hs
theorem mapSeq_set (its : List Value) (n j : Nat) (u : Value) : Obj.mapSeq (·.setIfInBounds j u) { cls := .type "list", data := .seq its.toArray n } = { cls := .type "list", data := .seq (its.set j u).toArray n } := by
  simp [Obj.mapSeq]
theorem Inv.lst {pins : List (Addr × Obj)} {σ : St} {H : Hp} {s : Shared} {p : Addr} {xs : List V} (I : Inv X pins σ H s) (h : H p = some (.lst xs)) :
    ∃ (its : List Value) (n : Nat), Vals xs its ∧ s.heap.get? p = some { cls := .type "list", data := .seq its.toArray n } ∧ xs.length ≤ sizeLine := by
  obtain ⟨z, its, n, r, e⟩ := I.hok p _ h
  exact ⟨its, n, r, e, z⟩
theorem Inv.lstUpd {pins : List (Addr × Obj)} {σ : St} {H : Hp} {s : Shared} {p : Addr} {xs ys : List V} {its its' : List Value} {n n' : Nat} {f : Obj → Obj} (I : Inv X pins σ H s) (h : H p = some (.lst xs))
    (ho : s.heap.get? p = some { cls := .type "list", data := .seq its.toArray n }) (hf : f { cls := .type "list", data := .seq its.toArray n } = { cls := .type "list", data := .seq its'.toArray n' }) (r : Vals ys its') (hz : ys.length ≤ sizeLine) (t : Nat) :
    Inv X pins σ (upd H p (.lst ys)) { s with heap := s.heap.update p f, toks := t } := by
  have e : (s.heap.update p f).get? p = some { cls := .type "list", data := .seq its'.toArray n' } := by
    rw [Heap.get?_update_self f ho (by rw [hf] <;> rfl), hf]
  refine I.write (x := p) (e := p) (by rw [h]; trivial) (.inl rfl) (fun b u hb q => (Heap.get?_update_other _ _ (Ne.symm hb)).trans q) ⟨_, e⟩ ?_
  exact ⟨hz, its', n', r, e⟩
def rSetL : V → V → V → Hp → (Hp → Prop) → Prop := fun o i v H Q => ∃ p xs k j, o = .ref p ∧ i = .int k ∧ H p = some (.lst xs) ∧ ixN xs.length k = some j ∧ Q (upd H p (.lst (xs.set j v)))
theorem set_list : PSet X rSetL := by
  intro pins s σ H o i v ov iv u Q I ro ri rv h
  obtain ⟨p, xs, k, j, rfl, rfl, hp, hj, q⟩ := h
  cases ro
  obtain ⟨t, rfl⟩ := ri
  obtain ⟨its, n, r, ho, hz⟩ := I.lst hp
  obtain ⟨h1, h2, h3, h4⟩ := ixN_seq hj
  have hl := r.length
  have hn := line63
  have I' : Inv X pins σ (upd H p (.lst (xs.set j v))) { s with heap := s.heap.update p (Obj.mapSeq (·.setIfInBounds j u)) } :=
    I.lstUpd hp ho (mapSeq_set its n j u) (r.set rv j) (by rw [List.length_set]; exact hz) s.toks
  by_cases h0 : 0 ≤ k
  · have hk : k.toNat = j := by
      rw [seqIndex_of h0 h4] at h1
      exact Option.some.inj h1
    exact PySem.W.ki_setAt ho h0 (by omega) (by rw [List.size_toArray, ← hl]; exact h4) (by rw [hk]; exact ⟨_, I', q⟩)
  · have hk : (k + (its.toArray.size : Int)).toNat = j := by
      rw [seqIndex_neg (by omega) h3] at h1
      rw [List.size_toArray, ← hl]
      exact Option.some.inj h1
    exact PySem.W.ki_setBack ho (by omega) (by rw [List.size_toArray, ← hl]; exact h3) (by omega) (by rw [hk]; exact ⟨_, I', q⟩)
theorem slice_bounds (lo hi : Option Int) (n : Nat) : (sliceBounds lo hi none n).1 = ((HT.sIx n 0 lo : Nat) : Int) ∧ (sliceBounds lo hi none n).2.1 = ((HT.sIx n n hi : Nat) : Int) ∧ (sliceBounds lo hi none n).2.2 = 1 := by
  refine ⟨?_, ?_, rfl⟩
  · cases lo with
    | none => simp [sliceBounds, HT.sIx]
    | some i =>
      simp only [sliceBounds, HT.sIx, Option.getD_none, show (1 : Int) > 0 by decide, if_true]
      by_cases h : i < 0
      · simp only [h, if_true] <;> omega
      · simp only [h, if_false] <;> omega
  · cases hi with
    | none => simp [sliceBounds, HT.sIx]
    | some i =>
      simp only [sliceBounds, HT.sIx, Option.getD_none, show (1 : Int) > 0 by decide, if_true]
      by_cases h : i < 0
      · simp only [h, if_true] <;> omega
      · simp only [h, if_false] <;> omega
theorem slicePick_cut (its : List Value) (lo hi : Option Int) : slicePick its.toArray lo hi none = ((its.drop (HT.sIx its.length 0 lo)).take (HT.sIx its.length its.length hi - HT.sIx its.length 0 lo)).toArray := by
  obtain ⟨h1, h2, h3⟩ := slice_bounds lo hi its.toArray.size
  unfold slicePick
  rw [h1, h2, h3]
  simp only [sliceRange_one, pick_run, List.size_toArray] <;> rfl
def rSlL (K : PySem.W.Frag) : V → Option Int → Option Int → Hp → VK → Prop := fun x lo hi H Q => ∃ a xs, x = .ref a ∧ SqL K H a xs ∧ ∀ p, H p = none → Q (.ref p) (upd H p (.lst (cutV xs lo hi)))
theorem sl_list : SlR X (rSlL X.K) := by
  intro pins s σ H x v vl vu lo hi sl Q I rx hs pl pu h
  obtain ⟨a, xs, rfl, hx, q⟩ := h
  cases rx
  obtain ⟨its, r, ht, hz⟩ := I.list hx
  have hlen := r.length
  refine ⟨"list", _, slot_list_getitem.lookup, ht.isList.typeIs, ?_⟩
  refine wpAny_getItem_list_slice ht.isList hs pl pu .none (by simp) ?_ (by rw [List.size_toArray] <;> omega)
  rw [slicePick_cut, ← hlen]
  refine ⟨.ref s.heap.objs.size, _, I.laid (t' := s.toks) (o := .lst (cutV xs lo hi)) (fun b ob q => Heap.get?_push_of_some _ q) (Nat.le_refl _) ?_, rfl, q _ (I.hok.fresh (Nat.le_refl _))⟩
  exact ⟨Nat.le_trans (cutV_length xs lo hi) hz, _, 0, (r.drop (HT.sIx xs.length 0 lo)).take (HT.sIx xs.length xs.length hi - HT.sIx xs.length 0 lo), Heap.get?_push_size _ rfl⟩
def flatV : V → Bool
  | .non => true
  | .bl _ => true
  | .int _ => true
  | .str _ => true
  | _ => false
def eqV : V → V → Bool
  | .non, .non => true
  | .bl a, .bl b => a == b
  | .bl a, .int b => (if a then 1 else 0) == b
  | .int a, .bl b => a == (if b then 1 else 0)
  | .int a, .int b => a == b
  | .str a, .str b => a == b
  | _, _ => false
theorem eqAt_V {A : Around} {s : Shared} {y x : V} {u v : Value} (ry : RelV y u) (rx : RelV x v) (fy : flatV y = true) (fx : flatV x = true) : SeqAt.EqAt A s u v (eqV y x) := by
  cases y with
  | non =>
    cases ry
    cases x with
    | non => cases rx; exact SeqAt.EqAt.same _
    | bl b => cases rx; exact SeqAt.EqAt.none_bool b
    | int b => obtain ⟨t, rfl⟩ := rx; exact SeqAt.EqAt.none_int b t
    | str b => obtain ⟨t, rfl⟩ := rx; exact SeqAt.EqAt.none_str b t
    | _ => exact absurd (show false = true from fx) Bool.false_ne_true
  | bl a =>
    cases ry
    cases x with
    | non => cases rx; exact SeqAt.EqAt.bool_none a
    | bl b => cases rx; exact SeqAt.EqAt.bool_bool a b
    | int b => obtain ⟨t, rfl⟩ := rx; exact SeqAt.EqAt.bool_int a b t
    | str b => obtain ⟨t, rfl⟩ := rx; exact SeqAt.EqAt.bool_str a b t
    | _ => exact absurd (show false = true from fx) Bool.false_ne_true
  | int a =>
    obtain ⟨t', rfl⟩ := ry
    cases x with
    | non => cases rx; exact SeqAt.EqAt.int_none a t'
    | bl b => cases rx; exact SeqAt.EqAt.int_bool a t' b
    | int b => obtain ⟨t, rfl⟩ := rx; exact SeqAt.EqAt.int_int a t' b t
    | str b => obtain ⟨t, rfl⟩ := rx; exact SeqAt.EqAt.int_str a t' b t
    | _ => exact absurd (show false = true from fx) Bool.false_ne_true
  | str a =>
    obtain ⟨t', rfl⟩ := ry
    cases x with
    | non => cases rx; exact SeqAt.EqAt.str_none a t'
    | bl b => cases rx; exact SeqAt.EqAt.str_bool a t' b
    | int b => obtain ⟨t, rfl⟩ := rx; exact SeqAt.EqAt.str_int a t' b t
    | str b => obtain ⟨t, rfl⟩ := rx; exact SeqAt.EqAt.str_str a t' b t
    | _ => exact absurd (show false = true from fx) Bool.false_ne_true
  | _ => exact absurd (show false = true from fy) Bool.false_ne_true
def eqU (x : V) (u : Value) : Bool := match u with
  | .none => eqV .non x
  | .bool b => eqV (.bl b) x
  | .int i _ => eqV (.int i) x
  | .str z _ => eqV (.str z) x
  | _ => false
theorem eqU_of {x y : V} {u : Value} (r : RelV y u) (f : flatV y = true) : eqU x u = eqV y x := by
  cases y with
  | non => cases r; rfl
  | bl b => cases r; rfl
  | int i => obtain ⟨t, rfl⟩ := r; rfl
  | str z => obtain ⟨t, rfl⟩ := r; rfl
  | _ => exact absurd (show false = true from f) Bool.false_ne_true
theorem any_eqU {x : V} : ∀ {xs : List V} {us : List Value}, Vals xs us → xs.all flatV = true → us.any (eqU x) = xs.any fun y => eqV y x
  | _, _, .nil, _ => rfl
  | y :: xs, u :: us, .cons r t, f => by
    rw [List.all_cons, Bool.and_eq_true] at f
    rw [List.any_cons, List.any_cons, eqU_of r f.1, any_eqU t f.2]
theorem mem_eqAt {A : Around} {s : Shared} {x : V} {v : Value} (rx : RelV x v) (fx : flatV x = true) : ∀ {xs : List V} {us : List Value}, Vals xs us → xs.all flatV = true → ∀ u ∈ us, SeqAt.EqAt A s u v (eqU x u)
  | _, _, .nil, _ => fun u hu => by cases hu
  | y :: xs, u :: us, .cons r t, f => fun u' hu => by
    rw [List.all_cons, Bool.and_eq_true] at f
    rcases List.mem_cons.mp hu with rfl | hu
    · rw [eqU_of r f.1]; exact eqAt_V r rx f.1 fx
    · exact mem_eqAt rx fx t f.2 u' hu
def inV (x : V) (xs : List V) : Bool := xs.any fun y => eqV y x
def rIn (K : PySem.W.Frag) (neg : Bool) : R2 := fun x y H Q => ∃ p xs, y = .ref p ∧ (SqL K H p xs ∨ SqT K H p xs) ∧ flatV x = true ∧ xs.all flatV = true ∧ Q (.bl (if neg then !inV x xs else inV x xs)) H
theorem op_in_seq : OpR X (compareOp .In) (rIn X.K false) := by
  intro pins s σ H x y v u Q I rx ry h
  obtain ⟨p, xs, rfl, hq, fx, fs, q⟩ := h
  cases ry
  rcases hq with hq | hq
  · obtain ⟨its, r, pl, hz⟩ := I.list hq
    refine SeqAt.in_listAt (eqU x) pl.isList (fun w hw => mem_eqAt rx fx r fs w (by simpa using hw)) ⟨.bl _, H, I, rfl, ?_⟩
    rw [show its.toArray.any (eqU x) = its.any (eqU x) by simp, any_eqU r fs]
    exact q
  · obtain ⟨its, r, pl, hz⟩ := I.tuple hq
    refine SeqAt.in_tupleAt (eqU x) pl (fun w hw => mem_eqAt rx fx r fs w (by simpa using hw)) ⟨.bl _, H, I, rfl, ?_⟩
    rw [show its.toArray.any (eqU x) = its.any (eqU x) by simp, any_eqU r fs]
    exact q
theorem call_len_seq : CallR X (.builtin "len") (fun xs H Q => ∃ p ys, xs = [.ref p] ∧ (SqL X.K H p ys ∨ SqT X.K H p ys) ∧ Q (.int ys.length) H) := by
  intro pins s σ H xs us Q I r h
  obtain ⟨p, ys, rfl, hq, q⟩ := h
  obtain ⟨u, rfl, rx⟩ := vals1 r
  cases rx
  have hn := line63
  rcases hq with hq | hq
  · obtain ⟨its, r', pl, hz⟩ := I.list hq
    have hlen := r'.length
    exact Calls.call_len_list pl.isList (by simp only [List.size_toArray] <;> omega) ⟨.int ys.length, H, I.tok _, ⟨s.toks + 1, by rw [List.size_toArray, hlen]⟩, q⟩
  · obtain ⟨its, r', pl, hz⟩ := I.tuple hq
    have hlen := r'.length
    exact len_tuple pl (by simp only [List.size_toArray] <;> omega) ⟨.int ys.length, H, I.tok _, ⟨s.toks + 1, by rw [List.size_toArray, hlen]⟩, q⟩
theorem call_list_of : CallR X (.type "list") (fun xs H Q => ∃ p ys, xs = [.ref p] ∧ (SqL X.K H p ys ∨ SqT X.K H p ys) ∧ ∀ l, H l = none → Q (.ref l) (upd H l (.lst ys))) := by
  intro pins s σ H xs us Q I r h
  obtain ⟨p, ys, rfl, hq, q⟩ := h
  obtain ⟨u, rfl, rx⟩ := vals1 r
  cases rx
  have fin : ∀ (its : List Value), Vals ys its → ys.length ≤ sizeLine → ∀ (h' : Heap) (c' : Nat), (∀ b o', s.heap.get? b = some o' → h'.get? b = some o') →
      h'.get? s.heap.objs.size = some { cls := .type "list", dict := none, data := .seq its.toArray c', slots := #[] } → EP X pins σ Q (.ref s.heap.objs.size) { s with heap := h' } := fun its r' hz h' c' kp e =>
    ⟨.ref s.heap.objs.size, _, I.laid (t' := s.toks) kp (Nat.le_refl _) (show ObjOk X.prog X.w _ h' _ (.lst ys) from ⟨hz, its, c', r', e⟩), rfl, q _ (I.hok.fresh (Nat.le_refl _))⟩
  rcases hq with hq | hq
  · obtain ⟨its, r', pl, hz⟩ := I.list hq
    have hlen := r'.length
    obtain ⟨o, ho, hc, n, hd⟩ := pl.isList
    exact call_list_seq p (.inl rfl) ho hc hd (fun h' c' kp e => fin its r' hz h' c' kp e) (by simp only [List.size_toArray] <;> omega)
  · obtain ⟨its, r', pl, hz⟩ := I.tuple hq
    have hlen := r'.length
    obtain ⟨o, ho, hc, n, hd⟩ := pl
    exact call_list_seq p (.inr rfl) ho hc hd (fun h' c' kp e => fin its r' hz h' c' kp e) (by simp only [List.size_toArray] <;> omega)
theorem call_tuple_of : CallR X (.type "tuple") (fun xs H Q => ∃ p ys, xs = [.ref p] ∧ ((SqL X.K H p ys ∧ ∀ l, H l = none → Q (.ref l) (upd H l (.tup ys))) ∨ (SqT X.K H p ys ∧ Q (.ref p) H))) := by
  intro pins s σ H xs us Q I r h
  obtain ⟨p, ys, rfl, h⟩ := h
  obtain ⟨u, rfl, rx⟩ := vals1 r
  cases rx
  rcases h with ⟨hq, q⟩ | ⟨hq, q⟩
  · obtain ⟨its, r', pl, hz⟩ := I.list hq
    have hlen := r'.length
    refine call_tuple_list pl.isList (fun h' kp => ?_) (by simp only [List.size_toArray] <;> omega)
    have I1 : Inv X pins σ H { s with heap := h' } := I.kept (t' := s.toks) kp
    have I2 : Inv X pins σ (upd H h'.objs.size (.tup ys)) { s with heap := h'.push { cls := .type "tuple", data := .seq its.toArray } } :=
      I1.laid (t' := s.toks) (fun b o e => Heap.get?_push_of_some _ e) (Nat.le_refl _) (show ObjOk X.prog X.w _ _ _ (.tup ys) from ⟨hz, its, r', IsTup.new _ _⟩)
    exact ⟨.ref h'.objs.size, _, I2, rfl, q _ (I1.hok.fresh (Nat.le_refl _))⟩
  · obtain ⟨its, r', pl, hz⟩ := I.tuple hq
    exact call_tuple_same pl ⟨.ref p, H, I, rfl, q⟩
def tyV (K : PySem.W.Frag) (T : String) (x : V) (H : Hp) : Prop := match x with
  | .str _ => T = "str"
  | .int _ => T = "int"
  | .ref p => (T = "list" ∧ ∃ xs, SqL K H p xs) ∨ (T = "tuple" ∧ ∃ o, K.lookup p = some o ∧ o.cls = .type "tuple" ∧ o.dict = none) ∨
      (T = "dict" ∧ ((∃ kvs, H p = some (.dK kvs)) ∨ ∃ kvs, H p = some (.dT kvs))) ∨ (T = "set" ∧ ∃ S n, H p = some (.set S n))
  | _ => False
theorem tyV_is {pins : List (Addr × Obj)} {σ : St} {H : Hp} {s : Shared} {T : String} {x : V} {v : Value} (I : Inv X pins σ H s) (r : RelV x v) (ty : tyV X.K T x H) :
    s.TypeIs v T ∧ ∀ a, v = .ref a → ∃ ob, s.heap.get? a = some ob ∧ ob.dict = none := by
  cases x with
  | str z =>
    obtain ⟨t, rfl⟩ := r
    cases (show T = "str" from ty)
    exact ⟨typeIs_str s z t, fun _ e => nomatch e⟩
  | int i =>
    obtain ⟨t, rfl⟩ := r
    cases (show T = "int" from ty)
    exact ⟨typeIs_int s i t, fun _ e => nomatch e⟩
  | ref p =>
    cases r
    rcases ty with ⟨rfl, xs, hq⟩ | ⟨rfl, o, hk, hc, hd⟩ | ⟨rfl, hk⟩ | ⟨rfl, S, n, hk⟩
    · obtain ⟨its, _, pl, _⟩ := I.list hq
      refine ⟨pl.isList.typeIs, fun a e => ?_⟩
      cases e
      obtain ⟨o, n, e, c, hd, _⟩ := pl
      exact ⟨o, e, hd⟩
    · refine ⟨⟨o, I.kIn p o hk, hc⟩, fun a e => ?_⟩
      cases e
      exact ⟨o, I.kIn _ o hk, hd⟩
    · have z : ∃ o, s.heap.get? p = some o ∧ o.ExactDict := by
        rcases hk with ⟨kvs, hk⟩ | ⟨kvs, hk⟩
        · obtain ⟨_, _, _, _, o, _, _, e, ex, _⟩ := I.hok p _ hk
          exact ⟨o, e, ex⟩
        · obtain ⟨_, _, _, _, o, _, _, e, ex, _⟩ := I.hok p _ hk
          exact ⟨o, e, ex⟩
      obtain ⟨o, e, ex⟩ := z
      refine ⟨⟨o, e, ex.1⟩, fun a e2 => ?_⟩
      cases e2
      exact ⟨o, e, ex.2.1⟩
    · obtain ⟨o, _, _, _, e, ex, _⟩ := I.hok p _ hk
      refine ⟨⟨o, e, ex.1⟩, fun a e2 => ?_⟩
      cases e2
      exact ⟨o, e, ex.2.1⟩
  | _ => exact False.elim ty
def tBM (K : PySem.W.Frag) (T : String) (r : V → List V → Hp → VK → Prop) (to : TE) (t : TA) : TE := fun σ H Q => to σ H fun x H1 => tyV K T x H1 ∧ t σ H1 fun xs H2 => r x xs H2 Q
variable {o e : Expr} {es : List Expr} {to : TE} {t : TA} {name : Str} {apos cpos : Pos} {T id : String} {r : V → List V → Hp → VK → Prop}
theorem pe_bm (pa : PlainAttrs T) (slot : Slot T name id) (hty : typeOf (.builtin id) = pure (.type "method_descriptor")) (hm : MtR X id r) (ho : PE X o to) (ha : PA X (e :: es) t)
    (hbase : attributeBase o name X.env (eval o X.env) = eval o X.env := by rfl)
    (hfew : ((backTo cpos (starEach (e :: es) X.env)).all (fun x => !x.1) && (backToKw cpos (keywordEach [] X.env)).all (fun x => x.1.isSome)
      && decide ((e :: es).length + ([] : List Keyword).length + (if ([] : List Keyword).isEmpty then 0 else 1) < 30)) = true := by rfl)
    (hline : (apos.endLine == cpos.line) = true := by rfl) (hs : starEach (e :: es) X.env = (false, eval e X.env) :: starEach es X.env := by rfl) (hplain : (backTo cpos (starEach es X.env)).any (·.1) = false := by rfl) :
    PE X (.Call (.Attribute o name apos) (e :: es) [] cpos) (tBM X.K T r to t) := by
  intro pins s σ H Q I h
  refine wpAny_Call_method_late hbase hfew hline rfl (thn (ho pins s σ H _ I h) fun v s1 ⟨x, H1, I1, r1, ty, q1⟩ => ?_)
  obtain ⟨h1, h2⟩ := tyV_is I1 r1 ty
  refine ⟨T, id, pa, slot, hty, h1, h2, ?_⟩
  have hA := ha cpos pins s1 σ H1 _ I1 q1
  rw [hs] at hA ⊢
  refine Calls.callWith_builtin (by show (false || (backTo cpos (starEach es X.env)).any (·.1)) = false; rw [hplain] <;> rfl) (Calls.evalArgs_plain ?_)
  exact thn hA fun us s2 ⟨vs, H2, I2, r2, q2⟩ => hm pins s2 σ H2 x vs v us Q I2 r1 r2 q2
end
end L2
namespace L2
open PySem PySem.Spec PyProof.Rows
def MtM (X : Cx) (id : String) (r : V → List V → Hp → VK → Prop) : Prop :=
  ∀ (pins : List (Addr × Obj)) (s : Shared) (σ : St) (H : Hp) (x : V) (xs : List V) (v : Value) (us : List Value) (Q : VK), Inv X pins σ H s → RelV x v → Vals xs us → r x xs H Q →
    wpAny (model X.prog X.w) X.A (call (.builtin id) (v :: us)) (EP X pins σ Q) X.xe s
theorem Vals.one : ∀ {x : V} {us : List Value}, Vals [x] us → ∃ u, us = [u] ∧ RelV x u
  | _, _, .cons r .nil => ⟨_, rfl, r⟩
theorem Vals.two : ∀ {x y : V} {us : List Value}, Vals [x, y] us → ∃ u v, us = [u, v] ∧ RelV x u ∧ RelV y v
  | _, _, _, .cons r (.cons q .nil) => ⟨_, _, rfl, r, q⟩
theorem Vals.reverse {xs : List V} {us : List Value} (h : Vals xs us) : Vals xs.reverse us.reverse := by
  induction h with
  | nil => exact .nil
  | cons r t ih => rw [List.reverse_cons, List.reverse_cons]; exact Vals.append ih (.cons r .nil)
section
variable {X : Cx} {pins : List (Addr × Obj)} {σ : St} {H : Hp} {s : Shared} {l b : Addr} {xs ys zs : List V}
theorem Inv.lset {its its' : List Value} {n : Nat} {f : Array Value → Array Value} {t' : Nat} (I : Inv X pins σ H s) (hH : H l = some (.lst xs))
    (e : s.heap.get? l = some { cls := .type "list", data := .seq its.toArray n }) (hf : f its.toArray = its'.toArray) (hv : Vals ys its') (hz : ys.length ≤ sizeLine) :
    Inv X pins σ (upd H l (.lst ys)) { s with heap := s.heap.update l (Obj.mapSeq f), toks := t' } := by
  have q := PySem.IsL.update e f
  rw [hf] at q
  refine I.write (x := l) (e := l) (by rw [hH]; exact trivial) (.inl rfl) (fun b' u hb hu => (Heap.get?_update_other s.heap (Obj.mapSeq f) (Ne.symm hb)).trans hu) ⟨_, q⟩ ?_
  exact ⟨hz, its', _, hv, q⟩
theorem Inv.lnew {its : List Value} {t' : Nat} (I : Inv X pins σ H s) (hv : Vals ys its) (hz : ys.length ≤ sizeLine) :
    Inv X pins σ (upd H s.heap.objs.size (.lst ys)) { s with heap := s.heap.push { cls := .type "list", data := .seq its.toArray }, toks := t' } :=
  I.laid (fun _ _ q => Heap.get?_push_of_some _ q) (Nat.le_refl _) ⟨hz, its, 0, hv, Heap.get?_push_size _ rfl⟩
theorem Inv.fresh (I : Inv X pins σ H s) : H s.heap.objs.size = none := I.hok.fresh (Nat.le_refl _)
theorem Inv.lstM (I : Inv X pins σ H s) (hH : H l = some (.lst xs)) : xs.length ≤ sizeLine ∧ ∃ (its : List Value) (n : Nat), Vals xs its ∧ xs.length = its.length ∧ s.heap.get? l = some { cls := .type "list", data := .seq its.toArray n } := by
  obtain ⟨z, its, n, r, e⟩ := I.hok l _ hH
  exact ⟨z, its, n, r, r.length, e⟩
theorem notLongL {n : Nat} (h : n ≤ sizeLine) : Builtin.List.listTooLong n = false := by
  unfold Builtin.List.listTooLong
  exact decide_eq_false (by omega)
end
section
variable {X : Cx}
def rAppend : V → List V → Hp → VK → Prop := fun x vs H Q => ∃ l xs y, x = .ref l ∧ vs = [y] ∧ H l = some (.lst xs) ∧ xs.length < sizeLine ∧ Q .non (upd H l (.lst (xs ++ [y])))
theorem mt_append : MtM X "list.append" rAppend := by
  intro pins s σ H x vs v us Q I rx rv h
  obtain ⟨l, xs, y, rfl, rfl, hH, hz, q⟩ := h
  cases rx
  obtain ⟨u, rfl, ru⟩ := rv.one
  obtain ⟨z, its, n, r, hl, e⟩ := I.lstM hH
  refine call_meets F.slot_list_append ⟨_, e, rfl⟩ F.entry_list_append (F.args_list_append_2 _ _) (PySem.list_append l its.toArray n u (by rw [List.size_toArray]; omega)) ⟨e, ?_⟩
  refine ⟨.non, _, I.lset (its' := its ++ [u]) hH e (by simp) (r.append (.cons ru .nil)) ?_, rfl, q⟩
  rw [List.length_append, List.length_singleton]
  omega
def rExtend : V → List V → Hp → VK → Prop := fun x vs H Q => ∃ l b xs zs, x = .ref l ∧ vs = [.ref b] ∧ H l = some (.lst xs) ∧ H b = some (.lst zs) ∧ xs.length + zs.length ≤ sizeLine ∧ Q .non (upd H l (.lst (xs ++ zs)))
theorem mt_extend : MtM X "list.extend" rExtend := by
  intro pins s σ H x vs v us Q I rx rv h
  obtain ⟨l, b, xs, zs, rfl, rfl, hH, hB, hz, q⟩ := h
  cases rx
  obtain ⟨u, rfl, ru⟩ := rv.one
  cases ru
  obtain ⟨z, its, n, r, hl, e⟩ := I.lstM hH
  obtain ⟨z2, its2, n2, r2, hl2, e2⟩ := I.lstM hB
  have hsz : its.toArray.size + its2.toArray.size ≤ sizeLine := by rw [List.size_toArray, List.size_toArray]; omega
  have hlong : ¬ (!its.toArray.isEmpty && Builtin.List.listTooLong (its.toArray.size + its2.toArray.size)) = true := by
    rw [notLongL hsz, Bool.and_false]
    exact Bool.false_ne_true
  refine call_meets F.slot_list_extend ⟨_, e, rfl⟩ F.entry_list_extend (F.args_list_extend_2 _ _)
    (AutoSeq1.list_extend_list_list_0 l its.toArray n b its2.toArray n2 hlong (by rw [List.size_toArray]; omega) (by omega)) ⟨e, e2, ?_⟩
  refine ⟨.non, _, I.lset (its' := its ++ its2) hH e (by simp) (r.append r2) ?_, rfl, q⟩
  rw [List.length_append]
  omega
def rCat : R2 := fun x y H Q => ∃ l b xs zs, x = .ref l ∧ y = .ref b ∧ H l = some (.lst xs) ∧ H b = some (.lst zs) ∧ xs.length + zs.length ≤ sizeLine ∧ ∀ p, H p = none → Q (.ref p) (upd H p (.lst (xs ++ zs)))
theorem op_cat : OpR X (binaryOp .Add) rCat := by
  intro pins s σ H x y v u Q I rx ry h
  obtain ⟨l, b, xs, zs, rfl, rfl, hH, hB, hz, q⟩ := h
  cases rx
  cases ry
  obtain ⟨z, its, n, r, hl, e⟩ := I.lstM hH
  obtain ⟨z2, its2, n2, r2, hl2, e2⟩ := I.lstM hB
  refine PySem.P.add_list e e2 ?_ (by rw [List.size_toArray, List.size_toArray]; omega)
  have ea : its.toArray ++ its2.toArray = (its ++ its2).toArray := by simp
  rw [ea]
  exact ⟨.ref _, _, I.lnew (t' := s.toks) (r.append r2) (by rw [List.length_append]; omega), rfl, q _ I.fresh⟩
end
section
variable {prog : Program} {w : World} {A : Around} {E : Value → Shared → Prop} {s : Shared}
end
section
variable {X : Cx}
end
end L2
namespace L2
open PySem PySem.Spec PyProof.Rows
section
variable {κ : Type} [DecidableEq κ]
def valV (kvs : List (κ × V)) (k : κ) : Option V := (kvs.find? fun kv => decide (kv.1 = k)).map (·.2)
def putK (kvs : List (κ × V)) (k : κ) (v : V) : List (κ × V) :=
  if (kvs.any fun kv => decide (kv.1 = k)) = true then kvs.map (fun kv => if kv.1 = k then (kv.1, v) else kv) else kvs ++ [(k, v)]
theorem valV_pos {p : κ × V} {r : List (κ × V)} {k : κ} (e : p.1 = k) : valV (p :: r) k = some p.2 := by simp [valV, List.find?_cons, e]
theorem valV_neg {p : κ × V} {r : List (κ × V)} {k : κ} (e : ¬ p.1 = k) : valV (p :: r) k = valV r k := by simp [valV, List.find?_cons, e]
theorem valV_any (k : κ) : ∀ kvs : List (κ × V), (kvs.any fun kv => decide (kv.1 = k)) = (valV kvs k).isSome
  | [] => rfl
  | p :: r => by
    rw [List.any_cons]
    by_cases e : p.1 = k
    · simp only [valV_pos e, decide_eq_true e, Bool.true_or, Option.isSome_some]
    · rw [valV_neg e, decide_eq_false e, Bool.false_or]; exact valV_any k r
theorem length_putK (kvs : List (κ × V)) (k : κ) (v : V) : (putK kvs k v).length ≤ kvs.length + 1 := by
  unfold putK
  split
  · rw [List.length_map]; omega
  · rw [List.length_append, List.length_cons, List.length_nil]; omega
theorem RelO.isSome_eq {o : Option V} {u : Option Value} (r : RelO o u) : o.isSome = u.isSome := by
  cases o with
  | none => cases u with
    | none => rfl
    | some _ => exact (show False from r).elim
  | some _ => cases u with
    | none => exact (show False from r).elim
    | some _ => rfl
theorem KV.val {kvs : List (κ × V)} {vs : List (κ × Value)} (r : KV kvs vs) (k : κ) : RelO (valV kvs k) (valueAt vs k) := by
  unfold KV at r
  induction r with
  | nil => exact True.intro
  | @cons p q ps qs h t ih =>
    obtain ⟨h1, h2⟩ := h
    by_cases e : p.1 = k
    · have e' : q.1 = k := h1.symm.trans e
      have b : valueAt (q :: qs) k = some q.2 := by simp [valueAt, List.find?_cons, e']
      rw [valV_pos e, b]; exact h2
    · have e' : ¬ q.1 = k := fun z => e (h1.trans z)
      have b : valueAt (q :: qs) k = valueAt qs k := by simp [valueAt, List.find?_cons, e']
      rw [valV_neg e, b]; exact ih
theorem KV.any {kvs : List (κ × V)} {vs : List (κ × Value)} (r : KV kvs vs) (k : κ) : (kvs.any fun kv => decide (kv.1 = k)) = vs.any fun kv => decide (kv.1 = k) := by
  unfold KV at r
  induction r with
  | nil => rfl
  | cons h t ih => rw [List.any_cons, List.any_cons, ih, h.1]
theorem KV.repl {kvs : List (κ × V)} {vs : List (κ × Value)} (r : KV kvs vs) (k : κ) {y : V} {u : Value} (ry : RelV y u) :
    KV (kvs.map fun kv => if kv.1 = k then (kv.1, y) else kv) (vs.map fun kv => if kv.1 = k then (kv.1, u) else kv) := by
  unfold KV at r ⊢
  induction r with
  | nil => exact .nil
  | @cons p q ps qs h t ih =>
    rw [List.map_cons, List.map_cons]
    refine .cons ?_ ih
    obtain ⟨h1, h2⟩ := h
    by_cases e : p.1 = k
    · rw [if_pos e, if_pos (h1.symm.trans e)]; exact ⟨h1, ry⟩
    · rw [if_neg e, if_neg (fun z => e (h1.trans z))]; exact ⟨h1, h2⟩
theorem KV.put {kvs : List (κ × V)} {vs : List (κ × Value)} (r : KV kvs vs) (k : κ) {y : V} {u : Value} (ry : RelV y u) : KV (putK kvs k y) (stored vs k u) := by
  unfold putK stored
  rw [r.any k]
  by_cases e : (vs.any fun kv => decide (kv.1 = k)) = true
  · rw [if_pos e, if_pos e]; exact r.repl k ry
  · rw [if_neg e, if_neg e]; exact Paired.snoc r ⟨rfl, ry⟩
theorem KV.length {kvs : List (κ × V)} {vs : List (κ × Value)} (r : KV kvs vs) : kvs.length = vs.length := Paired.length r
end
theorem kV_is {P : Program} {w : World} {k : Key} {u : Value} (r : RelV (kV k) u) : (mixKind P w).is k u = true := by
  cases k with
  | inl i => obtain ⟨t, e⟩ := (show ∃ t, u = Value.int i t from r); subst e; exact mixKind_int P w i t
  | inr x => obtain ⟨t, e⟩ := (show ∃ t, u = Value.str x t from r); subst e; exact mixKind_str P w x t
theorem items_are {P : Program} {w : World} : ∀ {ks : List Key} {us : List Value}, Vals (ks.map kV) us → ItemsAre (mixKind P w) ks us
  | [], _, r => by rw [List.map_nil] at r; cases r; exact .nil
  | k :: ks, _, r => by
    rw [List.map_cons] at r
    cases r with
    | cons h t => exact .cons (kV_is h) (items_are t)
abbrev KT (H : Hp) : List (List Key × V) → List (List Key × Addr × Value) → Prop := Paired fun p q => p.1 = q.1 ∧ H q.2.1 = some (.tup (p.1.map kV)) ∧ RelV p.2 q.2.2
theorem KT.val {H : Hp} {kvs : List (List Key × V)} {xs : List (List Key × Addr × Value)} (r : KT H kvs xs) (k : List Key) : RelO (valV kvs k) ((atKey xs k).map (·.2)) := by
  induction r with
  | nil => exact True.intro
  | @cons p q ps qs h t ih =>
    obtain ⟨h1, _, h2⟩ := h
    by_cases e : p.1 = k
    · have e' : q.1 = k := h1.symm.trans e
      have b : atKey (q :: qs) k = some q.2 := by simp [atKey, List.find?_cons, e']
      rw [valV_pos e, b]; exact h2
    · have e' : ¬ q.1 = k := fun z => e (h1.trans z)
      have b : atKey (q :: qs) k = atKey qs k := by simp [atKey, List.find?_cons, e']
      rw [valV_neg e, b]; exact ih
theorem KT.repl {H : Hp} {kvs : List (List Key × V)} {xs : List (List Key × Addr × Value)} (r : KT H kvs xs) (k : List Key) {y : V} {u : Value} (ry : RelV y u) :
    KT H (kvs.map fun kv => if kv.1 = k then (kv.1, y) else kv) (xs.map (putAt k u)) := by
  induction r with
  | nil => exact .nil
  | @cons p q ps qs h t ih =>
    rw [List.map_cons, List.map_cons]
    refine .cons ?_ ih
    obtain ⟨h1, h2, h3⟩ := h
    unfold putAt
    by_cases e : p.1 = k
    · rw [if_pos e, if_pos (h1.symm.trans e)]; exact ⟨h1, h2, ry⟩
    · rw [if_neg e, if_neg (fun z => e (h1.trans z))]; exact ⟨h1, h2, h3⟩
theorem KT.put {H : Hp} {kvs : List (List Key × V)} {xs : List (List Key × Addr × Value)} (r : KT H kvs xs) (k : List Key) {b : Addr} {y : V} {u : Value} (hb : H b = some (.tup (k.map kV))) (ry : RelV y u) :
    KT H (putK kvs k y) (storedH xs k b u) := by
  have e : (kvs.any fun kv => decide (kv.1 = k)) = (atKey xs k).isSome := by
    rw [valV_any, (r.val k).isSome_eq, Option.isSome_map]
  unfold putK storedH
  rw [e]
  by_cases q : (atKey xs k).isSome = true
  · rw [if_pos q, if_pos q]; exact r.repl k ry
  · rw [if_neg q, if_neg q]; exact Paired.snoc r ⟨rfl, hb, ry⟩
theorem KT.keeps {H H' : Hp} {kvs : List (List Key × V)} {xs : List (List Key × Addr × Value)} (r : KT H kvs xs) (ht : ∀ b ys, H b = some (.tup ys) → H' b = some (.tup ys)) : KT H' kvs xs :=
  Paired.mapP r fun _ _ z => ⟨z.1, ht _ _ z.2.1, z.2.2⟩
section
variable {P : Program} {w : World} {H : Hp} {h : Heap} {a : Addr}
theorem rd_of {u : HO} (ok : HOk P w H h) (e : Rd H a u) : ObjOk P w H h a u := e.ok ok
theorem dk_rd {kvs : List (Key × V)} (ok : HOk P w H h) (e : Rd H a (.dK kvs)) : kvs.length ≤ sizeLine ∧ (a == sysModules) = false ∧ ∃ vs, KV kvs vs ∧ h.DictOf (mixKind P w) a vs :=
  show ObjOk P w H h a (.dK kvs) from rd_of ok e
theorem dk_of {kvs : List (Key × V)} (ok : HOk P w H h) (e : H a = some (.dK kvs)) : kvs.length ≤ sizeLine ∧ (a == sysModules) = false ∧ ∃ vs, KV kvs vs ∧ h.DictOf (mixKind P w) a vs := dk_rd ok (.inl e)
theorem key_of {ks : List Key} (ok : HOk P w H h) (e : H a = some (.tup (ks.map kV))) : (tupleKind (mixKind P w)).is h ks a := by
  obtain ⟨_, its, r, o, h1, h2, n, h3⟩ := (show ObjOk P w H h a (.tup (ks.map kV)) from ok a _ e)
  exact ⟨o, its.toArray, n, h1, h2, h3, by simpa using items_are r⟩
theorem dt_rd {kvs : List (List Key × V)} (ok : HOk P w H h) (e : Rd H a (.dT kvs)) : kvs.length ≤ sizeLine ∧ (a == sysModules) = false ∧
    ∃ xs, KT H kvs xs ∧ h.DictOfH (tupleKind (mixKind P w)) a xs := by
  obtain ⟨z, y, xs, r, o, es, ep, h1, h2, h3, h4, h5⟩ := (show ObjOk P w H h a (.dT kvs) from rd_of ok e)
  refine ⟨z, y, xs, r, o, es, ep, h1, h2, h3, h4, fun x hx => ?_, h5⟩
  have all : ∀ {l : List (List Key × V)} {m : List (List Key × Addr × Value)}, KT H l m → ∀ x ∈ m, (tupleKind (mixKind P w)).is h x.1 x.2.1 := by
    intro l m q
    induction q with
    | nil => intro x hx; exact nomatch hx
    | @cons p q ps qs hq t ih =>
      intro x hx
      rcases List.mem_cons.mp hx with e | hx
      · subst e
        exact key_of ok (by rw [← hq.1]; exact hq.2.1)
      · exact ih x hx
  exact all r x hx
theorem dt_of {kvs : List (List Key × V)} (ok : HOk P w H h) (e : H a = some (.dT kvs)) : kvs.length ≤ sizeLine ∧ (a == sysModules) = false ∧
    ∃ xs, KT H kvs xs ∧ h.DictOfH (tupleKind (mixKind P w)) a xs := dt_rd ok (.inl e)
end
def DGet (H : Hp) (a : Addr) (y : V) (r : Option V) : Prop :=
  (∃ kvs k, Rd H a (.dK kvs) ∧ y = kV k ∧ r = valV kvs k) ∨ ∃ kvs k b, Rd H a (.dT kvs) ∧ y = .ref b ∧ H b = some (.tup (k.map kV)) ∧ r = valV kvs k
def DPut (H : Hp) (a : Addr) (y v : V) (H' : Hp) : Prop :=
  (∃ kvs k, H a = some (.dK kvs) ∧ y = kV k ∧ kvs.length < sizeLine ∧ H' = upd H a (.dK (putK kvs k v))) ∨
  ∃ kvs k b, H a = some (.dT kvs) ∧ y = .ref b ∧ H b = some (.tup (k.map kV)) ∧ kvs.length < sizeLine ∧ H' = upd H a (.dT (putK kvs k v))
theorem DGet.k {H : Hp} {a : Addr} {kvs : List (Key × V)} {k : Key} (e : H a = some (.dK kvs)) : DGet H a (kV k) (valV kvs k) := .inl ⟨kvs, k, .inl e, rfl, rfl⟩
theorem DGet.t {H : Hp} {a b : Addr} {kvs : List (List Key × V)} {k : List Key} (e : H a = some (.dT kvs)) (eb : H b = some (.tup (k.map kV))) : DGet H a (.ref b) (valV kvs k) := .inr ⟨kvs, k, b, .inl e, rfl, eb, rfl⟩
theorem DPut.k {H : Hp} {a : Addr} {kvs : List (Key × V)} {k : Key} {v : V} (e : H a = some (.dK kvs)) (hl : kvs.length < sizeLine) : DPut H a (kV k) v (upd H a (.dK (putK kvs k v))) := .inl ⟨kvs, k, e, rfl, hl, rfl⟩
theorem DPut.t {H : Hp} {a b : Addr} {kvs : List (List Key × V)} {k : List Key} {v : V} (e : H a = some (.dT kvs)) (eb : H b = some (.tup (k.map kV))) (hl : kvs.length < sizeLine) :
    DPut H a (.ref b) v (upd H a (.dT (putK kvs k v))) := .inr ⟨kvs, k, b, e, rfl, eb, hl, rfl⟩
section
variable {X : Cx} {pins : List (Addr × Obj)} {σ : St} {H : Hp} {s : Shared} {a : Addr} {y v : V} {u r : Value} {o : Option V} {A : Around} {E : Value → Shared → Prop}
theorem Inv.big (I : Inv X pins σ H s) : sysModules < s.heap.objs.size := by
  have h : mainGlobals < s.heap.objs.size := (I.mod.glob.keeps I.bk).lt
  exact Nat.lt_trans (by decide) h
theorem d_getItem {Q : Value → Shared → Prop} (hu : A.units + 1 < cLine) (I : Inv X pins σ H s) (g : DGet H a y (some v)) (ry : RelV y u) (h : ∀ w' s', Inv X pins σ H s' → RelV v w' → Q w' s') :
    wpAny (model X.prog X.w) A (getItem (.ref a) u) Q E s := by
  rcases g with ⟨kvs, k, e, ey, l⟩ | ⟨kvs, k, b, e, ey, eb, l⟩
  · subst ey
    obtain ⟨z, hd, vs, rel, dd⟩ := dk_rd I.hok e
    obtain ⟨w', hw, rw'⟩ := RelO.some_of (v := v) (o := valueAt vs k) (by rw [l]; exact rel.val k)
    exact wpAny_getItem_of (kV_is ry) dd.mapOf hw (h w' _ (I.tok _) rw')
  · subst ey
    cases (show u = Value.ref b from ry)
    obtain ⟨z, hd, xs, rel, dd⟩ := dt_rd I.hok e
    obtain ⟨w', hw, rw'⟩ := RelO.some_of (v := v) (o := (atKey xs k).map (·.2)) (by rw [l]; exact rel.val k)
    obtain ⟨p, hp, hp2⟩ := Option.map_eq_some_iff.mp hw
    refine wpAny_getItem_heap (tupleKind_room_in1 hu) (key_of I.hok eb) dd hp ?_
    rw [hp2]
    exact h w' _ (I.tok _) rw'
theorem d_in {Q : Value → Shared → Prop} (hu : A.units + 1 < cLine) (I : Inv X pins σ H s) (g : DGet H a y o) (ry : RelV y u) (h : ∀ s', Inv X pins σ H s' → Q (.bool o.isSome) s') :
    wpAny (model X.prog X.w) A (compareOp .In u (.ref a)) Q E s := by
  rcases g with ⟨kvs, k, e, ey, l⟩ | ⟨kvs, k, b, e, ey, eb, l⟩
  · subst ey
    obtain ⟨z, hd, vs, rel, dd⟩ := dk_rd I.hok e
    refine wpAny_in_of (kV_is ry) hd dd.mapOf ?_
    rw [← (rel.val k).isSome_eq, ← l]
    exact h _ (I.tok _)
  · subst ey
    cases (show u = Value.ref b from ry)
    obtain ⟨z, hd, xs, rel, dd⟩ := dt_rd I.hok e
    refine wpAny_in_heap (tupleKind_room_in1 hu) (key_of I.hok eb) hd dd ?_
    have q := (rel.val k).isSome_eq
    rw [Option.isSome_map] at q
    rw [← q, ← l]
    exact h _ (I.tok _)
theorem d_write {h' : Heap} {t' : Nat} {ob : HO} (I : Inv X pins σ H s) (mu : Mut (H a)) (hs : Heap.SameBut a s.heap h') (he : ∃ q, h'.get? a = some q) (new : ObjOk X.prog X.w (upd H a ob) h' a ob) :
    Inv X pins σ (upd H a ob) { s with heap := h', toks := t' } :=
  I.write (x := a) (e := a) mu (.inl rfl) (fun b q hb z => (hs.2 b hb).trans z) he new
theorem dk_new {P : Program} {w : World} {H' : Hp} {h' : Heap} {kvs : List (Key × V)} {vs : List (Key × Value)} (z : kvs.length ≤ sizeLine) (hd : (a == sysModules) = false) (rel : KV kvs vs) (dd : h'.DictOf (mixKind P w) a vs) :
    ObjOk P w H' h' a (.dK kvs) := ⟨z, hd, vs, rel, dd⟩
theorem d_setItem {H' : Hp} {Q : Unit → Shared → Prop} (hu : A.units + 1 < cLine) (I : Inv X pins σ H s) (g : DPut H a y v H') (ry : RelV y u) (rv : RelV v r) (h : ∀ s', Inv X pins σ H' s' → Q () s') :
    wpAny (model X.prog X.w) A (setItem (.ref a) u r) Q E s := by
  rcases g with ⟨kvs, k, e, ey, l, eH⟩ | ⟨kvs, k, b, e, ey, eb, l, eH⟩
  · subst ey eH
    obtain ⟨z, hd, vs, rel, dd⟩ := dk_of I.hok e
    have hz : vs.length ≤ sizeLine := by rw [← rel.length]; exact z
    have hl : (putK kvs k v).length ≤ sizeLine := by have := length_putK kvs k v; omega
    refine wpAny_setItem_pairs (hsz := hz) (kV_is ry) dd fun h' dd' hs => h _ ?_
    have he : ∃ q, h'.get? a = some q := let ⟨q, _, _, hq, _⟩ := dd'; ⟨q, hq⟩
    exact d_write I (by rw [e]; exact True.intro) hs he (dk_new hl hd (rel.put k rv) dd')
  · subst ey eH
    cases (show u = Value.ref b from ry)
    obtain ⟨z, hd, xs, rel, dd⟩ := dt_of I.hok e
    have hz : xs.length ≤ sizeLine := by rw [← Paired.length rel]; exact z
    have hl : (putK kvs k v).length ≤ sizeLine := by have := length_putK kvs k v; omega
    refine wpAny_setItem_heap (hsz := hz) (tupleKind_room_in1 hu) (key_of I.hok eb) dd fun h' dd' hs => h _ ?_
    obtain ⟨q, es, ep, hq, h2, h3, h4, _, h5⟩ := dd'
    refine d_write I (by rw [e]; exact True.intro) hs ⟨q, hq⟩ ⟨hl, hd, _, (rel.put k eb rv).keeps fun c ys ec => ?_, q, es, ep, hq, h2, h3, h4, h5⟩
    rw [upd_ne (ne_of ec e (fun z => nomatch z))]
    exact ec
end
section
variable {X : Cx} {pins : List (Addr × Obj)} {σ : St} {H : Hp} {s : Shared} {a : Addr} {kvs : List (Key × V)} {k : Key} {u : Value} {A : Around} {E : Value → Shared → Prop}
end
def NoSl (i : Expr) : Prop := ∀ ov iv, subscripted i false ov iv = operate [ov, iv] (getItem ov iv)
theorem subD_of {prog : Program} {w : World} {A : Around} {E : Value → Shared → Prop} {s : Shared} {env : Env} {value slice : Expr} {pos : Pos} {T id : String} {Q : Value → Shared → Prop}
    (hl : typeLookup (.type T) "__getitem__" = pure (some (.builtin id))) (hs : NoSl slice)
    (h : wpAny (model prog w) A (eval value env) (fun o s₁ => wpAny (model prog w) A (eval slice env) (fun i s₂ => s₂.TypeIs o T ∧ wpAny (model prog w) A (getItem o i) Q E s₂) E s₁) E s) :
    wpAny (model prog w) A (eval (.Subscript value slice pos) env) Q E s := by
  refine Subscript_ (wpAny_mono h (fun o s₁ h₁ => wpAny_mono h₁ (fun i s₂ h₂ => ?_) fun _ _ x => x) fun _ _ x => x)
  obtain ⟨hT, h₂⟩ := h₂
  unfold subscriptTail
  refine wpAny_bind ?_
  rw [getitemInPython_of_ne hT.not_modules]
  refine wpAny_bind (wpAny_specialOf hT hl ?_)
  have fin : wpAny (model prog w) A (subscripted slice false o i) (fun r s₃ => wpAny (model prog w) A (letTemporaryGo value o r >>= fun _ => pure r) Q E s₃) E s₂ := by
    rw [hs o i]
    exact wpAny_operating (wpAny_mono h₂ (fun r s₃ h₃ => wpAny_bind (wpAny_letTemporaryGo (wpAny_pure h₃))) fun _ _ x => x)
  first
    | exact wpAny_pure (wpAny_bind fin)
    | exact wpAny_bind (wpAny_pure (wpAny_bind fin))
    | exact wpAny_bind fin
theorem dict_typeIs {X : Cx} {pins : List (Addr × Obj)} {σ : St} {H : Hp} {s : Shared} {a : Addr} {y : V} {o : Option V} (I : Inv X pins σ H s) (g : DGet H a y o) : s.TypeIs (.ref a) "dict" := by
  rcases g with ⟨kvs, k, e, _, _⟩ | ⟨kvs, k, b, e, _, _, _⟩
  · obtain ⟨_, _, vs, _, dd⟩ := dk_rd I.hok e
    exact dd.typeIs
  · obtain ⟨_, _, xs, _, dd⟩ := dt_rd I.hok e
    exact dd.typeIs
def tDGet (td ty : TE) : TE := fun σ H Q => td σ H fun x H1 => ty σ H1 fun y H2 => ∃ a v, x = .ref a ∧ DGet H2 a y (some v) ∧ Q v H2
def tDIn (ty td : TE) : TE := fun σ H Q => ty σ H fun y H1 => td σ H1 fun x H2 => ∃ a o, x = .ref a ∧ DGet H2 a y o ∧ Q (.bl o.isSome) H2
def sDPut (td ty tv : TE) : TS := fun D σ H => tv σ H fun v H1 => td σ H1 fun x H2 => ty σ H2 fun y H3 => ∃ a H4, x = .ref a ∧ DPut H3 a y v H4 ∧ D.nx σ H4
section
variable {X : Cx} {o i e value : Expr} {pos pos' tpos : Pos} {td ty tv : TE}
theorem pe_dget (hu : X.A.units + 1 < cLine) (ho : PE X o td) (hi : PE X i ty) (hs : NoSl i) : PE X (.Subscript o i pos) (tDGet td ty) := by
  intro pins s σ H Q I h
  refine subD_of PySem.F.slot_dict_getitem.lookup hs (thn (ho pins s σ H _ I h) fun u s1 ⟨x, H1, I1, rx, q1⟩ => thn (hi pins s1 σ H1 _ I1 q1) fun iv s2 ⟨y, H2, I2, ry, a, v, ex, g, q2⟩ => ?_)
  subst ex
  obtain rfl : u = Value.ref a := rx
  exact ⟨dict_typeIs I2 g, d_getItem hu I2 g ry fun w' s3 I3 rw' => ⟨v, H2, I3, rw', q2⟩⟩
theorem pc_din (hu : X.A.units + 1 < cLine) (hi : PE X i ty) (ho : PE X o td) : PC X .In i o (tDIn ty td) := by
  intro pins s σ H Q I h
  refine thn (hi pins s σ H _ I h) fun iv s1 ⟨y, H1, I1, ry, q1⟩ => thn (ho pins s1 σ H1 _ I1 q1) fun u s2 ⟨x, H2, I2, rx, a, ov, ex, g, q2⟩ => ?_
  subst ex
  obtain rfl : u = Value.ref a := rx
  exact d_in hu I2 g ry fun s3 I3 => ⟨.bl ov.isSome, H2, I3, rfl, q2⟩
theorem ps_dput (hu : X.A.units + 1 < cLine) (ho : PE X o td) (hi : PE X i ty) (hv : PE X value tv) (hs : swapsWith value (some (.Subscript o i pos')) pos.line X.env = pure false) :
    PS X (.Assign [.Subscript o i pos'] value pos) (sDPut td ty tv) := by
  intro pins s σ H D I h
  refine wpAny_Assign_Subscript (thn (hv pins s σ H _ I h) fun r s1 ⟨v, H1, I1, rv, q1⟩ => thn (ho pins s1 σ H1 _ I1 q1) fun u s2 ⟨x, H2, I2, rx, q2⟩ => thn (hi pins s2 σ H2 _ I2 q2) fun iv s3 ⟨y, H3, I3, ry, a, H4, ex, g, q3⟩ => ?_) hs
  subst ex
  obtain rfl : u = Value.ref a := rx
  exact d_setItem hu I3 g ry rv fun s4 I4 => ⟨σ, H4, I4, q3⟩
end
theorem dk_empty {P : Program} {w : World} {H : Hp} (h : Heap) (hb : sysModules < h.objs.size) : ObjOk P w H (h.push { cls := .type "dict", data := .dict #[] }) h.objs.size (.dK []) :=
  ⟨Nat.zero_le _, beq_eq_false_iff_ne.mpr (Ne.symm (Nat.ne_of_lt hb)), [], .nil, Heap.DictOf.new h⟩
theorem dt_empty {P : Program} {w : World} {H : Hp} (h : Heap) (hb : sysModules < h.objs.size) : ObjOk P w H (h.push { cls := .type "dict", data := .dict #[] }) h.objs.size (.dT []) :=
  ⟨Nat.zero_le _, beq_eq_false_iff_ne.mpr (Ne.symm (Nat.ne_of_lt hb)), [], .nil, _, #[], 0, Heap.get?_push_size _ rfl, ⟨rfl, rfl, rfl⟩, rfl, rfl, List.nodup_nil⟩
def tDNewK : TE := fun _ H Q => ∀ p, H p = none → Q (.ref p) (upd H p (.dK []))
def tDNewT : TE := fun _ H Q => ∀ p, H p = none → Q (.ref p) (upd H p (.dT []))
section
variable {X : Cx} {pos : Pos}
theorem pe_dnewK : PE X (.Dict [] [] pos) tDNewK := fun pins s σ H Q I h =>
  wpAny_Dict_empty ⟨.ref s.heap.objs.size, _, I.laid (a := s.heap.objs.size) (o := .dK []) (t' := s.toks) (fun _ _ q => Heap.get?_push_of_some _ q) (Nat.le_refl _) (dk_empty s.heap I.big), rfl, h _ (I.hok.fresh (Nat.le_refl _))⟩
theorem pe_dnewT : PE X (.Dict [] [] pos) tDNewT := fun pins s σ H Q I h =>
  wpAny_Dict_empty ⟨.ref s.heap.objs.size, _, I.laid (a := s.heap.objs.size) (o := .dT []) (t' := s.toks) (fun _ _ q => Heap.get?_push_of_some _ q) (Nat.le_refl _) (dt_empty s.heap I.big), rfl, h _ (I.hok.fresh (Nat.le_refl _))⟩
end
section
variable {X : Cx} {pins : List (Addr × Obj)} {σ : St} {H : Hp} {s : Shared} {a : Addr} {y d : V} {u r : Value} {o : Option V} {A : Around} {E : Value → Shared → Prop}
end
section
variable {X : Cx} {o e f : Expr} {apos cpos : Pos} {td ty tx : TE}
end
section
variable {X : Cx} {pins : List (Addr × Obj)} {σ : St} {H : Hp} {s : Shared} {a : Addr} {kvs : List (Key × V)} {A : Around} {E : Value → Shared → Prop}
end
section
variable {X : Cx} {pins : List (Addr × Obj)} {σ : St} {H : Hp} {s : Shared} {a : Addr} {y : V} {u : Value} {A : Around} {E : Value → Shared → Prop}
end
end L2
namespace Att
open PySem PySem.W PySem.Calls PyProof.Rows
theorem ints_of_wellAll {P : Params} {h : Heap} : ∀ (ns : List Int) (vs : List Value), WellAll P h vs (ns.map WData.int) → IntsAre vs ns := by
  intro ns
  induction ns with
  | nil =>
    intro vs w
    rw [List.map_nil] at w
    cases w
    exact .nil
  | cons n ns ih =>
    intro vs w
    rw [List.map_cons] at w
    cases w with
    | cons a b =>
      cases a
      exact .cons _ _ (ih _ b)
theorem script_of {l : OpenLaw} {n : Nat} (hn : l.most = some n) {P : Params} {h : Heap} {args : List WData} {vals : List Value}
    (hpre : l.row.toRowW.claim.pre args = true) (hwl : WellAll P h vals args) :
    ∃ a vs ns, vals = [Value.ref a] ∧ args = [WData.list (ns.map WData.int)] ∧ h.get? a = some { cls := .type "list", data := .seq vs.toArray } ∧ IntsAre vs ns ∧ ns.length ≤ n := by
  have hsh : WShape.hasAll [] args [.list .int] = true := (pre_splitW hpre).1
  have hc : l.pre.holds [] { args := args } = true := (pre_splitW hpre).2
  obtain ⟨d, r, rfl, h1, h2⟩ := hasAllW_cons hsh
  obtain rfl := hasAllW_nil h2
  obtain ⟨xs, rfl, h3⟩ := hasW_list h1
  obtain ⟨ns, rfl⟩ := items_int h3
  have hlen : ns.length ≤ n := by
    unfold OpenLaw.pre at hc
    have h4 : (WTm.not (.lt (.lit (.int (n : Int))) (.len (.arg 0)))).holds [] { args := [.list (ns.map .int)] } = true := by
      have h4 := (holds_andW hc).1
      rw [hn] at h4
      exact h4
    have h5 := condW_of h4 (w_not (w_lt w_lit (w_len_list (w_arg rfl))))
    rw [List.length_map] at h5
    refine Nat.le_of_not_lt fun q => ?_
    have q' : (n : Int) < ((ns.length : Nat) : Int) := by omega
    first
      | (rw [decide_eq_true q'] at h5; exact absurd h5 (by decide))
      | (simp at h5; omega)
  cases hwl with
  | cons w1 w2 =>
    cases w2
    cases w1 with
    | list ho hall => exact ⟨_, _, ns, rfl, rfl, ho, ints_of_wellAll ns _ hall, hlen⟩
theorem post_true (l : OpenLaw) (args : List WData) : l.row.toRowW.claim.post args (.bool true) args = true :=
  postW_of (r := l.row.toRowW) (X := (true == true))
    (show WShape.has [] (.bool true) .bool = true by first | rfl | decide | simp [WShape.has, WShape.arms, WShape.armsAll])
    (show (WTm.eq .res (.lit (.bool true))).value [] { args := args, res := some (.bool true), after := args } = some (.bool (true == true)) from w_eq_bool (w_res rfl) w_lit) rfl
theorem attach_call {l : OpenLaw} {n : Nat} {q : Program} {loose : List Str} {XP : (Str → Option Value) → Heap → Prop} {YP : World → Heap → Prop} {d : DefRec}
    (hn : l.most = some n) (hdf : d.params.defaults = [])
    (call : ∀ (w : World) (s₀ s₁ : Shared) (mg mb : Str → Option Value) (fa : Addr) (o : Obj) (pm cd doc : Value) (a : Addr) (vs : List Value) (ns : List Int),
      Ground q loose [] XP w s₀ mg mb s₁.heap → YP w s₁.heap →
      s₁.heap.get? fa = some o → o.data = .func (docDef d.name d.params d.body d.scope pm cd doc) → s₁.heap.CodeRec cd d.name → mg d.name = some (.ref fa) →
      s₁.heap.get? a = some { cls := .type "list", data := .seq vs.toArray } → IntsAre vs ns → ns.length ≤ n → s₁.gens = #[] →
      codeAny (model l.prog w) callerA (.call (.ref fa) ⟨[.ref a], []⟩) (fun r s' => r = .ok (.ret (.bool true)) ∧ OldK s₁.heap s'.heap ∧ s'.os = s₁.os ∧ AllBare s'.gens) s₁) :
    WalkO q loose XP YP l.row.toRowW d [] (fun f vs => PySem.call f vs) := by
  intro w s₀ s₁ mg mb G Y fa o pm cd doc dV kV ho hd hcd hD hmg hg args vals as hpre hlay hrd hwl hlo
  obtain rfl : dV = .none := Dflts.none hD hdf
  obtain rfl : kV = .none := Dflts.noKw hD
  obtain ⟨a, vs, ns, rfl, rfl, hobj, hints, hlen⟩ := script_of hn hpre hwl
  refine enter_call (codeAny_mono (call w s₀ s₁ mg mb fa o pm cd doc a vs ns G Y ho (fd_plain hd) hcd hmg hobj hints hlen hg) fun r s' hq => ?_)
  obtain ⟨rfl, h2, h3, h4⟩ := hq
  exact ⟨.inl ⟨.bool true, .bool true, [], rfl, fun _ => rfl, .bool true, post_true l _, fun _ => ⟨List.Pairwise.nil, fun _ hm => (nomatch hm)⟩⟩, h2, h3, h4⟩
section
variable {prog : Program} {w : World} {A : Around} {E : Value → Shared → Prop} {s : Shared} {K : Frag}
end
end Att
namespace L2
open PySem PySem.Spec PyProof.Rows
theorem vals_ints : ∀ {vs : List Value} {ns : List Int}, IntsAre vs ns → Vals (ns.map V.int) vs
  | _, _, .nil => .nil
  | _, _, .cons n t h => .cons ⟨t, rfl⟩ (vals_ints h)
def Only (H : Hp) : Prop := ∀ b, H b = none ∨ ∃ o xs, H b = some (.frz o (.lst xs))
theorem law_call {P : Program} {w : World} {K : PySem.W.Frag} {mg mb : Str → Option Value} {CX : CXT} {k : Nat} {fa a : Addr} {fd : FuncData} {x : Str} {sp : Sp} {s₁ : Shared} {vs : List Value} {ns : List Int}
    (KX : K.In s₁.heap) (hns : s₁.heap.Ns mainGlobals mg) (hb : s₁.heap.Ns builtinsNs mb) (hbb : ∀ x : Str, x ≠ "__name__" → mb x = bootBuiltins x) (hlim : s₁.heap.NoLimit) (hg : s₁.gens = #[])
    (ha : s₁.heap.get? a = some { cls := .type "list", data := .seq vs.toArray }) (hi : IntsAre vs ns) (hl : ns.length ≤ sizeLine) (hr : Room k callerA)
    (F : ∀ base : Heap, K.In base → base.Ns mainGlobals mg → FnOk P w K mg base CX k fa fd [x] sp) (hbind : ∀ (s : Shared) (u : Value), BindsTo s fd ⟨[u], []⟩ [(x, u)])
    (hsp : ∀ H : Hp, Only H → SqL K H a (ns.map V.int) → sp [.ref a] H (fun v _ => v = .bl true) fun _ _ _ => False)
    (hCX : ∀ H e s', CX [] H s₁ (fun _ _ _ => False) e s' → False) :
    codeAny (model P w) callerA (.call (.ref fa) ⟨[.ref a], []⟩) (fun r s' => r = .ok (.ret (.bool true)) ∧ OldK s₁.heap s'.heap ∧ s'.os = s₁.os ∧ AllBare s'.gens) s₁ := by
  have rv := vals_ints hi
  have lenV := hi.length
  -- from an abstract heap in which nothing but the script may be tracked
  have core : ∀ H : Hp, Only H → SqL K H a (ns.map V.int) → HOk P w H s₁.heap → (∀ b, H b ≠ none → b = a) → (H a ≠ none → K.lookup a = none) →
      codeAny (model P w) callerA (.call (.ref fa) ⟨[.ref a], []⟩) (fun r s' => r = .ok (.ret (.bool true)) ∧ OldK s₁.heap s'.heap ∧ s'.os = s₁.os ∧ AllBare s'.gens) s₁ := by
    intro H hO hS hok hA hK
    have base_of : ∀ {b : Addr} {o : Obj}, s₁.heap.get? b = some o → H b = none → (hidT s₁.heap H).get? b = some o := fun e n => hidT_get e n
    have noA : ∀ {b : Addr} {o : Obj} {es : Array DictEntry} {ep : Nat}, s₁.heap.get? b = some o → o.data = .dict es ep → H b = none := fun {b o es ep} e d => by
      cases q : H b with
      | none => rfl
      | some u =>
        have e' : b = a := hA b (by rw [q]; simp)
        subst e'
        rw [ha] at e; cases e
        have d' : Data.seq vs.toArray _ = Data.dict es ep := d
        cases d'
    have nsK : ∀ {b : Addr} {m : Str → Option Value}, s₁.heap.Ns b m → (hidT s₁.heap H).Ns b m := fun {b m} ⟨o, es, ep, e, d, r⟩ => ⟨o, es, ep, base_of e (noA e d), d, r⟩
    have hKb : K.In (hidT s₁.heap H) := fun b o e => base_of (KX b o e) (by
      cases q : H b with
      | none => rfl
      | some u =>
        have e' : b = a := hA b (by rw [q]; simp)
        subst e'
        rw [hK (by rw [q]; simp)] at e; cases e)
    have hM : Mod K mg (hidT s₁.heap H) := ⟨hKb, nsK hns, ⟨mb, nsK hb, hbb⟩, let ⟨mc, h1, h2⟩ := hlim; ⟨mc, nsK h1, h2⟩⟩
    have e0 : Env0 P w K mg (hidT s₁.heap H) callerA [] s₁ H := ⟨rfl, hM, fun b o e => of_hidT e, Nat.le_of_eq (hidT_size _ _), trivial, fun b hb => absurd (show b ∈ ([] : List Addr) from hb) (by simp), hok, .of_eq hg⟩
    refine codeAny_mono ((F _ hKb (nsK hns)).run callerA [] s₁ H ⟨[.ref a], []⟩ [.ref a] [.ref a] _ _ hr e0 (hbind s₁ (.ref a)) (.cons rfl .nil) (hsp H hO hS)) fun r s' h => ?_
    cases r with
    | error e => exact (hCX H e s' h).elim
    | ok fl =>
      cases fl with
      | next => exact False.elim h
      | brk => exact False.elim h
      | cont => exact False.elim h
      | ret u =>
        obtain ⟨v, H', os, bare, un, hok', r', q⟩ := h
        have q' : v = .bl true := q
        subst q'
        obtain rfl : u = Value.bool true := r'
        refine ⟨rfl, OldK.of_keep fun b o e => ?_, os, bare⟩
        cases q : H b with
        | none => exact un.keep b o e q (by intro z; exact absurd (show b ∈ ([] : List Addr) from z) (by simp)) (by simp)
        | some u =>
          rcases hO b with z | ⟨ob, xs, z⟩
          · rw [q] at z; cases z
          · have z2 := un.frzs b ob _ z
            obtain ⟨e1, _⟩ := hok b _ z
            obtain ⟨e2, _⟩ := hok' b _ z2
            rw [e] at e1; cases e1
            exact e2
  cases hk : K.lookup a with
  | some o =>
    -- the script is one of the module's own objects
    have e := KX a o hk
    rw [ha] at e
    cases e
    refine core (fun _ => none) (fun _ => .inl rfl) (.inr ⟨_, vs.toArray, _, hk, rfl, rfl, rfl, by rw [List.size_toArray, lenV]; exact hl, by simpa using rv⟩) (fun b u z => by have z' : (none : Option HO) = some u := z; cases z') (fun b z => absurd rfl z) fun z => absurd rfl z
  | none =>
    refine core (fun b => if b = a then some (.frz { cls := .type "list", data := .seq vs.toArray } (.lst (ns.map V.int))) else none) (fun b => ?_) (.inl (.inr ⟨{ cls := .type "list", data := .seq vs.toArray }, if_pos rfl⟩)) (fun b u z => ?_) (fun b z => ?_) fun _ => hk
    · by_cases hb : b = a
      · exact .inr ⟨_, _, if_pos hb⟩
      · exact .inl (if_neg hb)
    · by_cases hb : b = a
      · have z' := (if_pos hb).symm.trans z
        cases z'
        subst hb
        exact ⟨ha, by rw [List.length_map]; exact hl, vs, _, rv, ha⟩
      · have z' := (if_neg hb).symm.trans z
        cases z'
    · by_cases hb : b = a
      · exact hb
      · exact absurd (if_neg hb) z
end L2
namespace L2
open PySem PySem.Spec PyProof.Rows
abbrev KOf {K : PySem.W.Frag} {h : Heap} (_ : K.In h) : PySem.W.Frag := K
theorem walk_of {l : PySem.W.OpenLaw} {n k : Nat} {q : Program} {loose : List Str} {XP : (Str → Option Value) → Heap → Prop} {YP : World → Heap → Prop} {d : DefRec} {K : Params → PySem.W.Frag} {CX : World → CXT} {sp : World → Sp} {x : Str}
    (hn : l.most = some n) (hn2 : n ≤ sizeLine) (hdf : d.params.defaults = []) (hr : Room k callerA)
    (hY : ∀ (w : World) (h : Heap), YP w h → (K w.params).In h)
    (F : ∀ (w : World) (mg : Str → Option Value) (fa : Addr) (h : Heap), (K w.params).In h → h.Ns mainGlobals mg → mg d.name = some (.ref fa) →
      ∃ fd : FuncData, (∀ (s : Shared) (u : Value), BindsTo s fd ⟨[u], []⟩ [(x, u)]) ∧
        ∀ base : Heap, (K w.params).In base → base.Ns mainGlobals mg → FnOk l.prog w (K w.params) mg base (CX w) k fa fd [x] (sp w))
    (hsp : ∀ (w : World) (H : Hp) (a : Addr) (ns : List Int), ns.length ≤ n → Only H → SqL (K w.params) H a (ns.map V.int) → sp w [.ref a] H (fun v _ => v = .bl true) fun _ _ _ => False)
    (hCX : ∀ (w : World) (H : Hp) (s : Shared) (e : Value) (s' : Shared), CX w [] H s (fun _ _ _ => False) e s' → False) :
    PySem.W.WalkO q loose XP YP l.row.toRowW d [] (fun f vs => PySem.call f vs) := by
  refine Att.attach_call hn hdf fun w s₀ s₁ mg mb fa o pm cd doc a vs ns G Y ho hd hcd hmg hobj hints hlen hg => ?_
  have KX := hY w _ Y
  obtain ⟨fd, hb, hF⟩ := F w mg fa _ KX G.T.g hmg
  exact law_call KX G.T.g G.T.b G.T.builtins G.T.nolimit hg hobj hints (Nat.le_trans hlen hn2) hr hF hb (fun H hO hS => hsp w H a ns hlen hO hS) fun H e s' => hCX w H s₁ e s'
theorem walk_ofK {l : PySem.W.OpenLaw} {n k : Nat} {q : Program} {loose : List Str} {XP : (Str → Option Value) → Heap → Prop} {YP : World → Heap → Prop} {d : DefRec} {K : Params → PySem.W.Frag} {CX : CXT} {sp : PySem.W.Frag → Sp} {x : Str}
    (hn : l.most = some n) (hn2 : n ≤ sizeLine) (hdf : d.params.defaults = []) (hr : Room k callerA)
    (hY : ∀ (w : World) (h : Heap), YP w h → (K w.params).In h)
    (F : ∀ (w : World) (mg : Str → Option Value) (fa : Addr) (h : Heap), (K w.params).In h → h.Ns mainGlobals mg → mg d.name = some (.ref fa) →
      ∃ fd : FuncData, (∀ (s : Shared) (u : Value), BindsTo s fd ⟨[u], []⟩ [(x, u)]) ∧
        ∀ base : Heap, (K w.params).In base → base.Ns mainGlobals mg → FnOk l.prog w (K w.params) mg base CX k fa fd [x] (sp (K w.params)))
    (hsp : ∀ (K : PySem.W.Frag) (H : Hp) (a : Addr) (ns : List Int), ns.length ≤ n → Only H → SqL K H a (ns.map V.int) → sp K [.ref a] H (fun v _ => v = .bl true) fun _ _ _ => False)
    (hCX : ∀ (H : Hp) (s : Shared) (e : Value) (s' : Shared), CX [] H s (fun _ _ _ => False) e s' → False) :
    PySem.W.WalkO q loose XP YP l.row.toRowW d [] (fun f vs => PySem.call f vs) :=
  walk_of (K := K) (CX := fun _ => CX) (sp := fun w => sp (K w.params)) hn hn2 hdf hr hY F (fun w H a ns h1 h2 h3 => hsp (K w.params) H a ns h1 h2 h3) fun _ H s e s' => hCX H s e s'
end L2
namespace L2
open PySem PySem.Spec PyProof.Rows
def inClass (s : Stmt) (j : Nat) : Stmt := match s with
  | .ClassDef _ _ _ body _ _ _ _ _ _ _ => body.getD j (.Pass ⟨0, 0, 0, 0⟩)
  | _ => .Pass ⟨0, 0, 0, 0⟩
def defArgs (s : Stmt) : Arguments := match s with
  | .FunctionDef _ a _ _ _ _ _ _ _ _ => a
  | _ => { posonlyargs := [], args := [], vararg := none, kwonlyargs := [], kw_defaults := [], kwarg := none, defaults := [] }
def defBody (s : Stmt) : List Stmt := match s with
  | .FunctionDef _ _ b _ _ _ _ _ _ _ => b
  | _ => []
def defScope (s : Stmt) : Scope := match s with
  | .FunctionDef _ _ _ _ _ _ sc _ _ _ => sc
  | _ => { kind := .function, names := [], isGenerator := false, isCoroutine := false }
abbrev CX0 : CXT := fun _ _ _ _ _ _ => False
abbrev E0 : XK := fun _ _ _ => False
theorem pass0 {X : Cx} : Passes CX0 X E0 := fun _ _ _ _ _ _ _ h => h.elim
structure Fun (K : PySem.W.Frag) (x qual : Str) (st : Stmt) (f : Addr) (fd : FuncData) : Prop where
  ex : ∃ (oc : Value) (od : Option Addr) (kV doc pm : Value) (an : Option Addr) (cdv ct : Value) (osl : Array (Option Value)),
    fd = PySem.W.fnOf x qual (defArgs st) (defBody st) (defScope st) .none kV doc pm an cdv ct ∧ K.lookup f = some ⟨oc, od, .func fd, osl⟩ ∧ PySem.W.codeIn K cdv qual = true
  kp : PySem.W.keepIn K (.ref f) = true
section
variable {P : Program} {w : World} {K : PySem.W.Frag} {mg : Str → Option Value} {base : Heap}
theorem Fun.ok {x qual : Str} {st : Stmt} {f : Addr} {fd : FuncData} {N ps : List Str} {k : Nat} {sp : Sp} (F : Fun K x qual st f fd) (S : FnScope N ps (defScope st)) (len : ∀ vs H Q E, sp vs H Q E → vs.length = ps.length)
    (hbody : ∀ (cdv : Value) (A : Around) (outer : List Env) (s : Shared) (H : Hp) (vs : List V) (Q : VK) (E : XK), Room k (A.deeper (envOfC qual (defScope st) s.heap.objs.size f cdv)) → sp vs H Q E →
      ∃ t, PSs (cxOf CX0 P w K mg base N qual (defScope st) f cdv A outer s H E).nox (defBody st) t ∧ t { nx := fun _ H' => Q .non H', rt := Q } (start N vs) H) : FnOk P w K mg base CX0 (k + 1) f fd ps sp := by
  obtain ⟨oc, od, kV, doc, pm, an, cdv, ct, osl, rfl, lk, hcd⟩ := F.ex
  refine fn_of lk hcd S len fun A outer s H vs Q E hr hsp => ?_
  obtain ⟨t, h, q⟩ := hbody cdv A outer s H vs Q E hr hsp
  exact ⟨t, h.nox, q⟩
theorem Fun.binds {x qual : Str} {st : Stmt} {f : Addr} {fd : FuncData} {ps : List Str} (F : Fun K x qual st f fd)
    (h : ∀ (kV doc pm : Value) (an : Option Addr) (cdv ct : Value) (us : List Value), us.length = ps.length → bindArgs (PySem.W.fnOf x qual (defArgs st) (defBody st) (defScope st) .none kV doc pm an cdv ct) ⟨us, []⟩ = pure (ps.zip us)) : Binds K fd ps [] := by
  obtain ⟨oc, od, kV, doc, pm, an, cdv, ct, osl, rfl, lk, hcd⟩ := F.ex
  exact .all (h kV doc pm an cdv ct)
theorem fun_mk {x qual : Str} {st : Stmt} {f : Addr} {oc : Value} {od an : Option Addr} {osl : Array (Option Value)} {kV doc pm cdv ct : Value} (l : K.lookup f = some ⟨oc, od, .func (PySem.W.fnOf x qual (defArgs st) (defBody st) (defScope st) .none kV doc pm an cdv ct), osl⟩)
    (c : PySem.W.codeIn K cdv qual = true) (k : PySem.W.keepIn K (.ref f) = true) : Fun K x qual st f (PySem.W.fnOf x qual (defArgs st) (defBody st) (defScope st) .none kV doc pm an cdv ct) := ⟨⟨oc, od, kV, doc, pm, an, cdv, ct, osl, rfl, l, c⟩, k⟩
end
theorem hu_of {A : Around} {k : Nat} (hr : Room k A) : A.units + 1 < cLine := Nat.lt_of_le_of_lt (Nat.add_le_add_left (by decide : 1 ≤ 64) _) hr.units
theorem small1000 {n : Nat} (h : n ≤ 1000) : n < sizeLine := Nat.lt_of_le_of_lt h (by decide)
section
variable {X : Cx}
theorem pv (i : Nat) {x : Str} {pos : Pos} (hN : X.N[i]? = some x := by rfl) (hv : Vis X.env.scope x := by first | exact Or.inl rfl | exact Or.inr (Or.inl rfl) | exact Or.inr (Or.inr rfl)) (hd : (x == ("__debug__" : Str)) = false := by decide)
    (hcd : (x == ("__classdict__" : Str)) = false := by decide) : PE X (.Name x pos) (tVar i) := pe_var hN hv hd hcd
end
theorem iteF {A B : Prop} (h : B) : if false = true then A else B := by
  rw [if_neg Bool.false_ne_true]
  exact h
theorem iteT {A B : Prop} (h : A) : if true = true then A else B := by
  rw [if_pos rfl]
  exact h
theorem ite2 {c A B : Prop} [Decidable c] (h1 : c → A) (h2 : ¬ c → B) : if c then A else B := by
  by_cases h : c
  · rw [if_pos h]
    exact h1 h
  · rw [if_neg h]
    exact h2 h
def Same (H H' : Hp) : Prop := ∀ b o, H b = some o → H' b = some o
theorem Same.refl (H : Hp) : Same H H := fun _ _ h => h
theorem Same.trans {H H1 H2 : Hp} (a : Same H H1) (b : Same H1 H2) : Same H H2 := fun c o h => b c o (a c o h)
theorem Same.free {H H' : Hp} (e : Same H H') {l : Addr} (h : H' l = Option.none) : H l = Option.none := by
  cases q : H l with
  | none => rfl
  | some o =>
    rw [e l o q] at h
    cases h
section
variable {κ : Type} [DecidableEq κ]
end
end L2

/-! BExt1 -/
set_option Elab.async false
set_option linter.all false
set_option maxRecDepth 100000
set_option maxHeartbeats 4000000
namespace L2
open PySem PySem.Spec PyProof.Rows
def tSeqM (t u : TS) : TS := fun D σ H => ∃ M : St → Hp → Prop, t { D with nx := M } σ H ∧ ∀ σ' H', M σ' H' → u D σ' H'
theorem pss_cut {X : Cx} {st : Stmt} {rest : List Stmt} {t u : TS} (h1 : PS X st t) (h2 : PSs X rest u) : PSs X (st :: rest) (tSeqM t u) := by
  intro pins s σ H D I h
  obtain ⟨M, h, hM⟩ := h
  refine wpAny_execs_cons (thn (h1 pins s σ H { D with nx := M } I h) fun f s1 q => ?_)
  cases f with
  | next =>
    obtain ⟨σ', H', I', q⟩ := q
    exact h2 pins s1 σ' H' D I' (hM σ' H' q)
  | brk => exact q
  | cont => exact q
  | ret u => exact q
theorem iteB {c : Bool} {A B : Prop} (hc : c = true) (h : A) : if c = true then A else B := by rw [if_pos hc]; exact h
theorem iteN {c : Bool} {A B : Prop} (hc : c = false) (h : B) : if c = true then A else B := by rw [hc]; exact iteF h
def PTs (X : Cx) (ifs : List Expr) (t : TT) : Prop :=
  ∀ (pins : List (Addr × Obj)) (s : Shared) (σ : St) (H : Hp) (Q : Bool → Hp → Prop), Inv X pins σ H s → t σ H Q →
    wpAny (model X.prog X.w) X.A (forIn ifs true fun c r => if r = true then do let ok ← isTrue c X.env (eval c X.env); pure (ForInStep.yield ok) else pure (ForInStep.yield r)) (TP X pins σ Q) X.xe s
def tYes : TT := fun _ H Q => Q true H
theorem pts_nil {X : Cx} : PTs X [] tYes := fun _ _ _ H _ I h => wpAny_tests_nil ⟨H, I, h⟩
theorem pts_one {X : Cx} {c : Expr} {t : TT} (h : PT X c t) : PTs X [c] t := fun pins s σ H Q I hw => wpAny_tests_one (h pins s σ H Q I hw)
section
variable {prog : Program} {w : World} {A : Around} {R : Result → Shared → Prop} {s : Shared}
abbrev NoE : Value → Shared → Prop := fun _ _ => False
theorem ofNoE {α : Type} {m : Sem α} {Q : α → Shared → Prop} {E : Value → Shared → Prop} {s : Shared} (h : wpAny (model prog w) A m Q NoE s) : wpAny (model prog w) A m Q E s :=
  wpAny_mono h (fun _ _ q => q) fun _ _ z => z.elim
def afterItem (prog : Program) (w : World) (A : Around) (env : Env) (tg : Expr) (ifs : List Expr) (elt : Expr) (it acc : Value) (again : Shared → Prop) (v : Value) (s1 : Shared) : Prop :=
  wpAny (model prog w) A (letOwnedTupleGo tg it v) (fun _ s2 => wpAny (model prog w) A (assign tg env v) (fun _ s3 =>
    wpAny (model prog w) A (forIn ifs true fun c r => if r = true then do let ok ← isTrue c env (eval c env); pure (ForInStep.yield ok) else pure (ForInStep.yield r)) (fun ok s4 =>
      if ok = true then wpAny (model prog w) A (eval elt env) (fun x s5 => wpAny (model prog w) A (call (.builtin "list.append") [acc, x]) (fun _ s6 => again s6) NoE s5) NoE s4
      else again s4) NoE s3) NoE s2) NoE s1
theorem block_loop {elt tg iter : Expr} {ifs : List Expr} {scope : Scope} {pos : Pos} {it acc : Value} {env : Env} (J : Nat → Shared → Prop)
    (turn : ∀ n s, J n s → wpAny (model prog w) A (pyNext it) (fun r s1 => match r with
      | none => R (.ok .next) s1
      | some v => afterItem prog w A env tg ifs elt it acc (fun s6 => ∃ m, m < n ∧ J m s6) v s1) NoE s)
    (n : Nat) (h : J n s) : codeAny (model prog w) A (.compLoop (.ListComp elt [⟨tg, iter, ifs, 0⟩] scope pos) 0 it acc env) R s := by
  refine codeAny_loop rfl J (fun n s hJ => ?_) n h
  show wpAny _ A ((compTurn (.ListComp elt [⟨tg, iter, ifs, 0⟩] scope pos) 0 it acc env).onRaise (fun x => do noteFrame x env; theTreesLotGoes x)) _ _ s
  refine wpAny_noted (ofNoE ?_)
  rw [compTurn_list]
  refine wpAny_bind (wpAny_standAt (wpAny_bind (thn (turn n s hJ) fun r s1 h1 => ?_)))
  cases r with
  | none => exact wpAny_pure h1
  | some v =>
    refine wpAny_bind (thn h1 fun _ s2 h2 => wpAny_bind (thn h2 fun _ s3 h3 => wpAny_bind (thn h3 fun ok s4 h4 => ?_)))
    cases ok with
    | false => exact wpAny_pure ⟨rfl, h4⟩
    | true => exact wpAny_bind (wpAny_bind (thn h4 fun x s5 h5 => wpAny_bind (thn h5 fun _ s6 h6 => wpAny_pure (wpAny_pure ⟨rfl, h6⟩))))
end
theorem clos_go {env : Env} : ∀ (names : List (Str × NameKind)) (acc : List (Str × Addr)), (∀ y ∈ names, y.2 = .free → ∃ c, env.cells.lookup y.1 = some c) → (∀ x c, acc.lookup x = some c → env.cells.lookup x = some c) →
    ∃ cl, (forIn names acc (fun (y : Str × NameKind) (cs : List (Str × Addr)) => (if (y.2 == NameKind.free) = true then (do let c ← cellOf env y.1; pure (ForInStep.yield ((y.1, c) :: cs))) else pure (ForInStep.yield cs) : Sem (ForInStep (List (Str × Addr)))))) = (pure cl : Sem (List (Str × Addr))) ∧
      (∀ x c, cl.lookup x = some c → env.cells.lookup x = some c) ∧ (∀ x, (acc.lookup x).isSome = true → (cl.lookup x).isSome = true) ∧ (∀ y ∈ names, y.2 = .free → (cl.lookup y.1).isSome = true)
  | [], acc, _, h2 => ⟨acc, rfl, h2, fun _ h => h, fun y hy => by cases hy⟩
  | (n, k) :: r, acc, h1, h2 => by
    have h1' : ∀ y ∈ r, y.2 = .free → ∃ c, env.cells.lookup y.1 = some c := fun y hy => h1 y (List.mem_cons_of_mem _ hy)
    by_cases hk : k = .free
    · subst hk
      obtain ⟨c, hc⟩ := h1 (n, .free) List.mem_cons_self rfl
      have h2' : ∀ x c', (((n, c) :: acc : List (Str × Addr)).lookup x) = some c' → env.cells.lookup x = some c' := fun x c' e => by
        rw [List.lookup_cons] at e
        by_cases hx : (x == n) = true
        · rw [hx] at e
          cases e
          rw [beq_iff_eq.mp hx]
          exact hc
        · rw [Bool.not_eq_true] at hx
          rw [hx] at e
          exact h2 x c' e
      obtain ⟨cl, e, p1, p2, p3⟩ := clos_go r ((n, c) :: acc) h1' h2'
      refine ⟨cl, ?_, p1, fun x hx => p2 x ?_, fun y hy hf => ?_⟩
      · rw [List.forIn_cons]
        have q : cellOf env n = pure c := by unfold cellOf; rw [hc]
        simp only [beq_self_eq_true, if_true, q, pure_bind]
        exact e
      · rw [List.lookup_cons]
        cases q : x == n with
        | true => rfl
        | false => exact hx
      · rcases List.mem_cons.mp hy with rfl | hy
        · exact p2 n (by rw [List.lookup_cons, beq_self_eq_true]; rfl)
        · exact p3 y hy hf
    · obtain ⟨cl, e, p1, p2, p3⟩ := clos_go r acc h1' h2
      have hb : (k == NameKind.free) = false := by simpa using hk
      refine ⟨cl, ?_, p1, p2, fun y hy hf => ?_⟩
      · rw [List.forIn_cons]
        simp only [hb, Bool.false_eq_true, if_false, pure_bind]
        exact e
      · rcases List.mem_cons.mp hy with rfl | hy
        · exact absurd hf hk
        · exact p3 y hy hf
structure Clos (env : Env) (scope : Scope) (cl : List (Str × Addr)) : Prop where
  eq : closureFor scope env = pure cl
  sub : ∀ x c, cl.lookup x = some c → env.cells.lookup x = some c
  all : ∀ y ∈ scope.names, y.2 = .free → (cl.lookup y.1).isSome = true
theorem clos_of {env : Env} {scope : Scope} (h : ∀ y ∈ scope.names, y.2 = .free → ∃ c, env.cells.lookup y.1 = some c) : ∃ cl, Clos env scope cl := by
  obtain ⟨cl, e, p1, p2, p3⟩ := clos_go (env := env) scope.names [] h (fun x c z => by simp at z)
  refine ⟨cl, ⟨?_, p1, p3⟩⟩
  have q : closureFor scope env = (forIn scope.names [] (fun (y : Str × NameKind) (cs : List (Str × Addr)) => (if (y.2 == NameKind.free) = true then (do let c ← cellOf env y.1; pure (ForInStep.yield ((y.1, c) :: cs))) else pure (ForInStep.yield cs) : Sem (ForInStep (List (Str × Addr))))) >>= fun s => pure s) := rfl
  rw [q, e, pure_bind]
abbrev cxComp (X : Cx) (scope : Scope) (N' : List Str) (cl : List (Str × Addr)) (C : Addr) (s₀ : Shared) (H₀ : Hp) (fp : List Addr) : Cx :=
  { X with N := N', s₀ := s₀, H₀ := H₀, env := compEnvC scope cl C X.env, outer := X.stack, ex := fp, fn := fun _ => false, pn := [], xe := NoE }
structure Blk where
  cl : List (Str × Addr)
  C : Addr
  s₀ : Shared
  H₀ : Hp
  fp : List Addr
abbrev cxB (X : Cx) (scope : Scope) (N' : List Str) (b : Blk) : Cx := cxComp X scope N' b.cl b.C b.s₀ b.H₀ b.fp
def isCF : Option NameKind → Bool
  | some .cell => true
  | some .free => true
  | _ => false
theorem isCF_iff {k : Option NameKind} (h : isCF k = true) : k = some .cell ∨ k = some .free := by
  cases k with
  | none => cases h
  | some k => cases k <;> first | exact .inl rfl | exact .inr rfl | cases h
def capOk (N : List Str) (kd kd' : Str → Option NameKind) (N' : List Str) (t : Nat) : List Nat → Nat → Bool
  | [], k => N'.length == t + k
  | j :: r, k => (match N[j]?, N'[t + k]? with
    | some x, some y => (x == y) && isCF (kd x) && isCF (kd' x)
    | _, _ => false) && capOk N kd kd' N' t r (k + 1)
theorem capOk_len {N : List Str} {kd kd' : Str → Option NameKind} {N' : List Str} {t : Nat} : ∀ {caps : List Nat} {k : Nat}, capOk N kd kd' N' t caps k = true → N'.length = t + k + caps.length
  | [], k, h => by
    have := beq_iff_eq.mp h
    simpa using this
  | j :: r, k, h => by
    have := capOk_len (Bool.and_eq_true_iff.mp h).2
    rw [List.length_cons]
    omega
theorem capOk_at {N : List Str} {kd kd' : Str → Option NameKind} {N' : List Str} {t : Nat} : ∀ {caps : List Nat} {k i j : Nat}, capOk N kd kd' N' t caps k = true → caps[i]? = some j →
    ∃ x, N[j]? = some x ∧ N'[t + k + i]? = some x ∧ isCF (kd x) = true ∧ isCF (kd' x) = true
  | [], _, _, _, _, e => by simp at e
  | j :: r, k, 0, j', h, e => by
    simp at e
    subst e
    have h1 := (Bool.and_eq_true_iff.mp h).1
    cases q : N[j]? with
    | none => rw [q] at h1; cases h1
    | some x =>
      cases q' : N'[t + k]? with
      | none => rw [q, q'] at h1; cases h1
      | some y =>
        rw [q, q'] at h1
        obtain ⟨h2, h3⟩ := Bool.and_eq_true_iff.mp h1
        obtain ⟨h4, h5⟩ := Bool.and_eq_true_iff.mp h2
        obtain rfl : x = y := beq_iff_eq.mp h4
        exact ⟨x, rfl, rfl, h5, h3⟩
  | j :: r, k, i + 1, j', h, e => by
    obtain ⟨x, a, b, c, d⟩ := capOk_at (i := i) (Bool.and_eq_true_iff.mp h).2 (by simpa using e)
    refine ⟨x, a, ?_, c, d⟩
    have q : t + (k + 1) + i = t + k + (i + 1) := by omega
    rw [← q]
    exact b
structure CompOk (X : Cx) (scope : Scope) (N' : List Str) (t : Nat) (caps : List Nat) : Prop where
  kind : scope.kind = .function
  shape : (scope.names.all fun y => (y.2 == .local && scope.names.lookup y.1 == some .local) || (y.2 == .free && isCF (X.env.kindOf y.1)) || (y.2 == .globalImplicit)) = true
  cap : capOk X.N X.env.kindOf (compEnvC scope [] 0 X.env).kindOf N' t caps 0 = true
theorem CompOk.at {X : Cx} {scope : Scope} {N' : List Str} {t : Nat} {caps : List Nat} (S : CompOk X scope N' t caps) {y : Str × NameKind} (hy : y ∈ scope.names) :
    y.2 ≠ .cell ∧ (y.2 = .local → scope.names.lookup y.1 = some .local) ∧ (y.2 = .free → isCF (X.env.kindOf y.1) = true) := by
  have h := List.all_eq_true.mp S.shape y hy
  obtain ⟨n, k⟩ := y
  cases k <;> simp at h <;> simp [h]
def capS (t : Nat) (caps : List Nat) (σ : St) : St := List.replicate t none ++ caps.map fun j => (σ[j]?).join
theorem relabel_cf {scope : Scope} {env : Env} {x : Str} : ∀ {names : List (Str × NameKind)}, (∀ y ∈ names, y.2 ≠ .cell) → isCF ((names.map fun (y : Str × NameKind) => if (y.2 == NameKind.free && env.scope.kind == .function && env.kindOf y.1 == some .cell) = true then (y.1, NameKind.cell) else (y.1, y.2)).lookup x) = true →
    (x, NameKind.free) ∈ names
  | [], _, h => by simp [isCF] at h
  | (n, k) :: r, hn, h => by
    have hr : ∀ y ∈ r, y.2 ≠ .cell := fun y hy => hn y (List.mem_cons_of_mem _ hy)
    have hk : k ≠ .cell := hn (n, k) List.mem_cons_self
    rw [List.map_cons] at h
    by_cases hx : (x == n) = true
    · obtain rfl : x = n := beq_iff_eq.mp hx
      have q : k = .free := by
        by_cases hf : k = .free
        · exact hf
        · exfalso
          have hb : (k == NameKind.free) = false := by simpa using hf
          simp only [hb, Bool.false_and, Bool.false_eq_true, if_false, List.lookup_cons, beq_self_eq_true] at h
          cases k <;> simp [isCF] at h hk hf
      subst q
      exact List.mem_cons_self
    · rw [Bool.not_eq_true] at hx
      refine List.mem_cons_of_mem _ (relabel_cf (scope := scope) (env := env) hr ?_)
      by_cases hc : (k == NameKind.free && env.scope.kind == .function && env.kindOf n == some .cell) = true
      · simp only [hc, if_true, List.lookup_cons, hx] at h
        exact h
      · rw [Bool.not_eq_true] at hc
        simp only [hc, Bool.false_eq_true, if_false, List.lookup_cons, hx] at h
        exact h
def CompR (J : It) (g : TG) (tc : TT) (te : TE) (Q : VK) (D : Addr) (τ0 : St) (H0 : Hp) : Prop :=
  ∃ W : Nat → Nat → List V → St → Hp → Prop, (∃ m, W 0 m [] τ0 H0) ∧ ∀ i m ys τ H, W i m ys τ H →
    (J.stop i H ∧ Q (.ref D) H) ∨ (J.go i H ∧ ∃ N : List V → St → Hp → Prop, (∀ zs τ' H', N zs τ' H' → ∃ m', m' < m ∧ W (i + 1) m' zs τ' H') ∧ ∀ x H3, J.yld i H x H3 → g x τ H3 fun τ2 H4 => tc τ2 H4 fun b H5 =>
      if b = true then te τ2 H5 fun y H6 => H6 D = some (.lst ys) ∧ ys.length < sizeLine ∧ N (ys ++ [y]) τ2 (upd H6 D (.lst (ys ++ [y]))) else N ys τ2 H5)
def tComp (wi : TI) (g : Blk → TG) (tc : Blk → TT) (te : Blk → TE) (t : Nat) (caps : List Nat) : TE := fun σ H Q =>
  wi σ H fun J H1 => ∀ D, H1 D = none → ∀ b : Blk, CompR J (g b) (tc b) (te b) Q D (capS t caps σ) (upd H1 D (.lst []))
theorem comp_by {J : It} {g : TG} {tc : TT} {te : TE} {Q : VK} {D : Addr} {τ0 : St} {H0 : Hp} (n : Nat) (Pv : Nat → List V → St → Hp → Prop) (h0 : Pv 0 [] τ0 H0)
    (hst : ∀ zs τ H, Pv n zs τ H → J.stop n H ∧ Q (.ref D) H)
    (hgo : ∀ i zs τ H, i < n → Pv i zs τ H → J.go i H ∧ ∀ x H3, J.yld i H x H3 → g x τ H3 fun τ2 H4 => tc τ2 H4 fun b H5 =>
      if b = true then te τ2 H5 fun y H6 => H6 D = some (.lst zs) ∧ zs.length < sizeLine ∧ Pv (i + 1) (zs ++ [y]) τ2 (upd H6 D (.lst (zs ++ [y]))) else Pv (i + 1) zs τ2 H5) : CompR J g tc te Q D τ0 H0 := by
  refine ⟨fun i m zs τ H => m = n - i ∧ i ≤ n ∧ Pv i zs τ H, ⟨n, by simp, Nat.zero_le _, h0⟩, ?_⟩
  rintro i m zs τ H ⟨rfl, hi, p⟩
  by_cases hlt : i < n
  · obtain ⟨go, step⟩ := hgo i zs τ H hlt p
    exact .inr ⟨go, Pv (i + 1), fun zs' τ' H' p' => ⟨n - (i + 1), by omega, rfl, hlt, p'⟩, step⟩
  · have e : i = n := by omega
    subst e
    exact .inl (hst zs τ H p)
theorem comp_list {K : PySem.W.Frag} {a : Addr} {xs : List V} {g : TG} {tc : TT} {te : TE} {Q : VK} {D : Addr} {τ0 : St} {H0 : Hp} (Pv : Nat → List V → St → Hp → Prop) (h0 : Pv 0 [] τ0 H0) (hl : ∀ i zs τ H, Pv i zs τ H → SqL K H a xs)
    (hs : ∀ i x zs τ H, xs[i]? = some x → Pv i zs τ H → g x τ H fun τ2 H4 => tc τ2 H4 fun b H5 =>
      if b = true then te τ2 H5 fun y H6 => H6 D = some (.lst zs) ∧ zs.length < sizeLine ∧ Pv (i + 1) (zs ++ [y]) τ2 (upd H6 D (.lst (zs ++ [y]))) else Pv (i + 1) zs τ2 H5)
    (hd : ∀ zs τ H, Pv xs.length zs τ H → Q (.ref D) H) : CompR (Itl K a) g tc te Q D τ0 H0 :=
  comp_by xs.length Pv h0 (fun zs τ H p => ⟨⟨xs, hl _ _ _ _ p, Nat.le_refl _⟩, hd zs τ H p⟩) fun i zs τ H hi p => ⟨⟨xs, xs[i], hl _ _ _ _ p, by simp [hi]⟩, fun x H3 y => by
    obtain ⟨e, y⟩ := y
    subst e
    exact hs i x zs τ _ (y xs (hl _ _ _ _ p)) p⟩
theorem comp_range {lo : Int} {n : Nat} {g : TG} {tc : TT} {te : TE} {Q : VK} {D : Addr} {τ0 : St} {H0 : Hp} (Pv : Nat → List V → St → Hp → Prop) (h0 : Pv 0 [] τ0 H0)
    (hs : ∀ i zs τ H, i < n → Pv i zs τ H → g (.int (lo + i)) τ H fun τ2 H4 => tc τ2 H4 fun b H5 =>
      if b = true then te τ2 H5 fun y H6 => H6 D = some (.lst zs) ∧ zs.length < sizeLine ∧ Pv (i + 1) (zs ++ [y]) τ2 (upd H6 D (.lst (zs ++ [y]))) else Pv (i + 1) zs τ2 H5)
    (hd : ∀ zs τ H, Pv n zs τ H → Q (.ref D) H) : CompR (Itr lo n) g tc te Q D τ0 H0 :=
  comp_by n Pv h0 (fun zs τ H p => ⟨Nat.le_refl _, hd zs τ H p⟩) fun i zs τ H hi p => ⟨hi, fun x H3 y => by
    obtain ⟨e, y⟩ := y
    subst e y
    exact hs i zs τ _ hi p⟩
section
variable {X : Cx} {tg iter elt : Expr} {ifs : List Expr} {scope : Scope} {pos : Pos} {N' : List Str} {t : Nat} {caps : List Nat} {g : Blk → TG} {tc : Blk → TT} {te : Blk → TE} {wi : TI}
theorem FpOk.heap {pins : List (Addr × Obj)} {H H' : Hp} {b : Addr} (f : FpOk X pins H b) (h : H' b = none) : FpOk X pins H' b := ⟨h, f.2⟩
theorem comp_core {cl : List (Str × Addr)} {J : It} {fp : List Addr} {it : Addr} {tn : Nat → Heap → Prop} {pins : List (Addr × Obj)} {σ : St} {H2 : Hp} {s2 : Shared} {Q : VK} {E : Value → Shared → Prop}
    (hc : X.calm = true) (S : CompOk X scope N' t caps) (L : Clos X.env scope cl)
    (hg : ∀ b, PG (cxB X scope N' b) tg (g b)) (ht : ∀ b, PTs (cxB X scope N' b) ifs (tc b)) (he : ∀ b, PE (cxB X scope N' b) elt (te b))
    (I2 : Inv X pins σ H2 s2) (T : Turn X.prog X.w X.K tg J fp it tn) (st2 : tn 0 s2.heap) (f2 : ∀ b ∈ fp, FpOk X pins H2 b)
    (R : ∀ D, H2 D = none → ∀ b, CompR J (g b) (tc b) (te b) Q D (capS t caps σ) (upd H2 D (.lst []))) :
    wpAny (model X.prog X.w) X.A (newList []) (fun acc s3 => wpAny (model X.prog X.w) X.A (newFunctionEnv scope X.env.globals cl [] X.env.qual none .none (some X.env)) (fun cenv s4 =>
      codeAny (model X.prog X.w) X.A (.compStart (.ListComp elt [⟨tg, iter, ifs, 0⟩] scope pos) 0 (.ref it) acc { cenv with scope := relabel scope X.env })
        (fun r s' => ∃ (D : Addr) (H' : Hp) (m : Str → Option Value), acc = .ref D ∧ r = .ok .next ∧ Inv X pins σ H' s' ∧ s'.heap.Ns cenv.locals m ∧ FpOk X pins H' cenv.locals ∧ Q (.ref D) H') s4) E s3) E s2 := by
  refine wpAny_newObj_type ?_
  have I3 : Inv X pins σ (upd H2 s2.heap.objs.size (.lst [])) { s2 with heap := s2.heap.push { cls := .type "list", data := .seq ([] : List Value).toArray } } := I2.lnew (t' := s2.toks) .nil (Nat.zero_le _)
  have hD : H2 s2.heap.objs.size = none := I2.fresh
  have R := R _ hD
  generalize hs3 : ({ s2 with heap := s2.heap.push { cls := .type "list", data := .seq ([] : List Value).toArray } } : Shared) = s3 at I3 ⊢
  generalize hH3 : upd H2 s2.heap.objs.size (.lst []) = H3 at I3 R
  generalize hDD : s2.heap.objs.size = D at R ⊢
  have k3 : ∀ b o, s2.heap.get? b = some o → s3.heap.get? b = some o := fun b o e => by rw [← hs3]; exact Heap.get?_push_of_some _ e
  have st3 : tn 0 s3.heap := T.keep 0 _ _ st2 fun b _ o e => k3 b o e
  have fpn : ∀ b ∈ fp, H3 b = none := fun b hb => by
    obtain ⟨o, e, _⟩ := T.obj 0 _ st2 b hb
    rw [← hH3, upd_ne (Nat.ne_of_lt (Heap.lt_size e))]
    exact (f2 b hb).1
  have f3 : ∀ b ∈ fp, FpOk X pins H3 b := fun b hb => (f2 b hb).heap (fpn b hb)
  refine wpAny_newFunctionEnv (fun y hy => (S.at hy).1) (by intro y hy; simp at hy) (fun h4 hns hsb => ?_) S.kind
  generalize hC : s3.heap.objs.size = C at hns hsb ⊢
  have k4 : ∀ b o, s3.heap.get? b = some o → h4.get? b = some o := fun b o e => hsb.extBut b o (by rw [← hC]; exact Nat.ne_of_lt (Heap.lt_size e)) (Heap.get?_push_of_some _ e)
  have cellsub : ∀ x c, (cxComp X scope N' cl C s3 H3 fp).env.cells.lookup x = some c → X.env.cells.lookup x = some c := L.sub
  have hnc : ∀ y ∈ scope.names, y.2 ≠ .cell := fun y hy => (S.at hy).1
  have fC : ∀ {H' : Hp}, H' C = none → FpOk X pins H' C := fun h => by rw [← hC] at h ⊢; exact I3.fpOk (Nat.le_refl _) h
  have I4 : Inv (cxComp X scope N' cl C s3 H3 fp) [] (capS t caps σ) H3 { s3 with heap := h4, toks := s3.toks + ([] : List (Str × Value)).length } := by
    refine ⟨⟨I3.ok.mod, S.kind, I3.ok.glob, I3.ok.blt, Nat.le_of_eq hC, fun x y c h1 h2 => I3.ok.inj x y c (L.sub _ _ h1) (L.sub _ _ h2), fun x hx => ?_, fun x c h _ => absurd (show false = true from h) Bool.false_ne_true, I3.ok.hd, I3.ok.frames, .inl rfl, fun b hb => ⟨?_, fun x c e => (f3 b hb).2.2.2.2.1 x c (L.sub x c e)⟩,
        I3.bs, Nat.le_trans I3.ok.bsz I3.sz, fun b o e hb => ?_, fun b hb z => ?_, I3.stack, I3.stkFree⟩,
      rfl, I3.bare, Un.kept k4, ⟨_, hns, fun i x v e1 e2 e3 => ?_⟩, fun x c e => ?_, (by rw [← hC]; exact I3.fresh), fun x c e => I3.freeC x c (L.sub x c e), fun p hp => ?_, I3.hok.kept k4, ?_⟩
    · have hx' : isCF ((relabel scope X.env).names.lookup x) = true := by
        rcases hx with q | q
        · rw [show (relabel scope X.env).names.lookup x = some .cell from q]; rfl
        · rw [show (relabel scope X.env).names.lookup x = some .free from q]; rfl
      exact Option.isSome_iff_exists.mp (L.all _ (relabel_cf (scope := scope) hnc hx') rfl)
    · obtain ⟨o, e, _⟩ := T.obj 0 _ st3 b hb
      rw [← hC]
      exact Nat.ne_of_lt (Heap.lt_size e)
    · rcases (f3 b hb).2.2.2.1 with z | z
      · exact I3.ok.noex b o e z
      · exact absurd (Nat.lt_of_lt_of_le (Nat.lt_of_lt_of_le (Heap.lt_size e) I3.ok.bsz) z) (Nat.lt_irrefl _)
    · rcases List.mem_cons.mp (I3.stkSub b z) with q | q
      · exact (f3 b hb).2.1 q
      · exact (f3 b hb).2.2.1 q
    · -- a name that was taken over
      unfold capS at e2
      by_cases hi : i < t
      · rw [List.getElem?_append_left (by simpa using hi), List.getElem?_replicate] at e2
        simp [hi] at e2
      · rw [List.getElem?_append_right (by simpa using hi), List.length_replicate, List.getElem?_map] at e2
        cases q : caps[i - t]? with
        | none => rw [q] at e2; simp at e2
        | some j =>
          rw [q] at e2
          obtain ⟨y, c1, c2, c3, c4⟩ := capOk_at S.cap q
          have ei : t + 0 + (i - t) = i := by omega
          rw [ei] at c2
          have exy : x = y := Option.some.inj ((show N'[i]? = some x from e1).symm.trans c2)
          subst exy
          have e2' : σ[j]? = some (some v) := by
            have e2 : (σ[j]?).join = some v := Option.some.inj e2
            cases r : σ[j]? with
            | none => rw [r] at e2; cases e2
            | some z =>
              rw [r] at e2
              have e2 : z = some v := e2
              rw [e2]
          obtain ⟨m, hn, hl⟩ := I3.loc
          have cf := isCF_iff c3
          obtain ⟨u, ru, lk⟩ := hl j x v c1 e2' (.inr (by
            rcases cf with z | z
            · exact .inl z
            · exact .inr z))
          refine ⟨u, ru, .inr ⟨isCF_iff c4, ?_⟩⟩
          rcases lk with ⟨z, _⟩ | ⟨_, c, ec, zc⟩
          · rcases cf with w | w <;> (rw [z] at w; cases w)
          · have hfree := relabel_cf (scope := scope) (env := X.env) (x := x) hnc c4
            obtain ⟨c', ec'⟩ := Option.isSome_iff_exists.mp (L.all _ hfree rfl)
            have := L.sub _ _ ec'
            rw [show X.env.cells.lookup x = some c from ec] at this
            cases this
            obtain ⟨o, ho, hd⟩ := zc
            exact ⟨c, ec', o, k4 _ _ ho, hd⟩
    · obtain ⟨v, o, ho, hd⟩ := I3.cell x c (L.sub x c e)
      exact ⟨v, o, k4 _ _ ho, hd⟩
    · exact absurd (show p ∈ ([] : List (Addr × Obj)) from hp) (by simp)
    · unfold capS
      rw [List.length_append, List.length_replicate, List.length_map, capOk_len S.cap]
      omega
  obtain ⟨W, ⟨m0, w0⟩, turn⟩ := R ⟨cl, C, s3, H3, fp⟩
  -- back to the frame outside
  have back : ∀ {τ : St} {H' : Hp} {s' : Shared}, Inv (cxComp X scope N' cl C s3 H3 fp) [] τ H' s' → Inv X pins σ H' s' := fun {τ H' s'} J => by
    refine I3.call' (ch := fp) (J.os.trans ?_) J.base J.hok J.bare fun b hb => ⟨(f3 b hb).2.2.2.1, (f3 b hb).2.1, (f3 b hb).2.2.2.2.1, (f3 b hb).2.2.2.2.2⟩
    rfl
  have stat : ∀ {H' : Hp}, (∀ b ∈ fp, H' b = none) → ∀ b ∈ fp, FpOk (cxComp X scope N' cl C s3 H3 fp) [] H' b := fun {H'} hn b hb => by
    refine ⟨hn b hb, (I4.ok.exf b hb).1, I4.ok.exfs b hb, .inl hb, (I4.ok.exf b hb).2, fun p hp => ?_⟩
    exact absurd (show p ∈ ([] : List (Addr × Obj)) from hp) (by simp)
  have loop : codeAny (model X.prog X.w) X.A (.compLoop (.ListComp elt [⟨tg, iter, ifs, 0⟩] scope pos) 0 (.ref it) (.ref D) (compEnvC scope cl C X.env))
      (fun r s' => ∃ (D' : Addr) (H' : Hp) (m : Str → Option Value), Value.ref D = .ref D' ∧ r = .ok .next ∧ Inv X pins σ H' s' ∧ s'.heap.Ns C m ∧ FpOk X pins H' C ∧ Q (.ref D') H') { s3 with heap := h4, toks := s3.toks + ([] : List (Str × Value)).length } := by
    refine block_loop (fun n s' => ∃ i ys τ H', Inv (cxComp X scope N' cl C s3 H3 fp) [] τ H' s' ∧ tn i s'.heap ∧ (∀ b ∈ fp, H' b = none) ∧ W i n ys τ H') ?_ m0 ⟨0, [], _, H3, I4, T.keep 0 _ _ st3 fun b _ o e => k4 b o e, fpn, w0⟩
    rintro n s5 ⟨i, ys, τ, H5, I5, st5, fr5, w5⟩
    rcases turn i n ys τ H5 w5 with ⟨stop, q⟩ | ⟨go, N, hN, step⟩
    · refine thn (T.done (cxComp X scope N' cl C s3 H3 fp) rfl rfl rfl hc i [] s5 τ H5 NoE I5 (stat fr5) st5 stop) fun r s6 ⟨hr, I6⟩ => ?_
      subst hr
      obtain ⟨m, hm, _⟩ := id I6.loc
      exact ⟨D, H5, m, rfl, rfl, back I6, hm, fC I6.free, q⟩
    · refine thn (T.item (cxComp X scope N' cl C s3 H3 fp) rfl rfl rfl hc i [] s5 τ H5 NoE I5 (stat fr5) st5 go) fun r s6 ⟨u, hr, h6⟩ => ?_
      subst hr
      refine thn h6 fun _ s7 ⟨x, H7, I7, r7, y7, st7, fr7⟩ => ?_
      have I7' := I7.pinned (stat fr7) (T.obj _ _ st7)
      have again : ∀ {τ9 : St} {H9 : Hp} {s9 : Shared} {ys9 : List V} {m' : Nat}, Inv (cxComp X scope N' cl C s3 H3 fp) ([] ++ pinsAt fp s7.heap) τ9 H9 s9 → m' < n → W (i + 1) m' ys9 τ9 H9 →
          ∃ m, m < n ∧ ∃ i ys τ H', Inv (cxComp X scope N' cl C s3 H3 fp) [] τ H' s9 ∧ tn i s9.heap ∧ (∀ b ∈ fp, H' b = none) ∧ W i m ys τ H' := fun {τ9 H9 s9 ys9 m'} I9 hm w9 => by
        refine ⟨m', hm, i + 1, ys9, τ9, H9, I9.unpinned, T.keep _ _ _ st7 fun b hb o e => (I9.pin (b, o) (List.mem_append_right _ (List.mem_append_right _ (mem_pinsAt hb e)))).1, fun b hb => ?_, w9⟩
        obtain ⟨o, e, _⟩ := T.obj _ _ st7 b hb
        exact (I9.pin (b, o) (List.mem_append_right _ (List.mem_append_right _ (mem_pinsAt hb e)))).2.1
      refine thn (hg ⟨cl, C, s3, H3, fp⟩ _ s7 τ H7 x u _ I7' r7 (step x H7 y7)) fun _ s8 ⟨τ8, H8, I8, q8⟩ => ?_
      refine thn (ht ⟨cl, C, s3, H3, fp⟩ _ s8 τ8 H8 _ I8 q8) fun ok s9 ⟨H9, I9, q9⟩ => ?_
      cases ok with
      | false =>
        obtain ⟨m', hm, w9⟩ := hN _ _ _ (show N ys τ8 H9 from q9)
        exact again I9 hm w9
      | true =>
        refine thn (he ⟨cl, C, s3, H3, fp⟩ _ s9 τ8 H9 _ I9 q9) fun y s10 ⟨z, H10, I10, r10, hl, hz, q10⟩ => ?_
        refine thn (mt_append _ s10 τ8 H10 (.ref D) [z] (.ref D) [y] (fun v H11 => v = .non ∧ H11 = upd H10 D (.lst (ys ++ [z]))) I10 rfl (.cons r10 .nil) ⟨D, ys, z, rfl, rfl, hl, hz, rfl, rfl⟩) fun _ s11 ⟨v, H11, I11, _, _, e11⟩ => ?_
        subst e11
        obtain ⟨m', hm, w10⟩ := hN _ _ _ q10
        exact again I11 hm w10
  exact codeAny_compStart_list loop (T.self _ 0 _ _ _ (T.keep 0 _ _ st3 fun b _ o e => k4 b o e) loop)
theorem pe_comp (hc : X.calm = true) (S : CompOk X scope N' t caps) (hi : PI X tg iter wi)
    (hg : ∀ b, PG (cxB X scope N' b) tg (g b)) (ht : ∀ b, PTs (cxB X scope N' b) ifs (tc b)) (he : ∀ b, PE (cxB X scope N' b) elt (te b))
    (hs : ∀ x, foldedSetIterable iter X.env x = pure x := by intro _; rfl) : PE X (.ListComp elt [⟨tg, iter, ifs, 0⟩] scope pos) (tComp wi g tc te t caps) := by
  intro pins s σ H Q I h
  obtain ⟨cl, L⟩ := clos_of (env := X.env) (scope := scope) fun y hy hf => I.ok.has y.1 (isCF_iff ((S.at hy).2.2 hf))
  rw [eval_ListComp]
  refine wpAny_comprehension_free (use := none) rfl hs L.eq S.kind (fun y hy => (S.at hy).2.1) (thn (hi pins s σ H _ I h) fun x s1 h1 => thn h1 fun itv s2 h2 => ?_)
  obtain ⟨it, fp, tn, J, H2, rfl, I2, T, st2, f2, R⟩ := h2
  refine thn (comp_core hc S L hg ht he I2 T st2 f2 R) fun acc s3 h3 => thn h3 fun cenv s4 h4 => codeAny_mono h4 fun r s' hr => ?_
  obtain ⟨D, H', m, rfl, rfl, I', hm, fC, q⟩ := hr
  obtain ⟨c0, c1, c2, c3, c4, c5⟩ := fC
  exact ⟨m, hm, fun h' sb => ⟨.ref D, H', I'.turned (t' := s'.toks) (fun b o hb e => sb.extBut b o hb e) c0 c1 c3 c4 c5, rfl, q⟩⟩
theorem ps_setComp {i : Nat} {y : Str} {py spos : Pos} (hc : X.calm = true) (hN : X.N.Nodup) (hiy : X.N[i]? = some y) (hy : Loc X.env.scope y) (S : CompOk X scope N' t caps) (hi : PI X tg iter wi)
    (hg : ∀ b, PG (cxB X scope N' b) tg (g b)) (ht : ∀ b, PTs (cxB X scope N' b) ifs (tc b)) (he : ∀ b, PE (cxB X scope N' b) elt (te b))
    (hsw : swapsWith (.ListComp elt [⟨tg, iter, ifs, 0⟩] scope pos) (some (.Name y py)) spos.line X.env = pure true := by rfl)
    (hs : ∀ x, foldedSetIterable iter X.env x = pure x := by intro _; rfl) (hf : X.fn y = true ∨ X.env.scope.names.lookup y = some .local := by first | exact .inl rfl | exact .inr rfl | assumption) :
    PS X (.Assign [.Name y py] (.ListComp elt [⟨tg, iter, ifs, 0⟩] scope pos) spos) (tAsg (tComp wi g tc te t caps) (gName i)) := by
  intro pins s σ H D' I h
  obtain ⟨cl, L⟩ := clos_of (env := X.env) (scope := scope) fun y hy hf => I.ok.has y.1 (isCF_iff ((S.at hy).2.2 hf))
  rw [exec_Assign_Name_used _ _ _ _ hsw]
  refine wpAny_bind (wpAny_standAt (wpAny_bind ?_))
  show wpAny _ X.A (comprehension (.ListComp elt [⟨tg, iter, ifs, 0⟩] scope pos) scope X.env _ (newList []) false (eval iter X.env) (some (assign (.Name y py) X.env)) >>= fun _ => pure ()) _ _ s
  refine wpAny_bind (thn (Q := fun _ s' => SP X pins D' .next s') ?_ fun _ s' hq => wpAny_pure (wpAny_pure hq))
  refine wpAny_comprehension_free (use := some (assign (.Name y py) X.env)) rfl hs L.eq S.kind (fun y hy => (S.at hy).2.1) (thn (hi pins s σ H _ I h) fun x s1 h1 => thn h1 fun itv s2 h2 => ?_)
  obtain ⟨it, fp, tn, J, H2, rfl, I2, T, st2, f2, R⟩ := h2
  refine thn (comp_core hc S L hg ht he I2 T st2 f2 R) fun acc s3 h3 => thn h3 fun cenv s4 h4 => codeAny_mono h4 fun r s' hr => ?_
  obtain ⟨D, H', m, rfl, rfl, I', hm, fC, q⟩ := hr
  obtain ⟨c0, c1, c2, c3, c4, c5⟩ := fC
  show wpAny _ X.A (assign (.Name y py) X.env (.ref D)) _ _ _
  refine wpAny_assign_Name (store_ok2 I' hN hiy hy (show RelV (.ref D) (.ref D) from rfl) (fun s'' I'' ⟨a, sb, ha⟩ => ?_) hf)
  have hne : cenv.locals ≠ a := by
    rcases ha with z | z
    · rw [z]; exact c1
    · exact fun z' => c4 y a z z'.symm
  refine ⟨m, hm.sameBut sb hne, fun h' sb' => ?_⟩
  exact ⟨_, H', I''.turned (t' := s''.toks) (fun b o hb e => sb'.extBut b o hb e) c0 c1 c3 c4 c5, q⟩
end
end L2

/-! BExt2 -/
set_option Elab.async false
set_option linter.all false
set_option maxRecDepth 100000
set_option maxHeartbeats 4000000
namespace L2
open PySem PySem.Spec PyProof.Rows
def CDivG (i j : Int) : Prop := 0 < j ∧ j.natAbs.log2 < 9000
section
variable {X : Cx}
theorem op_fdivG : OpR X (binaryOp .FloorDiv) (rI CDivG fun i j => .int (i / j)) := opI fun i j _ _ _ _ _ hc q => by
  have e : i.fdiv j = i / j := Int.fdiv_eq_ediv_of_nonneg i (Int.le_of_lt hc.1)
  exact floordiv_int (Ne.symm (Int.ne_of_lt hc.1)) (by rw [e]; exact q) (.inl (PyProof.noPylong_of_log2 hc.2))
def clsV : V → Option Value
  | .ty n => some (.type n)
  | .ref a => some (.ref a)
  | _ => none
theorem clsV_rel {c : V} {cv u : Value} (h : clsV c = some cv) (r : RelV c u) : u = cv := by
  cases c <;> simp [clsV] at h
  · exact (show u = Value.ref _ from r).trans h
  · exact (show u = Value.type _ from r).trans h
def rIsi (K : PySem.W.Frag) : List V → Hp → VK → Prop := fun xs H Q => ∃ x c t cv b, xs = [x, c] ∧ clsV c = some cv ∧ TyOf K H x t ∧ PySem.W.kitOne K t cv = some b ∧ Q (.bl b) H
theorem call_isi : CallR X (.builtin "isinstance") (rIsi X.K) := by
  intro pins s σ H xs us Q I r h
  obtain ⟨x, c, t, cv, b, rfl, hc, ty, e, q⟩ := h
  obtain ⟨u, v, rfl, r1, r2⟩ := r.two
  obtain rfl := clsV_rel hc r2
  exact isinst_ok I r1 ty e fun tk => ⟨.bl b, H, I.tok tk, rfl, q⟩
inductive EqD (K : PySem.W.Frag) (H : Hp) : V → V → Bool → Nat → Prop where
  | flat {x y : V} {n : Nat} (fx : flatV x = true) (fy : flatV y = true) : EqD K H x y (eqV x y) n
  | same {a : Addr} {n : Nat} : EqD K H (.ref a) (.ref a) true n
  | lst {a b : Addr} {xs ys : List V} {e : Nat → Bool} {n : Nat} (hne : a ≠ b) (ha : SqL K H a xs) (hb : SqL K H b ys) (hl : xs.length = ys.length) (h : ∀ (j : Nat) x y, xs[j]? = some x → ys[j]? = some y → EqD K H x y (e j) n) :
      EqD K H (.ref a) (.ref b) ((List.range xs.length).all e) (n + 1)
  | tup {a b : Addr} {xs ys : List V} {e : Nat → Bool} {n : Nat} (hne : a ≠ b) (ha : SqT K H a xs) (hb : SqT K H b ys) (hl : xs.length = ys.length) (h : ∀ (j : Nat) x y, xs[j]? = some x → ys[j]? = some y → EqD K H x y (e j) n) :
      EqD K H (.ref a) (.ref b) ((List.range xs.length).all e) (n + 1)
theorem in1_units (A : Around) : A.in1.units = A.units + 1 := rfl
theorem EqD.at {pins : List (Addr × Obj)} {σ : St} {H : Hp} {s : Shared} {x y : V} {b : Bool} {n : Nat} (I : Inv X pins σ H s) (h : EqD X.K H x y b n) :
    ∀ (A : Around) (u v : Value), A.units + n < cLine → RelV x u → RelV y v → SeqAt.EqAt A s u v b := by
  induction h with
  | flat fx fy => intro A u v _ rx ry; exact eqAt_V rx ry fx fy
  | same => intro A u v _ rx ry; cases rx; cases ry; exact SeqAt.EqAt.same _
  | @lst a b xs ys e n hne ha hb hl h ih =>
    intro A u v hu rx ry
    cases rx; cases ry
    obtain ⟨i1, r1, p1, _⟩ := I.list ha
    obtain ⟨i2, r2, p2, _⟩ := I.list hb
    have l1 := r1.length
    have l2 := r2.length
    refine SeqAt.EqAt.of_refs hne ?_
    have q := SeqAt.RcAt.lists (A := A) (s := s) (e := e) p1.isList p2.isList (by simp; omega) (by omega) (fun j h1 h2 => ?_)
    · rw [List.size_toArray, ← l1] at q
      exact q
    · have g1 : j < xs.length := by rw [l1]; simpa using h1
      have g2 : j < ys.length := by rw [l2]; simpa using h2
      obtain ⟨u1, e1, q1⟩ := r1.get (i := j) (x := xs[j]) (by simp [g1])
      obtain ⟨u2, e2, q2⟩ := r2.get (i := j) (x := ys[j]) (by simp [g2])
      have f1 : i1.toArray[j] = u1 := by
        have := List.getElem?_eq_some_iff.mp e1
        obtain ⟨_, z⟩ := this
        simpa using z
      have f2 : i2.toArray[j] = u2 := by
        have := List.getElem?_eq_some_iff.mp e2
        obtain ⟨_, z⟩ := this
        simpa using z
      rw [f1, f2]
      exact ih j _ _ (by simp [g1]) (by simp [g2]) A.in1 u1 u2 (by rw [in1_units]; omega) q1 q2
  | @tup a b xs ys e n hne ha hb hl h ih =>
    intro A u v hu rx ry
    cases rx; cases ry
    obtain ⟨i1, r1, p1, _⟩ := I.tuple ha
    obtain ⟨i2, r2, p2, _⟩ := I.tuple hb
    have l1 := r1.length
    have l2 := r2.length
    refine SeqAt.EqAt.of_refs hne ?_
    have q := SeqAt.RcAt.tuples (A := A) (s := s) (e := e) (show s.heap.IsTuple a i1.toArray from p1) (show s.heap.IsTuple b i2.toArray from p2) (by omega) (fun j h1 h2 => ?_)
    · have z : i1.toArray.size = i2.toArray.size := by simp; omega
      rw [← z, Nat.min_self, beq_self_eq_true, Bool.and_true, List.size_toArray, ← l1] at q
      exact q
    · have g1 : j < xs.length := by rw [l1]; simpa using h1
      have g2 : j < ys.length := by rw [l2]; simpa using h2
      obtain ⟨u1, e1, q1⟩ := r1.get (i := j) (x := xs[j]) (by simp [g1])
      obtain ⟨u2, e2, q2⟩ := r2.get (i := j) (x := ys[j]) (by simp [g2])
      have f1 : i1.toArray[j] = u1 := by
        have := List.getElem?_eq_some_iff.mp e1
        obtain ⟨_, z⟩ := this
        simpa using z
      have f2 : i2.toArray[j] = u2 := by
        have := List.getElem?_eq_some_iff.mp e2
        obtain ⟨_, z⟩ := this
        simpa using z
      rw [f1, f2]
      exact ih j _ _ (by simp [g1]) (by simp [g2]) A.in1 u1 u2 (by rw [in1_units]; omega) q1 q2
def rEqS (K : PySem.W.Frag) (A : Around) (neg : Bool) : R2 := fun x y H Q => ∃ (a b : Addr) (xs ys : List V) (e : Nat → Bool) (n : Nat), x = .ref a ∧ y = .ref b ∧ ((SqL K H a xs ∧ SqL K H b ys) ∨ (SqT K H a xs ∧ SqT K H b ys)) ∧ xs.length = ys.length ∧
  A.units + n + 2 < cLine ∧ (∀ (j : Nat) x y, xs[j]? = some x → ys[j]? = some y → EqD K H x y (e j) n) ∧ Q (.bl (if neg then !(List.range xs.length).all e else (List.range xs.length).all e)) H
theorem items_at {pins : List (Addr × Obj)} {σ : St} {H : Hp} {s : Shared} {A : Around} {xs ys : List V} {i1 i2 : List Value} {e : Nat → Bool} {n : Nat} (I : Inv X pins σ H s) (r1 : Vals xs i1) (r2 : Vals ys i2) (hu : A.units + n + 2 < cLine)
    (h : ∀ (j : Nat) x y, xs[j]? = some x → ys[j]? = some y → EqD X.K H x y (e j) n) : ∀ (j : Nat) (h1 : j < i1.toArray.size) (h2 : j < i2.toArray.size), SeqAt.EqAt A.in1 s i1.toArray[j] i2.toArray[j] (e j) := fun j h1 h2 => by
  have g1 : j < xs.length := by rw [r1.length]; simpa using h1
  have g2 : j < ys.length := by rw [r2.length]; simpa using h2
  obtain ⟨u1, e1, q1⟩ := r1.get (i := j) (x := xs[j]) (by simp [g1])
  obtain ⟨u2, e2, q2⟩ := r2.get (i := j) (x := ys[j]) (by simp [g2])
  have f1 : i1.toArray[j] = u1 := by
    obtain ⟨_, z⟩ := List.getElem?_eq_some_iff.mp e1
    simpa using z
  have f2 : i2.toArray[j] = u2 := by
    obtain ⟨_, z⟩ := List.getElem?_eq_some_iff.mp e2
    simpa using z
  rw [f1, f2]
  exact (h j _ _ (by simp [g1]) (by simp [g2])).at I A.in1 u1 u2 (by rw [in1_units]; omega) q1 q2
theorem op_eqS : OpR X (compareOp .Eq) (rEqS X.K X.A false) := by
  intro pins s σ H x y v u Q I rx ry h
  obtain ⟨a, b, xs, ys, e, n, rfl, rfl, hq, hl, hu, hi, q⟩ := h
  cases rx; cases ry
  rcases hq with ⟨h1, h2⟩ | ⟨h1, h2⟩
  · obtain ⟨i1, r1, p1, _⟩ := I.list h1
    obtain ⟨i2, r2, p2, _⟩ := I.list h2
    refine SeqAt.eq_listAt p1.isList p2.isList (by simp; rw [← r1.length, ← r2.length, hl]) (by omega) (items_at I r1 r2 hu hi) ⟨.bl _, H, I, rfl, ?_⟩
    rw [List.size_toArray, ← r1.length]
    exact q
  · obtain ⟨i1, r1, p1, _⟩ := I.tuple h1
    obtain ⟨i2, r2, p2, _⟩ := I.tuple h2
    have z : i1.toArray.size = i2.toArray.size := by simp; rw [← r1.length, ← r2.length, hl]
    refine SeqAt.eq_tupleAt (show s.heap.IsTuple a i1.toArray from p1) (show s.heap.IsTuple b i2.toArray from p2) (by omega) (items_at I r1 r2 hu hi) ⟨.bl _, H, I, rfl, ?_⟩
    rw [← z, Nat.min_self, beq_self_eq_true, Bool.and_true, List.size_toArray, ← r1.length]
    exact q
theorem op_neS : OpR X (compareOp .NotEq) (rEqS X.K X.A true) := by
  intro pins s σ H x y v u Q I rx ry h
  obtain ⟨a, b, xs, ys, e, n, rfl, rfl, hq, hl, hu, hi, q⟩ := h
  cases rx; cases ry
  rcases hq with ⟨h1, h2⟩ | ⟨h1, h2⟩
  · obtain ⟨i1, r1, p1, _⟩ := I.list h1
    obtain ⟨i2, r2, p2, _⟩ := I.list h2
    refine SeqAt.RcNeAt.lists p1.isList p2.isList (by simp; rw [← r1.length, ← r2.length, hl]) (by omega) (items_at I r1 r2 hu hi) _ _ _ _ ⟨.bl _, H, I, rfl, ?_⟩
    rw [List.size_toArray, ← r1.length]
    exact q
  · obtain ⟨i1, r1, p1, _⟩ := I.tuple h1
    obtain ⟨i2, r2, p2, _⟩ := I.tuple h2
    have z : i1.toArray.size = i2.toArray.size := by simp; rw [← r1.length, ← r2.length, hl]
    refine SeqAt.RcNeAt.tuples (show s.heap.IsTuple a i1.toArray from p1) (show s.heap.IsTuple b i2.toArray from p2) (by omega) (items_at I r1 r2 hu hi) _ _ _ _ ⟨.bl _, H, I, rfl, ?_⟩
    rw [← z, Nat.min_self, beq_self_eq_true, Bool.and_true, List.size_toArray, ← r1.length]
    exact q
theorem any_getD (bs : List Bool) : (List.range bs.length).any (fun i => bs.getD i false) = bs.any id := by
  rw [Bool.eq_iff_iff, List.any_eq_true, List.any_eq_true]
  constructor
  · rintro ⟨i, hi, h⟩
    have hi := List.mem_range.mp hi
    exact ⟨bs[i], List.getElem_mem hi, by simpa [List.getD, hi] using h⟩
  · rintro ⟨b, hb, h⟩
    obtain ⟨i, hi, rfl⟩ := List.mem_iff_getElem.mp hb
    exact ⟨i, List.mem_range.mpr hi, by simpa [List.getD, hi] using h⟩
theorem truth_bools {P : Program} {w : World} {A : Around} {bs : List Bool} {its : List Value} (r : Vals (bs.map V.bl) its) : TruthOf P w A (fun i v => its.toArray[i]? = some v) (fun i => bs.getD i false) := by
  intro i v s Q E hv q
  have hv' : its[i]? = some v := by simpa using hv
  have hi : i < its.length := (List.getElem?_eq_some_iff.mp hv').1
  have hl := r.length
  rw [List.length_map] at hl
  have hb : i < bs.length := by omega
  obtain ⟨u, e, ru⟩ := r.get (i := i) (x := V.bl bs[i]) (by simp [hb])
  rw [hv'] at e
  cases e
  cases ru
  refine wpAny_truthy_bool ?_
  simpa [List.getD, hb] using q
def rAllB (K : PySem.W.Frag) (f : List Bool → Bool) : List V → Hp → VK → Prop := fun xs H Q => ∃ a bs, xs = [V.ref a] ∧ SqL K H a (bs.map V.bl) ∧ Q (.bl (f bs)) H
theorem call_anyB (hc : X.calm = true) : CallR X (.builtin "any") (rAllB X.K fun bs => bs.any id) := by
  intro pins s σ H xs us Q I r h
  obtain ⟨a, bs, rfl, ha, q⟩ := h
  obtain ⟨u, rfl, ru⟩ := r.one
  cases ru
  obtain ⟨its, rv, p, hz⟩ := I.list ha
  refine call_any_walk (wpAny_pyIter_list p.isList ?_)
  have hne : a ≠ s.heap.objs.size := by
    obtain ⟨o, n, e, _⟩ := p
    exact Nat.ne_of_lt (Heap.lt_size e)
  refine ⟨_, _, _, _, _, _, _, rfl, Walks.list (A := X.A.in1) (show X.A.in1.handled = none from I.ok.hd hc) s.heap.objs.size a hne its.toArray, ⟨⟨_, Heap.get?_push_size _ rfl, rfl, rfl⟩, p.isList.push _⟩, truth_bools rv, fun h' tk k => ?_⟩
  refine ⟨.bl _, H, I.kept (t' := tk) fun b o e => k b o (by simpa using Nat.ne_of_lt (Heap.lt_size e)) (Heap.get?_push_of_some _ e), rfl, ?_⟩
  have hl := rv.length
  rw [List.length_map] at hl
  rw [List.size_toArray, ← hl, any_getD]
  exact q
end
structure Callee (P : Program) (w : World) (K : PySem.W.Frag) (mg : Str → Option Value) (base : Heap) (x : Str) (f : Addr) (fd : FuncData) (ps : List Str) (k : Nat) (sp : Sp) : Prop where
  ok : FnOk P w K mg base CX0 k f fd ps sp
  g : mg x = some (.ref f)
  kp : PySem.W.keepIn K (.ref f) = true
  b : Binds K fd ps []
section
variable {X : Cx} {k : Nat} {f C : Addr} {fd : FuncData} {ps : List Str} {sp : Sp} {x m : Str} {p pos apos : Pos} {e o : Expr} {es : List Expr} {ta : TE} {t : TA}
theorem pe_c (c : Callee X.prog X.w X.K X.mg X.base x f fd ps k sp) (hr : Room k X.A) (ha : PA X (e :: es) t) (hg : Gl X x := by rfl) (hdb : (x == ("__debug__" : Str)) = false := by decide)
    (he : starEach (e :: es) X.env = (false, eval e X.env) :: starEach es X.env := by rfl) (hpl : (backTo pos (starEach es X.env)).any (·.1) = false := by rfl) : PE X (.Call (.Name x p) (e :: es) [] pos) (tCall sp [] E0 t) :=
  pe_call c.ok hr hg c.g c.kp c.b .nil pass0 ha hdb he hpl
end
end L2

/-! ZipT -/
set_option Elab.async false
set_option linter.all false
set_option maxHeartbeats 4000000
namespace PySem
namespace Zt
section
variable {prog : Program} {w : World} {A : Around} {E : Value → Shared → Prop} {s : Shared}
end
end Zt
end PySem

/-! ZipN -/
set_option Elab.async false
set_option linter.all false
set_option maxHeartbeats 4000000
namespace PySem
namespace Zt
section
variable {prog : Program} {w : World} {A : Around} {E : Value → Shared → Prop} {s : Shared}
end
end Zt
end PySem

/-! BExt3 -/
set_option Elab.async false
set_option linter.all false
set_option maxRecDepth 100000
set_option maxHeartbeats 4000000
namespace L2
open PySem PySem.Spec PyProof.Rows PySem.Zt
section
variable {X : Cx} {pins : List (Addr × Obj)} {σ : St} {H : Hp} {s : Shared} {a b : Addr} {xs ys : List V}
end
theorem pe_cls {X : Cx} {x : Str} {C : Addr} {pos : Pos} (hm : X.mg x = some (.ref C)) (hg : Gl X x := by rfl) (hd : (x == ("__debug__" : Str)) = false := by decide) : PE X (.Name x pos) (tC (.ref C)) := pe_glob hg hm rfl hd
theorem pe_bty {X : Cx} {x : Str} {n : String} {pos : Pos} (hm : X.mg x = none) (hv : bootBuiltins x = some (.type n)) (hg : Gl X x := by rfl) (hn : x ≠ "__name__" := by decide) (hd : (x == ("__debug__" : Str)) = false := by decide) : PE X (.Name x pos) (tC (.ty n)) := pe_bltn hg hm hv rfl hn hd
theorem bt_len : bootBuiltins "len" = some (.builtin "len") := by decide +kernel
theorem bt_int : bootBuiltins "int" = some (.type "int") := by decide +kernel
theorem bt_min : bootBuiltins "min" = some (.builtin "min") := by decide +kernel
theorem bt_max : bootBuiltins "max" = some (.builtin "max") := by decide +kernel
theorem bt_isinstance : bootBuiltins "isinstance" = some (.builtin "isinstance") := by decide +kernel
theorem bt_list : bootBuiltins "list" = some (.type "list") := by decide +kernel
theorem bt_any : bootBuiltins "any" = some (.builtin "any") := by decide +kernel
theorem bt_sorted : bootBuiltins "sorted" = some (.builtin "sorted") := by decide +kernel
theorem bt_bool : bootBuiltins "bool" = some (.type "bool") := by decide +kernel
theorem bt_tuple : bootBuiltins "tuple" = some (.type "tuple") := by decide +kernel
theorem bt_ValueError : bootBuiltins "ValueError" = some (.type "ValueError") := by decide +kernel
theorem b01 (k : Bool) : -(2 ^ 64) < (if k = true then (1 : Int) else 0) ∧ (if k = true then (1 : Int) else 0) < 2 ^ 64 := by cases k <;> decide
end L2

/-! BExt4 -/
set_option Elab.async false
set_option linter.all false
set_option maxRecDepth 100000
set_option maxHeartbeats 4000000
namespace L2
open PySem PySem.Spec PyProof.Rows
section
variable {P : Program} {w : World} {A : Around} {R : Result → Shared → Prop} {I S : Addr} {fp wr : List Addr} {n : Nat} {Is : Nat → Value → Prop} {St : Nat → Heap → Prop} {kw : List (Str × Value)}
end
section
variable {X : Cx}
def rNeL (K : PySem.W.Frag) (A : Around) : R2 := fun x y H Q => ∃ (a b : Addr) (xs ys : List V), x = .ref a ∧ y = .ref b ∧ SqL K H a xs ∧ SqL K H b ys ∧ xs.length ≠ ys.length ∧ A.units < cLine ∧ Q (.bl true) H
theorem op_neL : OpR X (compareOp .NotEq) (rNeL X.K X.A) := by
  intro pins s σ H x y v u Q I rx ry h
  obtain ⟨a, b, xs, ys, rfl, rfl, h1, h2, hl, hu, q⟩ := h
  cases rx; cases ry
  obtain ⟨i1, r1, p1, _⟩ := I.list h1
  obtain ⟨i2, r2, p2, _⟩ := I.list h2
  exact SeqAt.RcNeAt.lists_lengths p1.isList p2.isList (by simp; rw [← r1.length, ← r2.length]; exact hl) hu _ _ _ _ ⟨.bl _, H, I, rfl, q⟩
end
end L2

/-! BExt5 -/
set_option Elab.async false
set_option linter.all false
set_option maxRecDepth 100000
set_option maxHeartbeats 4000000
namespace L2
open PySem PySem.Spec PyProof.Rows
section
variable {P : Program} {w : World} {A : Around} {E : Value → Shared → Prop}
end
theorem op_alt {X : Cx} {f : Value → Value → Sem Value} {r1 r2 : R2} (h1 : OpR X f r1) (h2 : OpR X f r2) : OpR X f (fun x y H Q => r1 x y H Q ∨ r2 x y H Q) := by
  intro pins s σ H x y v u Q I rx ry h
  rcases h with h | h
  · exact h1 pins s σ H x y v u Q I rx ry h
  · exact h2 pins s σ H x y v u Q I rx ry h
end L2

/-! Em -/
set_option Elab.async false
set_option linter.all false
set_option maxRecDepth 100000
set_option maxHeartbeats 4000000
namespace K04
open PySem L2
def Ext (l : Addr) (H H' : Hp) : Prop := ∀ b o, H b = some o → b ≠ l → H' b = some o
theorem Ext.refl {l : Addr} {H : Hp} : Ext l H H := fun _ _ e _ => e
theorem Ext.trans {l : Addr} {H H1 H2 : Hp} (a : Ext l H H1) (b : Ext l H1 H2) : Ext l H H2 := fun c o e n => b c o (a c o e n) n
theorem Ext.same {l : Addr} {H H' : Hp} (a : Same H H') : Ext l H H' := fun c o e _ => a c o e
theorem Ext.new {l p : Addr} {H : Hp} {o : HO} (h : H p = none) : Ext l H (upd H p o) := fun c u e _ => by rw [upd_ne (ne_of_none e h)]; exact e
theorem Ext.at {l : Addr} {H : Hp} {o : HO} : Ext l H (upd H l o) := fun c u e n => by rw [upd_ne n]; exact e
theorem Same.new {p : Addr} {H : Hp} {o : HO} (h : H p = none) : Same H (upd H p o) := fun c u e => by rw [upd_ne (ne_of_none e h)]; exact e
def StOk (st : List V) : Prop := (∃ a : Int, st = [V.int a]) ∨ ∃ a b c : Int, st = [V.int a, V.int b, V.int c]
def StAt (H : Hp) (l : Addr) : Prop := ∃ st, H l = some (.lst st) ∧ StOk st
theorem StAt.new {H : Hp} {l p : Addr} {o : HO} (s : StAt H l) (h : H p = none) : StAt (upd H p o) l := by
  obtain ⟨st, e, k⟩ := s
  exact ⟨st, by rw [upd_ne (ne_of_none e h)]; exact e, k⟩
theorem StAt.same {H H' : Hp} {l : Addr} (s : StAt H l) (h : Same H H') : StAt H' l := by
  obtain ⟨st, e, k⟩ := s
  exact ⟨st, h _ _ e, k⟩
theorem log_small {n : Int} (h1 : 1 ≤ n) (h2 : n ≤ 1000000000) : n.natAbs.log2 < 9000 := by
  have h0 : n.natAbs ≠ 0 := by omega
  have := (Nat.log2_lt h0 (k := 30)).mpr (Nat.lt_of_le_of_lt (show n.natAbs ≤ 1000000000 by omega) (by decide))
  omega
theorem StAt.ne {H : Hp} {l p : Addr} (s : StAt H l) (h : H p = none) : p ≠ l := by
  obtain ⟨st, e, _⟩ := s
  exact (ne_of_none e h).symm
theorem gn_if {i : Nat} {v : V} {τ : St} {H : Hp} {A B : St → Hp → Prop} (h : A (τ.set i (some v)) H) : gName i v τ H fun τ2 H4 => tYes τ2 H4 fun b H5 => if b = true then A τ2 H5 else B τ2 H5 := by
  show if true = true then A (τ.set i (some v)) H else B (τ.set i (some v)) H
  exact iteT h
theorem log_1009 : ((1009 : Int).natAbs.log2 < 9000) := by decide
theorem log_2003 : ((2003 : Int).natAbs.log2 < 9000) := by decide
end K04

/-! Gm -/
set_option Elab.async false
set_option linter.all false
set_option maxRecDepth 100000
set_option maxHeartbeats 4000000
namespace K04
open PySem L2
end K04

/-! Gm2 -/
set_option Elab.async false
set_option linter.all false
set_option maxRecDepth 100000
set_option maxHeartbeats 4000000
namespace K04
open PySem L2
end K04

/-! BExc -/
set_option Elab.async false
set_option linter.all false
set_option maxRecDepth 100000
set_option maxHeartbeats 4000000
namespace L2
open PySem PySem.Spec PyProof.Rows
section
variable {P : Program} {w : World} {H H' : Hp} {h h' : Heap} {a : Addr} {o : HO}
theorem ObjOk.thr (x : ObjOk P w H h a o) : ∃ u, h.get? a = some u := by
  cases o with
  | lst xs => obtain ⟨_, _, _, _, e⟩ := x; exact ⟨_, e⟩
  | tup xs => obtain ⟨_, _, _, _, e, _⟩ := x; exact ⟨_, e⟩
  | dK kvs => obtain ⟨_, _, _, _, o, _, _, e, _⟩ := x; exact ⟨_, e⟩
  | dT kvs => obtain ⟨_, _, _, _, o, _, _, e, _⟩ := x; exact ⟨_, e⟩
  | set S n => obtain ⟨o, _, _, _, e, _⟩ := x; exact ⟨_, e⟩
  | ins C dx fs => obtain ⟨_, _, _, e, _⟩ := x; exact ⟨_, e⟩
  | own y => obtain ⟨_, e⟩ := x; exact ⟨_, e⟩
  | xd fs => obtain ⟨_, ⟨_, _, _, e, _⟩, _⟩ := x; exact ⟨_, e⟩
  | rng lo hi => obtain ⟨_, _, _, e⟩ := x; exact ⟨_, e⟩
  | frz ob u => obtain ⟨e, _⟩ := x; exact ⟨_, e⟩
  | tbl ps => exact ⟨_, show h.get? a = some _ from x⟩
  | met f y => exact ⟨_, show h.get? a = some _ from x⟩
  | ext φ => obtain ⟨_, ⟨_, e⟩, _⟩ := x; exact ⟨_, e⟩
theorem HOk.thr (x : HOk P w H h) (e : H a = some o) : ∃ u, h.get? a = some u := (x a o e).thr
theorem HOk.keptT (x : HOk P w H h) (k : ∀ b u, H b ≠ none → h.get? b = some u → h'.get? b = some u) : HOk P w H h' := fun a o e =>
  (x a o e).stay (fun b u hb q => k b u (by rcases hb with rfl | hb <;> simp_all) q) (fun _ q => q) fun _ _ q => q
end
structure Lies (P : Program) (w : World) (l : List Env) (H : Hp) (s : Shared) (H' : Hp) (s' : Shared) (B : Heap) : Prop where
  os : s'.os = s.os
  bare : AllBare s'.gens
  un : Un (frs l) [] H H' s.heap s'.heap
  hok : HOk P w H' s'.heap
  c1 : ∀ b o, s.heap.get? b = some o → H b = none → b ∉ frs l → B.get? b = some o
  c2 : ∀ b o, H' b ≠ none → s'.heap.get? b = some o → B.get? b = some o
  c3 : ∀ b o, s.heap.get? b = some o → b ∉ frs l → ∃ o', B.get? b = some o'
abbrev CX1 (P : Program) (w : World) : CXT := fun l H s E e s' => ∃ (a : Addr) (cls a0 : Value) (H' : Hp) (B : Heap), e = .ref a ∧ Lies P w l H s H' s' B ∧ Heap.FlyingW B l a cls a0 s'.heap ∧ E cls none H'
section
variable {X : Cx} {pins : List (Addr × Obj)} {σ : St} {H H' : Hp} {s s' : Shared} {B h2 : Heap} {t2 : Nat}
theorem Lies.un2 (I : Inv X pins σ H s) (L : Lies X.prog X.w X.stack H s H' s' B) (st : B.StaysIn h2) (up : s'.heap.UpToSlots h2) : Un (frs X.stack) [] H H' s.heap h2 := by
  have sl : ∀ b o, s.heap.get? b = some o → b ∈ frs X.stack → ∃ z, h2.get? b = some { o with slots := z } := fun b o q hb => by
    obtain ⟨z, e1⟩ := L.un.slot b o q (I.stkFree b hb) hb (by simp)
    obtain ⟨_, o', ho', hd⟩ := I.stack.mem hb
    rw [q] at ho'
    cases ho'
    obtain ⟨z2, e2⟩ := up b _ e1 (fun vs z => hd vs z)
    exact ⟨z2, e2⟩
  refine ⟨fun b o q n hb _ => st b o (L.c1 b o q n hb), fun b o q _ hb _ => sl b o q hb, fun b o q n hx => L.un.free b o q n hx, fun b o q _ => ?_, L.un.tups, L.un.frzs, L.un.tbls⟩
  by_cases hb : b ∈ frs X.stack
  · obtain ⟨z, e⟩ := sl b o q hb
    exact ⟨_, e⟩
  · obtain ⟨o', e⟩ := L.c3 b o q hb
    exact ⟨o', st b o' e⟩
theorem Lies.ok2 {l : List Env} {P : Program} {w : World} (L : Lies P w l H s H' s' B) (st : B.StaysIn h2) : HOk P w H' h2 := L.hok.keptT fun b u hb q => st b u (L.c2 b u hb q)
theorem Lies.inv (I : Inv X pins σ H s) (L : Lies X.prog X.w X.stack H s H' s' B) (st : B.StaysIn h2) (up : s'.heap.UpToSlots h2) : Inv X pins σ H' { s' with heap := h2, toks := t2 } := by
  refine I.call' (s' := { s' with heap := h2, toks := t2 }) (ch := []) L.os (L.un2 I st up) (L.ok2 st) L.bare (fun b z => absurd z (by simp))
theorem Lies.out (I : Inv X pins σ H s) (L : Lies X.prog X.w X.stack H s H' s' B) (st : B.StaysIn h2) (up : s'.heap.UpToSlots h2) (hx : X.ex = []) : Lies X.prog X.w X.outer X.H₀ X.s₀ H' { s' with heap := h2 } B := by
  have J := Lies.inv (t2 := s'.toks) I L st up
  have ns : ∀ b o, X.s₀.heap.get? b = some o → b ∉ frs X.outer → b ∉ frs X.stack := fun b o q hb z => by
    rcases List.mem_cons.mp (I.stkSub b z) with e | e
    · exact absurd (Nat.lt_of_lt_of_le (Heap.lt_size q) I.ok.above) (by rw [e]; exact Nat.lt_irrefl _)
    · exact hb e
  have hn : ∀ b : Addr, b ∉ X.ex := fun b => by rw [hx]; simp
  refine ⟨J.os, J.bare, ?_, J.hok, fun b o q n hb => ?_, fun b o hb q => ?_, fun b o q hb => ?_⟩
  · have := J.base
    rw [hx] at this
    exact this
  · exact L.c1 b o (I.base.keep b o q n hb (hn b)) (I.base.free b o q n (hn b)) (ns b o q hb)
  · cases e : H' b with
    | none => exact absurd e hb
    | some u =>
      obtain ⟨v, hv⟩ := L.hok.thr e
      have z := L.c2 b v hb hv
      have q' : h2.get? b = some o := q
      rw [st b v z] at q'
      cases q'
      exact z
  · obtain ⟨o', e⟩ := I.base.there b o q (hn b)
    exact L.c3 b o' e (ns b o q hb)
theorem lies_new (I : Inv X pins σ H s) (k : ∀ b u, s.heap.get? b = some u → h2.get? b = some u) : Lies X.prog X.w X.stack H s H { s with heap := h2 } (PySem.W.hideAll s.heap (frs X.stack)) := by
  refine ⟨rfl, I.bare, Un.kept k, I.hok.kept k, fun b o q _ hb => PySem.W.hideAll_get _ q hb, fun b o hb q => ?_, fun b o q hb => ⟨o, PySem.W.hideAll_get _ q hb⟩⟩
  cases e : H b with
  | none => exact absurd e hb
  | some u =>
    obtain ⟨v, hv⟩ := I.hok.thr e
    have q' : h2.get? b = some o := q
    rw [k b v hv] at q'
    cases q'
    exact PySem.W.hideAll_get _ hv fun z => hb (I.stkFree b z)
end
section
variable {P : Program} {w : World} {K : PySem.W.Frag} {mg : Str → Option Value} {base : Heap} {N : List Str} {qual : Str} {scope : Scope} {f : Addr} {cd : Value} {A : Around} {outer : List Env} {s0 : Shared} {H0 : Hp} {E : XK}
theorem leave1 {pins : List (Addr × Obj)} {σ : St} {H : Hp} {s : Shared} {h' : Heap} {e : Addr} {cls : Value} {args : List Value} (I : Inv (cxOf (CX1 P w) P w K mg base N qual scope f cd A outer s0 H0 E) pins σ H s)
    (hx : Heap.MadeExcOf s.heap h' e cls args) (q : E cls none H) : (cxOf (CX1 P w) P w K mg base N qual scope f cd A outer s0 H0 E).xe (.ref e) { s with heap := h' } := by
  have hfr := I.ok.frames
  have L := lies_new I hx.keeps
  refine wpAny_leaves_madeW (M := model P w) (A := A.deeper (envOfC qual scope s0.heap.objs.size f cd)) (s := { s with heap := h' }) (outer := outer) (L := s0.heap.objs.size) (base := PySem.W.hideAll s.heap (frs (envOfC qual scope s0.heap.objs.size f cd :: outer))) hfr rfl (fun b o q => PySem.W.of_hideAll _ q)
    (PySem.W.funFrames_hide I.stack fun env he b hb => List.mem_filterMap.mpr ⟨env, he, hb⟩) hx fun h2 t F2 _ _ up => ?_
  exact ⟨e, cls, .ref t, H, _, rfl, L.out I F2.1 up rfl, F2, q⟩
end
end L2

/-! BExc2 -/
set_option Elab.async false
set_option linter.all false
set_option maxRecDepth 100000
set_option maxHeartbeats 4000000
namespace L2
open PySem PySem.Spec PyProof.Rows
abbrev bmVal : List Value := [.type "ValueError", .type "Exception", .type "BaseException", .type "object"]
def XCls (K : PySem.W.Frag) (C : Addr) : Prop := PySem.W.excIn K C bmVal "ValueError.__new__" = true
def XObj (h : Heap) (C : Addr) : Prop := ∃ bm N nm qn bs hd sn sub ab col dd k0 k1 k2 k3 k5 mN, h.get? C = some (excClassObj nm qn C N bs bm hd sn sub ab col dd k0 k1 k2 k3 k5 "ValueError.__new__") ∧ h.Ns N mN ∧ mN "__init__" = none ∧ OwnTail h bmVal bm
theorem XCls.obj {K : PySem.W.Frag} {C : Addr} (x : XCls K C) {h : Heap} (I : K.In h) : XObj h C := by
  unfold XCls PySem.W.excIn at x
  split at x
  case h_2 => cases x
  case h_1 dd cd sl lk =>
    split at x
    case h_2 => cases x
    case h_1 C2 bm k0 k1 k2 k3 nid k5 em es =>
      rw [Bool.and_eq_true, Bool.and_eq_true, Bool.and_eq_true, Bool.and_eq_true, Bool.and_eq_true] at x
      obtain ⟨⟨⟨⟨⟨x1, x2⟩, x3⟩, x4⟩, x5⟩, x6⟩ := x
      cases (beq_iff_eq.mp x1)
      cases (beq_iff_eq.mp x2)
      cases cd with
      | mk nm bs mro ns qn hd sn sub ab col del =>
        have e1 : mro = .ref C :: bm := em
        have e2 : del = false := by
          cases del with
          | false => rfl
          | true => cases x3
        have e3 : sl = #[k0, k1, k2, k3, some (.builtin "ValueError.__new__"), k5] := by
          cases sl with
          | mk l =>
            have e : l = _ := es
            rw [e]
        rw [e1, e2, e3] at lk
        exact ⟨bm, ns, nm, qn, bs, hd, sn, sub, ab, col, dd, k0, k1, k2, k3, k5, _, I _ _ lk, .of_isNs (PySem.W.isNs_of_in I x5), PySem.W.nsMap_none_of_in I x5 (beq_iff_eq.mp x6), PySem.W.tail_of_in I x4⟩
theorem XObj.keeps {h h' : Heap} {C : Addr} (x : XObj h C) (k : ∀ b o, h.get? b = some o → h'.get? b = some o) : XObj h' C := by
  obtain ⟨bm, N, nm, qn, bs, hd, sn, sub, ab, col, dd, k0, k1, k2, k3, k5, mN, h1, h2, h3, h4⟩ := x
  exact ⟨bm, N, nm, qn, bs, hd, sn, sub, ab, col, dd, k0, k1, k2, k3, k5, mN, k _ _ h1, h2.keeps k, h3, h4.keeps k⟩
section
variable {P : Program} {w : World} {K : PySem.W.Frag} {mg : Str → Option Value} {base : Heap} {N : List Str} {qual : Str} {scope : Scope} {f : Addr} {cd : Value} {A : Around} {outer : List Env} {s0 : Shared} {H0 : Hp} {E : XK}
  {x : Str} {C : Addr} {e : Expr} {es : List Expr} {t : TA} {np cpos pos : Pos}
def tRz (C : Addr) (E : XK) (t : TA) : TS := fun _ σ H => t σ H fun vs H1 => vs.length ≤ 1000 ∧ E (.ref C) none H1
theorem ps_raise (hc : (A.deeper (envOfC qual scope s0.heap.objs.size f cd)).handled = none) (c : XCls K C) (hm : mg x = some (.ref C)) (ha : PA (cxOf (CX1 P w) P w K mg base N qual scope f cd A outer s0 H0 E) (e :: es) t)
    (hg : Gl (cxOf (CX1 P w) P w K mg base N qual scope f cd A outer s0 H0 E) x := by rfl)
    (he : starEach (e :: es) (cxOf (CX1 P w) P w K mg base N qual scope f cd A outer s0 H0 E).env = (false, eval e (cxOf (CX1 P w) P w K mg base N qual scope f cd A outer s0 H0 E).env) :: starEach es (cxOf (CX1 P w) P w K mg base N qual scope f cd A outer s0 H0 E).env := by rfl)
    (hpl : (backTo cpos (starEach es (cxOf (CX1 P w) P w K mg base N qual scope f cd A outer s0 H0 E).env)).any (·.1) = false := by rfl) (hdb : (x == ("__debug__" : Str)) = false := by decide) :
    PS (cxOf (CX1 P w) P w K mg base N qual scope f cd A outer s0 H0 E) (.Raise (some (.Call (.Name x np) (e :: es) [] cpos)) none pos) (tRz C E t) := by
  intro pins s σ H D I h
  obtain ⟨bm, Nn, nm, qn, bs, hd, sn, sub, ab, col, dd, k0, k1, k2, k3, k5, mN, h1, h2, h3, h4⟩ := c.obj I.mod.kin
  refine wpAny_Raise_call_subT (C := C) (nm := nm) (q := qn) (N := Nn) (bs := bs) (bm := bm) (hdct := hd) (sn := sn) (sub := sub) (ab := ab) (col := col) (dd := dd) (k0 := k0) (k1 := k1) (k2 := k2) (k3 := k3) (k5 := k5) PySem.F.excBase_ValueError (mN := mN)
    (h4.hasType rfl) hc (by rw [he]; exact hpl) h3 (ld_glob I hg hm ⟨rfl, ?_⟩ hdb)
  have hA := ha cpos pins s σ H _ I h
  rw [he] at hA ⊢
  refine Calls.evalArgs_plain (wpAny_mono hA (fun us s2 hq => ?_) fun _ _ z => z)
  obtain ⟨vs, H1, I1, r1, hl, q⟩ := hq
  refine ⟨rfl, ?_, I1.bk _ _ h1, h2.keeps I1.bk, h4.keeps I1.bk, fun h' e' hx => leave1 I1 hx q⟩
  show us.length ≤ sizeLine
  rw [← r1.length]
  exact Nat.le_of_lt (small1000 hl)
end
end L2

/-! BExc3 -/
set_option Elab.async false
set_option linter.all false
set_option maxRecDepth 100000
set_option maxHeartbeats 4000000
namespace L2
open PySem PySem.Spec PyProof.Rows
def XP (X : Cx) (pins : List (Addr × Obj)) (σ : St) (E : XK) (e : Value) (s' : Shared) : Prop := ∃ H1 s1, Inv X pins σ H1 s1 ∧ CX1 X.prog X.w X.stack H1 s1 E e s'
def PV (X : Cx) (e : Expr) (t : XK → TE) : Prop := ∀ (pins : List (Addr × Obj)) (s : Shared) (σ : St) (H : Hp) (Q : VK) (E : XK), Inv X pins σ H s → t E σ H Q → wpAny (model X.prog X.w) X.A (eval e X.env) (EP X pins σ Q) (XP X pins σ E) s
def PX (X : Cx) (b : List Stmt) (t : XK → TS) : Prop := ∀ (pins : List (Addr × Obj)) (s : Shared) (σ : St) (H : Hp) (D : Ends) (E : XK), Inv X pins σ H s → t E D σ H → wpAny (model X.prog X.w) X.A (execs b X.env) (SP X pins D) (XP X pins σ E) s
section
variable {X : Cx} {k : Nat} {f C : Addr} {fd : FuncData} {ps : List Str} {sp : Sp} {dvs : List V} {ds : List Value} {x : Str} {p pos : Pos} {e : Expr} {es : List Expr} {t : TA}
theorem run_make1 {E : XK} {pins : List (Addr × Obj)} {σ : St} {H : Hp} {s : Shared} {Q : VK} {us : List Value} {vs : List V} (M : Mk X.K C f) (F : FnOk X.prog X.w X.K X.mg X.base (CX1 X.prog X.w) k f fd ps sp) (hr : Room (k + 1) X.A) (hb : Binds X.K fd ps ds) (hd : Vals dvs ds)
    (I : Inv X pins σ H s) (r : Vals vs us)
    (h : ∀ x dx, H x = none → H dx = none → dx ≠ x → sp (.ref x :: (vs ++ dvs)) (upd (upd H dx (.own x)) x (.ins C dx [])) (fun v H2 => v = .non ∧ Q (.ref x) H2) E) :
    wpAny (model X.prog X.w) X.A (call (.ref C) us) (EP X pins σ Q) (XP X pins σ E) s := by
  have hq := h (s.heap.objs.size + 1) s.heap.objs.size (I.hok.fresh (Nat.le_succ _)) (I.hok.fresh (Nat.le_refl _)) (Nat.ne_of_lt (Nat.lt_succ_self _))
  have I2 := Inv.made (C := C) I
  have r2 : Vals (V.ref (s.heap.objs.size + 1) :: (vs ++ dvs)) (Value.ref (s.heap.objs.size + 1) :: (us ++ ds)) := .cons rfl (r.append hd)
  have hl : (Value.ref (s.heap.objs.size + 1) :: us ++ ds).length = ps.length := by
    have e := r2.length
    rw [F.len _ _ _ _ hq] at e
    exact e.symm
  refine wpAny_call (make_map (f := f) I.kIn M.makes M.init (beq_iff_eq.mp M.fn) (codeAny_mono (F.run _ X.stack _ _ ⟨Value.ref (s.heap.objs.size + 1) :: us, []⟩ (Value.ref (s.heap.objs.size + 1) :: (us ++ ds)) _ _ E (hr.make C us [])
    (I2.env0.make C us []) (hb _ (Value.ref (s.heap.objs.size + 1) :: us) I2.kIn hl) r2 hq) fun r s' hq' => ?_))
  cases r with
  | error e => exact ⟨_, _, I2, hq'⟩
  | ok fl =>
    cases fl with
    | ret u =>
      obtain ⟨v, H', I3, rv, ev, q3⟩ := I2.after hq'
      subst ev
      exact ⟨rv, ⟨V.ref (s.heap.objs.size + 1), H', I3, rfl, q3⟩⟩
    | next => exact False.elim hq'
    | brk => exact False.elim hq'
    | cont => exact False.elim hq'
theorem pv_make (M : Mk X.K C f) (F : FnOk X.prog X.w X.K X.mg X.base (CX1 X.prog X.w) k f fd ps sp) (hr : Room (k + 1) X.A) (hm : X.mg x = some (.ref C)) (hb : Binds X.K fd ps [])
    (ha : PA X.nox (e :: es) t) (hg : Gl X x := by rfl) (hdb : (x == ("__debug__" : Str)) = false := by decide) (he : starEach (e :: es) X.env = (false, eval e X.env) :: starEach es X.env := by rfl) (hpl : (backTo pos (starEach es X.env)).any (·.1) = false := by rfl) :
    PV X (.Call (.Name x p) (e :: es) [] pos) (fun E => tMake C sp [] E t) := by
  intro pins s σ H Q E I h
  refine wpAny_Call_Name_kw (ld_glob I hg hm ?_ hdb)
  refine PySem.W.callWith_K (h₀ := X.base) I.ok.mod.kin M.kp (wpAny_mono (ha pos pins s σ H _ (I.wish _) h) (fun us s1 hq => ?_) (fun _ _ z => False.elim z)) he hpl
  obtain ⟨vs, H1, I1, r, q⟩ := hq
  exact ⟨I1.unwish.kIn, run_make1 M F hr hb .nil I1.unwish r q⟩
theorem px_expr {te : XK → TE} (h : PV X e te) (hs : swapsWith e none pos.line X.env = pure false := by rfl) : PX X [.Expr e pos] (fun E => tDrop (te E)) := by
  intro pins s σ H D E I q
  refine wpAny_execs_cons (wpAny_Expr_any (wpAny_mono (h pins s σ H _ E I q) (fun v s1 hq => ?_) fun _ _ z => z) I.quiet hs)
  obtain ⟨y, H1, I1, r1, q1⟩ := hq
  exact wpAny_execs_nil ⟨σ, H1, I1, q1⟩
end
abbrev Cx.inH (X : Cx) (a : Addr) : Cx := { X with A := X.A.mark (some (.ref a)), calm := false, xe := fun _ _ => False }
section
variable {X : Cx} {pins : List (Addr × Obj)} {σ : St} {H : Hp} {s : Shared} {a : Addr}
theorem Inv.inH (I : Inv X pins σ H s) (a : Addr) : Inv (X.inH a) pins σ H s :=
  ⟨⟨I.ok.mod, I.ok.kind, I.ok.glob, I.ok.blt, I.ok.above, I.ok.inj, I.ok.has, I.ok.cab, (fun z => nomatch z), I.ok.frames, I.ok.stk, I.ok.exf, I.ok.bs, I.ok.bsz, I.ok.noex, I.ok.exfs, I.ok.funs, I.ok.frf⟩, I.os, I.bare, I.base, I.loc, I.cell, I.free, I.freeC, I.pin, I.hok, I.len⟩
theorem Inv.unH (ok : X.Ok) (I : Inv (X.inH a) pins σ H s) : Inv X pins σ H s := ⟨ok, I.os, I.bare, I.base, I.loc, I.cell, I.free, I.freeC, I.pin, I.hok, I.len⟩
theorem SP.unH {D : Ends} {f : Flow} {s' : Shared} (ok : X.Ok) (h : SP (X.inH a) pins D f s') : SP X pins D f s' := by
  cases f with
  | next => obtain ⟨σ', H', I, q⟩ := h; exact ⟨σ', H', I.unH ok, q⟩
  | brk => obtain ⟨σ', H', I, q⟩ := h; exact ⟨σ', H', I.unH ok, q⟩
  | cont => obtain ⟨σ', H', I, q⟩ := h; exact ⟨σ', H', I.unH ok, q⟩
  | ret u => obtain ⟨v, σ', H', I, r, q⟩ := h; exact ⟨v, σ', H', I.unH ok, r, q⟩
end
end L2
namespace L2
open PySem PySem.Spec PyProof.Rows
structure Maker1 (P : Program) (w : World) (K : PySem.W.Frag) (mg : Str → Option Value) (base : Heap) (x : Str) (C f : Addr) (fd : FuncData) (ps : List Str) (k : Nat) (sp : Sp) : Prop where
  ok : FnOk P w K mg base (CX1 P w) k f fd ps sp
  g : mg x = some (.ref C)
  mm : Mk K C f
  b : Binds K fd ps []
section
variable {X : Cx} {k : Nat} {f C : Addr} {fd : FuncData} {ps : List Str} {sp : Sp} {x : Str} {p pos : Pos} {e : Expr} {es : List Expr} {t : TA}
theorem pv_m (c : Maker1 X.prog X.w X.K X.mg X.base x C f fd ps k sp) (hr : Room (k + 1) X.A) (ha : PA X.nox (e :: es) t) (hg : Gl X x := by rfl) (hdb : (x == ("__debug__" : Str)) = false := by decide)
    (he : starEach (e :: es) X.env = (false, eval e X.env) :: starEach es X.env := by rfl) (hpl : (backTo pos (starEach es X.env)).any (·.1) = false := by rfl) : PV X (.Call (.Name x p) (e :: es) [] pos) (fun E => tMake C sp [] E t) :=
  pv_make c.mm c.ok hr c.g c.b ha hg hdb he hpl
end
section
variable {P : Program} {w : World} {K : PySem.W.Frag} {mg : Str → Option Value} {base : Heap}
theorem Fun.ok1 {x qual : Str} {st : Stmt} {f : Addr} {fd : FuncData} {N ps : List Str} {k : Nat} {sp : Sp} (F : Fun K x qual st f fd) (S : FnScope N ps (defScope st)) (len : ∀ vs H Q E, sp vs H Q E → vs.length = ps.length)
    (hbody : ∀ (cdv : Value) (A : Around) (outer : List Env) (s : Shared) (H : Hp) (vs : List V) (Q : VK) (E : XK), Room k (A.deeper (envOfC qual (defScope st) s.heap.objs.size f cdv)) → sp vs H Q E →
      ∃ t, PSs (cxOf (CX1 P w) P w K mg base N qual (defScope st) f cdv A outer s H E) (defBody st) t ∧ t { nx := fun _ H' => Q .non H', rt := Q } (start N vs) H) : FnOk P w K mg base (CX1 P w) (k + 1) f fd ps sp := by
  obtain ⟨oc, od, kV, doc, pm, an, cdv, ct, osl, rfl, lk, hcd⟩ := F.ex
  exact fn_of lk hcd S len fun A outer s H vs Q E hr hsp => hbody cdv A outer s H vs Q E hr hsp
end
end L2

/-! BExc4 -/
set_option Elab.async false
set_option linter.all false
set_option maxRecDepth 100000
set_option maxHeartbeats 4000000
namespace L2
open PySem PySem.W PySem.Spec PySem.Calls PyProof.Rows PySem.Builtin PySem.Builtin.ObjectAttr PySem.Builtin.Getset_descriptor
def ObC (x C : Addr) (h : Heap) : Prop := ∃ o, h.get? x = some o ∧ o.cls = .ref C
structure XIs (K : Frag) (C : Addr) : Prop where
  ga : findIn K (.ref C) "__getattribute__" = some (some (.builtin "BaseException.__getattribute__"))
  gt : findIn K (.ref C) "__getattr__" = some none
  ha : findIn K (.ref C) "__class__" = some (some (.builtin "object.__class__"))
  hn : specialIn K (.builtin "object.__class__") "__get__" = some (some (.builtin "getset_descriptor.__get__"))
  htk : takesIn K (.builtin "object.__class__") = some true
  hm : mroIn K C (.type "object") = some true
  hb : mroIn K C (.type "BaseException") = some true
  hd : hasDictIn K C = true
section
variable {K : Frag} {M : Model} {h : Heap} {x C : Addr} {name : Str}
theorem ObC.type (I : ObC x C h) : Looks M h (typeOf (.ref x)) (.ref C) := by
  obtain ⟨o, h1, h2⟩ := I
  rw [← h2]
  exact (Looks.ld h1).andThen .now
theorem find_data {a g : Value} (X : K.In h) (ha : findIn K (.ref C) name = some (some a)) (hg : specialIn K a "__get__" = some (some g)) (hd : takesIn K a = some true) :
    Looks M h (find (.ref x) (.ref C) name) (.bind g a) := by
  have L2 : Looks M h (getOf (some a)) (some g) := looks_specialIn X hg
  have L3 : Looks M h (dataDescriptor? (some a) (some g)) (some (g, a)) := (looks_takesIn X hd).andThen .now
  exact (looks_findIn X ha).andThen (L2.andThen (L3.andThen (Looks.tag .now)))
end
section
variable {prog : Program} {w : World} {A : Around} {E : Value → Shared → Prop} {K : Frag} {x C : Addr} {s : Shared}
theorem cls_got {R : Result → Shared → Prop} {tp : Value} (X : K.In s.heap) (I : ObC x C s.heap) (hm : mroIn K C (.type "object") = some true) (k : R (.ok (.ret (.ref C))) s) :
    codeAny (model prog w) A (.call (.builtin "getset_descriptor.__get__") ⟨[.builtin "object.__class__", .ref x, tp], []⟩) R s := by
  obtain ⟨hh, gg, dr, tt, ss⟩ := s
  have T0 := I.type (M := model prog w)
  have T1 := looks_mroIn (M := model prog w) X hm
  refine codeAny_call_builtin KF.slot_gs.plain KF.entry_gs ?_
  refine KF.slot_gs.check _ _ _ _ _ _ _ _ KF.type_class (KF.args_gs _ _ _) ?_
  unfold Builtin.«getset_descriptor.__get__»
  unfold descrGet
  rw [dga_obj]
  refine wpAny_bind (wpAny_pure ?_)
  unfold descrGetter descrCheckInstance
  unfold descrNameAndClass isInstance
  simp only [KF.owner_class]
  repeat lk
  refine ⟨Code.quiet_builtin _ (by decide +kernel), ?_⟩
  refine codeAny_builtin KF.entry_class ?_
  unfold Builtin.«object.__class__»
  unfold shownTypeOf
  repeat lk
  exact k
theorem ga_check {nameV : Value} {Q : Unit → Shared → Prop} (X : K.In s.heap) (I : ObC x C s.heap) (hb : mroIn K C (.type "BaseException") = some true) (k : Q () s) :
    wpAny (model prog w) A (checkBuiltinCall "BaseException.__getattribute__" ⟨[.ref x, nameV], []⟩) Q E s := by
  have T0 := I.type (M := model prog w)
  have T1 := looks_mroIn (M := model prog w) X hb
  have hk : builtinKind "BaseException.__getattribute__" = some .slot := by decide +kernel
  have hsplit : splitId "BaseException.__getattribute__" = some ("BaseException", "__getattribute__") := by decide +kernel
  have ha := F.args_bexc_ga (.ref x) nameV
  obtain ⟨hh, gg, dr, tt, ss⟩ := s
  simp only [checkBuiltinCall, hk, hsplit]
  refine wpAny_bind ?_
  unfold isInstance
  repeat lk
  exact k
theorem cls_entry {tk : Tok} {Q : Fin → Shared → Prop} (X : K.In s.heap) (I : ObC x C s.heap) (c : XIs K C) (k : Q (.done (.ret (.ref C))) s) :
    wpAny (model prog w) A (Builtin.«object.__getattribute__» ⟨[.ref x, .str "__class__" tk], []⟩) Q E s := by
  have T0 := I.type (M := model prog w)
  have T1 := find_data (M := model prog w) (x := x) X c.ha c.hn c.htk
  obtain ⟨hh, gg, dr, tt, ss⟩ := s
  unfold Builtin.«object.__getattribute__»
  repeat lk
  refine wpAny_run (h := none) ?_
  exact cls_got X I c.hm (wpAny_pure (wpAny_pure k))
theorem cls_by {tk : Tok} {Q : Value → Shared → Prop} (X : K.In s.heap) (I : ObC x C s.heap) (c : XIs K C) (k : Q (.ref C) s) :
    wpAny (model prog w) A (getAttrBy (.ref x) (.str "__class__" tk) false) Q E s := by
  have T0 := I.type (M := model prog w)
  have T1 := looks_findIn (M := model prog w) X c.ga
  have T2 := looks_findIn (M := model prog w) X c.gt
  have f3 := F.attr_ValueError.ga.bind (.ref x)
  obtain ⟨hh, gg, dr, tt, ss⟩ := s
  unfold getAttrBy
  refine wpAny_holding (wpAny_bind (T0.at (wpAny_bind (T1.at ?_))))
  show wpAny _ _ (if (onTheHeap (Value.ref C) && Value.builtin "BaseException.__getattribute__" == Value.builtin "object.__getattribute__") = true then _ else _) _ _ _
  have z : (Value.builtin "BaseException.__getattribute__" == Value.builtin "object.__getattribute__") = false := by decide +kernel
  rw [z, Bool.and_false, if_neg Bool.false_ne_true]
  unfold getAttrByItsOwn
  refine wpAny_bind (T2.at ?_)
  refine wpAny_bind (wpAny_attempt (wpAny_holding ?_))
  show wpAny _ _ (boundAndCalled _ _ _) _ _ _
  unfold boundAndCalled
  rw [f3]
  refine wpAny_bind (wpAny_pure (wpAny_call ?_))
  refine codeAny_call_builtin F.attr_ValueError.ga.plain F.entry_bexc_ga ?_
  exact ga_check X I c.hb (cls_entry X I c (wpAny_pure k))
theorem cls_attr {Q : Option Value → Shared → Prop} (X : K.In s.heap) (I : ObC x C s.heap) (c : XIs K C) (k : Q (some (.ref C)) { s with toks := s.toks + 1 }) :
    wpAny (model prog w) A (getAttr? (.ref x) "__class__") Q E s := by
  obtain ⟨hh, gg, dr, tt, ss⟩ := s
  unfold getAttr? getAttrBy?
  refine wpAny_bind (wpAny_mkText (wpAny_bind (wpAny_attempt ?_)))
  exact cls_by (s := ⟨hh, gg, dr, tt + 1, ss⟩) X I c (wpAny_pure k)
theorem kitx_exc (c : XIs K C) : KitX K (.ref x) (.ref C) (ObC x C) where
  ty := fun _ _ _ I => I.type
  it := fun _ _ X _ => by
    obtain ⟨cd, hc, _⟩ := any_some c.hd
    unfold clsIn at hc
    split at hc
    · rename_i ho
      intro A' Q' E' s' k q
      unfold isType loadHead
      exact wpAny_bind (wpAny_loadPart (k _ _ (X _ _ ho)) (wpAny_pure q))
    · cases hc
  ne := fun h tp dd its n sl X htp => by
    obtain ⟨cd, hc, _⟩ := any_some c.hd
    refine Bool.eq_false_iff.mpr fun q => ?_
    cases Value.ref.inj (beq_iff_eq.mp q)
    unfold clsIn at hc
    split at hc
    · rename_i ho
      cases (X _ _ ho).symm.trans htp
    · cases hc
  ca := fun X I k => cls_attr X I c k
end
section
variable {X : Cx}
def rIsiX (K : Frag) : List V → Hp → VK → Prop := fun xs H Q => ∃ (x C : Addr) (c : V) (cv : Value) (b : Bool), xs = [.ref x, c] ∧ clsV c = some cv ∧ H x = some (.ext (ObC x C)) ∧ XIs K C ∧ kitOne K (.ref C) cv = some b ∧ Q (.bl b) H
theorem call_isiX : CallR X (.builtin "isinstance") (rIsiX X.K) := by
  intro pins s σ H xs us Q I r h
  obtain ⟨x, C, c, cv, b, rfl, hc, hx, xi, e, q⟩ := h
  obtain ⟨u, v, rfl, r1, r2⟩ := r.two
  obtain rfl := clsV_rel hc r2
  cases (show u = Value.ref x from r1)
  obtain ⟨p, _, _⟩ := (show ObjOk X.prog X.w H s.heap x (.ext (ObC x C)) from I.hok x _ hx)
  exact kia_one (kitx_exc xi) I.kIn p e (fun z => nomatch z) fun tk => ⟨.bl b, H, I.tok tk, rfl, q⟩
theorem call_isiK {K : Frag} (h : X.K = K) : CallR X (.builtin "isinstance") (rIsiX K) := by
  subst h
  exact call_isiX
end
end L2

/-! BExc5 -/
set_option Elab.async false
set_option linter.all false
set_option maxRecDepth 100000
set_option maxHeartbeats 4000000
namespace L2
open PySem PySem.Spec PyProof.Rows
section
variable {X : Cx} {pins : List (Addr × Obj)} {σ : St} {H : Hp} {s : Shared}
theorem Inv.addX {a C : Addr} (I : Inv X pins σ H s) (h0 : ∀ b o, X.s₀.heap.get? b = some o → b ∉ X.ex → b ≠ a) (hn : H a = none) (hl : X.env.locals ≠ a) (hc : ∀ x c, X.env.cells.lookup x = some c → c ≠ a) (hp : ∀ p ∈ X.pn ++ pins, p.1 ≠ a) (ob : ObC a C s.heap) :
    Inv X pins σ (upd H a (.ext (ObC a C))) s := by
  have ne : ∀ {b : Addr} {u : HO}, H b = some u → b ≠ a := fun e => ne_of_none e hn
  refine ⟨I.ok, I.os, I.bare, ⟨I.base.keep, I.base.slot, fun b o q n hx => ?_, I.base.there, fun b xs q => ?_, fun b o u q => ?_, fun b ps q => ?_⟩, I.loc, I.cell, ?_, fun x c e => ?_, fun p hq => ?_, fun b u e => ?_, I.len⟩
  · rw [upd_ne (h0 b o q hx)]
    exact I.base.free b o q n hx
  · have := I.base.tups b xs q
    rw [upd_ne (ne this)]
    exact this
  · have := I.base.frzs b o u q
    rw [upd_ne (ne this)]
    exact this
  · obtain ⟨more, this⟩ := I.base.tbls b ps q
    exact ⟨more, by rw [upd_ne (ne this)]; exact this⟩
  · rw [upd_ne hl]
    exact I.free
  · rw [upd_ne (hc x c e)]
    exact I.freeC x c e
  · obtain ⟨e, n, n1, n2, d⟩ := I.pin p hq
    exact ⟨e, by rw [upd_ne (hp p hq)]; exact n, n1, n2, d⟩
  · by_cases hb : b = a
    · subst hb
      rw [upd_same] at e
      cases e
      refine ⟨ob, ?_, fun h1 h2 p q => ?_⟩
      · obtain ⟨o, e, _⟩ := ob
        exact ⟨o, e⟩
      · obtain ⟨o, e, c⟩ := p
        exact ⟨o, q o e, c⟩
    · rw [upd_ne hb] at e
      exact (I.hok b u e).stay (fun c v _ q => q) (fun c q => by rw [upd_ne (ne_of_none q hn)]; exact q) fun c xs q => by rw [upd_ne (ne_of_none q hn)]; exact q
theorem unbind_ok {M : Model} {A : Around} {E : Value → Shared → Prop} {i : Nat} {x : Str} {Q : Unit → Shared → Prop} (I : Inv X pins σ H s) (hN : X.N.Nodup) (hi : X.N[i]? = some x) (hk : X.env.scope.names.lookup x = some .local) {v : V} (hv : σ[i]? = some (some v))
    (h : ∀ s', Inv X pins (σ.set i none) H s' → Q () s') : wpAny M A (unbindName X.env x) Q E s := by
  obtain ⟨m, hn, hl⟩ := id I.loc
  have hcls : (X.env.scope.kind == .class || (X.env.scope.kind == .module && X.env.locals != X.env.globals)) = false := by rw [I.ok.kind]; rfl
  have cne := I.cne
  have hm : ∃ u, m x = some u := by
    obtain ⟨u, _, q⟩ := hl i x v hi hv (.inl hk)
    rcases q with ⟨_, e⟩ | ⟨k, _⟩
    · exact ⟨u, e⟩
    · have hk' : X.env.kindOf x = some .local := hk
      rw [hk'] at k
      rcases k with k | k <;> cases k
  obtain ⟨u0, hm⟩ := hm
  obtain ⟨oL, _, _, hoL, _⟩ := id hn
  refine wpAny_unbindName_local hk hn hm hcls fun h' u' hn' hs => ?_
  have tracked : HOk X.prog X.w H h' := fun b ob e => by
    refine (I.hok b ob e).stay (fun c w' hc q => (hs.2 c ?_).trans q) (fun _ q => q) fun _ _ q => q
    rintro rfl
    have hfree := I.free
    rcases hc with rfl | hc
    · rw [hfree] at e; cases e
    · rw [hfree] at hc; cases hc
  refine h _ ⟨I.ok, I.os, I.bare, ⟨fun b o e n hb hx => ?_, fun b o e n hb hx => ?_, I.base.free, fun b o e hx => ?_, I.base.tups, I.base.frzs, I.base.tbls⟩, ⟨_, hn', fun j y v' e1 e2 e3 => ?_⟩, fun y c e => ?_, I.free, I.freeC, fun p hp => ?_, tracked, by simpa using I.len⟩
  · exact (hs.2 b (Nat.ne_of_lt (Nat.lt_of_lt_of_le (Heap.lt_size e) I.ok.above))).trans (I.base.keep b o e n hb hx)
  · obtain ⟨sl, e1⟩ := I.base.slot b o e n hb hx
    exact ⟨sl, (hs.2 b (Nat.ne_of_lt (Nat.lt_of_lt_of_le (Heap.lt_size e) I.ok.above))).trans e1⟩
  · obtain ⟨o', e1⟩ := I.base.there b o e hx
    exact ⟨o', (hs.2 b (Nat.ne_of_lt (Nat.lt_of_lt_of_le (Heap.lt_size e) I.ok.above))).trans e1⟩
  · by_cases hj : j = i
    · subst hj
      rw [List.getElem?_set] at e2
      simp at e2
    · rw [List.getElem?_set_ne (Ne.symm hj)] at e2
      obtain ⟨u', r', q⟩ := hl j y v' e1 e2 e3
      refine ⟨u', r', ?_⟩
      rcases q with ⟨k, e⟩ | ⟨k, c, e, z⟩
      · refine .inl ⟨k, ?_⟩
        have : y ≠ x := fun e => hj (nodup_ix hN e1 (e ▸ hi))
        simp [this, e]
      · exact .inr ⟨k, c, e, z.sameBut hs (cne y c e)⟩
  · obtain ⟨w', z⟩ := I.cell y c e
    exact ⟨w', z.sameBut hs (cne y c e)⟩
  · obtain ⟨e, n, ne, nf, d⟩ := I.pin p hp
    exact ⟨(hs.2 p.1 ne).trans e, n, ne, nf, d⟩
theorem goes_ok {M : Model} {A : Around} {E : Value → Shared → Prop} {i : Nat} {x : Str} {pos : Pos} {Q : Unit → Shared → Prop} (I : Inv X pins σ H s) (hN : X.N.Nodup) (hi : X.N[i]? = some x) (hk : X.env.scope.names.lookup x = some .local)
    (h : ∀ s', Inv X pins (σ.set i none) H s' → Q () s') : wpAny M A (do bindName X.env x .none; unbindBehindTheSuite X.env x pos) Q E s := by
  have hiσ : i < σ.length := by rw [I.len]; exact (List.getElem?_eq_some_iff.mp hi).1
  refine wpAny_bind (wpAny_bindName (store_ok (v := .non) I hN hi (.inl hk) rfl (fun s1 I1 => ?_) (.inr hk)))
  unfold unbindBehindTheSuite
  refine wpAny_onRaise (unbind_ok I1 hN hi hk (v := .non) (List.getElem?_set_self hiσ) fun s2 I2 => h s2 ?_)
  rw [List.set_set] at I2
  exact I2
end
abbrev Ends.sans (D : Ends) (i : Nat) : Ends := { nx := fun σ H => D.nx (σ.set i none) H, rt := D.rt, bk := fun σ H => D.bk (σ.set i none) H, ct := fun σ H => D.ct (σ.set i none) H }
def tTryAs (C : Addr) (i : Nat) (tb : XK → TS) (th : TS) : TS := fun D σ H => tb (fun cls _ H' => cls = .ref C ∧ ∀ a, H' a = none → th (D.sans i) (σ.set i (some (.ref a))) (upd H' a (.ext (ObC a C)))) D σ H
theorem ps_tryAs {X : Cx} {body suite : List Stmt} {b0 : Stmt} {i : Nat} {x n : Str} {C : Addr} {np hpos pos : Pos} {tb : XK → TS} {th : TS} (hst : X.stack = X.env :: X.outer) (hfr : X.env.frame = some X.env.locals) (hN : X.N.Nodup) (hi : X.N[i]? = some n) (hk : X.env.scope.names.lookup n = some .local)
    (c : XCls X.K C) (hm : X.mg x = some (.ref C)) (hb : PX X body tb) (hh : ∀ a, PSs (X.inH a) (b0 :: suite) th) (hg : Gl X x := by rfl) (hdb : (x == ("__debug__" : Str)) = false := by decide) :
    PS X (.Try body [.ExceptHandler (some (.Name x np)) (some n) (b0 :: suite) hpos] [] [] pos) (tTryAs C i tb th) := by
  intro pins s σ H D I h
  refine wpAny_Try_except (wpAny_mono (hb pins s σ H D _ I h) (fun fl s1 q => ?_) (fun e s1 hx => ?_))
  · cases fl with
    | next => exact wpAny_execs_nil q
    | ret v => exact q
    | brk => exact q
    | cont => exact q
  · obtain ⟨H1, s2, I1, a, cls, a0, H', B, rfl, L, F, rfl, hts⟩ := hx
    obtain ⟨sh, sg, sd, stk, sos⟩ := s1
    -- the exception is younger than the call
    have young : s2.heap.get? a = none := by
      cases e : s2.heap.get? a with
      | none => rfl
      | some o =>
        obtain ⟨_, f2, f3, oe, vs, _, _, _, he, _, hd, _⟩ := id F
        by_cases hf : a ∈ frs X.stack
        · obtain ⟨_, o', ho', hnf⟩ := f3.mem hf
          have z := ho'.symm.trans he
          cases z
          exact absurd hd (hnf vs)
        · obtain ⟨o', e'⟩ := L.c3 a o e hf
          rw [f2] at e'
          cases e'
    have Ha : H' a = none := by
      cases e : H' a with
      | none => rfl
      | some o =>
        obtain ⟨u, hu⟩ := L.hok.thr e
        have := L.c2 a u (by rw [e]; intro z; cases z) hu
        rw [F.2.1] at this
        cases this
    have F' := F
    rw [hst] at F'
    refine wpAny_looks_onW (s := ⟨sh, sg, sd, stk, sos⟩) (outer := X.outer) (L := X.env.locals) (by rw [I.ok.frames, hst]) hfr F' fun h4 Hd4 up4 => wpAny_landsW (s := ⟨h4, sg, sd, stk, sos⟩) Hd4 fun h5 F5 up5 => ?_
    have up := up4.trans up5
    have I5 : Inv X pins σ H' ⟨h5, sg, sd, stk, sos⟩ := Lies.inv (t2 := stk) I1 L F5.1 up
    have J5 := I5.inH a
    refine wpAny_handleBy_cons (codeAny_handlers_test (ld_glob J5 hg hm ?_ hdb)) (by intro q; cases q)
    obtain ⟨bm, Nn, nm, qn, bs, hd, sn, sub, ab, col, dd, k0, k1, k2, k3, k5, mN, h1, h2, h3, h4'⟩ := (c.obj I.mod.kin).keeps I5.bk
    obtain ⟨ob, hob, hobc⟩ := F5.there
    refine wpAny_excMatches_sub_self h1 hob hobc (h4'.hasType rfl) ?_
    refine codeAny_handlers_suite_as (lands_againW (s := ⟨h5, sg, sd, stk, sos⟩) F5 fun h6 F6 up6 => ?_)
    have I6 : Inv X pins σ H' ⟨h6, sg, sd, stk, sos⟩ := Lies.inv (t2 := stk) I1 L F6.1 (up.trans up6)
    have I7 : Inv X pins σ (upd H' a (.ext (ObC a C))) ⟨h6, sg, sd, stk, sos⟩ := by
      refine I6.addX (fun b o e hx z => ?_) Ha (fun z => ?_) (fun y k e z => ?_) (fun p hp z => ?_) F6.there
      · obtain ⟨o', e'⟩ := I1.base.there b o e hx
        rw [z, young] at e'
        cases e'
      · obtain ⟨m, ⟨o, _, _, e, _⟩, _⟩ := I1.loc
        rw [z, young] at e
        cases e
      · obtain ⟨w', o, e', _⟩ := I1.cell y k e
        rw [z, young] at e'
        cases e'
      · have := (I1.pin p hp).1
        rw [z, young] at this
        cases this
    refine store_ok (v := .ref a) I7 hN hi (.inl hk) rfl (fun s8 I8 => ?_) (.inr hk)
    refine wpAny_mono (hh a pins _ _ _ (D.sans i) (I8.inH a) (hts a Ha)) (fun fl s9 q => ?_) (fun _ _ z => False.elim z)
    have q := SP.unH (X := X) I.ok q
    cases fl with
    | next =>
      obtain ⟨σ', H9, I9, q⟩ := q
      exact goes_ok I9 hN hi hk fun s' I' => ⟨_, _, I', q⟩
    | brk =>
      obtain ⟨σ', H9, I9, q⟩ := q
      exact goes_ok I9 hN hi hk fun s' I' => ⟨_, _, I', q⟩
    | cont =>
      obtain ⟨σ', H9, I9, q⟩ := q
      exact goes_ok I9 hN hi hk fun s' I' => ⟨_, _, I', q⟩
    | ret u =>
      obtain ⟨v, σ', H9, I9, r, q⟩ := q
      exact goes_ok I9 hN hi hk fun s' I' => ⟨v, _, _, I', r, q⟩
end L2

/-! BExt6 -/
set_option Elab.async false
set_option linter.all false
set_option maxRecDepth 100000
set_option maxHeartbeats 4000000
namespace L2
open PySem PySem.Spec PyProof.Rows
section
variable {X : Cx} {C : Addr} {x : Str} {p pos : Pos}
end
end L2

/-! BExt7 -/
set_option Elab.async false
set_option linter.all false
namespace L2
open PySem
section
variable {X : Cx} {es : List Expr} {t : TA} {te : TE}
theorem pa_C {c j pos} (ha : PE X (.Constant c j pos) te) (hr : PA X es t) : PA X (.Constant c j pos :: es) (tCons te t) := pa_cons ha hr rfl
theorem pa_T {xs c pos} (ha : PE X (.Tuple xs c pos) te) (hr : PA X es t) : PA X (.Tuple xs c pos :: es) (tCons te t) := pa_cons ha hr rfl
theorem pa_K {f xs ks pos} (ha : PE X (.Call f xs ks pos) te) (hr : PA X es t) : PA X (.Call f xs ks pos :: es) (tCons te t) := pa_cons ha hr rfl
theorem pa_B {l o r pos} (ha : PE X (.BinOp l o r pos) te) (hr : PA X es t) : PA X (.BinOp l o r pos :: es) (tCons te t) := pa_cons ha hr rfl
theorem pa_U {o r pos} (ha : PE X (.UnaryOp o r pos) te) (hr : PA X es t) : PA X (.UnaryOp o r pos :: es) (tCons te t) := pa_cons ha hr rfl
theorem pa_N {x pos} (ha : PE X (.Name x pos) te) (hr : PA X es t) : PA X (.Name x pos :: es) (tCons te t) := pa_cons ha hr rfl
end
end L2

/-! BExt8 -/
set_option Elab.async false
set_option linter.all false
set_option maxRecDepth 100000
set_option maxHeartbeats 4000000
namespace L2
open PySem PySem.Spec PyProof.Rows
section
variable {X : Cx}
def RngO (r : Addr) (a b : Int) : HO := .ext fun h => ∃ t u v, IsRange h r a b 1 t u v
theorem RngO.ok {prog : Program} {w : World} {H : Hp} {h : Heap} {r : Addr} {a b : Int} {t u v : Tok} (e : IsRange h r a b 1 t u v) : ObjOk prog w H h r (RngO r a b) :=
  ⟨⟨t, u, v, e⟩, ⟨_, e⟩, fun h1 h2 ⟨t, u, v, e⟩ k => ⟨t, u, v, k _ e⟩⟩
theorem call_range1O : CallR X (.type "range") (fun xs H Q => ∃ j : Int, xs = [.int j] ∧ ∀ r, H r = none → Q (.ref r) (upd H r (RngO r 0 j))) := by
  intro pins s σ H xs us Q I r h
  obtain ⟨j, rfl, q⟩ := h
  obtain ⟨u, rfl, t, rfl⟩ := vals1 r
  refine call_range_1 ?_
  exact ⟨.ref s.heap.objs.size, _, I.laid (fun b o q => Heap.get?_push_of_some _ q) (Nat.le_refl _) (RngO.ok (IsRange.new ..)), rfl, q _ (I.hok.fresh (Nat.le_refl _))⟩
theorem call_range2O : CallR X (.type "range") (fun xs H Q => ∃ i j : Int, xs = [.int i, .int j] ∧ ∀ r, H r = none → Q (.ref r) (upd H r (RngO r i j))) := by
  intro pins s σ H xs us Q I r h
  obtain ⟨i, j, rfl, q⟩ := h
  obtain ⟨u, v, rfl, ⟨t, rfl⟩, ⟨t', rfl⟩⟩ := r.two
  refine call_range_2 ?_
  exact ⟨.ref s.heap.objs.size, _, I.laid (fun b o q => Heap.get?_push_of_some _ q) (Nat.le_refl _) (RngO.ok (IsRange.new ..)), rfl, q _ (I.hok.fresh (Nat.le_refl _))⟩
def rngV (a : Int) (n : Nat) : List V := (List.range n).map fun (i : Nat) => V.int (a + (i : Int))
theorem vals_rng : ∀ (n : Nat) (a : Int) (us : List Value), us.length = n → (∀ (j : Nat) (v : Value), us[j]? = some v → ∃ t, v = .int (a + (j : Int)) t) → Vals (rngV a n) us
  | 0, a, us, e, _ => by
    cases us with
    | nil => exact .nil
    | cons _ _ => cases e
  | n + 1, a, us, e, h => by
    have e1 : rngV a (n + 1) = V.int a :: rngV (a + 1) n := by
      unfold rngV
      rw [List.range_succ_eq_map, List.map_cons, List.map_map]
      congr 1
      · simp
      · apply List.map_congr_left
        intro k _
        simp [Function.comp]
        omega
    cases us with
    | nil => cases e
    | cons u us =>
      rw [e1]
      obtain ⟨t, ht⟩ := h 0 u rfl
      refine .cons ⟨t, by rw [ht]; simp⟩ (vals_rng n (a + 1) us (by simpa using e) fun j v hj => ?_)
      obtain ⟨t', ht'⟩ := h (j + 1) v hj
      refine ⟨t', ht'.trans ?_⟩
      congr 1
      omega
theorem call_listR (hh : X.A.handled = none) : CallR X (.type "list") (fun xs H Q => ∃ (r : Addr) (a b : Int), xs = [.ref r] ∧ H r = some (RngO r a b) ∧ (-(2 ^ 62) ≤ a ∧ a < 2 ^ 62 ∧ -(2 ^ 62) ≤ b ∧ b < 2 ^ 62) ∧ a ≤ b ∧ (b - a).toNat ≤ 1000 ∧ ∀ l, H l = none → Q (.ref l) (upd H l (.lst (rngV a (b - a).toNat)))) := by
  intro pins s σ H xs us Q I r h
  obtain ⟨p, a, b, rfl, hp, ⟨q1, q2, q3, q4⟩, hab, hz, q⟩ := h
  obtain ⟨u, rfl, rx⟩ := vals1 r
  cases rx
  obtain ⟨⟨t, u, v, e⟩, _⟩ : ObjOk X.prog X.w H s.heap p (RngO p a b) := I.hok _ _ hp
  refine call_list_range (n := (b - a).toNat) hh e (small_one q1 q2 q3 q4) (by rw [rangeSize_one]; split <;> omega) (by omega) fun h' tk acc c' kp hD hI => ?_
  have vs : Vals (rngV a (b - a).toNat) acc.toList := vals_rng _ _ _ (by rw [Array.length_toList]; exact hI.1) fun j v hj => by
    obtain ⟨t, ht⟩ := hI.2 j v (by rw [← hj, Array.getElem?_toList])
    exact ⟨t, by rw [ht]; simp⟩
  refine ⟨.ref s.heap.objs.size, _, I.laid (t' := tk) kp (Nat.le_refl _) (show ObjOk X.prog X.w _ h' _ (.lst (rngV a (b - a).toNat)) from ⟨?_, acc.toList, c', vs, by rw [Array.toArray_toList]; exact hD⟩), rfl, q _ (I.hok.fresh (Nat.le_refl _))⟩
  rw [show (rngV a (b - a).toNat).length = (b - a).toNat by unfold rngV; simp]
  exact Nat.le_trans hz (by decide)
def tRev (K : PySem.W.Frag) (te ts : TE) : TE := fun σ H Q => te σ H fun x H1 => ts σ H1 fun y H2 => y = .int (-1) ∧ ∃ a xs, x = .ref a ∧ SqL K H2 a xs ∧ ∀ p, H2 p = none → Q (.ref p) (upd H2 p (.lst xs.reverse))
theorem pe_rev {e st : Expr} {te ts : TE} {p2 pos : Pos} (he : PE X e te) (hs : PE X st ts) : PE X (.Subscript e (.Slice none none (some st) p2) pos) (tRev X.K te ts) := by
  intro pins s σ H Q I h
  refine Subscript_ (thn (he pins s σ H _ I h) fun v s1 ⟨x, H1, I1, r1, q1⟩ => ?_)
  refine wpAny_Slice ?_
  rw [evalPart_none]
  refine wpAny_pure (wpAny_pure ?_)
  rw [evalPart_some]
  refine thn (hs pins s1 σ H1 _ I1 q1) fun w s3 ⟨y, H3, I3, r3, ey, a, xs, ex, hx, q⟩ => ?_
  subst ey
  subst ex
  obtain ⟨t, rfl⟩ := r3
  cases r1
  have I4 : Inv X pins σ H3 { s3 with heap := s3.heap.push { cls := .type "slice", data := .fields #[.none, .none, .int (-1) t] } } := I3.kept (t' := s3.toks) fun b ob q => Heap.get?_push_of_some _ q
  obtain ⟨its, r, ht, hz⟩ := I4.list hx
  have hlen := r.length
  refine tail_any (T := "list") (ops := [.ref a, .ref s3.heap.objs.size]) ht.isList.typeIs slot_list_getitem.lookup ?_ (by with_unfolding_all rfl)
  refine wpAny_getItem_list_slice ht.isList (Heap.IsSliceOf.new ..) .none .none (.int (-1) t) (by simp) ?_ (by rw [List.size_toArray] <;> omega)
  rw [PySem.W.krv_pick]
  refine ⟨.ref _, _, I4.laid (t' := s3.toks) (o := .lst xs.reverse) (fun b ob q => Heap.get?_push_of_some _ q) (Nat.le_refl _) ?_, rfl, q _ (I4.hok.fresh (Nat.le_refl _))⟩
  exact ⟨by rw [List.length_reverse]; exact hz, _, 0, r.reverse, Heap.get?_push_size _ rfl⟩
end
end L2

/-! BWrap -/
set_option Elab.async false
set_option linter.all false
namespace L2
open PySem PySem.Spec PyProof.Rows
structure Bx (p : Prop) : Prop where
  of : p
theorem bx_in {X : Cx} {body : List Stmt} {q : TS → Prop} {t : TS} (h : Bx (PSs X body t)) (k : q t) : ∃ t, PSs X body t ∧ q t := ⟨t, h.of, k⟩
theorem w_pt {X : Cx} {e : Expr} {t : TT} (h : Bx (PW X e t)) : Bx (PT X e t) := ⟨h.of.pt⟩
section
variable {X : Cx}
theorem w_pe_int {i j pos} : Bx (PE X (.Constant (.int i) j pos) (tC (.int i))) := ⟨pe_int⟩
theorem w_pe_bl {b j pos} : Bx (PE X (.Constant (.bool b) j pos) (tC (.bl b))) := ⟨pe_bl⟩
theorem w_pe_non {j pos} : Bx (PE X (.Constant .none j pos) (tC .non)) := ⟨pe_non⟩
theorem w_pe_str {x j pos} : Bx (PE X (.Constant (.str x) j pos) (tC (.str x))) := ⟨pe_str⟩
theorem w_pe_glob {x : Str} {v : V} {u : Value} {pos : Pos} (hg : Gl X x) (hm : X.mg x = some u) (r : RelV v u) (hd : (x == ("__debug__" : Str)) = false := by decide) : Bx (PE X (.Name x pos) (tC v)) := ⟨pe_glob hg hm r hd⟩
end
section
variable {X : Cx}
variable {a b : Expr} {ta tb : TE} {pos : Pos}
theorem w_pt_cmp {op : CmpOp} {t : TE} (h : Bx (PC X op a b t)) (h1 : behindInMarks op b = false := by first | exact nobehind _ (by decide) (by decide) | rfl) : Bx (PT X (.Compare a [op] [b] pos) (tB t)) := ⟨pt_cmp h.of h1⟩
theorem w_pt_val {e : Expr} {t : TE} (h : Bx (PE X e t)) (he : ∀ whole, isTrue e X.env whole = (do let v ← whole; standAt e.pos; holding [v] (truthy v)) := by intro _; rfl) : Bx (PT X e (tB t)) := ⟨pt_val h.of he⟩
end
section
variable {X : Cx}
variable {a b : Expr} {ta tb : TE} {pos : Pos}
variable {tA tB' : TT} {rest : List Expr}
theorem w_pw_and1 (ha : Bx (PT X a tA)) : Bx (PW X (.BoolOp .And [a] pos) tA) := ⟨pw_and1 ha.of⟩
theorem w_pw_or1 (ha : Bx (PT X a tA)) : Bx (PW X (.BoolOp .Or [a] pos) tA) := ⟨pw_or1 ha.of⟩
theorem w_pw_and (ha : Bx (PT X a tA)) (hb : Bx (PW X (.BoolOp .And (b :: rest) pos) tB')) : Bx (PW X (.BoolOp .And (a :: b :: rest) pos) (tAnd tA tB')) := ⟨pw_and ha.of hb.of⟩
theorem w_pw_or (ha : Bx (PT X a tA)) (hb : Bx (PW X (.BoolOp .Or (b :: rest) pos) tB')) : Bx (PW X (.BoolOp .Or (a :: b :: rest) pos) (tOr tA tB')) := ⟨pw_or ha.of hb.of⟩
theorem w_pt_not (ha : Bx (PT X a tA)) : Bx (PT X (.UnaryOp .Not a pos) (tNot tA)) := ⟨pt_not ha.of⟩
theorem w_pe_one {op} {t : TE} (h : Bx (PE X a t)) : Bx (PE X (.BoolOp op [a] pos) t) := ⟨pe_one h.of⟩
theorem w_pe_and (ha : Bx (PE X a ta)) (hb : Bx (PE X (.BoolOp .And (b :: rest) pos) tb)) : Bx (PE X (.BoolOp .And (a :: b :: rest) pos) (tAndV ta tb)) := ⟨pe_and ha.of hb.of⟩
theorem w_pe_not (ha : Bx (PE X a ta)) : Bx (PE X (.UnaryOp .Not a pos) (tNotV ta)) := ⟨pe_not ha.of⟩
end
section
variable {X : Cx} {st : Stmt} {rest : List Stmt} {t u : TS} {e : Expr} {te : TE} {pos : Pos}
theorem w_pss_nil  : Bx (PSs X [] tNext) := ⟨pss_nil⟩
theorem w_pss_cons (h1 : Bx (PS X st t)) (h2 : Bx (PSs X rest u)) : Bx (PSs X (st :: rest) (tSeq t u)) := ⟨pss_cons h1.of h2.of⟩
theorem w_pss_one (h1 : Bx (PS X st t)) : Bx (PSs X [st] t) := ⟨pss_one h1.of⟩
theorem w_ps_expr (he : Bx (PE X e te)) (hs : swapsWith e none pos.line X.env = pure false := by rfl) : Bx (PS X (.Expr e pos) (tDrop te)) := ⟨ps_expr he.of hs⟩
theorem w_ps_ret (he : Bx (PE X e te)) : Bx (PS X (.Return (some e) pos) (tRet te)) := ⟨ps_ret he.of⟩
theorem w_ps_if {c : Expr} {a b : List Stmt} {tc : TT} (hc : Bx (PT X c tc)) (ha : Bx (PSs X a t)) (hb : Bx (PSs X b u)) : Bx (PS X (.If c a b pos) (tIfS tc t u)) := ⟨ps_if hc.of ha.of hb.of⟩
end
section
variable {X : Cx} {pos : Pos}
theorem w_pg_name {i : Nat} {x : Str} (hN : X.N.Nodup) (hi : X.N[i]? = some x) (hx : Loc X.env.scope x) (hf : X.fn x = true ∨ X.env.scope.names.lookup x = some .local := by first | exact .inl rfl | exact .inr rfl | assumption) : Bx (PG X (.Name x pos) (gName i)) := ⟨pg_name hN hi hx hf⟩
theorem w_pgs_nil  : Bx (PGs X [] gNil) := ⟨pgs_nil⟩
theorem w_pgs_cons {e : Expr} {es : List Expr} {t : TG} {u : TGs} (h1 : Bx (PG X e t)) (h2 : Bx (PGs X es u)) (hs : (assignEach (e :: es) X.env).map (·.2) = assign e X.env :: (assignEach es X.env).map (·.2) := by rfl) : Bx (PGs X (e :: es) (gCons t u)) := ⟨pgs_cons h1.of h2.of hs⟩
theorem w_pg_tup {es : List Expr} {k : Nat} {t : TGs} {n : Nat} (hc : X.calm = true) (h : Bx (PGs X es t)) (hn : (assignEach es X.env).length = n := by rfl) (hst : (assignEach es X.env).findIdx? (·.1) = none := by rfl) : Bx (PG X (.Tuple es k pos) (gTup X.K n t)) := ⟨pg_tup hc h.of hn hst⟩
theorem w_pg_sub {o i : Expr} {to ti : TE} {t : TSet} (ho : Bx (PE X o to)) (hi : Bx (PE X i ti)) (hs : PSet X t) (ha : ∀ v, assign (.Subscript o i pos) X.env v = (do
      let ov ← holding [v] (eval o X.env)
      let iv ← holding [v, ov] (eval i X.env)
      standAt pos
      holding [v, ov, iv] (setItem ov iv v)
      release [v, ov, iv] []) := by intro _; rfl) : Bx (PG X (.Subscript o i pos) (gSub to ti t)) := ⟨pg_sub ho.of hi.of hs ha⟩
theorem w_ps_asg {tg e : Expr} {te : TE} {g : TG} (he : Bx (PE X e te)) (hg : Bx (PG X tg g)) (hs : swapsWithSole [tg] e pos.line X.env = pure false := by rfl) (hw : swappedStores [tg] e X.env = pure none := by rfl) (h1 : (assignEach [tg] X.env).map (·.2) = [assign tg X.env] := by rfl) : Bx (PS X (.Assign [tg] e pos) (tAsg te g)) := ⟨ps_asg he.of hg.of hs hw h1⟩
theorem w_ps_set {i : Nat} {x : Str} {e : Expr} {te : TE} {pos' : Pos} (hN : X.N.Nodup) (hi : X.N[i]? = some x) (hx : Loc X.env.scope x) (he : Bx (PE X e te)) (hs : swapsWith e (some (.Name x pos')) pos.line X.env = pure false := by rfl) (hf : X.fn x = true ∨ X.env.scope.names.lookup x = some .local := by first | exact .inl rfl | exact .inr rfl | assumption) : Bx (PS X (.Assign [.Name x pos'] e pos) (tAsg te (gName i))) := ⟨ps_set hN hi hx he.of hs hf⟩
end
section
variable {X : Cx} {tg : Expr}
theorem w_pi_list {l : Expr} {tl : TE} (hl : Bx (PE X l tl)) : Bx (PI X tg l (iList X.K tl)) := ⟨pi_list hl.of⟩
theorem w_pi_range1 {a : Expr} {ta : TA} {p pos : Pos} (hg : Gl X "range") (hm : X.mg "range" = none) (ha : Bx (PA X [a] ta)) (hs : starEach [a] X.env = [(false, eval a X.env)] := by rfl) : Bx (PI X tg (.Call (.Name "range" p) [a] [] pos) (iRng1 ta)) := ⟨pi_range1 hg hm ha.of hs⟩
theorem w_pi_range2 {a b : Expr} {ta : TA} {p pos : Pos} (hg : Gl X "range") (hm : X.mg "range" = none) (ha : Bx (PA X [a, b] ta)) (hs : starEach [a, b] X.env = [(false, eval a X.env), (false, eval b X.env)] := by rfl) (hs2 : starEach [b] X.env = [(false, eval b X.env)] := by rfl) : Bx (PI X tg (.Call (.Name "range" p) [a, b] [] pos) (iRng2 ta)) := ⟨pi_range2 hg hm ha.of hs hs2⟩
theorem w_ps_for {iter : Expr} {body : List Stmt} {wi : TI} {g : TG} {tb : TS} {pos : Pos} (hp : PassesOwn (model X.prog X.w) X.A X.env X.xe) (hc : X.calm = true) (hi : Bx (PI X tg iter wi)) (hg : Bx (PG X tg g)) (hb : Bx (PSs X body tb)) (hs : ∀ x, foldedSetIterable iter X.env x = pure x := by intro _; rfl) : Bx (PS X (.For tg iter body [] pos) (tFor wi g tb)) := ⟨ps_for hp hc hi.of hg.of hb.of hs⟩
end
section
variable {X : Cx} {a b c : Expr} {ta tb tc : TE} {pos : Pos}
theorem w_pe_op {op : Operator} {r : R2} (ho : OpR X (binaryOp op) r) (ha : Bx (PE X a ta)) (hb : Bx (PE X b tb)) : Bx (PE X (.BinOp a op b pos) (tOp r ta tb)) := ⟨pe_op ho ha.of hb.of⟩
theorem w_pe_un {op : UnaryOp} {r : V → Hp → VK → Prop} (ho : UnR X (unaryOp op) r) (ha : Bx (PE X a ta)) : Bx (PE X (.UnaryOp op a pos) (tUn r ta)) := ⟨pe_un ho ha.of⟩
theorem w_pe_cmpR {op : CmpOp} {r : R2} (ho : OpR X (compareOp op) r) (ha : Bx (PE X a ta)) (hb : Bx (PE X b tb)) (hm : behindInMarks op b = false) : Bx (PE X (.Compare a [op] [b] pos) (tOp r ta tb)) := ⟨pe_cmpR ho ha.of hb.of hm⟩
theorem w_pt_cmpR {op : CmpOp} {r : R2} (ho : OpR X (compareOp op) r) (ha : Bx (PE X a ta)) (hb : Bx (PE X b tb)) (hm : behindInMarks op b = false) : Bx (PT X (.Compare a [op] [b] pos) (tTest (tOp r ta tb))) := ⟨pt_cmpR ho ha.of hb.of hm⟩
end
section
variable {X : Cx} {o e value : Expr} {f : Str} {pos pos' tpos : Pos} {ta tv : TE}
theorem w_ps_fld (ha : Bx (PE X o ta)) (hv : Bx (PE X value tv)) (hs : swapsWith value (some (.Attribute o f pos')) pos.line X.env = pure false) : Bx (PS X (.Assign [.Attribute o f pos'] value pos) (sFld X.K ta tv f)) := ⟨ps_fld ha.of hv.of hs⟩
end
section
variable {X : Cx} {e : Expr} {es : List Expr} {te : TE} {t : TA} {pos : Pos}
theorem w_pa_nil  : Bx (PA X [] tNil) := ⟨pa_nil⟩
theorem w_pa_cons (ha : Bx (PE X e te)) (hr : Bx (PA X es t)) (hs : starEach (e :: es) X.env = (false, eval e X.env) :: starEach es X.env := by rfl) : Bx (PA X (e :: es) (tCons te t)) := ⟨pa_cons ha.of hr.of hs⟩
theorem w_pe_tup {x1} (h : Bx (PA X es t)) : Bx (PE X (.Tuple es x1 pos) (tTup t)) := ⟨pe_tup h.of⟩
theorem w_pe_lst (h : Bx (PA X es t)) : Bx (PE X (.List es pos) (tLst t)) := ⟨pe_lst h.of⟩
end
section
variable {X : Cx} {CX : CXT} {k : Nat} {f C : Addr} {fd : FuncData} {ps : List Str} {sp : Sp} {dvs : List V} {ds : List Value} {E : XK} {x m : Str} {p pos apos : Pos} {e o : Expr} {es : List Expr} {ta : TE} {t : TA}
end
section
variable {X : Cx} {CX : CXT} {k : Nat} {f C : Addr} {fd : FuncData} {ps ks : List Str} {sp : Sp} {E : XK} {x m : Str} {p pos apos kpos : Pos} {e o : Expr} {es : List Expr} {kws : List Keyword} {te ta : TE} {t tk : TA} {nm : Option Str}
end
section
variable {X : Cx} {CX : CXT} {k : Nat} {f C : Addr} {fd : FuncData} {ps ks : List Str} {sp : Sp} {E : XK} {x m : Str} {p pos apos kpos : Pos} {e o : Expr} {es : List Expr} {kws : List Keyword} {te ta : TE} {t tk : TA} {nm : Option Str}
variable {g : List Value → List Value → List Value} {gV : List V → List V → List V}
end
section
variable {X : Cx} {x : Str} {p pos : Pos} {e : Expr} {es : List Expr} {t : TA} {id T : String} {r : List V → Hp → VK → Prop}
theorem w_pe_callB (hc : CallR X (.builtin id) r) (hg : Gl X x) (hm : X.mg x = none) (hv : bootBuiltins x = some (.builtin id)) (ha : Bx (PA X (e :: es) t)) (hn : x ≠ "__name__" := by decide) (hdb : (x == ("__debug__" : Str)) = false := by decide) (he : starEach (e :: es) X.env = (false, eval e X.env) :: starEach es X.env := by rfl) (hpl : (backTo pos (starEach es X.env)).any (·.1) = false := by rfl) : Bx (PE X (.Call (.Name x p) (e :: es) [] pos) (tCB r t)) := ⟨pe_callB hc hg hm hv ha.of hn hdb he hpl⟩
theorem w_pe_callTy (hc : CallR X (.type T) r) (hg : Gl X x) (hm : X.mg x = none) (hv : bootBuiltins x = some (.type T)) (ha : Bx (PA X (e :: es) t)) (hn : x ≠ "__name__" := by decide) (hdb : (x == ("__debug__" : Str)) = false := by decide) (he : starEach (e :: es) X.env = (false, eval e X.env) :: starEach es X.env := by rfl) (hpl : (backTo pos (starEach es X.env)).any (·.1) = false := by rfl) : Bx (PE X (.Call (.Name x p) (e :: es) [] pos) (tCB r t)) := ⟨pe_callTy hc hg hm hv ha.of hn hdb he hpl⟩
end
section
variable {X : Cx} {e : Expr} {te : TE} {lo hi : Option Expr} {tl th : TO} {pos p2 : Pos}
theorem w_po_none  : Bx (PO X none tNoPart) := ⟨po_none⟩
theorem w_po_some (h : Bx (PE X e te)) : Bx (PO X (some e) (tPart te)) := ⟨po_some h.of⟩
theorem w_pe_slice {r : V → Option Int → Option Int → Hp → VK → Prop} (hr : SlR X r) (he : Bx (PE X e te)) (hl : Bx (PO X lo tl)) (hu : Bx (PO X hi th)) : Bx (PE X (.Subscript e (.Slice lo hi none p2) pos) (tSl r te tl th)) := ⟨pe_slice hr he.of hl.of hu.of⟩
end
section
variable {X : Cx} {a b : Expr} {ta tb : TE} {pos : Pos}
theorem w_pe_ix {r : R2} (hr : IxR X r) (ha : Bx (PE X a ta)) (hb : Bx (PE X b tb)) (hs : PlainIx b) : Bx (PE X (.Subscript a b pos) (tOp r ta tb)) := ⟨pe_ix hr ha.of hb.of hs⟩
end
section
variable {X : Cx} {a b : Expr} {ta tb : TE} {pos : Pos}
variable {o e : Expr} {es : List Expr} {to : TE} {t : TA} {name : Str} {apos cpos : Pos} {T id : String} {r : V → List V → Hp → VK → Prop}
theorem w_pe_bm (pa : PlainAttrs T) (slot : Slot T name id) (hty : typeOf (.builtin id) = pure (.type "method_descriptor")) (hm : MtR X id r) (ho : Bx (PE X o to)) (ha : Bx (PA X (e :: es) t)) (hbase : attributeBase o name X.env (eval o X.env) = eval o X.env := by rfl) (hfew : ((backTo cpos (starEach (e :: es) X.env)).all (fun x => !x.1) && (backToKw cpos (keywordEach [] X.env)).all (fun x => x.1.isSome)
      && decide ((e :: es).length + ([] : List Keyword).length + (if ([] : List Keyword).isEmpty then 0 else 1) < 30)) = true := by rfl) (hline : (apos.endLine == cpos.line) = true := by rfl) (hs : starEach (e :: es) X.env = (false, eval e X.env) :: starEach es X.env := by rfl) (hplain : (backTo cpos (starEach es X.env)).any (·.1) = false := by rfl) : Bx (PE X (.Call (.Attribute o name apos) (e :: es) [] cpos) (tBM X.K T r to t)) := ⟨pe_bm pa slot hty hm ho.of ha.of hbase hfew hline hs hplain⟩
end
section
variable {X : Cx} {o i e value : Expr} {pos pos' tpos : Pos} {td ty tv : TE}
theorem w_pe_dget (hu : X.A.units + 1 < cLine) (ho : Bx (PE X o td)) (hi : Bx (PE X i ty)) (hs : NoSl i) : Bx (PE X (.Subscript o i pos) (tDGet td ty)) := ⟨pe_dget hu ho.of hi.of hs⟩
theorem w_pc_din (hu : X.A.units + 1 < cLine) (hi : Bx (PE X i ty)) (ho : Bx (PE X o td)) : Bx (PC X .In i o (tDIn ty td)) := ⟨pc_din hu hi.of ho.of⟩
theorem w_ps_dput (hu : X.A.units + 1 < cLine) (ho : Bx (PE X o td)) (hi : Bx (PE X i ty)) (hv : Bx (PE X value tv)) (hs : swapsWith value (some (.Subscript o i pos')) pos.line X.env = pure false) : Bx (PS X (.Assign [.Subscript o i pos'] value pos) (sDPut td ty tv)) := ⟨ps_dput hu ho.of hi.of hv.of hs⟩
end
section
variable {X : Cx} {pos : Pos}
theorem w_pe_dnewK  : Bx (PE X (.Dict [] [] pos) tDNewK) := ⟨pe_dnewK⟩
theorem w_pe_dnewT  : Bx (PE X (.Dict [] [] pos) tDNewT) := ⟨pe_dnewT⟩
end
section
end
section
variable {X : Cx} {o e f : Expr} {apos cpos : Pos} {td ty tx : TE}
end
section
variable {X : Cx}
theorem w_pv (i : Nat) {x : Str} {pos : Pos} (hN : X.N[i]? = some x := by rfl) (hv : Vis X.env.scope x := by first | exact Or.inl rfl | exact Or.inr (Or.inl rfl) | exact Or.inr (Or.inr rfl)) (hd : (x == ("__debug__" : Str)) = false := by decide) (hcd : (x == ("__classdict__" : Str)) = false := by decide) : Bx (PE X (.Name x pos) (tVar i)) := ⟨pv i hN hv hd hcd⟩
end
section
theorem w_pss_cut {X : Cx} {st : Stmt} {rest : List Stmt} {t u : TS} (h1 : Bx (PS X st t)) (h2 : Bx (PSs X rest u)) : Bx (PSs X (st :: rest) (tSeqM t u)) := ⟨pss_cut h1.of h2.of⟩
theorem w_pts_nil {X : Cx} : Bx (PTs X [] tYes) := ⟨pts_nil⟩
theorem w_pts_one {X : Cx} {c : Expr} {t : TT} (h : Bx (PT X c t)) : Bx (PTs X [c] t) := ⟨pts_one h.of⟩
end
section
variable {X : Cx} {tg iter elt : Expr} {ifs : List Expr} {scope : Scope} {pos : Pos} {N' : List Str} {t : Nat} {caps : List Nat} {g : Blk → TG} {tc : Blk → TT} {te : Blk → TE} {wi : TI}
theorem w_pe_comp (hc : X.calm = true) (S : CompOk X scope N' t caps) (hi : Bx (PI X tg iter wi)) (hg : ∀ b, Bx (PG (cxB X scope N' b) tg (g b))) (ht : ∀ b, Bx (PTs (cxB X scope N' b) ifs (tc b))) (he : ∀ b, Bx (PE (cxB X scope N' b) elt (te b))) (hs : ∀ x, foldedSetIterable iter X.env x = pure x := by intro _; rfl) : Bx (PE X (.ListComp elt [⟨tg, iter, ifs, 0⟩] scope pos) (tComp wi g tc te t caps)) := ⟨pe_comp hc S hi.of (fun x0 => (hg x0).of) (fun x0 => (ht x0).of) (fun x0 => (he x0).of) hs⟩
theorem w_ps_setComp {i : Nat} {y : Str} {py spos : Pos} (hc : X.calm = true) (hN : X.N.Nodup) (hiy : X.N[i]? = some y) (hy : Loc X.env.scope y) (S : CompOk X scope N' t caps) (hi : Bx (PI X tg iter wi)) (hg : ∀ b, Bx (PG (cxB X scope N' b) tg (g b))) (ht : ∀ b, Bx (PTs (cxB X scope N' b) ifs (tc b))) (he : ∀ b, Bx (PE (cxB X scope N' b) elt (te b))) (hsw : swapsWith (.ListComp elt [⟨tg, iter, ifs, 0⟩] scope pos) (some (.Name y py)) spos.line X.env = pure true := by rfl) (hs : ∀ x, foldedSetIterable iter X.env x = pure x := by intro _; rfl) (hf : X.fn y = true ∨ X.env.scope.names.lookup y = some .local := by first | exact .inl rfl | exact .inr rfl | assumption) : Bx (PS X (.Assign [.Name y py] (.ListComp elt [⟨tg, iter, ifs, 0⟩] scope pos) spos) (tAsg (tComp wi g tc te t caps) (gName i))) := ⟨ps_setComp hc hN hiy hy S hi.of (fun x0 => (hg x0).of) (fun x0 => (ht x0).of) (fun x0 => (he x0).of) hsw hs hf⟩
end
section
variable {X : Cx} {k : Nat} {f C : Addr} {fd : FuncData} {ps : List Str} {sp : Sp} {x m : Str} {p pos apos : Pos} {e o : Expr} {es : List Expr} {ta : TE} {t : TA}
theorem w_pe_c (c : Callee X.prog X.w X.K X.mg X.base x f fd ps k sp) (hr : Room k X.A) (ha : Bx (PA X (e :: es) t)) (hg : Gl X x := by rfl) (hdb : (x == ("__debug__" : Str)) = false := by decide) (he : starEach (e :: es) X.env = (false, eval e X.env) :: starEach es X.env := by rfl) (hpl : (backTo pos (starEach es X.env)).any (·.1) = false := by rfl) : Bx (PE X (.Call (.Name x p) (e :: es) [] pos) (tCall sp [] E0 t)) := ⟨pe_c c hr ha.of hg hdb he hpl⟩
end
section
theorem w_pe_cls {X : Cx} {x : Str} {C : Addr} {pos : Pos} (hm : X.mg x = some (.ref C)) (hg : Gl X x := by rfl) (hd : (x == ("__debug__" : Str)) = false := by decide) : Bx (PE X (.Name x pos) (tC (.ref C))) := ⟨pe_cls hm hg hd⟩
theorem w_pe_bty {X : Cx} {x : Str} {n : String} {pos : Pos} (hm : X.mg x = none) (hv : bootBuiltins x = some (.type n)) (hg : Gl X x := by rfl) (hn : x ≠ "__name__" := by decide) (hd : (x == ("__debug__" : Str)) = false := by decide) : Bx (PE X (.Name x pos) (tC (.ty n))) := ⟨pe_bty hm hv hg hn hd⟩
end
section
variable {P : Program} {w : World} {A : Around} {R : Result → Shared → Prop} {I S : Addr} {fp wr : List Addr} {n : Nat} {Is : Nat → Value → Prop} {St : Nat → Heap → Prop} {kw : List (Str × Value)}
end
section
end
section
variable {X : Cx} {C : Addr} {x : Str} {p pos : Pos}
end
section
variable {X : Cx} {es : List Expr} {t : TA} {te : TE}
theorem w_pa_C {c j pos} (ha : Bx (PE X (.Constant c j pos) te)) (hr : Bx (PA X es t)) : Bx (PA X (.Constant c j pos :: es) (tCons te t)) := ⟨pa_C ha.of hr.of⟩
theorem w_pa_T {xs c pos} (ha : Bx (PE X (.Tuple xs c pos) te)) (hr : Bx (PA X es t)) : Bx (PA X (.Tuple xs c pos :: es) (tCons te t)) := ⟨pa_T ha.of hr.of⟩
theorem w_pa_K {f xs ks pos} (ha : Bx (PE X (.Call f xs ks pos) te)) (hr : Bx (PA X es t)) : Bx (PA X (.Call f xs ks pos :: es) (tCons te t)) := ⟨pa_K ha.of hr.of⟩
theorem w_pa_B {l o r pos} (ha : Bx (PE X (.BinOp l o r pos) te)) (hr : Bx (PA X es t)) : Bx (PA X (.BinOp l o r pos :: es) (tCons te t)) := ⟨pa_B ha.of hr.of⟩
theorem w_pa_U {o r pos} (ha : Bx (PE X (.UnaryOp o r pos) te)) (hr : Bx (PA X es t)) : Bx (PA X (.UnaryOp o r pos :: es) (tCons te t)) := ⟨pa_U ha.of hr.of⟩
theorem w_pa_N {x pos} (ha : Bx (PE X (.Name x pos) te)) (hr : Bx (PA X es t)) : Bx (PA X (.Name x pos :: es) (tCons te t)) := ⟨pa_N ha.of hr.of⟩
end
section
variable {X : Cx}
theorem w_pe_rev {e st : Expr} {te ts : TE} {p2 pos : Pos} (he : Bx (PE X e te)) (hs : Bx (PE X st ts)) : Bx (PE X (.Subscript e (.Slice none none (some st) p2) pos) (tRev X.K te ts)) := ⟨pe_rev he.of hs.of⟩
end
section
variable {P : Program} {w : World} {K : PySem.W.Frag} {mg : Str → Option Value} {base : Heap} {N : List Str} {qual : Str} {scope : Scope} {f : Addr} {cd : Value} {A : Around} {outer : List Env} {s0 : Shared} {H0 : Hp} {E : XK}
theorem w_ps_raise (hc : (A.deeper (envOfC qual scope s0.heap.objs.size f cd)).handled = none) (c : XCls K C) (hm : mg x = some (.ref C)) (ha : Bx (PA (cxOf (CX1 P w) P w K mg base N qual scope f cd A outer s0 H0 E) (e :: es) t)) (hg : Gl (cxOf (CX1 P w) P w K mg base N qual scope f cd A outer s0 H0 E) x := by rfl) (he : starEach (e :: es) (cxOf (CX1 P w) P w K mg base N qual scope f cd A outer s0 H0 E).env = (false, eval e (cxOf (CX1 P w) P w K mg base N qual scope f cd A outer s0 H0 E).env) :: starEach es (cxOf (CX1 P w) P w K mg base N qual scope f cd A outer s0 H0 E).env := by rfl) (hpl : (backTo cpos (starEach es (cxOf (CX1 P w) P w K mg base N qual scope f cd A outer s0 H0 E).env)).any (·.1) = false := by rfl) (hdb : (x == ("__debug__" : Str)) = false := by decide) : Bx (PS (cxOf (CX1 P w) P w K mg base N qual scope f cd A outer s0 H0 E) (.Raise (some (.Call (.Name x np) (e :: es) [] cpos)) none pos) (tRz C E t)) := ⟨ps_raise hc c hm ha.of hg he hpl hdb⟩
end
section
variable {X : Cx} {k : Nat} {f C : Addr} {fd : FuncData} {ps : List Str} {sp : Sp} {dvs : List V} {ds : List Value} {x : Str} {p pos : Pos} {e : Expr} {es : List Expr} {t : TA}
theorem w_px_expr {te : XK → TE} (h : Bx (PV X e te)) (hs : swapsWith e none pos.line X.env = pure false := by rfl) : Bx (PX X [.Expr e pos] (fun E => tDrop (te E))) := ⟨px_expr h.of hs⟩
end
section
end
section
variable {X : Cx} {k : Nat} {f C : Addr} {fd : FuncData} {ps : List Str} {sp : Sp} {x : Str} {p pos : Pos} {e : Expr} {es : List Expr} {t : TA}
theorem w_pv_m (c : Maker1 X.prog X.w X.K X.mg X.base x C f fd ps k sp) (hr : Room (k + 1) X.A) (ha : Bx (PA X.nox (e :: es) t)) (hg : Gl X x := by rfl) (hdb : (x == ("__debug__" : Str)) = false := by decide) (he : starEach (e :: es) X.env = (false, eval e X.env) :: starEach es X.env := by rfl) (hpl : (backTo pos (starEach es X.env)).any (·.1) = false := by rfl) : Bx (PV X (.Call (.Name x p) (e :: es) [] pos) (fun E => tMake C sp [] E t)) := ⟨pv_m c hr ha.of hg hdb he hpl⟩
end
section
theorem w_ps_tryAs {X : Cx} {body suite : List Stmt} {b0 : Stmt} {i : Nat} {x n : Str} {C : Addr} {np hpos pos : Pos} {tb : XK → TS} {th : TS} (hst : X.stack = X.env :: X.outer) (hfr : X.env.frame = some X.env.locals) (hN : X.N.Nodup) (hi : X.N[i]? = some n) (hk : X.env.scope.names.lookup n = some .local) (c : XCls X.K C) (hm : X.mg x = some (.ref C)) (hb : Bx (PX X body tb)) (hh : ∀ a, Bx (PSs (X.inH a) (b0 :: suite) th)) (hg : Gl X x := by rfl) (hdb : (x == ("__debug__" : Str)) = false := by decide) : Bx (PS X (.Try body [.ExceptHandler (some (.Name x np)) (some n) (b0 :: suite) hpos] [] [] pos) (tTryAs C i tb th)) := ⟨ps_tryAs hst hfr hN hi hk c hm hb.of (fun x0 => (hh x0).of) hg hdb⟩
end
end L2

/-! SortTot -/
set_option Elab.async false
set_option linter.all false
set_option maxRecDepth 100000
set_option maxHeartbeats 4000000
namespace L2
namespace Srt
open PySem PyProof.Rows
def gallop' : Bool → Keyed → Array Keyed → Nat → Nat → Nat → StateT SortSt Sem (Option Nat) := sortPriv% PySem.Builtin.gallop
def mergeLo' : Array Keyed → Array Keyed → StateT SortSt Sem (Array Keyed) := sortPriv% PySem.Builtin.mergeLo
def mergeHi' : Array Keyed → Array Keyed → StateT SortSt Sem (Array Keyed) := sortPriv% PySem.Builtin.mergeHi
def setMin' : Nat → StateT SortSt Sem Unit := sortPriv% PySem.Builtin.setMinGallop
def beyond' (left : Bool) (key : Keyed) (arr : Array Keyed) (base i : Nat) : StateT SortSt Sem (Option Bool) :=
  elem' arr (base + i) >>= fun x => if left = true then lt' x key else lt' key x >>= fun o => pure (o.map fun b => !b)
section
variable {prog : Program} {w : World} {A : Around} {E : Value → Shared → Prop} {s : Shared} {it : List Keyed} {κ : SortKind}
def Cmp (prog : Program) (w : World) (A : Around) (s : Shared) (it : List Keyed) (κ : SortKind) : Prop :=
  ∀ x ∈ it, ∀ y ∈ it, ∀ (Q : Bool → Shared → Prop) (E : Value → Shared → Prop), (∀ b, Q b s) → wpAny (model prog w) A (keyLt' κ x.1 y.1) Q E s
theorem t_lt (C : Cmp prog w A s it κ) {st : SortSt} (hk : kindOf st = κ) {x y : Keyed} (hx : x ∈ it) (hy : y ∈ it) {Q : Option Bool → SortSt → Prop} (h : ∀ b, Q (some b) st) : wpS (model prog w) A E s (lt' x y) Q st := by
  rw [lt'_eq]
  refine wpS_bind (wpS_get ?_)
  rw [hk]
  refine wpS_bind (wpS_lift (wpAny_attempt (C x hx y hy _ _ fun b => ⟨rfl, ?_⟩)))
  exact wpS_pure (h b)
theorem t_elem {st : SortSt} {arr : Array Keyed} {i : Nat} (hi : i < arr.size) {Q : Keyed → SortSt → Prop} (h : Q arr[i] st) : wpS (model prog w) A E s (elem' arr i) Q st := by
  rw [elem'_eq, getElem?_pos arr i hi]
  exact wpS_pure h
theorem t_beyond (C : Cmp prog w A s it κ) {st : SortSt} (hk : kindOf st = κ) {left : Bool} {key : Keyed} {arr : Array Keyed} {base i : Nat} (hkey : key ∈ it) (harr : ∀ x ∈ arr, x ∈ it) (hi : base + i < arr.size)
    {Q : Option Bool → SortSt → Prop} (h : ∀ b, Q (some b) st) : wpS (model prog w) A E s (beyond' left key arr base i) Q st := by
  unfold beyond'
  refine wpS_bind (t_elem hi ?_)
  have hx : arr[base + i] ∈ it := harr _ (Array.getElem_mem hi)
  cases left with
  | true => exact t_lt C hk hx hkey h
  | false =>
    refine wpS_bind (t_lt C hk hkey hx fun b => ?_)
    exact wpS_pure (h (!b))
theorem t_gallop (C : Cmp prog w A s it κ) {st : SortSt} (hk : kindOf st = κ) {left : Bool} {key : Keyed} {arr : Array Keyed} {base n hint : Nat} (hkey : key ∈ it) (harr : ∀ x ∈ arr, x ∈ it) (hb : base + n ≤ arr.size) (hh : hint < n)
    {Q : Option Nat → SortSt → Prop} (h : ∀ k, k ≤ n → Q (some k) st) : wpS (model prog w) A E s (gallop' left key arr base n hint) Q st := by
  refine wpS_bind (t_beyond C hk hkey harr (by omega) fun rt => ?_)
  cases rt with
  | true =>
    simp only [if_true]
    refine wpS_bind (wpS_mono (wpS_forRange (I := fun _ c st' => st' = st ∧ ∃ a b, c = (none, a, b)) (Q := fun c st' => st' = st ∧ ∃ a b, c = (none, a, b)) ?_ ?_ ⟨rfl, _, _, rfl⟩) ?_)
    · rintro i c st' _ hi ⟨rfl, a, b, rfl⟩
      dsimp only
      by_cases q : b ≥ n - hint
      · rw [if_pos q]
        exact wpS_pure ⟨rfl, _, _, rfl⟩
      · rw [if_neg q]
        refine wpS_bind (t_beyond C hk hkey harr (by omega) fun mo => ?_)
        cases mo with
        | true => exact wpS_pure ⟨rfl, _, _, rfl⟩
        | false => exact wpS_pure ⟨rfl, _, _, rfl⟩
    · exact fun c st' h => h
    · rintro c st' ⟨rfl, a, b, rfl⟩
      dsimp only
      refine wpS_bind (wpS_mono (wpS_forRange (I := fun _ c st'' => st'' = st' ∧ ∃ a b, c = (none, a, b) ∧ b ≤ n) (Q := fun c st'' => st'' = st' ∧ ∃ a b, c = (none, a, b) ∧ b ≤ n) ?_ ?_ ⟨rfl, _, _, rfl, by omega⟩) ?_)
      · rintro i c st'' _ _ ⟨rfl, a, b, rfl, ha⟩
        dsimp only
        by_cases q : a ≥ b
        · rw [if_pos q]
          exact wpS_pure ⟨rfl, a, b, rfl, ha⟩
        · rw [if_neg q]
          refine wpS_bind (t_beyond C hk hkey harr (by omega) fun mo => ?_)
          cases mo with
          | true => exact wpS_pure ⟨rfl, _, _, rfl, ha⟩
          | false => exact wpS_pure ⟨rfl, _, _, rfl, by omega⟩
      · exact fun c st'' h => h
      · rintro c st'' ⟨rfl, a, b, rfl, ha⟩
        exact wpS_pure (h b ha)
  | false =>
    simp only [Bool.false_eq_true, if_false]
    refine wpS_bind (wpS_mono (wpS_forRange (I := fun _ c st' => st' = st ∧ ∃ a b, c = (none, a, b)) (Q := fun c st' => st' = st ∧ ∃ a b, c = (none, a, b)) ?_ ?_ ⟨rfl, _, _, rfl⟩) ?_)
    · rintro i c st' _ hi ⟨rfl, a, b, rfl⟩
      dsimp only
      by_cases q : b ≥ hint + 1
      · rw [if_pos q]
        exact wpS_pure ⟨rfl, _, _, rfl⟩
      · rw [if_neg q]
        refine wpS_bind (t_beyond C hk hkey harr (by omega) fun mo => ?_)
        cases mo with
        | true => exact wpS_pure ⟨rfl, _, _, rfl⟩
        | false => exact wpS_pure ⟨rfl, _, _, rfl⟩
    · exact fun c st' h => h
    · rintro c st' ⟨rfl, a, b, rfl⟩
      dsimp only
      refine wpS_bind (wpS_mono (wpS_forRange (I := fun _ c st'' => st'' = st' ∧ ∃ a b, c = (none, a, b) ∧ b ≤ n) (Q := fun c st'' => st'' = st' ∧ ∃ a b, c = (none, a, b) ∧ b ≤ n) ?_ ?_ ⟨rfl, _, _, rfl, by omega⟩) ?_)
      · rintro i c st'' _ _ ⟨rfl, a, b, rfl, ha⟩
        dsimp only
        by_cases q : a ≥ b
        · rw [if_pos q]
          exact wpS_pure ⟨rfl, a, b, rfl, ha⟩
        · rw [if_neg q]
          refine wpS_bind (t_beyond C hk hkey harr (by omega) fun mo => ?_)
          cases mo with
          | true => exact wpS_pure ⟨rfl, _, _, rfl, ha⟩
          | false => exact wpS_pure ⟨rfl, _, _, rfl, by omega⟩
      · exact fun c st'' h => h
      · rintro c st'' ⟨rfl, a, b, rfl, ha⟩
        exact wpS_pure (h b ha)
structure Eqv (st st' : SortSt) : Prop where
  k : kindOf st' = kindOf st
  a : arrOf st' = arrOf st
  p : pendingOf st' = pendingOf st
  f : failedOf st' = failedOf st
theorem Eqv.refl (st : SortSt) : Eqv st st := ⟨rfl, rfl, rfl, rfl⟩
theorem t_setMin {st st' : SortSt} (e : Eqv st st') {g : Nat} {Q : Unit → SortSt → Prop} (h : ∀ st'', Eqv st st'' → Q () st'') : wpS (model prog w) A E s (setMin' g) Q st' := wpS_modify (h _ ⟨e.k, e.a, e.p, e.f⟩)
def In (it : List Keyed) (o : Array Keyed) : Prop := ∀ x ∈ o, x ∈ it
theorem In.push {o : Array Keyed} {x : Keyed} (h : In it o) (hx : x ∈ it) : In it (o.push x) := fun y hy => by
  rcases Array.mem_push.mp hy with q | q
  · exact h y q
  · rw [q]; exact hx
theorem In.app {o p : Array Keyed} (h : In it o) (k : In it p) : In it (o ++ p) := fun y hy => by
  rcases Array.mem_append.mp hy with q | q
  · exact h y q
  · exact k y q
theorem In.ext {o : Array Keyed} {i j : Nat} (h : In it o) : In it (o.extract i j) := fun y hy => by
  have hy : y ∈ (o.extract i j).toList := Array.mem_def.mp hy
  rw [Array.toList_extract, List.extract_eq_drop_take] at hy
  exact h y (Array.mem_def.mpr (List.mem_of_mem_drop (List.mem_of_mem_take hy)))
theorem In.rev {o : Array Keyed} (h : In it o) : In it o.reverse := fun y hy => h y (Array.mem_reverse.mp hy)
theorem In.at {o : Array Keyed} {i : Nat} (h : In it o) (hi : i < o.size) : o[i] ∈ it := h _ (Array.getElem_mem hi)
theorem In.one {x : Keyed} (h : x ∈ it) : In it #[x] := fun y hy => by
  simp at hy
  rw [hy]; exact h
def LoP (it : List Keyed) (a b : Array Keyed) (m : Nat) (r : Option (Array Keyed)) (o : Array Keyed) (x y : Nat) : Prop :=
  match r with
  | some o => In it o
  | none => In it o ∧ x + 1 < a.size ∧ y < b.size ∧ m ≤ x + y
theorem t_mergeLo (C : Cmp prog w A s it κ) {st : SortSt} (hk : kindOf st = κ) {a b : Array Keyed} (ha : In it a) (hb : In it b) (za : 1 ≤ a.size) (zb : 1 ≤ b.size)
    {Q : Array Keyed → SortSt → Prop} (h : ∀ o st', In it o → Eqv st st' → Q o st') : wpS (model prog w) A E s (mergeLo' a b) Q st := by
  refine wpS_bind (wpS_lift (wpAny_rule ⟨rfl, ?_⟩))
  refine wpS_bind (t_elem (by omega) ?_)
  have b0 := In.one (hb.at (i := 0) (by omega))
  dsimp only
  by_cases q1 : (1 == b.size) = true
  · rw [if_pos q1]
    exact wpS_pure (h _ _ ((b0.app ha.ext).app hb.ext) (Eqv.refl st))
  rw [if_neg q1]
  by_cases q2 : (0 + 1 == a.size) = true
  · rw [if_pos q2]
    exact wpS_pure (h _ _ ((b0.app hb.ext).app ha.ext) (Eqv.refl st))
  rw [if_neg q2]
  have q1 : 1 ≠ b.size := fun z => q1 (by simp [z])
  have q2 : 1 ≠ a.size := fun z => q2 (by simp [z])
  refine wpS_bind (wpS_get ?_)
  refine wpS_bind (wpS_mono (wpS_forRange (I := fun i c st' => Eqv st st' ∧ ∃ o x y mg, c = (none, o, x, y, mg) ∧ In it o ∧ x + 1 < a.size ∧ y < b.size ∧ i ≤ x + y) (Q := fun c st' => Eqv st st' ∧ ∃ r o x y mg, c = (some r, o, x, y, mg) ∧ In it r) ?_ ?_ ⟨Eqv.refl st, _, _, _, _, rfl, b0, by omega, by omega, by omega⟩) ?_)
  · rintro i c st1 _ hi ⟨ev, o, x, y, mg, rfl, ho, hx, hy, hm⟩
    dsimp only
    refine wpS_bind (wpS_mono (wpS_forRange (I := fun j c st' => Eqv st st' ∧ ∃ o x y ca cb, c = (none, o, x, y, ca, cb) ∧ In it o ∧ x + 1 < a.size ∧ y < b.size ∧ i + j ≤ x + y) (Q := fun c st' => Eqv st st' ∧ ∃ r o x y ca cb, c = (r, o, x, y, ca, cb) ∧ LoP it a b (i + 1) r o x y) ?_ ?_ ⟨ev, _, _, _, _, _, rfl, ho, hx, hy, hm⟩) ?_)
    · rintro j c st2 _ hj ⟨ev, o, x, y, ca, cb, rfl, ho, hx, hy, hm⟩
      dsimp only
      have hx0 := ha.at (i := x) (by omega)
      have hy0 := hb.at hy
      refine wpS_bind (t_elem hy (wpS_bind (t_elem (by omega) (wpS_bind (t_lt C (ev.k.trans hk) hy0 hx0 fun bw => ?_)))))
      cases bw with
      | true =>
        simp only [if_true]
        refine wpS_bind (t_elem hy ?_)
        have ho' := ho.push hy0
        by_cases q3 : (y + 1 == b.size) = true
        · rw [if_pos q3]
          exact wpS_pure ⟨ev, _, _, _, _, _, _, rfl, (ho'.app ha.ext).app hb.ext⟩
        · rw [if_neg q3]
          have q3 : y + 1 ≠ b.size := fun z => q3 (by simp [z])
          by_cases q4 : cb + 1 ≥ mg
          · rw [if_pos q4]
            exact wpS_pure ⟨ev, _, _, _, _, _, _, rfl, ho', hx, by omega, by omega⟩
          · rw [if_neg q4]
            exact wpS_pure ⟨ev, _, _, _, _, _, rfl, ho', hx, by omega, by omega⟩
      | false =>
        simp only [Bool.false_eq_true, if_false]
        refine wpS_bind (t_elem (by omega) ?_)
        have ho' := ho.push hx0
        by_cases q3 : (x + 1 + 1 == a.size) = true
        · rw [if_pos q3]
          exact wpS_pure ⟨ev, _, _, _, _, _, _, rfl, (ho'.app hb.ext).app ha.ext⟩
        · rw [if_neg q3]
          have q3 : x + 1 + 1 ≠ a.size := fun z => q3 (by simp [z])
          by_cases q4 : ca + 1 ≥ mg
          · rw [if_pos q4]
            exact wpS_pure ⟨ev, _, _, _, _, _, _, rfl, ho', by omega, hy, by omega⟩
          · rw [if_neg q4]
            exact wpS_pure ⟨ev, _, _, _, _, _, rfl, ho', by omega, hy, by omega⟩
    · rintro c st2 ⟨ev, o, x, y, ca, cb, rfl, ho, hx, hy, hm⟩
      exact ⟨ev, _, _, _, _, _, _, rfl, ho, hx, hy, by omega⟩
    · rintro c st2 ⟨ev, r, o, x, y, ca, cb, rfl, hp⟩
      dsimp only
      cases r with
      | some r => exact wpS_pure ⟨ev, _, _, _, _, _, rfl, hp⟩
      | none =>
        obtain ⟨ho, hx, hy, hm⟩ := hp
        refine wpS_bind (wpS_lift (wpAny_rule ⟨rfl, ?_⟩))
        refine wpS_bind (wpS_mono (wpS_forRange (I := fun _ c st' => Eqv st st' ∧ ∃ o x y mg ca cb, c = (none, o, x, y, mg, ca, cb) ∧ In it o ∧ x + 1 < a.size ∧ y < b.size ∧ i + 1 ≤ x + y) (Q := fun c st' => Eqv st st' ∧ ∃ r o x y mg ca cb, c = (r, o, x, y, mg, ca, cb) ∧ LoP it a b (i + 1) r o x y) ?_ ?_ ⟨ev, _, _, _, _, _, _, rfl, ho, hx, hy, hm⟩) ?_)
        · rintro j c st3 _ hj ⟨ev, o, x, y, mg, ca, cb, rfl, ho, hx, hy, hm⟩
          dsimp only
          by_cases qm : mg > 1
          · rw [if_pos qm]
            refine wpS_bind (t_setMin ev fun st4 ev4 => ?_)
            refine wpS_bind (t_elem hy ?_)
            refine wpS_bind (t_gallop C (ev4.k.trans hk) (hb.at hy) ha (by omega) (by omega) fun k hk1 => ?_)
            dsimp only
            by_cases qk : k > 0
            · rw [if_pos qk]
              have ho1 := ho.app (ha.ext (i := x) (j := x + k))
              by_cases qa : (x + k + 1 == a.size) = true
              · rw [if_pos qa]
                exact wpS_pure ⟨ev4, _, _, _, _, _, _, _, rfl, (ho1.app hb.ext).app ha.ext⟩
              rw [if_neg qa]
              have qa : x + k + 1 ≠ a.size := fun z => qa (by simp [z])
              by_cases qb : (x + k == a.size) = true
              · rw [if_pos qb]
                exact wpS_pure ⟨ev4, _, _, _, _, _, _, _, rfl, (ho1.app ha.ext).app hb.ext⟩
              rw [if_neg qb]
              have qb : x + k ≠ a.size := fun z => qb (by simp [z])
              refine wpS_bind (t_elem hy ?_)
              have ho2 := ho1.push (hb.at hy)
              by_cases qc : (y + 1 == b.size) = true
              · rw [if_pos qc]
                exact wpS_pure ⟨ev4, _, _, _, _, _, _, _, rfl, (ho2.app ha.ext).app hb.ext⟩
              rw [if_neg qc]
              have qc : y + 1 ≠ b.size := fun z => qc (by simp [z])
              refine wpS_bind (t_elem (by omega) ?_)
              refine wpS_bind (t_gallop C (ev4.k.trans hk) (ha.at (i := x + k) (by omega)) hb (by omega) (by omega) fun k2 hk2 => ?_)
              dsimp only
              by_cases qk2 : k2 > 0
              · rw [if_pos qk2]
                have ho3 := ho2.app (hb.ext (i := y + 1) (j := y + 1 + k2))
                by_cases qd : (y + 1 + k2 == b.size) = true
                · rw [if_pos qd]
                  exact wpS_pure ⟨ev4, _, _, _, _, _, _, _, rfl, (ho3.app ha.ext).app hb.ext⟩
                rw [if_neg qd]
                have qd : y + 1 + k2 ≠ b.size := fun z => qd (by simp [z])
                refine wpS_bind (t_elem (by omega) ?_)
                have ho4 := ho3.push (ha.at (i := x + k) (by omega))
                by_cases qe : (x + k + 1 + 1 == a.size) = true
                · rw [if_pos qe]
                  exact wpS_pure ⟨ev4, _, _, _, _, _, _, _, rfl, (ho4.app hb.ext).app ha.ext⟩
                rw [if_neg qe]
                have qe : x + k + 1 + 1 ≠ a.size := fun z => qe (by simp [z])
                split
                · exact wpS_pure ⟨ev4, _, _, _, _, _, _, _, rfl, ho4, by omega, by omega, by omega⟩
                · exact wpS_pure ⟨ev4, _, _, _, _, _, _, rfl, ho4, by omega, by omega, by omega⟩
              · rw [if_neg qk2]
                refine wpS_bind (t_elem (by omega) ?_)
                have ho4 := ho2.push (ha.at (i := x + k) (by omega))
                by_cases qe : (x + k + 1 + 1 == a.size) = true
                · rw [if_pos qe]
                  exact wpS_pure ⟨ev4, _, _, _, _, _, _, _, rfl, (ho4.app hb.ext).app ha.ext⟩
                rw [if_neg qe]
                have qe : x + k + 1 + 1 ≠ a.size := fun z => qe (by simp [z])
                split
                · exact wpS_pure ⟨ev4, _, _, _, _, _, _, _, rfl, ho4, by omega, by omega, by omega⟩
                · exact wpS_pure ⟨ev4, _, _, _, _, _, _, rfl, ho4, by omega, by omega, by omega⟩
            · rw [if_neg qk]
              refine wpS_bind (t_elem hy ?_)
              have ho2 := ho.push (hb.at hy)
              by_cases qc : (y + 1 == b.size) = true
              · rw [if_pos qc]
                exact wpS_pure ⟨ev4, _, _, _, _, _, _, _, rfl, (ho2.app ha.ext).app hb.ext⟩
              rw [if_neg qc]
              have qc : y + 1 ≠ b.size := fun z => qc (by simp [z])
              refine wpS_bind (t_elem (by omega) ?_)
              refine wpS_bind (t_gallop C (ev4.k.trans hk) (ha.at (i := x) (by omega)) hb (by omega) (by omega) fun k2 hk2 => ?_)
              dsimp only
              by_cases qk2 : k2 > 0
              · rw [if_pos qk2]
                have ho3 := ho2.app (hb.ext (i := y + 1) (j := y + 1 + k2))
                by_cases qd : (y + 1 + k2 == b.size) = true
                · rw [if_pos qd]
                  exact wpS_pure ⟨ev4, _, _, _, _, _, _, _, rfl, (ho3.app ha.ext).app hb.ext⟩
                rw [if_neg qd]
                have qd : y + 1 + k2 ≠ b.size := fun z => qd (by simp [z])
                refine wpS_bind (t_elem (by omega) ?_)
                have ho4 := ho3.push (ha.at (i := x) (by omega))
                by_cases qe : (x + 1 + 1 == a.size) = true
                · rw [if_pos qe]
                  exact wpS_pure ⟨ev4, _, _, _, _, _, _, _, rfl, (ho4.app hb.ext).app ha.ext⟩
                rw [if_neg qe]
                have qe : x + 1 + 1 ≠ a.size := fun z => qe (by simp [z])
                split
                · exact wpS_pure ⟨ev4, _, _, _, _, _, _, _, rfl, ho4, by omega, by omega, by omega⟩
                · exact wpS_pure ⟨ev4, _, _, _, _, _, _, rfl, ho4, by omega, by omega, by omega⟩
              · rw [if_neg qk2]
                refine wpS_bind (t_elem (by omega) ?_)
                have ho4 := ho2.push (ha.at (i := x) (by omega))
                by_cases qe : (x + 1 + 1 == a.size) = true
                · rw [if_pos qe]
                  exact wpS_pure ⟨ev4, _, _, _, _, _, _, _, rfl, (ho4.app hb.ext).app ha.ext⟩
                rw [if_neg qe]
                have qe : x + 1 + 1 ≠ a.size := fun z => qe (by simp [z])
                split
                · exact wpS_pure ⟨ev4, _, _, _, _, _, _, _, rfl, ho4, by omega, by omega, by omega⟩
                · exact wpS_pure ⟨ev4, _, _, _, _, _, _, rfl, ho4, by omega, by omega, by omega⟩
          · rw [if_neg qm]
            refine wpS_bind (t_setMin ev fun st4 ev4 => ?_)
            refine wpS_bind (t_elem hy ?_)
            refine wpS_bind (t_gallop C (ev4.k.trans hk) (hb.at hy) ha (by omega) (by omega) fun k hk1 => ?_)
            dsimp only
            by_cases qk : k > 0
            · rw [if_pos qk]
              have ho1 := ho.app (ha.ext (i := x) (j := x + k))
              by_cases qa : (x + k + 1 == a.size) = true
              · rw [if_pos qa]
                exact wpS_pure ⟨ev4, _, _, _, _, _, _, _, rfl, (ho1.app hb.ext).app ha.ext⟩
              rw [if_neg qa]
              have qa : x + k + 1 ≠ a.size := fun z => qa (by simp [z])
              by_cases qb : (x + k == a.size) = true
              · rw [if_pos qb]
                exact wpS_pure ⟨ev4, _, _, _, _, _, _, _, rfl, (ho1.app ha.ext).app hb.ext⟩
              rw [if_neg qb]
              have qb : x + k ≠ a.size := fun z => qb (by simp [z])
              refine wpS_bind (t_elem hy ?_)
              have ho2 := ho1.push (hb.at hy)
              by_cases qc : (y + 1 == b.size) = true
              · rw [if_pos qc]
                exact wpS_pure ⟨ev4, _, _, _, _, _, _, _, rfl, (ho2.app ha.ext).app hb.ext⟩
              rw [if_neg qc]
              have qc : y + 1 ≠ b.size := fun z => qc (by simp [z])
              refine wpS_bind (t_elem (by omega) ?_)
              refine wpS_bind (t_gallop C (ev4.k.trans hk) (ha.at (i := x + k) (by omega)) hb (by omega) (by omega) fun k2 hk2 => ?_)
              dsimp only
              by_cases qk2 : k2 > 0
              · rw [if_pos qk2]
                have ho3 := ho2.app (hb.ext (i := y + 1) (j := y + 1 + k2))
                by_cases qd : (y + 1 + k2 == b.size) = true
                · rw [if_pos qd]
                  exact wpS_pure ⟨ev4, _, _, _, _, _, _, _, rfl, (ho3.app ha.ext).app hb.ext⟩
                rw [if_neg qd]
                have qd : y + 1 + k2 ≠ b.size := fun z => qd (by simp [z])
                refine wpS_bind (t_elem (by omega) ?_)
                have ho4 := ho3.push (ha.at (i := x + k) (by omega))
                by_cases qe : (x + k + 1 + 1 == a.size) = true
                · rw [if_pos qe]
                  exact wpS_pure ⟨ev4, _, _, _, _, _, _, _, rfl, (ho4.app hb.ext).app ha.ext⟩
                rw [if_neg qe]
                have qe : x + k + 1 + 1 ≠ a.size := fun z => qe (by simp [z])
                split
                · exact wpS_pure ⟨ev4, _, _, _, _, _, _, _, rfl, ho4, by omega, by omega, by omega⟩
                · exact wpS_pure ⟨ev4, _, _, _, _, _, _, rfl, ho4, by omega, by omega, by omega⟩
              · rw [if_neg qk2]
                refine wpS_bind (t_elem (by omega) ?_)
                have ho4 := ho2.push (ha.at (i := x + k) (by omega))
                by_cases qe : (x + k + 1 + 1 == a.size) = true
                · rw [if_pos qe]
                  exact wpS_pure ⟨ev4, _, _, _, _, _, _, _, rfl, (ho4.app hb.ext).app ha.ext⟩
                rw [if_neg qe]
                have qe : x + k + 1 + 1 ≠ a.size := fun z => qe (by simp [z])
                split
                · exact wpS_pure ⟨ev4, _, _, _, _, _, _, _, rfl, ho4, by omega, by omega, by omega⟩
                · exact wpS_pure ⟨ev4, _, _, _, _, _, _, rfl, ho4, by omega, by omega, by omega⟩
            · rw [if_neg qk]
              refine wpS_bind (t_elem hy ?_)
              have ho2 := ho.push (hb.at hy)
              by_cases qc : (y + 1 == b.size) = true
              · rw [if_pos qc]
                exact wpS_pure ⟨ev4, _, _, _, _, _, _, _, rfl, (ho2.app ha.ext).app hb.ext⟩
              rw [if_neg qc]
              have qc : y + 1 ≠ b.size := fun z => qc (by simp [z])
              refine wpS_bind (t_elem (by omega) ?_)
              refine wpS_bind (t_gallop C (ev4.k.trans hk) (ha.at (i := x) (by omega)) hb (by omega) (by omega) fun k2 hk2 => ?_)
              dsimp only
              by_cases qk2 : k2 > 0
              · rw [if_pos qk2]
                have ho3 := ho2.app (hb.ext (i := y + 1) (j := y + 1 + k2))
                by_cases qd : (y + 1 + k2 == b.size) = true
                · rw [if_pos qd]
                  exact wpS_pure ⟨ev4, _, _, _, _, _, _, _, rfl, (ho3.app ha.ext).app hb.ext⟩
                rw [if_neg qd]
                have qd : y + 1 + k2 ≠ b.size := fun z => qd (by simp [z])
                refine wpS_bind (t_elem (by omega) ?_)
                have ho4 := ho3.push (ha.at (i := x) (by omega))
                by_cases qe : (x + 1 + 1 == a.size) = true
                · rw [if_pos qe]
                  exact wpS_pure ⟨ev4, _, _, _, _, _, _, _, rfl, (ho4.app hb.ext).app ha.ext⟩
                rw [if_neg qe]
                have qe : x + 1 + 1 ≠ a.size := fun z => qe (by simp [z])
                split
                · exact wpS_pure ⟨ev4, _, _, _, _, _, _, _, rfl, ho4, by omega, by omega, by omega⟩
                · exact wpS_pure ⟨ev4, _, _, _, _, _, _, rfl, ho4, by omega, by omega, by omega⟩
              · rw [if_neg qk2]
                refine wpS_bind (t_elem (by omega) ?_)
                have ho4 := ho2.push (ha.at (i := x) (by omega))
                by_cases qe : (x + 1 + 1 == a.size) = true
                · rw [if_pos qe]
                  exact wpS_pure ⟨ev4, _, _, _, _, _, _, _, rfl, (ho4.app hb.ext).app ha.ext⟩
                rw [if_neg qe]
                have qe : x + 1 + 1 ≠ a.size := fun z => qe (by simp [z])
                split
                · exact wpS_pure ⟨ev4, _, _, _, _, _, _, _, rfl, ho4, by omega, by omega, by omega⟩
                · exact wpS_pure ⟨ev4, _, _, _, _, _, _, rfl, ho4, by omega, by omega, by omega⟩
        · rintro c st3 ⟨ev, o, x, y, mg, ca, cb, rfl, ho, hx, hy, hm⟩
          exact ⟨ev, _, _, _, _, _, _, _, rfl, ho, hx, hy, hm⟩
        · rintro c st3 ⟨ev, r, o, x, y, mg, ca, cb, rfl, hp⟩
          dsimp only
          cases r with
          | some r => exact wpS_pure ⟨ev, _, _, _, _, _, rfl, hp⟩
          | none =>
            obtain ⟨ho, hx, hy, hm⟩ := hp
            refine wpS_bind (t_setMin ev fun st4 ev4 => ?_)
            exact wpS_pure ⟨ev4, _, _, _, _, rfl, ho, hx, hy, hm⟩
  · rintro c st1 ⟨ev, o, x, y, mg, rfl, ho, hx, hy, hm⟩
    omega
  · rintro c st1 ⟨ev, r, o, x, y, mg, rfl, hr⟩
    exact wpS_pure (h r st1 hr ev)
def HiP (it : List Keyed) (a b : Array Keyed) (m : Nat) (r : Option (Array Keyed)) (o : Array Keyed) (x y : Nat) : Prop :=
  match r with
  | some o => In it o
  | none => In it o ∧ 1 ≤ x ∧ x < a.size ∧ 2 ≤ y ∧ y ≤ b.size ∧ m + x + y ≤ a.size + b.size
theorem t_mergeHi (C : Cmp prog w A s it κ) {st : SortSt} (hk : kindOf st = κ) {a b : Array Keyed} (ha : In it a) (hb : In it b) (za : 1 ≤ a.size) (zb : 1 ≤ b.size)
    {Q : Array Keyed → SortSt → Prop} (h : ∀ o st', In it o → Eqv st st' → Q o st') : wpS (model prog w) A E s (mergeHi' a b) Q st := by
  refine wpS_bind (wpS_lift (wpAny_rule ⟨rfl, ?_⟩))
  refine wpS_bind (t_elem (by omega) ?_)
  have b0 := In.one (ha.at (i := a.size - 1) (by omega))
  dsimp only
  by_cases q1 : (a.size - 1 == 0) = true
  · rw [if_pos q1]
    exact wpS_pure (h _ _ ((ha.ext.app hb.ext).app b0.rev) (Eqv.refl st))
  rw [if_neg q1]
  by_cases q2 : (b.size == 1) = true
  · rw [if_pos q2]
    exact wpS_pure (h _ _ ((hb.ext.app ha.ext).app b0.rev) (Eqv.refl st))
  rw [if_neg q2]
  have q1 : a.size - 1 ≠ 0 := fun z => q1 (by simp [z])
  have q2 : b.size ≠ 1 := fun z => q2 (by simp [z])
  refine wpS_bind (wpS_get ?_)
  refine wpS_bind (wpS_mono (wpS_forRange (I := fun i c st' => Eqv st st' ∧ ∃ x y o mg, c = (none, x, y, o, mg) ∧ In it o ∧ 1 ≤ x ∧ x < a.size ∧ 2 ≤ y ∧ y ≤ b.size ∧ i + x + y ≤ a.size + b.size) (Q := fun c st' => Eqv st st' ∧ ∃ r x y o mg, c = (some r, x, y, o, mg) ∧ In it r) ?_ ?_ ⟨Eqv.refl st, _, _, _, _, rfl, b0, by omega, by omega, by omega, by omega, by omega⟩) ?_)
  · rintro i c st1 _ hi ⟨ev, x, y, o, mg, rfl, ho, hx, hx2, hy, hy2, hm⟩
    dsimp only
    refine wpS_bind (wpS_mono (wpS_forRange (I := fun j c st' => Eqv st st' ∧ ∃ x y o ca cb, c = (none, x, y, o, ca, cb) ∧ In it o ∧ 1 ≤ x ∧ x < a.size ∧ 2 ≤ y ∧ y ≤ b.size ∧ i + j + x + y ≤ a.size + b.size) (Q := fun c st' => Eqv st st' ∧ ∃ r x y o ca cb, c = (r, x, y, o, ca, cb) ∧ HiP it a b (i + 1) r o x y) ?_ ?_ ⟨ev, _, _, _, _, _, rfl, ho, hx, hx2, hy, hy2, hm⟩) ?_)
    · rintro j c st2 _ hj ⟨ev, x, y, o, ca, cb, rfl, ho, hx, hx2, hy, hy2, hm⟩
      dsimp only
      have hx0 := ha.at (i := x - 1) (by omega)
      have hy0 := hb.at (i := y - 1) (by omega)
      refine wpS_bind (t_elem (by omega) (wpS_bind (t_elem (by omega) (wpS_bind (t_lt C (ev.k.trans hk) hy0 hx0 fun bw => ?_)))))
      cases bw with
      | true =>
        simp only [if_true]
        refine wpS_bind (t_elem (by omega) ?_)
        have ho' := ho.push hx0
        by_cases q3 : (x - 1 == 0) = true
        · rw [if_pos q3]
          exact wpS_pure ⟨ev, _, _, _, _, _, _, rfl, (ha.ext.app hb.ext).app ho'.rev⟩
        · rw [if_neg q3]
          have q3 : x - 1 ≠ 0 := fun z => q3 (by simp [z])
          by_cases q4 : ca + 1 ≥ mg
          · rw [if_pos q4]
            exact wpS_pure ⟨ev, _, _, _, _, _, _, rfl, ho', by omega, by omega, by omega, by omega, by omega⟩
          · rw [if_neg q4]
            exact wpS_pure ⟨ev, _, _, _, _, _, rfl, ho', by omega, by omega, by omega, by omega, by omega⟩
      | false =>
        simp only [Bool.false_eq_true, if_false]
        refine wpS_bind (t_elem (by omega) ?_)
        have ho' := ho.push hy0
        by_cases q3 : (y - 1 == 1) = true
        · rw [if_pos q3]
          exact wpS_pure ⟨ev, _, _, _, _, _, _, rfl, (hb.ext.app ha.ext).app ho'.rev⟩
        · rw [if_neg q3]
          have q3 : y - 1 ≠ 1 := fun z => q3 (by simp [z])
          by_cases q4 : cb + 1 ≥ mg
          · rw [if_pos q4]
            exact wpS_pure ⟨ev, _, _, _, _, _, _, rfl, ho', by omega, by omega, by omega, by omega, by omega⟩
          · rw [if_neg q4]
            exact wpS_pure ⟨ev, _, _, _, _, _, rfl, ho', by omega, by omega, by omega, by omega, by omega⟩
    · rintro c st2 ⟨ev, x, y, o, ca, cb, rfl, ho, hx, hx2, hy, hy2, hm⟩
      exact ⟨ev, _, _, _, _, _, _, rfl, ho, hx, hx2, hy, hy2, by omega⟩
    · rintro c st2 ⟨ev, r, x, y, o, ca, cb, rfl, hp⟩
      dsimp only
      cases r with
      | some r => exact wpS_pure ⟨ev, _, _, _, _, _, rfl, hp⟩
      | none =>
        obtain ⟨ho, hx, hx2, hy, hy2, hm⟩ := hp
        refine wpS_bind (wpS_lift (wpAny_rule ⟨rfl, ?_⟩))
        refine wpS_bind (wpS_mono (wpS_forRange (I := fun _ c st' => Eqv st st' ∧ ∃ x y o mg ca cb, c = (none, x, y, o, mg, ca, cb) ∧ In it o ∧ 1 ≤ x ∧ x < a.size ∧ 2 ≤ y ∧ y ≤ b.size ∧ i + 1 + x + y ≤ a.size + b.size) (Q := fun c st' => Eqv st st' ∧ ∃ r x y o mg ca cb, c = (r, x, y, o, mg, ca, cb) ∧ HiP it a b (i + 1) r o x y) ?_ ?_ ⟨ev, _, _, _, _, _, _, rfl, ho, hx, hx2, hy, hy2, hm⟩) ?_)
        · rintro j c st3 _ hj ⟨ev, x, y, o, mg, ca, cb, rfl, ho, hx, hx2, hy, hy2, hm⟩
          dsimp only
          by_cases qm : mg > 1
          · rw [if_pos qm]
            refine wpS_bind (t_setMin ev fun st4 ev4 => ?_)
            refine wpS_bind (t_elem (by omega) ?_)
            refine wpS_bind (t_gallop C (ev4.k.trans hk) (hb.at (i := y - 1) (by omega)) ha (by omega) (by omega) fun k hk1 => ?_)
            dsimp only
            by_cases qk : x - k > 0
            · rw [if_pos qk]
              have ho1 := ho.app (ha.ext (i := k) (j := x)).rev
              by_cases qa : (k == 0) = true
              · rw [if_pos qa]
                exact wpS_pure ⟨ev4, _, _, _, _, _, _, _, rfl, (ha.ext.app hb.ext).app ho1.rev⟩
              rw [if_neg qa]
              have qa : k ≠ 0 := fun z => qa (by simp [z])
              refine wpS_bind (t_elem (by omega) ?_)
              have ho2 := ho1.push (hb.at (i := y - 1) (by omega))
              by_cases qc : (y - 1 == 1) = true
              · rw [if_pos qc]
                exact wpS_pure ⟨ev4, _, _, _, _, _, _, _, rfl, (hb.ext.app ha.ext).app ho2.rev⟩
              rw [if_neg qc]
              have qc : y - 1 ≠ 1 := fun z => qc (by simp [z])
              refine wpS_bind (t_elem (by omega) ?_)
              refine wpS_bind (t_gallop C (ev4.k.trans hk) (ha.at (i := k - 1) (by omega)) hb (by omega) (by omega) fun k2 hk2 => ?_)
              dsimp only
              by_cases qk2 : y - 1 - k2 > 0
              · rw [if_pos qk2]
                have ho3 := ho2.app (hb.ext (i := k2) (j := y - 1)).rev
                by_cases qd : (k2 == 1) = true
                · rw [if_pos qd]
                  exact wpS_pure ⟨ev4, _, _, _, _, _, _, _, rfl, (hb.ext.app ha.ext).app ho3.rev⟩
                rw [if_neg qd]
                have qd : k2 ≠ 1 := fun z => qd (by simp [z])
                by_cases qd2 : (k2 == 0) = true
                · rw [if_pos qd2]
                  exact wpS_pure ⟨ev4, _, _, _, _, _, _, _, rfl, (ha.ext.app hb.ext).app ho3.rev⟩
                rw [if_neg qd2]
                have qd2 : k2 ≠ 0 := fun z => qd2 (by simp [z])
                refine wpS_bind (t_elem (by omega) ?_)
                have ho4 := ho3.push (ha.at (i := k - 1) (by omega))
                by_cases qe : (k - 1 == 0) = true
                · rw [if_pos qe]
                  exact wpS_pure ⟨ev4, _, _, _, _, _, _, _, rfl, (ha.ext.app hb.ext).app ho4.rev⟩
                rw [if_neg qe]
                have qe : k - 1 ≠ 0 := fun z => qe (by simp [z])
                split
                · exact wpS_pure ⟨ev4, _, _, _, _, _, _, _, rfl, ho4, by omega, by omega, by omega, by omega, by omega⟩
                · exact wpS_pure ⟨ev4, _, _, _, _, _, _, rfl, ho4, by omega, by omega, by omega, by omega, by omega⟩
              · rw [if_neg qk2]
                refine wpS_bind (t_elem (by omega) ?_)
                have ho4 := ho2.push (ha.at (i := k - 1) (by omega))
                by_cases qe : (k - 1 == 0) = true
                · rw [if_pos qe]
                  exact wpS_pure ⟨ev4, _, _, _, _, _, _, _, rfl, (ha.ext.app hb.ext).app ho4.rev⟩
                rw [if_neg qe]
                have qe : k - 1 ≠ 0 := fun z => qe (by simp [z])
                split
                · exact wpS_pure ⟨ev4, _, _, _, _, _, _, _, rfl, ho4, by omega, by omega, by omega, by omega, by omega⟩
                · exact wpS_pure ⟨ev4, _, _, _, _, _, _, rfl, ho4, by omega, by omega, by omega, by omega, by omega⟩
            · rw [if_neg qk]
              refine wpS_bind (t_elem (by omega) ?_)
              have ho2 := ho.push (hb.at (i := y - 1) (by omega))
              by_cases qc : (y - 1 == 1) = true
              · rw [if_pos qc]
                exact wpS_pure ⟨ev4, _, _, _, _, _, _, _, rfl, (hb.ext.app ha.ext).app ho2.rev⟩
              rw [if_neg qc]
              have qc : y - 1 ≠ 1 := fun z => qc (by simp [z])
              refine wpS_bind (t_elem (by omega) ?_)
              refine wpS_bind (t_gallop C (ev4.k.trans hk) (ha.at (i := x - 1) (by omega)) hb (by omega) (by omega) fun k2 hk2 => ?_)
              dsimp only
              by_cases qk2 : y - 1 - k2 > 0
              · rw [if_pos qk2]
                have ho3 := ho2.app (hb.ext (i := k2) (j := y - 1)).rev
                by_cases qd : (k2 == 1) = true
                · rw [if_pos qd]
                  exact wpS_pure ⟨ev4, _, _, _, _, _, _, _, rfl, (hb.ext.app ha.ext).app ho3.rev⟩
                rw [if_neg qd]
                have qd : k2 ≠ 1 := fun z => qd (by simp [z])
                by_cases qd2 : (k2 == 0) = true
                · rw [if_pos qd2]
                  exact wpS_pure ⟨ev4, _, _, _, _, _, _, _, rfl, (ha.ext.app hb.ext).app ho3.rev⟩
                rw [if_neg qd2]
                have qd2 : k2 ≠ 0 := fun z => qd2 (by simp [z])
                refine wpS_bind (t_elem (by omega) ?_)
                have ho4 := ho3.push (ha.at (i := x - 1) (by omega))
                by_cases qe : (x - 1 == 0) = true
                · rw [if_pos qe]
                  exact wpS_pure ⟨ev4, _, _, _, _, _, _, _, rfl, (ha.ext.app hb.ext).app ho4.rev⟩
                rw [if_neg qe]
                have qe : x - 1 ≠ 0 := fun z => qe (by simp [z])
                split
                · exact wpS_pure ⟨ev4, _, _, _, _, _, _, _, rfl, ho4, by omega, by omega, by omega, by omega, by omega⟩
                · exact wpS_pure ⟨ev4, _, _, _, _, _, _, rfl, ho4, by omega, by omega, by omega, by omega, by omega⟩
              · rw [if_neg qk2]
                refine wpS_bind (t_elem (by omega) ?_)
                have ho4 := ho2.push (ha.at (i := x - 1) (by omega))
                by_cases qe : (x - 1 == 0) = true
                · rw [if_pos qe]
                  exact wpS_pure ⟨ev4, _, _, _, _, _, _, _, rfl, (ha.ext.app hb.ext).app ho4.rev⟩
                rw [if_neg qe]
                have qe : x - 1 ≠ 0 := fun z => qe (by simp [z])
                split
                · exact wpS_pure ⟨ev4, _, _, _, _, _, _, _, rfl, ho4, by omega, by omega, by omega, by omega, by omega⟩
                · exact wpS_pure ⟨ev4, _, _, _, _, _, _, rfl, ho4, by omega, by omega, by omega, by omega, by omega⟩
          · rw [if_neg qm]
            refine wpS_bind (t_setMin ev fun st4 ev4 => ?_)
            refine wpS_bind (t_elem (by omega) ?_)
            refine wpS_bind (t_gallop C (ev4.k.trans hk) (hb.at (i := y - 1) (by omega)) ha (by omega) (by omega) fun k hk1 => ?_)
            dsimp only
            by_cases qk : x - k > 0
            · rw [if_pos qk]
              have ho1 := ho.app (ha.ext (i := k) (j := x)).rev
              by_cases qa : (k == 0) = true
              · rw [if_pos qa]
                exact wpS_pure ⟨ev4, _, _, _, _, _, _, _, rfl, (ha.ext.app hb.ext).app ho1.rev⟩
              rw [if_neg qa]
              have qa : k ≠ 0 := fun z => qa (by simp [z])
              refine wpS_bind (t_elem (by omega) ?_)
              have ho2 := ho1.push (hb.at (i := y - 1) (by omega))
              by_cases qc : (y - 1 == 1) = true
              · rw [if_pos qc]
                exact wpS_pure ⟨ev4, _, _, _, _, _, _, _, rfl, (hb.ext.app ha.ext).app ho2.rev⟩
              rw [if_neg qc]
              have qc : y - 1 ≠ 1 := fun z => qc (by simp [z])
              refine wpS_bind (t_elem (by omega) ?_)
              refine wpS_bind (t_gallop C (ev4.k.trans hk) (ha.at (i := k - 1) (by omega)) hb (by omega) (by omega) fun k2 hk2 => ?_)
              dsimp only
              by_cases qk2 : y - 1 - k2 > 0
              · rw [if_pos qk2]
                have ho3 := ho2.app (hb.ext (i := k2) (j := y - 1)).rev
                by_cases qd : (k2 == 1) = true
                · rw [if_pos qd]
                  exact wpS_pure ⟨ev4, _, _, _, _, _, _, _, rfl, (hb.ext.app ha.ext).app ho3.rev⟩
                rw [if_neg qd]
                have qd : k2 ≠ 1 := fun z => qd (by simp [z])
                by_cases qd2 : (k2 == 0) = true
                · rw [if_pos qd2]
                  exact wpS_pure ⟨ev4, _, _, _, _, _, _, _, rfl, (ha.ext.app hb.ext).app ho3.rev⟩
                rw [if_neg qd2]
                have qd2 : k2 ≠ 0 := fun z => qd2 (by simp [z])
                refine wpS_bind (t_elem (by omega) ?_)
                have ho4 := ho3.push (ha.at (i := k - 1) (by omega))
                by_cases qe : (k - 1 == 0) = true
                · rw [if_pos qe]
                  exact wpS_pure ⟨ev4, _, _, _, _, _, _, _, rfl, (ha.ext.app hb.ext).app ho4.rev⟩
                rw [if_neg qe]
                have qe : k - 1 ≠ 0 := fun z => qe (by simp [z])
                split
                · exact wpS_pure ⟨ev4, _, _, _, _, _, _, _, rfl, ho4, by omega, by omega, by omega, by omega, by omega⟩
                · exact wpS_pure ⟨ev4, _, _, _, _, _, _, rfl, ho4, by omega, by omega, by omega, by omega, by omega⟩
              · rw [if_neg qk2]
                refine wpS_bind (t_elem (by omega) ?_)
                have ho4 := ho2.push (ha.at (i := k - 1) (by omega))
                by_cases qe : (k - 1 == 0) = true
                · rw [if_pos qe]
                  exact wpS_pure ⟨ev4, _, _, _, _, _, _, _, rfl, (ha.ext.app hb.ext).app ho4.rev⟩
                rw [if_neg qe]
                have qe : k - 1 ≠ 0 := fun z => qe (by simp [z])
                split
                · exact wpS_pure ⟨ev4, _, _, _, _, _, _, _, rfl, ho4, by omega, by omega, by omega, by omega, by omega⟩
                · exact wpS_pure ⟨ev4, _, _, _, _, _, _, rfl, ho4, by omega, by omega, by omega, by omega, by omega⟩
            · rw [if_neg qk]
              refine wpS_bind (t_elem (by omega) ?_)
              have ho2 := ho.push (hb.at (i := y - 1) (by omega))
              by_cases qc : (y - 1 == 1) = true
              · rw [if_pos qc]
                exact wpS_pure ⟨ev4, _, _, _, _, _, _, _, rfl, (hb.ext.app ha.ext).app ho2.rev⟩
              rw [if_neg qc]
              have qc : y - 1 ≠ 1 := fun z => qc (by simp [z])
              refine wpS_bind (t_elem (by omega) ?_)
              refine wpS_bind (t_gallop C (ev4.k.trans hk) (ha.at (i := x - 1) (by omega)) hb (by omega) (by omega) fun k2 hk2 => ?_)
              dsimp only
              by_cases qk2 : y - 1 - k2 > 0
              · rw [if_pos qk2]
                have ho3 := ho2.app (hb.ext (i := k2) (j := y - 1)).rev
                by_cases qd : (k2 == 1) = true
                · rw [if_pos qd]
                  exact wpS_pure ⟨ev4, _, _, _, _, _, _, _, rfl, (hb.ext.app ha.ext).app ho3.rev⟩
                rw [if_neg qd]
                have qd : k2 ≠ 1 := fun z => qd (by simp [z])
                by_cases qd2 : (k2 == 0) = true
                · rw [if_pos qd2]
                  exact wpS_pure ⟨ev4, _, _, _, _, _, _, _, rfl, (ha.ext.app hb.ext).app ho3.rev⟩
                rw [if_neg qd2]
                have qd2 : k2 ≠ 0 := fun z => qd2 (by simp [z])
                refine wpS_bind (t_elem (by omega) ?_)
                have ho4 := ho3.push (ha.at (i := x - 1) (by omega))
                by_cases qe : (x - 1 == 0) = true
                · rw [if_pos qe]
                  exact wpS_pure ⟨ev4, _, _, _, _, _, _, _, rfl, (ha.ext.app hb.ext).app ho4.rev⟩
                rw [if_neg qe]
                have qe : x - 1 ≠ 0 := fun z => qe (by simp [z])
                split
                · exact wpS_pure ⟨ev4, _, _, _, _, _, _, _, rfl, ho4, by omega, by omega, by omega, by omega, by omega⟩
                · exact wpS_pure ⟨ev4, _, _, _, _, _, _, rfl, ho4, by omega, by omega, by omega, by omega, by omega⟩
              · rw [if_neg qk2]
                refine wpS_bind (t_elem (by omega) ?_)
                have ho4 := ho2.push (ha.at (i := x - 1) (by omega))
                by_cases qe : (x - 1 == 0) = true
                · rw [if_pos qe]
                  exact wpS_pure ⟨ev4, _, _, _, _, _, _, _, rfl, (ha.ext.app hb.ext).app ho4.rev⟩
                rw [if_neg qe]
                have qe : x - 1 ≠ 0 := fun z => qe (by simp [z])
                split
                · exact wpS_pure ⟨ev4, _, _, _, _, _, _, _, rfl, ho4, by omega, by omega, by omega, by omega, by omega⟩
                · exact wpS_pure ⟨ev4, _, _, _, _, _, _, rfl, ho4, by omega, by omega, by omega, by omega, by omega⟩
        · rintro c st3 ⟨ev, x, y, o, mg, ca, cb, rfl, ho, hx, hx2, hy, hy2, hm⟩
          exact ⟨ev, _, _, _, _, _, _, _, rfl, ho, hx, hx2, hy, hy2, hm⟩
        · rintro c st3 ⟨ev, r, x, y, o, mg, ca, cb, rfl, hp⟩
          dsimp only
          cases r with
          | some r => exact wpS_pure ⟨ev, _, _, _, _, _, rfl, hp⟩
          | none =>
            obtain ⟨ho, hx, hx2, hy, hy2, hm⟩ := hp
            refine wpS_bind (t_setMin ev fun st4 ev4 => ?_)
            exact wpS_pure ⟨ev4, _, _, _, _, rfl, ho, hx, hx2, hy, hy2, hm⟩
  · rintro c st1 ⟨ev, x, y, o, mg, rfl, ho, hx, hx2, hy, hy2, hm⟩
    omega
  · rintro c st1 ⟨ev, r, x, y, o, mg, rfl, hr⟩
    exact wpS_pure (h r st1 hr ev)
end
end Srt
end L2

/-! SortTot2 -/
set_option Elab.async false
set_option linter.all false
set_option maxRecDepth 100000
set_option maxHeartbeats 4000000
namespace L2
namespace Srt
open PySem PyProof.Rows
section
variable {prog : Program} {w : World} {A : Around} {E : Value → Shared → Prop} {s : Shared} {it : List Keyed} {κ : SortKind} {n : Nat}
structure TB (it : List Keyed) (κ : SortKind) (n : Nat) (st : SortSt) : Prop where
  z : (arrOf st).size = n
  i : In it (arrOf st)
  k : kindOf st = κ
  f : failedOf st = none
theorem TB.perm {st : SortSt} (t : TB it κ n st) {xs : Array Keyed} (p : xs.Perm (arrOf st)) : TB it κ n (setArr st xs) :=
  ⟨p.size_eq.trans t.z, fun x hx => t.i x (Array.mem_def.mpr ((Array.perm_iff_toList_perm.mp p).mem_iff.mp (Array.mem_def.mp hx))), t.k, t.f⟩
theorem t_ltAt (C : Cmp prog w A s it κ) {st : SortSt} (t : TB it κ n st) {i j : Nat} (hi : i < n) (hj : j < n) {Q : Option Bool → SortSt → Prop} (h : ∀ b, Q (some b) st) : wpS (model prog w) A E s (ltAt' i j) Q st := by
  rw [ltAt'_eq]
  refine wpS_bind (wpS_get ?_)
  have hi : i < (arrOf st).size := by rw [t.z]; exact hi
  have hj : j < (arrOf st).size := by rw [t.z]; exact hj
  exact wpS_bind (t_elem hi (wpS_bind (t_elem hj (t_lt C t.k (t.i.at hi) (t.i.at hj) h))))
def Ord (it : List Keyed) (κ : SortKind) (n : Nat) (p : Array (Nat × Nat × Nat)) (st : SortSt) : Prop := TB it κ n st ∧ pendingOf st = p
theorem t_rev {p : Array (Nat × Nat × Nat)} {st : SortSt} (o : Ord it κ n p st) {i j : Nat} {Q : Unit → SortSt → Prop} (h : ∀ st', Ord it κ n p st' → Q () st') : wpS (model prog w) A E s (reverseSlice' i j) Q st := by
  rw [reverseSlice'_eq]
  exact wpS_modify (h _ ⟨o.1.perm (mirror_perm _ _ _ _), o.2⟩)
theorem t_move {p : Array (Nat × Nat × Nat)} {st : SortSt} (o : Ord it κ n p st) {i j : Nat} {Q : Unit → SortSt → Prop} (h : ∀ st', Ord it κ n p st' → Q () st') : wpS (model prog w) A E s (moveDown' i j) Q st := by
  rw [moveDown'_eq]
  exact wpS_modify (h _ ⟨o.1.perm (bubble_perm _ _ _), o.2⟩)
theorem t_bin (C : Cmp prog w A s it κ) {p : Array (Nat × Nat × Nat)} {st : SortSt} (o : Ord it κ n p st) {lo m ok : Nat} (hm : lo + m ≤ n) {Q : Bool → SortSt → Prop} (h : ∀ st', Ord it κ n p st' → Q true st') : wpS (model prog w) A E s (binarySort' lo m ok) Q st := by
  rw [binarySort'_eq]
  refine wpS_bind (wpS_mono (wpS_forRange (I := fun k c st' => c = (none, ()) ∧ Ord it κ n p st') (Q := fun c st' => c = (none, ()) ∧ Ord it κ n p st') ?_ ?_ ⟨rfl, o⟩) ?_)
  · rintro k c st1 hk1 hk ⟨rfl, o1⟩
    dsimp only
    refine wpS_bind (wpS_mono (wpS_forRange (I := fun _ c st' => st' = st1 ∧ ∃ l r, c = (none, l, r) ∧ r ≤ k) (Q := fun c st' => st' = st1 ∧ ∃ l r, c = (none, l, r) ∧ r ≤ k) ?_ ?_ ⟨rfl, _, _, rfl, Nat.le_refl _⟩) ?_)
    · rintro j c st2 _ hj ⟨rfl, l, r, rfl, hr⟩
      dsimp only
      by_cases q : l ≥ r
      · rw [if_pos q]
        exact wpS_pure ⟨rfl, _, _, rfl, hr⟩
      · rw [if_neg q]
        refine wpS_bind (t_ltAt C o1.1 (by omega) (by omega) fun b => ?_)
        cases b with
        | true => exact wpS_pure ⟨rfl, _, _, rfl, by omega⟩
        | false => exact wpS_pure ⟨rfl, _, _, rfl, hr⟩
    · exact fun c st' h => h
    · rintro c st2 ⟨rfl, l, r, rfl, hr⟩
      dsimp only
      exact wpS_bind (t_move o1 fun st3 o3 => wpS_pure ⟨rfl, o3⟩)
  · exact fun c st' h => h
  · rintro c st1 ⟨rfl, o1⟩
    exact wpS_pure (h st1 o1)
theorem t_count (C : Cmp prog w A s it κ) {p : Array (Nat × Nat × Nat)} {st : SortSt} (o : Ord it κ n p st) {lo m : Nat} (h1 : 1 ≤ m) (hm : lo + m ≤ n) {Q : Option Nat → SortSt → Prop} (h : ∀ k st', 1 ≤ k → k ≤ m → Ord it κ n p st' → Q (some k) st') : wpS (model prog w) A E s (countRun' lo m) Q st := by
  rw [countRun'_eq]
  refine wpS_bind (wpS_mono (wpS_forRange (I := fun i c st' => Ord it κ n p st' ∧ c = (none, i)) (Q := fun c st' => Ord it κ n p st' ∧ ∃ k, c = (none, k) ∧ 1 ≤ k ∧ k ≤ m) ?_ ?_ ⟨o, rfl⟩) ?_)
  · rintro i c st1 hi1 hi ⟨o1, rfl⟩
    dsimp only
    refine wpS_bind (t_ltAt C o1.1 (by omega) (by omega) fun b => ?_)
    cases b with
    | true => exact wpS_pure ⟨o1, _, rfl, hi1, by omega⟩
    | false => exact wpS_pure ⟨o1, rfl⟩
  · rintro c st1 ⟨o1, rfl⟩
    exact ⟨o1, _, rfl, by omega, by omega⟩
  · rintro c st1 ⟨o1, k, rfl, k1, k2⟩
    dsimp only
    by_cases q : (k == m) = true
    · rw [if_pos q]
      exact wpS_pure (h k st1 k1 k2 o1)
    rw [if_neg q]
    have q : k ≠ m := fun z => q (by simp [z])
    by_cases qk : k > 1
    · rw [if_pos qk]
      refine wpS_bind (t_ltAt C o1.1 (by omega) (by omega) fun b => ?_)
      cases b with
      | true => exact wpS_pure (h k st1 k1 k2 o1)
      | false =>
        simp only [Bool.false_eq_true, if_false]
        refine wpS_bind (t_rev o1 fun st2 o2 => ?_)
        refine wpS_bind (wpS_lift (wpAny_rule ⟨rfl, ?_⟩))
        refine wpS_bind (wpS_mono (wpS_forRange (I := fun i c st' => Ord it κ n p st' ∧ ∃ g, c = (none, i, g)) (Q := fun c st' => Ord it κ n p st' ∧ ∃ j g, c = (none, j, g) ∧ k + 1 ≤ j ∧ j ≤ m) ?_ ?_ ⟨o2, _, rfl⟩) ?_)
        · rintro i c st3 hi1 hi ⟨o3, g, rfl⟩
          dsimp only
          refine wpS_bind (t_ltAt C o3.1 (by omega) (by omega) fun b => ?_)
          cases b with
          | true =>
            simp only [if_true]
            by_cases qg : g > 0
            · rw [if_pos qg]
              exact wpS_bind (t_rev o3 fun st4 o4 => wpS_pure ⟨o4, _, rfl⟩)
            · rw [if_neg qg]
              exact wpS_pure ⟨o3, _, rfl⟩
          | false =>
            simp only [Bool.false_eq_true, if_false]
            refine wpS_bind (t_ltAt C o3.1 (by omega) (by omega) fun b => ?_)
            cases b with
            | true => exact wpS_pure ⟨o3, _, _, rfl, by omega, by omega⟩
            | false => exact wpS_pure ⟨o3, _, rfl⟩
        · rintro c st3 ⟨o3, g, rfl⟩
          exact ⟨o3, _, _, rfl, by omega, by omega⟩
        · rintro c st3 ⟨o3, j, g, rfl, j1, j2⟩
          dsimp only
          by_cases qg : g > 0
          · rw [if_pos qg]
            refine wpS_bind (t_rev o3 fun st4 o4 => ?_)
            refine wpS_bind (t_rev o4 fun st8 o8 => ?_)
            refine wpS_bind (wpS_mono (wpS_forRange (I := fun i c st' => Ord it κ n p st' ∧ c = (none, i)) (Q := fun c st' => Ord it κ n p st' ∧ ∃ k, c = (none, k) ∧ 1 ≤ k ∧ k ≤ m) ?_ ?_ ⟨o8, rfl⟩) ?_)
            · rintro i c st9 hi1 hi ⟨o9, rfl⟩
              dsimp only
              refine wpS_bind (t_ltAt C o9.1 (by omega) (by omega) fun b => ?_)
              cases b with
              | true => exact wpS_pure ⟨o9, _, rfl, by omega, by omega⟩
              | false => exact wpS_pure ⟨o9, rfl⟩
            · rintro c st9 ⟨o9, rfl⟩
              exact ⟨o9, _, rfl, by omega, by omega⟩
            · rintro c st9 ⟨o9, kk, rfl, e1, e2⟩
              exact wpS_pure (h kk st9 e1 e2 o9)
          · rw [if_neg qg]
            refine wpS_bind (t_rev o3 fun st8 o8 => ?_)
            refine wpS_bind (wpS_mono (wpS_forRange (I := fun i c st' => Ord it κ n p st' ∧ c = (none, i)) (Q := fun c st' => Ord it κ n p st' ∧ ∃ k, c = (none, k) ∧ 1 ≤ k ∧ k ≤ m) ?_ ?_ ⟨o8, rfl⟩) ?_)
            · rintro i c st9 hi1 hi ⟨o9, rfl⟩
              dsimp only
              refine wpS_bind (t_ltAt C o9.1 (by omega) (by omega) fun b => ?_)
              cases b with
              | true => exact wpS_pure ⟨o9, _, rfl, by omega, by omega⟩
              | false => exact wpS_pure ⟨o9, rfl⟩
            · rintro c st9 ⟨o9, rfl⟩
              exact ⟨o9, _, rfl, by omega, by omega⟩
            · rintro c st9 ⟨o9, kk, rfl, e1, e2⟩
              exact wpS_pure (h kk st9 e1 e2 o9)
    · rw [if_neg qk]
      refine wpS_bind (wpS_lift (wpAny_rule ⟨rfl, ?_⟩))
      refine wpS_bind (wpS_mono (wpS_forRange (I := fun i c st' => Ord it κ n p st' ∧ ∃ g, c = (none, i, g)) (Q := fun c st' => Ord it κ n p st' ∧ ∃ j g, c = (none, j, g) ∧ k + 1 ≤ j ∧ j ≤ m) ?_ ?_ ⟨o1, _, rfl⟩) ?_)
      · rintro i c st3 hi1 hi ⟨o3, g, rfl⟩
        dsimp only
        refine wpS_bind (t_ltAt C o3.1 (by omega) (by omega) fun b => ?_)
        cases b with
        | true =>
          simp only [if_true]
          by_cases qg : g > 0
          · rw [if_pos qg]
            exact wpS_bind (t_rev o3 fun st4 o4 => wpS_pure ⟨o4, _, rfl⟩)
          · rw [if_neg qg]
            exact wpS_pure ⟨o3, _, rfl⟩
        | false =>
          simp only [Bool.false_eq_true, if_false]
          refine wpS_bind (t_ltAt C o3.1 (by omega) (by omega) fun b => ?_)
          cases b with
          | true => exact wpS_pure ⟨o3, _, _, rfl, by omega, by omega⟩
          | false => exact wpS_pure ⟨o3, _, rfl⟩
      · rintro c st3 ⟨o3, g, rfl⟩
        exact ⟨o3, _, _, rfl, by omega, by omega⟩
      · rintro c st3 ⟨o3, j, g, rfl, j1, j2⟩
        dsimp only
        by_cases qg : g > 0
        · rw [if_pos qg]
          refine wpS_bind (t_rev o3 fun st4 o4 => ?_)
          refine wpS_bind (t_rev o4 fun st8 o8 => ?_)
          refine wpS_bind (wpS_mono (wpS_forRange (I := fun i c st' => Ord it κ n p st' ∧ c = (none, i)) (Q := fun c st' => Ord it κ n p st' ∧ ∃ k, c = (none, k) ∧ 1 ≤ k ∧ k ≤ m) ?_ ?_ ⟨o8, rfl⟩) ?_)
          · rintro i c st9 hi1 hi ⟨o9, rfl⟩
            dsimp only
            refine wpS_bind (t_ltAt C o9.1 (by omega) (by omega) fun b => ?_)
            cases b with
            | true => exact wpS_pure ⟨o9, _, rfl, by omega, by omega⟩
            | false => exact wpS_pure ⟨o9, rfl⟩
          · rintro c st9 ⟨o9, rfl⟩
            exact ⟨o9, _, rfl, by omega, by omega⟩
          · rintro c st9 ⟨o9, kk, rfl, e1, e2⟩
            exact wpS_pure (h kk st9 e1 e2 o9)
        · rw [if_neg qg]
          refine wpS_bind (t_rev o3 fun st8 o8 => ?_)
          refine wpS_bind (wpS_mono (wpS_forRange (I := fun i c st' => Ord it κ n p st' ∧ c = (none, i)) (Q := fun c st' => Ord it κ n p st' ∧ ∃ k, c = (none, k) ∧ 1 ≤ k ∧ k ≤ m) ?_ ?_ ⟨o8, rfl⟩) ?_)
          · rintro i c st9 hi1 hi ⟨o9, rfl⟩
            dsimp only
            refine wpS_bind (t_ltAt C o9.1 (by omega) (by omega) fun b => ?_)
            cases b with
            | true => exact wpS_pure ⟨o9, _, rfl, by omega, by omega⟩
            | false => exact wpS_pure ⟨o9, rfl⟩
          · rintro c st9 ⟨o9, rfl⟩
            exact ⟨o9, _, rfl, by omega, by omega⟩
          · rintro c st9 ⟨o9, kk, rfl, e1, e2⟩
            exact wpS_pure (h kk st9 e1 e2 o9)
theorem sets_size : ∀ (l : List (Keyed × Nat)) (b : Nat) (a : Array Keyed), (l.foldl (fun a (q, j) => a.setIfInBounds (b + j) q) a).size = a.size
  | [], _, _ => rfl
  | (q, j) :: l, b, a => by rw [List.foldl_cons, sets_size l b]; simp
theorem sets_in : ∀ (l : List (Keyed × Nat)) (b : Nat) (a : Array Keyed), In it a → (∀ q ∈ l, q.1 ∈ it) → In it (l.foldl (fun a (q, j) => a.setIfInBounds (b + j) q) a)
  | [], _, _, h, _ => h
  | (q, j) :: l, b, a, h, hl => by
    rw [List.foldl_cons]
    refine sets_in l b _ (fun x hx => ?_) fun r hr => hl r (List.mem_cons_of_mem _ hr)
    rcases Array.mem_or_eq_of_mem_setIfInBounds hx with z | z
    · exact h x z
    · rw [z]; exact hl (q, j) List.mem_cons_self
theorem zip_in {o : Array Keyed} (h : In it o) : ∀ q ∈ o.toList.zipIdx, q.1 ∈ it := fun q hq => by
  obtain ⟨x, i⟩ := q
  have := (List.mem_zipIdx hq).2.2
  rw [this]
  exact h _ (Array.mem_def.mpr (List.getElem_mem _))
theorem w_set {x st : SortSt} {Q : PUnit → SortSt → Prop} (h : Q ⟨⟩ x) : wpS (model prog w) A E s (set x : StateT SortSt Sem PUnit) Q st := by
  unfold wpS
  rw [StateT.run_set]
  exact wpAny_pure ⟨rfl, h⟩
theorem t_mergeAt (C : Cmp prog w A s it κ) {st : SortSt} (t : TB it κ n st) {n1 p1 p2 : Nat} (hp : pendingOf st = #[(0, n1, p1), (n1, n - n1, p2)]) (h1 : 1 ≤ n1) (h2 : n1 < n) {Q : Bool → SortSt → Prop}
    (h : ∀ st', TB it κ n st' → pendingOf st' = #[(0, n, p1)] → Q true st') : wpS (model prog w) A E s (mergeAt' 0) Q st := by
  refine wpS_bind (wpS_get ?_)
  have hq := hp
  unfold pendingOf at hq
  rw [hq]
  have e0 : #[(0, n1, p1), (n1, n - n1, p2)][0]? = some (0, n1, p1) := rfl
  have e1 : #[(0, n1, p1), (n1, n - n1, p2)][0 + 1]? = some (n1, n - n1, p2) := rfl
  rw [e0, e1]
  dsimp only
  have ep : (#[(0, n1, p1), (n1, n - n1, p2)].setIfInBounds 0 (0, n1 + (n - n1), p1)).eraseIdxIfInBounds (0 + 1) = #[(0, n, p1)] := by
    rw [show n1 + (n - n1) = n by omega]
    apply Array.toList_inj.mp
    simp [Array.setIfInBounds, Array.eraseIdxIfInBounds]
  rw [ep]
  refine wpS_bind (w_set ?_)
  have t2 : TB it κ n (setPending st #[(0, n, p1)]) := ⟨t.z, t.i, t.k, t.f⟩
  have hz := t.z
  refine wpS_bind (t_elem (show n1 < (arrOf st).size by omega) ?_)
  refine wpS_bind (t_gallop C t2.k (t.i.at (i := n1) (by omega)) t.i (by omega) (by omega) fun k hk1 => ?_)
  dsimp only
  by_cases q1 : (n1 - k == 0) = true
  · rw [if_pos q1]
    exact wpS_pure (h _ t2 rfl)
  rw [if_neg q1]
  have q1 : n1 - k ≠ 0 := fun z => q1 (by simp [z])
  refine wpS_bind (t_elem (show 0 + k + (n1 - k) - 1 < (arrOf st).size by omega) ?_)
  refine wpS_bind (t_gallop C t2.k (t.i.at (i := 0 + k + (n1 - k) - 1) (by omega)) t.i (by omega) (by omega) fun m hm1 => ?_)
  dsimp only
  by_cases q2 : (m == 0) = true
  · rw [if_pos q2]
    exact wpS_pure (h _ t2 rfl)
  rw [if_neg q2]
  have q2 : m ≠ 0 := fun z => q2 (by simp [z])
  have fin : ∀ (o : Array Keyed) (st3 : SortSt), In it o → Eqv (setPending st #[(0, n, p1)]) st3 → wpS (model prog w) A E s (do
      modify fun u => setArr u (o.toList.zipIdx.foldl (fun a (q, j) => a.setIfInBounds (0 + k + j) q) (arrOf u))
      return (failedOf (← get)).isNone) Q st3 := fun o st3 ho ev => by
    refine wpS_bind (wpS_modify (wpS_bind (wpS_get ?_)))
    have hf : failedOf st3 = none := ev.f.trans t.f
    have e : (failedOf (setArr st3 (o.toList.zipIdx.foldl (fun a (q, j) => a.setIfInBounds (0 + k + j) q) (arrOf st3)))).isNone = true := by
      show (failedOf st3).isNone = true
      rw [hf]; rfl
    rw [e]
    refine wpS_pure (h _ ⟨?_, ?_, ev.k.trans t.k, hf⟩ ev.p)
    · exact (sets_size _ _ _).trans ((congrArg Array.size ev.a).trans hz)
    · refine sets_in _ _ _ ?_ (zip_in ho)
      rw [ev.a]
      exact t.i
  by_cases q3 : n1 - k ≤ m
  · rw [if_pos q3]
    exact wpS_bind (t_mergeLo C t2.k t.i.ext t.i.ext (by simp; omega) (by simp; omega) fin)
  · rw [if_neg q3]
    exact wpS_bind (t_mergeHi C t2.k t.i.ext t.i.ext (by simp; omega) (by simp; omega) fin)
theorem minrun_le : ∀ z, z ≤ 66 → 2 ≤ z → z ≤ 2 * minRun' z z 0 ∧ minRun' z z 0 ≤ z ∧ 1 ≤ minRun' z z 0 := by decide
theorem t_runs (C : Cmp prog w A s it κ) {st : SortSt} (t : TB it κ n st) (hp : pendingOf st = #[]) (h2 : 2 ≤ n) (h66 : n ≤ 66) {Q : Unit → SortSt → Prop} (h : ∀ st', TB it κ n st' → Q () st') : wpS (model prog w) A E s sortRuns' Q st := by
  obtain ⟨r1, r2, r3⟩ := minrun_le n h66 h2
  rw [sortRuns'_eq]
  refine wpS_bind (wpS_get ?_)
  rw [t.z]
  dsimp only
  refine wpS_bind (wpS_mono (wpS_forRange (I := fun i c st' => TB it κ n st' ∧ ∃ lo, c = (none, lo) ∧ i ≤ lo ∧ ((lo = 0 ∧ pendingOf st' = #[]) ∨ (1 ≤ lo ∧ lo ≤ n ∧ (lo = n ∨ minRun' n n 0 ≤ lo) ∧ ∃ p1, pendingOf st' = #[(0, lo, p1)]) ∨ (lo = n ∧ ∃ n1 p1 p2, 1 ≤ n1 ∧ n1 < n ∧ pendingOf st' = #[(0, n1, p1), (n1, n - n1, p2)])))
    (Q := fun c st' => TB it κ n st' ∧ ∃ lo, c = (none, lo) ∧ ((∃ p1, pendingOf st' = #[(0, n, p1)]) ∨ ∃ n1 p1 p2, 1 ≤ n1 ∧ n1 < n ∧ pendingOf st' = #[(0, n1, p1), (n1, n - n1, p2)])) ?_ ?_ ⟨t, 0, rfl, Nat.le_refl _, .inl ⟨rfl, hp⟩⟩) ?_)
  · rintro i c st1 _ hi ⟨t1, lo, rfl, hil, hc⟩
    dsimp only
    by_cases q1 : lo ≥ n
    · rw [if_pos q1]
      refine wpS_pure ⟨t1, lo, rfl, ?_⟩
      rcases hc with ⟨l0, _⟩ | ⟨l1, l2, l3, p1, hpd⟩ | ⟨l0, hpd⟩
      · omega
      · have : lo = n := by omega
        subst this
        exact .inl ⟨p1, hpd⟩
      · exact .inr hpd
    rw [if_neg q1]
    refine wpS_bind (t_count (p := pendingOf st1) C ⟨t1, rfl⟩ (by omega) (by omega) fun fd st0 f1 f2 o0 => ?_)
    dsimp only
    by_cases q2 : fd < minRun' n n 0
    · rw [if_pos q2]
      refine wpS_bind (wpS_lift (wpAny_rule ⟨rfl, ?_⟩))
      refine wpS_bind (t_bin C o0 (by omega) fun st2 o2 => ?_)
      simp only [Bool.not_true, Bool.false_eq_true, if_false]
      refine wpS_bind (wpS_get ?_)
      rcases hc with ⟨l0, hpd⟩ | ⟨l1, l2, l3, p1, hpd⟩ | ⟨l0, _⟩
      · subst l0
        rw [o2.2, hpd]
        refine wpS_bind (wpS_modify (wpS_pure ⟨⟨o2.1.z, o2.1.i, o2.1.k, o2.1.f⟩, _, rfl, by omega, .inr (.inl ⟨by omega, by omega, by omega, 0, ?_⟩)⟩))
        show (pendingOf st2).push _ = _
        rw [o2.2, hpd, Nat.zero_add]
        rfl
      · have hRe : min (n - lo) (minRun' n n 0) = n - lo := by omega
        have hpd2 : pendingOf st2 = #[(0, lo, p1)] := o2.2.trans hpd
        rw [hpd2]
        refine wpS_bind (wpS_mono (wpS_forRange (I := fun _ c st' => st' = st2 ∧ c = (none, ())) (Q := fun c st' => st' = st2 ∧ c = (none, ())) ?_ (fun _ _ h => h) ⟨rfl, rfl⟩) ?_)
        · rintro j c st3 _ hj ⟨rfl, rfl⟩
          refine wpS_bind (wpS_get ?_)
          rw [hpd2]
          exact wpS_pure ⟨rfl, rfl⟩
        · rintro c st3 ⟨rfl, rfl⟩
          refine wpS_bind (wpS_modify (wpS_bind (wpS_modify (wpS_pure ⟨⟨o2.1.z, o2.1.i, o2.1.k, o2.1.f⟩, _, rfl, by omega, .inr (.inr ⟨by omega, lo, power' n (2 * 0 + lo) (2 * 0 + lo + lo + min (n - lo) (minRun' n n 0)) n, 0, by omega, by omega, ?_⟩)⟩))))
          show ((pendingOf st3).modify ((pendingOf st3).size - 1) _).push _ = _
          rw [hpd2, hRe]
          apply Array.toList_inj.mp
          simp [Array.modify]
          rfl
      · omega
    · rw [if_neg q2]
      obtain ⟨st2, e2⟩ : ∃ st2, st2 = st0 := ⟨_, rfl⟩
      rw [← e2] at o0 ⊢
      have o2 := o0
      refine wpS_bind (wpS_get ?_)
      rcases hc with ⟨l0, hpd⟩ | ⟨l1, l2, l3, p1, hpd⟩ | ⟨l0, _⟩
      · subst l0
        rw [o2.2, hpd]
        refine wpS_bind (wpS_modify (wpS_pure ⟨⟨o2.1.z, o2.1.i, o2.1.k, o2.1.f⟩, _, rfl, by omega, .inr (.inl ⟨by omega, by omega, by omega, 0, ?_⟩)⟩))
        show (pendingOf st2).push _ = _
        rw [o2.2, hpd, Nat.zero_add]
        rfl
      · have hRe : fd = n - lo := by omega
        have hpd2 : pendingOf st2 = #[(0, lo, p1)] := o2.2.trans hpd
        rw [hpd2]
        refine wpS_bind (wpS_mono (wpS_forRange (I := fun _ c st' => st' = st2 ∧ c = (none, ())) (Q := fun c st' => st' = st2 ∧ c = (none, ())) ?_ (fun _ _ h => h) ⟨rfl, rfl⟩) ?_)
        · rintro j c st3 _ hj ⟨rfl, rfl⟩
          refine wpS_bind (wpS_get ?_)
          rw [hpd2]
          exact wpS_pure ⟨rfl, rfl⟩
        · rintro c st3 ⟨rfl, rfl⟩
          refine wpS_bind (wpS_modify (wpS_bind (wpS_modify (wpS_pure ⟨⟨o2.1.z, o2.1.i, o2.1.k, o2.1.f⟩, _, rfl, by omega, .inr (.inr ⟨by omega, lo, power' n (2 * 0 + lo) (2 * 0 + lo + lo + fd) n, 0, by omega, by omega, ?_⟩)⟩))))
          show ((pendingOf st3).modify ((pendingOf st3).size - 1) _).push _ = _
          rw [hpd2, hRe]
          apply Array.toList_inj.mp
          simp [Array.modify]
          rfl
      · omega
  · rintro c st1 ⟨t1, lo, rfl, hil, hc⟩
    refine ⟨t1, lo, rfl, ?_⟩
    rcases hc with ⟨l0, _⟩ | ⟨l1, l2, l3, p1, hpd⟩ | ⟨l0, hpd⟩
    · omega
    · have : lo = n := by omega
      subst this
      exact .inl ⟨p1, hpd⟩
    · exact .inr hpd
  · rintro c st1 ⟨t1, lo, rfl, hc⟩
    dsimp only
    refine wpS_bind (wpS_mono (wpS_forRange (I := fun _ c st' => TB it κ n st' ∧ c = (none, ()) ∧ ((∃ p1, pendingOf st' = #[(0, n, p1)]) ∨ ∃ n1 p1 p2, 1 ≤ n1 ∧ n1 < n ∧ pendingOf st' = #[(0, n1, p1), (n1, n - n1, p2)])) (Q := fun c st' => TB it κ n st' ∧ c = (none, ())) ?_ (fun _ _ h => ⟨h.1, h.2.1⟩) ⟨t1, rfl, hc⟩) ?_)
    · rintro i c st2 _ hi ⟨t2, rfl, hc⟩
      refine wpS_bind (wpS_get ?_)
      rcases hc with ⟨p1, hpd⟩ | ⟨n1, p1, p2, h1, h2, hpd⟩
      · rw [hpd]
        exact wpS_pure ⟨t2, rfl⟩
      · rw [hpd]
        refine wpS_bind (t_mergeAt C t2 hpd h1 h2 fun st3 t3 hp3 => ?_)
        exact wpS_pure ⟨t3, rfl, .inl ⟨_, hp3⟩⟩
    · rintro c st2 ⟨t2, rfl⟩
      exact wpS_pure (h st2 t2)
end
end Srt
end L2

/-! SortTot3 -/
set_option Elab.async false
set_option linter.all false
set_option maxRecDepth 100000
set_option maxHeartbeats 4000000
namespace L2
namespace Srt
open PySem PyProof.Rows PySem.W
def Pr (h : Heap) (v : Value) : Prop := ∃ x o i j t u n, v = .ref x ∧ h.get? x = some o ∧ o.cls = .type "tuple" ∧ o.data = .seq #[.int i t, .int j u] n
section
variable {prog : Program} {w : World} {A : Around} {E : Value → Shared → Prop} {s : Shared}
theorem pr_lt {x y : Value} (hx : Pr s.heap x) (hy : Pr s.heap y) {Q : Bool → Shared → Prop} (h : ∀ b, Q b s) : wpAny (model prog w) A (keyLt' (tuples' true) x y) Q E s := by
  obtain ⟨x, o, i, j, t, u, n, rfl, ho, _, hd⟩ := hx
  obtain ⟨y, o', i', j', t', u', n', rfl, ho', _, hd'⟩ := hy
  refine kat_lt ho hd ho' hd' (kat_cons (wpAny_eqBool_int ?_))
  refine kat_go (fun _ => kat_yes (kat_cons (wpAny_eqBool_int ?_))) fun _ => kat_no (oneLt_int (h _))
  exact kat_go (fun _ => kat_yes (kat_nil (h _))) fun _ => kat_no (kat_one _ _ (lt_int (h _)))
theorem pr_tups : ∀ {vs : List Value}, (∀ v ∈ vs, Pr s.heap v) → ∃ fs : List Value, KatTups s.heap vs fs ∧ fs.length = vs.length ∧ ∀ f ∈ fs, ∃ i t, f = .int i t
  | [], _ => ⟨[], .nil, rfl, fun f hf => by cases hf⟩
  | v :: vs, h => by
    obtain ⟨fs, k, hl, hi⟩ := pr_tups (vs := vs) fun v hv => h v (List.mem_cons_of_mem _ hv)
    obtain ⟨x, o, i, j, t, u, n, rfl, ho, hc, hd⟩ := h v List.mem_cons_self
    refine ⟨.int i t :: fs, .cons ho hc hd rfl k, by simp [hl], fun f hf => ?_⟩
    rcases List.mem_cons.mp hf with rfl | hf
    · exact ⟨i, t, rfl⟩
    · exact hi f hf
theorem pr_kind {vs : List Value} (h : ∀ v ∈ vs, Pr s.heap v) (hne : 0 < vs.length) {Q : SortKind → Shared → Prop} (q : Q (tuples' true) s) : wpAny (model prog w) A (keyKind' vs.toArray) Q E s := by
  obtain ⟨fs, k, hl, hi⟩ := pr_tups h
  refine kat_kind (T := .type "int") k (by omega) (fun v hv => ?_) rfl q
  obtain ⟨i, t, rfl⟩ := hi v hv
  exact Looks.of_pure rfl
theorem mem_zip2 {vs : List Value} {p : Keyed} (h : p ∈ vs.toArray.zip vs.toArray) : p.1 ∈ vs ∧ p.2 ∈ vs := by
  have h : p ∈ (vs.toArray.zip vs.toArray).toList := Array.mem_def.mp h
  rw [Array.toList_zip] at h
  obtain ⟨a, b⟩ := p
  exact List.of_mem_zip h
theorem pr_runs {vs : List Value} (h : ∀ v ∈ vs, Pr s.heap v) (h2 : 2 ≤ vs.length) (h66 : vs.length ≤ 66) {Q : Unit → SortSt → Prop}
    (q : ∀ st' : SortSt, failedOf st' = none → ((arrOf st').map (·.2)).size = vs.length → (∀ v ∈ (arrOf st').map (·.2), v ∈ vs) → Q () st') :
    wpS (model prog w) A E s sortRuns' Q (SortSt.mk' (tuples' true) (vs.toArray.zip vs.toArray) #[] 7 none) := by
  have hz : (vs.toArray.zip vs.toArray).size = vs.length := by simp
  refine t_runs (it := (vs.toArray.zip vs.toArray).toList) (κ := tuples' true) (n := vs.length) (fun x hx y hy Q E hq => ?_) ⟨hz, fun x hx => Array.mem_def.mp hx, rfl, rfl⟩ rfl h2 h66 fun st' t => q st' t.f ?_ fun v hv => ?_
  · exact pr_lt (h _ (mem_zip2 (Array.mem_def.mpr hx)).1) (h _ (mem_zip2 (Array.mem_def.mpr hy)).1) hq
  · rw [Array.size_map]; exact t.z
  · obtain ⟨p, hp, rfl⟩ := Array.mem_map.mp hv
    exact (mem_zip2 (Array.mem_def.mpr (t.i p hp))).2
theorem Pr.keeps {h h' : Heap} {v : Value} (p : Pr h v) (k : ∀ b o, h.get? b = some o → o.cls = .type "tuple" → h'.get? b = some o) : Pr h' v := by
  obtain ⟨x, o, i, j, t, u, n, e, ho, hc, hd⟩ := p
  exact ⟨x, o, i, j, t, u, n, e, k _ _ ho hc, hc, hd⟩
theorem sort_pairs {a : Addr} {vs : List Value} {n : Nat} {P : PySem.Fin → Shared → Prop} (ho : s.heap.get? a = some (seqObj "list" vs.toArray n)) (hp : ∀ v ∈ vs, Pr s.heap v) (h66 : vs.length ≤ 66)
    (h : ∀ o : Array Value, o.size = vs.length → (∀ v ∈ o, v ∈ vs) → P (.done (.ret .none)) { s with heap := sortedHeap s.heap a vs o }) : wpAny (model prog w) A (Builtin.«list.sort» ⟨[.ref a], []⟩) P E s := by
  have big : 66 ≤ sizeLine := by decide
  have ha := Heap.lt_size ho
  rw [list_sort_plain]
  refine wpAny_bind (listItems_at ho rfl (wpAny_bind (listUpdate_at ho rfl ?_ (by simp; omega) (Nat.zero_le _))))
  have o1 := get?_update_seq ho (fun _ => (#[] : Array Value))
  refine wpAny_bind (seqEpoch_at o1 rfl (wpAny_bind (wpAny_newTuple (wpAny_bind (wpAny_newList (wpAny_holding ?_) (Nat.zero_le _))) (by show vs.length ≤ _; omega))))
  generalize hH : Heap.push (Heap.push (s.heap.update a (Obj.mapSeq fun _ => (#[] : Array Value))) (seqObj "tuple" vs.toArray 0)) (seqObj "list" #[] 0) = H6
  have hs : ∀ o : Array Value, sortedHeap s.heap a vs o = H6.update a (Obj.mapSeq fun _ => o) := fun o => by rw [← hH]; rfl
  have o6 := Heap.get?_push_of_some (seqObj "list" #[] 0) (Heap.get?_push_of_some (seqObj "tuple" vs.toArray 0) o1)
  rw [hH] at o6
  have hp6 : ∀ v ∈ vs, Pr H6 v := fun v hv => (hp v hv).keeps fun b o e hc => by
    have hb : a ≠ b := fun z => by
      rw [← z, ho] at e
      cases e
      have hc : Value.type "list" = .type "tuple" := hc
      injection hc with hc
      exact absurd hc (by decide)
    rw [← hH]
    refine Heap.get?_push_of_some _ (Heap.get?_push_of_some _ ?_)
    rw [Heap.get?_update_other _ _ hb]
    exact e
  have e6 : ({ s with heap := Heap.push (Heap.push (s.heap.update a (Obj.mapSeq fun _ => (#[] : Array Value))) (seqObj "tuple" vs.toArray 0)) (seqObj "list" #[] 0) } : Shared) = { s with heap := H6 } := by rw [hH]
  refine (show wpAny (model prog w) A _ P E { s with heap := H6 } from ?_)
  dsimp only
  have hz0 : ((vs.toArray.zip vs.toArray).map (fun p : Keyed => p.2)).size = vs.length := by simp
  by_cases q : vs.toArray.size < 2
  · rw [if_pos q, if_pos q]
    refine wpAny_bind (wpAny_pure ?_)
    rw [StateT.run_pure]
    refine wpAny_bind (wpAny_pure (wpAny_bind (seqEpoch_at o6 rfl (wpAny_bind (listUpdate_at o6 rfl ?_ (Nat.zero_le _) (by show ((vs.toArray.zip vs.toArray).map (fun p : Keyed => p.2)).size ≤ _; omega))))))
    simp only [bne_self_eq_false, Bool.false_eq_true, if_false]
    refine wpAny_pure ?_
    rw [← hs]
    refine h _ hz0 fun v hv => ?_
    obtain ⟨p, hp', rfl⟩ := Array.mem_map.mp hv
    exact (mem_zip2 hp').2
  · rw [if_neg q, if_neg q]
    have q : 2 ≤ vs.length := by simp at q; omega
    refine wpAny_bind (pr_kind hp6 (by omega) ?_)
    refine wpAny_bind (wpAny_mono (pr_runs (s := { s with heap := H6 }) hp6 q h66 (Q := fun _ st' => failedOf st' = none ∧ ((arrOf st').map (·.2)).size = vs.length ∧ ∀ v ∈ (arrOf st').map (·.2), v ∈ vs) fun st' a1 a2 a3 => ⟨a1, a2, a3⟩) ?_ fun _ _ e => e)
    rintro ⟨⟨⟩, st'⟩ s' ⟨rfl, hf, hz, hm⟩
    refine wpAny_bind (seqEpoch_at o6 rfl (wpAny_bind (listUpdate_at o6 rfl ?_ (Nat.zero_le _) (by omega))))
    rw [hf]
    simp only [bne_self_eq_false, Bool.false_eq_true, if_false]
    refine wpAny_pure ?_
    rw [← hs]
    exact h _ hz hm
theorem sorted_pairs {l : Addr} {vs : List Value} {Q : Value → Shared → Prop} (hl : s.heap.IsList l vs.toArray) (hp : ∀ v ∈ vs, Pr s.heap v) (h66 : vs.length ≤ 66)
    (h : ∀ o : Array Value, o.size = vs.length → (∀ v ∈ o, v ∈ vs) → Q (.ref (s.heap.objs.size + 1)) { s with heap := sortedAll s.heap vs o }) : wpAny (model prog w) A (call (.builtin "sorted") [.ref l]) Q E s := by
  have big : 66 ≤ sizeLine := by decide
  refine Calls.call_function_entry kind_sorted plain_sorted entry_sorted (args_sorted1 _) ?_
  unfold Builtin.«sorted»
  refine wpAny_bind (m := checkCount "sorted" 1 1 _) (wpAny_pure (wpAny_bind (collect_list hl (wpAny_bind (wpAny_newList ?_ (by show vs.length ≤ _; omega))) (by omega))))
  have hz : (Heap.update (Heap.push s.heap (seqObj "list" #[] 0)) s.heap.objs.size (Obj.mapSeq fun x => x ++ vs.toArray)).objs.size = s.heap.objs.size + 1 := (Heap.size_update _ _ _).trans (size_push' _ _)
  have hk : ∀ b o, s.heap.get? b = some o → (Heap.push (Heap.update (Heap.push s.heap (seqObj "list" #[] 0)) s.heap.objs.size (Obj.mapSeq fun x => x ++ vs.toArray)) (seqObj "list" vs.toArray 0)).get? b = some o := fun b o e => by
    refine Heap.get?_push_of_some _ ?_
    rw [Heap.get?_update_other _ _ (Nat.ne_of_gt (Heap.lt_size e))]
    exact Heap.get?_push_of_some _ e
  have ho := Heap.get?_push_size (Heap.update (Heap.push s.heap (seqObj "list" #[] 0)) s.heap.objs.size (Obj.mapSeq fun x => x ++ vs.toArray)) (o := seqObj "list" vs.toArray 0) rfl
  refine (show wpAny _ _ _ _ _ { s with heap := Heap.push (Heap.update (Heap.push s.heap (seqObj "list" #[] 0)) s.heap.objs.size (Obj.mapSeq fun x => x ++ vs.toArray)) (seqObj "list" vs.toArray 0) } from ?_)
  rw [hz] at ho ⊢
  refine wpAny_bind (wpAny_holding (wpAny_call_entry slot_list_sort ⟨_, ho, rfl⟩ entry_list_sort ?_ (args_list_sort _)))
  refine sort_pairs ho (fun v hv => (hp v hv).keeps fun b o e _ => hk b o e) h66 fun o z m => ⟨_, rfl, wpAny_pure ⟨_, rfl, h o z m⟩⟩
end
section
variable {X : Cx}
theorem vals_pick {ys : List V} : ∀ {l : List Value}, (∀ v ∈ l, ∃ y ∈ ys, RelV y v) → ∃ zs, Vals zs l ∧ ∀ z ∈ zs, z ∈ ys
  | [], _ => ⟨[], .nil, fun z hz => by cases hz⟩
  | v :: l, h => by
    obtain ⟨zs, r, m⟩ := vals_pick (l := l) fun v hv => h v (List.mem_cons_of_mem _ hv)
    obtain ⟨y, hy, e⟩ := h v List.mem_cons_self
    refine ⟨y :: zs, .cons e r, fun z hz => ?_⟩
    rcases List.mem_cons.mp hz with rfl | hz
    · exact hy
    · exact m z hz
def rSortP (K : PySem.W.Frag) : List V → Hp → VK → Prop := fun xs H Q => ∃ (a : Addr) (ys : List V), xs = [V.ref a] ∧ SqL K H a ys ∧ ys.length ≤ 66 ∧ (∀ y ∈ ys, ∃ q i j, y = .ref q ∧ H q = some (.tup [.int i, .int j])) ∧
  ∀ (p : Addr) (zs : List V), H p = none → zs.length = ys.length → (∀ z ∈ zs, z ∈ ys) → Q (.ref p) (upd H p (.lst zs))
theorem call_sortP : CallR X (.builtin "sorted") (rSortP X.K) := by
  intro pins s σ H xs us Q I r h
  obtain ⟨a, ys, rfl, ha, h66, hy, q⟩ := h
  obtain ⟨u, rfl, ru⟩ := r.one
  cases ru
  obtain ⟨its, rv, p, hz⟩ := I.list ha
  have hl := rv.length
  have back : ∀ v ∈ its, ∃ y ∈ ys, RelV y v := fun v hv => by
    obtain ⟨i, hi, e⟩ := List.getElem_of_mem hv
    have hi' : i < ys.length := by omega
    obtain ⟨u, hu, ru⟩ := rv.get (i := i) (x := ys[i]) (by simp [hi'])
    rw [List.getElem?_eq_getElem hi] at hu
    cases hu
    exact ⟨ys[i], List.getElem_mem hi', e ▸ ru⟩
  refine sorted_pairs p.isList (fun v hv => ?_) (by omega) fun o z m => ?_
  · obtain ⟨y, hy', e⟩ := back v hv
    obtain ⟨t, i, j, rfl, ht⟩ := hy y hy'
    cases e
    obtain ⟨_, vs, rr, ob, e1, e2, n, e3⟩ := (show ObjOk X.prog X.w H s.heap t (.tup [.int i, .int j]) from I.hok t _ ht)
    cases rr with
    | cons r1 rr =>
      cases rr with
      | cons r2 rr =>
        cases rr
        obtain ⟨t1, rfl⟩ := r1
        obtain ⟨t2, rfl⟩ := r2
        exact ⟨t, ob, i, j, t1, t2, n, rfl, e1, e2, e3⟩
  · obtain ⟨zs, rz, mz⟩ := vals_pick (ys := ys) (l := o.toList) fun v hv => back v (m v (Array.mem_def.mpr hv))
    have hn : H (s.heap.objs.size + 1) = none := I.hok.fresh (Nat.le_succ _)
    have lz : zs.length = ys.length := by rw [rz.length, Array.length_toList, z, hl]
    obtain ⟨c, hc⟩ := sortedAll_at s.heap its o
    refine ⟨.ref _, _, I.laid (a := s.heap.objs.size + 1) (o := .lst zs) (t' := s.toks) (fun _ _ e => sortedAll_old e) (Nat.le_succ _) ⟨by rw [lz]; exact hz, o.toList, c, rz, hc⟩, rfl, q _ zs hn lz mz⟩
end
end Srt
end L2

/-! Gr -/
set_option Elab.async false
set_option linter.all false
namespace K04
open PySem L2
structure Hs (hs : List Int) : Prop where
  l1 : 1 ≤ hs.length
  l12 : hs.length ≤ 12
  up : hs.Pairwise (· < ·)
  lo : ∀ h ∈ hs, 0 ≤ h
  hi : ∀ h ∈ hs, h ≤ 99
structure Ls (hs : List Int) (ls : List (Int × Int)) : Prop where
  nd : ls.Nodup
  ok : ∀ p ∈ ls, p.1 ∈ hs ∧ p.2 ∈ hs ∧ p.1 < p.2
  le : ls.length ≤ 66
theorem up_nodup {as : List Int} (h : as.Pairwise (· < ·)) : as.Nodup := h.imp fun {a b} z => by omega
def nbs (ls : List (Int × Int)) (h : Int) : List Int := ls.flatMap fun p => (if p.1 = h then [p.2] else []) ++ if p.2 = h then [p.1] else []
theorem nbs_len {h : Int} : ∀ {ls : List (Int × Int)}, (nbs ls h).length ≤ 2 * ls.length
  | [] => Nat.le_refl _
  | p :: ls => by
    have ih := nbs_len (h := h) (ls := ls)
    unfold nbs at ih ⊢
    rw [List.flatMap_cons, List.length_append, List.length_append, List.length_cons]
    have h1 : (if p.1 = h then [p.2] else []).length ≤ 1 := by split <;> simp
    have h2 : (if p.2 = h then [p.1] else []).length ≤ 1 := by split <;> simp
    omega
theorem nbs_snoc {ls : List (Int × Int)} {p : Int × Int} {h : Int} : nbs (ls ++ [p]) h = nbs ls h ++ ((if p.1 = h then [p.2] else []) ++ if p.2 = h then [p.1] else []) := by
  unfold nbs
  rw [List.flatMap_append, List.flatMap_cons, List.flatMap_nil, List.append_nil]
theorem nbs_take {ls : List (Int × Int)} {p : Int × Int} {i : Nat} {h : Int} (e : ls[i]? = some p) : nbs (ls.take (i + 1)) h = nbs (ls.take i) h ++ ((if p.1 = h then [p.2] else []) ++ if p.2 = h then [p.1] else []) := by
  rw [List.take_add_one, e]
  exact nbs_snoc
end K04

/-! Gr2 -/
set_option Elab.async false
set_option linter.all false
namespace K04
open PySem L2
def pairs : List Int → List (Int × Int)
  | [] => []
  | h :: t => t.map (fun x => (h, x)) ++ pairs t
theorem pairs_len : ∀ hs : List Int, (pairs hs).length * 2 + hs.length = hs.length * hs.length
  | [] => rfl
  | h :: t => by
    have ih := pairs_len t
    show (t.map (fun x => (h, x)) ++ pairs t).length * 2 + (t.length + 1) = (t.length + 1) * (t.length + 1)
    rw [List.length_append, List.length_map]
    have e : (t.length + 1) * (t.length + 1) = t.length * t.length + t.length + (t.length + 1) := by rw [Nat.succ_mul, Nat.mul_succ]
    omega
theorem pairs_mem : ∀ {hs : List Int} {x y : Int}, hs.Pairwise (· < ·) → x ∈ hs → y ∈ hs → x < y → (x, y) ∈ pairs hs
  | h :: t, x, y, up, hx, hy, lt => by
    rw [List.pairwise_cons] at up
    show (x, y) ∈ t.map (fun x => (h, x)) ++ pairs t
    rw [List.mem_append]
    rcases List.mem_cons.mp hx with rfl | hx'
    · rcases List.mem_cons.mp hy with rfl | hy
      · omega
      · exact .inl (List.mem_map.mpr ⟨y, hy, rfl⟩)
    · rcases List.mem_cons.mp hy with rfl | hy
      · have := up.1 x hx'; omega
      · exact .inr (pairs_mem up.2 hx' hy lt)
theorem nd_le2 : ∀ {as bs : List (Int × Int)}, as.Nodup → (∀ x ∈ as, x ∈ bs) → as.length ≤ bs.length
  | [], _, _, _ => Nat.zero_le _
  | a :: as, bs, hn, hs => by
    rw [List.nodup_cons] at hn
    have ha := hs a List.mem_cons_self
    have ih := nd_le2 (as := as) (bs := bs.erase a) hn.2 fun x hx => by
      have ne : x ≠ a := fun z => hn.1 (by rw [← z]; exact hx)
      exact (List.mem_erase_of_ne ne).mpr (hs x (List.mem_cons_of_mem _ hx))
    rw [List.length_erase_of_mem ha] at ih
    have := List.length_pos_of_mem ha
    rw [List.length_cons]; omega
theorem Ls.of {hs : List Int} {ls : List (Int × Int)} (W : Hs hs) (nd : ls.Nodup) (ok : ∀ p ∈ ls, p.1 ∈ hs ∧ p.2 ∈ hs ∧ p.1 < p.2) : Ls hs ls where
  nd := nd
  ok := ok
  le := by
    have h1 := nd_le2 (bs := pairs hs) nd fun p hp => pairs_mem W.up (ok p hp).1 (ok p hp).2.1 (ok p hp).2.2
    have h2 := pairs_len hs
    have h3 : hs.length * hs.length ≤ 12 * hs.length := Nat.mul_le_mul_right _ W.l12
    have h4 := W.l12
    omega
theorem Ls.turn {hs : List Int} {ls : List (Int × Int)} (L : Ls hs ls) (t : Nat) : Ls hs (ls.drop t ++ ls.take t) where
  nd := by
    have p : (ls.drop t ++ ls.take t).Perm ls := List.perm_append_comm.trans (by rw [List.take_append_drop])
    exact p.nodup_iff.mpr L.nd
  ok := fun p hp => by
    rcases List.mem_append.mp hp with m | m
    · exact L.ok p (List.mem_of_mem_drop m)
    · exact L.ok p (List.mem_of_mem_take m)
  le := by
    have := L.le
    rw [List.length_append, List.length_drop, List.length_take]
    omega
theorem cut_lo {xs : List V} {t : Nat} (h : t ≤ xs.length) : cutV xs (some (t : Int)) none = xs.drop t := by
  unfold cutV
  rw [HT.sIx_nat, HT.sIx_none, Nat.min_eq_left h]
  exact List.take_of_length_le (by rw [List.length_drop]; exact Nat.le_refl _)
theorem cut_hi {xs : List V} {t : Nat} (h : t ≤ xs.length) : cutV xs none (some (t : Int)) = xs.take t := by
  unfold cutV
  rw [HT.sIx_nat, HT.sIx_none, Nat.min_eq_left h, List.drop_zero, Nat.sub_zero]
theorem Hs.shift {hs : List Int} {h0 : Int} {t : List Int} (W : Hs hs) (e : hs = h0 :: t) : Hs (hs.map fun h => h - h0) where
  l1 := by rw [List.length_map]; exact W.l1
  l12 := by rw [List.length_map]; exact W.l12
  up := by
    rw [List.pairwise_map]
    exact W.up.imp fun {a b} z => by omega
  lo := fun x hx => by
    obtain ⟨h, m, rfl⟩ := List.mem_map.mp hx
    subst e
    have up := W.up
    rw [List.pairwise_cons] at up
    rcases List.mem_cons.mp m with rfl | m
    · omega
    · have := up.1 h m; omega
  hi := fun x hx => by
    obtain ⟨h, m, rfl⟩ := List.mem_map.mp hx
    have := W.hi h m
    have := W.lo h0 (by rw [e]; exact List.mem_cons_self)
    omega
end K04

/-! K02a -/
set_option Elab.async false
set_option linter.all false
set_option maxRecDepth 100000
set_option maxHeartbeats 4000000
namespace K04
open PySem L2
def top (i : Nat) : Stmt := PySem.Challenge.pw_beatless_k02_webs_refused.main.body.getD i (.Pass ⟨0, 0, 0, 0⟩)
abbrev st_is_whole : Stmt := top 9
abbrev st_are_hands : Stmt := top 13
abbrev st_is_line : Stmt := top 14
abbrev st_are_lines : Stmt := top 15
abbrev st_near_by_hand : Stmt := top 16
abbrev st__law_cell_at : Stmt := top 19
abbrev st__law_digit : Stmt := top 20
abbrev st__law_web : Stmt := top 21
abbrev st__law_bad : Stmt := top 22
abbrev st__law_refused : Stmt := top 23
abbrev st_law : Stmt := top 24
abbrev st_Web___init__ : Stmt := inClass (top 17) 0
abbrev st_Web_hands : Stmt := inClass (top 17) 1
abbrev st_Web_lines : Stmt := inClass (top 17) 2
theorem sc_is_whole : FnScope ["value"] ["value"] (defScope st_is_whole) := ⟨rfl, rfl, rfl, by decide +kernel, rfl, by decide +kernel, by decide +kernel⟩
theorem sc_are_hands : FnScope ["hands", "ahead", "hand"] ["hands"] (defScope st_are_hands) := ⟨rfl, rfl, rfl, by decide +kernel, rfl, by decide +kernel, by decide +kernel⟩
theorem sc_is_line : FnScope ["line", "hands"] ["line", "hands"] (defScope st_is_line) := ⟨rfl, rfl, rfl, by decide +kernel, rfl, by decide +kernel, by decide +kernel⟩
theorem sc_are_lines : FnScope ["lines", "hands", "seen", "line"] ["lines", "hands"] (defScope st_are_lines) := ⟨rfl, rfl, rfl, by decide +kernel, rfl, by decide +kernel, by decide +kernel⟩
theorem sc_near_by_hand : FnScope ["hands", "lines", "near", "hand", "one", "other"] ["hands", "lines"] (defScope st_near_by_hand) := ⟨rfl, rfl, rfl, by decide +kernel, rfl, by decide +kernel, by decide +kernel⟩
theorem sc__law_cell_at : FnScope ["_law_script", "_law_k"] ["_law_script", "_law_k"] (defScope st__law_cell_at) := ⟨rfl, rfl, rfl, by decide +kernel, rfl, by decide +kernel, by decide +kernel⟩
theorem sc__law_digit : FnScope ["_law_state", "_law_base", "_law_cell", "_law_found", "_law_number"] ["_law_state", "_law_base"] (defScope st__law_digit) := ⟨rfl, rfl, rfl, by decide +kernel, rfl, by decide +kernel, by decide +kernel⟩
theorem sc__law_web : FnScope ["_law_state", "_law_hands", "_law_low", "_law_k", "_law_more", "_law_lines", "_law_thin", "_law_one", "_law_other", "_law_turn"] ["_law_state"] (defScope st__law_web) := ⟨rfl, rfl, rfl, by decide +kernel, rfl, by decide +kernel, by decide +kernel⟩
theorem sc__law_bad : FnScope ["_law_hands", "_law_lines", "_law_state", "_law_top", "_law_some", "_law_odd", "_law_line", "_law_one", "_law_other", "_law_turned"] ["_law_hands", "_law_lines", "_law_state"] (defScope st__law_bad) := ⟨rfl, rfl, rfl, by decide +kernel, rfl, by decide +kernel, by decide +kernel⟩
theorem sc__law_refused : FnScope ["_law_hands", "_law_lines", "_law_others", "e"] ["_law_hands", "_law_lines"] (defScope st__law_refused) := ⟨rfl, rfl, rfl, by decide +kernel, rfl, by decide +kernel, by decide +kernel⟩
theorem sc_law : FnScope ["_law_script", "_law_hands", "_law_lines", "_law_k", "_law_bad_here", "_law_more", "_law_wide", "_law_good"] ["_law_script"] (defScope st_law) := ⟨rfl, rfl, rfl, by decide +kernel, rfl, by decide +kernel, by decide +kernel⟩
theorem sc_Web___init__ : FnScope ["self", "hands", "lines"] ["self", "hands", "lines"] (defScope st_Web___init__) := ⟨rfl, rfl, rfl, by decide +kernel, rfl, by decide +kernel, by decide +kernel⟩
structure Ad where
  f_is_whole : Addr
  d_is_whole : FuncData
  f_are_hands : Addr
  d_are_hands : FuncData
  f_is_line : Addr
  d_is_line : FuncData
  f_are_lines : Addr
  d_are_lines : FuncData
  f_near_by_hand : Addr
  d_near_by_hand : FuncData
  f__law_cell_at : Addr
  d__law_cell_at : FuncData
  f__law_digit : Addr
  d__law_digit : FuncData
  f__law_web : Addr
  d__law_web : FuncData
  f__law_bad : Addr
  d__law_bad : FuncData
  f__law_refused : Addr
  d__law_refused : FuncData
  f_law : Addr
  d_law : FuncData
  f_Web___init__ : Addr
  d_Web___init__ : FuncData
  f_Web_hands : Addr
  d_Web_hands : FuncData
  f_Web_lines : Addr
  d_Web_lines : FuncData
  c_Web : Addr
  c_NoWeb : Addr
  c_NoHand : Addr
  c_NoLine : Addr
  c_NoWay : Addr
  c_NoProgram : Addr
  c_BeatlessError : Addr
  t_MOST_HANDS : Tok
  t_LAST_HAND : Tok
structure Txt (K : PySem.W.Frag) (mg : Str → Option Value) (a : Ad) : Prop where
  n_len : mg "len" = none
  n_int : mg "int" = none
  n_min : mg "min" = none
  n_max : mg "max" = none
  n_range : mg "range" = none
  n_isinstance : mg "isinstance" = none
  n_list : mg "list" = none
  n_any : mg "any" = none
  n_sorted : mg "sorted" = none
  n_bool : mg "bool" = none
  n_tuple : mg "tuple" = none
  n_ValueError : mg "ValueError" = none
  F_is_whole : Fun K "is_whole" "is_whole" st_is_whole a.f_is_whole a.d_is_whole
  b_is_whole : Binds K a.d_is_whole ["value"] []
  g_is_whole : mg "is_whole" = some (.ref a.f_is_whole)
  F_are_hands : Fun K "are_hands" "are_hands" st_are_hands a.f_are_hands a.d_are_hands
  b_are_hands : Binds K a.d_are_hands ["hands"] []
  g_are_hands : mg "are_hands" = some (.ref a.f_are_hands)
  F_is_line : Fun K "is_line" "is_line" st_is_line a.f_is_line a.d_is_line
  b_is_line : Binds K a.d_is_line ["line", "hands"] []
  g_is_line : mg "is_line" = some (.ref a.f_is_line)
  F_are_lines : Fun K "are_lines" "are_lines" st_are_lines a.f_are_lines a.d_are_lines
  b_are_lines : Binds K a.d_are_lines ["lines", "hands"] []
  g_are_lines : mg "are_lines" = some (.ref a.f_are_lines)
  F_near_by_hand : Fun K "near_by_hand" "near_by_hand" st_near_by_hand a.f_near_by_hand a.d_near_by_hand
  b_near_by_hand : Binds K a.d_near_by_hand ["hands", "lines"] []
  g_near_by_hand : mg "near_by_hand" = some (.ref a.f_near_by_hand)
  F__law_cell_at : Fun K "_law_cell_at" "_law_cell_at" st__law_cell_at a.f__law_cell_at a.d__law_cell_at
  b__law_cell_at : Binds K a.d__law_cell_at ["_law_script", "_law_k"] []
  g__law_cell_at : mg "_law_cell_at" = some (.ref a.f__law_cell_at)
  F__law_digit : Fun K "_law_digit" "_law_digit" st__law_digit a.f__law_digit a.d__law_digit
  b__law_digit : Binds K a.d__law_digit ["_law_state", "_law_base"] []
  g__law_digit : mg "_law_digit" = some (.ref a.f__law_digit)
  F__law_web : Fun K "_law_web" "_law_web" st__law_web a.f__law_web a.d__law_web
  b__law_web : Binds K a.d__law_web ["_law_state"] []
  g__law_web : mg "_law_web" = some (.ref a.f__law_web)
  F__law_bad : Fun K "_law_bad" "_law_bad" st__law_bad a.f__law_bad a.d__law_bad
  b__law_bad : Binds K a.d__law_bad ["_law_hands", "_law_lines", "_law_state"] []
  g__law_bad : mg "_law_bad" = some (.ref a.f__law_bad)
  F__law_refused : Fun K "_law_refused" "_law_refused" st__law_refused a.f__law_refused a.d__law_refused
  b__law_refused : Binds K a.d__law_refused ["_law_hands", "_law_lines"] []
  g__law_refused : mg "_law_refused" = some (.ref a.f__law_refused)
  F_law : Fun K "law" "law" st_law a.f_law a.d_law
  b_law : Binds K a.d_law ["_law_script"] []
  b0_law : ∀ (s : Shared) (u : Value), BindsTo s a.d_law ⟨[u], []⟩ [("_law_script", u)]
  g_law : mg "law" = some (.ref a.f_law)
  F_Web___init__ : Fun K "__init__" "Web.__init__" st_Web___init__ a.f_Web___init__ a.d_Web___init__
  b_Web___init__ : Binds K a.d_Web___init__ ["self", "hands", "lines"] []
  F_Web_hands : Fun K "hands" "Web.hands" st_Web_hands a.f_Web_hands a.d_Web_hands
  b_Web_hands : Binds K a.d_Web_hands ["self"] []
  mt_Web_hands : Meth K a.c_Web "hands" a.f_Web_hands
  F_Web_lines : Fun K "lines" "Web.lines" st_Web_lines a.f_Web_lines a.d_Web_lines
  b_Web_lines : Binds K a.d_Web_lines ["self"] []
  mt_Web_lines : Meth K a.c_Web "lines" a.f_Web_lines
  g_Web : mg "Web" = some (.ref a.c_Web)
  cl_Web : Cls K a.c_Web
  mk_Web : Mk K a.c_Web a.f_Web___init__
  ty_Web : ∀ (H : Hp) (p dx : Addr) (fs : List (Str × V)), H p = some (.ins a.c_Web dx fs) → TyOf K H (.ref p) (.ref a.c_Web)
  na_Web_own_hands : NoAttr K a.c_Web "own_hands"
  na_Web_own_lines : NoAttr K a.c_Web "own_lines"
  na_Web_near : NoAttr K a.c_Web "near"
  k_tint_tint : PySem.W.kitOne K (.type "int") (.type "int") = some true
  k_tint_tbool : PySem.W.kitOne K (.type "int") (.type "bool") = some false
  k_tbool_tint : PySem.W.kitOne K (.type "bool") (.type "int") = some true
  k_tbool_tbool : PySem.W.kitOne K (.type "bool") (.type "bool") = some true
  k_tstr_tint : PySem.W.kitOne K (.type "str") (.type "int") = some false
  k_tstr_tlist : PySem.W.kitOne K (.type "str") (.type "list") = some false
  k_tNoneType_tint : PySem.W.kitOne K (.type "NoneType") (.type "int") = some false
  k_tNoneType_tlist : PySem.W.kitOne K (.type "NoneType") (.type "list") = some false
  k_tNoneType_ttuple : PySem.W.kitOne K (.type "NoneType") (.type "tuple") = some false
  k_tlist_tlist : PySem.W.kitOne K (.type "list") (.type "list") = some true
  k_tlist_ttuple : PySem.W.kitOne K (.type "list") (.type "tuple") = some false
  k_ttuple_tlist : PySem.W.kitOne K (.type "tuple") (.type "list") = some false
  k_ttuple_ttuple : PySem.W.kitOne K (.type "tuple") (.type "tuple") = some true
  k_NoWeb_NoHand : PySem.W.kitOne K (.ref a.c_NoWeb) (.ref a.c_NoHand) = some false
  k_NoWeb_NoLine : PySem.W.kitOne K (.ref a.c_NoWeb) (.ref a.c_NoLine) = some false
  k_NoWeb_NoWay : PySem.W.kitOne K (.ref a.c_NoWeb) (.ref a.c_NoWay) = some false
  k_NoWeb_NoProgram : PySem.W.kitOne K (.ref a.c_NoWeb) (.ref a.c_NoProgram) = some false
  k_NoWeb_BeatlessError : PySem.W.kitOne K (.ref a.c_NoWeb) (.ref a.c_BeatlessError) = some true
  k_NoWeb_tValueError : PySem.W.kitOne K (.ref a.c_NoWeb) (.type "ValueError") = some true
  g_MOST_HANDS : mg "MOST_HANDS" = some (.int 12 a.t_MOST_HANDS)
  g_LAST_HAND : mg "LAST_HAND" = some (.int 99 a.t_LAST_HAND)
  g_NoWeb : mg "NoWeb" = some (.ref a.c_NoWeb)
  xc_NoWeb : XCls K a.c_NoWeb
  g_NoHand : mg "NoHand" = some (.ref a.c_NoHand)
  g_NoLine : mg "NoLine" = some (.ref a.c_NoLine)
  g_NoWay : mg "NoWay" = some (.ref a.c_NoWay)
  g_NoProgram : mg "NoProgram" = some (.ref a.c_NoProgram)
  g_BeatlessError : mg "BeatlessError" = some (.ref a.c_BeatlessError)
  xi_NoWeb : XIs K a.c_NoWeb
end K04

/-! K02b -/
set_option Elab.async false
set_option linter.all false
set_option maxRecDepth 100000
set_option maxHeartbeats 4000000
namespace K04
open PySem L2
section
variable {P : Program} {w : World} {K : PySem.W.Frag} {mg : Str → Option Value} {base : Heap} {a : Ad}
def spDigit : Sp := fun vs H Q _ => ∃ (l : Addr) (n : Int), vs = [.ref l, .int n] ∧ StAt H l ∧ 0 < n ∧ n.natAbs.log2 < 9000 ∧ ∀ (d : Int) (H' : Hp), 0 ≤ d → d < n → StAt H' l → Ext l H H' → Q (.int d) H'
theorem ok_digit (T : Txt K mg a) : FnOk P w K mg base CX0 1 a.f__law_digit a.d__law_digit ["_law_state", "_law_base"] spDigit := by
  refine T.F__law_digit.ok sc__law_digit (fun vs H Q E h => ?_) (fun cdv A outer s H vs Q E hr h => ?_)
  · obtain ⟨l, n, rfl, _⟩ := h
    rfl
  · obtain ⟨l, n, rfl, ⟨st, hst, ok⟩, hn, hlog, k⟩ := h
    refine bx_in (w_pss_cut (w_ps_if (w_pt_cmpR op_eq (w_pe_callB call_len_seq (by rfl) T.n_len bt_len (w_pa_N (w_pv 0) w_pa_nil)) w_pe_int (nomark _))
        (w_pss_cons (w_ps_set (i := 2) sc__law_digit.nd rfl (Or.inl rfl) (w_pe_ix ix_list (w_pv 0) w_pe_int (fun _ _ => rfl)))
        (w_pss_cons (w_ps_asg (w_pe_op op_mul (w_pv 2) (w_pe_callTy call_int1 (by rfl) T.n_int bt_int (w_pa_cons (w_pe_cmpR op_ge (w_pv 2) (w_pe_op op_pow w_pe_int w_pe_int) (nomark _)) w_pa_nil))) (w_pg_sub (w_pv 0) w_pe_int set_list))
        (w_pss_one (w_ps_expr (w_pe_bm PySem.F.plainAttrs_list PySem.F.slot_list_extend PySem.F.type_list_extend mt_extend (w_pv 0) (w_pa_cons (w_pe_lst (w_pa_B (w_pe_op op_mod (w_pv 2) w_pe_int) (w_pa_C w_pe_int w_pa_nil))) w_pa_nil))))))
        w_pss_nil)
      (w_pss_cons (w_ps_if (w_pt_cmpR op_gt (w_pe_ix ix_list (w_pv 0) w_pe_int (fun _ _ => rfl)) w_pe_int (nomark _))
        (w_pss_cons (w_ps_set (i := 3) sc__law_digit.nd rfl (Or.inl rfl) (w_pe_op op_mod (w_pe_ix ix_list (w_pv 0) w_pe_int (fun _ _ => rfl)) (w_pv 1)))
        (w_pss_cons (w_ps_asg (w_pe_op op_fdivG (w_pe_ix ix_list (w_pv 0) w_pe_int (fun _ _ => rfl)) (w_pv 1)) (w_pg_sub (w_pv 0) w_pe_int set_list))
        (w_pss_one (w_ps_ret (w_pv 3)))))
        w_pss_nil)
      (w_pss_cons (w_ps_asg (w_pe_op op_add (w_pe_ix ix_list (w_pv 0) w_pe_int (fun _ _ => rfl)) w_pe_int) (w_pg_sub (w_pv 0) w_pe_int set_list))
      (w_pss_cons (w_ps_set (i := 4) sc__law_digit.nd rfl (Or.inl rfl) (w_pe_op op_mod (w_pe_op op_mul (w_pe_op op_add (w_pe_op op_add (w_pe_ix ix_list (w_pv 0) w_pe_int (fun _ _ => rfl)) (w_pe_op op_mul w_pe_int (w_pe_ix ix_list (w_pv 0) w_pe_int (fun _ _ => rfl)))) w_pe_int) w_pe_int) w_pe_int))
      (w_pss_cons (w_ps_set (i := 4) sc__law_digit.nd rfl (Or.inl rfl) (w_pe_op op_mod (w_pe_op op_mul (w_pv 4) (w_pe_op op_add (w_pe_op op_fdivG (w_pv 4) w_pe_int) w_pe_int)) w_pe_int))
      (w_pss_one (w_ps_ret (w_pe_op op_mod (w_pe_op op_mod (w_pe_op op_mul (w_pv 4) (w_pe_op op_add (w_pe_op op_fdivG (w_pv 4) w_pe_int) w_pe_int)) w_pe_int) (w_pv 1))))))))) ?_
    refine ⟨fun σ' H' => ∃ (c0 : Option V) (x y z : Int), σ' = [some (.ref l), some (.int n), c0, none, none] ∧ H' l = some (.lst [.int x, .int y, .int z]) ∧ Ext l H H', ?_, ?_⟩
    · -- if len(_law_state) == 1:
      refine ⟨_, rfl, l, st, rfl, .inl (SqL.of hst), rfl, _, rfl, ?_⟩
      rcases ok with ⟨x, rfl⟩ | ⟨x, y, z, rfl⟩
      · refine iteB rfl ?_
        refine ⟨_, rfl, l, _, 0, _, rfl, rfl, SqL.of hst, rfl, _, rfl, _, rfl, _, _, rfl, rfl, ⟨by decide, by decide, by decide⟩, _, _, rfl, rfl, .inr ⟨_, rfl, _, _, rfl, rfl, .inr (b01 _), _, rfl, l, _, 0, 0, rfl, rfl, hst, rfl, ?_⟩⟩
        · refine ⟨_, rfl, .inl ⟨rfl, _, SqL.of upd_same⟩, _, rfl, _, _, rfl, rfl, (by show (0 : Int) < 2147483647; decide), (by show 2 ≤ sizeLine; decide), fun p hp => ?_⟩
          have hpl : p ≠ l := by
            intro z
            rw [z, upd_same] at hp
            cases hp
          have hp0 : H p = none := by rw [upd_ne hpl] at hp; exact hp
          refine ⟨l, p, [_], [_, _], rfl, rfl, (upd_ne hpl.symm).trans upd_same, upd_same, (by show 1 + 2 ≤ sizeLine; decide), ?_⟩
          refine ⟨_, _, _, _, rfl, upd_same, fun b o e nb => ?_⟩
          rw [upd_ne nb, upd_ne (ne_of_none e hp0), upd_ne nb]
          exact e
      · refine iteN rfl ?_
        exact ⟨none, x, y, z, rfl, hst, Ext.refl⟩
    · rintro σ' H1 ⟨c0, x, y, z, rfl, hst, hx⟩
      -- if _law_state[0] > 0:
      refine ⟨_, rfl, l, _, 0, _, rfl, rfl, SqL.of hst, rfl, _, _, rfl, rfl, _, rfl, ?_⟩
      refine ite2 (fun q => ?_) (fun q => ?_)
      · refine ⟨_, rfl, l, _, 0, _, rfl, rfl, SqL.of hst, rfl, _, rfl, _, _, rfl, rfl, hn, _, rfl, l, _, 0, _, rfl, rfl, SqL.of hst, rfl, _, rfl, _, _, rfl, rfl, ⟨hn, hlog⟩, _, rfl, l, _, 0, 0, rfl, rfl, hst, rfl, _, rfl, ?_⟩
        exact k _ _ (Int.emod_nonneg _ (Int.ne_of_gt hn)) (Int.emod_lt_of_pos _ hn) ⟨_, upd_same, .inr ⟨_, _, _, rfl⟩⟩ (hx.trans Ext.at)
      · refine ⟨_, rfl, l, _, 2, _, rfl, rfl, SqL.of hst, rfl, _, _, rfl, rfl, _, rfl, l, _, 2, 2, rfl, rfl, hst, rfl, ?_⟩
        refine ⟨_, rfl, l, _, 1, _, rfl, rfl, SqL.of upd_same, rfl, _, rfl, l, _, 2, _, rfl, rfl, SqL.of upd_same, rfl, _, _, rfl, rfl, .inl ⟨by decide, by decide⟩, _, _, rfl, rfl, _, _, rfl, rfl, _, _, rfl, rfl, .inr ⟨by decide, by decide⟩, _, _, rfl, rfl, (by show (0 : Int) < 2147483647; decide), ?_⟩
        generalize hv : (y + 7919 * (z + 1) + 1) * 48271 % 2147483647 = v
        have v1 : 0 ≤ v := by rw [← hv]; exact Int.emod_nonneg _ (by decide)
        have v2 : v < 2147483647 := by rw [← hv]; exact Int.emod_lt_of_pos _ (by decide)
        refine ⟨_, rfl, _, rfl, _, _, rfl, rfl, ⟨by show (0 : Int) < 1009; decide, log_1009⟩, _, _, rfl, rfl, _, _, rfl, rfl, .inl ⟨by omega, by omega⟩, _, _, rfl, rfl, (by show (0 : Int) < 2147483647; decide), ?_⟩
        generalize hu : v * (v / 1009 + 69621) % 2147483647 = u
        have u1 : 0 ≤ u := by rw [← hu]; exact Int.emod_nonneg _ (by decide)
        have u2 : u < 2147483647 := by rw [← hu]; exact Int.emod_lt_of_pos _ (by decide)
        refine ⟨_, rfl, _, rfl, _, _, rfl, rfl, ⟨by show (0 : Int) < 2003; decide, log_2003⟩, _, _, rfl, rfl, _, _, rfl, rfl, .inl ⟨by omega, by omega⟩, _, _, rfl, rfl, (by show (0 : Int) < 2147483399; decide), _, rfl, _, _, rfl, rfl, hn, ?_⟩
        exact k _ _ (Int.emod_nonneg _ (Int.ne_of_gt hn)) (Int.emod_lt_of_pos _ hn) ⟨_, upd_same, .inr ⟨_, _, _, rfl⟩⟩ (hx.trans Ext.at)
def spCell (K : PySem.W.Frag) : Sp := fun vs H Q _ => ∃ (l : Addr) (ns : List Int) (k : Int), vs = [.ref l, .int k] ∧ SqL K H l (ns.map V.int) ∧ 0 ≤ k ∧ ∀ i : Int, Q (.int i) H
theorem ok_cell (T : Txt K mg a) : FnOk P w K mg base CX0 1 a.f__law_cell_at a.d__law_cell_at ["_law_script", "_law_k"] (spCell K) := by
  refine T.F__law_cell_at.ok sc__law_cell_at (fun vs H Q E h => ?_) (fun cdv A outer s H vs Q E hr h => ?_)
  · obtain ⟨l, ns, k, rfl, _⟩ := h
    rfl
  · obtain ⟨l, ns, k, rfl, hl, k0, q⟩ := h
    refine bx_in (w_pss_cons (w_ps_if (w_pt_cmpR op_lt (w_pv 1) (w_pe_callB call_len_seq (by rfl) T.n_len bt_len (w_pa_N (w_pv 0) w_pa_nil)) (nomark _))
        (w_pss_one (w_ps_ret (w_pe_ix ix_list (w_pv 0) (w_pv 1) (fun _ _ => rfl))))
        w_pss_nil)
      (w_pss_one (w_ps_ret w_pe_int))) ?_
    refine ⟨_, rfl, _, rfl, l, _, rfl, .inl hl, _, _, rfl, rfl, _, rfl, ?_⟩
    rw [List.length_map]
    refine ite2 (fun z => ?_) (fun z => ?_)
    · have z : k < ns.length := of_decide_eq_true z
      obtain ⟨n, rfl⟩ : ∃ n : Nat, k = n := ⟨k.toNat, by omega⟩
      have hn : n < ns.length := by omega
      refine ⟨_, rfl, _, rfl, l, _, _, V.int ns[n], rfl, rfl, hl, atI_nat (by simp [hn]), ?_⟩
      exact q _
    · exact q 0
end
end K04

/-! K02c -/
set_option Elab.async false
set_option linter.all false
set_option maxRecDepth 100000
set_option maxHeartbeats 4000000
namespace K04
open PySem L2
def LnAt (H : Hp) (rs : List V) (ls : List (Int × Int)) : Prop := rs.length = ls.length ∧ ∀ (i : Nat) r p, rs[i]? = some r → ls[i]? = some p → ∃ q, r = .ref q ∧ H q = some (.tup [.int p.1, .int p.2])
theorem LnAt.same {H H' : Hp} {rs : List V} {ls : List (Int × Int)} (h : LnAt H rs ls) (s : Same H H') : LnAt H' rs ls := ⟨h.1, fun i r p h1 h2 => by
  obtain ⟨q, e, t⟩ := h.2 i r p h1 h2
  exact ⟨q, e, s _ _ t⟩⟩
theorem LnAt.get {H : Hp} {rs : List V} {ls : List (Int × Int)} (h : LnAt H rs ls) {i : Nat} {r : V} (e : rs[i]? = some r) : ∃ p q, ls[i]? = some p ∧ r = .ref q ∧ H q = some (.tup [.int p.1, .int p.2]) := by
  have hi : i < ls.length := by rw [← h.1]; exact (List.getElem?_eq_some_iff.mp e).1
  have hp : ls[i]? = some ls[i] := by simp [hi]
  obtain ⟨q, e1, e2⟩ := h.2 i r _ e hp
  exact ⟨_, q, hp, e1, e2⟩
theorem inV_int {x : Int} : ∀ {ns : List Int}, inV (.int x) (ns.map V.int) = decide (x ∈ ns)
  | [] => by simp [inV]
  | n :: ns => by
    have ih := inV_int (x := x) (ns := ns)
    unfold inV at ih ⊢
    rw [List.map_cons, List.any_cons, ih]
    show ((n == x) || decide (x ∈ ns)) = decide (x ∈ n :: ns)
    by_cases e : n = x
    · simp [e]
    · have e' : ¬ x = n := fun z => e z.symm
      simp [e, e']
theorem flat_ints (ns : List Int) : (ns.map V.int).all flatV = true := by
  rw [List.all_eq_true]
  intro v hv
  obtain ⟨x, _, rfl⟩ := List.mem_map.mp hv
  rfl
inductive HD where
  | lst (xs : List V)
  | oth
inductive LD where
  | tup (xs : List V)
  | oth
inductive LsD where
  | lst (ds : List LD)
  | oth
def IsH (H : Hp) (v : V) : HD → Prop
  | .lst xs => ∃ h, v = .ref h ∧ H h = some (.lst xs) ∧ xs.all flatV = true
  | .oth => v = .non ∨ (∃ x, v = .str x) ∨ ∃ q xs, v = .ref q ∧ H q = some (.tup xs)
def IsL (H : Hp) (r : V) : LD → Prop
  | .tup xs => ∃ q, r = .ref q ∧ H q = some (.tup xs) ∧ xs.all flatV = true
  | .oth => r = .non ∨ ∃ q xs, r = .ref q ∧ H q = some (.lst xs)
def IsLs (H : Hp) (u : V) : LsD → Prop
  | .lst ds => ∃ l rs, u = .ref l ∧ H l = some (.lst rs) ∧ Paired (IsL H) rs ds
  | .oth => u = .non ∨ ∃ q xs, u = .ref q ∧ H q = some (.tup xs)
theorem IsH.same {H H' : Hp} {v : V} {d : HD} (h : IsH H v d) (s : Same H H') : IsH H' v d := by
  cases d with
  | lst xs => obtain ⟨p, e, hp, f⟩ := h; exact ⟨p, e, s _ _ hp, f⟩
  | oth =>
    rcases h with h | h | ⟨q, xs, e, hq⟩
    · exact .inl h
    · exact .inr (.inl h)
    · exact .inr (.inr ⟨q, xs, e, s _ _ hq⟩)
theorem IsL.same {H H' : Hp} {v : V} {d : LD} (h : IsL H v d) (s : Same H H') : IsL H' v d := by
  cases d with
  | tup xs => obtain ⟨p, e, hp, f⟩ := h; exact ⟨p, e, s _ _ hp, f⟩
  | oth =>
    rcases h with h | ⟨q, xs, e, hq⟩
    · exact .inl h
    · exact .inr ⟨q, xs, e, s _ _ hq⟩
theorem IsLs.same {H H' : Hp} {v : V} {d : LsD} (h : IsLs H v d) (s : Same H H') : IsLs H' v d := by
  cases d with
  | lst ds => obtain ⟨l, rs, e, hl, f⟩ := h; exact ⟨l, rs, e, s _ _ hl, L2.Paired.imp' (fun _ _ z => z.same s) f⟩
  | oth =>
    rcases h with h | ⟨q, xs, e, hq⟩
    · exact .inl h
    · exact .inr ⟨q, xs, e, s _ _ hq⟩
theorem pget {α β : Type} {F : α → β → Prop} : ∀ {as : List α} {bs : List β}, Paired F as bs → ∀ {i : Nat} {x : α}, as[i]? = some x → ∃ y, bs[i]? = some y ∧ F x y
  | _, _, .nil, i, x, e => by simp at e
  | _, _, .cons h t, 0, x, e => by
    simp at e
    subst e
    exact ⟨_, rfl, h⟩
  | _, _, .cons h t, i + 1, x, e => by
    obtain ⟨y, hy, f⟩ := pget t (i := i) (x := x) (by simpa using e)
    exact ⟨y, by simpa using hy, f⟩
def wholeV : V → Bool
  | .int _ => true
  | _ => false
def upFrom : Int → List V → Bool
  | _, [] => true
  | m, .int i :: r => decide (m < i) && (decide (i ≤ 99) && upFrom i r)
  | _, _ :: _ => false
def handsB (xs : List V) : Bool := decide (1 ≤ xs.length) && (decide (xs.length ≤ 12) && upFrom (-1) xs)
def intsOf (xs : List V) : List Int := xs.filterMap fun v => match v with | .int i => some i | _ => none
theorem intsOf_map (hs : List Int) : intsOf (hs.map V.int) = hs := by
  induction hs with
  | nil => rfl
  | cons h t ih => unfold intsOf at ih ⊢; rw [List.map_cons, List.filterMap_cons]; simp [ih]
def okP (hs : List Int) (p : Int × Int) : Bool := decide (p.1 ∈ hs) && (decide (p.2 ∈ hs) && decide (p.1 < p.2))
def pairOf : LD → Option (Int × Int)
  | .tup [.int x, .int y] => some (x, y)
  | _ => none
def lineB (hs : List Int) (d : LD) : Bool := match pairOf d with | some p => okP hs p | none => false
def linesB (hs : List Int) : List (Int × Int) → List LD → Bool
  | _, [] => true
  | seen, d :: ds => match pairOf d with | some p => okP hs p && (!decide (p ∈ seen) && linesB hs (seen ++ [p]) ds) | none => false
def webB : HD → LsD → Bool
  | .lst xs, .lst ds => handsB xs && linesB (intsOf xs) [] ds
  | _, _ => false
section
variable {P : Program} {w : World} {K : PySem.W.Frag} {mg : Str → Option Value} {base : Heap} {a : Ad}
def spWhole : Sp := fun vs H Q _ => ∃ v, vs = [v] ∧ flatV v = true ∧ Q (.bl (wholeV v)) H
theorem ok_whole (T : Txt K mg a) : FnOk P w K mg base CX0 1 a.f_is_whole a.d_is_whole ["value"] spWhole := by
  refine T.F_is_whole.ok sc_is_whole (fun vs H Q E h => ?_) (fun cdv A outer s H vs Q E hr h => ?_)
  · obtain ⟨i, rfl, _⟩ := h
    rfl
  · obtain ⟨v, rfl, hf, k⟩ := h
    refine bx_in (w_pss_one (w_ps_ret (w_pe_and (w_pe_callB call_isi (by rfl) T.n_isinstance bt_isinstance (w_pa_N (w_pv 0) (w_pa_N (w_pe_bty T.n_int bt_int) w_pa_nil))) (w_pe_one (w_pe_not (w_pe_callB call_isi (by rfl) T.n_isinstance bt_isinstance (w_pa_N (w_pv 0) (w_pa_N (w_pe_bty T.n_bool bt_bool) w_pa_nil)))))))) ?_
    cases v with
    | int i =>
      refine ⟨_, rfl, _, _, _, _, _, rfl, rfl, .int i, T.k_tint_tint, _, rfl, iteT ?_⟩
      exact ⟨_, rfl, _, _, _, _, _, rfl, rfl, .int i, T.k_tint_tbool, _, rfl, k⟩
    | bl b =>
      refine ⟨_, rfl, _, _, _, _, _, rfl, rfl, .bl b, T.k_tbool_tint, _, rfl, iteT ?_⟩
      exact ⟨_, rfl, _, _, _, _, _, rfl, rfl, .bl b, T.k_tbool_tbool, _, rfl, k⟩
    | str x => exact ⟨_, rfl, _, _, _, _, _, rfl, rfl, .str x, T.k_tstr_tint, _, rfl, iteF k⟩
    | non => exact ⟨_, rfl, _, _, _, _, _, rfl, rfl, .non, T.k_tNoneType_tint, _, rfl, iteF k⟩
    | byt _ => cases hf
    | flt _ => cases hf
    | ref _ => cases hf
    | ty _ => cases hf
def hdB : HD → Bool
  | .lst xs => handsB xs
  | .oth => false
def spHands : Sp := fun vs H Q _ => ∃ v d, vs = [v] ∧ IsH H v d ∧ Q (.bl (hdB d)) H
theorem ok_hands (T : Txt K mg a) : FnOk P w K mg base CX0 2 a.f_are_hands a.d_are_hands ["hands"] spHands := by
  have c_is_whole : Callee P w K mg base "is_whole" a.f_is_whole a.d_is_whole ["value"] 1 spWhole := ⟨ok_whole T, T.g_is_whole, T.F_is_whole.kp, T.b_is_whole⟩
  refine T.F_are_hands.ok sc_are_hands (fun vs H Q E h => ?_) (fun cdv A outer s H vs Q E hr h => ?_)
  · obtain ⟨h, hs, rfl, _⟩ := h
    rfl
  · obtain ⟨v, d, rfl, hv, k⟩ := h
    refine bx_in (w_pss_cons (w_ps_if (w_pt (w_pw_or (w_pt_not (w_pt_val (w_pe_callB call_isi (by rfl) T.n_isinstance bt_isinstance (w_pa_N (w_pv 0) (w_pa_N (w_pe_bty T.n_list bt_list) w_pa_nil))))) (w_pw_or (w_pt_cmpR op_lt (w_pe_callB call_len_seq (by rfl) T.n_len bt_len (w_pa_N (w_pv 0) w_pa_nil)) w_pe_int (nomark _)) (w_pw_or1 (w_pt_cmpR op_gt (w_pe_callB call_len_seq (by rfl) T.n_len bt_len (w_pa_N (w_pv 0) w_pa_nil)) (w_pe_glob (v := .int 12) rfl T.g_MOST_HANDS ⟨_, rfl⟩) (nomark _))))))
        (w_pss_one (w_ps_ret w_pe_bl))
        w_pss_nil)
      (w_pss_cons (w_ps_set (i := 1) sc_are_hands.nd rfl (Or.inl rfl) (w_pe_un un_neg w_pe_int))
      (w_pss_cons (w_ps_for PassesOwn.never rfl (w_pi_list (w_pv 0)) (w_pg_name (i := 2) sc_are_hands.nd rfl (Or.inl rfl))
        (w_pss_cons (w_ps_if (w_pt (w_pw_or (w_pt_not (w_pt_val (w_pe_c c_is_whole (hr.mono (by omega)) (w_pa_N (w_pv 2) w_pa_nil)))) (w_pw_or (w_pt_cmpR op_le (w_pv 2) (w_pv 1) (nomark _)) (w_pw_or1 (w_pt_cmpR op_gt (w_pv 2) (w_pe_glob (v := .int 99) rfl T.g_LAST_HAND ⟨_, rfl⟩) (nomark _))))))
          (w_pss_one (w_ps_ret w_pe_bl))
          w_pss_nil)
        (w_pss_one (w_ps_set (i := 1) sc_are_hands.nd rfl (Or.inl rfl) (w_pv 2)))))
      (w_pss_one (w_ps_ret w_pe_bl))))) ?_
    cases d with
    | oth =>
      rcases hv with rfl | ⟨x, rfl⟩ | ⟨q, xs, rfl, hq⟩
      · exact ⟨_, rfl, _, _, _, _, _, rfl, rfl, .non, T.k_tNoneType_tlist, _, rfl, iteT k⟩
      · exact ⟨_, rfl, _, _, _, _, _, rfl, rfl, .str x, T.k_tstr_tlist, _, rfl, iteT k⟩
      · exact ⟨_, rfl, _, _, _, _, _, rfl, rfl, .tup hq, T.k_ttuple_tlist, _, rfl, iteT k⟩
    | lst xs =>
    obtain ⟨h, rfl, hh, hf⟩ := hv
    have k : Q (.bl (handsB xs)) H := k
    refine ⟨_, rfl, _, _, _, _, _, rfl, rfl, .lst hh, T.k_tlist_tlist, _, rfl, iteN rfl ?_⟩
    by_cases l1 : 1 ≤ xs.length
    case neg =>
      refine ⟨_, rfl, h, _, rfl, .inl (SqL.of hh), _, _, rfl, rfl, _, rfl, iteB (decide_eq_true (by omega)) ?_⟩
      rw [show handsB xs = false by unfold handsB; rw [decide_eq_false l1]; rfl] at k
      exact k
    refine ⟨_, rfl, h, _, rfl, .inl (SqL.of hh), _, _, rfl, rfl, _, rfl, iteN (decide_eq_false (by omega)) ?_⟩
    by_cases l12 : xs.length ≤ 12
    case neg =>
      refine ⟨_, rfl, h, _, rfl, .inl (SqL.of hh), _, _, rfl, rfl, _, rfl, iteB (decide_eq_true (by omega)) ?_⟩
      rw [show handsB xs = false by unfold handsB; rw [decide_eq_false l12]; simp] at k
      exact k
    refine ⟨_, rfl, h, _, rfl, .inl (SqL.of hh), _, _, rfl, rfl, _, rfl, iteN (decide_eq_false (by omega)) ?_⟩
    rw [show handsB xs = upFrom (-1) xs by unfold handsB; rw [decide_eq_true l1, decide_eq_true l12]; rfl] at k
    refine ⟨1, rfl, _, rfl, h, rfl, ⟨_, SqL.of hh⟩, ?_⟩
    refine for_list (K := K) (a := h) (xs := xs) (fun i σ H' => H' = H ∧ ∃ (m : Int) (o : Option V), σ = [some (.ref h), some (.int m), o] ∧ upFrom (-1) xs = upFrom m (xs.drop i)) ?_ ?_ ?_ ?_
    · exact ⟨rfl, -1, none, rfl, rfl⟩
    · rintro i σ H' _ ⟨rfl, _⟩
      exact SqL.of hh
    · rintro i x σ H' hi ⟨rfl, m, o, rfl, hm⟩
      have ed : xs.drop i = x :: xs.drop (i + 1) := by
        obtain ⟨hi', e⟩ := List.getElem?_eq_some_iff.mp hi
        rw [List.drop_eq_getElem_cons hi', e]
      rw [ed] at hm
      have fx : flatV x = true := List.all_eq_true.mp hf x (List.mem_of_getElem? hi)
      refine ⟨_, rfl, x, rfl, fx, _, rfl, ?_⟩
      cases x with
      | int y =>
        refine iteN rfl ?_
        by_cases c1 : m < y
        case neg =>
          refine ⟨_, rfl, _, rfl, _, _, rfl, rfl, _, rfl, iteB (decide_eq_true (by omega)) ?_⟩
          rw [hm, show upFrom m (.int y :: xs.drop (i + 1)) = false by unfold upFrom; rw [decide_eq_false c1]; rfl] at k
          exact k
        refine ⟨_, rfl, _, rfl, _, _, rfl, rfl, _, rfl, iteN (decide_eq_false (by omega)) ?_⟩
        by_cases c2 : y ≤ 99
        case neg =>
          refine ⟨_, rfl, _, _, rfl, rfl, _, rfl, iteB (decide_eq_true (by omega)) ?_⟩
          rw [hm, show upFrom m (.int y :: xs.drop (i + 1)) = false by unfold upFrom; rw [decide_eq_false c2]; simp] at k
          exact k
        refine ⟨_, rfl, _, _, rfl, rfl, _, rfl, iteN (decide_eq_false (by omega)) ?_⟩
        refine ⟨_, rfl, rfl, y, _, rfl, ?_⟩
        rw [hm]
        show (decide (m < y) && (decide (y ≤ 99) && upFrom y (xs.drop (i + 1)))) = _
        rw [decide_eq_true c1, decide_eq_true c2]
        rfl
      | bl b => rw [hm] at k; exact iteT k
      | str b => rw [hm] at k; exact iteT k
      | non => rw [hm] at k; exact iteT k
      | byt _ => cases fx
      | flt _ => cases fx
      | ref _ => cases fx
      | ty _ => cases fx
    · rintro σ H' ⟨rfl, m, o, rfl, hm⟩
      rw [hm, List.drop_length] at k
      exact k
def spLine : Sp := fun vs H Q _ => ∃ (v : V) (d : LD) (h : Addr) (hs : List Int), vs = [v, .ref h] ∧ IsL H v d ∧ H h = some (.lst (hs.map V.int)) ∧ Q (.bl (lineB hs d)) H
theorem ok_line (T : Txt K mg a) : FnOk P w K mg base CX0 2 a.f_is_line a.d_is_line ["line", "hands"] spLine := by
  have c_is_whole : Callee P w K mg base "is_whole" a.f_is_whole a.d_is_whole ["value"] 1 spWhole := ⟨ok_whole T, T.g_is_whole, T.F_is_whole.kp, T.b_is_whole⟩
  refine T.F_is_line.ok sc_is_line (fun vs H Q E h => ?_) (fun cdv A outer s H vs Q E hr h => ?_)
  · obtain ⟨v, d, h, hs, rfl, _⟩ := h
    rfl
  · obtain ⟨v, d, h, hs, rfl, hv, hh, k⟩ := h
    refine bx_in (w_pss_cons (w_ps_if (w_pt (w_pw_or (w_pt_not (w_pt_val (w_pe_callB call_isi (by rfl) T.n_isinstance bt_isinstance (w_pa_N (w_pv 0) (w_pa_N (w_pe_bty T.n_tuple bt_tuple) w_pa_nil))))) (w_pw_or1 (w_pt_cmpR op_ne (w_pe_callB call_len_seq (by rfl) T.n_len bt_len (w_pa_N (w_pv 0) w_pa_nil)) w_pe_int (nomark _)))))
        (w_pss_one (w_ps_ret w_pe_bl))
        w_pss_nil)
      (w_pss_cons (w_ps_if (w_pt (w_pw_or (w_pt_not (w_pt_val (w_pe_c c_is_whole (hr.mono (by omega)) (w_pa_cons (w_pe_ix ix_tup (w_pv 0) w_pe_int (fun _ _ => rfl)) w_pa_nil)))) (w_pw_or1 (w_pt_not (w_pt_val (w_pe_c c_is_whole (hr.mono (by omega)) (w_pa_cons (w_pe_ix ix_tup (w_pv 0) w_pe_int (fun _ _ => rfl)) w_pa_nil)))))))
        (w_pss_one (w_ps_ret w_pe_bl))
        w_pss_nil)
      (w_pss_one (w_ps_ret (w_pe_and (w_pe_cmpR op_in_seq (w_pe_ix ix_tup (w_pv 0) w_pe_int (fun _ _ => rfl)) (w_pv 1) (by with_unfolding_all rfl)) (w_pe_and (w_pe_cmpR op_in_seq (w_pe_ix ix_tup (w_pv 0) w_pe_int (fun _ _ => rfl)) (w_pv 1) (by with_unfolding_all rfl)) (w_pe_one (w_pe_cmpR op_lt (w_pe_ix ix_tup (w_pv 0) w_pe_int (fun _ _ => rfl)) (w_pe_ix ix_tup (w_pv 0) w_pe_int (fun _ _ => rfl)) (nomark _))))))))) ?_
    cases d with
    | oth =>
      have k : Q (.bl false) H := k
      rcases hv with rfl | ⟨q, xs, rfl, hq⟩
      · exact ⟨_, rfl, _, _, _, _, _, rfl, rfl, .non, T.k_tNoneType_ttuple, _, rfl, iteT k⟩
      · exact ⟨_, rfl, _, _, _, _, _, rfl, rfl, .lst hq, T.k_tlist_ttuple, _, rfl, iteT k⟩
    | tup xs =>
    obtain ⟨q, rfl, hq, hf⟩ := hv
    refine ⟨_, rfl, _, _, _, _, _, rfl, rfl, .tup hq, T.k_ttuple_ttuple, _, rfl, iteN rfl ?_⟩
    refine ⟨_, rfl, q, _, rfl, .inr (SqT.of hq), rfl, _, rfl, ?_⟩
    match xs, hf, hq, k with
    | [], _, _, k => exact iteB rfl k
    | [_], _, _, k => exact iteB rfl (by cases ‹V› <;> exact k)
    | x :: y :: z :: r, _, _, k =>
      have ne : ¬ V.int ((x :: y :: z :: r).length : Int) = V.int 2 := fun e => by
        injection e with e
        simp at e
        omega
      refine iteB (by rw [decide_eq_false ne]; rfl) ?_
      cases x <;> cases y <;> exact k
    | [x, y], hf, hq, k =>
    refine iteN rfl ?_
    have f1 : flatV x = true := List.all_eq_true.mp hf x (by simp)
    have f2 : flatV y = true := List.all_eq_true.mp hf y (by simp)
    refine ⟨_, rfl, q, _, 0, _, rfl, rfl, SqT.of hq, rfl, x, rfl, f1, _, rfl, ?_⟩
    by_cases wx : wholeV x = true
    case neg =>
      refine iteB (by rw [Bool.not_eq_true] at wx; rw [wx]; rfl) ?_
      cases x <;> first | exact absurd rfl wx | (cases y <;> exact k)
    refine iteN (by rw [wx]; rfl) ?_
    refine ⟨_, rfl, q, _, 1, _, rfl, rfl, SqT.of hq, rfl, y, rfl, f2, _, rfl, ?_⟩
    by_cases wy : wholeV y = true
    case neg =>
      refine iteB (by rw [Bool.not_eq_true] at wy; rw [wy]; rfl) ?_
      cases y <;> first | exact absurd rfl wy | (cases x <;> exact k)
    refine iteN (by rw [wy]; rfl) ?_
    obtain ⟨x, rfl⟩ : ∃ i, x = .int i := by cases x <;> first | exact ⟨_, rfl⟩ | cases wx
    obtain ⟨y, rfl⟩ : ∃ i, y = .int i := by cases y <;> first | exact ⟨_, rfl⟩ | cases wy
    have k : Q (.bl (decide (x ∈ hs) && (decide (y ∈ hs) && decide (x < y)))) H := k
    refine ⟨_, rfl, q, _, 0, _, rfl, rfl, SqT.of hq, rfl, _, rfl, h, _, rfl, .inl (SqL.of hh), rfl, flat_ints hs, _, rfl, ?_⟩
    by_cases h1 : x ∈ hs
    case neg =>
      refine iteN (by show inV (.int x) _ = false; rw [inV_int]; exact decide_eq_false h1) ?_
      rw [decide_eq_false h1] at k
      exact k
    refine iteB (by show inV (.int x) _ = true; rw [inV_int]; exact decide_eq_true h1) ?_
    refine ⟨_, rfl, q, _, 1, _, rfl, rfl, SqT.of hq, rfl, _, rfl, h, _, rfl, .inl (SqL.of hh), rfl, flat_ints hs, _, rfl, ?_⟩
    rw [decide_eq_true h1] at k
    by_cases h2 : y ∈ hs
    case neg =>
      refine iteN (by show inV (.int y) _ = false; rw [inV_int]; exact decide_eq_false h2) ?_
      rw [decide_eq_false h2] at k
      exact k
    refine iteB (by show inV (.int y) _ = true; rw [inV_int]; exact decide_eq_true h2) ?_
    rw [decide_eq_true h2] at k
    exact ⟨_, rfl, q, _, 0, _, rfl, rfl, SqT.of hq, rfl, _, rfl, q, _, 1, _, rfl, rfl, SqT.of hq, rfl, _, _, rfl, rfl, k⟩
end
end K04

/-! K02d -/
set_option Elab.async false
set_option linter.all false
set_option maxRecDepth 100000
set_option maxHeartbeats 4000000
namespace K04
open PySem L2
section
variable {κ : Type} [DecidableEq κ]
theorem valV_some {kvs : List (κ × V)} {k : κ} : (valV kvs k).isSome = decide (k ∈ kvs.map (·.1)) := by
  rw [← valV_any]
  by_cases h : k ∈ kvs.map (·.1)
  · rw [decide_eq_true h, List.any_eq_true]
    obtain ⟨p, hp, rfl⟩ := List.mem_map.mp h
    exact ⟨p, hp, decide_eq_true rfl⟩
  · rw [decide_eq_false h, List.any_eq_false]
    intro p hp e
    exact h (List.mem_map.mpr ⟨p, hp, of_decide_eq_true e⟩)
theorem valV_yes {kvs : List (κ × V)} {k : κ} (h : k ∈ kvs.map (·.1)) : (valV kvs k).isSome = true := by rw [valV_some]; exact decide_eq_true h
theorem valV_no {kvs : List (κ × V)} {k : κ} (h : k ∉ kvs.map (·.1)) : (valV kvs k).isSome = false := by rw [valV_some]; exact decide_eq_false h
theorem putK_new {kvs : List (κ × V)} {k : κ} {v : V} (h : k ∉ kvs.map (·.1)) : putK kvs k v = kvs ++ [(k, v)] := by
  unfold putK
  rw [if_neg]
  rw [valV_any, valV_some, decide_eq_true_iff]
  exact h
end
theorem _root_.L2.Same.updF {p : Addr} {H H' : Hp} {o : HO} (x : Same H H') (h : H p = none) : Same H (L2.upd H' p o) := fun b u e => by
  rw [upd_ne (ne_of_none e h)]; exact x b u e
abbrev key2 (p : Int × Int) : List Key := [Sum.inl p.1, Sum.inl p.2]
theorem key2_inj {p q : Int × Int} (h : key2 p = key2 q) : p = q := by
  obtain ⟨a, b⟩ := p
  obtain ⟨c, d⟩ := q
  simp [key2] at h
  rw [h.1, h.2]
theorem nd_take {α : Type} {xs : List α} {i : Nat} {x : α} (h : xs.Nodup) (e : xs[i]? = some x) : x ∉ xs.take i := by
  intro m
  obtain ⟨j, hj, ej⟩ := List.getElem_of_mem m
  obtain ⟨hi, ei⟩ := List.getElem?_eq_some_iff.mp e
  rw [List.getElem_take] at ej
  rw [List.length_take] at hj
  have := (List.nodup_iff_pairwise_ne.mp h)
  exact List.pairwise_iff_getElem.mp this j i (by omega) hi (by omega) (ej.trans ei.symm)
section
variable {P : Program} {w : World} {K : PySem.W.Frag} {mg : Str → Option Value} {base : Heap} {a : Ad}
theorem pair_at {H : Hp} {r : V} {d : LD} {p : Int × Int} (h : IsL H r d) (e : pairOf d = some p) : ∃ q, r = .ref q ∧ H q = some (.tup [.int p.1, .int p.2]) := by
  unfold pairOf at e
  split at e
  · obtain ⟨q, e1, hq, _⟩ := h
    cases e
    exact ⟨q, e1, hq⟩
  · cases e
theorem lineB_of {hs : List Int} {d : LD} {p : Int × Int} (e : pairOf d = some p) : lineB hs d = okP hs p := by unfold lineB; rw [e]
theorem lineB_no {hs : List Int} {d : LD} (e : pairOf d = none) : lineB hs d = false := by unfold lineB; rw [e]
def ldB (hs : List Int) : LsD → Bool
  | .lst ds => linesB hs [] ds
  | .oth => false
def LsD.size : LsD → Nat
  | .lst ds => ds.length
  | .oth => 0
def spLines : Sp := fun vs H Q _ => ∃ (u : V) (h : Addr) (hs : List Int) (d : LsD), vs = [u, .ref h] ∧ IsLs H u d ∧ d.size ≤ 1000 ∧ H h = some (.lst (hs.map V.int)) ∧ ∀ H', Same H H' → Q (.bl (ldB hs d)) H'
theorem ok_lines (T : Txt K mg a) : FnOk P w K mg base CX0 3 a.f_are_lines a.d_are_lines ["lines", "hands"] spLines := by
  have c_is_line : Callee P w K mg base "is_line" a.f_is_line a.d_is_line ["line", "hands"] 2 spLine := ⟨ok_line T, T.g_is_line, T.F_is_line.kp, T.b_is_line⟩
  refine T.F_are_lines.ok sc_are_lines (fun vs H Q E h => ?_) (fun cdv A outer s H vs Q E hr h => ?_)
  · obtain ⟨u, h, hs, d, rfl, _⟩ := h
    rfl
  · obtain ⟨u, h, hs, d, rfl, hv, hz, hh, k⟩ := h
    have hu := hu_of hr
    refine bx_in (w_pss_cons (w_ps_if (w_pt_not (w_pt_val (w_pe_callB call_isi (by rfl) T.n_isinstance bt_isinstance (w_pa_N (w_pv 0) (w_pa_N (w_pe_bty T.n_list bt_list) w_pa_nil)))))
        (w_pss_one (w_ps_ret w_pe_bl))
        w_pss_nil)
      (w_pss_cons (w_ps_set (i := 2) sc_are_lines.nd rfl (Or.inl rfl) w_pe_dnewT)
      (w_pss_cons (w_ps_for PassesOwn.never rfl (w_pi_list (w_pv 0)) (w_pg_name (i := 3) sc_are_lines.nd rfl (Or.inl rfl))
        (w_pss_cons (w_ps_if (w_pt (w_pw_or (w_pt_not (w_pt_val (w_pe_c c_is_line (hr.mono (by omega)) (w_pa_N (w_pv 3) (w_pa_N (w_pv 1) w_pa_nil))))) (w_pw_or1 (w_pt_cmp (w_pc_din hu (w_pv 3) (w_pv 2))))))
          (w_pss_one (w_ps_ret w_pe_bl))
          w_pss_nil)
        (w_pss_one (w_ps_dput hu (w_pv 2) (w_pv 3) w_pe_bl rfl))))
      (w_pss_one (w_ps_ret w_pe_bl))))) ?_
    cases d with
    | oth =>
      have k : ∀ H', Same H H' → Q (.bl false) H' := k
      rcases hv with rfl | ⟨q, xs, rfl, hq⟩
      · exact ⟨_, rfl, _, _, _, _, _, rfl, rfl, .non, T.k_tNoneType_tlist, _, rfl, iteT (k H (Same.refl H))⟩
      · exact ⟨_, rfl, _, _, _, _, _, rfl, rfl, .tup hq, T.k_ttuple_tlist, _, rfl, iteT (k H (Same.refl H))⟩
    | lst ds =>
    obtain ⟨l, rs, rfl, hl, hrs⟩ := hv
    have k : ∀ H', Same H H' → Q (.bl (linesB hs [] ds)) H' := k
    have hz : ds.length ≤ 1000 := hz
    refine ⟨_, rfl, _, _, _, _, _, rfl, rfl, .lst hl, T.k_tlist_tlist, _, rfl, iteN rfl ?_⟩
    refine fun d hd => ?_
    refine ⟨_, rfl, l, rfl, ⟨_, SqL.of (Same.new hd _ _ hl)⟩, ?_⟩
    refine for_list (K := K) (a := l) (xs := rs) (fun i σ H' => ∃ (kvs : List (List Key × V)) (o : Option V) (seen : List (Int × Int)), σ = [some (.ref l), some (.ref h), some (.ref d), o] ∧ H' d = some (.dT kvs) ∧ kvs.map (·.1) = seen.map key2 ∧ seen.length = i ∧ linesB hs [] ds = linesB hs seen (ds.drop i) ∧ Same H H') ?_ ?_ ?_ ?_
    · exact ⟨[], none, [], rfl, upd_same, by simp, rfl, rfl, Same.new hd⟩
    · rintro i σ H' _ ⟨kvs, o, seen, _, _, _, _, _, sm⟩
      exact SqL.of (sm _ _ hl)
    · rintro i x σ H' hi ⟨kvs, o, seen, rfl, hd', hk, hsl, hm, sm⟩
      obtain ⟨dx, hdx, hx⟩ := pget hrs hi
      have hxs := hx.same sm
      have ed : ds.drop i = dx :: ds.drop (i + 1) := by
        obtain ⟨hi', e⟩ := List.getElem?_eq_some_iff.mp hdx
        rw [List.drop_eq_getElem_cons hi', e]
      have il : i < ds.length := (List.getElem?_eq_some_iff.mp hdx).1
      rw [ed] at hm
      refine ⟨_, rfl, _, rfl, x, dx, h, hs, rfl, hxs, sm _ _ hh, _, rfl, ?_⟩
      have k' := k H' sm
      rw [hm] at k'
      cases ep : pairOf dx with
      | none =>
        refine iteB (by rw [lineB_no ep]; rfl) ?_
        unfold linesB at k'
        rw [ep] at k'
        exact k'
      | some p =>
      have e1 : linesB hs seen (dx :: ds.drop (i + 1)) = (okP hs p && (!decide (p ∈ seen) && linesB hs (seen ++ [p]) (ds.drop (i + 1)))) := by
        rw [linesB, ep]
      rw [e1] at k' hm
      by_cases op : okP hs p = true
      case neg =>
        rw [Bool.not_eq_true] at op
        refine iteB (by rw [lineB_of ep, op]; rfl) ?_
        rw [op] at k'
        exact k'
      refine iteN (by rw [lineB_of ep, op]; rfl) ?_
      rw [op] at k' hm
      obtain ⟨q, rfl, hq⟩ := pair_at hxs ep
      have kin : key2 p ∈ kvs.map (·.1) ↔ p ∈ seen := by
        rw [hk]
        constructor
        · intro z
          obtain ⟨p', m', e'⟩ := List.mem_map.mp z
          rw [← key2_inj e']
          exact m'
        · intro z
          exact List.mem_map.mpr ⟨p, z, rfl⟩
      have hzk : kvs.length ≤ 1000 := by
        have := congrArg List.length hk
        rw [List.length_map, List.length_map] at this
        omega
      refine ⟨_, rfl, _, rfl, d, _, rfl, DGet.t (k := key2 p) hd' hq, _, rfl, ?_⟩
      by_cases ps : p ∈ seen
      · refine iteB (valV_yes (kin.mpr ps)) ?_
        rw [decide_eq_true ps] at k'
        exact k'
      · have hnew : key2 p ∉ kvs.map (·.1) := fun z => ps (kin.mp z)
        refine iteN (valV_no hnew) ?_
        refine ⟨_, rfl, _, rfl, d, _, rfl, DPut.t (k := key2 p) hd' hq (small1000 hzk), ?_⟩
        refine ⟨_, _, seen ++ [p], rfl, upd_same, ?_, by rw [List.length_append, hsl]; rfl, ?_, sm.updF hd⟩
        · rw [putK_new hnew, List.map_append, hk, List.map_append]
          rfl
        · rw [hm, decide_eq_false ps]
          rfl
    · rintro σ H' ⟨kvs, o, seen, rfl, _, _, hsl, hm, sm⟩
      have el : rs.length = ds.length := hrs.length
      rw [el, List.drop_length] at hm
      have k' := k H' sm
      rw [hm] at k'
      exact k'
theorem upFrom_ints : ∀ {xs : List V} {m : Int}, upFrom m xs = true → ∃ hs : List Int, xs = hs.map V.int ∧ hs.Pairwise (· < ·) ∧ (∀ h ∈ hs, m < h ∧ h ≤ 99)
  | [], m, _ => ⟨[], rfl, .nil, fun h z => by cases z⟩
  | .int i :: r, m, e => by
    have e : (decide (m < i) && (decide (i ≤ 99) && upFrom i r)) = true := e
    rw [Bool.and_eq_true, Bool.and_eq_true] at e
    obtain ⟨e1, e2, e3⟩ := e
    have e1 := of_decide_eq_true e1
    have e2 := of_decide_eq_true e2
    obtain ⟨hs, rfl, up, b⟩ := upFrom_ints e3
    refine ⟨i :: hs, rfl, List.pairwise_cons.mpr ⟨fun y hy => (b y hy).1, up⟩, fun h m' => ?_⟩
    rcases List.mem_cons.mp m' with rfl | m'
    · exact ⟨e1, e2⟩
    · have := b h m'
      omega
  | .bl _ :: _, _, e => by cases e
  | .str _ :: _, _, e => by cases e
  | .non :: _, _, e => by cases e
  | .byt _ :: _, _, e => by cases e
  | .flt _ :: _, _, e => by cases e
  | .ref _ :: _, _, e => by cases e
  | .ty _ :: _, _, e => by cases e
theorem upFrom_of : ∀ {hs : List Int} {m : Int}, hs.Pairwise (· < ·) → (∀ h ∈ hs, m < h ∧ h ≤ 99) → upFrom m (hs.map V.int) = true
  | [], _, _, _ => rfl
  | i :: r, m, up, b => by
    show (decide (m < i) && (decide (i ≤ 99) && upFrom i (r.map V.int))) = true
    have := b i (by simp)
    rw [decide_eq_true this.1, decide_eq_true this.2, upFrom_of (List.pairwise_cons.mp up).2 fun h z => ⟨(List.pairwise_cons.mp up).1 h z, (b h (by simp [z])).2⟩]
    rfl
theorem handsB_ints {xs : List V} (e : handsB xs = true) : ∃ hs : List Int, xs = hs.map V.int ∧ Hs hs := by
  unfold handsB at e
  rw [Bool.and_eq_true, Bool.and_eq_true] at e
  obtain ⟨e1, e2, e3⟩ := e
  have e1 := of_decide_eq_true e1
  have e2 := of_decide_eq_true e2
  obtain ⟨hs, rfl, up, b⟩ := upFrom_ints e3
  rw [List.length_map] at e1 e2
  exact ⟨hs, rfl, e1, e2, up, fun h z => by have := (b h z).1; omega, fun h z => (b h z).2⟩
theorem handsB_of {hs : List Int} (W : Hs hs) : handsB (hs.map V.int) = true := by
  unfold handsB
  rw [List.length_map, decide_eq_true W.l1, decide_eq_true W.l12, upFrom_of W.up fun h z => ⟨by have := W.lo h z; omega, W.hi h z⟩]
  rfl
theorem okP_iff {hs : List Int} {p : Int × Int} : okP hs p = true ↔ p.1 ∈ hs ∧ p.2 ∈ hs ∧ p.1 < p.2 := by
  unfold okP
  rw [Bool.and_eq_true, Bool.and_eq_true, decide_eq_true_iff, decide_eq_true_iff, decide_eq_true_iff]
theorem linesB_pairs {hs : List Int} : ∀ {ds : List LD} {seen : List (Int × Int)}, linesB hs seen ds = true → seen.Nodup → ∃ ls : List (Int × Int), ds.map pairOf = ls.map some ∧ (seen ++ ls).Nodup ∧ ∀ p ∈ ls, p.1 ∈ hs ∧ p.2 ∈ hs ∧ p.1 < p.2
  | [], seen, _, nd => ⟨[], rfl, by simpa using nd, fun p z => by cases z⟩
  | d :: ds, seen, e, nd => by
    rw [linesB] at e
    cases ep : pairOf d with
    | none => rw [ep] at e; cases e
    | some p =>
      rw [ep] at e
      have e : (okP hs p && (!decide (p ∈ seen) && linesB hs (seen ++ [p]) ds)) = true := e
      rw [Bool.and_eq_true, Bool.and_eq_true] at e
      obtain ⟨e1, e2, e3⟩ := e
      have ps : p ∉ seen := by
        intro z
        rw [decide_eq_true z] at e2
        cases e2
      obtain ⟨ls, h1, h2, h3⟩ := linesB_pairs e3 (by
        rw [List.nodup_append]
        exact ⟨nd, by simp, fun a ma b mb => by
          rw [List.mem_singleton.mp mb]
          rintro rfl
          exact ps ma⟩)
      refine ⟨p :: ls, by rw [List.map_cons, ep, h1]; rfl, by simpa using h2, fun q m => ?_⟩
      rcases List.mem_cons.mp m with rfl | m
      · exact okP_iff.mp e1
      · exact h3 q m
theorem linesB_of {hs : List Int} : ∀ {ds : List LD} {ls seen : List (Int × Int)}, ds.map pairOf = ls.map some → (seen ++ ls).Nodup → (∀ p ∈ ls, p.1 ∈ hs ∧ p.2 ∈ hs ∧ p.1 < p.2) → linesB hs seen ds = true
  | [], ls, seen, _, _, _ => rfl
  | d :: ds, [], seen, e, _, _ => by cases e
  | d :: ds, p :: ls, seen, e, nd, ok => by
    rw [List.map_cons, List.map_cons] at e
    injection e with e1 e2
    rw [linesB, e1]
    have ps : p ∉ seen := by
      intro z
      rw [List.nodup_append] at nd
      exact nd.2.2 p z p (by simp) rfl
    show (okP hs p && (!decide (p ∈ seen) && linesB hs (seen ++ [p]) ds)) = true
    rw [okP_iff.mpr (ok p (by simp)), decide_eq_false ps, linesB_of e2 (by simpa using nd) fun q m => ok q (by simp [m])]
    rfl
theorem lnAt_of {H : Hp} : ∀ {rs : List V} {ds : List LD} {ls : List (Int × Int)}, Paired (IsL H) rs ds → ds.map pairOf = ls.map some → LnAt H rs ls := by
  intro rs ds ls h e
  have l1 := h.length
  have l2 := congrArg List.length e
  rw [List.length_map, List.length_map] at l2
  refine ⟨by omega, fun i r p e1 e2 => ?_⟩
  obtain ⟨d, hd, f⟩ := pget h e1
  have : (ds.map pairOf)[i]? = (ls.map some)[i]? := by rw [e]
  rw [List.getElem?_map, List.getElem?_map, hd, e2] at this
  exact pair_at f (by simpa using this)
end
end K04

/-! K02e -/
set_option Elab.async false
set_option linter.all false
set_option maxRecDepth 100000
set_option maxHeartbeats 4000000
namespace K04
open PySem L2
def tab (ad : Int → Addr) (us : List Int) : List (Key × V) := us.map fun h => (Sum.inl h, V.ref (ad h))
theorem tab_keys {ad : Int → Addr} {us : List Int} : (tab ad us).map (·.1) = us.map Sum.inl := by
  unfold tab; rw [List.map_map]; rfl
theorem tab_at {ad : Int → Addr} {x : Int} : ∀ {us : List Int}, x ∈ us → valV (tab ad us) (Sum.inl x : Key) = some (V.ref (ad x))
  | u :: us, h => by
    show valV ((Sum.inl u, V.ref (ad u)) :: tab ad us) _ = _
    by_cases e : u = x
    · subst e; rw [valV_pos rfl]
    · rw [valV_neg (fun z => e (by injection z)), tab_at]
      rcases List.mem_cons.mp h with z | z
      · exact absurd z.symm e
      · exact z
theorem tab_get {H : Hp} {d : Addr} {ad : Int → Addr} {us : List Int} {x : Int} (e : H d = some (.dK (tab ad us))) (h : x ∈ us) : DGet H d (V.int x) (some (V.ref (ad x))) := by
  have := DGet.k (k := Sum.inl x) e
  rw [tab_at h] at this
  exact this
theorem inl_mem {x : Int} {us : List Int} : (Sum.inl x : Key) ∈ us.map (Sum.inl : Int → Key) ↔ x ∈ us := by
  rw [List.mem_map]
  exact ⟨fun ⟨y, h, e⟩ => by injection e with e; exact e ▸ h, fun h => ⟨x, h, rfl⟩⟩
def putA (ad : Int → Addr) (y : Int) (p : Addr) : Int → Addr := fun x => if x = y then p else ad x
theorem putA_at {ad : Int → Addr} {x y : Int} {p : Addr} (e : x = y) : putA ad y p x = p := if_pos e
theorem putA_ne {ad : Int → Addr} {x y : Int} {p : Addr} (e : ¬ x = y) : putA ad y p x = ad x := if_neg e
structure Near (H : Hp) (d : Addr) (hs : List Int) (ls : List (Int × Int)) (ad : Int → Addr) : Prop where
  d : H d = some (.dK (tab ad hs))
  nb : ∀ h ∈ hs, H (ad h) = some (.lst ((nbs ls h).map V.int))
section
variable {P : Program} {w : World} {K : PySem.W.Frag} {mg : Str → Option Value} {base : Heap} {a : Ad}
def spNear : Sp := fun vs H Q _ => ∃ (h l : Addr) (rs : List V) (hs : List Int) (ls : List (Int × Int)), vs = [.ref h, .ref l] ∧ H h = some (.lst (hs.map V.int)) ∧ H l = some (.lst rs) ∧ LnAt H rs ls ∧ Hs hs ∧ Ls hs ls ∧
  ∀ (d : Addr) (ad : Int → Addr) H', Same H H' → H d = none → Near H' d hs ls ad → Q (.ref d) H'
theorem ok_near (T : Txt K mg a) : FnOk P w K mg base CX0 1 a.f_near_by_hand a.d_near_by_hand ["hands", "lines"] spNear := by
  refine T.F_near_by_hand.ok sc_near_by_hand (fun vs H Q E h => ?_) (fun cdv A outer s H vs Q E hr h => ?_)
  · obtain ⟨h, l, rs, hs, ls, rfl, _⟩ := h
    rfl
  · obtain ⟨h, l, rs, hs, ls, rfl, hh, hl, hrs, W, L, k⟩ := h
    have l66 := L.le
    have l12 := W.l12
    have hu := hu_of hr
    refine bx_in (w_pss_cons (w_ps_set (i := 2) sc_near_by_hand.nd rfl (Or.inl rfl) w_pe_dnewK)
      (w_pss_cons (w_ps_for PassesOwn.never rfl (w_pi_list (w_pv 0)) (w_pg_name (i := 3) sc_near_by_hand.nd rfl (Or.inl rfl))
        (w_pss_one (w_ps_dput hu (w_pv 2) (w_pv 3) (w_pe_lst w_pa_nil) rfl)))
      (w_pss_cons (w_ps_for PassesOwn.never rfl (w_pi_list (w_pv 1)) (w_pg_tup rfl (w_pgs_cons (w_pg_name (i := 4) sc_near_by_hand.nd rfl (Or.inl rfl)) (w_pgs_cons (w_pg_name (i := 5) sc_near_by_hand.nd rfl (Or.inl rfl)) w_pgs_nil)))
        (w_pss_cons (w_ps_expr (w_pe_bm PySem.F.plainAttrs_list PySem.F.slot_list_append PySem.F.type_list_append mt_append (w_pe_dget hu (w_pv 2) (w_pv 4) (fun _ _ => rfl)) (w_pa_N (w_pv 5) w_pa_nil)))
        (w_pss_one (w_ps_expr (w_pe_bm PySem.F.plainAttrs_list PySem.F.slot_list_append PySem.F.type_list_append mt_append (w_pe_dget hu (w_pv 2) (w_pv 5) (fun _ _ => rfl)) (w_pa_N (w_pv 4) w_pa_nil))))))
      (w_pss_one (w_ps_ret (w_pv 2)))))) ?_
    refine fun d hd => ?_
    refine ⟨_, rfl, h, rfl, ⟨_, SqL.of (Same.new hd _ _ hh)⟩, ?_⟩
    refine for_list (K := K) (a := h) (xs := hs.map V.int) (fun i σ H' => ∃ (ad : Int → Addr) (o : Option V), σ = [some (.ref h), some (.ref l), some (.ref d), o, none, none] ∧ H' d = some (.dK (tab ad (hs.take i))) ∧
      (∀ x ∈ hs.take i, H' (ad x) = some (.lst []) ∧ H (ad x) = none) ∧ (∀ x ∈ hs.take i, ∀ y ∈ hs.take i, ad x = ad y → x = y) ∧ Same H H') ?_ ?_ ?_ ?_
    · exact ⟨fun _ => 0, none, rfl, upd_same, fun x hx => by simp at hx, fun x hx => by simp at hx, Same.new hd⟩
    · rintro i σ H' _ ⟨ad, o, _, _, _, _, sm⟩
      exact SqL.of (sm _ _ hh)
    · rintro i x σ H' hi ⟨ad, o, rfl, hd', hat, hinj, sm⟩
      rw [List.getElem?_map] at hi
      obtain ⟨y, hy, rfl⟩ := Option.map_eq_some_iff.mp hi
      have hnew : y ∉ hs.take i := nd_take (up_nodup W.up) hy
      refine ⟨(by show 0 ≤ sizeLine; decide), fun p hp => ?_⟩
      have hpd : p ≠ d := fun z => by rw [z, hd'] at hp; cases hp
      have hd2 : (upd H' p (.lst [])) d = some (.dK (tab ad (hs.take i))) := by rw [upd_ne hpd.symm]; exact hd'
      refine ⟨_, rfl, _, rfl, d, _, rfl, DPut.k (k := Sum.inl y) hd2 (small1000 ?_), ?_⟩
      · unfold tab
        rw [List.length_map, List.length_take]; omega
      · have et : hs.take (i + 1) = hs.take i ++ [y] := by rw [List.take_add_one, hy]; rfl
        have hp0 : H p = none := sm.free hp
        have hne : ∀ x ∈ hs.take i, ad x ≠ p := fun x hx z => by
          have := (hat x hx).1
          rw [z, hp] at this; cases this
        have had : ∀ x ∈ hs.take i, ad x ≠ d := fun x hx z => by
          have := (hat x hx).1
          rw [z, hd'] at this; cases this
        refine ⟨putA ad y p, _, rfl, ?_, ?_, ?_, (sm.updF hp0).updF hd⟩
        · rw [upd_same, K04.putK_new (by rw [tab_keys, inl_mem]; exact hnew), et]
          unfold tab
          rw [List.map_append]
          congr 3
          · refine List.map_congr_left fun x hx => ?_
            rw [putA_ne (fun z => hnew (by rw [← z]; exact hx))]
          · show _ = [(Sum.inl y, V.ref (putA ad y p y))]
            rw [putA_at rfl]
        · intro x hx
          rw [et, List.mem_append, List.mem_singleton] at hx
          by_cases e : x = y
          · rw [putA_at e, upd_ne hpd, upd_same]
            exact ⟨rfl, hp0⟩
          · rw [putA_ne e]
            have hx := hx.resolve_right e
            rw [upd_ne (had x hx), upd_ne (hne x hx)]
            exact hat x hx
        · intro x hx z hz
          rw [et, List.mem_append, List.mem_singleton] at hx hz
          by_cases e1 : x = y
          · by_cases e2 : z = y
            · intro _; rw [e1, e2]
            · rw [putA_at e1, putA_ne e2]
              intro q; exact absurd q.symm (hne z (hz.resolve_right e2))
          · by_cases e2 : z = y
            · rw [putA_ne e1, putA_at e2]
              intro q; exact absurd q (hne x (hx.resolve_right e1))
            · rw [putA_ne e1, putA_ne e2]
              exact hinj x (hx.resolve_right e1) z (hz.resolve_right e2)
    · rintro σ H1 ⟨ad, o, rfl, hd', hat, hinj, sm⟩
      rw [List.length_map, List.take_length] at hd' hat hinj
      refine ⟨_, rfl, l, rfl, ⟨_, SqL.of (sm _ _ hl)⟩, ?_⟩
      refine for_list (K := K) (a := l) (xs := rs) (fun i σ H' => ∃ (o1 o2 : Option V), σ = [some (.ref h), some (.ref l), some (.ref d), o, o1, o2] ∧ Near H' d hs (ls.take i) ad ∧ Same H H') ?_ ?_ ?_ ?_
      · exact ⟨none, none, rfl, ⟨hd', fun x hx => by rw [List.take_zero]; exact (hat x hx).1⟩, sm⟩
      · rintro i σ H' _ ⟨o1, o2, _, _, sm'⟩
        exact SqL.of (sm' _ _ hl)
      · rintro i x σ H' hi ⟨o1, o2, rfl, N, sm'⟩
        obtain ⟨⟨x, y⟩, q, hp, rfl, hq⟩ := (hrs.same sm').get hi
        obtain ⟨hx, hy, hxy⟩ := L.ok _ (List.mem_of_getElem? hp)
        dsimp only at hq hx hy hxy
        refine ⟨q, _, rfl, SqT.of hq, rfl, _, _, rfl, _, _, rfl, rfl, ?_⟩
        have len : ∀ z, ((nbs (ls.take i) z).map V.int).length < sizeLine := fun z => by
          rw [List.length_map]
          have := nbs_len (h := z) (ls := ls.take i)
          rw [List.length_take] at this
          exact small1000 (by omega)
        have hdx : ad x ≠ d := fun z => by
          have := N.nb x hx
          rw [z, N.d] at this; cases this
        have hdy : ad y ≠ d := fun z => by
          have := N.nb y hy
          rw [z, N.d] at this; cases this
        have hne : ad y ≠ ad x := fun z => by have := hinj y hy x hx z; omega
        refine ⟨_, rfl, _, rfl, d, V.ref (ad x), rfl, tab_get N.d hx, .inl ⟨rfl, _, SqL.of (N.nb x hx)⟩, _, rfl, _, _, _, rfl, rfl, N.nb x hx, len x, ?_⟩
        have nd2 : (upd H' (ad x) (.lst ((nbs (ls.take i) x).map V.int ++ [V.int y]))) d = some (.dK (tab ad hs)) := by rw [upd_ne hdx.symm]; exact N.d
        have ny2 : (upd H' (ad x) (.lst ((nbs (ls.take i) x).map V.int ++ [V.int y]))) (ad y) = some (.lst ((nbs (ls.take i) y).map V.int)) := by rw [upd_ne hne]; exact N.nb y hy
        refine ⟨_, rfl, _, rfl, d, V.ref (ad y), rfl, tab_get nd2 hy, .inl ⟨rfl, _, SqL.of ny2⟩, _, rfl, _, _, _, rfl, rfl, ny2, len y, ?_⟩
        refine ⟨_, _, rfl, ⟨?_, fun z hz => ?_⟩, (sm'.updF (hat x hx).2).updF (hat y hy).2⟩
        · rw [upd_ne hdy.symm]; exact nd2
        · rw [nbs_take hp]
          by_cases e2 : z = y
          · subst e2
            rw [upd_same, if_neg (by show ¬ x = z; omega), if_pos rfl, List.map_append]
            rfl
          · rw [upd_ne (fun q => e2 (hinj z hz y hy q))]
            by_cases e1 : z = x
            · subst e1
              rw [upd_same, if_pos rfl, if_neg (by show ¬ y = z; omega), List.map_append]
              rfl
            · rw [upd_ne (fun q => e1 (hinj z hz x hx q)), if_neg (fun q => e1 q.symm), if_neg (fun q => e2 q.symm), List.append_nil, List.append_nil]
              exact N.nb z hz
      · rintro σ H' ⟨o1, o2, rfl, N, sm'⟩
        rw [hrs.1, List.take_length] at N
        exact ⟨_, rfl, k d ad H' sm' hd N⟩
end
end K04

/-! K02f -/
set_option Elab.async false
set_option linter.all false
set_option maxRecDepth 100000
set_option maxHeartbeats 4000000
namespace K04
open PySem L2
open L2.Srt (call_sortP)
theorem LnAt.ext {H H' : Hp} {p dx C : Addr} {fs : List (Str × V)} {rs : List V} {ls : List (Int × Int)} (h : LnAt H rs ls) (hp : H p = some (.ins C dx fs)) (s : Ext p H H') : LnAt H' rs ls := ⟨h.1, fun i r q h1 h2 => by
  obtain ⟨t, e, ht⟩ := h.2 i r q h1 h2
  exact ⟨t, e, s _ _ ht fun z => by rw [← z, ht] at hp; cases hp⟩⟩
theorem LnAt.mem {H : Hp} {rs : List V} {ls : List (Int × Int)} (h : LnAt H rs ls) {y : V} (hy : y ∈ rs) : ∃ q i j, y = .ref q ∧ H q = some (.tup [.int i, .int j]) := by
  obtain ⟨i, hi, e⟩ := List.getElem_of_mem hy
  obtain ⟨p, q, _, e1, e2⟩ := h.get (i := i) (r := y) (by rw [List.getElem?_eq_getElem hi, e])
  exact ⟨q, _, _, e1, e2⟩
section
variable {P : Program} {w : World} {K : PySem.W.Frag} {mg : Str → Option Value} {base : Heap} {a : Ad}
theorem webB_iff {d : HD} {e : LsD} (h : webB d e = true) : ∃ xs ds, d = .lst xs ∧ e = .lst ds ∧ handsB xs = true ∧ linesB (intsOf xs) [] ds = true := by
  cases d with
  | oth => cases h
  | lst xs =>
    cases e with
    | oth => cases h
    | lst ds =>
      have h : (handsB xs && linesB (intsOf xs) [] ds) = true := h
      rw [Bool.and_eq_true] at h
      exact ⟨xs, ds, rfl, rfl, h.1, h.2⟩
def spWebX (a : Ad) : Sp := fun vs H Q E => ∃ (p dx : Addr) (v u : V) (d : HD) (e : LsD), vs = [.ref p, v, u] ∧ H p = some (.ins a.c_Web dx []) ∧ IsH H v d ∧ IsLs H u e ∧ e.size ≤ 1000 ∧
  (webB d e = true → ∀ H', Ext p H H' → Q .non H') ∧ (webB d e = false → ∀ H', Same H H' → E (.ref a.c_NoWeb) none H')
theorem ok_web (T : Txt K mg a) : FnOk P w K mg base (CX1 P w) 4 a.f_Web___init__ a.d_Web___init__ ["self", "hands", "lines"] (spWebX a) := by
  have c_are_hands : Callee P w K mg base "are_hands" a.f_are_hands a.d_are_hands ["hands"] 2 spHands := ⟨ok_hands T, T.g_are_hands, T.F_are_hands.kp, T.b_are_hands⟩
  have c_are_lines : Callee P w K mg base "are_lines" a.f_are_lines a.d_are_lines ["lines", "hands"] 3 spLines := ⟨ok_lines T, T.g_are_lines, T.F_are_lines.kp, T.b_are_lines⟩
  have c_near_by_hand : Callee P w K mg base "near_by_hand" a.f_near_by_hand a.d_near_by_hand ["hands", "lines"] 1 spNear := ⟨ok_near T, T.g_near_by_hand, T.F_near_by_hand.kp, T.b_near_by_hand⟩
  refine T.F_Web___init__.ok1 sc_Web___init__ (fun vs H Q E h => ?_) (fun cdv A outer s H vs Q E hr h => ?_)
  · obtain ⟨p, dx, v, u, d, e, rfl, _⟩ := h
    rfl
  · obtain ⟨p, dx, v, u, d, e, rfl, hp, hv, hu, hz, k, kx⟩ := h
    refine bx_in (w_pss_cons (w_ps_if (w_pt_not (w_pt_val (w_pe_c c_are_hands (hr.mono (by omega)) (w_pa_N (w_pv 1) w_pa_nil))))
        (w_pss_one (w_ps_raise hr.hd T.xc_NoWeb T.g_NoWeb (w_pa_C w_pe_str w_pa_nil)))
        w_pss_nil)
      (w_pss_cons (w_ps_if (w_pt_not (w_pt_val (w_pe_c c_are_lines (hr.mono (by omega)) (w_pa_N (w_pv 2) (w_pa_N (w_pv 1) w_pa_nil)))))
        (w_pss_one (w_ps_raise hr.hd T.xc_NoWeb T.g_NoWeb (w_pa_C w_pe_str w_pa_nil)))
        w_pss_nil)
      (w_pss_cons (w_ps_fld (w_pv 0) (w_pe_callTy call_list_of (by rfl) T.n_list bt_list (w_pa_N (w_pv 1) w_pa_nil)) rfl)
      (w_pss_cons (w_ps_fld (w_pv 0) (w_pe_callB call_sortP (by rfl) T.n_sorted bt_sorted (w_pa_N (w_pv 2) w_pa_nil)) rfl)
      (w_pss_one (w_ps_fld (w_pv 0) (w_pe_c c_near_by_hand (hr.mono (by omega)) (w_pa_N (w_pv 1) (w_pa_N (w_pv 2) w_pa_nil))) rfl)))))) ?_
    refine ⟨_, rfl, v, d, rfl, hv, _, rfl, ?_⟩
    by_cases q1 : hdB d = true
    case neg =>
      rw [Bool.not_eq_true] at q1
      refine iteB (by rw [q1]; rfl) ⟨by show 1 ≤ 1000; decide, kx ?_ H (Same.refl H)⟩
      cases d with
      | oth => cases e <;> rfl
      | lst xs =>
        have q1 : handsB xs = false := q1
        cases e with
        | oth => rfl
        | lst ds => show (handsB xs && _) = false; rw [q1]; rfl
    refine iteN (by rw [q1]; rfl) ?_
    cases d with
    | oth => cases q1
    | lst xs =>
    obtain ⟨h, rfl, hh, _⟩ := hv
    obtain ⟨hs, rfl, W⟩ := handsB_ints q1
    have q1 : handsB (hs.map V.int) = true := q1
    refine ⟨_, rfl, _, rfl, u, h, hs, e, rfl, hu, hz, hh, fun H1 s1 => ⟨_, rfl, ?_⟩⟩
    have ew : webB (.lst (hs.map V.int)) e = ldB hs e := by
      cases e with
      | oth => rfl
      | lst ds => show (handsB _ && linesB (intsOf (hs.map V.int)) [] ds) = linesB hs [] ds; rw [q1, intsOf_map]; rfl
    by_cases q2 : ldB hs e = true
    case neg =>
      rw [Bool.not_eq_true] at q2
      exact iteB (by rw [q2]; rfl) ⟨by show 1 ≤ 1000; decide, kx (ew.trans q2) H1 s1⟩
    refine iteN (by rw [q2]; rfl) ?_
    cases e with
    | oth => cases q2
    | lst ds =>
    have q2 : linesB hs [] ds = true := q2
    have k := k (ew.trans q2)
    obtain ⟨l, rs, rfl, hl, hrs⟩ := hu
    obtain ⟨ls, e1, e2, e3⟩ := linesB_pairs q2 List.nodup_nil
    have L : Ls hs ls := Ls.of W (by simpa using e2) e3
    have hrs : LnAt H rs ls := lnAt_of hrs e1
    have l66 := L.le
    have np : ∀ {b : Addr} {xs : List V}, H b = some (.lst xs) → b ≠ p := fun e z => by rw [z, hp] at e; cases e
    refine ⟨_, rfl, h, _, rfl, .inl (SqL.of (s1 _ _ hh)), fun oh hoh => ?_⟩
    have ohp : oh ≠ p := fun z => by rw [z, s1 _ _ hp] at hoh; cases hoh
    refine ⟨_, rfl, p, a.c_Web, dx, _, rfl, (upd_ne ohp.symm).trans (s1 _ _ hp), T.cl_Web, T.na_Web_own_hands, (by show 0 < 1000; decide), ?_⟩
    have x3 := ((Ext.same (l := p) s1).trans (Ext.new (l := p) (o := .lst (hs.map V.int)) hoh)).trans (Ext.at (l := p) (o := .ins a.c_Web dx [("own_hands", .ref oh)]))
    refine ⟨_, rfl, l, rs, rfl, SqL.of (x3 _ _ hl (np hl)), by rw [hrs.1]; exact l66, fun y hy => (hrs.ext hp x3).mem hy, fun ol zs hol z1 z2 => ?_⟩
    have olp : ol ≠ p := fun z => by rw [z, upd_same] at hol; cases hol
    refine ⟨_, rfl, p, a.c_Web, dx, _, rfl, (upd_ne olp.symm).trans upd_same, T.cl_Web, T.na_Web_own_lines, (by show 1 < 1000; decide), ?_⟩
    have x35 := (Ext.new (l := p) (o := .lst zs) hol).trans (Ext.at (l := p) (o := .ins a.c_Web dx [("own_hands", .ref oh), ("own_lines", .ref ol)]))
    have x5 := x3.trans x35
    refine ⟨_, rfl, _, rfl, h, l, rs, hs, ls, rfl, x5 _ _ hh (np hh), x5 _ _ hl (np hl), hrs.ext hp x5, W, L, fun d ad H6 s6 hd N => ?_⟩
    have hp6 := s6 _ _ (upd_same (a := p))
    refine ⟨_, rfl, p, a.c_Web, dx, _, rfl, hp6, T.cl_Web, T.na_Web_near, (by show 2 < 1000; decide), ?_⟩
    exact k _ ((x5.trans (Ext.same s6)).trans Ext.at)
end
end K04

/-! K02j -/
set_option Elab.async false
set_option linter.all false
set_option maxRecDepth 100000
set_option maxHeartbeats 4000000
namespace K04
open PySem L2
theorem _root_.L2.Ext_upd {l p : Addr} {H H' : Hp} {o : HO} (x : Ext l H H') (h : H p = none) : Ext l H (L2.upd H' p o) := fun b u e n => by
  rw [upd_ne (ne_of_none e h)]; exact x b u e n
theorem Ext_free {l p : Addr} {H H' : Hp} (x : Ext l H H') (s : StAt H' l) (h : H' p = none) : H p = none := by
  cases e : H p with
  | none => rfl
  | some o =>
    have := x p o e (s.ne h)
    rw [h] at this; cases this
theorem LnAt.mono {H H' : Hp} {rs : List V} {ls : List (Int × Int)} (h : LnAt H rs ls) (k : ∀ b xs, H b = some (.tup xs) → H' b = some (.tup xs)) : LnAt H' rs ls := ⟨h.1, fun i r p h1 h2 => by
  obtain ⟨q, e, t⟩ := h.2 i r p h1 h2
  exact ⟨q, e, k _ _ t⟩⟩
theorem Ext_tup {l : Addr} {H H' : Hp} (s : StAt H l) (x : Ext l H H') : ∀ b xs, H b = some (.tup xs) → H' b = some (.tup xs) := fun b xs e => x b _ e fun z => by
  obtain ⟨st, h, _⟩ := s
  rw [z, h] at e; cases e
theorem LnAt.snoc {H : Hp} {rs : List V} {ls : List (Int × Int)} {q : Addr} {x y : Int} (h : LnAt H rs ls) (hq : H q = some (.tup [.int x, .int y])) : LnAt H (rs ++ [.ref q]) (ls ++ [(x, y)]) := by
  refine ⟨by rw [List.length_append, List.length_append, h.1]; rfl, fun i r p e1 e2 => ?_⟩
  by_cases lt : i < rs.length
  · rw [List.getElem?_append_left lt] at e1
    rw [List.getElem?_append_left (by rw [← h.1]; exact lt)] at e2
    exact h.2 i r p e1 e2
  · have ei : i = rs.length := by
      have := (List.getElem?_eq_some_iff.mp e1).1
      rw [List.length_append, List.length_singleton] at this
      omega
    subst ei
    rw [List.getElem?_append_right (Nat.le_refl _), Nat.sub_self] at e1
    rw [h.1, List.getElem?_append_right (Nat.le_refl _), Nat.sub_self] at e2
    obtain rfl : V.ref q = r := by simpa using e1
    obtain rfl : (x, y) = p := by simpa using e2
    exact ⟨q, rfl, hq⟩
theorem LnAt.turn {H : Hp} {rs : List V} {ls : List (Int × Int)} (h : LnAt H rs ls) (t : Nat) : LnAt H (rs.drop t ++ rs.take t) (ls.drop t ++ ls.take t) := by
  refine ⟨by rw [List.length_append, List.length_append, List.length_drop, List.length_drop, List.length_take, List.length_take, h.1], fun i r p e1 e2 => ?_⟩
  by_cases lt : i < (rs.drop t).length
  · rw [List.getElem?_append_left lt, List.getElem?_drop] at e1
    rw [List.getElem?_append_left (by rw [List.length_drop] at lt ⊢; rw [← h.1]; exact lt), List.getElem?_drop] at e2
    exact h.2 _ r p e1 e2
  · have e3 : (rs.drop t).length = (ls.drop t).length := by rw [List.length_drop, List.length_drop, h.1]
    rw [List.getElem?_append_right (by omega)] at e1
    rw [List.getElem?_append_right (by omega), ← e3] at e2
    have l1 := (List.getElem?_eq_some_iff.mp e1).1
    rw [List.length_take] at l1
    rw [List.getElem?_take_of_lt (by omega)] at e1 e2
    exact h.2 _ r p e1 e2
theorem pick4b {d : Int} (h0 : 0 ≤ d) (h4 : d < 4) : ∃ v : Int, atI [V.int 1, V.int 1, V.int 2, V.int 8] d = some (V.int v) ∧ 1 ≤ v := by
  obtain ⟨n, rfl⟩ : ∃ n : Nat, d = n := ⟨d.toNat, by omega⟩
  have : n = 0 ∨ n = 1 ∨ n = 2 ∨ n = 3 := by omega
  rcases this with rfl | rfl | rfl | rfl
  · exact ⟨1, atI_nat (j := 0) rfl, by omega⟩
  · exact ⟨1, atI_nat (j := 1) rfl, by omega⟩
  · exact ⟨2, atI_nat (j := 2) rfl, by omega⟩
  · exact ⟨8, atI_nat (j := 3) rfl, by omega⟩
section
variable {P : Program} {w : World} {K : PySem.W.Frag} {mg : Str → Option Value} {base : Heap} {a : Ad}
def spWebL : Sp := fun vs H Q _ => ∃ (l : Addr), vs = [.ref l] ∧ StAt H l ∧
  ∀ (t h r : Addr) (rs : List V) (hs : List Int) (ls : List (Int × Int)) H', H' t = some (.tup [.ref h, .ref r]) → H' h = some (.lst (hs.map V.int)) → H' r = some (.lst rs) → LnAt H' rs ls → Hs hs → Ls hs ls → StAt H' l → Ext l H H' → H t = none → H h = none → H r = none → Q (.ref t) H'
theorem ok_webl (T : Txt K mg a) : FnOk P w K mg base CX0 2 a.f__law_web a.d__law_web ["_law_state"] spWebL := by
  have c__law_digit : Callee P w K mg base "_law_digit" a.f__law_digit a.d__law_digit ["_law_state", "_law_base"] 1 spDigit := ⟨ok_digit T, T.g__law_digit, T.F__law_digit.kp, T.b__law_digit⟩
  refine T.F__law_web.ok sc__law_web (fun vs H Q E h => ?_) (fun cdv A outer s H vs Q E hr h => ?_)
  · obtain ⟨l, rfl, _⟩ := h
    rfl
  · obtain ⟨l, rfl, S0, k⟩ := h
    refine bx_in (w_pss_cons (w_ps_set (i := 1) sc__law_web.nd rfl (Or.inr rfl) (w_pe_lst w_pa_nil))
      (w_pss_cons (w_ps_set (i := 2) sc__law_web.nd rfl (Or.inl rfl) w_pe_int)
      (w_pss_cons (w_ps_for PassesOwn.never rfl (w_pi_range1 rfl T.n_range (w_pa_B (w_pe_op op_add w_pe_int (w_pe_c c__law_digit (hr.mono (by omega)) (w_pa_N (w_pv 0) (w_pa_C w_pe_int w_pa_nil)))) w_pa_nil)) (w_pg_name (i := 3) sc__law_web.nd rfl (Or.inl rfl))
        (w_pss_cons (w_ps_set (i := 4) sc__law_web.nd rfl (Or.inl rfl) (w_pe_ix ix_list (w_pe_lst (w_pa_C w_pe_int (w_pa_C w_pe_int (w_pa_C w_pe_int (w_pa_C w_pe_int w_pa_nil))))) (w_pe_c c__law_digit (hr.mono (by omega)) (w_pa_N (w_pv 0) (w_pa_C w_pe_int w_pa_nil))) (fun _ _ => rfl)))
        (w_pss_cons (w_ps_set (i := 2) sc__law_web.nd rfl (Or.inl rfl) (w_pe_callB (call_min2 rfl) (by rfl) T.n_min bt_min (w_pa_B (w_pe_op op_add (w_pv 2) (w_pv 4)) (w_pa_B (w_pe_op op_add w_pe_int (w_pv 3)) w_pa_nil))))
        (w_pss_one (w_ps_expr (w_pe_bm PySem.F.plainAttrs_list PySem.F.slot_list_append PySem.F.type_list_append mt_append (w_pv 1) (w_pa_N (w_pv 2) w_pa_nil)))))))
      (w_pss_cut (w_ps_if (w_pt_cmpR op_eq (w_pe_c c__law_digit (hr.mono (by omega)) (w_pa_N (w_pv 0) (w_pa_C w_pe_int w_pa_nil))) w_pe_int (nomark _))
        (w_pss_one (w_ps_set (i := 1) sc__law_web.nd rfl (Or.inr rfl) (w_pe_comp rfl (N' := ["_law_hand", "_law_hands"]) (t := 1) (caps := [1]) ⟨rfl, rfl, rfl⟩ (w_pi_list (w_pv 1)) (fun _ => (w_pg_name (i := 0) (show (["_law_hand", "_law_hands"] : List Str).Nodup by decide +kernel) rfl (Or.inl rfl))) (fun _ => w_pts_nil) (fun _ => (w_pe_op op_sub (w_pv 0) (w_pe_ix ix_list (w_pv 1) w_pe_int (fun _ _ => rfl)))))))
        w_pss_nil)
      (w_pss_cons (w_ps_set (i := 5) sc__law_web.nd rfl (Or.inl rfl) (w_pe_lst w_pa_nil))
      (w_pss_cons (w_ps_set (i := 6) sc__law_web.nd rfl (Or.inl rfl) (w_pe_op op_add w_pe_int (w_pe_c c__law_digit (hr.mono (by omega)) (w_pa_N (w_pv 0) (w_pa_C w_pe_int w_pa_nil)))))
      (w_pss_cons (w_ps_for PassesOwn.never rfl (w_pi_list (w_pv 1)) (w_pg_name (i := 7) sc__law_web.nd rfl (Or.inl rfl))
        (w_pss_one (w_ps_for PassesOwn.never rfl (w_pi_list (w_pv 1)) (w_pg_name (i := 8) sc__law_web.nd rfl (Or.inl rfl))
          (w_pss_one (w_ps_if (w_pt (w_pw_and (w_pt_cmpR op_lt (w_pv 7) (w_pv 8) (nomark _)) (w_pw_and1 (w_pt_cmpR op_eq (w_pe_c c__law_digit (hr.mono (by omega)) (w_pa_N (w_pv 0) (w_pa_N (w_pv 6) w_pa_nil))) w_pe_int (nomark _)))))
            (w_pss_one (w_ps_expr (w_pe_bm PySem.F.plainAttrs_list PySem.F.slot_list_append PySem.F.type_list_append mt_append (w_pv 5) (w_pa_T (w_pe_tup (w_pa_N (w_pv 7) (w_pa_N (w_pv 8) w_pa_nil))) w_pa_nil))))
            w_pss_nil)))))
      (w_pss_cons (w_ps_set (i := 9) sc__law_web.nd rfl (Or.inl rfl) (w_pe_c c__law_digit (hr.mono (by omega)) (w_pa_N (w_pv 0) (w_pa_B (w_pe_op op_add (w_pe_callB call_len_seq (by rfl) T.n_len bt_len (w_pa_N (w_pv 5) w_pa_nil)) w_pe_int) w_pa_nil))))
      (w_pss_one (w_ps_ret (w_pe_tup (w_pa_N (w_pv 1) (w_pa_B (w_pe_op op_cat (w_pe_slice sl_list (w_pv 5) (w_po_some (w_pv 9)) w_po_none) (w_pe_slice sl_list (w_pv 5) w_po_none (w_po_some (w_pv 9)))) w_pa_nil))))))))))))) ?_
    refine ⟨(by show 0 ≤ sizeLine; decide), fun p hp => ?_⟩
    have pl := S0.ne hp
    refine ⟨_, rfl, l, 12, rfl, S0.new hp, by decide, by decide, fun d H1 g1 g2 S1 x1 => ?_⟩
    refine ⟨_, _, rfl, rfl, _, rfl, by omega, by omega, ?_⟩
    refine for_range (lo := 0) (n := (1 + d).toNat) (fun i σ H' => ∃ (hs : List Int) (low : Int) (o3 o4 : Option V), σ = [some (.ref l), some (.ref p), some (.int low), o3, o4, none, none, none, none, none] ∧ StAt H' l ∧ Ext l H H' ∧ H' p = some (.lst (hs.map V.int)) ∧ hs.length = i ∧ hs.Pairwise (· < ·) ∧
      (∀ h ∈ hs, 0 ≤ h ∧ h ≤ low) ∧ 0 ≤ low ∧ low ≤ 87 + i) ?_ ?_ ?_
    · exact ⟨[], 0, none, none, rfl, S1, (Ext.new hp).trans x1, x1 _ _ upd_same pl, rfl, List.Pairwise.nil, fun h m => (by cases m), by omega, by omega⟩
    · rintro i σ H2 hi ⟨hs, low, o3, o4, rfl, S2, x2, hp2, hlen, up, hb, b1, b2⟩
      refine ⟨(by show 4 ≤ sizeLine; decide), fun q hq => ?_⟩
      refine ⟨_, rfl, l, 4, rfl, S2.new hq, by decide, by decide, fun d3 H3 g3 g4 S3 x3 => ?_⟩
      obtain ⟨v, av, v1⟩ := pick4b g3 g4
      have hq0 := Ext_free x2 S2 hq
      have X3 : Ext l H H3 := (x2.trans (Ext.new hq)).trans x3
      have hp3 : H3 p = some (.lst (hs.map V.int)) := x3 _ _ (Same.new hq _ _ hp2) pl
      refine ⟨q, _, d3, V.int v, rfl, rfl, SqL.of (x3 _ _ upd_same (S2.ne hq)), av, ?_⟩
      refine ⟨_, rfl, _, rfl, _, _, rfl, rfl, _, rfl, _, _, rfl, rfl, _, _, rfl, ?_⟩
      generalize hlow : (if 88 + (0 + (i : Int)) < low + v then 88 + (0 + (i : Int)) else low + v) = low'
      have c1 : low < low' ∧ low' ≤ 88 + i := by
        rw [← hlow]
        split <;> omega
      refine ⟨_, rfl, .inl ⟨rfl, _, SqL.of hp3⟩, _, rfl, p, _, _, rfl, rfl, hp3, small1000 (by rw [List.length_map]; omega), ?_⟩
      refine ⟨hs ++ [low'], low', _, _, rfl, ?_, Ext_upd X3 hp, by rw [upd_same, List.map_append]; rfl, by rw [List.length_append, hlen]; rfl, ?_, fun h m => ?_, by omega, by omega⟩
      · obtain ⟨st, e1, e2⟩ := S3
        exact ⟨st, (upd_ne pl.symm).trans e1, e2⟩
      · rw [List.pairwise_append]
        refine ⟨up, List.pairwise_singleton _ _, fun x mx y my => ?_⟩
        rw [List.mem_singleton.mp my]
        have := hb x mx
        omega
      · rcases List.mem_append.mp m with m | m
        · have := hb h m; omega
        · rw [List.mem_singleton.mp m]; omega
    · rintro σ H2 ⟨hs, low, o3, o4, rfl, S2, x2, hp2, hlen, up, hb, b1, b2⟩
      have W0 : Hs hs := ⟨by omega, by omega, up, fun h m => (hb h m).1, fun h m => by have := (hb h m).2; omega⟩
      refine ⟨fun σ' H' => ∃ (hs : List Int) (q : Addr), σ' = [some (.ref l), some (.ref q), some (.int low), o3, o4, none, none, none, none, none] ∧ StAt H' l ∧ Ext l H H' ∧ H' q = some (.lst (hs.map V.int)) ∧ Hs hs ∧ H q = none ∧ q ≠ l, ?_, ?_⟩
      · refine ⟨_, rfl, l, 3, rfl, S2, by decide, by decide, fun d3 H3 g3 g4 S3 x3 => ?_⟩
        have hp3 := x3 _ _ hp2 pl
        refine ⟨rfl, _, rfl, ?_⟩
        refine ite2 (fun _ => ?_) (fun _ => ?_)
        · refine ⟨_, rfl, p, rfl, ⟨_, SqL.of hp3⟩, fun D hD _ => ?_⟩
          have hDl := S3.ne hD
          have hD0 := Ext_free (x2.trans x3) S3 hD
          match he : hs, W0.l1 with
          | h0 :: tl, _ =>
          have pD : p ≠ D := fun z => by rw [z, hD] at hp3; cases hp3
          refine comp_list (K := K) (a := p) (xs := (h0 :: tl).map V.int) (fun i zs τ H' => ∃ o, τ = [o, some (.ref p)] ∧ i ≤ (h0 :: tl).length ∧ zs = (((h0 :: tl).map fun h => h - h0).take i).map V.int ∧ H' D = some (.lst zs) ∧ H' p = some (.lst ((h0 :: tl).map V.int)) ∧ StAt H' l ∧ Ext l H H') ?_ ?_ ?_ ?_
          · exact ⟨none, rfl, Nat.zero_le _, by simp, upd_same, Same.new hD _ _ hp3, S3.new hD, (x2.trans x3).trans (Ext.new hD)⟩
          · rintro i zs τ H' ⟨o, _, _, _, _, e, _⟩
            exact SqL.of e
          · rintro i x zs τ H' hi ⟨o, rfl, _, rfl, hD', hp', S', X'⟩
            rw [List.getElem?_map] at hi
            obtain ⟨y, hy, rfl⟩ := Option.map_eq_some_iff.mp hi
            have hi' := (List.getElem?_eq_some_iff.mp hy).1
            have l12 := W0.l12
            refine gn_if ?_
            refine ⟨_, rfl, _, rfl, p, _, 0, V.int h0, rfl, rfl, SqL.of hp', atI_nat (j := 0) rfl, _, _, rfl, rfl, hD', ?_, _, rfl, hi', ?_, upd_same, ?_, ?_, Ext_upd X' hD0⟩
            · rw [List.length_map, List.length_take]
              exact small1000 (by omega)
            · rw [List.take_add_one, List.getElem?_map, hy, List.map_append]
              rfl
            · rw [upd_ne pD]
              exact hp'
            · obtain ⟨st, e1, e2⟩ := S'
              exact ⟨st, (upd_ne hDl.symm).trans e1, e2⟩
          · rintro zs τ H' ⟨o, rfl, _, rfl, hD', hp', S', X'⟩
            rw [List.length_map, List.take_of_length_le (by rw [List.length_map]; exact Nat.le_refl _)] at hD'
            exact ⟨_, D, rfl, S', X', hD', W0.shift rfl, hD0, hDl⟩
        · exact ⟨hs, p, rfl, S3, x2.trans x3, hp3, W0, hp, pl⟩
      · rintro σ' H3 ⟨hs, q, rfl, S3, x3, hq3, W, hq0, ql⟩
        refine ⟨(by show 0 ≤ sizeLine; decide), fun r hr0 => ?_⟩
        have rl := S3.ne hr0
        have hr00 := Ext_free x3 S3 hr0
        have qr : q ≠ r := fun z => by rw [z, hr0] at hq3; cases hq3
        refine ⟨_, rfl, l, 6, rfl, S3.new hr0, by decide, by decide, fun d4 H4 g1 g2 S4 x4 => ?_⟩
        have X4 : Ext l H H4 := (x3.trans (Ext.new hr0)).trans x4
        have hq4 := x4 _ _ (Same.new hr0 _ _ hq3) ql
        refine ⟨_, _, rfl, rfl, _, rfl, q, rfl, ⟨_, SqL.of hq4⟩, ?_⟩
        refine for_list (K := K) (a := q) (xs := hs.map V.int) (fun i σ H' => ∃ (rs : List V) (ls : List (Int × Int)) (o7 o8 : Option V), σ = [some (.ref l), some (.ref q), some (.int low), o3, o4, some (.ref r), some (.int (1 + d4)), o7, o8, none] ∧ StAt H' l ∧ Ext l H H' ∧ H' q = some (.lst (hs.map V.int)) ∧ H' r = some (.lst rs) ∧ LnAt H' rs ls ∧ ls.Nodup ∧
          ∀ p ∈ ls, p.1 < p.2 ∧ p.2 ∈ hs ∧ p.1 ∈ hs.take i) ?_ ?_ ?_ ?_
        · exact ⟨[], [], none, none, rfl, S4, X4, hq4, x4 _ _ upd_same rl, ⟨rfl, fun i r p e => by simp at e⟩, List.nodup_nil, fun p m => by cases m⟩
        · rintro i σ H' _ ⟨rs, ls, o7, o8, _, _, _, e, _⟩
          exact SqL.of e
        · rintro i x σ H5 hi ⟨rs, ls, o7, o8, rfl, S5, X5, hq5, hr5, hls, nd, ok⟩
          rw [List.getElem?_map] at hi
          obtain ⟨x, hx, rfl⟩ := Option.map_eq_some_iff.mp hi
          have hxm : x ∈ hs := List.mem_of_getElem? hx
          have ei : hs.take (i + 1) = hs.take i ++ [x] := by rw [List.take_add_one, hx]; rfl
          refine ⟨_, rfl, q, rfl, ⟨_, SqL.of hq5⟩, ?_⟩
          refine for_list (K := K) (a := q) (xs := hs.map V.int) (fun j σ H' => ∃ (rs : List V) (ls : List (Int × Int)) (o8 : Option V), σ = [some (.ref l), some (.ref q), some (.int low), o3, o4, some (.ref r), some (.int (1 + d4)), some (.int x), o8, none] ∧ StAt H' l ∧ Ext l H H' ∧ H' q = some (.lst (hs.map V.int)) ∧ H' r = some (.lst rs) ∧ LnAt H' rs ls ∧ ls.Nodup ∧
            ∀ p ∈ ls, p.1 < p.2 ∧ p.2 ∈ hs ∧ (p.1 ∈ hs.take i ∨ (p.1 = x ∧ p.2 ∈ hs.take j))) ?_ ?_ ?_ ?_
          · exact ⟨rs, ls, o8, rfl, S5, X5, hq5, hr5, hls, nd, fun p m => ⟨(ok p m).1, (ok p m).2.1, .inl (ok p m).2.2⟩⟩
          · rintro j σ H' _ ⟨rs, ls, o8, _, _, _, e, _⟩
            exact SqL.of e
          · rintro j y σ H6 hj ⟨rs, ls, o8, rfl, S6, X6, hq6, hr6, hls, nd, ok⟩
            rw [List.getElem?_map] at hj
            obtain ⟨y, hy, rfl⟩ := Option.map_eq_some_iff.mp hj
            have hym : y ∈ hs := List.mem_of_getElem? hy
            have ej : hs.take (j + 1) = hs.take j ++ [y] := by rw [List.take_add_one, hy]; rfl
            have ok' : ∀ p ∈ ls, p.1 < p.2 ∧ p.2 ∈ hs ∧ (p.1 ∈ hs.take i ∨ (p.1 = x ∧ p.2 ∈ hs.take (j + 1))) := fun p m => ⟨(ok p m).1, (ok p m).2.1, (ok p m).2.2.imp id fun z => ⟨z.1, by rw [ej]; exact List.mem_append_left _ z.2⟩⟩
            refine ⟨_, rfl, _, rfl, _, _, rfl, rfl, _, rfl, ?_⟩
            refine ite2 (fun lt => ?_) (fun _ => ?_)
            · have lt : x < y := of_decide_eq_true lt
              refine ⟨_, rfl, _, rfl, l, 1 + d4, rfl, S6, by omega, log_small (by omega) (by omega), fun d7 H7 g5 g6 S7 x7 => ?_⟩
              have hq7 := x7 _ _ hq6 ql
              have hr7 := x7 _ _ hr6 rl
              have hls7 := hls.mono (Ext_tup S6 x7)
              refine ⟨rfl, _, rfl, ?_⟩
              refine ite2 (fun _ => ?_) (fun _ => ?_)
              · have L0 : Ls hs ls := Ls.of W nd fun p m => ⟨by
                  rcases (ok p m).2.2 with z | z
                  · exact List.mem_of_mem_take z
                  · rw [z.1]; exact hxm, (ok p m).2.1, (ok p m).1⟩
                have l66 := L0.le
                refine ⟨_, rfl, .inl ⟨rfl, _, SqL.of hr7⟩, _, rfl, _, rfl, (by show 2 ≤ sizeLine; decide), fun t ht => ?_⟩
                have tr : t ≠ r := fun z => by rw [z, hr7] at ht; cases ht
                have tl' := S7.ne ht
                refine ⟨r, _, _, rfl, rfl, Same.new ht _ _ hr7, small1000 (by rw [hls.1]; omega), ?_⟩
                refine ⟨rs ++ [.ref t], ls ++ [(x, y)], _, rfl, ?_, Ext_upd (Ext_upd (X6.trans x7) (Ext_free (X6.trans x7) S7 ht)) hr00, ?_, upd_same, ?_, ?_, fun p m => ?_⟩
                · obtain ⟨st, e1, e2⟩ := S7.new (o := .tup [.int x, .int y]) ht
                  exact ⟨st, (upd_ne rl.symm).trans e1, e2⟩
                · rw [upd_ne qr]; exact Same.new ht _ _ hq7
                · refine LnAt.snoc (hls7.mono fun b xs e => ?_) ((upd_ne tr).trans upd_same)
                  rw [upd_ne (fun z => by rw [z, hr7] at e; cases e)]
                  exact Same.new ht _ _ e
                · rw [List.nodup_append]
                  refine ⟨nd, by simp, fun p m p' m' => ?_⟩
                  rw [List.mem_singleton.mp m']
                  rintro rfl
                  rcases (ok _ m).2.2 with z | z
                  · exact nd_take (up_nodup W.up) hx z
                  · exact nd_take (up_nodup W.up) hy z.2
                · rcases List.mem_append.mp m with m | m
                  · exact ok' p m
                  · rw [List.mem_singleton.mp m]
                    exact ⟨lt, hym, .inr ⟨rfl, by rw [ej]; exact List.mem_append_right _ (List.mem_singleton.mpr rfl)⟩⟩
              · exact ⟨rs, ls, _, rfl, S7, X6.trans x7, hq7, hr7, hls7, nd, ok'⟩
            · exact iteN rfl ⟨rs, ls, _, rfl, S6, X6, hq6, hr6, hls, nd, ok'⟩
          · rintro σ H' ⟨rs, ls, o8, rfl, S', X', hq', hr', hls, nd, ok⟩
            refine ⟨rs, ls, _, o8, rfl, S', X', hq', hr', hls, nd, fun p m => ⟨(ok p m).1, (ok p m).2.1, ?_⟩⟩
            rw [ei]
            rcases (ok p m).2.2 with z | z
            · exact List.mem_append_left _ z
            · exact List.mem_append_right _ (List.mem_singleton.mpr z.1)
        · rintro σ H5 ⟨rs, ls, o7, o8, rfl, S5, X5, hq5, hr5, hls, nd, ok⟩
          have L0 : Ls hs ls := Ls.of W nd fun p m => ⟨List.mem_of_mem_take (ok p m).2.2, (ok p m).2.1, (ok p m).1⟩
          have l66 := L0.le
          have hz := hls.1
          refine ⟨_, rfl, _, rfl, r, _, rfl, .inl (SqL.of hr5), _, _, rfl, rfl, l, _, rfl, S5, by omega, log_small (by omega) (by omega), fun d6 H6 g5 g6 S6 x6 => ?_⟩
          have hq6 := x6 _ _ hq5 ql
          have hr6 := x6 _ _ hr5 rl
          have X6 := X5.trans x6
          obtain ⟨n, rfl⟩ : ∃ n : Nat, d6 = n := ⟨d6.toNat, by omega⟩
          have hn : n ≤ rs.length := by omega
          refine ⟨_, rfl, _, rfl, _, rfl, _, rfl, r, _, rfl, SqL.of hr6, fun p1 hp1 => ?_⟩
          refine ⟨_, rfl, _, rfl, _, rfl, r, _, rfl, SqL.of (Same.new hp1 _ _ hr6), fun p2 hp2 => ?_⟩
          rw [cut_lo hn] at hp2 ⊢
          rw [cut_hi hn]
          have n12 : p1 ≠ p2 := fun z => by rw [← z, upd_same] at hp2; cases hp2
          refine ⟨p1, p2, _, _, rfl, rfl, (upd_ne n12).trans upd_same, upd_same, ?_, fun p3 hp3 => ?_⟩
          · rw [List.length_drop, List.length_take]
            exact Nat.le_of_lt (small1000 (by omega))
          · refine ⟨(by show 2 ≤ sizeLine; decide), fun t ht => ?_⟩
            have s1 := Same.new (o := .lst (rs.drop n)) hp1
            have s2 := s1.trans (Same.new (o := .lst (rs.take n)) hp2)
            have s3 := s2.trans (Same.new (o := .lst (rs.drop n ++ rs.take n)) hp3)
            have s4 := s3.trans (Same.new (o := .tup [.ref q, .ref p3]) ht)
            have f3 := Ext_free X6 S6 (s2.free hp3)
            have f4 := Ext_free X6 S6 (s3.free ht)
            exact k t q p3 _ hs _ _ upd_same (s4 _ _ hq6) (Same.new ht _ _ upd_same) (((hls.mono (Ext_tup S5 x6)).same s4).turn n) W (L0.turn n) (S6.same s4) (X6.trans (Ext.same s4)) f4 hq0 f3
end
end K04

/-! K02r -/
set_option Elab.async false
set_option linter.all false
set_option maxRecDepth 100000
set_option maxHeartbeats 4000000
namespace K04
open PySem L2
section
variable {P : Program} {w : World} {K : PySem.W.Frag} {mg : Str → Option Value} {base : Heap} {a : Ad}
def spRef : Sp := fun vs H Q _ => ∃ (v u : V) (d : HD) (e : LsD), vs = [v, u] ∧ IsH H v d ∧ IsLs H u e ∧ e.size ≤ 1000 ∧ ∀ H', Same H H' → Q (.bl (!webB d e)) H'
theorem ok_ref (T : Txt K mg a) : FnOk P w K mg base CX0 6 a.f__law_refused a.d__law_refused ["_law_hands", "_law_lines"] spRef := by
  have mx_Web : Maker1 P w K mg base "Web" a.c_Web a.f_Web___init__ a.d_Web___init__ ["self", "hands", "lines"] 4 (spWebX a) := ⟨ok_web T, T.g_Web, T.mk_Web, T.b_Web___init__⟩
  refine T.F__law_refused.ok sc__law_refused (fun vs H Q E h => ?_) (fun cdv A outer s H vs Q E hr h => ?_)
  · obtain ⟨v, u, d, e, rfl, _⟩ := h
    rfl
  · obtain ⟨v, u, d, e, rfl, hv, hu, hz, k⟩ := h
    refine bx_in (w_pss_cons (w_ps_set (i := 2) sc__law_refused.nd rfl (Or.inl rfl) (w_pe_lst (w_pa_C w_pe_bl w_pa_nil)))
      (w_pss_cut (w_ps_tryAs (i := 3) rfl rfl sc__law_refused.nd rfl rfl T.xc_NoWeb T.g_NoWeb (w_px_expr (w_pv_m mx_Web (hr.mono (by omega)) (w_pa_N (w_pv 0) (w_pa_N (w_pv 1) w_pa_nil)))) (fun _ => (w_pss_cons (w_ps_set (i := 2) sc__law_refused.nd rfl (Or.inl rfl) (w_pe_lst (w_pa_K (w_pe_callB (call_isiK (K := K) rfl) (by rfl) T.n_isinstance bt_isinstance (w_pa_N (w_pv 3) (w_pa_N (w_pe_cls T.g_NoHand) w_pa_nil))) (w_pa_K (w_pe_callB (call_isiK (K := K) rfl) (by rfl) T.n_isinstance bt_isinstance (w_pa_N (w_pv 3) (w_pa_N (w_pe_cls T.g_NoLine) w_pa_nil))) (w_pa_K (w_pe_callB (call_isiK (K := K) rfl) (by rfl) T.n_isinstance bt_isinstance (w_pa_N (w_pv 3) (w_pa_N (w_pe_cls T.g_NoWay) w_pa_nil))) (w_pa_K (w_pe_callB (call_isiK (K := K) rfl) (by rfl) T.n_isinstance bt_isinstance (w_pa_N (w_pv 3) (w_pa_N (w_pe_cls T.g_NoProgram) w_pa_nil))) w_pa_nil))))))
        (w_pss_one (w_ps_set (i := 2) sc__law_refused.nd rfl (Or.inl rfl) (w_pe_op op_cat (w_pv 2) (w_pe_lst (w_pa_U (w_pe_not (w_pe_callB (call_isiK (K := K) rfl) (by rfl) T.n_isinstance bt_isinstance (w_pa_N (w_pv 3) (w_pa_N (w_pe_cls T.g_BeatlessError) w_pa_nil)))) (w_pa_U (w_pe_not (w_pe_callB (call_isiK (K := K) rfl) (by rfl) T.n_isinstance bt_isinstance (w_pa_N (w_pv 3) (w_pa_N (w_pe_bty T.n_ValueError bt_ValueError) w_pa_nil)))) w_pa_nil)))))))))
      (w_pss_one (w_ps_ret (w_pe_not (w_pe_callB (call_anyB rfl) (by rfl) T.n_any bt_any (w_pa_N (w_pv 2) w_pa_nil))))))) ?_
    refine ⟨by show 1 ≤ sizeLine; decide, fun p hp => ?_⟩
    have y := Same.new (o := HO.lst [V.bl true]) hp
    refine ⟨fun σ' H' => ∃ (q : Addr) (bs : List Bool) (o2 : Option V), σ' = [some v, some u, some (.ref q), o2] ∧ H' q = some (.lst (bs.map V.bl)) ∧ Q (.bl (!(bs.any id))) H', ?_, ?_⟩
    · refine ⟨_, rfl, _, rfl, fun x dx nx ndx nex => ?_⟩
      have sN : Same _ (upd (upd (upd H p (HO.lst [V.bl true])) dx (.own x)) x (.ins a.c_Web dx [])) := fun b o e => by
        rw [upd_ne (ne_of_none e nx), upd_ne (ne_of_none e ndx)]
        exact e
      have sM := y.trans sN
      refine ⟨x, dx, v, u, d, e, rfl, upd_same, hv.same sM, hu.same sM, hz, fun hg H' s' => ⟨rfl, ?_⟩, fun hg H' s' => ⟨rfl, fun ax hax => ?_⟩⟩
      · rw [hg] at k
        refine ⟨p, [true], none, rfl, ?_, k _ fun b o e => ?_⟩
        · exact s' _ _ (sN _ _ upd_same) (ne_of_none upd_same nx)
        · exact s' _ _ (sM b o e) (ne_of_none (y _ _ e) nx)
      · rw [hg] at k
        have hX : upd H' ax (.ext (ObC ax a.c_NoWeb)) ax = some (.ext (ObC ax a.c_NoWeb)) := upd_same
        have sX := Same.new (o := HO.ext (ObC ax a.c_NoWeb)) hax
        refine ⟨_, rfl, ax, a.c_NoWeb, _, _, _, rfl, rfl, hX, T.xi_NoWeb, T.k_NoWeb_NoHand, _, rfl, ax, a.c_NoWeb, _, _, _, rfl, rfl, hX, T.xi_NoWeb, T.k_NoWeb_NoLine, _, rfl, ax, a.c_NoWeb, _, _, _, rfl, rfl, hX, T.xi_NoWeb, T.k_NoWeb_NoWay, _, rfl, ax, a.c_NoWeb, _, _, _, rfl, rfl, hX, T.xi_NoWeb, T.k_NoWeb_NoProgram, (by show 4 ≤ sizeLine; decide), fun p1 hp1 => ?_⟩
        have y1 := Same.new (o := HO.lst [V.bl false, V.bl false, V.bl false, V.bl false]) hp1
        refine ⟨_, rfl, _, rfl, ax, a.c_NoWeb, _, _, _, rfl, rfl, y1 _ _ hX, T.xi_NoWeb, T.k_NoWeb_BeatlessError, _, rfl, _, rfl, ax, a.c_NoWeb, _, _, _, rfl, rfl, y1 _ _ hX, T.xi_NoWeb, T.k_NoWeb_tValueError, _, rfl, (by show 2 ≤ sizeLine; decide), fun p2 hp2 => ?_⟩
        have y2 := Same.new (o := HO.lst [V.bl (!true), V.bl (!true)]) hp2
        refine ⟨p1, p2, _, _, rfl, rfl, y2 _ _ upd_same, upd_same, (by show 4 + 2 ≤ sizeLine; decide), fun p3 hp3 => ?_⟩
        refine ⟨p3, [false, false, false, false, false, false], none, rfl, upd_same, ?_⟩
        exact k _ ((((sM.trans s').trans sX).trans y1).trans (y2.trans (Same.new hp3)))
    · rintro σ' H' ⟨q, bs, o2, rfl, hq, kq⟩
      exact ⟨_, rfl, q, bs, rfl, SqL.of hq, _, rfl, kq⟩
end
end K04

/-! K02n -/
set_option Elab.async false
set_option linter.all false
set_option maxRecDepth 100000
set_option maxHeartbeats 4000000
namespace K04
open PySem L2
def pds (ls : List (Int × Int)) : List LD := ls.map fun p => .tup [.int p.1, .int p.2]
theorem pds_pairs (ls : List (Int × Int)) : (pds ls).map pairOf = ls.map some := by
  unfold pds
  rw [List.map_map]
  exact List.map_congr_left fun p _ => rfl
theorem lnAt_ds {H : Hp} : ∀ {rs : List V} {ls : List (Int × Int)}, LnAt H rs ls → Paired (IsL H) rs (pds ls)
  | [], [], _ => .nil
  | [], _ :: _, h => by cases h.1
  | _ :: _, [], h => by cases h.1
  | r :: rs, p :: ls, h => by
    obtain ⟨q, e, hq⟩ := h.2 0 r p rfl rfl
    refine .cons ⟨q, e, hq, rfl⟩ (lnAt_ds ⟨by simpa using h.1, fun i r' p' e1 e2 => h.2 (i + 1) r' p' (by simpa using e1) (by simpa using e2)⟩)
theorem papp {α β : Type} {F : α → β → Prop} : ∀ {as as' : List α} {bs bs' : List β}, Paired F as bs → Paired F as' bs' → Paired F (as ++ as') (bs ++ bs')
  | _, _, _, _, .nil, h => h
  | _, _, _, _, .cons x t, h => .cons x (papp t h)
theorem notT {b : Bool} (h : b = true → False) : b = false := by
  cases b with
  | true => exact (h rfl).elim
  | false => rfl
theorem bad_oth {d : HD} : webB d .oth = false := by cases d <;> rfl
theorem bad_hoth {e : LsD} : webB .oth e = false := by cases e <;> rfl
theorem bad_hb {xs : List V} {e : LsD} (h : handsB xs = false) : webB (.lst xs) e = false := by
  cases e with
  | oth => rfl
  | lst ds => show (handsB xs && _) = false; rw [h]; rfl
theorem bad_hand {xs : List V} {e : LsD} {v : V} (m : v ∈ xs) (h : ∀ i, v = .int i → 0 ≤ i → i ≤ 99 → False) : webB (.lst xs) e = false := bad_hb <| notT fun z => by
  obtain ⟨hs, rfl, W⟩ := handsB_ints z
  obtain ⟨i, mi, rfl⟩ := List.mem_map.mp m
  exact h i rfl (W.lo i mi) (W.hi i mi)
theorem bad_twice {xs : List V} {e : LsD} {v : V} (m : v ∈ xs) : webB (.lst (xs ++ [v])) e = false := bad_hb <| notT fun z => by
  obtain ⟨hs, eq, W⟩ := handsB_ints z
  have nd : (hs.map V.int).Nodup := by
    rw [List.nodup_iff_pairwise_ne, List.pairwise_map]
    exact W.up.imp fun {a b} lt e => by injection e with e; omega
  rw [← eq, List.nodup_append] at nd
  exact nd.2.2 v m v (by simp) rfl
theorem bad_line {xs : List V} {ds : List LD} {d : LD} (m : d ∈ ds) (h : ∀ p, pairOf d = some p → p.1 ∈ intsOf xs → p.2 ∈ intsOf xs → p.1 < p.2 → Hs (intsOf xs) → False) : webB (.lst xs) (.lst ds) = false := notT fun z => by
  obtain ⟨xs', ds', e1, e2, h1, h2⟩ := webB_iff z
  cases e1
  cases e2
  obtain ⟨ls, e, _, ok⟩ := linesB_pairs h2 List.nodup_nil
  have mp : pairOf d ∈ ls.map some := by rw [← e]; exact List.mem_map.mpr ⟨d, m, rfl⟩
  obtain ⟨p, pm, ep⟩ := List.mem_map.mp mp
  obtain ⟨hs, rfl, W⟩ := handsB_ints h1
  rw [intsOf_map] at ok h
  have := ok p pm
  exact h p ep.symm this.1 this.2.1 this.2.2 W
theorem bad_none {xs : List V} {ds : List LD} {d : LD} (m : d ∈ ds) (h : pairOf d = none) : webB (.lst xs) (.lst ds) = false := bad_line m fun p e => by rw [h] at e; cases e
theorem bad_dup {xs : List V} {ls : List (Int × Int)} {p : Int × Int} (m : p ∈ ls) : webB (.lst xs) (.lst (pds ls ++ [.tup [.int p.1, .int p.2]])) = false := notT fun z => by
  obtain ⟨xs', ds', e1, e2, h1, h2⟩ := webB_iff z
  cases e1
  cases e2
  obtain ⟨ls', e, nd, ok⟩ := linesB_pairs h2 List.nodup_nil
  rw [List.map_append, pds_pairs] at e
  have e : (ls ++ [p]).map some = ls'.map some := by rw [List.map_append]; exact e
  have e : ls ++ [p] = ls' := by
    have f : ∀ xs : List (Int × Int), (xs.map some).filterMap id = xs := fun xs => by induction xs with | nil => rfl | cons x t ih => rw [List.map_cons, List.filterMap_cons]; simp only [id]; rw [ih]
    rw [← f (ls ++ [p]), e, f]
  rw [List.nil_append, ← e, List.nodup_append] at nd
  exact nd.2.2 p m p (by simp) rfl
def BadT (H : Hp) (t : V) : Prop := ∃ q v u d e, t = .ref q ∧ H q = some (.tup [v, u]) ∧ IsH H v d ∧ IsLs H u e ∧ e.size ≤ 1000 ∧ webB d e = false
theorem BadT.same {H H' : Hp} {t : V} (h : BadT H t) (s : Same H H') : BadT H' t := by
  obtain ⟨q, v, u, d, e, h1, h2, h3, h4, h5⟩ := h
  exact ⟨q, v, u, d, e, h1, s _ _ h2, h3.same s, h4.same s, h5⟩
def hide (st : List Addr) (H : Hp) : Hp := fun b => if b ∈ st then none else H b
theorem hide_of {st : List Addr} {b : Addr} {H : Hp} {o : HO} (n : b ∉ st) (h : H b = some o) : hide st H b = some o := by unfold hide; rw [if_neg n]; exact h
theorem hide_get {st : List Addr} {b : Addr} {H : Hp} {o : HO} (e : hide st H b = some o) : b ∉ st ∧ H b = some o := by
  unfold hide at e
  split at e
  · cases e
  · exact ⟨‹_›, e⟩
theorem hide_sub {st : List Addr} {H : Hp} : Same (hide st H) H := fun b o e => (hide_get e).2
theorem hide_ext {st : List Addr} {l : Addr} {H H' : Hp} (m : l ∈ st) (x : Ext l H H') : Same (hide st H) (hide st H') := fun b o e => by
  obtain ⟨n, e'⟩ := hide_get e
  exact hide_of n (x b o e' fun z => n (by rw [z]; exact m))
theorem hide_same {st : List Addr} {H H' : Hp} (x : Same H H') : Same (hide st H) (hide st H') := fun b o e => by
  obtain ⟨n, e'⟩ := hide_get e
  exact hide_of n (x b o e')
theorem hide_more {st : List Addr} {p : Addr} {H H' : Hp} (hp : H p = none) (s : Same (hide st H) (hide st H')) : Same (hide st H) (hide (p :: st) H') := fun b o e => by
  obtain ⟨n, e'⟩ := hide_get e
  obtain ⟨_, e''⟩ := hide_get (s b o e)
  refine hide_of (fun z => ?_) e''
  rcases List.mem_cons.mp z with rfl | z
  · rw [hp] at e'; cases e'
  · exact n z
theorem hide_less {st : List Addr} {p : Addr} {H : Hp} : Same (hide (p :: st) H) (hide st H) := fun b o e => by
  obtain ⟨n, e'⟩ := hide_get e
  exact hide_of (fun z => n (List.mem_cons_of_mem _ z)) e'
def HasO (st : List Addr) (H : Hp) : Prop := ∀ b ∈ st, ∃ o, H b = some o
theorem HasO.same {st : List Addr} {H H' : Hp} (h : HasO st H) (s : Same H H') : HasO st H' := fun b m => by
  obtain ⟨o, e⟩ := h b m
  exact ⟨o, s _ _ e⟩
theorem hnew {st : List Addr} {p : Addr} {H H1 : Hp} {o : HO} (S : HasO st H) (s : Same H H1) (hp : H1 p = none) : hide st (upd H1 p o) p = some o := by
  refine hide_of (fun z => ?_) upd_same
  obtain ⟨u, hu⟩ := S p z
  rw [s _ _ hu] at hp
  cases hp
section
variable {st : List Addr} {σ : St} {H : Hp} {K : PySem.W.Frag}
def GvH (st : List Addr) (σ : St) (H : Hp) (d : HD) (te : TE) : Prop := ∀ H1, Same H H1 → ∀ Q : VK, (∀ v H2, Same H1 H2 → IsH (hide st H2) v d → Q v H2) → te σ H1 Q
def GvL (st : List Addr) (σ : St) (H : Hp) (e : LsD) (te : TE) : Prop := ∀ H1, Same H H1 → ∀ Q : VK, (∀ v H2, Same H1 H2 → IsLs (hide st H2) v e → Q v H2) → te σ H1 Q
def GvD (st : List Addr) (σ : St) (H : Hp) (d : LD) (te : TE) : Prop := ∀ H1, Same H H1 → ∀ Q : VK, (∀ v H2, Same H1 H2 → IsL (hide st H2) v d → Q v H2) → te σ H1 Q
def GvI (σ : St) (H : Hp) (x : V) (te : TE) : Prop := ∀ H1, Same H H1 → ∀ Q : VK, Q x H1 → te σ H1 Q
def GvXs (σ : St) (H : Hp) (xs : List V) (t : TA) : Prop := ∀ H1, Same H H1 → ∀ Q : List V → Hp → Prop, Q xs H1 → t σ H1 Q
def GvDs (st : List Addr) (σ : St) (H : Hp) (ds : List LD) (t : TA) : Prop := ∀ H1, Same H H1 → ∀ Q : List V → Hp → Prop, (∀ rs H2, Same H1 H2 → Paired (IsL (hide st H2)) rs ds → Q rs H2) → t σ H1 Q
def GvT (st : List Addr) (σ : St) (H : Hp) (te : TE) : Prop := ∀ H1, Same H H1 → ∀ Q : VK, (∀ v H2, Same H1 H2 → BadT (hide st H2) v → Q v H2) → te σ H1 Q
def GvTs (st : List Addr) (σ : St) (H : Hp) (n : Nat) (t : TA) : Prop := ∀ H1, Same H H1 → ∀ Q : List V → Hp → Prop, (∀ rs H2, Same H1 H2 → rs.length = n → (∀ t ∈ rs, BadT (hide st H2) t) → Q rs H2) → t σ H1 Q
theorem gi_var {i : Nat} {x : V} (h : σ[i]? = some (some x)) : GvI σ H x (tVar i) := fun H1 s Q q => ⟨x, h, q⟩
theorem gi_c {x : V} : GvI σ H x (tC x) := fun H1 s Q q => q
theorem gx_nil : GvXs σ H [] tNil := fun H1 s Q q => q
theorem gx_cons {x : V} {xs : List V} {te : TE} {t : TA} (h : GvI σ H x te) (ht : GvXs σ H xs t) : GvXs σ H (x :: xs) (tCons te t) := fun H1 s Q q => h H1 s _ (ht H1 s _ q)
theorem gh_lst {xs : List V} {t : TA} (S : HasO st H) (h : GvXs σ H xs t) (f : xs.all flatV = true) (hz : xs.length ≤ 1000) : GvH st σ H (.lst xs) (tLst t) := fun H1 s Q k => h H1 s _ ⟨Nat.le_of_lt (small1000 hz), fun p hp => k _ _ (Same.new hp) ⟨p, rfl, hnew S s hp, f⟩⟩
theorem gh_var {i : Nat} {v : V} {d : HD} (h : σ[i]? = some (some v)) (hv : IsH (hide st H) v d) : GvH st σ H d (tVar i) := fun H1 s Q k => ⟨v, h, k v H1 (Same.refl _) (hv.same (hide_same s))⟩
theorem gh_cat {xs ys : List V} {ta tb : TE} (S : HasO st H) (ha : GvH st σ H (.lst xs) ta) (hb : GvH st σ H (.lst ys) tb) (hz : xs.length + ys.length ≤ 1000) : GvH st σ H (.lst (xs ++ ys)) (tOp rCat ta tb) := fun H1 s Q k => by
  refine ha H1 s _ fun v H2 s2 hv => ?_
  obtain ⟨p, rfl, hp, f⟩ := hv
  refine hb H2 (s.trans s2) _ fun u H3 s3 hu => ?_
  obtain ⟨q, rfl, hq, g⟩ := hu
  exact ⟨p, q, xs, ys, rfl, rfl, s3 _ _ (hide_sub _ _ hp), hide_sub _ _ hq, Nat.le_of_lt (small1000 hz), fun r hr => k _ _ ((s2.trans s3).trans (Same.new hr)) ⟨r, rfl, hnew S ((s.trans s2).trans s3) hr, by rw [List.all_append, f, g]; rfl⟩⟩
theorem gh_non : GvH st σ H .oth (tC .non) := fun H1 s Q k => k _ _ (Same.refl _) (.inl rfl)
theorem gh_str {x : Str} : GvH st σ H .oth (tC (.str x)) := fun H1 s Q k => k _ _ (Same.refl _) (.inr (.inl ⟨x, rfl⟩))
theorem gh_tuple {i : Nat} {h : Addr} {xs : List V} (S : HasO st H) (e : σ[i]? = some (some (.ref h))) (hh : H h = some (.lst xs)) : GvH st σ H .oth (tCB (fun xs H Q => ∃ p ys, xs = [.ref p] ∧ ((SqL K H p ys ∧ ∀ l, H l = none → Q (.ref l) (upd H l (.tup ys))) ∨ (SqT K H p ys ∧ Q (.ref p) H))) (tCons (tVar i) tNil)) :=
  fun H1 s Q k => ⟨_, e, h, xs, rfl, .inl ⟨SqL.of (s _ _ hh), fun l hl => k _ _ (Same.new hl) (.inr (.inr ⟨l, xs, rfl, hnew S s hl⟩))⟩⟩
theorem gl_tuple {i : Nat} {h : Addr} {xs : List V} (S : HasO st H) (e : σ[i]? = some (some (.ref h))) (hh : H h = some (.lst xs)) : GvL st σ H .oth (tCB (fun xs H Q => ∃ p ys, xs = [.ref p] ∧ ((SqL K H p ys ∧ ∀ l, H l = none → Q (.ref l) (upd H l (.tup ys))) ∨ (SqT K H p ys ∧ Q (.ref p) H))) (tCons (tVar i) tNil)) :=
  fun H1 s Q k => ⟨_, e, h, xs, rfl, .inl ⟨SqL.of (s _ _ hh), fun l hl => k _ _ (Same.new hl) (.inr ⟨l, xs, rfl, hnew S s hl⟩)⟩⟩
theorem gl_non : GvL st σ H .oth (tC .non) := fun H1 s Q k => k _ _ (Same.refl _) (.inl rfl)
theorem gl_var {i : Nat} {v : V} {d : LsD} (h : σ[i]? = some (some v)) (hv : IsLs (hide st H) v d) : GvL st σ H d (tVar i) := fun H1 s Q k => ⟨v, h, k v H1 (Same.refl _) (hv.same (hide_same s))⟩
theorem gd_nil : GvDs st σ H [] tNil := fun H1 s Q k => k _ _ (Same.refl _) .nil
theorem gd_cons {d : LD} {ds : List LD} {te : TE} {t : TA} (h : GvD st σ H d te) (ht : GvDs st σ H ds t) : GvDs st σ H (d :: ds) (tCons te t) := fun H1 s Q k => h H1 s _ fun v H2 s2 hv => ht H2 (s.trans s2) _ fun rs H3 s3 hr => k _ _ (s2.trans s3) (.cons (hv.same (hide_same s3)) hr)
theorem gl_lst {ds : List LD} {t : TA} (S : HasO st H) (h : GvDs st σ H ds t) (hz : ds.length ≤ 1000) : GvL st σ H (.lst ds) (tLst t) := fun H1 s Q k => h H1 s _ fun rs H2 s2 hr => ⟨by rw [hr.length]; exact Nat.le_of_lt (small1000 hz), fun p hp => k _ _ (s2.trans (Same.new hp)) ⟨p, rs, rfl, hnew S (s.trans s2) hp, L2.Paired.imp' (fun _ _ z => z.same (hide_same (Same.new hp))) hr⟩⟩
theorem gl_cat {ds es : List LD} {ta tb : TE} (S : HasO st H) (ha : GvL st σ H (.lst ds) ta) (hb : GvL st σ H (.lst es) tb) (hz : ds.length + es.length ≤ 1000) : GvL st σ H (.lst (ds ++ es)) (tOp rCat ta tb) := fun H1 s Q k => by
  refine ha H1 s _ fun v H2 s2 hv => ?_
  obtain ⟨p, rs, rfl, hp, f⟩ := hv
  refine hb H2 (s.trans s2) _ fun u H3 s3 hu => ?_
  obtain ⟨q, rs', rfl, hq, g⟩ := hu
  refine ⟨p, q, rs, rs', rfl, rfl, s3 _ _ (hide_sub _ _ hp), hide_sub _ _ hq, by rw [f.length, g.length]; exact Nat.le_of_lt (small1000 hz), fun r hr => k _ _ ((s2.trans s3).trans (Same.new hr)) ⟨r, _, rfl, hnew S ((s.trans s2).trans s3) hr, ?_⟩⟩
  exact papp (L2.Paired.imp' (fun _ _ z => z.same (hide_same (s3.trans (Same.new hr)))) f) (L2.Paired.imp' (fun _ _ z => z.same (hide_same (Same.new hr))) g)
theorem gd_non : GvD st σ H .oth (tC .non) := fun H1 s Q k => k _ _ (Same.refl _) (.inl rfl)
theorem gd_tup {xs : List V} {t : TA} (S : HasO st H) (h : GvXs σ H xs t) (f : xs.all flatV = true) (hz : xs.length ≤ 1000) : GvD st σ H (.tup xs) (tTup t) := fun H1 s Q k => h H1 s _ ⟨Nat.le_of_lt (small1000 hz), fun p hp => k _ _ (Same.new hp) ⟨p, rfl, hnew S s hp, f⟩⟩
theorem gd_lst {xs : List V} {t : TA} (S : HasO st H) (h : GvXs σ H xs t) (hz : xs.length ≤ 1000) : GvD st σ H .oth (tLst t) := fun H1 s Q k => h H1 s _ ⟨Nat.le_of_lt (small1000 hz), fun p hp => k _ _ (Same.new hp) (.inr ⟨p, xs, rfl, hnew S s hp⟩)⟩
theorem gd_var {i : Nat} {v : V} {d : LD} (h : σ[i]? = some (some v)) (hv : IsL (hide st H) v d) : GvD st σ H d (tVar i) := fun H1 s Q k => ⟨v, h, k v H1 (Same.refl _) (hv.same (hide_same s))⟩
theorem gt_mk {d : HD} {e : LsD} {ta tb : TE} (S : HasO st H) (ha : GvH st σ H d ta) (hb : GvL st σ H e tb) (hz : e.size ≤ 1000) (hw : webB d e = false) : GvT st σ H (tTup (tCons ta (tCons tb tNil))) := fun H1 s Q k => by
  refine ha H1 s _ fun v H2 s2 hv => hb H2 (s.trans s2) _ fun u H3 s3 hu => ⟨by show 2 ≤ sizeLine; decide, fun p hp => ?_⟩
  have s4 := Same.new (o := HO.tup [v, u]) hp
  exact k _ _ ((s2.trans s3).trans s4) ⟨p, v, u, d, e, rfl, hnew S ((s.trans s2).trans s3) hp, hv.same (hide_same (s3.trans s4)), hu.same (hide_same s4), hz, hw⟩
theorem gs_nil : GvTs st σ H 0 tNil := fun H1 s Q k => k _ _ (Same.refl _) rfl fun t m => by cases m
theorem gs_cons {n : Nat} {te : TE} {t : TA} (h : GvT st σ H te) (ht : GvTs st σ H n t) : GvTs st σ H (n + 1) (tCons te t) := fun H1 s Q k => h H1 s _ fun v H2 s2 hv => ht H2 (s.trans s2) _ fun rs H3 s3 hl hr => k _ _ (s2.trans s3) (by rw [List.length_cons, hl]) fun t m => by
  rcases List.mem_cons.mp m with rfl | m
  · exact hv.same (hide_same s3)
  · exact hr t m
def BadL (st : List Addr) (H : Hp) (p : Addr) (n : Nat) : Prop := ∃ ts : List V, H p = some (.lst ts) ∧ p ∉ st ∧ ts.length = n ∧ ∀ t ∈ ts, BadT (hide (p :: st) H) t
theorem BadL.same {H H' : Hp} {p : Addr} {n : Nat} (h : BadL st H p n) (s : Same H H') : BadL st H' p n := by
  obtain ⟨ts, h1, h0, h2, h3⟩ := h
  exact ⟨ts, s _ _ h1, h0, h2, fun t m => (h3 t m).same (hide_same s)⟩
theorem BadL.ext {H H' : Hp} {p l : Addr} {n : Nat} (h : BadL st H p n) (m : l ∈ st) (x : Ext l H H') : BadL st H' p n := by
  obtain ⟨ts, h1, h0, h2, h3⟩ := h
  exact ⟨ts, x _ _ h1 (fun z => h0 (by rw [z]; exact m)), h0, h2, fun t mt => (h3 t mt).same (hide_ext (List.mem_cons_of_mem _ m) x)⟩
theorem BadL.new {H H1 : Hp} {p : Addr} {ts : List V} (S : HasO st H) (s : Same H H1) (hp : H1 p = none) (b : ∀ t ∈ ts, BadT (hide st H1) t) : BadL st (upd H1 p (.lst ts)) p ts.length :=
  ⟨ts, upd_same, (hide_get (hnew (o := .lst ts) S s hp)).1, rfl, fun t m => (b t m).same (hide_more hp (hide_same (Same.new hp)))⟩
def GvB (st : List Addr) (σ : St) (H : Hp) (n : Nat) (te : TE) : Prop := ∀ H1, Same H H1 → ∀ Q : VK, (∀ p H2, Same H1 H2 → BadL st H2 p n → Q (.ref p) H2) → te σ H1 Q
def GvN (st : List Addr) (σ : St) (H : Hp) (n : Nat) (te : TE) : Prop := ∀ H1, Same H H1 → ∀ Q : VK, (∀ p H2, Same H1 H2 → H1 p = none → BadL st H2 p n → Q (.ref p) H2) → te σ H1 Q
theorem GvN.gb {n : Nat} {te : TE} (h : GvN st σ H n te) : GvB st σ H n te := fun H1 s Q k => h H1 s Q fun p H2 s2 _ b => k p H2 s2 b
theorem gb_lst {n : Nat} {t : TA} (S : HasO st H) (h : GvTs st σ H n t) (hz : n ≤ 1000) : GvN st σ H n (tLst t) := fun H1 s Q k => h H1 s _ fun rs H2 s2 hl hr => ⟨by rw [hl]; exact Nat.le_of_lt (small1000 hz), fun p hp => k _ _ (s2.trans (Same.new hp)) (s2.free hp) (by rw [← hl]; exact BadL.new S (s.trans s2) hp hr)⟩
theorem gb_var {i n : Nat} {p : Addr} (h : σ[i]? = some (some (.ref p))) (hv : BadL st H p n) : GvB st σ H n (tVar i) := fun H1 s Q k => ⟨_, h, k p H1 (Same.refl _) (hv.same s)⟩
theorem gb_cat {m n : Nat} {ta tb : TE} (S : HasO st H) (ha : GvB st σ H m ta) (hb : GvB st σ H n tb) (hz : m + n ≤ 1000) : GvN st σ H (m + n) (tOp rCat ta tb) := fun H1 s Q k => by
  refine ha H1 s _ fun p H2 s2 hv => ?_
  obtain ⟨ts, hp, _, l1, b1⟩ := hv
  refine hb H2 (s.trans s2) _ fun q H3 s3 hu => ?_
  obtain ⟨us, hq, _, l2, b2⟩ := hu
  have s23 := s2.trans s3
  refine ⟨p, q, ts, us, rfl, rfl, s3 _ _ hp, hq, by rw [l1, l2]; exact Nat.le_of_lt (small1000 hz), fun r hr => k _ _ (s23.trans (Same.new hr)) (s23.free hr) ?_⟩
  have := BadL.new (ts := ts ++ us) S (s.trans s23) hr fun t m => by
    rcases List.mem_append.mp m with m | m
    · exact ((b1 t m).same hide_less).same (hide_same s3)
    · exact (b2 t m).same hide_less
  rw [List.length_append, l1, l2] at this
  exact this
theorem st_B {n i : Nat} {te : TE} {rest : TS} {D : Ends} (h : GvN st σ H n te) (k : ∀ p H2, Same H H2 → H p = none → BadL st H2 p n → rest D (σ.set i (some (.ref p))) H2) : tSeq (tAsg te (gName i)) rest D σ H := h H (Same.refl H) _ k
theorem st_L {e : LsD} {i : Nat} {te : TE} {rest : TS} {D : Ends} (h : GvL st σ H e te) (k : ∀ v H2, Same H H2 → IsLs (hide st H2) v e → rest D (σ.set i (some v)) H2) : tSeq (tAsg te (gName i)) rest D σ H := h H (Same.refl H) _ k
theorem st_B1 {n i : Nat} {te : TE} {D : Ends} (h : GvN st σ H n te) (k : ∀ p H2, Same H H2 → H p = none → BadL st H2 p n → D.nx (σ.set i (some (.ref p))) H2) : tAsg te (gName i) D σ H := h H (Same.refl H) _ k
theorem gi_neg {i : Int} {te : TE} (h : GvI σ H (.int i) te) : GvI σ H (.int (-i)) (tUn (rU fun i => V.int (-i)) te) := fun H1 s Q q => h H1 s _ ⟨i, rfl, q⟩
theorem gi_ix {i : Nat} {j : Int} {h : Addr} {xs : List V} {v : V} (e : σ[i]? = some (some (.ref h))) (hh : H h = some (.lst xs)) (ha : atI xs j = some v) : GvI σ H v (tOp (rIxL K) (tVar i) (tC (.int j))) := fun H1 s Q q => ⟨_, e, h, xs, j, v, rfl, rfl, SqL.of (s _ _ hh), ha, q⟩
theorem gh_rev {i : Nat} {h : Addr} {xs : List V} (S : HasO st H) (e : σ[i]? = some (some (.ref h))) (hh : H h = some (.lst xs)) (f : xs.all flatV = true) : GvH st σ H (.lst xs.reverse) (tRev K (tVar i) (tUn (rU fun i => V.int (-i)) (tC (.int 1)))) := fun H1 s Q k =>
  ⟨_, e, 1, rfl, rfl, h, xs, rfl, SqL.of (s _ _ hh), fun p hp => k _ _ (Same.new hp) ⟨p, rfl, hnew S s hp, by rw [List.all_reverse]; exact f⟩⟩
theorem all_rng (a : Int) (n : Nat) : (rngV a n).all flatV = true := by
  rw [List.all_eq_true]
  intro v hv
  obtain ⟨x, _, rfl⟩ := List.mem_map.mp hv
  rfl
end
end K04

/-! K02o -/
set_option Elab.async false
set_option linter.all false
set_option maxRecDepth 100000
set_option maxHeartbeats 8000000
namespace K04
open PySem L2
section
variable {P : Program} {w : World} {K : PySem.W.Frag} {mg : Str → Option Value} {base : Heap} {a : Ad}
theorem last_of {hs : List Int} (W : Hs hs) : ∃ x, x ∈ hs ∧ atI (hs.map V.int) (-1) = some (V.int x) := by
  have l1 := W.l1
  rcases List.eq_nil_or_concat hs with rfl | ⟨t, x, rfl⟩
  · simp at l1
  · refine ⟨x, by simp, ?_⟩
    rw [List.concat_eq_append, List.map_append]
    exact atI_last _ _
theorem head_of {hs : List Int} (W : Hs hs) : ∃ x, x ∈ hs ∧ atI (hs.map V.int) 0 = some (V.int x) := by
  match hs, W.l1 with
  | x :: t, _ => exact ⟨x, by simp, atI_nat (j := 0) rfl⟩
theorem mem_ints {x : Int} {hs : List Int} (m : x ∈ hs) : V.int x ∈ hs.map V.int := List.mem_map.mpr ⟨x, m, rfl⟩
def spBad : Sp := fun vs H Q _ => ∃ (h l st : Addr) (hs : List Int) (rs : List V) (ls : List (Int × Int)), vs = [.ref h, .ref l, .ref st] ∧ H h = some (.lst (hs.map V.int)) ∧ H l = some (.lst rs) ∧ LnAt H rs ls ∧ Hs hs ∧ Ls hs ls ∧ StAt H st ∧ h ≠ st ∧ l ≠ st ∧
  ∀ t H', BadT H' (.ref t) → Ext st H H' → Q (.ref t) H'
theorem ok_bad (T : Txt K mg a) : FnOk P w K mg base CX0 2 a.f__law_bad a.d__law_bad ["_law_hands", "_law_lines", "_law_state"] spBad := by
  have c__law_digit : Callee P w K mg base "_law_digit" a.f__law_digit a.d__law_digit ["_law_state", "_law_base"] 1 spDigit := ⟨ok_digit T, T.g__law_digit, T.F__law_digit.kp, T.b__law_digit⟩
  refine T.F__law_bad.ok sc__law_bad (fun vs H Q E h => ?_) (fun cdv A outer s H vs Q E hr h => ?_)
  · obtain ⟨h, l, st, hs, rs, ls, rfl, _⟩ := h
    rfl
  · obtain ⟨h, l, st, hs, rs, ls, rfl, hh, hl, hls, W, L, S0, nh, nl, k⟩ := h
    refine bx_in (w_pss_cons (w_ps_set (i := 3) sc__law_bad.nd rfl (Or.inl rfl) (w_pe_ix ix_list (w_pv 0) (w_pe_un un_neg w_pe_int) (fun _ _ => rfl)))
      (w_pss_cons (w_ps_set (i := 4) sc__law_bad.nd rfl (Or.inl rfl) (w_pe_lst (w_pa_T (w_pe_tup (w_pa_B (w_pe_op op_cat (w_pv 0) (w_pe_lst (w_pa_N (w_pv 3) w_pa_nil))) (w_pa_N (w_pv 1) w_pa_nil))) (w_pa_T (w_pe_tup (w_pa_B (w_pe_op op_cat (w_pe_rev (w_pv 0) (w_pe_un un_neg w_pe_int)) (w_pe_lst (w_pa_cons (w_pe_ix ix_list (w_pv 0) w_pe_int (fun _ _ => rfl)) w_pa_nil))) (w_pa_N (w_pv 1) w_pa_nil))) (w_pa_T (w_pe_tup (w_pa_B (w_pe_op op_cat (w_pe_lst (w_pa_U (w_pe_un un_neg w_pe_int) w_pa_nil)) (w_pv 0)) (w_pa_N (w_pv 1) w_pa_nil))) (w_pa_T (w_pe_tup (w_pa_B (w_pe_op op_cat (w_pv 0) (w_pe_lst (w_pa_C w_pe_int w_pa_nil))) (w_pa_N (w_pv 1) w_pa_nil))) w_pa_nil))))))
      (w_pss_cons (w_ps_set (i := 4) sc__law_bad.nd rfl (Or.inl rfl) (w_pe_op op_cat (w_pv 4) (w_pe_lst (w_pa_T (w_pe_tup (w_pa_B (w_pe_op op_cat (w_pe_slice sl_list (w_pe_comp rfl (N' := ["_law_hand"]) (t := 1) (caps := []) ⟨rfl, rfl, rfl⟩ (w_pi_list (w_pv 0)) (fun _ => (w_pg_name (i := 0) (show (["_law_hand"] : List Str).Nodup by decide +kernel) rfl (Or.inl rfl))) (fun _ => (w_pts_one (w_pt_cmpR op_gt (w_pv 0) w_pe_int (nomark _)))) (fun _ => (w_pv 0))) w_po_none (w_po_some w_pe_int)) (w_pe_lst (w_pa_C w_pe_bl w_pa_nil))) (w_pa_cons (w_pe_lst w_pa_nil) w_pa_nil))) (w_pa_T (w_pe_tup (w_pa_cons (w_pe_lst (w_pa_C w_pe_str w_pa_nil)) (w_pa_cons (w_pe_lst w_pa_nil) w_pa_nil))) (w_pa_T (w_pe_tup (w_pa_cons (w_pe_lst (w_pa_C w_pe_non w_pa_nil)) (w_pa_cons (w_pe_lst w_pa_nil) w_pa_nil))) (w_pa_T (w_pe_tup (w_pa_cons (w_pe_lst w_pa_nil) (w_pa_cons (w_pe_lst w_pa_nil) w_pa_nil))) w_pa_nil)))))))
      (w_pss_cons (w_ps_set (i := 4) sc__law_bad.nd rfl (Or.inl rfl) (w_pe_op op_cat (w_pv 4) (w_pe_lst (w_pa_T (w_pe_tup (w_pa_K (w_pe_callTy call_tuple_of (by rfl) T.n_tuple bt_tuple (w_pa_N (w_pv 0) w_pa_nil)) (w_pa_N (w_pv 1) w_pa_nil))) (w_pa_T (w_pe_tup (w_pa_C w_pe_non (w_pa_N (w_pv 1) w_pa_nil))) (w_pa_T (w_pe_tup (w_pa_K (w_pe_callTy (call_listR hr.hd) (by rfl) T.n_list bt_list (w_pa_K (w_pe_callTy call_range1O (by rfl) T.n_range PyProof.Rows.boot_range (w_pa_C w_pe_int w_pa_nil)) w_pa_nil)) (w_pa_cons (w_pe_lst w_pa_nil) w_pa_nil))) (w_pa_T (w_pe_tup (w_pa_K (w_pe_callTy (call_listR hr.hd) (by rfl) T.n_list bt_list (w_pa_K (w_pe_callTy call_range2O (by rfl) T.n_range PyProof.Rows.boot_range (w_pa_C w_pe_int (w_pa_C w_pe_int w_pa_nil))) w_pa_nil)) (w_pa_cons (w_pe_lst w_pa_nil) w_pa_nil))) w_pa_nil)))))))
      (w_pss_cons (w_ps_set (i := 4) sc__law_bad.nd rfl (Or.inl rfl) (w_pe_op op_cat (w_pv 4) (w_pe_lst (w_pa_T (w_pe_tup (w_pa_cons (w_pe_lst (w_pa_C w_pe_int (w_pa_C w_pe_int w_pa_nil))) (w_pa_cons (w_pe_lst w_pa_nil) w_pa_nil))) (w_pa_T (w_pe_tup (w_pa_cons (w_pe_lst (w_pa_C w_pe_int (w_pa_C w_pe_int w_pa_nil))) (w_pa_cons (w_pe_lst w_pa_nil) w_pa_nil))) (w_pa_T (w_pe_tup (w_pa_cons (w_pe_lst (w_pa_C w_pe_int (w_pa_C w_pe_int (w_pa_C w_pe_int (w_pa_C w_pe_int w_pa_nil))))) (w_pa_cons (w_pe_lst w_pa_nil) w_pa_nil))) (w_pa_T (w_pe_tup (w_pa_cons (w_pe_lst (w_pa_C w_pe_bl w_pa_nil)) (w_pa_cons (w_pe_lst w_pa_nil) w_pa_nil))) (w_pa_T (w_pe_tup (w_pa_cons (w_pe_lst (w_pa_C w_pe_int (w_pa_B (w_pe_op op_pow w_pe_int w_pe_int) w_pa_nil))) (w_pa_cons (w_pe_lst w_pa_nil) w_pa_nil))) (w_pa_T (w_pe_tup (w_pa_C w_pe_str (w_pa_cons (w_pe_lst w_pa_nil) w_pa_nil))) w_pa_nil)))))))))
      (w_pss_cons (w_ps_set (i := 4) sc__law_bad.nd rfl (Or.inl rfl) (w_pe_op op_cat (w_pv 4) (w_pe_lst (w_pa_T (w_pe_tup (w_pa_N (w_pv 0) (w_pa_K (w_pe_callTy call_tuple_of (by rfl) T.n_tuple bt_tuple (w_pa_N (w_pv 1) w_pa_nil)) w_pa_nil))) (w_pa_T (w_pe_tup (w_pa_N (w_pv 0) (w_pa_C w_pe_non w_pa_nil))) (w_pa_T (w_pe_tup (w_pa_N (w_pv 0) (w_pa_B (w_pe_op op_cat (w_pv 1) (w_pe_lst (w_pa_C w_pe_non w_pa_nil))) w_pa_nil))) (w_pa_T (w_pe_tup (w_pa_N (w_pv 0) (w_pa_B (w_pe_op op_cat (w_pv 1) (w_pe_lst (w_pa_T (w_pe_tup (w_pa_N (w_pv 3) (w_pa_N (w_pv 3) w_pa_nil))) w_pa_nil))) w_pa_nil))) w_pa_nil)))))))
      (w_pss_cons (w_ps_set (i := 5) sc__law_bad.nd rfl (Or.inl rfl) (w_pe_lst (w_pa_T (w_pe_tup (w_pa_cons (w_pe_ix ix_list (w_pv 0) w_pe_int (fun _ _ => rfl)) (w_pa_C w_pe_int w_pa_nil))) (w_pa_T (w_pe_tup (w_pa_U (w_pe_un un_neg w_pe_int) (w_pa_N (w_pv 3) w_pa_nil))) (w_pa_cons (w_pe_lst (w_pa_cons (w_pe_ix ix_list (w_pv 0) w_pe_int (fun _ _ => rfl)) (w_pa_N (w_pv 3) w_pa_nil))) (w_pa_T (w_pe_tup (w_pa_cons (w_pe_ix ix_list (w_pv 0) w_pe_int (fun _ _ => rfl)) w_pa_nil)) (w_pa_T (w_pe_tup (w_pa_cons (w_pe_ix ix_list (w_pv 0) w_pe_int (fun _ _ => rfl)) (w_pa_N (w_pv 3) (w_pa_N (w_pv 3) w_pa_nil)))) (w_pa_T (w_pe_tup (w_pa_C w_pe_str (w_pa_N (w_pv 3) w_pa_nil))) (w_pa_T (w_pe_tup (w_pa_C w_pe_non (w_pa_N (w_pv 3) w_pa_nil))) w_pa_nil)))))))))
      (w_pss_cons (w_ps_for PassesOwn.never rfl (w_pi_list (w_pv 5)) (w_pg_name (i := 6) sc__law_bad.nd rfl (Or.inl rfl))
        (w_pss_one (w_ps_expr (w_pe_bm PySem.F.plainAttrs_list PySem.F.slot_list_append PySem.F.type_list_append mt_append (w_pv 4) (w_pa_T (w_pe_tup (w_pa_N (w_pv 0) (w_pa_B (w_pe_op op_cat (w_pv 1) (w_pe_lst (w_pa_N (w_pv 6) w_pa_nil))) w_pa_nil))) w_pa_nil)))))
      (w_pss_cut (w_ps_if (w_pt_cmpR (op_alt op_neS op_neL) (w_pv 1) (w_pe_lst w_pa_nil) (nomark _))
        (w_pss_cons (w_ps_asg (w_pe_ix ix_list (w_pv 1) (w_pe_c c__law_digit (hr.mono (by omega)) (w_pa_N (w_pv 2) (w_pa_K (w_pe_callB call_len_seq (by rfl) T.n_len bt_len (w_pa_N (w_pv 1) w_pa_nil)) w_pa_nil))) (fun _ _ => rfl)) (w_pg_tup rfl (w_pgs_cons (w_pg_name (i := 7) sc__law_bad.nd rfl (Or.inr rfl)) (w_pgs_cons (w_pg_name (i := 8) sc__law_bad.nd rfl (Or.inr rfl)) w_pgs_nil))))
        (w_pss_cons (w_ps_set (i := 4) sc__law_bad.nd rfl (Or.inl rfl) (w_pe_op op_cat (w_pv 4) (w_pe_lst (w_pa_T (w_pe_tup (w_pa_N (w_pv 0) (w_pa_B (w_pe_op op_cat (w_pv 1) (w_pe_lst (w_pa_T (w_pe_tup (w_pa_N (w_pv 7) (w_pa_N (w_pv 8) w_pa_nil))) w_pa_nil))) w_pa_nil))) (w_pa_T (w_pe_tup (w_pa_N (w_pv 0) (w_pa_B (w_pe_op op_cat (w_pe_lst (w_pa_T (w_pe_tup (w_pa_N (w_pv 8) (w_pa_N (w_pv 7) w_pa_nil))) w_pa_nil)) (w_pv 1)) w_pa_nil))) (w_pa_T (w_pe_tup (w_pa_N (w_pv 0) (w_pa_B (w_pe_op op_cat (w_pv 1) (w_pe_lst (w_pa_T (w_pe_tup (w_pa_N (w_pv 7) (w_pa_N (w_pv 7) w_pa_nil))) w_pa_nil))) w_pa_nil))) w_pa_nil))))))
        (w_pss_cons (w_ps_set (i := 4) sc__law_bad.nd rfl (Or.inl rfl) (w_pe_op op_cat (w_pv 4) (w_pe_lst (w_pa_T (w_pe_tup (w_pa_N (w_pv 0) (w_pa_B (w_pe_op op_cat (w_pv 1) (w_pe_lst (w_pa_cons (w_pe_lst (w_pa_N (w_pv 7) (w_pa_N (w_pv 8) w_pa_nil))) w_pa_nil))) w_pa_nil))) (w_pa_T (w_pe_tup (w_pa_cons (w_pe_comp rfl (N' := ["_law_hand", "_law_one"]) (t := 1) (caps := [7]) ⟨rfl, rfl, rfl⟩ (w_pi_list (w_pv 0)) (fun _ => (w_pg_name (i := 0) (show (["_law_hand", "_law_one"] : List Str).Nodup by decide +kernel) rfl (Or.inl rfl))) (fun _ => (w_pts_one (w_pt_cmpR op_ne (w_pv 0) (w_pv 1) (nomark _)))) (fun _ => (w_pv 0))) (w_pa_N (w_pv 1) w_pa_nil))) w_pa_nil)))))
        (w_pss_cons (w_ps_setComp (i := 9) rfl sc__law_bad.nd rfl (Or.inl rfl) (N' := ["_law_line", "_law_one", "_law_other"]) (t := 1) (caps := [7, 8]) ⟨rfl, rfl, rfl⟩ (w_pi_list (w_pv 1)) (fun _ => (w_pg_name (i := 0) (show (["_law_line", "_law_one", "_law_other"] : List Str).Nodup by decide +kernel) rfl (Or.inl rfl))) (fun _ => (w_pts_one (w_pt_cmpR op_neS (w_pv 0) (w_pe_tup (w_pa_N (w_pv 1) (w_pa_N (w_pv 2) w_pa_nil))) (nomark _)))) (fun _ => (w_pv 0)))
        (w_pss_one (w_ps_set (i := 4) sc__law_bad.nd rfl (Or.inl rfl) (w_pe_op op_cat (w_pv 4) (w_pe_lst (w_pa_T (w_pe_tup (w_pa_N (w_pv 0) (w_pa_cons (w_pe_lst (w_pa_T (w_pe_tup (w_pa_N (w_pv 8) (w_pa_N (w_pv 7) w_pa_nil))) w_pa_nil)) w_pa_nil))) (w_pa_T (w_pe_tup (w_pa_N (w_pv 0) (w_pa_B (w_pe_op op_cat (w_pv 9) (w_pe_lst (w_pa_T (w_pe_tup (w_pa_N (w_pv 8) (w_pa_N (w_pv 7) w_pa_nil))) w_pa_nil))) w_pa_nil))) (w_pa_T (w_pe_tup (w_pa_N (w_pv 0) (w_pa_cons (w_pe_lst (w_pa_T (w_pe_tup (w_pa_N (w_pv 7) (w_pa_N (w_pv 7) w_pa_nil))) w_pa_nil)) w_pa_nil))) w_pa_nil)))))))))))
        w_pss_nil)
      (w_pss_one (w_ps_ret (w_pe_ix ix_list (w_pv 4) (w_pe_c c__law_digit (hr.mono (by omega)) (w_pa_N (w_pv 2) (w_pa_K (w_pe_callB call_len_seq (by rfl) T.n_len bt_len (w_pa_N (w_pv 4) w_pa_nil)) w_pa_nil))) (fun _ _ => rfl))))))))))))) ?_
    obtain ⟨tp, tm, et⟩ := last_of W
    obtain ⟨h0, hm0, e0⟩ := head_of W
    have l12 := W.l12
    have l66 := L.le
    have fh : (hs.map V.int).all flatV = true := flat_ints hs
    have lh : (hs.map V.int).length ≤ 12 := by rw [List.length_map]; exact l12
    have lp : (pds ls).length ≤ 66 := by unfold pds; rw [List.length_map]; exact l66
    have ns : ∀ {b : Addr}, b ≠ st → b ∉ [st] := fun n z => n (List.mem_singleton.mp z)
    have hH : IsH (hide [st] H) (.ref h) (.lst (hs.map V.int)) := ⟨h, rfl, hide_of (ns nh) hh, fh⟩
    have hL : IsLs (hide [st] H) (.ref l) (.lst (pds ls)) := ⟨l, rs, rfl, hide_of (ns nl) hl, lnAt_ds (hls.mono fun b xs e => hide_of (ns fun z => by
      obtain ⟨u, hu, _⟩ := S0
      rw [z, hu] at e
      cases e) e)⟩
    have S : HasO [st] H := fun b m => by
      obtain ⟨u, hu, _⟩ := S0
      rw [List.mem_singleton.mp m]
      exact ⟨_, hu⟩
    have vH : ∀ {Z : List Addr} {σ : St} {Hj : Hp}, Same (hide [st] H) (hide Z Hj) → σ[0]? = some (some (.ref h)) → GvH Z σ Hj (.lst (hs.map V.int)) (tVar 0) := fun s e => gh_var e (hH.same s)
    have vL : ∀ {Z : List Addr} {σ : St} {Hj : Hp}, Same (hide [st] H) (hide Z Hj) → σ[1]? = some (some (.ref l)) → GvL Z σ Hj (.lst (pds ls)) (tVar 1) := fun s e => gl_var e (hL.same s)
    have hz1 : ∀ v : V, (hs.map V.int).length + [v].length ≤ 1000 := fun v => by simp; omega
    have hzp : (LsD.lst (pds ls)).size ≤ 1000 := by show (pds ls).length ≤ 1000; omega
    refine ⟨_, rfl, _, rfl, h, _, _, _, rfl, rfl, SqL.of hh, et, ?_⟩
    -- hands that are none
    refine st_B (st := [st]) (gb_lst S (gs_cons (gt_mk S (gh_cat S (vH (Same.refl _) rfl) (gh_lst S (gx_cons (gi_var rfl) gx_nil) rfl (by simp)) (hz1 _)) (vL (Same.refl _) rfl) hzp (bad_twice (mem_ints tm)))
      (gs_cons (gt_mk S (gh_cat S (gh_rev S rfl hh fh) (gh_lst S (gx_cons (gi_ix rfl hh e0) gx_nil) rfl (by simp)) (by rw [List.length_reverse]; exact hz1 _)) (vL (Same.refl _) rfl) hzp (bad_twice (List.mem_reverse.mpr (mem_ints hm0))))
      (gs_cons (gt_mk S (gh_cat S (gh_lst S (gx_cons (gi_neg gi_c) gx_nil) rfl (by simp)) (vH (Same.refl _) rfl) (by simp; omega)) (vL (Same.refl _) rfl) hzp (bad_hand (v := .int (-1)) (by simp) fun i e z1 z2 => by injection e with e; omega))
      (gs_cons (gt_mk S (gh_cat S (vH (Same.refl _) rfl) (gh_lst S (gx_cons gi_c gx_nil) rfl (by simp)) (hz1 _)) (vL (Same.refl _) rfl) hzp (bad_hand (v := .int 100) (by simp) fun i e z1 z2 => by injection e with e; omega)) gs_nil)))) (by decide)) fun p1 H1 s1 f1 B1 => ?_
    have S1 := S.same s1
    have t1 : Same (hide [st] H) (hide [st] H1) := hide_same s1
    have hh1 := s1 _ _ hh
    have gln : ∀ {σ : St} {Hj : Hp}, HasO [st] Hj → GvL [st] σ Hj (.lst []) (tLst tNil) := fun S => gl_lst S gd_nil (by simp)
    refine st_B (st := [st]) (gb_cat S1 (gb_var rfl B1) (gb_lst S1 (gs_cons (gt_mk S1 (gh_cat (xs := cutV ((hs.filter fun x => decide (1 < x)).map V.int) none (some 3)) S1 ?c5 (gh_lst S1 (gx_cons gi_c gx_nil) rfl (by simp)) ?z5) (gln S1) (by decide) (bad_hand (v := .bl true) (by simp) fun i e z1 z2 => by cases e))
      (gs_cons (gt_mk S1 (gh_lst S1 (gx_cons gi_c gx_nil) rfl (by simp)) (gln S1) (by decide) (bad_hb rfl))
      (gs_cons (gt_mk S1 (gh_lst S1 (gx_cons gi_c gx_nil) rfl (by simp)) (gln S1) (by decide) (bad_hb rfl))
      (gs_cons (gt_mk S1 (gh_lst S1 gx_nil rfl (by simp)) (gln S1) (by decide) (bad_hb rfl)) gs_nil)))) (by decide)).gb (by decide)) fun p2 H2 s2 f2 B2 => ?_
    case z5 =>
      have := cutV_length ((hs.filter fun x => decide (1 < x)).map V.int) none (some 3)
      rw [List.length_map] at this
      have l2 := List.length_filter_le (fun x => decide (1 < x)) hs
      show _ + 1 ≤ 1000
      omega
    case c5 =>
      intro Hx sx Q' k'
      have hhx := sx _ _ hh1
      refine ⟨_, rfl, h, rfl, ⟨_, SqL.of hhx⟩, fun D hD _ => ?_⟩
      refine comp_list (K := K) (a := h) (xs := hs.map V.int) (fun i zs τ H' => ∃ o, τ = [o] ∧ zs = ((hs.take i).filter fun x => decide (1 < x)).map V.int ∧ H' D = some (.lst zs) ∧ Same Hx H') ?_ ?_ ?_ ?_
      · exact ⟨none, rfl, by simp, upd_same, Same.new hD⟩
      · rintro i zs τ H' ⟨o, _, _, _, sm⟩
        exact SqL.of (sm _ _ hhx)
      · rintro i x zs τ H' hi ⟨o, rfl, rfl, hD', sm⟩
        rw [List.getElem?_map] at hi
        obtain ⟨y, hy, rfl⟩ := Option.map_eq_some_iff.mp hi
        have ei : hs.take (i + 1) = hs.take i ++ [y] := by rw [List.take_add_one, hy]; rfl
        have lz : (((hs.take i).filter fun x => decide (1 < x)).map V.int).length ≤ 12 := by
          rw [List.length_map]
          have := List.length_filter_le (fun x => decide (1 < x)) (hs.take i)
          rw [List.length_take] at this
          omega
        refine ⟨_, rfl, _, _, rfl, rfl, _, rfl, ?_⟩
        refine ite2 (fun c => ?_) (fun c => ?_)
        · have c : 1 < y := of_decide_eq_true c
          refine ⟨_, rfl, hD', small1000 (by omega), some (.int y), rfl, ?_, upd_same, sm.updF hD⟩
          rw [ei, List.filter_append, List.map_append]
          simp [c]
        · have c : ¬ 1 < y := fun z => c (decide_eq_true z)
          refine ⟨some (.int y), rfl, ?_, hD', sm⟩
          rw [ei, List.filter_append, List.map_append]
          simp [c]
      · rintro zs τ H' ⟨o, rfl, rfl, hD', sm⟩
        rw [List.length_map, List.take_length] at hD'
        refine ⟨3, rfl, D, _, rfl, SqL.of hD', fun p hp => k' _ _ (sm.trans (Same.new hp)) ⟨p, rfl, hnew S1 (sx.trans sm) hp, ?_⟩⟩
        rw [List.all_eq_true]
        intro v hv
        obtain ⟨x, _, rfl⟩ := List.mem_map.mp (List.mem_of_mem_drop (List.mem_of_mem_take hv))
        rfl
    have S2 := S1.same s2
    have t2 : Same (hide [st] H) (hide [st] H2) := t1.trans (hide_same s2)
    have hh2 := s2 _ _ hh1
    have hl2 := s2 _ _ (s1 _ _ hl)
    -- some more
    refine st_B (st := [st]) (gb_cat S2 (gb_var rfl B2) (gb_lst S2 (gs_cons (gt_mk S2 (gh_tuple S2 rfl hh2) (vL t2 rfl) hzp bad_hoth) (gs_cons (gt_mk S2 gh_non (vL t2 rfl) hzp bad_hoth)
      (gs_cons (gt_mk (d := .lst (rngV 0 13)) S2 ?r1 (gln S2) (by decide) (bad_hb (by decide +kernel))) (gs_cons (gt_mk (d := .lst (rngV 87 13)) S2 ?r2 (gln S2) (by decide) (bad_hb (by decide +kernel))) gs_nil)))) (by decide)).gb (by decide)) fun p3 H3 s3 f3 B3 => ?_
    case r1 =>
      intro Hx sx Q' k'
      exact ⟨13, rfl, fun r hr => ⟨r, 0, 13, rfl, upd_same, (by decide), (by decide), (by decide), fun l hl => k' _ _ ((Same.new hr).trans (Same.new hl)) ⟨l, rfl, hnew S2 (sx.trans (Same.new hr)) hl, all_rng _ _⟩⟩⟩
    case r2 =>
      intro Hx sx Q' k'
      exact ⟨87, 100, rfl, fun r hr => ⟨r, 87, 100, rfl, upd_same, (by decide), (by decide), (by decide), fun l hl => k' _ _ ((Same.new hr).trans (Same.new hl)) ⟨l, rfl, hnew S2 (sx.trans (Same.new hr)) hl, all_rng _ _⟩⟩⟩
    have S3 := S2.same s3
    refine st_B (st := [st]) (gb_cat S3 (gb_var rfl B3) (gb_lst S3 (gs_cons (gt_mk S3 (gh_lst S3 (gx_cons gi_c (gx_cons gi_c gx_nil)) rfl (by simp)) (gln S3) (by decide) (bad_hb rfl))
      (gs_cons (gt_mk S3 (gh_lst S3 (gx_cons gi_c (gx_cons gi_c gx_nil)) rfl (by simp)) (gln S3) (by decide) (bad_hb rfl))
      (gs_cons (gt_mk S3 (gh_lst S3 (gx_cons gi_c (gx_cons gi_c (gx_cons gi_c (gx_cons gi_c gx_nil)))) rfl (by simp)) (gln S3) (by decide) (bad_hb rfl))
      (gs_cons (gt_mk S3 (gh_lst S3 (gx_cons gi_c gx_nil) rfl (by simp)) (gln S3) (by decide) (bad_hb rfl))
      (gs_cons (gt_mk S3 (gh_lst S3 (gx_cons gi_c (gx_cons (x := .int (10 ^ 20)) ?pw gx_nil)) rfl (by simp)) (gln S3) (by decide) (bad_hb (by decide +kernel)))
      (gs_cons (gt_mk S3 gh_str (gln S3) (by decide) bad_hoth) gs_nil)))))) (by decide)).gb (by decide)) fun p4 H4 s4 f4 B4 => ?_
    case pw =>
      intro Hx sx Q' q
      exact ⟨_, _, rfl, rfl, ⟨by decide, by decide, by decide⟩, q⟩
    have S4 := S3.same s4
    have s14 : Same H H4 := ((s1.trans s2).trans s3).trans s4
    have t4 : Same (hide [st] H) (hide [st] H4) := hide_same s14
    have hl4 := s14 _ _ hl
    have hz2 : ∀ d : LD, (pds ls).length + [d].length ≤ 1000 := fun d => by simp; omega
    have hzq : ∀ d : LD, (LsD.lst (pds ls ++ [d])).size ≤ 1000 := fun d => by show (pds ls ++ [d]).length ≤ 1000; rw [List.length_append]; exact hz2 d
    refine st_B (st := [st]) (gb_cat S4 (gb_var rfl B4) (gb_lst S4 (gs_cons (gt_mk S4 (vH t4 rfl) (gl_tuple S4 rfl hl4) (by decide) bad_oth) (gs_cons (gt_mk S4 (vH t4 rfl) gl_non (by decide) bad_oth)
      (gs_cons (gt_mk S4 (vH t4 rfl) (gl_cat S4 (vL t4 rfl) (gl_lst S4 (gd_cons gd_non gd_nil) (by simp)) (hz2 _)) (hzq _) (bad_none (d := .oth) (by simp) rfl))
      (gs_cons (gt_mk S4 (vH t4 rfl) (gl_cat S4 (vL t4 rfl) (gl_lst S4 (gd_cons (gd_tup S4 (gx_cons (gi_var rfl) (gx_cons (gi_var rfl) gx_nil)) rfl (by simp)) gd_nil) (by simp)) (hz2 _)) (hzq _) (bad_line (d := .tup [.int tp, .int tp]) (by simp) fun p e z1 z2 z3 _ => by cases e; dsimp only at z3; omega)) gs_nil)))) (by decide)).gb (by decide)) fun p5 H5 s5 f5 B5 => ?_
    -- lines that are none
    have s15 : Same H H5 := s14.trans s5
    have hp50 : H p5 = none := s14.free f5
    obtain ⟨ts5, hp5, n5, _⟩ := id B5
    have n5 : p5 ≠ st := fun z => n5 (by rw [z]; simp)
    have S5 : HasO [p5, st] H5 := fun b m => by
      rcases List.mem_cons.mp m with rfl | m
      · exact ⟨_, hp5⟩
      · exact (S4.same s5) b m
    have t5 : Same (hide [st] H) (hide [p5, st] H5) := hide_more hp50 (hide_same s15)
    have hh5 := s15 _ _ hh
    refine st_L (st := [p5, st]) (gl_lst S5 (gd_cons (gd_tup S5 (gx_cons (gi_ix rfl hh5 e0) (gx_cons gi_c gx_nil)) rfl (by simp)) (gd_cons (gd_tup S5 (gx_cons (gi_neg gi_c) (gx_cons (gi_var rfl) gx_nil)) rfl (by simp)) (gd_cons (gd_lst S5 (gx_cons (gi_ix rfl hh5 e0) (gx_cons (gi_var rfl) gx_nil)) (by simp))
      (gd_cons (gd_tup S5 (gx_cons (gi_ix rfl hh5 e0) gx_nil) rfl (by simp)) (gd_cons (gd_tup S5 (gx_cons (gi_ix rfl hh5 e0) (gx_cons (gi_var rfl) (gx_cons (gi_var rfl) gx_nil))) rfl (by simp)) (gd_cons (gd_tup S5 (gx_cons gi_c (gx_cons (gi_var rfl) gx_nil)) rfl (by simp))
      (gd_cons (gd_tup S5 (gx_cons gi_c (gx_cons (gi_var rfl) gx_nil)) rfl (by simp)) gd_nil))))))) (by simp)) fun v6 H6 s6 hv6 => ?_
    obtain ⟨po, ro, rfl, hpo, pr⟩ := hv6
    have bds : ∀ d ∈ [LD.tup [.int h0, .int 100], .tup [.int (-1), .int tp], .oth, .tup [.int h0], .tup [.int h0, .int tp, .int tp], .tup [.str "0", .int tp], .tup [.non, .int tp]], ∀ ds : List LD, d ∈ ds → webB (.lst (hs.map V.int)) (.lst ds) = false := by
      intro d hd ds m
      simp only [List.mem_cons, List.not_mem_nil, or_false] at hd
      rcases hd with rfl | rfl | rfl | rfl | rfl | rfl | rfl
      · exact bad_line m fun p e z1 z2 z3 W' => by
          cases e
          have := W'.hi _ z2
          dsimp only at this
          omega
      · exact bad_line m fun p e z1 z2 z3 W' => by
          cases e
          have := W'.lo _ z1
          dsimp only at this
          omega
      all_goals exact bad_none m rfl
    have lo : ro.length = 7 := pr.length
    have hpo6 := hide_sub _ _ hpo
    have npo : po ≠ p5 := fun z => (hide_get hpo).1 (by rw [z]; simp)
    refine ⟨_, rfl, po, rfl, ⟨_, SqL.of hpo6⟩, ?_⟩
    refine for_list (K := K) (a := po) (xs := ro) (fun i σ H' => ∃ o, σ = [some (.ref h), some (.ref l), some (.ref st), some (.int tp), some (.ref p5), some (.ref po), o, none, none, none] ∧ Ext p5 H6 H' ∧ BadL [st] H' p5 (22 + i)) ?_ ?_ ?_ ?_
    · exact ⟨none, rfl, Ext.refl, B5.same s6⟩
    · rintro i σ H' _ ⟨o, _, x, _⟩
      exact SqL.of (x _ _ hpo6 npo)
    · rintro i x σ H7 hi ⟨o, rfl, x7, ts, hp7, nt, lt, bt⟩
      obtain ⟨d, hd, hx⟩ := pget pr hi
      have hi7 : i < 7 := by rw [← lo]; exact (List.getElem?_eq_some_iff.mp hi).1
      have t7 : Same (hide [p5, st] H6) (hide [p5, st] H7) := hide_ext (by simp) x7
      have u7 : Same (hide [st] H) (hide [p5, st] H7) := (t5.trans (hide_same s6)).trans t7
      have S7 : HasO [p5, st] H7 := fun b m => by
        by_cases e : b = p5
        · exact ⟨_, by rw [e]; exact hp7⟩
        · obtain ⟨o, ho⟩ := (S5.same s6) b m
          exact ⟨o, x7 _ _ ho e⟩
      refine ⟨_, rfl, .inl ⟨rfl, _, SqL.of hp7⟩, ?_⟩
      refine (gt_mk (st := [p5, st]) S7 (vH u7 rfl) (gl_cat S7 (vL u7 rfl) (gl_lst S7 (gd_cons (gd_var rfl (hx.same t7)) gd_nil) (by simp)) (hz2 _)) (hzq _) (bds d (List.mem_of_getElem? hd) _ (by simp))) H7 (Same.refl _) _ fun v H8 s8 b8 => ?_
      refine ⟨p5, _, _, rfl, rfl, s8 _ _ hp7, small1000 (by omega), ?_⟩
      have x8 : Ext p5 H7 (L2.upd H8 p5 (.lst (ts ++ [v]))) := (Ext.same s8).trans Ext.at
      refine ⟨_, rfl, x7.trans x8, ts ++ [v], upd_same, nt, by rw [List.length_append, lt]; rfl, fun t m => ?_⟩
      rcases List.mem_append.mp m with m | m
      · exact (bt t m).same (hide_ext (by simp) x8)
      · rw [List.mem_singleton.mp m]
        exact b8.same (hide_ext (l := p5) (by simp) Ext.at)
    · rintro σ H7 ⟨o6, rfl, x7, B7⟩
      rw [lo] at B7
      have X7 : Ext st H H7 := fun b u e n => x7 _ _ (s6 _ _ (s15 _ _ e)) (ne_of_none e hp50)
      have S7 : StAt H7 st := by
        obtain ⟨u, hu, z⟩ := S0
        exact ⟨u, x7 _ _ (s6 _ _ (s15 _ _ hu)) n5.symm, z⟩
      refine ⟨fun σ' H' => ∃ (p n : Nat) (o7 o8 o9 : Option V), σ' = [some (.ref h), some (.ref l), some (.ref st), some (.int tp), some (.ref p), some (.ref po), o6, o7, o8, o9] ∧ BadL [st] H' p n ∧ 1 ≤ n ∧ n ≤ 100 ∧ Ext st H H' ∧ StAt H' st, ?_, ?_⟩
      · have un2 : (A.deeper (PyProof.Rows.envOfC "_law_bad" (defScope st__law_bad) s.heap.objs.size a.f__law_bad cdv)).units + 0 + 2 < cLine := by
          have := hr.un
          omega
        refine ⟨_, rfl, (by show 0 ≤ sizeLine; decide), fun q0 hq0 => ?_⟩
        have s7 := Same.new (o := HO.lst []) hq0
        have hl7 : L2.upd H7 q0 (.lst []) l = some (.lst rs) := s7 _ _ (X7 _ _ hl nl)
        have hq0' : L2.upd H7 q0 (.lst []) q0 = some (.lst []) := upd_same
        have X8 := X7.trans (Ext.same (l := st) s7)
        have S8 := S7.same s7
        have B8 := B7.same s7
        generalize L2.upd H7 q0 (.lst []) = H8 at *
        by_cases er : rs = []
        · subst er
          refine .inl ⟨l, q0, [], [], fun _ => true, 0, rfl, rfl, .inl ⟨SqL.of hl7, SqL.of hq0'⟩, rfl, un2, fun j x y e => by simp at e, _, rfl, iteF ?_⟩
          exact ⟨p5, _, none, none, none, rfl, B8, by omega, by omega, X8, S8⟩
        have l1 : 0 < rs.length := List.length_pos_iff.mpr er
        have lr := hls.1
        refine .inr ⟨l, q0, rs, [], rfl, rfl, SqL.of hl7, SqL.of hq0', by simpa using er, Nat.lt_of_le_of_lt (Nat.le_add_right _ 2) un2, _, rfl, iteT ?_⟩
        refine ⟨_, rfl, _, rfl, _, rfl, l, _, rfl, .inl (SqL.of hl7), st, _, rfl, S8, by omega, log_small (by omega) (by omega), fun d H9 g1 g2 S9 x9 => ?_⟩
        obtain ⟨m, rfl⟩ : ∃ m : Nat, d = m := ⟨d.toNat, by omega⟩
        have hm : m < rs.length := by omega
        have X9 := X8.trans x9
        have hl9 := x9 _ _ hl7 nl
        obtain ⟨⟨x, y⟩, q, hp, er, hq⟩ := hls.get (i := m) (r := rs[m]) (by simp [hm])
        have pm : (x, y) ∈ ls := List.mem_of_getElem? hp
        obtain ⟨xm, ym, xy⟩ := L.ok _ pm
        dsimp only at hq xm ym xy
        have hq9 : H9 q = some (.tup [.int x, .int y]) := X9 _ _ hq fun z => by
          obtain ⟨u, hu, _⟩ := S0
          rw [z, hu] at hq
          cases hq
        refine ⟨l, rs, m, rs[m], rfl, rfl, SqL.of hl9, atI_nat (by simp [hm]), q, _, er, SqT.of hq9, rfl, _, _, rfl, _, _, rfl, rfl, ?_⟩
        have t9 : Same (hide [st] H) (hide [st] H9) := hide_ext (by simp) X9
        have HS : HasO [st] H9 := fun b mb => by
          obtain ⟨u, hu, _⟩ := S9
          rw [List.mem_singleton.mp mb]
          exact ⟨_, hu⟩
        have B9 := B8.ext (l := st) (by simp) x9
        have hz3 : ∀ d : LD, [d].length + (pds ls).length ≤ 1000 := fun d => by simp; omega
        have hzr : ∀ d : LD, (LsD.lst ([d] ++ pds ls)).size ≤ 1000 := fun d => by show ([d] ++ pds ls).length ≤ 1000; rw [List.length_append]; exact hz3 d
        refine st_B (st := [st]) (gb_cat HS (gb_var rfl B9) (gb_lst HS (gs_cons (gt_mk HS (vH t9 rfl) (gl_cat HS (vL t9 rfl) (gl_lst HS (gd_cons (gd_tup HS (gx_cons (gi_var rfl) (gx_cons (gi_var rfl) gx_nil)) rfl (by simp)) gd_nil) (by simp)) (hz2 _)) (hzq _) (bad_dup pm))
          (gs_cons (gt_mk HS (vH t9 rfl) (gl_cat HS (gl_lst HS (gd_cons (gd_tup HS (gx_cons (gi_var rfl) (gx_cons (gi_var rfl) gx_nil)) rfl (by simp)) gd_nil) (by simp)) (vL t9 rfl) (hz3 _)) (hzr _) (bad_line (d := .tup [.int y, .int x]) (by simp) fun p e z1 z2 z3 _ => by cases e; dsimp only at z3; omega))
          (gs_cons (gt_mk HS (vH t9 rfl) (gl_cat HS (vL t9 rfl) (gl_lst HS (gd_cons (gd_tup HS (gx_cons (gi_var rfl) (gx_cons (gi_var rfl) gx_nil)) rfl (by simp)) gd_nil) (by simp)) (hz2 _)) (hzq _) (bad_line (d := .tup [.int x, .int x]) (by simp) fun p e z1 z2 z3 _ => by cases e; dsimp only at z3; omega)) gs_nil))) (by decide)).gb (by decide)) fun p10 H10 s10 f10 B10 => ?_
        have HS10 := HS.same s10
        have t10 : Same (hide [st] H) (hide [st] H10) := t9.trans (hide_same s10)
        have hh10 := s10 _ _ (X9 _ _ hh nh)
        refine st_B (st := [st]) (gb_cat HS10 (gb_var rfl B10) (gb_lst HS10 (gs_cons (gt_mk HS10 (vH t10 rfl) (gl_cat HS10 (vL t10 rfl) (gl_lst HS10 (gd_cons (gd_lst HS10 (gx_cons (gi_var rfl) (gx_cons (gi_var rfl) gx_nil)) (by simp)) gd_nil) (by simp)) (hz2 _)) (hzq _) (bad_none (d := .oth) (by simp) rfl))
          (gs_cons (gt_mk (d := .lst ((hs.filter fun z => !decide (z = x)).map V.int)) HS10 ?cB (vL t10 rfl) hzp (bad_line (d := .tup [.int x, .int y]) (List.mem_map.mpr ⟨(x, y), pm, rfl⟩) fun p e z1 z2 z3 _ => by
            cases e
            rw [intsOf_map] at z1
            have := (List.mem_filter.mp z1).2
            simp at this)) gs_nil)) (by decide)).gb (by decide)) fun p11 H11 s11 f11 B11 => ?_
        case cB =>
          intro Hx sx Q' k'
          have hhx := sx _ _ hh10
          refine ⟨_, rfl, h, rfl, ⟨_, SqL.of hhx⟩, fun D hD _ => ?_⟩
          refine comp_list (K := K) (a := h) (xs := hs.map V.int) (fun i zs τ H' => ∃ o, τ = [o, some (.int x)] ∧ zs = ((hs.take i).filter fun z => !decide (z = x)).map V.int ∧ H' D = some (.lst zs) ∧ Same Hx H') ?_ ?_ ?_ ?_
          · exact ⟨none, rfl, by simp, upd_same, Same.new hD⟩
          · rintro i zs τ H' ⟨o, _, _, _, sm⟩
            exact SqL.of (sm _ _ hhx)
          · rintro i v zs τ H' hi ⟨o, rfl, rfl, hD', sm⟩
            rw [List.getElem?_map] at hi
            obtain ⟨z, hz, rfl⟩ := Option.map_eq_some_iff.mp hi
            have ei : hs.take (i + 1) = hs.take i ++ [z] := by rw [List.take_add_one, hz]; rfl
            have lz : (((hs.take i).filter fun z => !decide (z = x)).map V.int).length ≤ 12 := by
              rw [List.length_map]
              have := List.length_filter_le (fun z => !decide (z = x)) (hs.take i)
              rw [List.length_take] at this
              omega
            refine ⟨_, rfl, _, rfl, rfl, _, rfl, ?_⟩
            by_cases c : z = x
            · refine iteN (by rw [decide_eq_true (by rw [c])]; rfl) ?_
              refine ⟨some (.int z), rfl, ?_, hD', sm⟩
              rw [ei, List.filter_append, List.map_append]
              simp [c]
            · refine iteB (by rw [decide_eq_false (fun e => c (by injection e))]; rfl) ?_
              refine ⟨_, rfl, hD', small1000 (by omega), some (.int z), rfl, ?_, upd_same, sm.updF hD⟩
              rw [ei, List.filter_append, List.map_append]
              simp [c]
          · rintro zs τ H' ⟨o, rfl, rfl, hD', sm⟩
            rw [List.length_map, List.take_length] at hD'
            refine k' _ _ sm ⟨D, rfl, hide_of (fun z => ?_) hD', flat_ints _⟩
            obtain ⟨u, hu⟩ := HS10 D z
            rw [sx _ _ hu] at hD
            cases hD
        have HS11 := HS10.same s11
        have t11 : Same (hide [st] H) (hide [st] H11) := t10.trans (hide_same s11)
        obtain ⟨l', rs', el, hlh, prs⟩ := hL.same t11
        cases el
        have hl11 : H11 l = some (.lst rs') := hide_sub _ _ hlh
        refine ⟨_, rfl, l, rfl, ⟨_, SqL.of hl11⟩, fun D hD _ => ?_⟩
        refine comp_list (K := K) (a := l) (xs := rs') (fun i zs τ H' => ∃ o ls', τ = [o, some (.int x), some (.int y)] ∧ Paired (IsL (hide [st] H11)) zs (pds ls') ∧ ls'.length ≤ i ∧ H' D = some (.lst zs) ∧ Same H11 H') ?_ ?_ ?_ ?_
        · exact ⟨none, [], rfl, .nil, by simp, upd_same, Same.new hD⟩
        · rintro i zs τ H' ⟨o, ls', _, _, _, _, sm⟩
          exact SqL.of (sm _ _ hl11)
        · rintro i v zs τ H' hi ⟨o, ls', rfl, pz, lz, hD', sm⟩
          obtain ⟨d, hd, hv⟩ := pget prs hi
          have hi66 : i < 66 := by
            have := (List.getElem?_eq_some_iff.mp hd).1
            omega
          obtain ⟨⟨x', y'⟩, mp, rfl⟩ := List.mem_map.mp (List.mem_of_getElem? hd)
          obtain ⟨q', rfl, hq', _⟩ := id hv
          dsimp only at hq'
          have lzs : zs.length ≤ 66 := by
            rw [pz.length]
            unfold pds
            rw [List.length_map]
            omega
          refine ⟨_, rfl, _, rfl, _, rfl, (by show 2 ≤ sizeLine; decide), fun tq htq => ?_⟩
          have st' := Same.new (o := HO.tup [V.int x, V.int y]) htq
          have sm' := sm.trans st'
          refine ⟨q', tq, _, _, fun j => if j = 0 then eqV (.int x') (.int x) else eqV (.int y') (.int y), 0, rfl, rfl, .inr ⟨SqT.of (sm' _ _ (hide_sub _ _ hq')), SqT.of upd_same⟩, rfl, un2, ?_, _, rfl, ?_⟩
          · intro j a b e1 e2
            match j, e1, e2 with
            | 0, e1, e2 => cases e1; cases e2; exact .flat rfl rfl
            | 1, e1, e2 => cases e1; cases e2; exact .flat rfl rfl
            | _ + 2, e1, _ => simp at e1
          · refine ite2 (fun _ => ?_) (fun _ => ?_)
            · refine ⟨_, rfl, st' _ _ hD', small1000 (by omega), some (.ref q'), ls' ++ [(x', y')], rfl, ?_, by simp; omega, upd_same, sm'.updF hD⟩
              unfold pds at pz ⊢
              rw [List.map_append]
              exact papp pz (.cons hv .nil)
            · exact ⟨some (.ref q'), ls', rfl, pz, by omega, st' _ _ hD', sm'⟩
        · rintro zs τ H12 ⟨o, ls', rfl, pz, lz, hD', sm⟩
          have HS12 := HS11.same sm
          have t12 : Same (hide [st] H) (hide [st] H12) := t11.trans (hide_same sm)
          have B12 := B11.same sm
          have l' : ls'.length ≤ 66 := by
            have : rs'.length = (pds ls).length := prs.length
            omega
          have hDs : D ∉ [st] := fun z => by
            obtain ⟨u, hu⟩ := HS11 D z
            rw [hu] at hD
            cases hD
          have hT : IsLs (hide [st] H12) (.ref D) (.lst (pds ls')) := ⟨D, zs, rfl, hide_of hDs hD', L2.Paired.imp' (fun _ _ z => z.same (hide_same sm)) pz⟩
          have lp' : (pds ls').length ≤ 66 := by unfold pds; rw [List.length_map]; exact l'
          refine st_B1 (st := [st]) (gb_cat HS12 (gb_var rfl B12) (gb_lst HS12 (gs_cons (gt_mk HS12 (vH t12 rfl) (gl_lst HS12 (gd_cons (gd_tup HS12 (gx_cons (gi_var rfl) (gx_cons (gi_var rfl) gx_nil)) rfl (by simp)) gd_nil) (by simp)) (by show 1 ≤ 1000; decide) (bad_line (d := .tup [.int y, .int x]) (by simp) fun p e z1 z2 z3 _ => by cases e; dsimp only at z3; omega))
            (gs_cons (gt_mk HS12 (vH t12 rfl) (gl_cat HS12 (gl_var rfl hT) (gl_lst HS12 (gd_cons (gd_tup HS12 (gx_cons (gi_var rfl) (gx_cons (gi_var rfl) gx_nil)) rfl (by simp)) gd_nil) (by simp)) (by simp; omega)) (by show (pds ls' ++ [_]).length ≤ 1000; rw [List.length_append]; simp; omega) (bad_line (d := .tup [.int y, .int x]) (by simp) fun p e z1 z2 z3 _ => by cases e; dsimp only at z3; omega))
            (gs_cons (gt_mk HS12 (vH t12 rfl) (gl_lst HS12 (gd_cons (gd_tup HS12 (gx_cons (gi_var rfl) (gx_cons (gi_var rfl) gx_nil)) rfl (by simp)) gd_nil) (by simp)) (by show 1 ≤ 1000; decide) (bad_line (d := .tup [.int x, .int x]) (by simp) fun p e z1 z2 z3 _ => by cases e; dsimp only at z3; omega)) gs_nil))) (by decide)).gb (by decide)) fun p13 H13 s13 f13 B13 => ?_
          have s913 := ((s10.trans s11).trans sm).trans s13
          exact ⟨p13, _, _, _, _, rfl, B13, by omega, by omega, X9.trans (Ext.same s913), S9.same s913⟩
      · rintro σ' H8 ⟨p, n, o7, o8, o9, rfl, B8, n1, n100, X8, S8⟩
        obtain ⟨ts, hp8, np, lt, bt⟩ := B8
        refine ⟨_, rfl, _, rfl, _, rfl, p, _, rfl, .inl (SqL.of hp8), st, _, rfl, S8, by rw [lt]; omega, log_small (by omega) (by rw [lt]; omega), fun d H9 g1 g2 S9 x9 => ?_⟩
        rw [lt] at g2
        obtain ⟨m, rfl⟩ : ∃ m : Nat, d = m := ⟨d.toNat, by omega⟩
        have hm : m < ts.length := by omega
        have np' : p ≠ st := fun z => np (by rw [z]; simp)
        have bm := ((bt ts[m] (List.getElem_mem hm)).same hide_less).same (hide_ext (by simp) x9)
        obtain ⟨q, v, u, d, e, z1, z2, z3, z4, z5⟩ := bm.same hide_sub
        refine ⟨p, ts, m, ts[m], rfl, rfl, SqL.of (x9 _ _ hp8 np'), atI_nat (by simp [hm]), ?_⟩
        rw [z1]
        exact k q H9 ⟨q, v, u, d, e, rfl, z2, z3, z4, z5⟩ (X8.trans x9)
end
end K04

/-! K02p -/
set_option Elab.async false
set_option linter.all false
set_option maxRecDepth 100000
set_option maxHeartbeats 8000000
namespace K04
open PySem L2
theorem sqSame {K : PySem.W.Frag} {H H' : Hp} {b : Addr} {xs : List V} (h : SqL K H b xs) (s : Same H H') : SqL K H' b xs := by
  rcases h with (h | ⟨o, h⟩) | h
  · exact .inl (.inl (s _ _ h))
  · exact .inl (.inr ⟨o, s _ _ h⟩)
  · exact .inr h
theorem web_good {hs : List Int} {ls : List (Int × Int)} (W : Hs hs) (L : Ls hs ls) : webB (.lst (hs.map V.int)) (.lst (pds ls)) = true := by
  show (handsB (hs.map V.int) && linesB (intsOf (hs.map V.int)) [] (pds ls)) = true
  rw [handsB_of W, intsOf_map, linesB_of (pds_pairs ls) (by simpa using L.nd) L.ok]
  rfl
theorem star_ls {x : Int} {t : List Int} (W : Hs (x :: t)) : Ls (x :: t) (t.map fun o => (x, o)) := by
  have up := List.pairwise_cons.mp W.up
  refine Ls.of W ?_ fun p m => ?_
  · rw [List.nodup_iff_pairwise_ne, List.pairwise_map]
    exact up.2.imp fun {a b} lt e => by injection e with _ e; omega
  · obtain ⟨o, mo, rfl⟩ := List.mem_map.mp m
    exact ⟨by simp, by simp [mo], up.1 o mo⟩
def wideL : List Int := [0, 8, 16, 24, 32, 40, 48, 56, 64, 72, 80, 99]
def lateL : List Int := [88, 89, 90, 91, 92, 93, 94, 95, 96, 97, 98, 99]
theorem hsB {hs : List Int} (h : handsB (hs.map V.int) = true) : Hs hs := by
  obtain ⟨hs', e, W⟩ := handsB_ints h
  have e := congrArg intsOf e
  rw [intsOf_map, intsOf_map] at e
  rw [e]
  exact W
def GvHs (st : List Addr) (σ : St) (H : Hp) (ds : List HD) (t : TA) : Prop := ∀ H1, Same H H1 → ∀ Q : List V → Hp → Prop, (∀ rs H2, Same H1 H2 → Paired (IsH (hide st H2)) rs ds → Q rs H2) → t σ H1 Q
section
variable {st : List Addr} {σ : St} {H : Hp}
theorem gq_nil : GvHs st σ H [] tNil := fun H1 s Q k => k _ _ (Same.refl _) .nil
theorem gq_cons {d : HD} {ds : List HD} {te : TE} {t : TA} (h : GvH st σ H d te) (ht : GvHs st σ H ds t) : GvHs st σ H (d :: ds) (tCons te t) := fun H1 s Q k => h H1 s _ fun v H2 s2 hv => ht H2 (s.trans s2) _ fun rs H3 s3 hr => k _ _ (s2.trans s3) (.cons (hv.same (hide_same s3)) hr)
theorem st_H {d : HD} {i : Nat} {te : TE} {rest : TS} {D : Ends} (h : GvH st σ H d te) (k : ∀ v H2, Same H H2 → IsH (hide st H2) v d → rest D (σ.set i (some v)) H2) : tSeq (tAsg te (gName i)) rest D σ H := h H (Same.refl H) _ k
end
theorem for_new {st : List Addr} {σ : St} {H : Hp} {K : PySem.W.Frag} {ds : List HD} {t : TA} {g : TG} {tb rest : TS} {D : Ends} (h : GvHs st σ H ds t) (hz : ds.length ≤ 1000)
    (k : ∀ rs H2 p, Same H H2 → Paired (IsH (hide st H2)) rs ds → H2 p = none → tSeq (tFor (fun _ _ R => R (Itl K p) (L2.upd H2 p (.lst rs))) g tb) rest D σ H) : tSeq (tFor (iList K (tLst t)) g tb) rest D σ H := by
  show t σ H _
  refine h H (Same.refl H) _ fun rs H2 s pr => ⟨by rw [pr.length]; exact Nat.le_of_lt (small1000 hz), fun p hp => ⟨p, rfl, ⟨_, SqL.of upd_same⟩, ?_⟩⟩
  exact k rs H2 p s pr hp
theorem ret_ref {σ : St} {H : Hp} {d d' : HD} {e e' : LsD} {ta tb tc td : TE} {D : Ends} (ha : GvH [] σ H d ta) (hb : GvL [] σ H e tb) (hc : ∀ H', GvH [] σ H' d' tc) (hd : ∀ H', GvL [] σ H' e' td) (z1 : e.size ≤ 1000) (z2 : e'.size ≤ 1000) (w1 : webB d e = true) (w2 : webB d' e' = false) (k : ∀ H', D.rt (.bl true) H') :
    tRet (tAndV (tNotV (tCall spRef [] E0 (tCons ta (tCons tb tNil)))) (tCall spRef [] E0 (tCons tc (tCons td tNil)))) D σ H := by
  show ta σ H _
  refine ha H (Same.refl H) _ fun v H1 s1 hv => ?_
  show tb σ H1 _
  refine hb H1 s1 _ fun u H2 s2 hu => ?_
  refine ⟨v, u, d, e, rfl, (hv.same hide_sub).same s2, hu.same hide_sub, z1, fun H3 s3 => ?_⟩
  rw [w1]
  refine ⟨_, rfl, _, rfl, iteT ?_⟩
  show tc σ H3 _
  refine hc H3 H3 (Same.refl _) _ fun v H4 s4 hv => ?_
  show td σ H4 _
  refine hd H4 H4 (Same.refl _) _ fun u H5 s5 hu => ?_
  refine ⟨v, u, d', e', rfl, (hv.same hide_sub).same s5, hu.same hide_sub, z2, fun H6 s6 => ?_⟩
  rw [w2]
  exact k _
theorem hasNil {H : Hp} : HasO [] H := fun b m => by cases m
section
variable {P : Program} {w : World} {K : PySem.W.Frag} {mg : Str → Option Value} {base : Heap} {a : Ad}
def spLaw (K : PySem.W.Frag) : Sp := fun vs H Q _ => ∃ (a : Addr) (ns : List Int), vs = [.ref a] ∧ SqL K H a (ns.map V.int) ∧ ns.length ≤ 63 ∧ ∀ H', Q (.bl true) H'
theorem sp_law_of {K : PySem.W.Frag} {H : Hp} {a : Addr} {ns : List Int} (hl : ns.length ≤ 63) (hO : Only H) (hS : SqL K H a (ns.map V.int)) : spLaw K [.ref a] H (fun v _ => v = .bl true) fun _ _ _ => False := ⟨a, ns, rfl, hS, hl, fun _ => rfl⟩
theorem ok_law (T : Txt K mg a) : FnOk P w K mg base CX0 8 a.f_law a.d_law ["_law_script"] (spLaw K) := by
  have c__law_cell_at : Callee P w K mg base "_law_cell_at" a.f__law_cell_at a.d__law_cell_at ["_law_script", "_law_k"] 1 (spCell K) := ⟨ok_cell T, T.g__law_cell_at, T.F__law_cell_at.kp, T.b__law_cell_at⟩
  have c__law_web : Callee P w K mg base "_law_web" a.f__law_web a.d__law_web ["_law_state"] 2 spWebL := ⟨ok_webl T, T.g__law_web, T.F__law_web.kp, T.b__law_web⟩
  have c__law_bad : Callee P w K mg base "_law_bad" a.f__law_bad a.d__law_bad ["_law_hands", "_law_lines", "_law_state"] 2 spBad := ⟨ok_bad T, T.g__law_bad, T.F__law_bad.kp, T.b__law_bad⟩
  have c__law_refused : Callee P w K mg base "_law_refused" a.f__law_refused a.d__law_refused ["_law_hands", "_law_lines"] 6 spRef := ⟨ok_ref T, T.g__law_refused, T.F__law_refused.kp, T.b__law_refused⟩
  refine T.F_law.ok sc_law (fun vs H Q E h => ?_) (fun cdv A outer s H vs Q E hr h => ?_)
  · obtain ⟨x, ns, rfl, _⟩ := h
    rfl
  · obtain ⟨sc, ns, rfl, hS, hlen, k⟩ := h
    refine bx_in (w_pss_cons (w_ps_asg (w_pe_c c__law_web (hr.mono (by omega)) (w_pa_cons (w_pe_lst (w_pa_K (w_pe_c c__law_cell_at (hr.mono (by omega)) (w_pa_N (w_pv 0) (w_pa_C w_pe_int w_pa_nil))) w_pa_nil)) w_pa_nil)) (w_pg_tup rfl (w_pgs_cons (w_pg_name (i := 1) sc_law.nd rfl (Or.inl rfl)) (w_pgs_cons (w_pg_name (i := 2) sc_law.nd rfl (Or.inl rfl)) w_pgs_nil))))
      (w_pss_cons (w_ps_if (w_pt_val (w_pe_c c__law_refused (hr.mono (by omega)) (w_pa_N (w_pv 1) (w_pa_N (w_pv 2) w_pa_nil))))
        (w_pss_one (w_ps_ret w_pe_bl))
        w_pss_nil)
      (w_pss_cons (w_ps_for PassesOwn.never rfl (w_pi_range2 rfl T.n_range (w_pa_C w_pe_int (w_pa_K (w_pe_callB (call_max2 rfl) (by rfl) T.n_max bt_max (w_pa_C w_pe_int (w_pa_K (w_pe_callB (call_min2 rfl) (by rfl) T.n_min bt_min (w_pa_C w_pe_int (w_pa_K (w_pe_callB call_len_seq (by rfl) T.n_len bt_len (w_pa_N (w_pv 0) w_pa_nil)) w_pa_nil))) w_pa_nil))) w_pa_nil))) (w_pg_name (i := 3) sc_law.nd rfl (Or.inl rfl))
        (w_pss_cons (w_ps_asg (w_pe_c c__law_bad (hr.mono (by omega)) (w_pa_N (w_pv 1) (w_pa_N (w_pv 2) (w_pa_cons (w_pe_lst (w_pa_B (w_pe_op op_add (w_pe_c c__law_cell_at (hr.mono (by omega)) (w_pa_N (w_pv 0) (w_pa_N (w_pv 3) w_pa_nil))) (w_pe_op op_mul w_pe_int (w_pv 3))) w_pa_nil)) w_pa_nil)))) (w_pg_tup rfl (w_pgs_cons (w_pg_name (i := 4) sc_law.nd rfl (Or.inl rfl)) (w_pgs_cons (w_pg_name (i := 5) sc_law.nd rfl (Or.inl rfl)) w_pgs_nil))))
        (w_pss_one (w_ps_if (w_pt_not (w_pt_val (w_pe_c c__law_refused (hr.mono (by omega)) (w_pa_N (w_pv 4) (w_pa_N (w_pv 5) w_pa_nil)))))
          (w_pss_one (w_ps_ret w_pe_bl))
          w_pss_nil))))
      (w_pss_cons (w_ps_set (i := 6) sc_law.nd rfl (Or.inl rfl) (w_pe_op op_cat (w_pe_op op_cat (w_pe_lst (w_pa_C w_pe_int w_pa_nil)) (w_pe_comp rfl (N' := ["_law_k"]) (t := 1) (caps := []) ⟨rfl, rfl, rfl⟩ (w_pi_range2 rfl T.n_range (w_pa_C w_pe_int (w_pa_C w_pe_int w_pa_nil))) (fun _ => (w_pg_name (i := 0) (show (["_law_k"] : List Str).Nodup by decide +kernel) rfl (Or.inl rfl))) (fun _ => w_pts_nil) (fun _ => (w_pe_op op_mul w_pe_int (w_pv 0))))) (w_pe_lst (w_pa_C w_pe_int w_pa_nil))))
      (w_pss_cons (w_ps_for PassesOwn.never rfl (w_pi_list (w_pe_lst (w_pa_cons (w_pe_lst (w_pa_C w_pe_int w_pa_nil)) (w_pa_cons (w_pe_lst (w_pa_C w_pe_int w_pa_nil)) (w_pa_N (w_pv 6) (w_pa_K (w_pe_callTy (call_listR hr.hd) (by rfl) T.n_list bt_list (w_pa_K (w_pe_callTy call_range2O (by rfl) T.n_range PyProof.Rows.boot_range (w_pa_C w_pe_int (w_pa_C w_pe_int w_pa_nil))) w_pa_nil)) w_pa_nil)))))) (w_pg_name (i := 7) sc_law.nd rfl (Or.inr rfl))
        (w_pss_one (w_ps_if (w_pt_val (w_pe_c c__law_refused (hr.mono (by omega)) (w_pa_N (w_pv 7) (w_pa_cons (w_pe_comp rfl (N' := ["_law_other", "_law_good"]) (t := 1) (caps := [7]) ⟨rfl, rfl, rfl⟩ (w_pi_list (w_pe_slice sl_list (w_pv 7) (w_po_some w_pe_int) w_po_none)) (fun _ => (w_pg_name (i := 0) (show (["_law_other", "_law_good"] : List Str).Nodup by decide +kernel) rfl (Or.inl rfl))) (fun _ => w_pts_nil) (fun _ => (w_pe_tup (w_pa_cons (w_pe_ix ix_list (w_pv 1) w_pe_int (fun _ _ => rfl)) (w_pa_N (w_pv 0) w_pa_nil))))) w_pa_nil))))
          (w_pss_one (w_ps_ret w_pe_bl))
          w_pss_nil)))
      (w_pss_one (w_ps_ret (w_pe_and (w_pe_not (w_pe_c c__law_refused (hr.mono (by omega)) (w_pa_cons (w_pe_lst (w_pa_C w_pe_int (w_pa_C w_pe_int w_pa_nil))) (w_pa_cons (w_pe_lst (w_pa_T (w_pe_tup (w_pa_C w_pe_int (w_pa_C w_pe_int w_pa_nil))) w_pa_nil)) w_pa_nil)))) (w_pe_one (w_pe_c c__law_refused (hr.mono (by omega)) (w_pa_cons (w_pe_lst (w_pa_C w_pe_int (w_pa_C w_pe_int w_pa_nil))) (w_pa_cons (w_pe_lst (w_pa_T (w_pe_tup (w_pa_C w_pe_int (w_pa_C w_pe_bl w_pa_nil))) w_pa_nil)) w_pa_nil)))))))))))) ?_
    refine ⟨_, rfl, sc, ns, 0, rfl, hS, by decide, fun c => ⟨by show 1 ≤ sizeLine; decide, fun l hl => ?_⟩⟩
    have S1 : StAt (L2.upd H l (.lst [V.int c])) l := ⟨_, upd_same, .inl ⟨c, rfl⟩⟩
    have s0 := Same.new (o := HO.lst [V.int c]) hl
    refine ⟨l, rfl, S1, fun t h r rs hs ls H1 e1 hh1 hr1 hls1 W L _ x1 _ _ _ => ?_⟩
    refine ⟨t, _, rfl, SqT.of e1, rfl, _, _, rfl, _, _, rfl, rfl, ?_⟩
    have Y1 : Same H H1 := fun b o e => x1 b o (s0 b o e) (ne_of_none e hl)
    have l12 := W.l12
    have l66 := L.le
    have lp : (pds ls).length ≤ 66 := by unfold pds; rw [List.length_map]; exact l66
    have hzp : (LsD.lst (pds ls)).size ≤ 1000 := by show (pds ls).length ≤ 1000; omega
    have hH1 : IsH H1 (.ref h) (.lst (hs.map V.int)) := ⟨h, rfl, hh1, flat_ints hs⟩
    have hL1 : IsLs H1 (.ref r) (.lst (pds ls)) := ⟨r, rs, rfl, hr1, lnAt_ds hls1⟩
    refine ⟨_, rfl, _, rfl, _, _, _, _, rfl, hH1, hL1, hzp, fun H2 s2 => ⟨_, rfl, iteN (by rw [web_good W L]; rfl) ?_⟩⟩
    have hS2 := sqSame hS (Y1.trans s2)
    have hh2 := s2 _ _ hh1
    have hr2 := s2 _ _ hr1
    have hls2 := hls1.same s2
    refine ⟨_, rfl, sc, _, rfl, .inl hS2, 40, _, rfl, 2, _, rfl, 1, _, rfl, ⟨by decide, by decide, ?_, ?_⟩, ?_⟩
    · rw [List.length_map]
      repeat' split
      all_goals omega
    · rw [List.length_map]
      repeat' split
      all_goals omega
    refine for_range (lo := 1) (fun i σ H' => ∃ (o3 o4 o5 : Option V), σ = [some (.ref sc), some (.ref h), some (.ref r), o3, o4, o5, none, none] ∧ Same H2 H') ?_ ?_ ?_
    · exact ⟨none, none, none, rfl, Same.refl H2⟩
    · rintro i σ H5 hi ⟨o3, o4, o5, rfl, s5⟩
      refine ⟨_, rfl, _, rfl, _, rfl, _, rfl, sc, ns, _, rfl, sqSame hS2 s5, by omega, fun c' => ?_⟩
      refine ⟨_, rfl, 7, _, rfl, rfl, .inl ⟨by decide, by decide⟩, _, _, rfl, rfl, (by show 1 ≤ sizeLine; decide), fun st hst => ?_⟩
      have s6 := Same.new (o := HO.lst [V.int (c' + 7 * (1 + (i : Int)))]) hst
      have s26 := s5.trans s6
      refine ⟨h, r, st, hs, rs, ls, rfl, s26 _ _ hh2, s26 _ _ hr2, hls2.same s26, W, L, ⟨_, upd_same, .inl ⟨_, rfl⟩⟩, ne_of_none (s5 _ _ hh2) hst, ne_of_none (s5 _ _ hr2) hst, fun t H7 b7 x7 => ?_⟩
      obtain ⟨q, v, u, d, e, z1, z2, z3, z4, z5, z6⟩ := b7
      cases z1
      refine ⟨_, _, rfl, SqT.of z2, rfl, _, _, rfl, _, _, rfl, rfl, ?_⟩
      refine ⟨_, rfl, _, rfl, v, u, d, e, rfl, z3, z4, z5, fun H8 s8 => ⟨_, rfl, iteN (by rw [z6]; rfl) ?_⟩⟩
      exact ⟨_, _, _, rfl, fun b o e => s8 _ _ (x7 _ _ (s26 _ _ e) (ne_of_none (s5 _ _ e) hst))⟩
    · rintro σ H5 ⟨o3, o4, o5, rfl, s5⟩
      refine st_H (st := []) (d := .lst (wideL.map V.int)) (gh_cat (xs := [V.int 0] ++ (List.range 10).map fun (j : Nat) => V.int (8 * (1 + (j : Int)))) hasNil (gh_cat hasNil (gh_lst hasNil (gx_cons gi_c gx_nil) rfl (by simp)) ?cw (by simp)) (gh_lst hasNil (gx_cons gi_c gx_nil) rfl (by simp)) (by simp)) fun v6 H6 s6 hw => ?_
      case cw =>
        intro Hx sx Q' k'
        refine ⟨1, 11, rfl, ⟨by decide, by decide, by decide, by decide⟩, fun D hD _ => ?_⟩
        refine comp_range (lo := 1) (fun i zs τ H' => ∃ o, τ = [o] ∧ zs = (List.range i).map (fun (j : Nat) => V.int (8 * (1 + (j : Int)))) ∧ H' D = some (.lst zs) ∧ Same Hx H') ?_ ?_ ?_
        · exact ⟨none, rfl, rfl, upd_same, Same.new hD⟩
        · rintro i zs τ H' hi ⟨o, rfl, rfl, hD', sm⟩
          have hi : i < 10 := hi
          refine gn_if ?_
          refine ⟨_, rfl, 8, _, rfl, rfl, .inl ⟨by decide, by decide⟩, hD', small1000 (by simp; omega), _, rfl, ?_, upd_same, sm.updF hD⟩
          rw [List.range_succ, List.map_append]
          rfl
        · rintro zs τ H' ⟨o, rfl, rfl, hD', sm⟩
          refine k' _ _ sm ⟨D, rfl, hide_of (by simp) hD', ?_⟩
          decide +kernel
      have hw := hw.same hide_sub
      refine for_new (gq_cons (st := []) (d := .lst ([0].map V.int)) (gh_lst hasNil (gx_cons gi_c gx_nil) rfl (by simp)) (gq_cons (d := .lst ([99].map V.int)) (gh_lst hasNil (gx_cons gi_c gx_nil) rfl (by simp)) (gq_cons (gh_var (i := 6) rfl (hw.same fun b o e => hide_of (by simp) e)) (gq_cons (d := .lst (lateL.map V.int)) ?r88 gq_nil)))) (by decide) fun rg H7 pl s7 pr hpl => ?_
      case r88 =>
        intro Hx sx Q' k'
        exact ⟨88, 100, rfl, fun r hr => ⟨r, 88, 100, rfl, upd_same, (by decide), (by decide), (by decide), fun l hl => k' _ _ ((Same.new hr).trans (Same.new hl)) ⟨l, rfl, hnew hasNil (sx.trans (Same.new hr)) hl, by decide +kernel⟩⟩⟩
      have lg : rg.length = 4 := pr.length
      have s8 := Same.new (o := HO.lst rg) hpl
      have gd : ∀ d ∈ [HD.lst ([0].map V.int), .lst ([99].map V.int), .lst (wideL.map V.int), .lst (lateL.map V.int)], ∃ x t, d = .lst ((x :: t).map V.int) ∧ Hs (x :: t) := by
        intro d hd
        simp only [List.mem_cons, List.not_mem_nil, or_false] at hd
        rcases hd with rfl | rfl | rfl | rfl
        · exact ⟨0, [], rfl, hsB rfl⟩
        · exact ⟨99, [], rfl, hsB rfl⟩
        · exact ⟨_, _, rfl, hsB (by decide +kernel)⟩
        · exact ⟨_, _, rfl, hsB (by decide +kernel)⟩
      have hpl8 : L2.upd H7 pl (.lst rg) pl = some (.lst rg) := upd_same
      have pr8 : Paired (IsH (L2.upd H7 pl (.lst rg))) rg _ := L2.Paired.imp' (fun _ _ z => (z.same hide_sub).same s8) pr
      generalize L2.upd H7 pl (.lst rg) = H8 at *
      refine for_list (K := K) (a := pl) (xs := rg) (fun i σ H' => ∃ (o7 : Option V), σ = [some (.ref sc), some (.ref h), some (.ref r), o3, o4, o5, some v6, o7] ∧ Same H8 H') ?_ ?_ ?_ ?_
      · exact ⟨none, rfl, Same.refl _⟩
      · rintro i σ H' _ ⟨o7, _, sm⟩
        exact SqL.of (sm _ _ hpl8)
      · rintro i v σ H9 hi ⟨o7, rfl, s9⟩
        obtain ⟨d, hd, hv⟩ := pget pr8 hi
        obtain ⟨x, t, rfl, W'⟩ := gd d (List.mem_of_getElem? hd)
        have hv9 := hv.same s9
        obtain ⟨g0, rfl, hg, _⟩ := id hv9
        have L' := star_ls W'
        have lt : t.length ≤ 11 := by have := W'.l12; simp at this; omega
        refine ⟨_, rfl, _, rfl, 1, rfl, g0, _, rfl, SqL.of hg, fun ps hps => ?_⟩
        rw [show cutV ((x :: t).map V.int) (some 1) none = t.map V.int from cut_lo (t := 1) (by simp)]
        have sp := Same.new (o := HO.lst (t.map V.int)) hps
        have hps' : L2.upd H9 ps (.lst (t.map V.int)) ps = some (.lst (t.map V.int)) := upd_same
        have hg10 := sp _ _ hg
        have hv10 := hv9.same sp
        have s10 := s9.trans sp
        generalize L2.upd H9 ps (.lst (t.map V.int)) = H10 at *
        refine ⟨ps, rfl, ⟨_, SqL.of hps'⟩, fun D hD _ => ?_⟩
        refine comp_list (K := K) (a := ps) (xs := t.map V.int) (fun i zs τ H' => ∃ o, τ = [o, some (.ref g0)] ∧ i ≤ t.length ∧ Paired (IsL (hide [D] H')) zs (pds ((t.take i).map fun o => (x, o))) ∧ H' D = some (.lst zs) ∧ Same H10 H') ?_ ?_ ?_ ?_
        · exact ⟨none, rfl, Nat.zero_le _, .nil, upd_same, Same.new hD⟩
        · rintro i zs τ H' ⟨o, _, _, _, _, sm⟩
          exact SqL.of (sm _ _ hps')
        · rintro i v zs τ H' hi ⟨o, rfl, _, pz, hD', sm⟩
          rw [List.getElem?_map] at hi
          obtain ⟨y, hy, rfl⟩ := Option.map_eq_some_iff.mp hi
          have hi' := (List.getElem?_eq_some_iff.mp hy).1
          have lz : zs.length = i := by
            rw [pz.length]
            unfold pds
            rw [List.length_map, List.length_map, List.length_take]
            omega
          refine gn_if ?_
          refine ⟨_, rfl, g0, _, 0, V.int x, rfl, rfl, SqL.of (sm _ _ hg10), atI_nat (j := 0) rfl, _, rfl, (by show 2 ≤ sizeLine; decide), fun tq htq => ?_⟩
          have st' := Same.new (o := HO.tup [V.int x, V.int y]) htq
          have tD : tq ≠ D := fun z => by rw [z, hD'] at htq; cases htq
          have xD : Ext D (L2.upd H' tq (.tup [V.int x, V.int y])) (L2.upd (L2.upd H' tq (.tup [V.int x, V.int y])) D (.lst (zs ++ [.ref tq]))) := Ext.at
          refine ⟨st' _ _ hD', small1000 (by omega), _, rfl, hi', ?_, upd_same, (sm.trans st').updF hD⟩
          have et : t.take (i + 1) = t.take i ++ [y] := by rw [List.take_add_one, hy]; rfl
          rw [et, List.map_append]
          unfold pds at pz ⊢
          rw [List.map_append]
          refine papp (L2.Paired.imp' (fun _ _ z => (z.same (hide_same st')).same (hide_ext (by simp) xD)) pz) (.cons ⟨tq, rfl, ?_, rfl⟩ .nil)
          exact hide_of (by simpa using tD) ((upd_ne tD).trans upd_same)
        · rintro zs τ H' ⟨o, rfl, _, pz, hD', sm⟩
          rw [List.length_map, List.take_length] at pz
          refine ⟨_, _, _, .lst (pds (t.map fun o => (x, o))), rfl, hv10.same sm, ⟨D, zs, rfl, hD', L2.Paired.imp' (fun _ _ z => z.same hide_sub) pz⟩, ?_, fun H11 s11 => ⟨_, rfl, iteN (by rw [web_good W' L']; rfl) ?_⟩⟩
          · show (pds _).length ≤ 1000
            unfold pds
            rw [List.length_map, List.length_map]
            omega
          · exact ⟨_, rfl, (s10.trans sm).trans s11⟩
      · rintro σ H9 ⟨o7, rfl, s9⟩
        refine ret_ref (gh_lst hasNil (gx_cons gi_c (gx_cons gi_c gx_nil)) rfl (by simp)) (gl_lst hasNil (gd_cons (gd_tup hasNil (gx_cons gi_c (gx_cons gi_c gx_nil)) rfl (by simp)) gd_nil) (by simp)) (fun _ => gh_lst hasNil (gx_cons gi_c (gx_cons gi_c gx_nil)) rfl (by simp)) (fun _ => gl_lst hasNil (gd_cons (gd_tup hasNil (gx_cons gi_c (gx_cons gi_c gx_nil)) rfl (by simp)) gd_nil) (by simp)) (by decide) (by decide) (by decide +kernel) (by decide +kernel) fun H' => ?_
        exact k _
end
end K04

/-! Hx_k02 -/
set_option Elab.async false
set_option linter.all false
set_option maxRecDepth 100000
set_option maxHeartbeats 4000000
noncomputable section
namespace Hd
open PySem PySem.W PySem.Calls PyProof.Rows
def tt {α : Type} (_ : α) : Bool := true
def S (i : Nat) : Stmt := PySem.Challenge.pw_beatless_k02_webs_refused.main.body.getD i (.Pass ⟨0, 0, 0, 0⟩)
def en (P : Params) (x : Str) (t : Tok) (v : Value) : DictEntry := ⟨PyData.keyHash P x, .str x t, v⟩
def fd (n q : Str) (s : Stmt) (g : Addr) (cl : List (Str × Addr)) (d k c m : Value) (an : Option Addr) (cd ct : Value) (b : Addr) : FuncData :=
  ⟨n, q, L2.defArgs s, .stmts (L2.defBody s), L2.defScope s, g, cl, d, k, c, m, an, cd, ct, b⟩
abbrev an : Option Value := (Option.some (.ref 6))
def env : Env := { scope := PySem.Challenge.pw_beatless_k02_webs_refused.main.scope, locals := mainNs, globals := mainNs, cells := [], code := (.ref 13), frame := some 14 }
abbrev bE : List Stmt := behindTheImports PySem.Challenge.pw_beatless_k02_webs_refused
abbrev cE : Code := .body bE env
abbrev qE : Pos := (Pos.mk 0 0 0 0)
abbrev B : List Frame := [topFrame qE]
def s0 (w : World) (os : OsState) : Shared := ⟨boot_heap w.params, ⟨[]⟩, boot_drawn, boot_toks, os⟩
def o0 (P : Params) : Obj := (Obj.mk (.type "tuple") (Option.none) (Data.seq #[] 0) #[])
def o1 (P : Params) : Obj := (Obj.mk .none (Option.none) (Data.fields #[]) #[])
def o2 (P : Params) : Obj := (Obj.mk (.type "code") (Option.none) (Data.fields #[(.str "<module>" 182), (.str "<module>" 183), (.str "/claim/cut.py" 184), (.int (1 : Int) 0), (.int (0 : Int) 0), (.int (0 : Int) 0), (.int (0 : Int) 0), (.int (0 : Int) 0), (.ref 11), (.bool Bool.false), (.int (181 : Int) 0), (.ref 12), .none, .none, .none, .none, (.int (185 : Int) 0), (.int (1 : Int) 0), (.str "/claim/cut.py" 186)]) #[])
def o3 (P : Params) : Obj := (Obj.mk (.type "frame") (Option.none) Data.plain #[(Option.some (.ref 13)), (Option.some (.ref 3)), (Option.some (.ref 3)), (Option.none), (Option.some (.str "__main__" 164)), (Option.none), (Option.some (.ref 0))])
def t0 (P : Params) : BT := .node (boot_o_7 P) .nil .nil
def t1 (P : Params) : BT := .node (o0 P) .nil .nil
def t2 (P : Params) : BT := .node (boot_o_3 P) (t0 P) (t1 P)
def t3 (P : Params) : BT := .node (boot_o_9 P) .nil .nil
def t4 (P : Params) : BT := .node (o2 P) .nil .nil
def t5 (P : Params) : BT := .node (boot_o_5 P) (t3 P) (t4 P)
def t6 (P : Params) : BT := .node (boot_o_1 P) (t2 P) (t5 P)
def t7 (P : Params) : BT := .node (boot_o_8 P) .nil .nil
def t8 (P : Params) : BT := .node (o1 P) .nil .nil
def t9 (P : Params) : BT := .node (boot_o_4 P) (t7 P) (t8 P)
def t10 (P : Params) : BT := .node (boot_o_10 P) .nil .nil
def t11 (P : Params) : BT := .node (o3 P) .nil .nil
def t12 (P : Params) : BT := .node (boot_o_6 P) (t10 P) (t11 P)
def t13 (P : Params) : BT := .node (boot_o_2 P) (t9 P) (t12 P)
def t14 (P : Params) : BT := .node (boot_o_0 P) (t6 P) (t13 P)
def sa (w : World) (os : OsState) : SharedT := ⟨(t14 w.params), 15, (Life.mk [] [] [] 0 [] [] Bool.false #[] [] 0 Bool.false Bool.false Bool.false (0 : Int) [(2000 : Int), (10 : Int), (10 : Int)] Bool.false 0 Bool.true [] [] 0 Bool.false), ⟨[]⟩, (Drawn.mk 0 0 0 0), 187, os⟩
def La (w : World) (os : OsState) : Option (Shared × Thread) := topGo treeTable PySem.Challenge.pw_beatless_k02_webs_refused w 11 an 12 (s0 w os) (topStub PySem.Challenge.pw_beatless_k02_webs_refused)
def Ra (w : World) (os : OsState) : Option (Shared × Thread) := some ((sa w os).abs, ⟨denote treeTable cE, cE, (Pos.mk 0 0 0 0), B⟩)
theorem qa : tt (Hd.La, Hd.Ra) = true := by k_qdec
theorem ra : ∀ w, PySem.W.Fast.tw11367235000924431832 w = PySem.W.Fast.tw15912052731592885781 w := fun w => by kernel_rfl
theorem ea (w : World) (os : OsState) : Hd.La w os = Hd.Ra w os :=
  (congrFun (congrFun PySem.W.Fast.te11367235000924431832 w) os).trans ((congrFun (ra w) os).trans (congrFun (congrFun PySem.W.Fast.te15912052731592885781 w) os).symm)
def sb0 (w : World) (os : OsState) : SharedT := ⟨(t14 w.params), 15, (Life.mk [] [] [] 0 [] [] Bool.false #[] [] 0 Bool.false Bool.false Bool.false (0 : Int) [(2000 : Int), (10 : Int), (10 : Int)] Bool.false 0 Bool.true [] [] 0 Bool.false), ⟨[]⟩, (Drawn.mk 0 0 0 0), 187, os⟩
def Lb (w : World) (os : OsState) : Option (Flow × SharedT × Code × Pos) := segRunT treeTable PySem.Challenge.pw_beatless_k02_webs_refused w 11 an 1 1 (sa w os) (blockOf bE env cE (Pos.mk 0 0 0 0) B)
def Rb (w : World) (os : OsState) : Option (Flow × SharedT × Code × Pos) := some (.next, sb0 w os, cE, (Pos.mk 0 0 0 0))
theorem qb : tt (Hd.Lb, Hd.Rb) = true := by k_qdec
theorem rb : ∀ w, PySem.W.Fast.tw16430817790641568776 w = PySem.W.Fast.tw15716482383535360375 w := fun w => by kernel_rfl
theorem eb (w : World) (os : OsState) : Hd.Lb w os = Hd.Rb w os :=
  (congrFun (congrFun PySem.W.Fast.te16430817790641568776 w) os).trans ((congrFun (rb w) os).trans (congrFun (congrFun PySem.W.Fast.te15716482383535360375 w) os).symm)
def sts0 : List Stmt := [S 0, S 1, S 2]
def o4 (P : Params) : Obj := (Obj.mk (.type "dict") (Option.none) (Data.dict #[en P "__name__" 165 (.str "beatless.errors" 194), en P "__doc__" 166 .none, en P "__package__" 167 .none, en P "__loader__" 168 (.builtin "__main__.__loader__#opaque"), en P "__spec__" 169 .none, en P "__annotations__" 170 (.ref 6), en P "__builtins__" 171 (.ref 4), en P "__file__" 173 (.str "/claim/cut.py" 172), en P "__cached__" 174 .none, en P "_wall" 193 (.ref 21), en P "BeatlessError" 213 (.ref 31)] 11) #[])
def o5 (P : Params) : Obj := (Obj.mk .none (Option.none) (Data.fields #[(.int (1 : Int) 0), (.int (0 : Int) 0), (.ref 20), (.int (5 : Int) 0), (.int (0 : Int) 0), (.ref 27)]) #[])
def o6 (P : Params) : Obj := (Obj.mk (.type "tuple") (Option.none) (Data.seq #[] 0) #[])
def o7 (P : Params) : Obj := (Obj.mk .none (Option.none) (Data.fields #[]) #[])
def o8 (P : Params) : Obj := (Obj.mk (.type "tuple") (Option.none) (Data.seq #[(.str "k" 190)] 0) #[])
def o9 (P : Params) : Obj := (Obj.mk (.type "tuple") (Option.none) (Data.seq #[] 0) #[])
def o10 (P : Params) : Obj := (Obj.mk .none (Option.none) (Data.func (fd "_wall" "_wall" (S 0) 0 [] .none .none .none .none (Option.none) .none .none 0)) #[])
def o11 (P : Params) : Obj := (Obj.mk (.type "code") (Option.none) (Data.fields #[(.str "_wall" 187), (.str "_wall" 188), (.str "/claim/cut.py" 189), (.int (1 : Int) 0), (.int (1 : Int) 0), (.int (0 : Int) 0), (.int (0 : Int) 0), (.int (3 : Int) 0), (.ref 15), (.bool Bool.true), (.int (181 : Int) 0), (.ref 16), .none, (.ref 17), (.ref 18), (.ref 19), (.int (191 : Int) 0), (.int (1 : Int) 0), (.str "/claim/cut.py" 192)]) #[])
def o12 (P : Params) : Obj := (Obj.mk (.type "function") (Option.none) (Data.func (fd "_wall" "_wall" (S 0) 3 [] .none .none .none (.str "__main__" 164) (Option.none) (.ref 20) .none 0)) #[])
def o13 (P : Params) : Obj := (Obj.mk (.type "tuple") (Option.none) (Data.seq #[(.type "ValueError")] 0) #[])
def o14 (P : Params) : Obj := (Obj.mk (.type "builtin_function_or_method") (Option.none) (Data.fields #[(.builtin "type.__prepare__"), (.type "type")]) #[])
def o15 (P : Params) : Obj := (Obj.mk (.type "dict") (Option.none) (Data.dict #[en P "__module__" 203 (.str "beatless.errors" 194), en P "__qualname__" 205 (.str "BeatlessError" 204), en P "__firstlineno__" 207 (.int (5 : Int) 206), en P "__static_attributes__" 208 (.ref 29)] 4) #[])
def o16 (P : Params) : Obj := (Obj.mk (.type "tuple") (Option.none) (Data.seq #[] 0) #[])
def o17 (P : Params) : Obj := (Obj.mk .none (Option.none) (Data.fields #[]) #[])
def o18 (P : Params) : Obj := (Obj.mk (.type "code") (Option.none) (Data.fields #[(.str "BeatlessError" 198), (.str "BeatlessError" 199), (.str "/claim/cut.py" 200), (.int (5 : Int) 0), (.int (0 : Int) 0), (.int (0 : Int) 0), (.int (0 : Int) 0), (.int (0 : Int) 0), (.ref 25), (.bool Bool.false), (.int (181 : Int) 0), (.ref 26), .none, .none, .none, .none, (.int (201 : Int) 0), (.int (5 : Int) 0), (.str "/claim/cut.py" 202)]) #[])
def o19 (P : Params) : Obj := (Obj.mk (.type "frame") (Option.none) Data.plain #[(Option.some (.ref 27)), (Option.some (.ref 3)), (Option.some (.ref 24)), (Option.none), (Option.some (.str "beatless.errors" 194)), (Option.none), (Option.some (.ref 0))])
def o20 (P : Params) : Obj := (Obj.mk (.type "tuple") (Option.none) (Data.seq #[] 0) #[])
def o21 (P : Params) : Obj := (Obj.mk (.type "dict") (Option.none) (Data.dict #[en P "__module__" 203 (.str "beatless.errors" 194), en P "__firstlineno__" 207 (.int (5 : Int) 206), en P "__static_attributes__" 208 (.ref 29), en P "__weakref__" 210 (.ref 32), en P "__doc__" 211 .none] 3) #[])
def o22 (P : Params) : Obj := (Obj.mk (.type "type") (Option.none) (Data.cls (ClassData.mk "BeatlessError" [(.type "ValueError")] [(.ref 31), (.type "ValueError"), (.type "Exception"), (.type "BaseException"), (.type "object")] 30 "BeatlessError" Bool.true [] [] Bool.false (Option.none) Bool.false)) #[(Option.some (.ref 22)), (Option.none), (Option.some (.str "BeatlessError" 196)), (Option.some (.str "BeatlessError" 204)), (Option.some (.builtin "ValueError.__new__")), (Option.some (.bool Bool.true))])
def o23 (P : Params) : Obj := (Obj.mk (.type "getset_descriptor") (Option.none) (Data.fields #[(.str "__weakref__" 209), (.ref 31), (.builtin "ExceptionGroup.__weakref__"), .none]) #[])
def o24 (P : Params) : Obj := (Obj.mk (.type "super") (Option.none) (Data.fields #[(.ref 31), (.ref 31), (.ref 31)]) #[])
def o25 (P : Params) : Obj := (Obj.mk (.type "builtin_function_or_method") (Option.none) (Data.fields #[(.builtin "object.__init_subclass__"), (.ref 31)]) #[])
def t15 (P : Params) : BT := .node (o22 P) .nil .nil
def t16 (P : Params) : BT := .node (o6 P) (t15 P) .nil
def t17 (P : Params) : BT := .node (o14 P) .nil .nil
def t18 (P : Params) : BT := .node (boot_o_7 P) (t16 P) (t17 P)
def t19 (P : Params) : BT := .node (o10 P) .nil .nil
def t20 (P : Params) : BT := .node (o18 P) .nil .nil
def t21 (P : Params) : BT := .node (o0 P) (t19 P) (t20 P)
def t22 (P : Params) : BT := .node (o4 P) (t18 P) (t21 P)
def t23 (P : Params) : BT := .node (o24 P) .nil .nil
def t24 (P : Params) : BT := .node (o8 P) (t23 P) .nil
def t25 (P : Params) : BT := .node (o16 P) .nil .nil
def t26 (P : Params) : BT := .node (boot_o_9 P) (t24 P) (t25 P)
def t27 (P : Params) : BT := .node (o12 P) .nil .nil
def t28 (P : Params) : BT := .node (o20 P) .nil .nil
def t29 (P : Params) : BT := .node (o2 P) (t27 P) (t28 P)
def t30 (P : Params) : BT := .node (boot_o_5 P) (t26 P) (t29 P)
def t31 (P : Params) : BT := .node (boot_o_1 P) (t22 P) (t30 P)
def t32 (P : Params) : BT := .node (o23 P) .nil .nil
def t33 (P : Params) : BT := .node (o7 P) (t32 P) .nil
def t34 (P : Params) : BT := .node (o15 P) .nil .nil
def t35 (P : Params) : BT := .node (boot_o_8 P) (t33 P) (t34 P)
def t36 (P : Params) : BT := .node (o11 P) .nil .nil
def t37 (P : Params) : BT := .node (o19 P) .nil .nil
def t38 (P : Params) : BT := .node (o5 P) (t36 P) (t37 P)
def t39 (P : Params) : BT := .node (boot_o_4 P) (t35 P) (t38 P)
def t40 (P : Params) : BT := .node (o25 P) .nil .nil
def t41 (P : Params) : BT := .node (o9 P) (t40 P) .nil
def t42 (P : Params) : BT := .node (o17 P) .nil .nil
def t43 (P : Params) : BT := .node (boot_o_10 P) (t41 P) (t42 P)
def t44 (P : Params) : BT := .node (o13 P) .nil .nil
def t45 (P : Params) : BT := .node (o21 P) .nil .nil
def t46 (P : Params) : BT := .node (o3 P) (t44 P) (t45 P)
def t47 (P : Params) : BT := .node (boot_o_6 P) (t43 P) (t46 P)
def t48 (P : Params) : BT := .node (boot_o_2 P) (t39 P) (t47 P)
def t49 (P : Params) : BT := .node (boot_o_0 P) (t31 P) (t48 P)
def sb1 (w : World) (os : OsState) : SharedT := ⟨(t49 w.params), 35, (Life.mk [] [] [] 0 [] [] Bool.false #[] [] 0 Bool.false Bool.false Bool.false (0 : Int) [(2000 : Int), (10 : Int), (10 : Int)] Bool.false 0 Bool.true [] [] 0 Bool.false), ⟨[]⟩, (Drawn.mk 0 0 0 0), 214, os⟩
def L0 (w : World) (os : OsState) : Option (Flow × SharedT × Code × Pos) := segRunT treeTable PySem.Challenge.pw_beatless_k02_webs_refused w 11 an 1 225 (sb0 w os) (piecesOf sts0 env cE (Pos.mk 0 0 0 0) B)
def R0 (w : World) (os : OsState) : Option (Flow × SharedT × Code × Pos) := some (.next, sb1 w os, cE, (Pos.mk 5 0 6 8))
theorem q0 : tt (Hd.L0, Hd.R0) = true := by k_qdec
theorem r0 : ∀ w, PySem.W.Fast.tw4453942571644881324 w = PySem.W.Fast.tw13470614248104656481 w := fun w => by kernel_rfl
theorem e0 (w : World) (os : OsState) : Hd.L0 w os = Hd.R0 w os :=
  (congrFun (congrFun PySem.W.Fast.te4453942571644881324 w) os).trans ((congrFun (r0 w) os).trans (congrFun (congrFun PySem.W.Fast.te13470614248104656481 w) os).symm)
def sts1 : List Stmt := [S 3]
def o26 (P : Params) : Obj := (Obj.mk (.type "dict") (Option.none) (Data.dict #[en P "__name__" 165 (.str "beatless.errors" 194), en P "__doc__" 166 .none, en P "__package__" 167 .none, en P "__loader__" 168 (.builtin "__main__.__loader__#opaque"), en P "__spec__" 169 .none, en P "__annotations__" 170 (.ref 6), en P "__builtins__" 171 (.ref 4), en P "__file__" 173 (.str "/claim/cut.py" 172), en P "__cached__" 174 .none, en P "_wall" 193 (.ref 21), en P "BeatlessError" 213 (.ref 31), en P "NoWeb" 229 (.ref 44)] 12) #[])
def o27 (P : Params) : Obj := (Obj.mk .none (Option.none) (Data.fields #[(.int (1 : Int) 0), (.int (0 : Int) 0), (.ref 20), (.int (5 : Int) 0), (.int (0 : Int) 0), (.ref 27), (.int (7 : Int) 0), (.int (0 : Int) 0), (.ref 40)]) #[])
def o28 (P : Params) : Obj := (Obj.mk (.type "type") (Option.none) (Data.cls (ClassData.mk "BeatlessError" [(.type "ValueError")] [(.ref 31), (.type "ValueError"), (.type "Exception"), (.type "BaseException"), (.type "object")] 30 "BeatlessError" Bool.true [] [(.ref 44)] Bool.false (Option.none) Bool.false)) #[(Option.some (.ref 22)), (Option.none), (Option.some (.str "BeatlessError" 196)), (Option.some (.str "BeatlessError" 204)), (Option.some (.builtin "ValueError.__new__")), (Option.some (.bool Bool.true))])
def o29 (P : Params) : Obj := (Obj.mk (.type "tuple") (Option.none) (Data.seq #[(.ref 31)] 0) #[])
def o30 (P : Params) : Obj := (Obj.mk (.type "builtin_function_or_method") (Option.none) (Data.fields #[(.builtin "type.__prepare__"), (.type "type")]) #[])
def o31 (P : Params) : Obj := (Obj.mk (.type "dict") (Option.none) (Data.dict #[en P "__module__" 221 (.str "beatless.errors" 194), en P "__qualname__" 223 (.str "NoWeb" 222), en P "__firstlineno__" 225 (.int (7 : Int) 224), en P "__static_attributes__" 226 (.ref 42)] 4) #[])
def o32 (P : Params) : Obj := (Obj.mk (.type "tuple") (Option.none) (Data.seq #[] 0) #[])
def o33 (P : Params) : Obj := (Obj.mk .none (Option.none) (Data.fields #[]) #[])
def o34 (P : Params) : Obj := (Obj.mk (.type "code") (Option.none) (Data.fields #[(.str "NoWeb" 216), (.str "NoWeb" 217), (.str "/claim/cut.py" 218), (.int (7 : Int) 0), (.int (0 : Int) 0), (.int (0 : Int) 0), (.int (0 : Int) 0), (.int (0 : Int) 0), (.ref 38), (.bool Bool.false), (.int (181 : Int) 0), (.ref 39), .none, .none, .none, .none, (.int (219 : Int) 0), (.int (7 : Int) 0), (.str "/claim/cut.py" 220)]) #[])
def o35 (P : Params) : Obj := (Obj.mk (.type "frame") (Option.none) Data.plain #[(Option.some (.ref 40)), (Option.some (.ref 3)), (Option.some (.ref 37)), (Option.none), (Option.some (.str "beatless.errors" 194)), (Option.none), (Option.some (.ref 0))])
def o36 (P : Params) : Obj := (Obj.mk (.type "tuple") (Option.none) (Data.seq #[] 0) #[])
def o37 (P : Params) : Obj := (Obj.mk (.type "dict") (Option.none) (Data.dict #[en P "__module__" 221 (.str "beatless.errors" 194), en P "__firstlineno__" 225 (.int (7 : Int) 224), en P "__static_attributes__" 226 (.ref 42), en P "__doc__" 227 .none] 2) #[])
def o38 (P : Params) : Obj := (Obj.mk (.type "type") (Option.none) (Data.cls (ClassData.mk "NoWeb" [(.ref 31)] [(.ref 44), (.ref 31), (.type "ValueError"), (.type "Exception"), (.type "BaseException"), (.type "object")] 43 "NoWeb" Bool.true [] [] Bool.false (Option.none) Bool.false)) #[(Option.some (.ref 35)), (Option.none), (Option.some (.str "NoWeb" 214)), (Option.some (.str "NoWeb" 222)), (Option.some (.builtin "ValueError.__new__")), (Option.some (.bool Bool.true))])
def o39 (P : Params) : Obj := (Obj.mk (.type "super") (Option.none) (Data.fields #[(.ref 44), (.ref 44), (.ref 44)]) #[])
def o40 (P : Params) : Obj := (Obj.mk (.type "builtin_function_or_method") (Option.none) (Data.fields #[(.builtin "object.__init_subclass__"), (.ref 44)]) #[])
def t50 (P : Params) : BT := .node (o28 P) .nil .nil
def t51 (P : Params) : BT := .node (o6 P) (t50 P) .nil
def t52 (P : Params) : BT := .node (o33 P) .nil .nil
def t53 (P : Params) : BT := .node (o14 P) (t52 P) .nil
def t54 (P : Params) : BT := .node (boot_o_7 P) (t51 P) (t53 P)
def t55 (P : Params) : BT := .node (o29 P) .nil .nil
def t56 (P : Params) : BT := .node (o10 P) (t55 P) .nil
def t57 (P : Params) : BT := .node (o37 P) .nil .nil
def t58 (P : Params) : BT := .node (o18 P) (t57 P) .nil
def t59 (P : Params) : BT := .node (o0 P) (t56 P) (t58 P)
def t60 (P : Params) : BT := .node (o26 P) (t54 P) (t59 P)
def t61 (P : Params) : BT := .node (o35 P) .nil .nil
def t62 (P : Params) : BT := .node (o16 P) (t61 P) .nil
def t63 (P : Params) : BT := .node (boot_o_9 P) (t24 P) (t62 P)
def t64 (P : Params) : BT := .node (o31 P) .nil .nil
def t65 (P : Params) : BT := .node (o12 P) (t64 P) .nil
def t66 (P : Params) : BT := .node (o39 P) .nil .nil
def t67 (P : Params) : BT := .node (o20 P) (t66 P) .nil
def t68 (P : Params) : BT := .node (o2 P) (t65 P) (t67 P)
def t69 (P : Params) : BT := .node (boot_o_5 P) (t63 P) (t68 P)
def t70 (P : Params) : BT := .node (boot_o_1 P) (t60 P) (t69 P)
def t71 (P : Params) : BT := .node (o34 P) .nil .nil
def t72 (P : Params) : BT := .node (o15 P) (t71 P) .nil
def t73 (P : Params) : BT := .node (boot_o_8 P) (t33 P) (t72 P)
def t74 (P : Params) : BT := .node (o30 P) .nil .nil
def t75 (P : Params) : BT := .node (o11 P) (t74 P) .nil
def t76 (P : Params) : BT := .node (o38 P) .nil .nil
def t77 (P : Params) : BT := .node (o19 P) (t76 P) .nil
def t78 (P : Params) : BT := .node (o27 P) (t75 P) (t77 P)
def t79 (P : Params) : BT := .node (boot_o_4 P) (t73 P) (t78 P)
def t80 (P : Params) : BT := .node (o36 P) .nil .nil
def t81 (P : Params) : BT := .node (o17 P) (t80 P) .nil
def t82 (P : Params) : BT := .node (boot_o_10 P) (t41 P) (t81 P)
def t83 (P : Params) : BT := .node (o32 P) .nil .nil
def t84 (P : Params) : BT := .node (o13 P) (t83 P) .nil
def t85 (P : Params) : BT := .node (o40 P) .nil .nil
def t86 (P : Params) : BT := .node (o21 P) (t85 P) .nil
def t87 (P : Params) : BT := .node (o3 P) (t84 P) (t86 P)
def t88 (P : Params) : BT := .node (boot_o_6 P) (t82 P) (t87 P)
def t89 (P : Params) : BT := .node (boot_o_2 P) (t79 P) (t88 P)
def t90 (P : Params) : BT := .node (boot_o_0 P) (t70 P) (t89 P)
def sb2 (w : World) (os : OsState) : SharedT := ⟨(t90 w.params), 47, (Life.mk [] [] [] 0 [] [] Bool.false #[] [] 0 Bool.false Bool.false Bool.false (0 : Int) [(2000 : Int), (10 : Int), (10 : Int)] Bool.false 0 Bool.true [] [] 0 Bool.false), ⟨[]⟩, (Drawn.mk 0 0 0 0), 230, os⟩
def L1 (w : World) (os : OsState) : Option (Flow × SharedT × Code × Pos) := segRunT treeTable PySem.Challenge.pw_beatless_k02_webs_refused w 11 an 1 214 (sb1 w os) (piecesOf sts1 env cE (Pos.mk 5 0 6 8) B)
def R1 (w : World) (os : OsState) : Option (Flow × SharedT × Code × Pos) := some (.next, sb2 w os, cE, (Pos.mk 7 0 8 8))
theorem q1 : tt (Hd.L1, Hd.R1) = true := by k_qdec
theorem r1 : ∀ w, PySem.W.Fast.tw6387051279210280424 w = PySem.W.Fast.tw17943070361625844382 w := fun w => by kernel_rfl
theorem e1 (w : World) (os : OsState) : Hd.L1 w os = Hd.R1 w os :=
  (congrFun (congrFun PySem.W.Fast.te6387051279210280424 w) os).trans ((congrFun (r1 w) os).trans (congrFun (congrFun PySem.W.Fast.te17943070361625844382 w) os).symm)
def sts2 : List Stmt := [S 4]
def o41 (P : Params) : Obj := (Obj.mk (.type "dict") (Option.none) (Data.dict #[en P "__name__" 165 (.str "beatless.errors" 194), en P "__doc__" 166 .none, en P "__package__" 167 .none, en P "__loader__" 168 (.builtin "__main__.__loader__#opaque"), en P "__spec__" 169 .none, en P "__annotations__" 170 (.ref 6), en P "__builtins__" 171 (.ref 4), en P "__file__" 173 (.str "/claim/cut.py" 172), en P "__cached__" 174 .none, en P "_wall" 193 (.ref 21), en P "BeatlessError" 213 (.ref 31), en P "NoWeb" 229 (.ref 44), en P "NoHand" 245 (.ref 56)] 13) #[])
def o42 (P : Params) : Obj := (Obj.mk .none (Option.none) (Data.fields #[(.int (1 : Int) 0), (.int (0 : Int) 0), (.ref 20), (.int (5 : Int) 0), (.int (0 : Int) 0), (.ref 27), (.int (7 : Int) 0), (.int (0 : Int) 0), (.ref 40), (.int (9 : Int) 0), (.int (0 : Int) 0), (.ref 52)]) #[])
def o43 (P : Params) : Obj := (Obj.mk (.type "type") (Option.none) (Data.cls (ClassData.mk "BeatlessError" [(.type "ValueError")] [(.ref 31), (.type "ValueError"), (.type "Exception"), (.type "BaseException"), (.type "object")] 30 "BeatlessError" Bool.true [] [(.ref 44), (.ref 56)] Bool.false (Option.none) Bool.false)) #[(Option.some (.ref 22)), (Option.none), (Option.some (.str "BeatlessError" 196)), (Option.some (.str "BeatlessError" 204)), (Option.some (.builtin "ValueError.__new__")), (Option.some (.bool Bool.true))])
def o44 (P : Params) : Obj := (Obj.mk (.type "tuple") (Option.none) (Data.seq #[(.ref 31)] 0) #[])
def o45 (P : Params) : Obj := (Obj.mk (.type "builtin_function_or_method") (Option.none) (Data.fields #[(.builtin "type.__prepare__"), (.type "type")]) #[])
def o46 (P : Params) : Obj := (Obj.mk (.type "dict") (Option.none) (Data.dict #[en P "__module__" 237 (.str "beatless.errors" 194), en P "__qualname__" 239 (.str "NoHand" 238), en P "__firstlineno__" 241 (.int (9 : Int) 240), en P "__static_attributes__" 242 (.ref 54)] 4) #[])
def o47 (P : Params) : Obj := (Obj.mk (.type "tuple") (Option.none) (Data.seq #[] 0) #[])
def o48 (P : Params) : Obj := (Obj.mk .none (Option.none) (Data.fields #[]) #[])
def o49 (P : Params) : Obj := (Obj.mk (.type "code") (Option.none) (Data.fields #[(.str "NoHand" 232), (.str "NoHand" 233), (.str "/claim/cut.py" 234), (.int (9 : Int) 0), (.int (0 : Int) 0), (.int (0 : Int) 0), (.int (0 : Int) 0), (.int (0 : Int) 0), (.ref 50), (.bool Bool.false), (.int (181 : Int) 0), (.ref 51), .none, .none, .none, .none, (.int (235 : Int) 0), (.int (9 : Int) 0), (.str "/claim/cut.py" 236)]) #[])
def o50 (P : Params) : Obj := (Obj.mk (.type "frame") (Option.none) Data.plain #[(Option.some (.ref 52)), (Option.some (.ref 3)), (Option.some (.ref 49)), (Option.none), (Option.some (.str "beatless.errors" 194)), (Option.none), (Option.some (.ref 0))])
def o51 (P : Params) : Obj := (Obj.mk (.type "tuple") (Option.none) (Data.seq #[] 0) #[])
def o52 (P : Params) : Obj := (Obj.mk (.type "dict") (Option.none) (Data.dict #[en P "__module__" 237 (.str "beatless.errors" 194), en P "__firstlineno__" 241 (.int (9 : Int) 240), en P "__static_attributes__" 242 (.ref 54), en P "__doc__" 243 .none] 2) #[])
def o53 (P : Params) : Obj := (Obj.mk (.type "type") (Option.none) (Data.cls (ClassData.mk "NoHand" [(.ref 31)] [(.ref 56), (.ref 31), (.type "ValueError"), (.type "Exception"), (.type "BaseException"), (.type "object")] 55 "NoHand" Bool.true [] [] Bool.false (Option.none) Bool.false)) #[(Option.some (.ref 47)), (Option.none), (Option.some (.str "NoHand" 230)), (Option.some (.str "NoHand" 238)), (Option.some (.builtin "ValueError.__new__")), (Option.some (.bool Bool.true))])
def o54 (P : Params) : Obj := (Obj.mk (.type "super") (Option.none) (Data.fields #[(.ref 56), (.ref 56), (.ref 56)]) #[])
def o55 (P : Params) : Obj := (Obj.mk (.type "builtin_function_or_method") (Option.none) (Data.fields #[(.builtin "object.__init_subclass__"), (.ref 56)]) #[])
def t91 (P : Params) : BT := .node (o43 P) .nil .nil
def t92 (P : Params) : BT := .node (o44 P) .nil .nil
def t93 (P : Params) : BT := .node (o6 P) (t91 P) (t92 P)
def t94 (P : Params) : BT := .node (o52 P) .nil .nil
def t95 (P : Params) : BT := .node (o14 P) (t52 P) (t94 P)
def t96 (P : Params) : BT := .node (boot_o_7 P) (t93 P) (t95 P)
def t97 (P : Params) : BT := .node (o48 P) .nil .nil
def t98 (P : Params) : BT := .node (o10 P) (t55 P) (t97 P)
def t99 (P : Params) : BT := .node (o0 P) (t98 P) (t58 P)
def t100 (P : Params) : BT := .node (o41 P) (t96 P) (t99 P)
def t101 (P : Params) : BT := .node (o46 P) .nil .nil
def t102 (P : Params) : BT := .node (o8 P) (t23 P) (t101 P)
def t103 (P : Params) : BT := .node (o54 P) .nil .nil
def t104 (P : Params) : BT := .node (o16 P) (t61 P) (t103 P)
def t105 (P : Params) : BT := .node (boot_o_9 P) (t102 P) (t104 P)
def t106 (P : Params) : BT := .node (o50 P) .nil .nil
def t107 (P : Params) : BT := .node (o12 P) (t64 P) (t106 P)
def t108 (P : Params) : BT := .node (o2 P) (t107 P) (t67 P)
def t109 (P : Params) : BT := .node (boot_o_5 P) (t105 P) (t108 P)
def t110 (P : Params) : BT := .node (boot_o_1 P) (t100 P) (t109 P)
def t111 (P : Params) : BT := .node (o45 P) .nil .nil
def t112 (P : Params) : BT := .node (o7 P) (t32 P) (t111 P)
def t113 (P : Params) : BT := .node (o53 P) .nil .nil
def t114 (P : Params) : BT := .node (o15 P) (t71 P) (t113 P)
def t115 (P : Params) : BT := .node (boot_o_8 P) (t112 P) (t114 P)
def t116 (P : Params) : BT := .node (o49 P) .nil .nil
def t117 (P : Params) : BT := .node (o11 P) (t74 P) (t116 P)
def t118 (P : Params) : BT := .node (o42 P) (t117 P) (t77 P)
def t119 (P : Params) : BT := .node (boot_o_4 P) (t115 P) (t118 P)
def t120 (P : Params) : BT := .node (o47 P) .nil .nil
def t121 (P : Params) : BT := .node (o9 P) (t40 P) (t120 P)
def t122 (P : Params) : BT := .node (o55 P) .nil .nil
def t123 (P : Params) : BT := .node (o17 P) (t80 P) (t122 P)
def t124 (P : Params) : BT := .node (boot_o_10 P) (t121 P) (t123 P)
def t125 (P : Params) : BT := .node (o51 P) .nil .nil
def t126 (P : Params) : BT := .node (o13 P) (t83 P) (t125 P)
def t127 (P : Params) : BT := .node (o3 P) (t126 P) (t86 P)
def t128 (P : Params) : BT := .node (boot_o_6 P) (t124 P) (t127 P)
def t129 (P : Params) : BT := .node (boot_o_2 P) (t119 P) (t128 P)
def t130 (P : Params) : BT := .node (boot_o_0 P) (t110 P) (t129 P)
def sb3 (w : World) (os : OsState) : SharedT := ⟨(t130 w.params), 59, (Life.mk [] [] [] 0 [] [] Bool.false #[] [] 0 Bool.false Bool.false Bool.false (0 : Int) [(2000 : Int), (10 : Int), (10 : Int)] Bool.false 0 Bool.true [] [] 0 Bool.false), ⟨[]⟩, (Drawn.mk 0 0 0 0), 246, os⟩
def L2 (w : World) (os : OsState) : Option (Flow × SharedT × Code × Pos) := segRunT treeTable PySem.Challenge.pw_beatless_k02_webs_refused w 11 an 1 214 (sb2 w os) (piecesOf sts2 env cE (Pos.mk 7 0 8 8) B)
def R2 (w : World) (os : OsState) : Option (Flow × SharedT × Code × Pos) := some (.next, sb3 w os, cE, (Pos.mk 9 0 10 8))
theorem q2 : tt (Hd.L2, Hd.R2) = true := by k_qdec
theorem r2 : ∀ w, PySem.W.Fast.tw9171306275460833034 w = PySem.W.Fast.tw12913952840628719863 w := fun w => by kernel_rfl
theorem e2 (w : World) (os : OsState) : Hd.L2 w os = Hd.R2 w os :=
  (congrFun (congrFun PySem.W.Fast.te9171306275460833034 w) os).trans ((congrFun (r2 w) os).trans (congrFun (congrFun PySem.W.Fast.te12913952840628719863 w) os).symm)
def sts3 : List Stmt := [S 5]
def o56 (P : Params) : Obj := (Obj.mk (.type "dict") (Option.none) (Data.dict #[en P "__name__" 165 (.str "beatless.errors" 194), en P "__doc__" 166 .none, en P "__package__" 167 .none, en P "__loader__" 168 (.builtin "__main__.__loader__#opaque"), en P "__spec__" 169 .none, en P "__annotations__" 170 (.ref 6), en P "__builtins__" 171 (.ref 4), en P "__file__" 173 (.str "/claim/cut.py" 172), en P "__cached__" 174 .none, en P "_wall" 193 (.ref 21), en P "BeatlessError" 213 (.ref 31), en P "NoWeb" 229 (.ref 44), en P "NoHand" 245 (.ref 56), en P "NoProgram" 261 (.ref 68)] 14) #[])
def o57 (P : Params) : Obj := (Obj.mk .none (Option.none) (Data.fields #[(.int (1 : Int) 0), (.int (0 : Int) 0), (.ref 20), (.int (5 : Int) 0), (.int (0 : Int) 0), (.ref 27), (.int (7 : Int) 0), (.int (0 : Int) 0), (.ref 40), (.int (9 : Int) 0), (.int (0 : Int) 0), (.ref 52), (.int (11 : Int) 0), (.int (0 : Int) 0), (.ref 64)]) #[])
def o58 (P : Params) : Obj := (Obj.mk (.type "type") (Option.none) (Data.cls (ClassData.mk "BeatlessError" [(.type "ValueError")] [(.ref 31), (.type "ValueError"), (.type "Exception"), (.type "BaseException"), (.type "object")] 30 "BeatlessError" Bool.true [] [(.ref 44), (.ref 56), (.ref 68)] Bool.false (Option.none) Bool.false)) #[(Option.some (.ref 22)), (Option.none), (Option.some (.str "BeatlessError" 196)), (Option.some (.str "BeatlessError" 204)), (Option.some (.builtin "ValueError.__new__")), (Option.some (.bool Bool.true))])
def o59 (P : Params) : Obj := (Obj.mk (.type "tuple") (Option.none) (Data.seq #[(.ref 31)] 0) #[])
def o60 (P : Params) : Obj := (Obj.mk (.type "builtin_function_or_method") (Option.none) (Data.fields #[(.builtin "type.__prepare__"), (.type "type")]) #[])
def o61 (P : Params) : Obj := (Obj.mk (.type "dict") (Option.none) (Data.dict #[en P "__module__" 253 (.str "beatless.errors" 194), en P "__qualname__" 255 (.str "NoProgram" 254), en P "__firstlineno__" 257 (.int (11 : Int) 256), en P "__static_attributes__" 258 (.ref 66)] 4) #[])
def o62 (P : Params) : Obj := (Obj.mk (.type "tuple") (Option.none) (Data.seq #[] 0) #[])
def o63 (P : Params) : Obj := (Obj.mk .none (Option.none) (Data.fields #[]) #[])
def o64 (P : Params) : Obj := (Obj.mk (.type "code") (Option.none) (Data.fields #[(.str "NoProgram" 248), (.str "NoProgram" 249), (.str "/claim/cut.py" 250), (.int (11 : Int) 0), (.int (0 : Int) 0), (.int (0 : Int) 0), (.int (0 : Int) 0), (.int (0 : Int) 0), (.ref 62), (.bool Bool.false), (.int (181 : Int) 0), (.ref 63), .none, .none, .none, .none, (.int (251 : Int) 0), (.int (11 : Int) 0), (.str "/claim/cut.py" 252)]) #[])
def o65 (P : Params) : Obj := (Obj.mk (.type "frame") (Option.none) Data.plain #[(Option.some (.ref 64)), (Option.some (.ref 3)), (Option.some (.ref 61)), (Option.none), (Option.some (.str "beatless.errors" 194)), (Option.none), (Option.some (.ref 0))])
def o66 (P : Params) : Obj := (Obj.mk (.type "tuple") (Option.none) (Data.seq #[] 0) #[])
def o67 (P : Params) : Obj := (Obj.mk (.type "dict") (Option.none) (Data.dict #[en P "__module__" 253 (.str "beatless.errors" 194), en P "__firstlineno__" 257 (.int (11 : Int) 256), en P "__static_attributes__" 258 (.ref 66), en P "__doc__" 259 .none] 2) #[])
def o68 (P : Params) : Obj := (Obj.mk (.type "type") (Option.none) (Data.cls (ClassData.mk "NoProgram" [(.ref 31)] [(.ref 68), (.ref 31), (.type "ValueError"), (.type "Exception"), (.type "BaseException"), (.type "object")] 67 "NoProgram" Bool.true [] [] Bool.false (Option.none) Bool.false)) #[(Option.some (.ref 59)), (Option.none), (Option.some (.str "NoProgram" 246)), (Option.some (.str "NoProgram" 254)), (Option.some (.builtin "ValueError.__new__")), (Option.some (.bool Bool.true))])
def o69 (P : Params) : Obj := (Obj.mk (.type "super") (Option.none) (Data.fields #[(.ref 68), (.ref 68), (.ref 68)]) #[])
def o70 (P : Params) : Obj := (Obj.mk (.type "builtin_function_or_method") (Option.none) (Data.fields #[(.builtin "object.__init_subclass__"), (.ref 68)]) #[])
def t131 (P : Params) : BT := .node (o63 P) .nil .nil
def t132 (P : Params) : BT := .node (o58 P) (t131 P) .nil
def t133 (P : Params) : BT := .node (o6 P) (t132 P) (t92 P)
def t134 (P : Params) : BT := .node (boot_o_7 P) (t133 P) (t95 P)
def t135 (P : Params) : BT := .node (o67 P) .nil .nil
def t136 (P : Params) : BT := .node (o29 P) (t135 P) .nil
def t137 (P : Params) : BT := .node (o10 P) (t136 P) (t97 P)
def t138 (P : Params) : BT := .node (o59 P) .nil .nil
def t139 (P : Params) : BT := .node (o18 P) (t57 P) (t138 P)
def t140 (P : Params) : BT := .node (o0 P) (t137 P) (t139 P)
def t141 (P : Params) : BT := .node (o56 P) (t134 P) (t140 P)
def t142 (P : Params) : BT := .node (o65 P) .nil .nil
def t143 (P : Params) : BT := .node (o24 P) (t142 P) .nil
def t144 (P : Params) : BT := .node (o8 P) (t143 P) (t101 P)
def t145 (P : Params) : BT := .node (boot_o_9 P) (t144 P) (t104 P)
def t146 (P : Params) : BT := .node (o69 P) .nil .nil
def t147 (P : Params) : BT := .node (o31 P) (t146 P) .nil
def t148 (P : Params) : BT := .node (o12 P) (t147 P) (t106 P)
def t149 (P : Params) : BT := .node (o61 P) .nil .nil
def t150 (P : Params) : BT := .node (o20 P) (t66 P) (t149 P)
def t151 (P : Params) : BT := .node (o2 P) (t148 P) (t150 P)
def t152 (P : Params) : BT := .node (boot_o_5 P) (t145 P) (t151 P)
def t153 (P : Params) : BT := .node (boot_o_1 P) (t141 P) (t152 P)
def t154 (P : Params) : BT := .node (o64 P) .nil .nil
def t155 (P : Params) : BT := .node (o23 P) (t154 P) .nil
def t156 (P : Params) : BT := .node (o7 P) (t155 P) (t111 P)
def t157 (P : Params) : BT := .node (boot_o_8 P) (t156 P) (t114 P)
def t158 (P : Params) : BT := .node (o68 P) .nil .nil
def t159 (P : Params) : BT := .node (o30 P) (t158 P) .nil
def t160 (P : Params) : BT := .node (o11 P) (t159 P) (t116 P)
def t161 (P : Params) : BT := .node (o60 P) .nil .nil
def t162 (P : Params) : BT := .node (o19 P) (t76 P) (t161 P)
def t163 (P : Params) : BT := .node (o57 P) (t160 P) (t162 P)
def t164 (P : Params) : BT := .node (boot_o_4 P) (t157 P) (t163 P)
def t165 (P : Params) : BT := .node (o66 P) .nil .nil
def t166 (P : Params) : BT := .node (o25 P) (t165 P) .nil
def t167 (P : Params) : BT := .node (o9 P) (t166 P) (t120 P)
def t168 (P : Params) : BT := .node (boot_o_10 P) (t167 P) (t123 P)
def t169 (P : Params) : BT := .node (o70 P) .nil .nil
def t170 (P : Params) : BT := .node (o32 P) (t169 P) .nil
def t171 (P : Params) : BT := .node (o13 P) (t170 P) (t125 P)
def t172 (P : Params) : BT := .node (o62 P) .nil .nil
def t173 (P : Params) : BT := .node (o21 P) (t85 P) (t172 P)
def t174 (P : Params) : BT := .node (o3 P) (t171 P) (t173 P)
def t175 (P : Params) : BT := .node (boot_o_6 P) (t168 P) (t174 P)
def t176 (P : Params) : BT := .node (boot_o_2 P) (t164 P) (t175 P)
def t177 (P : Params) : BT := .node (boot_o_0 P) (t153 P) (t176 P)
def sb4 (w : World) (os : OsState) : SharedT := ⟨(t177 w.params), 71, (Life.mk [] [] [] 0 [] [] Bool.false #[] [] 0 Bool.false Bool.false Bool.false (0 : Int) [(2000 : Int), (10 : Int), (10 : Int)] Bool.false 0 Bool.true [] [] 0 Bool.false), ⟨[]⟩, (Drawn.mk 0 0 0 0), 262, os⟩
def L3 (w : World) (os : OsState) : Option (Flow × SharedT × Code × Pos) := segRunT treeTable PySem.Challenge.pw_beatless_k02_webs_refused w 11 an 1 214 (sb3 w os) (piecesOf sts3 env cE (Pos.mk 9 0 10 8) B)
def R3 (w : World) (os : OsState) : Option (Flow × SharedT × Code × Pos) := some (.next, sb4 w os, cE, (Pos.mk 11 0 12 8))
theorem q3 : tt (Hd.L3, Hd.R3) = true := by k_qdec
theorem r3 : ∀ w, PySem.W.Fast.tw6196771281854559479 w = PySem.W.Fast.tw4539841377621278456 w := fun w => by kernel_rfl
theorem e3 (w : World) (os : OsState) : Hd.L3 w os = Hd.R3 w os :=
  (congrFun (congrFun PySem.W.Fast.te6196771281854559479 w) os).trans ((congrFun (r3 w) os).trans (congrFun (congrFun PySem.W.Fast.te4539841377621278456 w) os).symm)
def sts4 : List Stmt := [S 6]
def o71 (P : Params) : Obj := (Obj.mk (.type "dict") (Option.none) (Data.dict #[en P "__name__" 165 (.str "beatless.errors" 194), en P "__doc__" 166 .none, en P "__package__" 167 .none, en P "__loader__" 168 (.builtin "__main__.__loader__#opaque"), en P "__spec__" 169 .none, en P "__annotations__" 170 (.ref 6), en P "__builtins__" 171 (.ref 4), en P "__file__" 173 (.str "/claim/cut.py" 172), en P "__cached__" 174 .none, en P "_wall" 193 (.ref 21), en P "BeatlessError" 213 (.ref 31), en P "NoWeb" 229 (.ref 44), en P "NoHand" 245 (.ref 56), en P "NoProgram" 261 (.ref 68), en P "NoWay" 277 (.ref 80)] 15) #[])
def o72 (P : Params) : Obj := (Obj.mk .none (Option.none) (Data.fields #[(.int (1 : Int) 0), (.int (0 : Int) 0), (.ref 20), (.int (5 : Int) 0), (.int (0 : Int) 0), (.ref 27), (.int (7 : Int) 0), (.int (0 : Int) 0), (.ref 40), (.int (9 : Int) 0), (.int (0 : Int) 0), (.ref 52), (.int (11 : Int) 0), (.int (0 : Int) 0), (.ref 64), (.int (13 : Int) 0), (.int (0 : Int) 0), (.ref 76)]) #[])
def o73 (P : Params) : Obj := (Obj.mk (.type "type") (Option.none) (Data.cls (ClassData.mk "BeatlessError" [(.type "ValueError")] [(.ref 31), (.type "ValueError"), (.type "Exception"), (.type "BaseException"), (.type "object")] 30 "BeatlessError" Bool.true [] [(.ref 44), (.ref 56), (.ref 68), (.ref 80)] Bool.false (Option.none) Bool.false)) #[(Option.some (.ref 22)), (Option.none), (Option.some (.str "BeatlessError" 196)), (Option.some (.str "BeatlessError" 204)), (Option.some (.builtin "ValueError.__new__")), (Option.some (.bool Bool.true))])
def o74 (P : Params) : Obj := (Obj.mk (.type "tuple") (Option.none) (Data.seq #[(.ref 31)] 0) #[])
def o75 (P : Params) : Obj := (Obj.mk (.type "builtin_function_or_method") (Option.none) (Data.fields #[(.builtin "type.__prepare__"), (.type "type")]) #[])
def o76 (P : Params) : Obj := (Obj.mk (.type "dict") (Option.none) (Data.dict #[en P "__module__" 269 (.str "beatless.errors" 194), en P "__qualname__" 271 (.str "NoWay" 270), en P "__firstlineno__" 273 (.int (13 : Int) 272), en P "__static_attributes__" 274 (.ref 78)] 4) #[])
def o77 (P : Params) : Obj := (Obj.mk (.type "tuple") (Option.none) (Data.seq #[] 0) #[])
def o78 (P : Params) : Obj := (Obj.mk .none (Option.none) (Data.fields #[]) #[])
def o79 (P : Params) : Obj := (Obj.mk (.type "code") (Option.none) (Data.fields #[(.str "NoWay" 264), (.str "NoWay" 265), (.str "/claim/cut.py" 266), (.int (13 : Int) 0), (.int (0 : Int) 0), (.int (0 : Int) 0), (.int (0 : Int) 0), (.int (0 : Int) 0), (.ref 74), (.bool Bool.false), (.int (181 : Int) 0), (.ref 75), .none, .none, .none, .none, (.int (267 : Int) 0), (.int (13 : Int) 0), (.str "/claim/cut.py" 268)]) #[])
def o80 (P : Params) : Obj := (Obj.mk (.type "frame") (Option.none) Data.plain #[(Option.some (.ref 76)), (Option.some (.ref 3)), (Option.some (.ref 73)), (Option.none), (Option.some (.str "beatless.errors" 194)), (Option.none), (Option.some (.ref 0))])
def o81 (P : Params) : Obj := (Obj.mk (.type "tuple") (Option.none) (Data.seq #[] 0) #[])
def o82 (P : Params) : Obj := (Obj.mk (.type "dict") (Option.none) (Data.dict #[en P "__module__" 269 (.str "beatless.errors" 194), en P "__firstlineno__" 273 (.int (13 : Int) 272), en P "__static_attributes__" 274 (.ref 78), en P "__doc__" 275 .none] 2) #[])
def o83 (P : Params) : Obj := (Obj.mk (.type "type") (Option.none) (Data.cls (ClassData.mk "NoWay" [(.ref 31)] [(.ref 80), (.ref 31), (.type "ValueError"), (.type "Exception"), (.type "BaseException"), (.type "object")] 79 "NoWay" Bool.true [] [] Bool.false (Option.none) Bool.false)) #[(Option.some (.ref 71)), (Option.none), (Option.some (.str "NoWay" 262)), (Option.some (.str "NoWay" 270)), (Option.some (.builtin "ValueError.__new__")), (Option.some (.bool Bool.true))])
def o84 (P : Params) : Obj := (Obj.mk (.type "super") (Option.none) (Data.fields #[(.ref 80), (.ref 80), (.ref 80)]) #[])
def o85 (P : Params) : Obj := (Obj.mk (.type "builtin_function_or_method") (Option.none) (Data.fields #[(.builtin "object.__init_subclass__"), (.ref 80)]) #[])
def t178 (P : Params) : BT := .node (o73 P) (t131 P) .nil
def t179 (P : Params) : BT := .node (o82 P) .nil .nil
def t180 (P : Params) : BT := .node (o44 P) (t179 P) .nil
def t181 (P : Params) : BT := .node (o6 P) (t178 P) (t180 P)
def t182 (P : Params) : BT := .node (o74 P) .nil .nil
def t183 (P : Params) : BT := .node (o33 P) (t182 P) .nil
def t184 (P : Params) : BT := .node (o14 P) (t183 P) (t94 P)
def t185 (P : Params) : BT := .node (boot_o_7 P) (t181 P) (t184 P)
def t186 (P : Params) : BT := .node (o78 P) .nil .nil
def t187 (P : Params) : BT := .node (o37 P) (t186 P) .nil
def t188 (P : Params) : BT := .node (o18 P) (t187 P) (t138 P)
def t189 (P : Params) : BT := .node (o0 P) (t137 P) (t188 P)
def t190 (P : Params) : BT := .node (o71 P) (t185 P) (t189 P)
def t191 (P : Params) : BT := .node (o84 P) .nil .nil
def t192 (P : Params) : BT := .node (o46 P) (t191 P) .nil
def t193 (P : Params) : BT := .node (o8 P) (t143 P) (t192 P)
def t194 (P : Params) : BT := .node (o76 P) .nil .nil
def t195 (P : Params) : BT := .node (o35 P) (t194 P) .nil
def t196 (P : Params) : BT := .node (o16 P) (t195 P) (t103 P)
def t197 (P : Params) : BT := .node (boot_o_9 P) (t193 P) (t196 P)
def t198 (P : Params) : BT := .node (o80 P) .nil .nil
def t199 (P : Params) : BT := .node (o39 P) (t198 P) .nil
def t200 (P : Params) : BT := .node (o20 P) (t199 P) (t149 P)
def t201 (P : Params) : BT := .node (o2 P) (t148 P) (t200 P)
def t202 (P : Params) : BT := .node (boot_o_5 P) (t197 P) (t201 P)
def t203 (P : Params) : BT := .node (boot_o_1 P) (t190 P) (t202 P)
def t204 (P : Params) : BT := .node (o83 P) .nil .nil
def t205 (P : Params) : BT := .node (o45 P) (t204 P) .nil
def t206 (P : Params) : BT := .node (o7 P) (t155 P) (t205 P)
def t207 (P : Params) : BT := .node (o75 P) .nil .nil
def t208 (P : Params) : BT := .node (o34 P) (t207 P) .nil
def t209 (P : Params) : BT := .node (o15 P) (t208 P) (t113 P)
def t210 (P : Params) : BT := .node (boot_o_8 P) (t206 P) (t209 P)
def t211 (P : Params) : BT := .node (o79 P) .nil .nil
def t212 (P : Params) : BT := .node (o38 P) (t211 P) .nil
def t213 (P : Params) : BT := .node (o19 P) (t212 P) (t161 P)
def t214 (P : Params) : BT := .node (o72 P) (t160 P) (t213 P)
def t215 (P : Params) : BT := .node (boot_o_4 P) (t210 P) (t214 P)
def t216 (P : Params) : BT := .node (o85 P) .nil .nil
def t217 (P : Params) : BT := .node (o47 P) (t216 P) .nil
def t218 (P : Params) : BT := .node (o9 P) (t166 P) (t217 P)
def t219 (P : Params) : BT := .node (o77 P) .nil .nil
def t220 (P : Params) : BT := .node (o36 P) (t219 P) .nil
def t221 (P : Params) : BT := .node (o17 P) (t220 P) (t122 P)
def t222 (P : Params) : BT := .node (boot_o_10 P) (t218 P) (t221 P)
def t223 (P : Params) : BT := .node (o81 P) .nil .nil
def t224 (P : Params) : BT := .node (o40 P) (t223 P) .nil
def t225 (P : Params) : BT := .node (o21 P) (t224 P) (t172 P)
def t226 (P : Params) : BT := .node (o3 P) (t171 P) (t225 P)
def t227 (P : Params) : BT := .node (boot_o_6 P) (t222 P) (t226 P)
def t228 (P : Params) : BT := .node (boot_o_2 P) (t215 P) (t227 P)
def t229 (P : Params) : BT := .node (boot_o_0 P) (t203 P) (t228 P)
def sb5 (w : World) (os : OsState) : SharedT := ⟨(t229 w.params), 83, (Life.mk [] [] [] 0 [] [] Bool.false #[] [] 0 Bool.false Bool.false Bool.false (0 : Int) [(2000 : Int), (10 : Int), (10 : Int)] Bool.false 0 Bool.true [] [] 0 Bool.false), ⟨[]⟩, (Drawn.mk 0 0 0 0), 278, os⟩
def L4 (w : World) (os : OsState) : Option (Flow × SharedT × Code × Pos) := segRunT treeTable PySem.Challenge.pw_beatless_k02_webs_refused w 11 an 1 214 (sb4 w os) (piecesOf sts4 env cE (Pos.mk 11 0 12 8) B)
def R4 (w : World) (os : OsState) : Option (Flow × SharedT × Code × Pos) := some (.next, sb5 w os, cE, (Pos.mk 13 0 14 8))
theorem q4 : tt (Hd.L4, Hd.R4) = true := by k_qdec
theorem r4 : ∀ w, PySem.W.Fast.tw18063231807419426806 w = PySem.W.Fast.tw9930642381628883879 w := fun w => by kernel_rfl
theorem e4 (w : World) (os : OsState) : Hd.L4 w os = Hd.R4 w os :=
  (congrFun (congrFun PySem.W.Fast.te18063231807419426806 w) os).trans ((congrFun (r4 w) os).trans (congrFun (congrFun PySem.W.Fast.te9930642381628883879 w) os).symm)
def sts5 : List Stmt := [S 7, S 8, S 9, S 10, S 11, S 12, S 13, S 14, S 15]
def o86 (P : Params) : Obj := (Obj.mk (.type "dict") (Option.none) (Data.dict #[en P "__name__" 165 (.str "beatless.webs" 303), en P "__doc__" 166 .none, en P "__package__" 167 .none, en P "__loader__" 168 (.builtin "__main__.__loader__#opaque"), en P "__spec__" 169 .none, en P "__annotations__" 170 (.ref 6), en P "__builtins__" 171 (.ref 4), en P "__file__" 173 (.str "/claim/cut.py" 172), en P "__cached__" 174 .none, en P "_wall" 193 (.ref 21), en P "BeatlessError" 213 (.ref 31), en P "NoWeb" 229 (.ref 44), en P "NoHand" 245 (.ref 56), en P "NoProgram" 261 (.ref 68), en P "NoWay" 277 (.ref 80), en P "NoLine" 293 (.ref 92), en P "is_whole" 302 (.ref 101), en P "MOST_HANDS" 306 (.int (12 : Int) 305), en P "LAST_HAND" 308 (.int (99 : Int) 307), en P "are_hands" 317 (.ref 108), en P "is_line" 325 (.ref 115), en P "are_lines" 335 (.ref 122)] 22) #[])
def o87 (P : Params) : Obj := (Obj.mk .none (Option.none) (Data.fields #[(.int (1 : Int) 0), (.int (0 : Int) 0), (.ref 20), (.int (5 : Int) 0), (.int (0 : Int) 0), (.ref 27), (.int (7 : Int) 0), (.int (0 : Int) 0), (.ref 40), (.int (9 : Int) 0), (.int (0 : Int) 0), (.ref 52), (.int (11 : Int) 0), (.int (0 : Int) 0), (.ref 64), (.int (13 : Int) 0), (.int (0 : Int) 0), (.ref 76), (.int (15 : Int) 0), (.int (0 : Int) 0), (.ref 88), (.int (18 : Int) 0), (.int (0 : Int) 0), (.ref 100), (.int (23 : Int) 0), (.int (0 : Int) 0), (.ref 107), (.int (32 : Int) 0), (.int (0 : Int) 0), (.ref 114), (.int (38 : Int) 0), (.int (0 : Int) 0), (.ref 121)]) #[])
def o88 (P : Params) : Obj := (Obj.mk (.type "type") (Option.none) (Data.cls (ClassData.mk "BeatlessError" [(.type "ValueError")] [(.ref 31), (.type "ValueError"), (.type "Exception"), (.type "BaseException"), (.type "object")] 30 "BeatlessError" Bool.true [] [(.ref 44), (.ref 56), (.ref 68), (.ref 80), (.ref 92)] Bool.false (Option.none) Bool.false)) #[(Option.some (.ref 22)), (Option.none), (Option.some (.str "BeatlessError" 196)), (Option.some (.str "BeatlessError" 204)), (Option.some (.builtin "ValueError.__new__")), (Option.some (.bool Bool.true))])
def o89 (P : Params) : Obj := (Obj.mk (.type "tuple") (Option.none) (Data.seq #[(.ref 31)] 0) #[])
def o90 (P : Params) : Obj := (Obj.mk (.type "builtin_function_or_method") (Option.none) (Data.fields #[(.builtin "type.__prepare__"), (.type "type")]) #[])
def o91 (P : Params) : Obj := (Obj.mk (.type "dict") (Option.none) (Data.dict #[en P "__module__" 285 (.str "beatless.errors" 194), en P "__qualname__" 287 (.str "NoLine" 286), en P "__firstlineno__" 289 (.int (15 : Int) 288), en P "__static_attributes__" 290 (.ref 90)] 4) #[])
def o92 (P : Params) : Obj := (Obj.mk (.type "tuple") (Option.none) (Data.seq #[] 0) #[])
def o93 (P : Params) : Obj := (Obj.mk .none (Option.none) (Data.fields #[]) #[])
def o94 (P : Params) : Obj := (Obj.mk (.type "code") (Option.none) (Data.fields #[(.str "NoLine" 280), (.str "NoLine" 281), (.str "/claim/cut.py" 282), (.int (15 : Int) 0), (.int (0 : Int) 0), (.int (0 : Int) 0), (.int (0 : Int) 0), (.int (0 : Int) 0), (.ref 86), (.bool Bool.false), (.int (181 : Int) 0), (.ref 87), .none, .none, .none, .none, (.int (283 : Int) 0), (.int (15 : Int) 0), (.str "/claim/cut.py" 284)]) #[])
def o95 (P : Params) : Obj := (Obj.mk (.type "frame") (Option.none) Data.plain #[(Option.some (.ref 88)), (Option.some (.ref 3)), (Option.some (.ref 85)), (Option.none), (Option.some (.str "beatless.errors" 194)), (Option.none), (Option.some (.ref 0))])
def o96 (P : Params) : Obj := (Obj.mk (.type "tuple") (Option.none) (Data.seq #[] 0) #[])
def o97 (P : Params) : Obj := (Obj.mk (.type "dict") (Option.none) (Data.dict #[en P "__module__" 285 (.str "beatless.errors" 194), en P "__firstlineno__" 289 (.int (15 : Int) 288), en P "__static_attributes__" 290 (.ref 90), en P "__doc__" 291 .none] 2) #[])
def o98 (P : Params) : Obj := (Obj.mk (.type "type") (Option.none) (Data.cls (ClassData.mk "NoLine" [(.ref 31)] [(.ref 92), (.ref 31), (.type "ValueError"), (.type "Exception"), (.type "BaseException"), (.type "object")] 91 "NoLine" Bool.true [] [] Bool.false (Option.none) Bool.false)) #[(Option.some (.ref 83)), (Option.none), (Option.some (.str "NoLine" 278)), (Option.some (.str "NoLine" 286)), (Option.some (.builtin "ValueError.__new__")), (Option.some (.bool Bool.true))])
def o99 (P : Params) : Obj := (Obj.mk (.type "super") (Option.none) (Data.fields #[(.ref 92), (.ref 92), (.ref 92)]) #[])
def o100 (P : Params) : Obj := (Obj.mk (.type "builtin_function_or_method") (Option.none) (Data.fields #[(.builtin "object.__init_subclass__"), (.ref 92)]) #[])
def o101 (P : Params) : Obj := (Obj.mk (.type "tuple") (Option.none) (Data.seq #[] 0) #[])
def o102 (P : Params) : Obj := (Obj.mk .none (Option.none) (Data.fields #[]) #[])
def o103 (P : Params) : Obj := (Obj.mk (.type "tuple") (Option.none) (Data.seq #[(.str "value" 299)] 0) #[])
def o104 (P : Params) : Obj := (Obj.mk (.type "tuple") (Option.none) (Data.seq #[] 0) #[])
def o105 (P : Params) : Obj := (Obj.mk .none (Option.none) (Data.func (fd "is_whole" "is_whole" (S 9) 0 [] .none .none .none .none (Option.none) .none .none 0)) #[])
def o106 (P : Params) : Obj := (Obj.mk (.type "code") (Option.none) (Data.fields #[(.str "is_whole" 296), (.str "is_whole" 297), (.str "/claim/cut.py" 298), (.int (18 : Int) 0), (.int (1 : Int) 0), (.int (0 : Int) 0), (.int (0 : Int) 0), (.int (3 : Int) 0), (.ref 95), (.bool Bool.true), (.int (181 : Int) 0), (.ref 96), .none, (.ref 97), (.ref 98), (.ref 99), (.int (300 : Int) 0), (.int (18 : Int) 0), (.str "/claim/cut.py" 301)]) #[])
def o107 (P : Params) : Obj := (Obj.mk (.type "function") (Option.none) (Data.func (fd "is_whole" "is_whole" (S 9) 3 [] .none .none .none (.str "beatless.wholes" 294) (Option.none) (.ref 100) .none 0)) #[])
def o108 (P : Params) : Obj := (Obj.mk (.type "tuple") (Option.none) (Data.seq #[] 0) #[])
def o109 (P : Params) : Obj := (Obj.mk .none (Option.none) (Data.fields #[]) #[])
def o110 (P : Params) : Obj := (Obj.mk (.type "tuple") (Option.none) (Data.seq #[(.str "hands" 312), (.str "ahead" 313), (.str "hand" 314)] 0) #[])
def o111 (P : Params) : Obj := (Obj.mk (.type "tuple") (Option.none) (Data.seq #[] 0) #[])
def o112 (P : Params) : Obj := (Obj.mk .none (Option.none) (Data.func (fd "are_hands" "are_hands" (S 13) 0 [] .none .none .none .none (Option.none) .none .none 0)) #[])
def o113 (P : Params) : Obj := (Obj.mk (.type "code") (Option.none) (Data.fields #[(.str "are_hands" 309), (.str "are_hands" 310), (.str "/claim/cut.py" 311), (.int (23 : Int) 0), (.int (1 : Int) 0), (.int (0 : Int) 0), (.int (0 : Int) 0), (.int (3 : Int) 0), (.ref 102), (.bool Bool.true), (.int (181 : Int) 0), (.ref 103), .none, (.ref 104), (.ref 105), (.ref 106), (.int (315 : Int) 0), (.int (23 : Int) 0), (.str "/claim/cut.py" 316)]) #[])
def o114 (P : Params) : Obj := (Obj.mk (.type "function") (Option.none) (Data.func (fd "are_hands" "are_hands" (S 13) 3 [] .none .none .none (.str "beatless.webs" 303) (Option.none) (.ref 107) .none 0)) #[])
def o115 (P : Params) : Obj := (Obj.mk (.type "tuple") (Option.none) (Data.seq #[] 0) #[])
def o116 (P : Params) : Obj := (Obj.mk .none (Option.none) (Data.fields #[]) #[])
def o117 (P : Params) : Obj := (Obj.mk (.type "tuple") (Option.none) (Data.seq #[(.str "line" 321), (.str "hands" 322)] 0) #[])
def o118 (P : Params) : Obj := (Obj.mk (.type "tuple") (Option.none) (Data.seq #[] 0) #[])
def o119 (P : Params) : Obj := (Obj.mk .none (Option.none) (Data.func (fd "is_line" "is_line" (S 14) 0 [] .none .none .none .none (Option.none) .none .none 0)) #[])
def o120 (P : Params) : Obj := (Obj.mk (.type "code") (Option.none) (Data.fields #[(.str "is_line" 318), (.str "is_line" 319), (.str "/claim/cut.py" 320), (.int (32 : Int) 0), (.int (2 : Int) 0), (.int (0 : Int) 0), (.int (0 : Int) 0), (.int (3 : Int) 0), (.ref 109), (.bool Bool.true), (.int (181 : Int) 0), (.ref 110), .none, (.ref 111), (.ref 112), (.ref 113), (.int (323 : Int) 0), (.int (32 : Int) 0), (.str "/claim/cut.py" 324)]) #[])
def o121 (P : Params) : Obj := (Obj.mk (.type "function") (Option.none) (Data.func (fd "is_line" "is_line" (S 14) 3 [] .none .none .none (.str "beatless.webs" 303) (Option.none) (.ref 114) .none 0)) #[])
def o122 (P : Params) : Obj := (Obj.mk (.type "tuple") (Option.none) (Data.seq #[] 0) #[])
def o123 (P : Params) : Obj := (Obj.mk .none (Option.none) (Data.fields #[]) #[])
def o124 (P : Params) : Obj := (Obj.mk (.type "tuple") (Option.none) (Data.seq #[(.str "lines" 329), (.str "hands" 330), (.str "seen" 331), (.str "line" 332)] 0) #[])
def o125 (P : Params) : Obj := (Obj.mk (.type "tuple") (Option.none) (Data.seq #[] 0) #[])
def o126 (P : Params) : Obj := (Obj.mk .none (Option.none) (Data.func (fd "are_lines" "are_lines" (S 15) 0 [] .none .none .none .none (Option.none) .none .none 0)) #[])
def o127 (P : Params) : Obj := (Obj.mk (.type "code") (Option.none) (Data.fields #[(.str "are_lines" 326), (.str "are_lines" 327), (.str "/claim/cut.py" 328), (.int (38 : Int) 0), (.int (2 : Int) 0), (.int (0 : Int) 0), (.int (0 : Int) 0), (.int (3 : Int) 0), (.ref 116), (.bool Bool.true), (.int (181 : Int) 0), (.ref 117), .none, (.ref 118), (.ref 119), (.ref 120), (.int (333 : Int) 0), (.int (38 : Int) 0), (.str "/claim/cut.py" 334)]) #[])
def o128 (P : Params) : Obj := (Obj.mk (.type "function") (Option.none) (Data.func (fd "are_lines" "are_lines" (S 15) 3 [] .none .none .none (.str "beatless.webs" 303) (Option.none) (.ref 121) .none 0)) #[])
def t230 (P : Params) : BT := .node (o101 P) .nil .nil
def t231 (P : Params) : BT := .node (o88 P) (t131 P) (t230 P)
def t232 (P : Params) : BT := .node (o117 P) .nil .nil
def t233 (P : Params) : BT := .node (o44 P) (t179 P) (t232 P)
def t234 (P : Params) : BT := .node (o6 P) (t231 P) (t233 P)
def t235 (P : Params) : BT := .node (o109 P) .nil .nil
def t236 (P : Params) : BT := .node (o33 P) (t182 P) (t235 P)
def t237 (P : Params) : BT := .node (o93 P) .nil .nil
def t238 (P : Params) : BT := .node (o125 P) .nil .nil
def t239 (P : Params) : BT := .node (o52 P) (t237 P) (t238 P)
def t240 (P : Params) : BT := .node (o14 P) (t236 P) (t239 P)
def t241 (P : Params) : BT := .node (boot_o_7 P) (t234 P) (t240 P)
def t242 (P : Params) : BT := .node (o105 P) .nil .nil
def t243 (P : Params) : BT := .node (o29 P) (t135 P) (t242 P)
def t244 (P : Params) : BT := .node (o89 P) .nil .nil
def t245 (P : Params) : BT := .node (o121 P) .nil .nil
def t246 (P : Params) : BT := .node (o48 P) (t244 P) (t245 P)
def t247 (P : Params) : BT := .node (o10 P) (t243 P) (t246 P)
def t248 (P : Params) : BT := .node (o113 P) .nil .nil
def t249 (P : Params) : BT := .node (o37 P) (t186 P) (t248 P)
def t250 (P : Params) : BT := .node (o97 P) .nil .nil
def t251 (P : Params) : BT := .node (o59 P) (t250 P) .nil
def t252 (P : Params) : BT := .node (o18 P) (t249 P) (t251 P)
def t253 (P : Params) : BT := .node (o0 P) (t247 P) (t252 P)
def t254 (P : Params) : BT := .node (o86 P) (t241 P) (t253 P)
def t255 (P : Params) : BT := .node (o103 P) .nil .nil
def t256 (P : Params) : BT := .node (o24 P) (t142 P) (t255 P)
def t257 (P : Params) : BT := .node (o119 P) .nil .nil
def t258 (P : Params) : BT := .node (o46 P) (t191 P) (t257 P)
def t259 (P : Params) : BT := .node (o8 P) (t256 P) (t258 P)
def t260 (P : Params) : BT := .node (o111 P) .nil .nil
def t261 (P : Params) : BT := .node (o35 P) (t194 P) (t260 P)
def t262 (P : Params) : BT := .node (o95 P) .nil .nil
def t263 (P : Params) : BT := .node (o127 P) .nil .nil
def t264 (P : Params) : BT := .node (o54 P) (t262 P) (t263 P)
def t265 (P : Params) : BT := .node (o16 P) (t261 P) (t264 P)
def t266 (P : Params) : BT := .node (boot_o_9 P) (t259 P) (t265 P)
def t267 (P : Params) : BT := .node (o107 P) .nil .nil
def t268 (P : Params) : BT := .node (o31 P) (t146 P) (t267 P)
def t269 (P : Params) : BT := .node (o91 P) .nil .nil
def t270 (P : Params) : BT := .node (o123 P) .nil .nil
def t271 (P : Params) : BT := .node (o50 P) (t269 P) (t270 P)
def t272 (P : Params) : BT := .node (o12 P) (t268 P) (t271 P)
def t273 (P : Params) : BT := .node (o115 P) .nil .nil
def t274 (P : Params) : BT := .node (o39 P) (t198 P) (t273 P)
def t275 (P : Params) : BT := .node (o99 P) .nil .nil
def t276 (P : Params) : BT := .node (o61 P) (t275 P) .nil
def t277 (P : Params) : BT := .node (o20 P) (t274 P) (t276 P)
def t278 (P : Params) : BT := .node (o2 P) (t272 P) (t277 P)
def t279 (P : Params) : BT := .node (boot_o_5 P) (t266 P) (t278 P)
def t280 (P : Params) : BT := .node (boot_o_1 P) (t254 P) (t279 P)
def t281 (P : Params) : BT := .node (o102 P) .nil .nil
def t282 (P : Params) : BT := .node (o23 P) (t154 P) (t281 P)
def t283 (P : Params) : BT := .node (o118 P) .nil .nil
def t284 (P : Params) : BT := .node (o45 P) (t204 P) (t283 P)
def t285 (P : Params) : BT := .node (o7 P) (t282 P) (t284 P)
def t286 (P : Params) : BT := .node (o110 P) .nil .nil
def t287 (P : Params) : BT := .node (o34 P) (t207 P) (t286 P)
def t288 (P : Params) : BT := .node (o94 P) .nil .nil
def t289 (P : Params) : BT := .node (o126 P) .nil .nil
def t290 (P : Params) : BT := .node (o53 P) (t288 P) (t289 P)
def t291 (P : Params) : BT := .node (o15 P) (t287 P) (t290 P)
def t292 (P : Params) : BT := .node (boot_o_8 P) (t285 P) (t291 P)
def t293 (P : Params) : BT := .node (o106 P) .nil .nil
def t294 (P : Params) : BT := .node (o30 P) (t158 P) (t293 P)
def t295 (P : Params) : BT := .node (o90 P) .nil .nil
def t296 (P : Params) : BT := .node (o122 P) .nil .nil
def t297 (P : Params) : BT := .node (o49 P) (t295 P) (t296 P)
def t298 (P : Params) : BT := .node (o11 P) (t294 P) (t297 P)
def t299 (P : Params) : BT := .node (o114 P) .nil .nil
def t300 (P : Params) : BT := .node (o38 P) (t211 P) (t299 P)
def t301 (P : Params) : BT := .node (o98 P) .nil .nil
def t302 (P : Params) : BT := .node (o60 P) (t301 P) .nil
def t303 (P : Params) : BT := .node (o19 P) (t300 P) (t302 P)
def t304 (P : Params) : BT := .node (o87 P) (t298 P) (t303 P)
def t305 (P : Params) : BT := .node (boot_o_4 P) (t292 P) (t304 P)
def t306 (P : Params) : BT := .node (o104 P) .nil .nil
def t307 (P : Params) : BT := .node (o25 P) (t165 P) (t306 P)
def t308 (P : Params) : BT := .node (o120 P) .nil .nil
def t309 (P : Params) : BT := .node (o47 P) (t216 P) (t308 P)
def t310 (P : Params) : BT := .node (o9 P) (t307 P) (t309 P)
def t311 (P : Params) : BT := .node (o112 P) .nil .nil
def t312 (P : Params) : BT := .node (o36 P) (t219 P) (t311 P)
def t313 (P : Params) : BT := .node (o96 P) .nil .nil
def t314 (P : Params) : BT := .node (o128 P) .nil .nil
def t315 (P : Params) : BT := .node (o55 P) (t313 P) (t314 P)
def t316 (P : Params) : BT := .node (o17 P) (t312 P) (t315 P)
def t317 (P : Params) : BT := .node (boot_o_10 P) (t310 P) (t316 P)
def t318 (P : Params) : BT := .node (o108 P) .nil .nil
def t319 (P : Params) : BT := .node (o32 P) (t169 P) (t318 P)
def t320 (P : Params) : BT := .node (o92 P) .nil .nil
def t321 (P : Params) : BT := .node (o124 P) .nil .nil
def t322 (P : Params) : BT := .node (o51 P) (t320 P) (t321 P)
def t323 (P : Params) : BT := .node (o13 P) (t319 P) (t322 P)
def t324 (P : Params) : BT := .node (o116 P) .nil .nil
def t325 (P : Params) : BT := .node (o40 P) (t223 P) (t324 P)
def t326 (P : Params) : BT := .node (o100 P) .nil .nil
def t327 (P : Params) : BT := .node (o62 P) (t326 P) .nil
def t328 (P : Params) : BT := .node (o21 P) (t325 P) (t327 P)
def t329 (P : Params) : BT := .node (o3 P) (t323 P) (t328 P)
def t330 (P : Params) : BT := .node (boot_o_6 P) (t317 P) (t329 P)
def t331 (P : Params) : BT := .node (boot_o_2 P) (t305 P) (t330 P)
def t332 (P : Params) : BT := .node (boot_o_0 P) (t280 P) (t331 P)
def sb6 (w : World) (os : OsState) : SharedT := ⟨(t332 w.params), 123, (Life.mk [] [] [] 0 [] [] Bool.false #[] [] 0 Bool.false Bool.false Bool.false (0 : Int) [(2000 : Int), (10 : Int), (10 : Int)] Bool.false 0 Bool.true [] [] 0 Bool.false), ⟨[]⟩, (Drawn.mk 0 0 0 0), 336, os⟩
def L5 (w : World) (os : OsState) : Option (Flow × SharedT × Code × Pos) := segRunT treeTable PySem.Challenge.pw_beatless_k02_webs_refused w 11 an 1 372 (sb5 w os) (piecesOf sts5 env cE (Pos.mk 13 0 14 8) B)
def R5 (w : World) (os : OsState) : Option (Flow × SharedT × Code × Pos) := some (.next, sb6 w os, cE, (Pos.mk 38 0 46 15))
theorem q5 : tt (Hd.L5, Hd.R5) = true := by k_qdec
theorem r5 : ∀ w, PySem.W.Fast.tw7289443652863241282 w = PySem.W.Fast.tw2540258914238199871 w := fun w => by kernel_rfl
theorem e5 (w : World) (os : OsState) : Hd.L5 w os = Hd.R5 w os :=
  (congrFun (congrFun PySem.W.Fast.te7289443652863241282 w) os).trans ((congrFun (r5 w) os).trans (congrFun (congrFun PySem.W.Fast.te2540258914238199871 w) os).symm)
def sts6 : List Stmt := [S 16]
def o129 (P : Params) : Obj := (Obj.mk (.type "dict") (Option.none) (Data.dict #[en P "__name__" 165 (.str "beatless.webs" 303), en P "__doc__" 166 .none, en P "__package__" 167 .none, en P "__loader__" 168 (.builtin "__main__.__loader__#opaque"), en P "__spec__" 169 .none, en P "__annotations__" 170 (.ref 6), en P "__builtins__" 171 (.ref 4), en P "__file__" 173 (.str "/claim/cut.py" 172), en P "__cached__" 174 .none, en P "_wall" 193 (.ref 21), en P "BeatlessError" 213 (.ref 31), en P "NoWeb" 229 (.ref 44), en P "NoHand" 245 (.ref 56), en P "NoProgram" 261 (.ref 68), en P "NoWay" 277 (.ref 80), en P "NoLine" 293 (.ref 92), en P "is_whole" 302 (.ref 101), en P "MOST_HANDS" 306 (.int (12 : Int) 305), en P "LAST_HAND" 308 (.int (99 : Int) 307), en P "are_hands" 317 (.ref 108), en P "is_line" 325 (.ref 115), en P "are_lines" 335 (.ref 122), en P "near_by_hand" 347 (.ref 129)] 23) #[])
def o130 (P : Params) : Obj := (Obj.mk .none (Option.none) (Data.fields #[(.int (1 : Int) 0), (.int (0 : Int) 0), (.ref 20), (.int (5 : Int) 0), (.int (0 : Int) 0), (.ref 27), (.int (7 : Int) 0), (.int (0 : Int) 0), (.ref 40), (.int (9 : Int) 0), (.int (0 : Int) 0), (.ref 52), (.int (11 : Int) 0), (.int (0 : Int) 0), (.ref 64), (.int (13 : Int) 0), (.int (0 : Int) 0), (.ref 76), (.int (15 : Int) 0), (.int (0 : Int) 0), (.ref 88), (.int (18 : Int) 0), (.int (0 : Int) 0), (.ref 100), (.int (23 : Int) 0), (.int (0 : Int) 0), (.ref 107), (.int (32 : Int) 0), (.int (0 : Int) 0), (.ref 114), (.int (38 : Int) 0), (.int (0 : Int) 0), (.ref 121), (.int (47 : Int) 0), (.int (0 : Int) 0), (.ref 128)]) #[])
def o131 (P : Params) : Obj := (Obj.mk (.type "tuple") (Option.none) (Data.seq #[] 0) #[])
def o132 (P : Params) : Obj := (Obj.mk .none (Option.none) (Data.fields #[]) #[])
def o133 (P : Params) : Obj := (Obj.mk (.type "tuple") (Option.none) (Data.seq #[(.str "hands" 339), (.str "lines" 340), (.str "near" 341), (.str "hand" 342), (.str "one" 343), (.str "other" 344)] 0) #[])
def o134 (P : Params) : Obj := (Obj.mk (.type "tuple") (Option.none) (Data.seq #[] 0) #[])
def o135 (P : Params) : Obj := (Obj.mk .none (Option.none) (Data.func (fd "near_by_hand" "near_by_hand" (S 16) 0 [] .none .none .none .none (Option.none) .none .none 0)) #[])
def o136 (P : Params) : Obj := (Obj.mk (.type "code") (Option.none) (Data.fields #[(.str "near_by_hand" 336), (.str "near_by_hand" 337), (.str "/claim/cut.py" 338), (.int (47 : Int) 0), (.int (2 : Int) 0), (.int (0 : Int) 0), (.int (0 : Int) 0), (.int (3 : Int) 0), (.ref 123), (.bool Bool.true), (.int (181 : Int) 0), (.ref 124), .none, (.ref 125), (.ref 126), (.ref 127), (.int (345 : Int) 0), (.int (47 : Int) 0), (.str "/claim/cut.py" 346)]) #[])
def o137 (P : Params) : Obj := (Obj.mk (.type "function") (Option.none) (Data.func (fd "near_by_hand" "near_by_hand" (S 16) 3 [] .none .none .none (.str "beatless.webs" 303) (Option.none) (.ref 128) .none 0)) #[])
def t333 (P : Params) : BT := .node (o135 P) .nil .nil
def t334 (P : Params) : BT := .node (o63 P) (t333 P) .nil
def t335 (P : Params) : BT := .node (o88 P) (t334 P) (t230 P)
def t336 (P : Params) : BT := .node (o6 P) (t335 P) (t233 P)
def t337 (P : Params) : BT := .node (boot_o_7 P) (t336 P) (t240 P)
def t338 (P : Params) : BT := .node (o131 P) .nil .nil
def t339 (P : Params) : BT := .node (o59 P) (t250 P) (t338 P)
def t340 (P : Params) : BT := .node (o18 P) (t249 P) (t339 P)
def t341 (P : Params) : BT := .node (o0 P) (t247 P) (t340 P)
def t342 (P : Params) : BT := .node (o129 P) (t337 P) (t341 P)
def t343 (P : Params) : BT := .node (o137 P) .nil .nil
def t344 (P : Params) : BT := .node (o65 P) (t343 P) .nil
def t345 (P : Params) : BT := .node (o24 P) (t344 P) (t255 P)
def t346 (P : Params) : BT := .node (o8 P) (t345 P) (t258 P)
def t347 (P : Params) : BT := .node (boot_o_9 P) (t346 P) (t265 P)
def t348 (P : Params) : BT := .node (o133 P) .nil .nil
def t349 (P : Params) : BT := .node (o61 P) (t275 P) (t348 P)
def t350 (P : Params) : BT := .node (o20 P) (t274 P) (t349 P)
def t351 (P : Params) : BT := .node (o2 P) (t272 P) (t350 P)
def t352 (P : Params) : BT := .node (boot_o_5 P) (t347 P) (t351 P)
def t353 (P : Params) : BT := .node (boot_o_1 P) (t342 P) (t352 P)
def t354 (P : Params) : BT := .node (o136 P) .nil .nil
def t355 (P : Params) : BT := .node (o64 P) (t354 P) .nil
def t356 (P : Params) : BT := .node (o23 P) (t355 P) (t281 P)
def t357 (P : Params) : BT := .node (o7 P) (t356 P) (t284 P)
def t358 (P : Params) : BT := .node (boot_o_8 P) (t357 P) (t291 P)
def t359 (P : Params) : BT := .node (o132 P) .nil .nil
def t360 (P : Params) : BT := .node (o60 P) (t301 P) (t359 P)
def t361 (P : Params) : BT := .node (o19 P) (t300 P) (t360 P)
def t362 (P : Params) : BT := .node (o130 P) (t298 P) (t361 P)
def t363 (P : Params) : BT := .node (boot_o_4 P) (t358 P) (t362 P)
def t364 (P : Params) : BT := .node (o134 P) .nil .nil
def t365 (P : Params) : BT := .node (o62 P) (t326 P) (t364 P)
def t366 (P : Params) : BT := .node (o21 P) (t325 P) (t365 P)
def t367 (P : Params) : BT := .node (o3 P) (t323 P) (t366 P)
def t368 (P : Params) : BT := .node (boot_o_6 P) (t317 P) (t367 P)
def t369 (P : Params) : BT := .node (boot_o_2 P) (t363 P) (t368 P)
def t370 (P : Params) : BT := .node (boot_o_0 P) (t353 P) (t369 P)
def sb7 (w : World) (os : OsState) : SharedT := ⟨(t370 w.params), 130, (Life.mk [] [] [] 0 [] [] Bool.false #[] [] 0 Bool.false Bool.false Bool.false (0 : Int) [(2000 : Int), (10 : Int), (10 : Int)] Bool.false 0 Bool.true [] [] 0 Bool.false), ⟨[]⟩, (Drawn.mk 0 0 0 0), 348, os⟩
def L6 (w : World) (os : OsState) : Option (Flow × SharedT × Code × Pos) := segRunT treeTable PySem.Challenge.pw_beatless_k02_webs_refused w 11 an 1 35 (sb6 w os) (piecesOf sts6 env cE (Pos.mk 38 0 46 15) B)
def R6 (w : World) (os : OsState) : Option (Flow × SharedT × Code × Pos) := some (.next, sb7 w os, cE, (Pos.mk 47 0 54 15))
theorem q6 : tt (Hd.L6, Hd.R6) = true := by k_qdec
theorem r6 : ∀ w, PySem.W.Fast.tw11518265509499319272 w = PySem.W.Fast.tw3345738777826418175 w := fun w => by kernel_rfl
theorem e6 (w : World) (os : OsState) : Hd.L6 w os = Hd.R6 w os :=
  (congrFun (congrFun PySem.W.Fast.te11518265509499319272 w) os).trans ((congrFun (r6 w) os).trans (congrFun (congrFun PySem.W.Fast.te3345738777826418175 w) os).symm)
def sts7 : List Stmt := [S 17]
def o138 (P : Params) : Obj := (Obj.mk (.type "dict") (Option.none) (Data.dict #[en P "__name__" 165 (.str "beatless.webs" 303), en P "__doc__" 166 .none, en P "__package__" 167 .none, en P "__loader__" 168 (.builtin "__main__.__loader__#opaque"), en P "__spec__" 169 .none, en P "__annotations__" 170 (.ref 6), en P "__builtins__" 171 (.ref 4), en P "__file__" 173 (.str "/claim/cut.py" 172), en P "__cached__" 174 .none, en P "_wall" 193 (.ref 21), en P "BeatlessError" 213 (.ref 31), en P "NoWeb" 229 (.ref 44), en P "NoHand" 245 (.ref 56), en P "NoProgram" 261 (.ref 68), en P "NoWay" 277 (.ref 80), en P "NoLine" 293 (.ref 92), en P "is_whole" 302 (.ref 101), en P "MOST_HANDS" 306 (.int (12 : Int) 305), en P "LAST_HAND" 308 (.int (99 : Int) 307), en P "are_hands" 317 (.ref 108), en P "is_line" 325 (.ref 115), en P "are_lines" 335 (.ref 122), en P "near_by_hand" 347 (.ref 129), en P "Web" 433 (.ref 195)] 24) #[])
def o139 (P : Params) : Obj := (Obj.mk .none (Option.none) (Data.fields #[(.int (1 : Int) 0), (.int (0 : Int) 0), (.ref 20), (.int (5 : Int) 0), (.int (0 : Int) 0), (.ref 27), (.int (7 : Int) 0), (.int (0 : Int) 0), (.ref 40), (.int (9 : Int) 0), (.int (0 : Int) 0), (.ref 52), (.int (11 : Int) 0), (.int (0 : Int) 0), (.ref 64), (.int (13 : Int) 0), (.int (0 : Int) 0), (.ref 76), (.int (15 : Int) 0), (.int (0 : Int) 0), (.ref 88), (.int (18 : Int) 0), (.int (0 : Int) 0), (.ref 100), (.int (23 : Int) 0), (.int (0 : Int) 0), (.ref 107), (.int (32 : Int) 0), (.int (0 : Int) 0), (.ref 114), (.int (38 : Int) 0), (.int (0 : Int) 0), (.ref 121), (.int (47 : Int) 0), (.int (0 : Int) 0), (.ref 128), (.int (55 : Int) 0), (.int (0 : Int) 0), (.ref 135)]) #[])
def o140 (P : Params) : Obj := (Obj.mk (.type "tuple") (Option.none) (Data.seq #[] 0) #[])
def o141 (P : Params) : Obj := (Obj.mk (.type "builtin_function_or_method") (Option.none) (Data.fields #[(.builtin "type.__prepare__"), (.type "type")]) #[])
def o142 (P : Params) : Obj := (Obj.mk (.type "dict") (Option.none) (Data.dict #[en P "__module__" 355 (.str "beatless.webs" 303), en P "__qualname__" 357 (.str "Web" 356), en P "__firstlineno__" 359 (.int (55 : Int) 358), en P "__init__" 368 (.ref 143), en P "hands" 375 (.ref 150), en P "lines" 382 (.ref 157), en P "has_hand" 390 (.ref 164), en P "has_line" 399 (.ref 171), en P "neighbours" 407 (.ref 178), en P "groups" 414 (.ref 185), en P "group_of" 422 (.ref 192), en P "__static_attributes__" 426 (.ref 193)] 12) #[])
def o143 (P : Params) : Obj := (Obj.mk (.type "tuple") (Option.none) (Data.seq #[] 0) #[])
def o144 (P : Params) : Obj := (Obj.mk .none (Option.none) (Data.fields #[(.int (57 : Int) 0), (.int (4 : Int) 0), (.ref 142), (.int (66 : Int) 0), (.int (4 : Int) 0), (.ref 149), (.int (69 : Int) 0), (.int (4 : Int) 0), (.ref 156), (.int (72 : Int) 0), (.int (4 : Int) 0), (.ref 163), (.int (75 : Int) 0), (.int (4 : Int) 0), (.ref 170), (.int (78 : Int) 0), (.int (4 : Int) 0), (.ref 177), (.int (81 : Int) 0), (.int (4 : Int) 0), (.ref 184), (.int (84 : Int) 0), (.int (4 : Int) 0), (.ref 191)]) #[])
def o145 (P : Params) : Obj := (Obj.mk (.type "code") (Option.none) (Data.fields #[(.str "Web" 350), (.str "Web" 351), (.str "/claim/cut.py" 352), (.int (55 : Int) 0), (.int (0 : Int) 0), (.int (0 : Int) 0), (.int (0 : Int) 0), (.int (0 : Int) 0), (.ref 133), (.bool Bool.false), (.int (181 : Int) 0), (.ref 134), .none, .none, .none, .none, (.int (353 : Int) 0), (.int (55 : Int) 0), (.str "/claim/cut.py" 354)]) #[])
def o146 (P : Params) : Obj := (Obj.mk (.type "frame") (Option.none) Data.plain #[(Option.some (.ref 135)), (Option.some (.ref 3)), (Option.some (.ref 132)), (Option.none), (Option.some (.str "beatless.webs" 303)), (Option.none), (Option.some (.ref 0))])
def o147 (P : Params) : Obj := (Obj.mk (.type "tuple") (Option.none) (Data.seq #[] 0) #[])
def o148 (P : Params) : Obj := (Obj.mk .none (Option.none) (Data.fields #[]) #[])
def o149 (P : Params) : Obj := (Obj.mk (.type "tuple") (Option.none) (Data.seq #[(.str "self" 363), (.str "hands" 364), (.str "lines" 365)] 0) #[])
def o150 (P : Params) : Obj := (Obj.mk (.type "tuple") (Option.none) (Data.seq #[] 0) #[])
def o151 (P : Params) : Obj := (Obj.mk .none (Option.none) (Data.func (fd "__init__" "Web.__init__" (L2.inClass (S 17) 0) 0 [] .none .none .none .none (Option.none) .none .none 0)) #[])
def o152 (P : Params) : Obj := (Obj.mk (.type "code") (Option.none) (Data.fields #[(.str "__init__" 360), (.str "Web.__init__" 361), (.str "/claim/cut.py" 362), (.int (57 : Int) 0), (.int (3 : Int) 0), (.int (0 : Int) 0), (.int (0 : Int) 0), (.int (3 : Int) 0), (.ref 137), (.bool Bool.true), (.int (181 : Int) 0), (.ref 138), .none, (.ref 139), (.ref 140), (.ref 141), (.int (366 : Int) 0), (.int (57 : Int) 0), (.str "/claim/cut.py" 367)]) #[])
def o153 (P : Params) : Obj := (Obj.mk (.type "function") (Option.none) (Data.func (fd "__init__" "Web.__init__" (L2.inClass (S 17) 0) 3 [] .none .none .none (.str "beatless.webs" 303) (Option.none) (.ref 142) .none 0)) #[])
def o154 (P : Params) : Obj := (Obj.mk (.type "tuple") (Option.none) (Data.seq #[] 0) #[])
def o155 (P : Params) : Obj := (Obj.mk .none (Option.none) (Data.fields #[]) #[])
def o156 (P : Params) : Obj := (Obj.mk (.type "tuple") (Option.none) (Data.seq #[(.str "self" 372)] 0) #[])
def o157 (P : Params) : Obj := (Obj.mk (.type "tuple") (Option.none) (Data.seq #[] 0) #[])
def o158 (P : Params) : Obj := (Obj.mk .none (Option.none) (Data.func (fd "hands" "Web.hands" (L2.inClass (S 17) 1) 0 [] .none .none .none .none (Option.none) .none .none 0)) #[])
def o159 (P : Params) : Obj := (Obj.mk (.type "code") (Option.none) (Data.fields #[(.str "hands" 369), (.str "Web.hands" 370), (.str "/claim/cut.py" 371), (.int (66 : Int) 0), (.int (1 : Int) 0), (.int (0 : Int) 0), (.int (0 : Int) 0), (.int (3 : Int) 0), (.ref 144), (.bool Bool.true), (.int (181 : Int) 0), (.ref 145), .none, (.ref 146), (.ref 147), (.ref 148), (.int (373 : Int) 0), (.int (66 : Int) 0), (.str "/claim/cut.py" 374)]) #[])
def o160 (P : Params) : Obj := (Obj.mk (.type "function") (Option.none) (Data.func (fd "hands" "Web.hands" (L2.inClass (S 17) 1) 3 [] .none .none .none (.str "beatless.webs" 303) (Option.none) (.ref 149) .none 0)) #[])
def o161 (P : Params) : Obj := (Obj.mk (.type "tuple") (Option.none) (Data.seq #[] 0) #[])
def o162 (P : Params) : Obj := (Obj.mk .none (Option.none) (Data.fields #[]) #[])
def o163 (P : Params) : Obj := (Obj.mk (.type "tuple") (Option.none) (Data.seq #[(.str "self" 379)] 0) #[])
def o164 (P : Params) : Obj := (Obj.mk (.type "tuple") (Option.none) (Data.seq #[] 0) #[])
def o165 (P : Params) : Obj := (Obj.mk .none (Option.none) (Data.func (fd "lines" "Web.lines" (L2.inClass (S 17) 2) 0 [] .none .none .none .none (Option.none) .none .none 0)) #[])
def o166 (P : Params) : Obj := (Obj.mk (.type "code") (Option.none) (Data.fields #[(.str "lines" 376), (.str "Web.lines" 377), (.str "/claim/cut.py" 378), (.int (69 : Int) 0), (.int (1 : Int) 0), (.int (0 : Int) 0), (.int (0 : Int) 0), (.int (3 : Int) 0), (.ref 151), (.bool Bool.true), (.int (181 : Int) 0), (.ref 152), .none, (.ref 153), (.ref 154), (.ref 155), (.int (380 : Int) 0), (.int (69 : Int) 0), (.str "/claim/cut.py" 381)]) #[])
def o167 (P : Params) : Obj := (Obj.mk (.type "function") (Option.none) (Data.func (fd "lines" "Web.lines" (L2.inClass (S 17) 2) 3 [] .none .none .none (.str "beatless.webs" 303) (Option.none) (.ref 156) .none 0)) #[])
def o168 (P : Params) : Obj := (Obj.mk (.type "tuple") (Option.none) (Data.seq #[] 0) #[])
def o169 (P : Params) : Obj := (Obj.mk .none (Option.none) (Data.fields #[]) #[])
def o170 (P : Params) : Obj := (Obj.mk (.type "tuple") (Option.none) (Data.seq #[(.str "self" 386), (.str "hand" 387)] 0) #[])
def o171 (P : Params) : Obj := (Obj.mk (.type "tuple") (Option.none) (Data.seq #[] 0) #[])
def o172 (P : Params) : Obj := (Obj.mk .none (Option.none) (Data.func (fd "has_hand" "Web.has_hand" (L2.inClass (S 17) 3) 0 [] .none .none .none .none (Option.none) .none .none 0)) #[])
def o173 (P : Params) : Obj := (Obj.mk (.type "code") (Option.none) (Data.fields #[(.str "has_hand" 383), (.str "Web.has_hand" 384), (.str "/claim/cut.py" 385), (.int (72 : Int) 0), (.int (2 : Int) 0), (.int (0 : Int) 0), (.int (0 : Int) 0), (.int (3 : Int) 0), (.ref 158), (.bool Bool.true), (.int (181 : Int) 0), (.ref 159), .none, (.ref 160), (.ref 161), (.ref 162), (.int (388 : Int) 0), (.int (72 : Int) 0), (.str "/claim/cut.py" 389)]) #[])
def o174 (P : Params) : Obj := (Obj.mk (.type "function") (Option.none) (Data.func (fd "has_hand" "Web.has_hand" (L2.inClass (S 17) 3) 3 [] .none .none .none (.str "beatless.webs" 303) (Option.none) (.ref 163) .none 0)) #[])
def o175 (P : Params) : Obj := (Obj.mk (.type "tuple") (Option.none) (Data.seq #[] 0) #[])
def o176 (P : Params) : Obj := (Obj.mk .none (Option.none) (Data.fields #[]) #[])
def o177 (P : Params) : Obj := (Obj.mk (.type "tuple") (Option.none) (Data.seq #[(.str "self" 394), (.str "one" 395), (.str "other" 396)] 0) #[])
def o178 (P : Params) : Obj := (Obj.mk (.type "tuple") (Option.none) (Data.seq #[] 0) #[])
def o179 (P : Params) : Obj := (Obj.mk .none (Option.none) (Data.func (fd "has_line" "Web.has_line" (L2.inClass (S 17) 4) 0 [] .none .none .none .none (Option.none) .none .none 0)) #[])
def o180 (P : Params) : Obj := (Obj.mk (.type "code") (Option.none) (Data.fields #[(.str "has_line" 391), (.str "Web.has_line" 392), (.str "/claim/cut.py" 393), (.int (75 : Int) 0), (.int (3 : Int) 0), (.int (0 : Int) 0), (.int (0 : Int) 0), (.int (3 : Int) 0), (.ref 165), (.bool Bool.true), (.int (181 : Int) 0), (.ref 166), .none, (.ref 167), (.ref 168), (.ref 169), (.int (397 : Int) 0), (.int (75 : Int) 0), (.str "/claim/cut.py" 398)]) #[])
def o181 (P : Params) : Obj := (Obj.mk (.type "function") (Option.none) (Data.func (fd "has_line" "Web.has_line" (L2.inClass (S 17) 4) 3 [] .none .none .none (.str "beatless.webs" 303) (Option.none) (.ref 170) .none 0)) #[])
def o182 (P : Params) : Obj := (Obj.mk (.type "tuple") (Option.none) (Data.seq #[] 0) #[])
def o183 (P : Params) : Obj := (Obj.mk .none (Option.none) (Data.fields #[]) #[])
def o184 (P : Params) : Obj := (Obj.mk (.type "tuple") (Option.none) (Data.seq #[(.str "self" 403), (.str "hand" 404)] 0) #[])
def o185 (P : Params) : Obj := (Obj.mk (.type "tuple") (Option.none) (Data.seq #[] 0) #[])
def o186 (P : Params) : Obj := (Obj.mk .none (Option.none) (Data.func (fd "neighbours" "Web.neighbours" (L2.inClass (S 17) 5) 0 [] .none .none .none .none (Option.none) .none .none 0)) #[])
def o187 (P : Params) : Obj := (Obj.mk (.type "code") (Option.none) (Data.fields #[(.str "neighbours" 400), (.str "Web.neighbours" 401), (.str "/claim/cut.py" 402), (.int (78 : Int) 0), (.int (2 : Int) 0), (.int (0 : Int) 0), (.int (0 : Int) 0), (.int (3 : Int) 0), (.ref 172), (.bool Bool.true), (.int (181 : Int) 0), (.ref 173), .none, (.ref 174), (.ref 175), (.ref 176), (.int (405 : Int) 0), (.int (78 : Int) 0), (.str "/claim/cut.py" 406)]) #[])
def o188 (P : Params) : Obj := (Obj.mk (.type "function") (Option.none) (Data.func (fd "neighbours" "Web.neighbours" (L2.inClass (S 17) 5) 3 [] .none .none .none (.str "beatless.webs" 303) (Option.none) (.ref 177) .none 0)) #[])
def o189 (P : Params) : Obj := (Obj.mk (.type "tuple") (Option.none) (Data.seq #[] 0) #[])
def o190 (P : Params) : Obj := (Obj.mk .none (Option.none) (Data.fields #[]) #[])
def o191 (P : Params) : Obj := (Obj.mk (.type "tuple") (Option.none) (Data.seq #[(.str "self" 411)] 0) #[])
def o192 (P : Params) : Obj := (Obj.mk (.type "tuple") (Option.none) (Data.seq #[] 0) #[])
def o193 (P : Params) : Obj := (Obj.mk .none (Option.none) (Data.func (fd "groups" "Web.groups" (L2.inClass (S 17) 6) 0 [] .none .none .none .none (Option.none) .none .none 0)) #[])
def o194 (P : Params) : Obj := (Obj.mk (.type "code") (Option.none) (Data.fields #[(.str "groups" 408), (.str "Web.groups" 409), (.str "/claim/cut.py" 410), (.int (81 : Int) 0), (.int (1 : Int) 0), (.int (0 : Int) 0), (.int (0 : Int) 0), (.int (3 : Int) 0), (.ref 179), (.bool Bool.true), (.int (181 : Int) 0), (.ref 180), .none, (.ref 181), (.ref 182), (.ref 183), (.int (412 : Int) 0), (.int (81 : Int) 0), (.str "/claim/cut.py" 413)]) #[])
def o195 (P : Params) : Obj := (Obj.mk (.type "function") (Option.none) (Data.func (fd "groups" "Web.groups" (L2.inClass (S 17) 6) 3 [] .none .none .none (.str "beatless.webs" 303) (Option.none) (.ref 184) .none 0)) #[])
def o196 (P : Params) : Obj := (Obj.mk (.type "tuple") (Option.none) (Data.seq #[] 0) #[])
def o197 (P : Params) : Obj := (Obj.mk .none (Option.none) (Data.fields #[]) #[])
def o198 (P : Params) : Obj := (Obj.mk (.type "tuple") (Option.none) (Data.seq #[(.str "self" 418), (.str "hand" 419)] 0) #[])
def o199 (P : Params) : Obj := (Obj.mk (.type "tuple") (Option.none) (Data.seq #[] 0) #[])
def o200 (P : Params) : Obj := (Obj.mk .none (Option.none) (Data.func (fd "group_of" "Web.group_of" (L2.inClass (S 17) 7) 0 [] .none .none .none .none (Option.none) .none .none 0)) #[])
def o201 (P : Params) : Obj := (Obj.mk (.type "code") (Option.none) (Data.fields #[(.str "group_of" 415), (.str "Web.group_of" 416), (.str "/claim/cut.py" 417), (.int (84 : Int) 0), (.int (2 : Int) 0), (.int (0 : Int) 0), (.int (0 : Int) 0), (.int (3 : Int) 0), (.ref 186), (.bool Bool.true), (.int (181 : Int) 0), (.ref 187), .none, (.ref 188), (.ref 189), (.ref 190), (.int (420 : Int) 0), (.int (84 : Int) 0), (.str "/claim/cut.py" 421)]) #[])
def o202 (P : Params) : Obj := (Obj.mk (.type "function") (Option.none) (Data.func (fd "group_of" "Web.group_of" (L2.inClass (S 17) 7) 3 [] .none .none .none (.str "beatless.webs" 303) (Option.none) (.ref 191) .none 0)) #[])
def o203 (P : Params) : Obj := (Obj.mk (.type "tuple") (Option.none) (Data.seq #[(.str "near" 423), (.str "own_hands" 424), (.str "own_lines" 425)] 0) #[])
def o204 (P : Params) : Obj := (Obj.mk (.type "dict") (Option.none) (Data.dict #[en P "__module__" 355 (.str "beatless.webs" 303), en P "__firstlineno__" 359 (.int (55 : Int) 358), en P "__init__" 368 (.ref 143), en P "hands" 375 (.ref 150), en P "lines" 382 (.ref 157), en P "has_hand" 390 (.ref 164), en P "has_line" 399 (.ref 171), en P "neighbours" 407 (.ref 178), en P "groups" 414 (.ref 185), en P "group_of" 422 (.ref 192), en P "__static_attributes__" 426 (.ref 193), en P "__dict__" 428 (.ref 196), en P "__weakref__" 430 (.ref 197), en P "__doc__" 431 .none] 4) #[])
def o205 (P : Params) : Obj := (Obj.mk (.type "type") (Option.none) (Data.cls (ClassData.mk "Web" [(.type "object")] [(.ref 195), (.type "object")] 194 "Web" Bool.true [] [] Bool.false (Option.none) Bool.false)) #[(Option.none), (Option.none), (Option.some (.str "Web" 348)), (Option.some (.str "Web" 356)), (Option.some (.builtin "object.__new__")), (Option.some (.bool Bool.true))])
def o206 (P : Params) : Obj := (Obj.mk (.type "getset_descriptor") (Option.none) (Data.fields #[(.str "__dict__" 427), (.ref 195), (.builtin "function.__dict__"), (.builtin "function.__dict__#set")]) #[])
def o207 (P : Params) : Obj := (Obj.mk (.type "getset_descriptor") (Option.none) (Data.fields #[(.str "__weakref__" 429), (.ref 195), (.builtin "ExceptionGroup.__weakref__"), .none]) #[])
def o208 (P : Params) : Obj := (Obj.mk (.type "super") (Option.none) (Data.fields #[(.ref 195), (.ref 195), (.ref 195)]) #[])
def o209 (P : Params) : Obj := (Obj.mk (.type "builtin_function_or_method") (Option.none) (Data.fields #[(.builtin "object.__init_subclass__"), (.ref 195)]) #[])
def t371 (P : Params) : BT := .node (o201 P) .nil .nil
def t372 (P : Params) : BT := .node (o63 P) (t333 P) (t371 P)
def t373 (P : Params) : BT := .node (o169 P) .nil .nil
def t374 (P : Params) : BT := .node (o101 P) (t373 P) .nil
def t375 (P : Params) : BT := .node (o88 P) (t372 P) (t374 P)
def t376 (P : Params) : BT := .node (o153 P) .nil .nil
def t377 (P : Params) : BT := .node (o82 P) (t376 P) .nil
def t378 (P : Params) : BT := .node (o185 P) .nil .nil
def t379 (P : Params) : BT := .node (o117 P) (t378 P) .nil
def t380 (P : Params) : BT := .node (o44 P) (t377 P) (t379 P)
def t381 (P : Params) : BT := .node (o6 P) (t375 P) (t380 P)
def t382 (P : Params) : BT := .node (o145 P) .nil .nil
def t383 (P : Params) : BT := .node (o209 P) .nil .nil
def t384 (P : Params) : BT := .node (o74 P) (t382 P) (t383 P)
def t385 (P : Params) : BT := .node (o177 P) .nil .nil
def t386 (P : Params) : BT := .node (o109 P) (t385 P) .nil
def t387 (P : Params) : BT := .node (o33 P) (t384 P) (t386 P)
def t388 (P : Params) : BT := .node (o161 P) .nil .nil
def t389 (P : Params) : BT := .node (o93 P) (t388 P) .nil
def t390 (P : Params) : BT := .node (o193 P) .nil .nil
def t391 (P : Params) : BT := .node (o125 P) (t390 P) .nil
def t392 (P : Params) : BT := .node (o52 P) (t389 P) (t391 P)
def t393 (P : Params) : BT := .node (o14 P) (t387 P) (t392 P)
def t394 (P : Params) : BT := .node (boot_o_7 P) (t381 P) (t393 P)
def t395 (P : Params) : BT := .node (o141 P) .nil .nil
def t396 (P : Params) : BT := .node (o205 P) .nil .nil
def t397 (P : Params) : BT := .node (o67 P) (t395 P) (t396 P)
def t398 (P : Params) : BT := .node (o173 P) .nil .nil
def t399 (P : Params) : BT := .node (o105 P) (t398 P) .nil
def t400 (P : Params) : BT := .node (o29 P) (t397 P) (t399 P)
def t401 (P : Params) : BT := .node (o157 P) .nil .nil
def t402 (P : Params) : BT := .node (o89 P) (t401 P) .nil
def t403 (P : Params) : BT := .node (o189 P) .nil .nil
def t404 (P : Params) : BT := .node (o121 P) (t403 P) .nil
def t405 (P : Params) : BT := .node (o48 P) (t402 P) (t404 P)
def t406 (P : Params) : BT := .node (o10 P) (t400 P) (t405 P)
def t407 (P : Params) : BT := .node (o149 P) .nil .nil
def t408 (P : Params) : BT := .node (o78 P) (t407 P) .nil
def t409 (P : Params) : BT := .node (o181 P) .nil .nil
def t410 (P : Params) : BT := .node (o113 P) (t409 P) .nil
def t411 (P : Params) : BT := .node (o37 P) (t408 P) (t410 P)
def t412 (P : Params) : BT := .node (o165 P) .nil .nil
def t413 (P : Params) : BT := .node (o97 P) (t412 P) .nil
def t414 (P : Params) : BT := .node (o197 P) .nil .nil
def t415 (P : Params) : BT := .node (o131 P) (t414 P) .nil
def t416 (P : Params) : BT := .node (o59 P) (t413 P) (t415 P)
def t417 (P : Params) : BT := .node (o18 P) (t411 P) (t416 P)
def t418 (P : Params) : BT := .node (o0 P) (t406 P) (t417 P)
def t419 (P : Params) : BT := .node (o138 P) (t394 P) (t418 P)
def t420 (P : Params) : BT := .node (o203 P) .nil .nil
def t421 (P : Params) : BT := .node (o65 P) (t343 P) (t420 P)
def t422 (P : Params) : BT := .node (o171 P) .nil .nil
def t423 (P : Params) : BT := .node (o103 P) (t422 P) .nil
def t424 (P : Params) : BT := .node (o24 P) (t421 P) (t423 P)
def t425 (P : Params) : BT := .node (o155 P) .nil .nil
def t426 (P : Params) : BT := .node (o84 P) (t425 P) .nil
def t427 (P : Params) : BT := .node (o187 P) .nil .nil
def t428 (P : Params) : BT := .node (o119 P) (t427 P) .nil
def t429 (P : Params) : BT := .node (o46 P) (t426 P) (t428 P)
def t430 (P : Params) : BT := .node (o8 P) (t424 P) (t429 P)
def t431 (P : Params) : BT := .node (o147 P) .nil .nil
def t432 (P : Params) : BT := .node (o76 P) (t431 P) .nil
def t433 (P : Params) : BT := .node (o179 P) .nil .nil
def t434 (P : Params) : BT := .node (o111 P) (t433 P) .nil
def t435 (P : Params) : BT := .node (o35 P) (t432 P) (t434 P)
def t436 (P : Params) : BT := .node (o163 P) .nil .nil
def t437 (P : Params) : BT := .node (o95 P) (t436 P) .nil
def t438 (P : Params) : BT := .node (o195 P) .nil .nil
def t439 (P : Params) : BT := .node (o127 P) (t438 P) .nil
def t440 (P : Params) : BT := .node (o54 P) (t437 P) (t439 P)
def t441 (P : Params) : BT := .node (o16 P) (t435 P) (t440 P)
def t442 (P : Params) : BT := .node (boot_o_9 P) (t430 P) (t441 P)
def t443 (P : Params) : BT := .node (o143 P) .nil .nil
def t444 (P : Params) : BT := .node (o207 P) .nil .nil
def t445 (P : Params) : BT := .node (o69 P) (t443 P) (t444 P)
def t446 (P : Params) : BT := .node (o175 P) .nil .nil
def t447 (P : Params) : BT := .node (o107 P) (t446 P) .nil
def t448 (P : Params) : BT := .node (o31 P) (t445 P) (t447 P)
def t449 (P : Params) : BT := .node (o159 P) .nil .nil
def t450 (P : Params) : BT := .node (o91 P) (t449 P) .nil
def t451 (P : Params) : BT := .node (o191 P) .nil .nil
def t452 (P : Params) : BT := .node (o123 P) (t451 P) .nil
def t453 (P : Params) : BT := .node (o50 P) (t450 P) (t452 P)
def t454 (P : Params) : BT := .node (o12 P) (t448 P) (t453 P)
def t455 (P : Params) : BT := .node (o151 P) .nil .nil
def t456 (P : Params) : BT := .node (o80 P) (t455 P) .nil
def t457 (P : Params) : BT := .node (o183 P) .nil .nil
def t458 (P : Params) : BT := .node (o115 P) (t457 P) .nil
def t459 (P : Params) : BT := .node (o39 P) (t456 P) (t458 P)
def t460 (P : Params) : BT := .node (o167 P) .nil .nil
def t461 (P : Params) : BT := .node (o99 P) (t460 P) .nil
def t462 (P : Params) : BT := .node (o199 P) .nil .nil
def t463 (P : Params) : BT := .node (o133 P) (t462 P) .nil
def t464 (P : Params) : BT := .node (o61 P) (t461 P) (t463 P)
def t465 (P : Params) : BT := .node (o20 P) (t459 P) (t464 P)
def t466 (P : Params) : BT := .node (o2 P) (t454 P) (t465 P)
def t467 (P : Params) : BT := .node (boot_o_5 P) (t442 P) (t466 P)
def t468 (P : Params) : BT := .node (boot_o_1 P) (t419 P) (t467 P)
def t469 (P : Params) : BT := .node (o202 P) .nil .nil
def t470 (P : Params) : BT := .node (o64 P) (t354 P) (t469 P)
def t471 (P : Params) : BT := .node (o170 P) .nil .nil
def t472 (P : Params) : BT := .node (o102 P) (t471 P) .nil
def t473 (P : Params) : BT := .node (o23 P) (t470 P) (t472 P)
def t474 (P : Params) : BT := .node (o154 P) .nil .nil
def t475 (P : Params) : BT := .node (o83 P) (t474 P) .nil
def t476 (P : Params) : BT := .node (o186 P) .nil .nil
def t477 (P : Params) : BT := .node (o118 P) (t476 P) .nil
def t478 (P : Params) : BT := .node (o45 P) (t475 P) (t477 P)
def t479 (P : Params) : BT := .node (o7 P) (t473 P) (t478 P)
def t480 (P : Params) : BT := .node (o146 P) .nil .nil
def t481 (P : Params) : BT := .node (o75 P) (t480 P) .nil
def t482 (P : Params) : BT := .node (o178 P) .nil .nil
def t483 (P : Params) : BT := .node (o110 P) (t482 P) .nil
def t484 (P : Params) : BT := .node (o34 P) (t481 P) (t483 P)
def t485 (P : Params) : BT := .node (o162 P) .nil .nil
def t486 (P : Params) : BT := .node (o94 P) (t485 P) .nil
def t487 (P : Params) : BT := .node (o194 P) .nil .nil
def t488 (P : Params) : BT := .node (o126 P) (t487 P) .nil
def t489 (P : Params) : BT := .node (o53 P) (t486 P) (t488 P)
def t490 (P : Params) : BT := .node (o15 P) (t484 P) (t489 P)
def t491 (P : Params) : BT := .node (boot_o_8 P) (t479 P) (t490 P)
def t492 (P : Params) : BT := .node (o142 P) .nil .nil
def t493 (P : Params) : BT := .node (o206 P) .nil .nil
def t494 (P : Params) : BT := .node (o68 P) (t492 P) (t493 P)
def t495 (P : Params) : BT := .node (o174 P) .nil .nil
def t496 (P : Params) : BT := .node (o106 P) (t495 P) .nil
def t497 (P : Params) : BT := .node (o30 P) (t494 P) (t496 P)
def t498 (P : Params) : BT := .node (o158 P) .nil .nil
def t499 (P : Params) : BT := .node (o90 P) (t498 P) .nil
def t500 (P : Params) : BT := .node (o190 P) .nil .nil
def t501 (P : Params) : BT := .node (o122 P) (t500 P) .nil
def t502 (P : Params) : BT := .node (o49 P) (t499 P) (t501 P)
def t503 (P : Params) : BT := .node (o11 P) (t497 P) (t502 P)
def t504 (P : Params) : BT := .node (o150 P) .nil .nil
def t505 (P : Params) : BT := .node (o79 P) (t504 P) .nil
def t506 (P : Params) : BT := .node (o182 P) .nil .nil
def t507 (P : Params) : BT := .node (o114 P) (t506 P) .nil
def t508 (P : Params) : BT := .node (o38 P) (t505 P) (t507 P)
def t509 (P : Params) : BT := .node (o166 P) .nil .nil
def t510 (P : Params) : BT := .node (o98 P) (t509 P) .nil
def t511 (P : Params) : BT := .node (o198 P) .nil .nil
def t512 (P : Params) : BT := .node (o132 P) (t511 P) .nil
def t513 (P : Params) : BT := .node (o60 P) (t510 P) (t512 P)
def t514 (P : Params) : BT := .node (o19 P) (t508 P) (t513 P)
def t515 (P : Params) : BT := .node (o139 P) (t503 P) (t514 P)
def t516 (P : Params) : BT := .node (boot_o_4 P) (t491 P) (t515 P)
def t517 (P : Params) : BT := .node (o140 P) .nil .nil
def t518 (P : Params) : BT := .node (o204 P) .nil .nil
def t519 (P : Params) : BT := .node (o66 P) (t517 P) (t518 P)
def t520 (P : Params) : BT := .node (o172 P) .nil .nil
def t521 (P : Params) : BT := .node (o104 P) (t520 P) .nil
def t522 (P : Params) : BT := .node (o25 P) (t519 P) (t521 P)
def t523 (P : Params) : BT := .node (o156 P) .nil .nil
def t524 (P : Params) : BT := .node (o85 P) (t523 P) .nil
def t525 (P : Params) : BT := .node (o188 P) .nil .nil
def t526 (P : Params) : BT := .node (o120 P) (t525 P) .nil
def t527 (P : Params) : BT := .node (o47 P) (t524 P) (t526 P)
def t528 (P : Params) : BT := .node (o9 P) (t522 P) (t527 P)
def t529 (P : Params) : BT := .node (o148 P) .nil .nil
def t530 (P : Params) : BT := .node (o77 P) (t529 P) .nil
def t531 (P : Params) : BT := .node (o180 P) .nil .nil
def t532 (P : Params) : BT := .node (o112 P) (t531 P) .nil
def t533 (P : Params) : BT := .node (o36 P) (t530 P) (t532 P)
def t534 (P : Params) : BT := .node (o164 P) .nil .nil
def t535 (P : Params) : BT := .node (o96 P) (t534 P) .nil
def t536 (P : Params) : BT := .node (o196 P) .nil .nil
def t537 (P : Params) : BT := .node (o128 P) (t536 P) .nil
def t538 (P : Params) : BT := .node (o55 P) (t535 P) (t537 P)
def t539 (P : Params) : BT := .node (o17 P) (t533 P) (t538 P)
def t540 (P : Params) : BT := .node (boot_o_10 P) (t528 P) (t539 P)
def t541 (P : Params) : BT := .node (o144 P) .nil .nil
def t542 (P : Params) : BT := .node (o208 P) .nil .nil
def t543 (P : Params) : BT := .node (o70 P) (t541 P) (t542 P)
def t544 (P : Params) : BT := .node (o176 P) .nil .nil
def t545 (P : Params) : BT := .node (o108 P) (t544 P) .nil
def t546 (P : Params) : BT := .node (o32 P) (t543 P) (t545 P)
def t547 (P : Params) : BT := .node (o160 P) .nil .nil
def t548 (P : Params) : BT := .node (o92 P) (t547 P) .nil
def t549 (P : Params) : BT := .node (o192 P) .nil .nil
def t550 (P : Params) : BT := .node (o124 P) (t549 P) .nil
def t551 (P : Params) : BT := .node (o51 P) (t548 P) (t550 P)
def t552 (P : Params) : BT := .node (o13 P) (t546 P) (t551 P)
def t553 (P : Params) : BT := .node (o152 P) .nil .nil
def t554 (P : Params) : BT := .node (o81 P) (t553 P) .nil
def t555 (P : Params) : BT := .node (o184 P) .nil .nil
def t556 (P : Params) : BT := .node (o116 P) (t555 P) .nil
def t557 (P : Params) : BT := .node (o40 P) (t554 P) (t556 P)
def t558 (P : Params) : BT := .node (o168 P) .nil .nil
def t559 (P : Params) : BT := .node (o100 P) (t558 P) .nil
def t560 (P : Params) : BT := .node (o200 P) .nil .nil
def t561 (P : Params) : BT := .node (o134 P) (t560 P) .nil
def t562 (P : Params) : BT := .node (o62 P) (t559 P) (t561 P)
def t563 (P : Params) : BT := .node (o21 P) (t557 P) (t562 P)
def t564 (P : Params) : BT := .node (o3 P) (t552 P) (t563 P)
def t565 (P : Params) : BT := .node (boot_o_6 P) (t540 P) (t564 P)
def t566 (P : Params) : BT := .node (boot_o_2 P) (t516 P) (t565 P)
def t567 (P : Params) : BT := .node (boot_o_0 P) (t468 P) (t566 P)
def sb8 (w : World) (os : OsState) : SharedT := ⟨(t567 w.params), 200, (Life.mk [] [] [] 0 [] [] Bool.false #[] [] 0 Bool.false Bool.false Bool.false (0 : Int) [(2000 : Int), (10 : Int), (10 : Int)] Bool.false 0 Bool.true [] [] 0 Bool.false), ⟨[]⟩, (Drawn.mk 0 0 0 0), 434, os⟩
def L7 (w : World) (os : OsState) : Option (Flow × SharedT × Code × Pos) := segRunT treeTable PySem.Challenge.pw_beatless_k02_webs_refused w 11 an 1 448 (sb7 w os) (piecesOf sts7 env cE (Pos.mk 47 0 54 15) B)
def R7 (w : World) (os : OsState) : Option (Flow × SharedT × Code × Pos) := some (.next, sb8 w os, cE, (Pos.mk 55 0 85 16))
theorem q7 : tt (Hd.L7, Hd.R7) = true := by k_qdec
theorem r7 : ∀ w, PySem.W.Fast.tw9490284035958612641 w = PySem.W.Fast.tw15626045330170987150 w := fun w => by kernel_rfl
theorem e7 (w : World) (os : OsState) : Hd.L7 w os = Hd.R7 w os :=
  (congrFun (congrFun PySem.W.Fast.te9490284035958612641 w) os).trans ((congrFun (r7 w) os).trans (congrFun (congrFun PySem.W.Fast.te15626045330170987150 w) os).symm)
def sts8 : List Stmt := [S 18, S 19, S 20, S 21, S 22, S 23, S 24]
def o210 (P : Params) : Obj := (Obj.mk (.type "dict") (Option.none) (Data.dict #[en P "__name__" 165 (.str "law_beatless_k02_webs_refused" 434), en P "__doc__" 166 .none, en P "__package__" 167 .none, en P "__loader__" 168 (.builtin "__main__.__loader__#opaque"), en P "__spec__" 169 .none, en P "__annotations__" 170 (.ref 6), en P "__builtins__" 171 (.ref 4), en P "__file__" 173 (.str "/claim/cut.py" 172), en P "__cached__" 174 .none, en P "_wall" 193 (.ref 21), en P "BeatlessError" 213 (.ref 31), en P "NoWeb" 229 (.ref 44), en P "NoHand" 245 (.ref 56), en P "NoProgram" 261 (.ref 68), en P "NoWay" 277 (.ref 80), en P "NoLine" 293 (.ref 92), en P "is_whole" 302 (.ref 101), en P "MOST_HANDS" 306 (.int (12 : Int) 305), en P "LAST_HAND" 308 (.int (99 : Int) 307), en P "are_hands" 317 (.ref 108), en P "is_line" 325 (.ref 115), en P "are_lines" 335 (.ref 122), en P "near_by_hand" 347 (.ref 129), en P "Web" 433 (.ref 195), en P "_law_cell_at" 443 (.ref 206), en P "_law_digit" 454 (.ref 213), en P "_law_web" 460 (.ref 218), en P "_law_bad" 466 (.ref 223), en P "_law_refused" 476 (.ref 230), en P "law" 482 (.ref 235)] 30) #[])
def o211 (P : Params) : Obj := (Obj.mk .none (Option.none) (Data.fields #[(.int (1 : Int) 0), (.int (0 : Int) 0), (.ref 20), (.int (5 : Int) 0), (.int (0 : Int) 0), (.ref 27), (.int (7 : Int) 0), (.int (0 : Int) 0), (.ref 40), (.int (9 : Int) 0), (.int (0 : Int) 0), (.ref 52), (.int (11 : Int) 0), (.int (0 : Int) 0), (.ref 64), (.int (13 : Int) 0), (.int (0 : Int) 0), (.ref 76), (.int (15 : Int) 0), (.int (0 : Int) 0), (.ref 88), (.int (18 : Int) 0), (.int (0 : Int) 0), (.ref 100), (.int (23 : Int) 0), (.int (0 : Int) 0), (.ref 107), (.int (32 : Int) 0), (.int (0 : Int) 0), (.ref 114), (.int (38 : Int) 0), (.int (0 : Int) 0), (.ref 121), (.int (47 : Int) 0), (.int (0 : Int) 0), (.ref 128), (.int (55 : Int) 0), (.int (0 : Int) 0), (.ref 135), (.int (87 : Int) 0), (.int (0 : Int) 0), (.ref 205), (.int (91 : Int) 0), (.int (0 : Int) 0), (.ref 212), (.int (104 : Int) 0), (.int (0 : Int) 0), (.ref 217), (.int (121 : Int) 0), (.int (0 : Int) 0), (.ref 222), (.int (138 : Int) 0), (.int (0 : Int) 0), (.ref 229), (.int (146 : Int) 0), (.int (0 : Int) 0), (.ref 234)]) #[])
def o212 (P : Params) : Obj := (Obj.mk (.type "tuple") (Option.none) (Data.seq #[] 0) #[])
def o213 (P : Params) : Obj := (Obj.mk .none (Option.none) (Data.fields #[]) #[])
def o214 (P : Params) : Obj := (Obj.mk (.type "tuple") (Option.none) (Data.seq #[(.str "_law_script" 439), (.str "_law_k" 440)] 0) #[])
def o215 (P : Params) : Obj := (Obj.mk (.type "tuple") (Option.none) (Data.seq #[] 0) #[])
def o216 (P : Params) : Obj := (Obj.mk .none (Option.none) (Data.func (fd "_law_cell_at" "_law_cell_at" (S 19) 0 [] .none .none .none .none (Option.none) .none .none 0)) #[])
def o217 (P : Params) : Obj := (Obj.mk (.type "code") (Option.none) (Data.fields #[(.str "_law_cell_at" 436), (.str "_law_cell_at" 437), (.str "/claim/cut.py" 438), (.int (87 : Int) 0), (.int (2 : Int) 0), (.int (0 : Int) 0), (.int (0 : Int) 0), (.int (3 : Int) 0), (.ref 200), (.bool Bool.true), (.int (181 : Int) 0), (.ref 201), .none, (.ref 202), (.ref 203), (.ref 204), (.int (441 : Int) 0), (.int (87 : Int) 0), (.str "/claim/cut.py" 442)]) #[])
def o218 (P : Params) : Obj := (Obj.mk (.type "function") (Option.none) (Data.func (fd "_law_cell_at" "_law_cell_at" (S 19) 3 [] .none .none .none (.str "law_beatless_k02_webs_refused" 434) (Option.none) (.ref 205) .none 0)) #[])
def o219 (P : Params) : Obj := (Obj.mk (.type "tuple") (Option.none) (Data.seq #[] 0) #[])
def o220 (P : Params) : Obj := (Obj.mk .none (Option.none) (Data.fields #[]) #[])
def o221 (P : Params) : Obj := (Obj.mk (.type "tuple") (Option.none) (Data.seq #[(.str "_law_state" 447), (.str "_law_base" 448), (.str "_law_cell" 449), (.str "_law_found" 450), (.str "_law_number" 451)] 0) #[])
def o222 (P : Params) : Obj := (Obj.mk (.type "tuple") (Option.none) (Data.seq #[] 0) #[])
def o223 (P : Params) : Obj := (Obj.mk .none (Option.none) (Data.func (fd "_law_digit" "_law_digit" (S 20) 0 [] .none .none .none .none (Option.none) .none .none 0)) #[])
def o224 (P : Params) : Obj := (Obj.mk (.type "code") (Option.none) (Data.fields #[(.str "_law_digit" 444), (.str "_law_digit" 445), (.str "/claim/cut.py" 446), (.int (91 : Int) 0), (.int (2 : Int) 0), (.int (0 : Int) 0), (.int (0 : Int) 0), (.int (3 : Int) 0), (.ref 207), (.bool Bool.true), (.int (181 : Int) 0), (.ref 208), .none, (.ref 209), (.ref 210), (.ref 211), (.int (452 : Int) 0), (.int (91 : Int) 0), (.str "/claim/cut.py" 453)]) #[])
def o225 (P : Params) : Obj := (Obj.mk (.type "function") (Option.none) (Data.func (fd "_law_digit" "_law_digit" (S 20) 3 [] .none .none .none (.str "law_beatless_k02_webs_refused" 434) (Option.none) (.ref 212) .none 0)) #[])
def o226 (P : Params) : Obj := (Obj.mk (.type "tuple") (Option.none) (Data.seq #[] 0) #[])
def o227 (P : Params) : Obj := (Obj.mk .none (Option.none) (Data.fields #[]) #[])
def o228 (P : Params) : Obj := (Obj.mk .none (Option.none) (Data.func (fd "_law_web" "_law_web" (S 21) 0 [] .none .none .none .none (Option.none) .none .none 0)) #[])
def o229 (P : Params) : Obj := (Obj.mk (.type "code") (Option.none) (Data.fields #[(.str "_law_web" 455), (.str "_law_web" 456), (.str "/claim/cut.py" 457), (.int (104 : Int) 0), (.int (1 : Int) 0), (.int (0 : Int) 0), (.int (0 : Int) 0), (.int (3 : Int) 0), (.ref 214), (.bool Bool.true), (.int (181 : Int) 0), (.ref 215), .none, .none, .none, (.ref 216), (.int (458 : Int) 0), (.int (104 : Int) 0), (.str "/claim/cut.py" 459)]) #[])
def o230 (P : Params) : Obj := (Obj.mk (.type "function") (Option.none) (Data.func (fd "_law_web" "_law_web" (S 21) 3 [] .none .none .none (.str "law_beatless_k02_webs_refused" 434) (Option.none) (.ref 217) .none 0)) #[])
def o231 (P : Params) : Obj := (Obj.mk (.type "tuple") (Option.none) (Data.seq #[] 0) #[])
def o232 (P : Params) : Obj := (Obj.mk .none (Option.none) (Data.fields #[]) #[])
def o233 (P : Params) : Obj := (Obj.mk .none (Option.none) (Data.func (fd "_law_bad" "_law_bad" (S 22) 0 [] .none .none .none .none (Option.none) .none .none 0)) #[])
def o234 (P : Params) : Obj := (Obj.mk (.type "code") (Option.none) (Data.fields #[(.str "_law_bad" 461), (.str "_law_bad" 462), (.str "/claim/cut.py" 463), (.int (121 : Int) 0), (.int (3 : Int) 0), (.int (0 : Int) 0), (.int (0 : Int) 0), (.int (3 : Int) 0), (.ref 219), (.bool Bool.true), (.int (181 : Int) 0), (.ref 220), .none, .none, .none, (.ref 221), (.int (464 : Int) 0), (.int (121 : Int) 0), (.str "/claim/cut.py" 465)]) #[])
def o235 (P : Params) : Obj := (Obj.mk (.type "function") (Option.none) (Data.func (fd "_law_bad" "_law_bad" (S 22) 3 [] .none .none .none (.str "law_beatless_k02_webs_refused" 434) (Option.none) (.ref 222) .none 0)) #[])
def o236 (P : Params) : Obj := (Obj.mk (.type "tuple") (Option.none) (Data.seq #[] 0) #[])
def o237 (P : Params) : Obj := (Obj.mk .none (Option.none) (Data.fields #[]) #[])
def o238 (P : Params) : Obj := (Obj.mk (.type "tuple") (Option.none) (Data.seq #[(.str "_law_hands" 470), (.str "_law_lines" 471), (.str "_law_others" 472), (.str "e" 473)] 0) #[])
def o239 (P : Params) : Obj := (Obj.mk (.type "tuple") (Option.none) (Data.seq #[] 0) #[])
def o240 (P : Params) : Obj := (Obj.mk .none (Option.none) (Data.func (fd "_law_refused" "_law_refused" (S 23) 0 [] .none .none .none .none (Option.none) .none .none 0)) #[])
def o241 (P : Params) : Obj := (Obj.mk (.type "code") (Option.none) (Data.fields #[(.str "_law_refused" 467), (.str "_law_refused" 468), (.str "/claim/cut.py" 469), (.int (138 : Int) 0), (.int (2 : Int) 0), (.int (0 : Int) 0), (.int (0 : Int) 0), (.int (3 : Int) 0), (.ref 224), (.bool Bool.true), (.int (181 : Int) 0), (.ref 225), .none, (.ref 226), (.ref 227), (.ref 228), (.int (474 : Int) 0), (.int (138 : Int) 0), (.str "/claim/cut.py" 475)]) #[])
def o242 (P : Params) : Obj := (Obj.mk (.type "function") (Option.none) (Data.func (fd "_law_refused" "_law_refused" (S 23) 3 [] .none .none .none (.str "law_beatless_k02_webs_refused" 434) (Option.none) (.ref 229) .none 0)) #[])
def o243 (P : Params) : Obj := (Obj.mk (.type "tuple") (Option.none) (Data.seq #[] 0) #[])
def o244 (P : Params) : Obj := (Obj.mk .none (Option.none) (Data.fields #[]) #[])
def o245 (P : Params) : Obj := (Obj.mk .none (Option.none) (Data.func (fd "law" "law" (S 24) 0 [] .none .none .none .none (Option.none) .none .none 0)) #[])
def o246 (P : Params) : Obj := (Obj.mk (.type "code") (Option.none) (Data.fields #[(.str "law" 477), (.str "law" 478), (.str "/claim/cut.py" 479), (.int (146 : Int) 0), (.int (1 : Int) 0), (.int (0 : Int) 0), (.int (0 : Int) 0), (.int (3 : Int) 0), (.ref 231), (.bool Bool.true), (.int (181 : Int) 0), (.ref 232), .none, .none, .none, (.ref 233), (.int (480 : Int) 0), (.int (146 : Int) 0), (.str "/claim/cut.py" 481)]) #[])
def o247 (P : Params) : Obj := (Obj.mk (.type "function") (Option.none) (Data.func (fd "law" "law" (S 24) 3 [] .none .none .none (.str "law_beatless_k02_webs_refused" 434) (Option.none) (.ref 234) .none 0)) #[])
def t568 (P : Params) : BT := .node (o235 P) .nil .nil
def t569 (P : Params) : BT := .node (o101 P) (t373 P) (t568 P)
def t570 (P : Params) : BT := .node (o88 P) (t372 P) (t569 P)
def t571 (P : Params) : BT := .node (o219 P) .nil .nil
def t572 (P : Params) : BT := .node (o82 P) (t376 P) (t571 P)
def t573 (P : Params) : BT := .node (o44 P) (t572 P) (t379 P)
def t574 (P : Params) : BT := .node (o6 P) (t570 P) (t573 P)
def t575 (P : Params) : BT := .node (o243 P) .nil .nil
def t576 (P : Params) : BT := .node (o109 P) (t385 P) (t575 P)
def t577 (P : Params) : BT := .node (o33 P) (t384 P) (t576 P)
def t578 (P : Params) : BT := .node (o227 P) .nil .nil
def t579 (P : Params) : BT := .node (o93 P) (t388 P) (t578 P)
def t580 (P : Params) : BT := .node (o52 P) (t579 P) (t391 P)
def t581 (P : Params) : BT := .node (o14 P) (t577 P) (t580 P)
def t582 (P : Params) : BT := .node (boot_o_7 P) (t574 P) (t581 P)
def t583 (P : Params) : BT := .node (o239 P) .nil .nil
def t584 (P : Params) : BT := .node (o105 P) (t398 P) (t583 P)
def t585 (P : Params) : BT := .node (o29 P) (t397 P) (t584 P)
def t586 (P : Params) : BT := .node (o223 P) .nil .nil
def t587 (P : Params) : BT := .node (o89 P) (t401 P) (t586 P)
def t588 (P : Params) : BT := .node (o48 P) (t587 P) (t404 P)
def t589 (P : Params) : BT := .node (o10 P) (t585 P) (t588 P)
def t590 (P : Params) : BT := .node (o215 P) .nil .nil
def t591 (P : Params) : BT := .node (o78 P) (t407 P) (t590 P)
def t592 (P : Params) : BT := .node (o247 P) .nil .nil
def t593 (P : Params) : BT := .node (o113 P) (t409 P) (t592 P)
def t594 (P : Params) : BT := .node (o37 P) (t591 P) (t593 P)
def t595 (P : Params) : BT := .node (o231 P) .nil .nil
def t596 (P : Params) : BT := .node (o97 P) (t412 P) (t595 P)
def t597 (P : Params) : BT := .node (o59 P) (t596 P) (t415 P)
def t598 (P : Params) : BT := .node (o18 P) (t594 P) (t597 P)
def t599 (P : Params) : BT := .node (o0 P) (t589 P) (t598 P)
def t600 (P : Params) : BT := .node (o210 P) (t582 P) (t599 P)
def t601 (P : Params) : BT := .node (o237 P) .nil .nil
def t602 (P : Params) : BT := .node (o103 P) (t422 P) (t601 P)
def t603 (P : Params) : BT := .node (o24 P) (t421 P) (t602 P)
def t604 (P : Params) : BT := .node (o221 P) .nil .nil
def t605 (P : Params) : BT := .node (o84 P) (t425 P) (t604 P)
def t606 (P : Params) : BT := .node (o46 P) (t605 P) (t428 P)
def t607 (P : Params) : BT := .node (o8 P) (t603 P) (t606 P)
def t608 (P : Params) : BT := .node (o213 P) .nil .nil
def t609 (P : Params) : BT := .node (o76 P) (t431 P) (t608 P)
def t610 (P : Params) : BT := .node (o245 P) .nil .nil
def t611 (P : Params) : BT := .node (o111 P) (t433 P) (t610 P)
def t612 (P : Params) : BT := .node (o35 P) (t609 P) (t611 P)
def t613 (P : Params) : BT := .node (o229 P) .nil .nil
def t614 (P : Params) : BT := .node (o95 P) (t436 P) (t613 P)
def t615 (P : Params) : BT := .node (o54 P) (t614 P) (t439 P)
def t616 (P : Params) : BT := .node (o16 P) (t612 P) (t615 P)
def t617 (P : Params) : BT := .node (boot_o_9 P) (t607 P) (t616 P)
def t618 (P : Params) : BT := .node (o241 P) .nil .nil
def t619 (P : Params) : BT := .node (o107 P) (t446 P) (t618 P)
def t620 (P : Params) : BT := .node (o31 P) (t445 P) (t619 P)
def t621 (P : Params) : BT := .node (o225 P) .nil .nil
def t622 (P : Params) : BT := .node (o91 P) (t449 P) (t621 P)
def t623 (P : Params) : BT := .node (o50 P) (t622 P) (t452 P)
def t624 (P : Params) : BT := .node (o12 P) (t620 P) (t623 P)
def t625 (P : Params) : BT := .node (o217 P) .nil .nil
def t626 (P : Params) : BT := .node (o80 P) (t455 P) (t625 P)
def t627 (P : Params) : BT := .node (o39 P) (t626 P) (t458 P)
def t628 (P : Params) : BT := .node (o233 P) .nil .nil
def t629 (P : Params) : BT := .node (o99 P) (t460 P) (t628 P)
def t630 (P : Params) : BT := .node (o61 P) (t629 P) (t463 P)
def t631 (P : Params) : BT := .node (o20 P) (t627 P) (t630 P)
def t632 (P : Params) : BT := .node (o2 P) (t624 P) (t631 P)
def t633 (P : Params) : BT := .node (boot_o_5 P) (t617 P) (t632 P)
def t634 (P : Params) : BT := .node (boot_o_1 P) (t600 P) (t633 P)
def t635 (P : Params) : BT := .node (o236 P) .nil .nil
def t636 (P : Params) : BT := .node (o102 P) (t471 P) (t635 P)
def t637 (P : Params) : BT := .node (o23 P) (t470 P) (t636 P)
def t638 (P : Params) : BT := .node (o220 P) .nil .nil
def t639 (P : Params) : BT := .node (o83 P) (t474 P) (t638 P)
def t640 (P : Params) : BT := .node (o45 P) (t639 P) (t477 P)
def t641 (P : Params) : BT := .node (o7 P) (t637 P) (t640 P)
def t642 (P : Params) : BT := .node (o212 P) .nil .nil
def t643 (P : Params) : BT := .node (o75 P) (t480 P) (t642 P)
def t644 (P : Params) : BT := .node (o244 P) .nil .nil
def t645 (P : Params) : BT := .node (o110 P) (t482 P) (t644 P)
def t646 (P : Params) : BT := .node (o34 P) (t643 P) (t645 P)
def t647 (P : Params) : BT := .node (o228 P) .nil .nil
def t648 (P : Params) : BT := .node (o94 P) (t485 P) (t647 P)
def t649 (P : Params) : BT := .node (o53 P) (t648 P) (t488 P)
def t650 (P : Params) : BT := .node (o15 P) (t646 P) (t649 P)
def t651 (P : Params) : BT := .node (boot_o_8 P) (t641 P) (t650 P)
def t652 (P : Params) : BT := .node (o240 P) .nil .nil
def t653 (P : Params) : BT := .node (o106 P) (t495 P) (t652 P)
def t654 (P : Params) : BT := .node (o30 P) (t494 P) (t653 P)
def t655 (P : Params) : BT := .node (o224 P) .nil .nil
def t656 (P : Params) : BT := .node (o90 P) (t498 P) (t655 P)
def t657 (P : Params) : BT := .node (o49 P) (t656 P) (t501 P)
def t658 (P : Params) : BT := .node (o11 P) (t654 P) (t657 P)
def t659 (P : Params) : BT := .node (o216 P) .nil .nil
def t660 (P : Params) : BT := .node (o79 P) (t504 P) (t659 P)
def t661 (P : Params) : BT := .node (o38 P) (t660 P) (t507 P)
def t662 (P : Params) : BT := .node (o232 P) .nil .nil
def t663 (P : Params) : BT := .node (o98 P) (t509 P) (t662 P)
def t664 (P : Params) : BT := .node (o60 P) (t663 P) (t512 P)
def t665 (P : Params) : BT := .node (o19 P) (t661 P) (t664 P)
def t666 (P : Params) : BT := .node (o211 P) (t658 P) (t665 P)
def t667 (P : Params) : BT := .node (boot_o_4 P) (t651 P) (t666 P)
def t668 (P : Params) : BT := .node (o238 P) .nil .nil
def t669 (P : Params) : BT := .node (o104 P) (t520 P) (t668 P)
def t670 (P : Params) : BT := .node (o25 P) (t519 P) (t669 P)
def t671 (P : Params) : BT := .node (o222 P) .nil .nil
def t672 (P : Params) : BT := .node (o85 P) (t523 P) (t671 P)
def t673 (P : Params) : BT := .node (o47 P) (t672 P) (t526 P)
def t674 (P : Params) : BT := .node (o9 P) (t670 P) (t673 P)
def t675 (P : Params) : BT := .node (o214 P) .nil .nil
def t676 (P : Params) : BT := .node (o77 P) (t529 P) (t675 P)
def t677 (P : Params) : BT := .node (o246 P) .nil .nil
def t678 (P : Params) : BT := .node (o112 P) (t531 P) (t677 P)
def t679 (P : Params) : BT := .node (o36 P) (t676 P) (t678 P)
def t680 (P : Params) : BT := .node (o230 P) .nil .nil
def t681 (P : Params) : BT := .node (o96 P) (t534 P) (t680 P)
def t682 (P : Params) : BT := .node (o55 P) (t681 P) (t537 P)
def t683 (P : Params) : BT := .node (o17 P) (t679 P) (t682 P)
def t684 (P : Params) : BT := .node (boot_o_10 P) (t674 P) (t683 P)
def t685 (P : Params) : BT := .node (o242 P) .nil .nil
def t686 (P : Params) : BT := .node (o108 P) (t544 P) (t685 P)
def t687 (P : Params) : BT := .node (o32 P) (t543 P) (t686 P)
def t688 (P : Params) : BT := .node (o226 P) .nil .nil
def t689 (P : Params) : BT := .node (o92 P) (t547 P) (t688 P)
def t690 (P : Params) : BT := .node (o51 P) (t689 P) (t550 P)
def t691 (P : Params) : BT := .node (o13 P) (t687 P) (t690 P)
def t692 (P : Params) : BT := .node (o218 P) .nil .nil
def t693 (P : Params) : BT := .node (o81 P) (t553 P) (t692 P)
def t694 (P : Params) : BT := .node (o40 P) (t693 P) (t556 P)
def t695 (P : Params) : BT := .node (o234 P) .nil .nil
def t696 (P : Params) : BT := .node (o100 P) (t558 P) (t695 P)
def t697 (P : Params) : BT := .node (o62 P) (t696 P) (t561 P)
def t698 (P : Params) : BT := .node (o21 P) (t694 P) (t697 P)
def t699 (P : Params) : BT := .node (o3 P) (t691 P) (t698 P)
def t700 (P : Params) : BT := .node (boot_o_6 P) (t684 P) (t699 P)
def t701 (P : Params) : BT := .node (boot_o_2 P) (t667 P) (t700 P)
def t702 (P : Params) : BT := .node (boot_o_0 P) (t634 P) (t701 P)
def sb9 (w : World) (os : OsState) : SharedT := ⟨(t702 w.params), 236, (Life.mk [] [] [] 0 [] [] Bool.false #[] [] 0 Bool.false Bool.false Bool.false (0 : Int) [(2000 : Int), (10 : Int), (10 : Int)] Bool.false 0 Bool.true [] [] 0 Bool.false), ⟨[]⟩, (Drawn.mk 0 0 0 0), 483, os⟩
def L8 (w : World) (os : OsState) : Option (Flow × SharedT × Code × Pos) := segRunT treeTable PySem.Challenge.pw_beatless_k02_webs_refused w 11 an 1 183 (sb8 w os) (piecesOf sts8 env cE (Pos.mk 55 0 85 16) B)
def R8 (w : World) (os : OsState) : Option (Flow × SharedT × Code × Pos) := some (.next, sb9 w os, cE, (Pos.mk 146 0 158 83))
theorem q8 : tt (Hd.L8, Hd.R8) = true := by k_qdec
theorem r8 : ∀ w, PySem.W.Fast.tw7116466485190837356 w = PySem.W.Fast.tw7334724712773792873 w := fun w => by kernel_rfl
theorem e8 (w : World) (os : OsState) : Hd.L8 w os = Hd.R8 w os :=
  (congrFun (congrFun PySem.W.Fast.te7116466485190837356 w) os).trans ((congrFun (r8 w) os).trans (congrFun (congrFun PySem.W.Fast.te7334724712773792873 w) os).symm)
def h19 (P : Params) : List Obj := o240 P :: o241 P :: o242 P :: o243 P :: o244 P :: o245 P :: o246 P :: o247 P :: []
def h18 (P : Params) : List Obj := o228 P :: o229 P :: o230 P :: o231 P :: o232 P :: o233 P :: o234 P :: o235 P :: o236 P :: o237 P :: o238 P :: o239 P :: h19 P
def h17 (P : Params) : List Obj := o216 P :: o217 P :: o218 P :: o219 P :: o220 P :: o221 P :: o222 P :: o223 P :: o224 P :: o225 P :: o226 P :: o227 P :: h18 P
def h16 (P : Params) : List Obj := o202 P :: o203 P :: o204 P :: o205 P :: o206 P :: o207 P :: o208 P :: o209 P :: o212 P :: o213 P :: o214 P :: o215 P :: h17 P
def h15 (P : Params) : List Obj := o190 P :: o191 P :: o192 P :: o193 P :: o194 P :: o195 P :: o196 P :: o197 P :: o198 P :: o199 P :: o200 P :: o201 P :: h16 P
def h14 (P : Params) : List Obj := o178 P :: o179 P :: o180 P :: o181 P :: o182 P :: o183 P :: o184 P :: o185 P :: o186 P :: o187 P :: o188 P :: o189 P :: h15 P
def h13 (P : Params) : List Obj := o166 P :: o167 P :: o168 P :: o169 P :: o170 P :: o171 P :: o172 P :: o173 P :: o174 P :: o175 P :: o176 P :: o177 P :: h14 P
def h12 (P : Params) : List Obj := o154 P :: o155 P :: o156 P :: o157 P :: o158 P :: o159 P :: o160 P :: o161 P :: o162 P :: o163 P :: o164 P :: o165 P :: h13 P
def h11 (P : Params) : List Obj := o142 P :: o143 P :: o144 P :: o145 P :: o146 P :: o147 P :: o148 P :: o149 P :: o150 P :: o151 P :: o152 P :: o153 P :: h12 P
def h10 (P : Params) : List Obj := o126 P :: o127 P :: o128 P :: o131 P :: o132 P :: o133 P :: o134 P :: o135 P :: o136 P :: o137 P :: o140 P :: o141 P :: h11 P
def h9 (P : Params) : List Obj := o114 P :: o115 P :: o116 P :: o117 P :: o118 P :: o119 P :: o120 P :: o121 P :: o122 P :: o123 P :: o124 P :: o125 P :: h10 P
def h8 (P : Params) : List Obj := o102 P :: o103 P :: o104 P :: o105 P :: o106 P :: o107 P :: o108 P :: o109 P :: o110 P :: o111 P :: o112 P :: o113 P :: h9 P
def h7 (P : Params) : List Obj := o90 P :: o91 P :: o92 P :: o93 P :: o94 P :: o95 P :: o96 P :: o97 P :: o98 P :: o99 P :: o100 P :: o101 P :: h8 P
def h6 (P : Params) : List Obj := o75 P :: o76 P :: o77 P :: o78 P :: o79 P :: o80 P :: o81 P :: o82 P :: o83 P :: o84 P :: o85 P :: o89 P :: h7 P
def h5 (P : Params) : List Obj := o60 P :: o61 P :: o62 P :: o63 P :: o64 P :: o65 P :: o66 P :: o67 P :: o68 P :: o69 P :: o70 P :: o74 P :: h6 P
def h4 (P : Params) : List Obj := o45 P :: o46 P :: o47 P :: o48 P :: o49 P :: o50 P :: o51 P :: o52 P :: o53 P :: o54 P :: o55 P :: o59 P :: h5 P
def h3 (P : Params) : List Obj := o30 P :: o31 P :: o32 P :: o33 P :: o34 P :: o35 P :: o36 P :: o37 P :: o38 P :: o39 P :: o40 P :: o44 P :: h4 P
def h2 (P : Params) : List Obj := o15 P :: o16 P :: o17 P :: o18 P :: o19 P :: o20 P :: o21 P :: o88 P :: o23 P :: o24 P :: o25 P :: o29 P :: h3 P
def h1 (P : Params) : List Obj := o211 P :: o2 P :: o3 P :: o6 P :: o7 P :: o8 P :: o9 P :: o10 P :: o11 P :: o12 P :: o13 P :: o14 P :: h2 P
def h0 (P : Params) : List Obj := boot_o_0 P :: boot_o_1 P :: boot_o_2 P :: o210 P :: boot_o_4 P :: boot_o_5 P :: boot_o_6 P :: boot_o_7 P :: boot_o_8 P :: boot_o_9 P :: boot_o_10 P :: o0 P :: h1 P
def H1 (P : Params) : Heap := ⟨⟨h0 P⟩, (Life.mk [] [] [] 0 [] [] Bool.false #[] [] 0 Bool.false Bool.false Bool.false (0 : Int) [(2000 : Int), (10 : Int), (10 : Int)] Bool.false 0 Bool.true [] [] 0 Bool.false)⟩
def sf (w : World) (os : OsState) : Shared := ⟨H1 w.params, ⟨[]⟩, (Drawn.mk 0 0 0 0), 483, os⟩
def Lf (w : World) (os : OsState) : Option Shared := topRun treeTable PySem.Challenge.pw_beatless_k02_webs_refused w 11 an 2 (sb9 w os).abs ⟨doneF .next, cE, (Pos.mk 146 0 158 83), B⟩
def Rf (w : World) (os : OsState) : Option Shared := some (sf w os)
theorem qf : tt (Hd.Lf, Hd.Rf) = true := by k_qdec
theorem rf : ∀ w, PySem.W.Fast.tw2640074843757178226 w = PySem.W.Fast.tw15533242664859900563 w := fun w => by kernel_rfl
theorem ef (w : World) (os : OsState) : Hd.Lf w os = Hd.Rf w os :=
  (congrFun (congrFun PySem.W.Fast.te2640074843757178226 w) os).trans ((congrFun (rf w) os).trans (congrFun (congrFun PySem.W.Fast.te15533242664859900563 w) os).symm)
theorem cut : bE = sts0 ++ (sts1 ++ (sts2 ++ (sts3 ++ (sts4 ++ (sts5 ++ (sts6 ++ (sts7 ++ (sts8 ++ ([]))))))))) := by kernel_rfl
theorem run (w : World) (os : OsState) : topRun treeTable PySem.Challenge.pw_beatless_k02_webs_refused w 11 an (12 + (1 + (225 + (214 + (214 + (214 + (214 + (372 + (35 + (448 + (183 + 2))))))))))) (s0 w os) (topStub PySem.Challenge.pw_beatless_k02_webs_refused) = some (sf w os) := by
  refine go_top (ea w os) (piece_block (q := qE) (env := env) (b := bE) (segRun_of (eb w os)) ?_)
  rw [show restOf bE env cE (Pos.mk 0 0 0 0) [topFrame qE] = restOf _ env cE _ [topFrame qE] from congrArg (fun l => restOf l env cE (Pos.mk 0 0 0 0) [topFrame qE]) cut]
  refine piece_app (segRun_of (e0 w os)) ?_
  refine piece_app (segRun_of (e1 w os)) ?_
  refine piece_app (segRun_of (e2 w os)) ?_
  refine piece_app (segRun_of (e3 w os)) ?_
  refine piece_app (segRun_of (e4 w os)) ?_
  refine piece_app (segRun_of (e5 w os)) ?_
  refine piece_app (segRun_of (e6 w os)) ?_
  refine piece_app (segRun_of (e7 w os)) ?_
  refine piece_app (segRun_of (e8 w os)) ?_
  exact ef w os
def M : Nat := 12 + (1 + (225 + (214 + (214 + (214 + (214 + (372 + (35 + (448 + (183 + 2))))))))))
abbrev rW : RowW := (PySem.Challenge.rw_beatless_k02_webs_refused.row).toRowW
def Q : Program := { PySem.Challenge.pw_beatless_k02_webs_refused with main := { PySem.Challenge.pw_beatless_k02_webs_refused.main with body := [S 0, S 2, S 3, S 4, S 5, S 6, S 7, S 9, S 11, S 12, S 13, S 14, S 15, S 16, S 17, S 19, S 20, S 21, S 22, S 23, S 24] } }
def Xt (s : Shared) : Bool := xlAt Q [] s && recOk (RowW.records rW) s
def K (P : Params) : Frag := (nat_lit 2, boot_o_2 P) :: (nat_lit 3, o210 P) :: (nat_lit 15, o6 P) :: (nat_lit 17, o8 P) :: (nat_lit 18, o9 P) :: (nat_lit 20, o11 P) :: (nat_lit 21, o12 P) :: (nat_lit 22, o13 P) :: (nat_lit 29, o20 P) :: (nat_lit 30, o21 P) :: (nat_lit 31, o88 P) :: (nat_lit 32, o23 P) :: (nat_lit 35, o29 P) :: (nat_lit 42, o36 P) :: (nat_lit 43, o37 P) :: (nat_lit 44, o38 P) :: (nat_lit 47, o44 P) :: (nat_lit 54, o51 P) :: (nat_lit 55, o52 P) :: (nat_lit 56, o53 P) :: (nat_lit 59, o59 P) :: (nat_lit 66, o66 P) :: (nat_lit 67, o67 P) :: (nat_lit 68, o68 P) :: (nat_lit 71, o74 P) :: (nat_lit 78, o81 P) :: (nat_lit 79, o82 P) :: (nat_lit 80, o83 P) :: (nat_lit 83, o89 P) :: (nat_lit 90, o96 P) :: (nat_lit 91, o97 P) :: (nat_lit 92, o98 P) :: (nat_lit 95, o101 P) :: (nat_lit 97, o103 P) :: (nat_lit 98, o104 P) :: (nat_lit 100, o106 P) :: (nat_lit 101, o107 P) :: (nat_lit 102, o108 P) :: (nat_lit 104, o110 P) :: (nat_lit 105, o111 P) :: (nat_lit 107, o113 P) :: (nat_lit 108, o114 P) :: (nat_lit 109, o115 P) :: (nat_lit 111, o117 P) :: (nat_lit 112, o118 P) :: (nat_lit 114, o120 P) :: (nat_lit 115, o121 P) :: (nat_lit 116, o122 P) :: (nat_lit 118, o124 P) :: (nat_lit 119, o125 P) :: (nat_lit 121, o127 P) :: (nat_lit 122, o128 P) :: (nat_lit 123, o131 P) :: (nat_lit 125, o133 P) :: (nat_lit 126, o134 P) :: (nat_lit 128, o136 P) :: (nat_lit 129, o137 P) :: (nat_lit 137, o147 P) :: (nat_lit 139, o149 P) :: (nat_lit 140, o150 P) :: (nat_lit 142, o152 P) :: (nat_lit 143, o153 P) :: (nat_lit 144, o154 P) :: (nat_lit 146, o156 P) :: (nat_lit 147, o157 P) :: (nat_lit 149, o159 P) :: (nat_lit 150, o160 P) :: (nat_lit 151, o161 P) :: (nat_lit 153, o163 P) :: (nat_lit 154, o164 P) :: (nat_lit 156, o166 P) :: (nat_lit 157, o167 P) :: (nat_lit 158, o168 P) :: (nat_lit 160, o170 P) :: (nat_lit 161, o171 P) :: (nat_lit 163, o173 P) :: (nat_lit 164, o174 P) :: (nat_lit 165, o175 P) :: (nat_lit 167, o177 P) :: (nat_lit 168, o178 P) :: (nat_lit 170, o180 P) :: (nat_lit 171, o181 P) :: (nat_lit 172, o182 P) :: (nat_lit 174, o184 P) :: (nat_lit 175, o185 P) :: (nat_lit 177, o187 P) :: (nat_lit 178, o188 P) :: (nat_lit 179, o189 P) :: (nat_lit 181, o191 P) :: (nat_lit 182, o192 P) :: (nat_lit 184, o194 P) :: (nat_lit 185, o195 P) :: (nat_lit 186, o196 P) :: (nat_lit 188, o198 P) :: (nat_lit 189, o199 P) :: (nat_lit 191, o201 P) :: (nat_lit 192, o202 P) :: (nat_lit 193, o203 P) :: (nat_lit 194, o204 P) :: (nat_lit 195, o205 P) :: (nat_lit 196, o206 P) :: (nat_lit 197, o207 P) :: (nat_lit 200, o212 P) :: (nat_lit 202, o214 P) :: (nat_lit 203, o215 P) :: (nat_lit 205, o217 P) :: (nat_lit 206, o218 P) :: (nat_lit 207, o219 P) :: (nat_lit 209, o221 P) :: (nat_lit 210, o222 P) :: (nat_lit 212, o224 P) :: (nat_lit 213, o225 P) :: (nat_lit 214, o226 P) :: (nat_lit 217, o229 P) :: (nat_lit 218, o230 P) :: (nat_lit 219, o231 P) :: (nat_lit 222, o234 P) :: (nat_lit 223, o235 P) :: (nat_lit 224, o236 P) :: (nat_lit 226, o238 P) :: (nat_lit 227, o239 P) :: (nat_lit 229, o241 P) :: (nat_lit 230, o242 P) :: (nat_lit 231, o243 P) :: (nat_lit 234, o246 P) :: (nat_lit 235, o247 P) :: []
def as : List Addr := [2, 3, 15, 17, 18, 20, 21, 22, 29, 30, 31, 32, 35, 42, 43, 44, 47, 54, 55, 56, 59, 66, 67, 68, 71, 78, 79, 80, 83, 90, 91, 92, 95, 97, 98, 100, 101, 102, 104, 105, 107, 108, 109, 111, 112, 114, 115, 116, 118, 119, 121, 122, 123, 125, 126, 128, 129, 137, 139, 140, 142, 143, 144, 146, 147, 149, 150, 151, 153, 154, 156, 157, 158, 160, 161, 163, 164, 165, 167, 168, 170, 171, 172, 174, 175, 177, 178, 179, 181, 182, 184, 185, 186, 188, 189, 191, 192, 193, 194, 195, 196, 197, 200, 202, 203, 205, 206, 207, 209, 210, 212, 213, 214, 217, 218, 219, 222, 223, 224, 226, 227, 229, 230, 231, 234, 235]
def y10 (P : Params) : List (Option Obj) := some (o239 P) :: some (o241 P) :: some (o242 P) :: some (o243 P) :: some (o246 P) :: some (o247 P) :: []
def y9 (P : Params) : List (Option Obj) := some (o221 P) :: some (o222 P) :: some (o224 P) :: some (o225 P) :: some (o226 P) :: some (o229 P) :: some (o230 P) :: some (o231 P) :: some (o234 P) :: some (o235 P) :: some (o236 P) :: some (o238 P) :: y10 P
def y8 (P : Params) : List (Option Obj) := some (o202 P) :: some (o203 P) :: some (o204 P) :: some (o205 P) :: some (o206 P) :: some (o207 P) :: some (o212 P) :: some (o214 P) :: some (o215 P) :: some (o217 P) :: some (o218 P) :: some (o219 P) :: y9 P
def y7 (P : Params) : List (Option Obj) := some (o185 P) :: some (o187 P) :: some (o188 P) :: some (o189 P) :: some (o191 P) :: some (o192 P) :: some (o194 P) :: some (o195 P) :: some (o196 P) :: some (o198 P) :: some (o199 P) :: some (o201 P) :: y8 P
def y6 (P : Params) : List (Option Obj) := some (o168 P) :: some (o170 P) :: some (o171 P) :: some (o173 P) :: some (o174 P) :: some (o175 P) :: some (o177 P) :: some (o178 P) :: some (o180 P) :: some (o181 P) :: some (o182 P) :: some (o184 P) :: y7 P
def y5 (P : Params) : List (Option Obj) := some (o152 P) :: some (o153 P) :: some (o154 P) :: some (o156 P) :: some (o157 P) :: some (o159 P) :: some (o160 P) :: some (o161 P) :: some (o163 P) :: some (o164 P) :: some (o166 P) :: some (o167 P) :: y6 P
def y4 (P : Params) : List (Option Obj) := some (o124 P) :: some (o125 P) :: some (o127 P) :: some (o128 P) :: some (o131 P) :: some (o133 P) :: some (o134 P) :: some (o136 P) :: some (o137 P) :: some (o147 P) :: some (o149 P) :: some (o150 P) :: y5 P
def y3 (P : Params) : List (Option Obj) := some (o107 P) :: some (o108 P) :: some (o110 P) :: some (o111 P) :: some (o113 P) :: some (o114 P) :: some (o115 P) :: some (o117 P) :: some (o118 P) :: some (o120 P) :: some (o121 P) :: some (o122 P) :: y4 P
def y2 (P : Params) : List (Option Obj) := some (o74 P) :: some (o81 P) :: some (o82 P) :: some (o83 P) :: some (o89 P) :: some (o96 P) :: some (o97 P) :: some (o98 P) :: some (o101 P) :: some (o103 P) :: some (o104 P) :: some (o106 P) :: y3 P
def y1 (P : Params) : List (Option Obj) := some (o29 P) :: some (o36 P) :: some (o37 P) :: some (o38 P) :: some (o44 P) :: some (o51 P) :: some (o52 P) :: some (o53 P) :: some (o59 P) :: some (o66 P) :: some (o67 P) :: some (o68 P) :: y2 P
def y0 (P : Params) : List (Option Obj) := some (boot_o_2 P) :: some (o210 P) :: some (o6 P) :: some (o8 P) :: some (o9 P) :: some (o11 P) :: some (o12 P) :: some (o13 P) :: some (o20 P) :: some (o21 P) :: some (o88 P) :: some (o23 P) :: y1 P
theorem asK (P : Params) : as = (K P).map (·.1) := by kernel_rfl
theorem yK (P : Params) : (K P).map (fun p => some p.2) = y0 P := by kernel_rfl
def Ly (w : World) (os : OsState) : List (Option Obj) := as.map (sf w os).heap.get?
def Ry (w : World) (_ : OsState) : List (Option Obj) := y0 w.params
theorem qy : tt (Hd.Ly, Hd.Ry) = true := by k_qdec
theorem ry : ∀ w, PySem.W.Fast.tw691215026958702249 w = PySem.W.Fast.tw5434166109932796141 w := fun w => by kernel_rfl
theorem ey (w : World) (os : OsState) : Hd.Ly w os = Hd.Ry w os :=
  (congrFun (congrFun PySem.W.Fast.te691215026958702249 w) os).trans ((congrFun (ry w) os).trans (congrFun (congrFun PySem.W.Fast.te5434166109932796141 w) os).symm)
abbrev hk : Hook := kHook K as asK
abbrev mods : List Str := importedModules PySem.Challenge.pw_beatless_k02_webs_refused.main.body
def A (w : World) (os : OsState) := openSeen Q [] mods Xt true (sf w os)
def G (_ : World) (_ : OsState) := openGood Q []
def A0 (w : World) (os : OsState) := (A w os).1
def G0 (w : World) (os : OsState) := (G w os).1
theorem qA0 : tt (Hd.A0, Hd.G0) = true := by k_qdec
theorem rA0 : ∀ w, PySem.W.Fast.tw6131166808449026830 w = PySem.W.Fast.tw11727352099349840545 w := fun w => by kernel_rfl
theorem eA0 (w : World) (os : OsState) : Hd.A0 w os = Hd.G0 w os :=
  (congrFun (congrFun PySem.W.Fast.te6131166808449026830 w) os).trans ((congrFun (rA0 w) os).trans (congrFun (congrFun PySem.W.Fast.te11727352099349840545 w) os).symm)
def A1 (w : World) (os : OsState) := (A w os).2.1
def G1 (w : World) (os : OsState) := (G w os).2.1
theorem qA1 : tt (Hd.A1, Hd.G1) = true := by k_qdec
theorem rA1 : ∀ w, PySem.W.Fast.tw7581016493306269660 w = PySem.W.Fast.tw14656944741971684193 w := fun w => by kernel_rfl
theorem eA1 (w : World) (os : OsState) : Hd.A1 w os = Hd.G1 w os :=
  (congrFun (congrFun PySem.W.Fast.te7581016493306269660 w) os).trans ((congrFun (rA1 w) os).trans (congrFun (congrFun PySem.W.Fast.te14656944741971684193 w) os).symm)
def A2 (w : World) (os : OsState) := (A w os).2.2.1
def G2 (w : World) (os : OsState) := (G w os).2.2.1
theorem qA2 : tt (Hd.A2, Hd.G2) = true := by k_qdec
theorem rA2 : ∀ w, PySem.W.Fast.tw2900191123710467766 w = PySem.W.Fast.tw10880070632800087129 w := fun w => by kernel_rfl
theorem eA2 (w : World) (os : OsState) : Hd.A2 w os = Hd.G2 w os :=
  (congrFun (congrFun PySem.W.Fast.te2900191123710467766 w) os).trans ((congrFun (rA2 w) os).trans (congrFun (congrFun PySem.W.Fast.te10880070632800087129 w) os).symm)
def A3 (w : World) (os : OsState) := (A w os).2.2.2.1
def G3 (w : World) (os : OsState) := (G w os).2.2.2.1
theorem qA3 : tt (Hd.A3, Hd.G3) = true := by k_qdec
theorem rA3 : ∀ w, PySem.W.Fast.tw447134267514248570 w = PySem.W.Fast.tw4145583888436359099 w := fun w => by kernel_rfl
theorem eA3 (w : World) (os : OsState) : Hd.A3 w os = Hd.G3 w os :=
  (congrFun (congrFun PySem.W.Fast.te447134267514248570 w) os).trans ((congrFun (rA3 w) os).trans (congrFun (congrFun PySem.W.Fast.te4145583888436359099 w) os).symm)
def A4 (w : World) (os : OsState) := (A w os).2.2.2.2.1
def G4 (w : World) (os : OsState) := (G w os).2.2.2.2.1
theorem qA4 : tt (Hd.A4, Hd.G4) = true := by k_qdec
theorem rA4 : ∀ w, PySem.W.Fast.tw14409291123802741499 w = PySem.W.Fast.tw6531939937263253831 w := fun w => by kernel_rfl
theorem eA4 (w : World) (os : OsState) : Hd.A4 w os = Hd.G4 w os :=
  (congrFun (congrFun PySem.W.Fast.te14409291123802741499 w) os).trans ((congrFun (rA4 w) os).trans (congrFun (congrFun PySem.W.Fast.te6531939937263253831 w) os).symm)
def A5 (w : World) (os : OsState) := (A w os).2.2.2.2.2.1
def G5 (w : World) (os : OsState) := (G w os).2.2.2.2.2.1
theorem qA5 : tt (Hd.A5, Hd.G5) = true := by k_qdec
theorem rA5 : ∀ w, PySem.W.Fast.tw7163156141784225904 w = PySem.W.Fast.tw5989712690265804088 w := fun w => by kernel_rfl
theorem eA5 (w : World) (os : OsState) : Hd.A5 w os = Hd.G5 w os :=
  (congrFun (congrFun PySem.W.Fast.te7163156141784225904 w) os).trans ((congrFun (rA5 w) os).trans (congrFun (congrFun PySem.W.Fast.te5989712690265804088 w) os).symm)
def A6 (w : World) (os : OsState) := (A w os).2.2.2.2.2.2.1
def G6 (w : World) (os : OsState) := (G w os).2.2.2.2.2.2.1
theorem qA6 : tt (Hd.A6, Hd.G6) = true := by k_qdec
theorem rA6 : ∀ w, PySem.W.Fast.tw148487786646926683 w = PySem.W.Fast.tw12956129408465502666 w := fun w => by kernel_rfl
theorem eA6 (w : World) (os : OsState) : Hd.A6 w os = Hd.G6 w os :=
  (congrFun (congrFun PySem.W.Fast.te148487786646926683 w) os).trans ((congrFun (rA6 w) os).trans (congrFun (congrFun PySem.W.Fast.te12956129408465502666 w) os).symm)
def A7 (w : World) (os : OsState) := (A w os).2.2.2.2.2.2.2.1
def G7 (w : World) (os : OsState) := (G w os).2.2.2.2.2.2.2.1
theorem qA7 : tt (Hd.A7, Hd.G7) = true := by k_qdec
theorem rA7 : ∀ w, PySem.W.Fast.tw17782257788342479682 w = PySem.W.Fast.tw9566738594451217396 w := fun w => by kernel_rfl
theorem eA7 (w : World) (os : OsState) : Hd.A7 w os = Hd.G7 w os :=
  (congrFun (congrFun PySem.W.Fast.te17782257788342479682 w) os).trans ((congrFun (rA7 w) os).trans (congrFun (congrFun PySem.W.Fast.te9566738594451217396 w) os).symm)
def A8 (w : World) (os : OsState) := (A w os).2.2.2.2.2.2.2.2
def G8 (w : World) (os : OsState) := (G w os).2.2.2.2.2.2.2.2
theorem qA8 : tt (Hd.A8, Hd.G8) = true := by k_qdec
theorem rA8 : ∀ w, PySem.W.Fast.tw8885869309975874061 w = PySem.W.Fast.tw17952483438457428275 w := fun w => by kernel_rfl
theorem eA8 (w : World) (os : OsState) : Hd.A8 w os = Hd.G8 w os :=
  (congrFun (congrFun PySem.W.Fast.te8885869309975874061 w) os).trans ((congrFun (rA8 w) os).trans (congrFun (congrFun PySem.W.Fast.te17952483438457428275 w) os).symm)
def Ls (w : World) (os : OsState) : Bool := staticsOk mods (boot_heap w.params) (H1 w.params) && namesBound PySem.Challenge.pw_beatless_k02_webs_refused (H1 w.params) && gensDone (sf w os) && laidKept (boot_heap w.params) (H1 w.params)
def Rs (_ : World) (_ : OsState) : Bool := true
def Lz (w : World) (_ : OsState) := ((boot_heap w.params).isNs mainGlobals && (⟨[]⟩ : Array GenState).size == 0, (boot_heap w.params).objs.size, (boot_heap w.params).nsMap mainGlobals "__annotations__")
def Rz (_ : World) (_ : OsState) : Bool × Nat × Option Value := (true, 11, an)
theorem qs : tt Hd.Ls = true := by k_qdec
theorem rs : ∀ w, PySem.W.Fast.tw4959303863618478765 w = Hd.Rs w := fun w => by kernel_rfl
theorem es (w : World) (os : OsState) : Hd.Ls w os = Hd.Rs w os := (congrFun (congrFun PySem.W.Fast.te4959303863618478765 w) os).trans (congrFun (rs w) os)
theorem qz : tt Hd.Lz = true := by k_qdec
theorem rz : ∀ w, PySem.W.Fast.tw17831390912981975158 w = Hd.Rz w := fun w => by kernel_rfl
theorem ez (w : World) (os : OsState) : Hd.Lz w os = Hd.Rz w os := (congrFun (congrFun PySem.W.Fast.te17831390912981975158 w) os).trans (congrFun (rz w) os)
theorem op : opening PySem.Challenge.pw_beatless_k02_webs_refused = plainProg PySem.Challenge.pw_beatless_k02_webs_refused.main.scope.names := by kernel_rfl
theorem fe (s : Shared) : fenceModules? PySem.Challenge.pw_beatless_k02_webs_refused s = some s := by kernel_rfl
theorem left : LeftO PySem.Challenge.pw_beatless_k02_webs_refused Q [] Xt hk.obs hk.val 4346 :=
  LeftO.of_pieces (M := M) (m₀ := 11) (ann := an) (H₀ := boot_heap) (H₁ := H1) (boot_open op (by kernel_rfl) fe) (fun w => ez w (start PySem.Challenge.pw_beatless_k02_webs_refused).1.os) run (by kernel_rfl) (fun w => funext fun os => looks_pair (es w os) (looks_pair
    (Prod.ext (eA0 w os) (Prod.ext (eA1 w os) (Prod.ext (eA2 w os) (Prod.ext (eA3 w os) (Prod.ext (eA4 w os) (Prod.ext (eA5 w os) (Prod.ext (eA6 w os) (Prod.ext (eA7 w os) (eA8 w os)))))))))
    ((ey w os).trans (yK w.params).symm)))
theorem both {a b : Bool} (z : (a && b) = true) : a = true ∧ b = true := Bool.and_eq_true_iff.mp z
end Hd
end

/-! K02z -/
set_option Elab.async false
set_option linter.all false
set_option maxRecDepth 100000
set_option maxHeartbeats 4000000
namespace K04
open PySem L2
theorem txt_mk {K : PySem.W.Frag} {h : Heap} {mg : Str → Option Value} (X : K.In h) (G : h.Ns mainGlobals mg)
    {f_is_whole : Addr} {od0 an0 : Option Addr} {sl0 : Array (Option Value)} {oc0 kV0 dc0 pm0 cd0 ct0 : Value} {f_are_hands : Addr} {od1 an1 : Option Addr} {sl1 : Array (Option Value)} {oc1 kV1 dc1 pm1 cd1 ct1 : Value} {f_is_line : Addr} {od2 an2 : Option Addr} {sl2 : Array (Option Value)} {oc2 kV2 dc2 pm2 cd2 ct2 : Value} {f_are_lines : Addr} {od3 an3 : Option Addr} {sl3 : Array (Option Value)} {oc3 kV3 dc3 pm3 cd3 ct3 : Value} {f_near_by_hand : Addr} {od4 an4 : Option Addr} {sl4 : Array (Option Value)} {oc4 kV4 dc4 pm4 cd4 ct4 : Value} {f__law_cell_at : Addr} {od5 an5 : Option Addr} {sl5 : Array (Option Value)} {oc5 kV5 dc5 pm5 cd5 ct5 : Value} {f__law_digit : Addr} {od6 an6 : Option Addr} {sl6 : Array (Option Value)} {oc6 kV6 dc6 pm6 cd6 ct6 : Value} {f__law_web : Addr} {od7 an7 : Option Addr} {sl7 : Array (Option Value)} {oc7 kV7 dc7 pm7 cd7 ct7 : Value} {f__law_bad : Addr} {od8 an8 : Option Addr} {sl8 : Array (Option Value)} {oc8 kV8 dc8 pm8 cd8 ct8 : Value} {f__law_refused : Addr} {od9 an9 : Option Addr} {sl9 : Array (Option Value)} {oc9 kV9 dc9 pm9 cd9 ct9 : Value} {f_law : Addr} {od10 an10 : Option Addr} {sl10 : Array (Option Value)} {oc10 kV10 dc10 pm10 cd10 ct10 : Value} {f_Web___init__ : Addr} {od11 an11 : Option Addr} {sl11 : Array (Option Value)} {oc11 kV11 dc11 pm11 cd11 ct11 : Value} {f_Web_hands : Addr} {od12 an12 : Option Addr} {sl12 : Array (Option Value)} {oc12 kV12 dc12 pm12 cd12 ct12 : Value} {f_Web_lines : Addr} {od13 an13 : Option Addr} {sl13 : Array (Option Value)} {oc13 kV13 dc13 pm13 cd13 ct13 : Value} {c_Web : Addr} {c_NoWeb : Addr} {c_NoHand : Addr} {c_NoLine : Addr} {c_NoWay : Addr} {c_NoProgram : Addr} {c_BeatlessError : Addr} {t_MOST_HANDS : Tok} {t_LAST_HAND : Tok}
    (z_len : PySem.W.nsIn K mainGlobals "len" = some none)
    (z_int : PySem.W.nsIn K mainGlobals "int" = some none)
    (z_min : PySem.W.nsIn K mainGlobals "min" = some none)
    (z_max : PySem.W.nsIn K mainGlobals "max" = some none)
    (z_range : PySem.W.nsIn K mainGlobals "range" = some none)
    (z_isinstance : PySem.W.nsIn K mainGlobals "isinstance" = some none)
    (z_list : PySem.W.nsIn K mainGlobals "list" = some none)
    (z_any : PySem.W.nsIn K mainGlobals "any" = some none)
    (z_sorted : PySem.W.nsIn K mainGlobals "sorted" = some none)
    (z_bool : PySem.W.nsIn K mainGlobals "bool" = some none)
    (z_tuple : PySem.W.nsIn K mainGlobals "tuple" = some none)
    (z_ValueError : PySem.W.nsIn K mainGlobals "ValueError" = some none)
    (A_Web : PySem.W.nsIn K mainGlobals "Web" = some (some (.ref c_Web)))
    (a_0 : PySem.W.nsIn K mainGlobals "is_whole" = some (some (.ref f_is_whole)))
    (l_0 : K.lookup f_is_whole = some ⟨oc0, od0, .func (PySem.W.fnOf "is_whole" "is_whole" (defArgs st_is_whole) (defBody st_is_whole) (defScope st_is_whole) .none kV0 dc0 pm0 an0 cd0 ct0), sl0⟩)
    (cc_0 : PySem.W.codeIn K cd0 "is_whole" = true)
    (kk_0 : PySem.W.keepIn K (.ref f_is_whole) = true)
    (a_1 : PySem.W.nsIn K mainGlobals "are_hands" = some (some (.ref f_are_hands)))
    (l_1 : K.lookup f_are_hands = some ⟨oc1, od1, .func (PySem.W.fnOf "are_hands" "are_hands" (defArgs st_are_hands) (defBody st_are_hands) (defScope st_are_hands) .none kV1 dc1 pm1 an1 cd1 ct1), sl1⟩)
    (cc_1 : PySem.W.codeIn K cd1 "are_hands" = true)
    (kk_1 : PySem.W.keepIn K (.ref f_are_hands) = true)
    (a_2 : PySem.W.nsIn K mainGlobals "is_line" = some (some (.ref f_is_line)))
    (l_2 : K.lookup f_is_line = some ⟨oc2, od2, .func (PySem.W.fnOf "is_line" "is_line" (defArgs st_is_line) (defBody st_is_line) (defScope st_is_line) .none kV2 dc2 pm2 an2 cd2 ct2), sl2⟩)
    (cc_2 : PySem.W.codeIn K cd2 "is_line" = true)
    (kk_2 : PySem.W.keepIn K (.ref f_is_line) = true)
    (a_3 : PySem.W.nsIn K mainGlobals "are_lines" = some (some (.ref f_are_lines)))
    (l_3 : K.lookup f_are_lines = some ⟨oc3, od3, .func (PySem.W.fnOf "are_lines" "are_lines" (defArgs st_are_lines) (defBody st_are_lines) (defScope st_are_lines) .none kV3 dc3 pm3 an3 cd3 ct3), sl3⟩)
    (cc_3 : PySem.W.codeIn K cd3 "are_lines" = true)
    (kk_3 : PySem.W.keepIn K (.ref f_are_lines) = true)
    (a_4 : PySem.W.nsIn K mainGlobals "near_by_hand" = some (some (.ref f_near_by_hand)))
    (l_4 : K.lookup f_near_by_hand = some ⟨oc4, od4, .func (PySem.W.fnOf "near_by_hand" "near_by_hand" (defArgs st_near_by_hand) (defBody st_near_by_hand) (defScope st_near_by_hand) .none kV4 dc4 pm4 an4 cd4 ct4), sl4⟩)
    (cc_4 : PySem.W.codeIn K cd4 "near_by_hand" = true)
    (kk_4 : PySem.W.keepIn K (.ref f_near_by_hand) = true)
    (a_5 : PySem.W.nsIn K mainGlobals "_law_cell_at" = some (some (.ref f__law_cell_at)))
    (l_5 : K.lookup f__law_cell_at = some ⟨oc5, od5, .func (PySem.W.fnOf "_law_cell_at" "_law_cell_at" (defArgs st__law_cell_at) (defBody st__law_cell_at) (defScope st__law_cell_at) .none kV5 dc5 pm5 an5 cd5 ct5), sl5⟩)
    (cc_5 : PySem.W.codeIn K cd5 "_law_cell_at" = true)
    (kk_5 : PySem.W.keepIn K (.ref f__law_cell_at) = true)
    (a_6 : PySem.W.nsIn K mainGlobals "_law_digit" = some (some (.ref f__law_digit)))
    (l_6 : K.lookup f__law_digit = some ⟨oc6, od6, .func (PySem.W.fnOf "_law_digit" "_law_digit" (defArgs st__law_digit) (defBody st__law_digit) (defScope st__law_digit) .none kV6 dc6 pm6 an6 cd6 ct6), sl6⟩)
    (cc_6 : PySem.W.codeIn K cd6 "_law_digit" = true)
    (kk_6 : PySem.W.keepIn K (.ref f__law_digit) = true)
    (a_7 : PySem.W.nsIn K mainGlobals "_law_web" = some (some (.ref f__law_web)))
    (l_7 : K.lookup f__law_web = some ⟨oc7, od7, .func (PySem.W.fnOf "_law_web" "_law_web" (defArgs st__law_web) (defBody st__law_web) (defScope st__law_web) .none kV7 dc7 pm7 an7 cd7 ct7), sl7⟩)
    (cc_7 : PySem.W.codeIn K cd7 "_law_web" = true)
    (kk_7 : PySem.W.keepIn K (.ref f__law_web) = true)
    (a_8 : PySem.W.nsIn K mainGlobals "_law_bad" = some (some (.ref f__law_bad)))
    (l_8 : K.lookup f__law_bad = some ⟨oc8, od8, .func (PySem.W.fnOf "_law_bad" "_law_bad" (defArgs st__law_bad) (defBody st__law_bad) (defScope st__law_bad) .none kV8 dc8 pm8 an8 cd8 ct8), sl8⟩)
    (cc_8 : PySem.W.codeIn K cd8 "_law_bad" = true)
    (kk_8 : PySem.W.keepIn K (.ref f__law_bad) = true)
    (a_9 : PySem.W.nsIn K mainGlobals "_law_refused" = some (some (.ref f__law_refused)))
    (l_9 : K.lookup f__law_refused = some ⟨oc9, od9, .func (PySem.W.fnOf "_law_refused" "_law_refused" (defArgs st__law_refused) (defBody st__law_refused) (defScope st__law_refused) .none kV9 dc9 pm9 an9 cd9 ct9), sl9⟩)
    (cc_9 : PySem.W.codeIn K cd9 "_law_refused" = true)
    (kk_9 : PySem.W.keepIn K (.ref f__law_refused) = true)
    (a_10 : PySem.W.nsIn K mainGlobals "law" = some (some (.ref f_law)))
    (l_10 : K.lookup f_law = some ⟨oc10, od10, .func (PySem.W.fnOf "law" "law" (defArgs st_law) (defBody st_law) (defScope st_law) .none kV10 dc10 pm10 an10 cd10 ct10), sl10⟩)
    (cc_10 : PySem.W.codeIn K cd10 "law" = true)
    (kk_10 : PySem.W.keepIn K (.ref f_law) = true)
    (a_11 : PySem.W.findIn K (.ref c_Web) "__init__" = some (some (.ref f_Web___init__)))
    (i_11 : PySem.W.isFn K (.ref f_Web___init__) = true)
    (l_11 : K.lookup f_Web___init__ = some ⟨oc11, od11, .func (PySem.W.fnOf "__init__" "Web.__init__" (defArgs st_Web___init__) (defBody st_Web___init__) (defScope st_Web___init__) .none kV11 dc11 pm11 an11 cd11 ct11), sl11⟩)
    (cc_11 : PySem.W.codeIn K cd11 "Web.__init__" = true)
    (kk_11 : PySem.W.keepIn K (.ref f_Web___init__) = true)
    (a_12 : PySem.W.findIn K (.ref c_Web) "hands" = some (some (.ref f_Web_hands)))
    (i_12 : PySem.W.isFn K (.ref f_Web_hands) = true)
    (l_12 : K.lookup f_Web_hands = some ⟨oc12, od12, .func (PySem.W.fnOf "hands" "Web.hands" (defArgs st_Web_hands) (defBody st_Web_hands) (defScope st_Web_hands) .none kV12 dc12 pm12 an12 cd12 ct12), sl12⟩)
    (cc_12 : PySem.W.codeIn K cd12 "Web.hands" = true)
    (kk_12 : PySem.W.keepIn K (.ref f_Web_hands) = true)
    (a_13 : PySem.W.findIn K (.ref c_Web) "lines" = some (some (.ref f_Web_lines)))
    (i_13 : PySem.W.isFn K (.ref f_Web_lines) = true)
    (l_13 : K.lookup f_Web_lines = some ⟨oc13, od13, .func (PySem.W.fnOf "lines" "Web.lines" (defArgs st_Web_lines) (defBody st_Web_lines) (defScope st_Web_lines) .none kV13 dc13 pm13 an13 cd13 ct13), sl13⟩)
    (cc_13 : PySem.W.codeIn K cd13 "Web.lines" = true)
    (kk_13 : PySem.W.keepIn K (.ref f_Web_lines) = true)
    (pg_Web : PySem.W.plainGet K c_Web Str.empty = true)
    (hd_Web : PySem.W.hasDictIn K c_Web = true)
    (po_Web : PySem.W.plainOver K c_Web = true)
    (sa_Web : PySem.W.findIn K (.ref c_Web) "__setattr__" = some (some (.builtin "object.__setattr__")))
    (mk_Web : PySem.W.makesIn K c_Web = true)
    (kc_Web : PySem.W.keepIn K (.ref c_Web) = true)
    (ha_Web : PySem.W.findIn K (.ref c_Web) "__class__" = some (some (.builtin "object.__class__")))
    (hm_Web : PySem.W.mroIn K c_Web (.type "object") = some true)
    (na_Web_own_hands : PySem.W.findIn K (.ref c_Web) "own_hands" = some none)
    (na_Web_own_lines : PySem.W.findIn K (.ref c_Web) "own_lines" = some none)
    (na_Web_near : PySem.W.findIn K (.ref c_Web) "near" = some none)
    (hn : PySem.W.specialIn K (.builtin "object.__class__") "__get__" = some (some (.builtin "getset_descriptor.__get__")))
    (htk : PySem.W.takesIn K (.builtin "object.__class__") = some true)
    (A_NoHand : PySem.W.nsIn K mainGlobals "NoHand" = some (some (.ref c_NoHand)))
    (A_NoLine : PySem.W.nsIn K mainGlobals "NoLine" = some (some (.ref c_NoLine)))
    (A_NoWay : PySem.W.nsIn K mainGlobals "NoWay" = some (some (.ref c_NoWay)))
    (A_NoProgram : PySem.W.nsIn K mainGlobals "NoProgram" = some (some (.ref c_NoProgram)))
    (A_BeatlessError : PySem.W.nsIn K mainGlobals "BeatlessError" = some (some (.ref c_BeatlessError)))
    (A_NoWeb : PySem.W.nsIn K mainGlobals "NoWeb" = some (some (.ref c_NoWeb)))
    (X_NoWeb : PySem.W.excIn K c_NoWeb bmVal "ValueError.__new__" = true)
    (xga_NoWeb : PySem.W.findIn K (.ref c_NoWeb) "__getattribute__" = some (some (.builtin "BaseException.__getattribute__")))
    (xgt_NoWeb : PySem.W.findIn K (.ref c_NoWeb) "__getattr__" = some none)
    (xha_NoWeb : PySem.W.findIn K (.ref c_NoWeb) "__class__" = some (some (.builtin "object.__class__")))
    (xhm_NoWeb : PySem.W.mroIn K c_NoWeb (.type "object") = some true)
    (xhb_NoWeb : PySem.W.mroIn K c_NoWeb (.type "BaseException") = some true)
    (xhd_NoWeb : PySem.W.hasDictIn K c_NoWeb = true)
    (k_tint_tint : PySem.W.kitOne K (.type "int") (.type "int") = some true)
    (k_tint_tbool : PySem.W.kitOne K (.type "int") (.type "bool") = some false)
    (k_tbool_tint : PySem.W.kitOne K (.type "bool") (.type "int") = some true)
    (k_tbool_tbool : PySem.W.kitOne K (.type "bool") (.type "bool") = some true)
    (k_tstr_tint : PySem.W.kitOne K (.type "str") (.type "int") = some false)
    (k_tstr_tlist : PySem.W.kitOne K (.type "str") (.type "list") = some false)
    (k_tNoneType_tint : PySem.W.kitOne K (.type "NoneType") (.type "int") = some false)
    (k_tNoneType_tlist : PySem.W.kitOne K (.type "NoneType") (.type "list") = some false)
    (k_tNoneType_ttuple : PySem.W.kitOne K (.type "NoneType") (.type "tuple") = some false)
    (k_tlist_tlist : PySem.W.kitOne K (.type "list") (.type "list") = some true)
    (k_tlist_ttuple : PySem.W.kitOne K (.type "list") (.type "tuple") = some false)
    (k_ttuple_tlist : PySem.W.kitOne K (.type "tuple") (.type "list") = some false)
    (k_ttuple_ttuple : PySem.W.kitOne K (.type "tuple") (.type "tuple") = some true)
    (k_NoWeb_NoHand : PySem.W.kitOne K (.ref c_NoWeb) (.ref c_NoHand) = some false)
    (k_NoWeb_NoLine : PySem.W.kitOne K (.ref c_NoWeb) (.ref c_NoLine) = some false)
    (k_NoWeb_NoWay : PySem.W.kitOne K (.ref c_NoWeb) (.ref c_NoWay) = some false)
    (k_NoWeb_NoProgram : PySem.W.kitOne K (.ref c_NoWeb) (.ref c_NoProgram) = some false)
    (k_NoWeb_BeatlessError : PySem.W.kitOne K (.ref c_NoWeb) (.ref c_BeatlessError) = some true)
    (k_NoWeb_tValueError : PySem.W.kitOne K (.ref c_NoWeb) (.type "ValueError") = some true)
    (G_MOST_HANDS : PySem.W.nsIn K mainGlobals "MOST_HANDS" = some (some (.int 12 t_MOST_HANDS)))
    (G_LAST_HAND : PySem.W.nsIn K mainGlobals "LAST_HAND" = some (some (.int 99 t_LAST_HAND))) :
    ∃ a : Ad, Txt K mg a := by
  have F0 := fun_mk (st := st_is_whole) l_0 cc_0 kk_0
  have F1 := fun_mk (st := st_are_hands) l_1 cc_1 kk_1
  have F2 := fun_mk (st := st_is_line) l_2 cc_2 kk_2
  have F3 := fun_mk (st := st_are_lines) l_3 cc_3 kk_3
  have F4 := fun_mk (st := st_near_by_hand) l_4 cc_4 kk_4
  have F5 := fun_mk (st := st__law_cell_at) l_5 cc_5 kk_5
  have F6 := fun_mk (st := st__law_digit) l_6 cc_6 kk_6
  have F7 := fun_mk (st := st__law_web) l_7 cc_7 kk_7
  have F8 := fun_mk (st := st__law_bad) l_8 cc_8 kk_8
  have F9 := fun_mk (st := st__law_refused) l_9 cc_9 kk_9
  have F10 := fun_mk (st := st_law) l_10 cc_10 kk_10
  have F11 := fun_mk (st := st_Web___init__) l_11 cc_11 kk_11
  have F12 := fun_mk (st := st_Web_hands) l_12 cc_12 kk_12
  have F13 := fun_mk (st := st_Web_lines) l_13 cc_13 kk_13
  refine ⟨⟨f_is_whole, PySem.W.fnOf "is_whole" "is_whole" (defArgs st_is_whole) (defBody st_is_whole) (defScope st_is_whole) .none kV0 dc0 pm0 an0 cd0 ct0, f_are_hands, PySem.W.fnOf "are_hands" "are_hands" (defArgs st_are_hands) (defBody st_are_hands) (defScope st_are_hands) .none kV1 dc1 pm1 an1 cd1 ct1, f_is_line, PySem.W.fnOf "is_line" "is_line" (defArgs st_is_line) (defBody st_is_line) (defScope st_is_line) .none kV2 dc2 pm2 an2 cd2 ct2, f_are_lines, PySem.W.fnOf "are_lines" "are_lines" (defArgs st_are_lines) (defBody st_are_lines) (defScope st_are_lines) .none kV3 dc3 pm3 an3 cd3 ct3, f_near_by_hand, PySem.W.fnOf "near_by_hand" "near_by_hand" (defArgs st_near_by_hand) (defBody st_near_by_hand) (defScope st_near_by_hand) .none kV4 dc4 pm4 an4 cd4 ct4, f__law_cell_at, PySem.W.fnOf "_law_cell_at" "_law_cell_at" (defArgs st__law_cell_at) (defBody st__law_cell_at) (defScope st__law_cell_at) .none kV5 dc5 pm5 an5 cd5 ct5, f__law_digit, PySem.W.fnOf "_law_digit" "_law_digit" (defArgs st__law_digit) (defBody st__law_digit) (defScope st__law_digit) .none kV6 dc6 pm6 an6 cd6 ct6, f__law_web, PySem.W.fnOf "_law_web" "_law_web" (defArgs st__law_web) (defBody st__law_web) (defScope st__law_web) .none kV7 dc7 pm7 an7 cd7 ct7, f__law_bad, PySem.W.fnOf "_law_bad" "_law_bad" (defArgs st__law_bad) (defBody st__law_bad) (defScope st__law_bad) .none kV8 dc8 pm8 an8 cd8 ct8, f__law_refused, PySem.W.fnOf "_law_refused" "_law_refused" (defArgs st__law_refused) (defBody st__law_refused) (defScope st__law_refused) .none kV9 dc9 pm9 an9 cd9 ct9, f_law, PySem.W.fnOf "law" "law" (defArgs st_law) (defBody st_law) (defScope st_law) .none kV10 dc10 pm10 an10 cd10 ct10, f_Web___init__, PySem.W.fnOf "__init__" "Web.__init__" (defArgs st_Web___init__) (defBody st_Web___init__) (defScope st_Web___init__) .none kV11 dc11 pm11 an11 cd11 ct11, f_Web_hands, PySem.W.fnOf "hands" "Web.hands" (defArgs st_Web_hands) (defBody st_Web_hands) (defScope st_Web_hands) .none kV12 dc12 pm12 an12 cd12 ct12, f_Web_lines, PySem.W.fnOf "lines" "Web.lines" (defArgs st_Web_lines) (defBody st_Web_lines) (defScope st_Web_lines) .none kV13 dc13 pm13 an13 cd13 ct13, c_Web, c_NoWeb, c_NoHand, c_NoLine, c_NoWay, c_NoProgram, c_BeatlessError, t_MOST_HANDS, t_LAST_HAND⟩, ?_⟩
  exact ⟨PySem.W.mg_none_of X G z_len,
    PySem.W.mg_none_of X G z_int,
    PySem.W.mg_none_of X G z_min,
    PySem.W.mg_none_of X G z_max,
    PySem.W.mg_none_of X G z_range,
    PySem.W.mg_none_of X G z_isinstance,
    PySem.W.mg_none_of X G z_list,
    PySem.W.mg_none_of X G z_any,
    PySem.W.mg_none_of X G z_sorted,
    PySem.W.mg_none_of X G z_bool,
    PySem.W.mg_none_of X G z_tuple,
    PySem.W.mg_none_of X G z_ValueError,
    F0,
    F0.binds (ps := ["value"]) fun _ _ _ _ _ _ us hl => match us, hl with | [_], _ => rfl,
    PySem.W.mg_of X G a_0,
    F1,
    F1.binds (ps := ["hands"]) fun _ _ _ _ _ _ us hl => match us, hl with | [_], _ => rfl,
    PySem.W.mg_of X G a_1,
    F2,
    F2.binds (ps := ["line", "hands"]) fun _ _ _ _ _ _ us hl => match us, hl with | [_, _], _ => rfl,
    PySem.W.mg_of X G a_2,
    F3,
    F3.binds (ps := ["lines", "hands"]) fun _ _ _ _ _ _ us hl => match us, hl with | [_, _], _ => rfl,
    PySem.W.mg_of X G a_3,
    F4,
    F4.binds (ps := ["hands", "lines"]) fun _ _ _ _ _ _ us hl => match us, hl with | [_, _], _ => rfl,
    PySem.W.mg_of X G a_4,
    F5,
    F5.binds (ps := ["_law_script", "_law_k"]) fun _ _ _ _ _ _ us hl => match us, hl with | [_, _], _ => rfl,
    PySem.W.mg_of X G a_5,
    F6,
    F6.binds (ps := ["_law_state", "_law_base"]) fun _ _ _ _ _ _ us hl => match us, hl with | [_, _], _ => rfl,
    PySem.W.mg_of X G a_6,
    F7,
    F7.binds (ps := ["_law_state"]) fun _ _ _ _ _ _ us hl => match us, hl with | [_], _ => rfl,
    PySem.W.mg_of X G a_7,
    F8,
    F8.binds (ps := ["_law_hands", "_law_lines", "_law_state"]) fun _ _ _ _ _ _ us hl => match us, hl with | [_, _, _], _ => rfl,
    PySem.W.mg_of X G a_8,
    F9,
    F9.binds (ps := ["_law_hands", "_law_lines"]) fun _ _ _ _ _ _ us hl => match us, hl with | [_, _], _ => rfl,
    PySem.W.mg_of X G a_9,
    F10,
    F10.binds (ps := ["_law_script"]) fun _ _ _ _ _ _ us hl => match us, hl with | [_], _ => rfl,
    fun s v => .of_eq rfl,
    PySem.W.mg_of X G a_10,
    F11,
    F11.binds (ps := ["self", "hands", "lines"]) fun _ _ _ _ _ _ us hl => match us, hl with | [_, _, _], _ => rfl,
    F12,
    F12.binds (ps := ["self"]) fun _ _ _ _ _ _ us hl => match us, hl with | [_], _ => rfl,
    ⟨a_12, i_12, kk_12⟩,
    F13,
    F13.binds (ps := ["self"]) fun _ _ _ _ _ _ us hl => match us, hl with | [_], _ => rfl,
    ⟨a_13, i_13, kk_13⟩,
    PySem.W.mg_of X G A_Web,
    ⟨pg_Web, hd_Web, po_Web, sa_Web⟩,
    ⟨mk_Web, a_11, i_11, kc_Web⟩,
    fun H p dx fs e => .ins e ⟨pg_Web, hd_Web, po_Web, sa_Web⟩ ha_Web hn htk hm_Web,
    na_Web_own_hands,
    na_Web_own_lines,
    na_Web_near,
    k_tint_tint,
    k_tint_tbool,
    k_tbool_tint,
    k_tbool_tbool,
    k_tstr_tint,
    k_tstr_tlist,
    k_tNoneType_tint,
    k_tNoneType_tlist,
    k_tNoneType_ttuple,
    k_tlist_tlist,
    k_tlist_ttuple,
    k_ttuple_tlist,
    k_ttuple_ttuple,
    k_NoWeb_NoHand,
    k_NoWeb_NoLine,
    k_NoWeb_NoWay,
    k_NoWeb_NoProgram,
    k_NoWeb_BeatlessError,
    k_NoWeb_tValueError,
    PySem.W.mg_of X G G_MOST_HANDS,
    PySem.W.mg_of X G G_LAST_HAND,
    PySem.W.mg_of X G A_NoWeb,
    X_NoWeb,
    PySem.W.mg_of X G A_NoHand,
    PySem.W.mg_of X G A_NoLine,
    PySem.W.mg_of X G A_NoWay,
    PySem.W.mg_of X G A_NoProgram,
    PySem.W.mg_of X G A_BeatlessError,
    ⟨xga_NoWeb, xgt_NoWeb, xha_NoWeb, hn, htk, xhm_NoWeb, xhb_NoWeb, xhd_NoWeb⟩⟩
end K04
open PySem PySem.W PyProof.Rows
set_option maxRecDepth 100000 in
set_option maxHeartbeats 0 in
theorem PySem.Challenge.cw_beatless_k02_webs_refused_holds : PySem.Challenge.rw_beatless_k02_webs_refused.Holds := by
  w_on; o_law
  refine holds_open (XP := XL Hd.Q []) (YP := (kHook Hd.K Hd.as Hd.asK).says) Hd.left Hd.hk.of Hd.hk.keeps
    (fun s z => xl_of s (Hd.both z).1) XL.keeps (by rfl) (by rfl) (by rfl)
    (fun s z => recFacts_of (Hd.both z).2) (by rfl) (by assumption) (by decide +kernel)
    ⟨rfl, rfl, rfl, rfl, rfl, by decide +kernel⟩ ?hw ?hc
  case hw => w_witness2
  k_fill
  refine L2.walk_ofK (l := PySem.Challenge.rw_beatless_k02_webs_refused) (n := 63) (k := 8) (x := "_law_script") (CX := L2.CX0) (sp := K04.spLaw) rfl (by decide) rfl ⟨rfl, by decide, by decide⟩ (fun w h Y => PySem.W.kIn_of Y) ?F ?S ?C
  case F =>
    intro w mg fa h KX G hmg
    have T : ∃ a, K04.Txt (L2.KOf KX) mg a := by
      dsimp only [L2.KOf]
      refine' K04.txt_mk KX G ?z_len ?z_int ?z_min ?z_max ?z_range ?z_isinstance ?z_list ?z_any ?z_sorted ?z_bool ?z_tuple ?z_ValueError ?A_Web ?a_0 ?l_0 ?cc_0 ?kk_0 ?a_1 ?l_1 ?cc_1 ?kk_1 ?a_2 ?l_2 ?cc_2 ?kk_2 ?a_3 ?l_3 ?cc_3 ?kk_3 ?a_4 ?l_4 ?cc_4 ?kk_4 ?a_5 ?l_5 ?cc_5 ?kk_5 ?a_6 ?l_6 ?cc_6 ?kk_6 ?a_7 ?l_7 ?cc_7 ?kk_7 ?a_8 ?l_8 ?cc_8 ?kk_8 ?a_9 ?l_9 ?cc_9 ?kk_9 ?a_10 ?l_10 ?cc_10 ?kk_10 ?a_11 ?i_11 ?l_11 ?cc_11 ?kk_11 ?a_12 ?i_12 ?l_12 ?cc_12 ?kk_12 ?a_13 ?i_13 ?l_13 ?cc_13 ?kk_13 ?pg_Web ?hd_Web ?po_Web ?sa_Web ?mk_Web ?kc_Web ?ha_Web ?hm_Web ?na_Web_own_hands ?na_Web_own_lines ?na_Web_near ?hn ?htk ?A_NoHand ?A_NoLine ?A_NoWay ?A_NoProgram ?A_BeatlessError ?A_NoWeb ?X_NoWeb ?xga_NoWeb ?xgt_NoWeb ?xha_NoWeb ?xhm_NoWeb ?xhb_NoWeb ?xhd_NoWeb ?k_tint_tint ?k_tint_tbool ?k_tbool_tint ?k_tbool_tbool ?k_tstr_tint ?k_tstr_tlist ?k_tNoneType_tint ?k_tNoneType_tlist ?k_tNoneType_ttuple ?k_tlist_tlist ?k_tlist_ttuple ?k_ttuple_tlist ?k_ttuple_ttuple ?k_NoWeb_NoHand ?k_NoWeb_NoLine ?k_NoWeb_NoWay ?k_NoWeb_NoProgram ?k_NoWeb_BeatlessError ?k_NoWeb_tValueError ?G_MOST_HANDS ?G_LAST_HAND
      (case z_len => k_is)
      (case z_int => k_is)
      (case z_min => k_is)
      (case z_max => k_is)
      (case z_range => k_is)
      (case z_isinstance => k_is)
      (case z_list => k_is)
      (case z_any => k_is)
      (case z_sorted => k_is)
      (case z_bool => k_is)
      (case z_tuple => k_is)
      (case z_ValueError => k_is)
      (case A_Web => k_is)
      (case a_0 => k_is)
      (case l_0 => k_is)
      (case cc_0 => k_is)
      (case kk_0 => k_is)
      (case a_1 => k_is)
      (case l_1 => k_is)
      (case cc_1 => k_is)
      (case kk_1 => k_is)
      (case a_2 => k_is)
      (case l_2 => k_is)
      (case cc_2 => k_is)
      (case kk_2 => k_is)
      (case a_3 => k_is)
      (case l_3 => k_is)
      (case cc_3 => k_is)
      (case kk_3 => k_is)
      (case a_4 => k_is)
      (case l_4 => k_is)
      (case cc_4 => k_is)
      (case kk_4 => k_is)
      (case a_5 => k_is)
      (case l_5 => k_is)
      (case cc_5 => k_is)
      (case kk_5 => k_is)
      (case a_6 => k_is)
      (case l_6 => k_is)
      (case cc_6 => k_is)
      (case kk_6 => k_is)
      (case a_7 => k_is)
      (case l_7 => k_is)
      (case cc_7 => k_is)
      (case kk_7 => k_is)
      (case a_8 => k_is)
      (case l_8 => k_is)
      (case cc_8 => k_is)
      (case kk_8 => k_is)
      (case a_9 => k_is)
      (case l_9 => k_is)
      (case cc_9 => k_is)
      (case kk_9 => k_is)
      (case a_10 => k_is)
      (case l_10 => k_is)
      (case cc_10 => k_is)
      (case kk_10 => k_is)
      (case a_11 => k_is)
      (case i_11 => k_is)
      (case l_11 => k_is)
      (case cc_11 => k_is)
      (case kk_11 => k_is)
      (case a_12 => k_is)
      (case i_12 => k_is)
      (case l_12 => k_is)
      (case cc_12 => k_is)
      (case kk_12 => k_is)
      (case a_13 => k_is)
      (case i_13 => k_is)
      (case l_13 => k_is)
      (case cc_13 => k_is)
      (case kk_13 => k_is)
      (case pg_Web => k_is)
      (case hd_Web => k_is)
      (case po_Web => k_is)
      (case sa_Web => k_is)
      (case mk_Web => k_is)
      (case kc_Web => k_is)
      (case ha_Web => k_is)
      (case hm_Web => k_is)
      (case na_Web_own_hands => k_is)
      (case na_Web_own_lines => k_is)
      (case na_Web_near => k_is)
      (case hn => k_is)
      (case htk => k_is)
      (case A_NoHand => k_is)
      (case A_NoLine => k_is)
      (case A_NoWay => k_is)
      (case A_NoProgram => k_is)
      (case A_BeatlessError => k_is)
      (case A_NoWeb => k_is)
      (case X_NoWeb => k_exc)
      (case xga_NoWeb => k_is)
      (case xgt_NoWeb => k_is)
      (case xha_NoWeb => k_is)
      (case xhm_NoWeb => k_is)
      (case xhb_NoWeb => k_is)
      (case xhd_NoWeb => k_is)
      (case k_tint_tint => kit_is)
      (case k_tint_tbool => kit_is)
      (case k_tbool_tint => kit_is)
      (case k_tbool_tbool => kit_is)
      (case k_tstr_tint => kit_is)
      (case k_tstr_tlist => kit_is)
      (case k_tNoneType_tint => kit_is)
      (case k_tNoneType_tlist => kit_is)
      (case k_tNoneType_ttuple => kit_is)
      (case k_tlist_tlist => kit_is)
      (case k_tlist_ttuple => kit_is)
      (case k_ttuple_tlist => kit_is)
      (case k_ttuple_ttuple => kit_is)
      (case k_NoWeb_NoHand => kit_is)
      (case k_NoWeb_NoLine => kit_is)
      (case k_NoWeb_NoWay => kit_is)
      (case k_NoWeb_NoProgram => kit_is)
      (case k_NoWeb_BeatlessError => kit_is)
      (case k_NoWeb_tValueError => kit_is)
      (case G_MOST_HANDS => k_is)
      (case G_LAST_HAND => k_is)
    obtain ⟨a, T⟩ := T
    have e0 := hmg.symm.trans T.g_law
    cases e0
    exact ⟨_, T.b0_law, fun base kb nb => K04.ok_law T⟩
  case S => exact fun K H a ns hl hO hS => K04.sp_law_of hl hO hS
  case C => exact fun _ _ _ _ z => z

