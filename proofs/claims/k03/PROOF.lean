import PyProof.Rows.All
import Wide.All
import OpenK.AllK
import Wide.FinOn
import PySem.Challenge.RW_beatless_k03_groups
import Lean
import PyProof.EqAt
import PyProof.EqKinds
import PyProof.TupleCall
import PyProof.ZipIter
import PyProof.WalksMore
/-! BLayer -/
set_option Elab.async false
set_option linter.all false
set_option maxRecDepth 100000
/-! THE HAND LAYER, for ints, bools, texts, own classes, LISTS and tuples (index, slices, in, append, pop ..), calls, loops. Paste it whole ahead of your own text; what your proof does not reach may be deleted. -/
namespace L2
open PySem PySem.Spec PyProof.Rows

/-- a key: an int or a str -/
abbrev Key := Sum Int Str
def keyIs : Key → Value → Bool
  | .inl k, v => Value.isInt k v
  | .inr x, v => Value.isStrOf x v
def keyH (w : World) : Key → Int
  | .inl k => hashInt k
  | .inr x => hashStr w x
theorem keyIs_shape : ∀ {k : Key} {v : Value}, keyIs k v = true → (∃ i t, k = Sum.inl i ∧ v = Value.int i t) ∨ (∃ x t, k = Sum.inr x ∧ v = Value.str x t)
  | .inl i, v, h => by
    obtain ⟨t, e⟩ := Value.isInt_shape (k := i) (v := v) h
    exact .inl ⟨i, t, rfl, e⟩
  | .inr x, v, h => by
    obtain ⟨t, e⟩ := Value.isStrOf_shape (x := x) (v := v) h
    exact .inr ⟨x, t, rfl, e⟩
theorem keyIs_int (i : Int) (t : Tok) : keyIs (.inl i) (.int i t) = true := by simp [keyIs, Value.isInt]
theorem keyIs_str (x : Str) (t : Tok) : keyIs (.inr x) (.str x t) = true := by simp [keyIs, Value.isStrOf]
theorem key_ll (a b : Int) : decide ((Sum.inl a : Key) = Sum.inl b) = (a == b) := by
  by_cases e : a = b
  · subst e; simp
  · have h : ¬ (Sum.inl a : Key) = Sum.inl b := fun q => e (Sum.inl.inj q)
    rw [decide_eq_false h]
    exact (beq_eq_false_iff_ne.mpr e).symm
theorem key_rr (a b : Str) : decide ((Sum.inr a : Key) = Sum.inr b) = decide (a = b) := by
  by_cases e : a = b
  · subst e; simp
  · have h : ¬ (Sum.inr a : Key) = Sum.inr b := fun q => e (Sum.inr.inj q)
    rw [decide_eq_false h, decide_eq_false e]
theorem key_lr (a : Int) (b : Str) : decide ((Sum.inl a : Key) = Sum.inr b) = false := decide_eq_false (fun q => nomatch q)
theorem key_rl (a : Str) (b : Int) : decide ((Sum.inr a : Key) = Sum.inl b) = false := decide_eq_false (fun q => nomatch q)

def mixKind (prog : Program) (w : World) : PySem.KeyKind prog w Key where
  is := keyIs
  hash := keyH w
  inj := fun v a b ha hb => by
    rcases keyIs_shape ha with ⟨i, t, rfl, rfl⟩ | ⟨x, t, rfl, rfl⟩
    · rcases keyIs_shape hb with ⟨j, u, rfl, e⟩ | ⟨y, u, rfl, e⟩
      · injection e with e1 _; rw [e1]
      · exact nomatch e
    · rcases keyIs_shape hb with ⟨j, u, rfl, e⟩ | ⟨y, u, rfl, e⟩
      · exact nomatch e
      · injection e with e1 _; rw [e1]
  byValue := fun k v h => by
    rcases keyIs_shape h with ⟨i, t, rfl, rfl⟩ | ⟨x, t, rfl, rfl⟩ <;> rfl
  pyHash := fun hv h => by
    rcases keyIs_shape hv with ⟨i, t, rfl, rfl⟩ | ⟨x, t, rfl, rfl⟩
    · exact wpAny_pyHash_int h
    · exact wpAny_pyHash_str h
  eqBool := fun hu hv h => by
    rcases keyIs_shape hu with ⟨i, t, rfl, rfl⟩ | ⟨x, t, rfl, rfl⟩
    · rcases keyIs_shape hv with ⟨j, u, rfl, rfl⟩ | ⟨y, u, rfl, rfl⟩
      · rw [key_ll] at h; exact wpAny_eqBool_int h
      · rw [key_lr] at h; exact SeqAt.EqAt.int_str i t y u _ _ _ _ h
    · rcases keyIs_shape hv with ⟨j, u, rfl, rfl⟩ | ⟨y, u, rfl, rfl⟩
      · rw [key_rl] at h; exact SeqAt.EqAt.str_int x t j u _ _ _ _ h
      · rw [key_rr] at h; exact wpAny_eqBool_str h
  «strs» := fun k x t v h => by
    rcases keyIs_shape h with ⟨i, u, rfl, e⟩ | ⟨y, u, rfl, e⟩
    · exact nomatch e
    · injection e with e1 _
      subst e1
      cases v <;> rfl

theorem mixKind_is (prog : Program) (w : World) (k : Key) (v : Value) : (mixKind prog w).is k v = keyIs k v := rfl
theorem mixKind_int (prog : Program) (w : World) (i : Int) (t : Tok) : (mixKind prog w).is (.inl i) (.int i t) = true := keyIs_int i t
theorem mixKind_str (prog : Program) (w : World) (x : Str) (t : Tok) : (mixKind prog w).is (.inr x) (.str x t) = true := keyIs_str x t
end L2

namespace L2
open PySem PySem.Spec PyProof.Rows

/-- a value, without the heap -/
inductive V where
  | non | bl (b : Bool) | int (i : Int) | str (x : Str) | byt (b : Array UInt8) | flt (b : UInt64) | ref (a : Addr) | ty (n : String)
  deriving DecidableEq

def RelV : V → Value → Prop
  | .non, u => u = Value.none
  | .bl b, u => u = Value.bool b
  | .int i, u => ∃ t, u = Value.int i t
  | .str x, u => ∃ t, u = Value.str x t
  | .byt b, u => ∃ t, u = Value.bytes b t
  | .flt b, u => ∃ t, u = Value.float b t
  | .ref a, u => u = Value.ref a
  | .ty n, u => u = Value.type n

abbrev Vals : List V → List Value → Prop := Paired RelV
theorem Vals.length {xs : List V} {us : List Value} (r : Vals xs us) : xs.length = us.length := Paired.length r
theorem Vals.get : ∀ {xs : List V} {us : List Value} {i : Nat} {x : V}, Vals xs us → xs[i]? = some x → ∃ u, us[i]? = some u ∧ RelV x u
  | _, _, _, _, .nil, e => by simp at e
  | _, _, 0, _, .cons r _, e => by simp at e; subst e; exact ⟨_, rfl, r⟩
  | _, _, i + 1, x, .cons _ t, e => by
    obtain ⟨u, h1, h2⟩ := Vals.get (i := i) (x := x) t (by simpa using e)
    exact ⟨u, by simpa using h1, h2⟩
theorem Vals.set {x : V} {u : Value} (r : RelV x u) : ∀ {xs : List V} {us : List Value} (i : Nat), Vals xs us → Vals (xs.set i x) (us.set i u)
  | _, _, _, .nil => .nil
  | _, _, 0, .cons _ t => .cons r t
  | _, _, i + 1, .cons q t => .cons q (Vals.set r i t)
theorem Vals.append : ∀ {xs ys : List V} {us ws : List Value}, Vals xs us → Vals ys ws → Vals (xs ++ ys) (us ++ ws)
  | _, _, _, _, .nil, s => s
  | _, _, _, _, .cons r t, s => .cons r (Vals.append t s)
theorem Vals.take : ∀ {xs : List V} {us : List Value} (n : Nat), Vals xs us → Vals (xs.take n) (us.take n)
  | _, _, 0, _ => .nil
  | _, _, _ + 1, .nil => .nil
  | _, _, n + 1, .cons r t => .cons r (Vals.take n t)
theorem Vals.drop : ∀ {xs : List V} {us : List Value} (n : Nat), Vals xs us → Vals (xs.drop n) (us.drop n)
  | _, _, 0, r => r
  | _, _, _ + 1, .nil => .nil
  | _, _, n + 1, .cons _ t => Vals.drop n t
theorem Vals.none_of : ∀ {xs : List V} {us : List Value} {i : Nat}, Vals xs us → xs[i]? = none → us[i]? = none := fun {xs us i} r e => by
  have h1 := r.length
  have h2 : xs.length ≤ i := List.getElem?_eq_none_iff.mp e
  exact List.getElem?_eq_none_iff.mpr (by omega)

def RelO : Option V → Option Value → Prop
  | some v, some u => RelV v u
  | none, none => True
  | _, _ => False
def KV {κ : Type} : List (κ × V) → List (κ × Value) → Prop := Paired fun (p : κ × V) (q : κ × Value) => p.1 = q.1 ∧ RelV p.2 q.2

/-- a key of a dict (00_mix): an int or a text -/
def kV : Key → V
  | .inl i => .int i
  | .inr x => .str x

/-- what stands at a tracked address -/
inductive HO where
  /-- a list -/
  | lst (xs : List V)
  /-- a tuple (never changes) -/
  | tup (xs : List V)
  /-- a dict whose keys are ints and texts; one whose keys are tuples of ints and texts (the empty one is both) -/
  | dK (kvs : List (Key × V)) | dT (kvs : List (List Key × V))
  /-- a set of ints: its members, its size -/
  | set (S : Int → Bool) (n : Nat)
  /-- an instance of the class at C, its dict at dx, its attributes -/
  | ins (C dx : Addr) (fs : List (Str × V))
  /-- the dict of the instance at x -/
  | own (x : Addr)
  /-- the dict of an exception -/
  | xd (fs : List (Str × V))
  /-- a bound method, f of x -/
  | met (f x : Addr)
  /-- a range object lo, lo + 1, .. below hi -/
  | rng (lo hi : Int)
  /-- a thing that is known to the object (the script; a dict while a loop walks it): read, never written while it is so -/
  | frz (o : Obj) (u : HO)
  /-- a code object's table -/
  | tbl (ps : Array Value)
  /-- any other thing, by what is true of its one object (a def of one's own: SetO a S n := HO.ext fun h => ..) -/
  | ext (φ : Heap → Prop)

abbrev Hp := Addr → Option HO
def upd (H : Hp) (a : Addr) (o : HO) : Hp := fun b => if b = a then some o else H b
theorem upd_same {H : Hp} {a : Addr} {o : HO} : upd H a o a = some o := by unfold upd; rw [if_pos rfl]
theorem upd_ne {H : Hp} {a b : Addr} {o : HO} (h : b ≠ a) : upd H a o b = H b := by unfold upd; rw [if_neg h]
theorem upd_upd {H : Hp} {a : Addr} {o u : HO} : upd (upd H a o) a u = upd H a u := by
  funext b; unfold upd; split <;> rfl
/-- two objects of different content stand apart -/
theorem ne_of {H : Hp} {a b : Addr} {o u : HO} (h : H a = some o) (h' : H b = some u) (d : o ≠ u) : a ≠ b := by
  intro e; subst e; rw [h] at h'; exact d (Option.some.inj h')
theorem ne_of_none {H : Hp} {a b : Addr} {o : HO} (h : H a = some o) (h' : H b = none) : a ≠ b := by
  intro e; subst e; rw [h] at h'; cases h'

section
variable (P : Program) (w : World)
def ObjOk (H : Hp) (h : Heap) (a : Addr) : HO → Prop
  | .lst xs => xs.length ≤ sizeLine ∧ ∃ (its : List Value) (n : Nat), Vals xs its ∧ h.get? a = some { cls := .type "list", data := .seq its.toArray n }
  | .tup xs => xs.length ≤ sizeLine ∧ ∃ its : List Value, Vals xs its ∧ IsTup h a its.toArray
  | .dK kvs => kvs.length ≤ sizeLine ∧ (a == sysModules) = false ∧ ∃ vs, KV kvs vs ∧ h.DictOf (mixKind P w) a vs
  | .dT kvs => kvs.length ≤ sizeLine ∧ (a == sysModules) = false ∧ ∃ xs : List (List Key × Addr × Value),
      Paired (fun (p : List Key × V) (q : List Key × Addr × Value) => p.1 = q.1 ∧ H q.2.1 = some (.tup (p.1.map kV)) ∧ RelV p.2 q.2.2) kvs xs ∧
      ∃ o es ep, h.get? a = some o ∧ o.ExactDict ∧ o.data = .dict es ep ∧ es.toList = xs.map (entryOfKey (tupleKind (mixKind P w))) ∧ (xs.map (·.1)).Nodup
  | .set S n => h.SetOf (intKind P w) a S n
  | .ins C dx fs => H dx = some (.own a) ∧ fs.length ≤ 1000 ∧ dx ≠ a ∧ h.get? a = some (PySem.W.instObj C dx) ∧
      ∃ mA, h.Ns1 dx mA ∧ (∀ f, RelO (fs.lookup f) (mA f)) ∧ PySem.Within mA (fs.map (·.1))
  | .own _ => ∃ o, h.get? a = some o
  | .xd fs => ∃ mA, h.Ns1 a mA ∧ ∀ f, RelO (fs.lookup f) (mA f)
  | .rng lo hi => ∃ t u v, h.get? a = some { cls := .type "range", data := .fields #[.int lo t, .int hi u, .int 1 v] }
  | .frz o u => h.get? a = some o ∧ ObjOk H h a u
  | .tbl ps => h.get? a = some { cls := .none, data := .fields ps }
  | .met f x => h.get? a = some (PySem.W.methodObj (.ref f) (.ref x))
  | .ext φ => φ h ∧ (∃ o, h.get? a = some o) ∧ ∀ h1 h2 : Heap, φ h1 → (∀ o, h1.get? a = some o → h2.get? a = some o) → φ h2
/-- the abstract heap is held -/
def HOk (H : Hp) (h : Heap) : Prop := ∀ a o, H a = some o → ObjOk P w H h a o
end

section
variable {P : Program} {w : World} {H H' : Hp} {h h' : Heap} {a : Addr} {o : HO}
theorem ObjOk.lt (x : ObjOk P w H h a o) : a < h.objs.size := by
  cases o with
  | lst xs => obtain ⟨_, _, _, _, e⟩ := x; exact Heap.lt_size e
  | tup xs => obtain ⟨_, _, _, p⟩ := x; exact p.lt
  | dK kvs => obtain ⟨_, _, _, _, o, _, _, e, _⟩ := x; exact Heap.lt_size e
  | dT kvs => obtain ⟨_, _, _, _, o, _, _, e, _⟩ := x; exact Heap.lt_size e
  | set S n => obtain ⟨o, _, _, _, e, _⟩ := x; exact Heap.lt_size e
  | ins C dx fs => obtain ⟨_, _, _, e, _⟩ := x; exact Heap.lt_size e
  | own y => obtain ⟨_, e⟩ := x; exact Heap.lt_size e
  | xd fs => obtain ⟨_, ⟨_, _, _, e, _⟩, _⟩ := x; exact Heap.lt_size e
  | rng lo hi => obtain ⟨_, _, _, e⟩ := x; exact Heap.lt_size e
  | frz ob u => obtain ⟨e, _⟩ := x; exact Heap.lt_size e
  | tbl ps => exact Heap.lt_size (show h.get? a = some _ from x)
  | met f y => exact Heap.lt_size (show h.get? a = some _ from x)
  | ext φ => obtain ⟨_, ⟨_, e⟩, _⟩ := x; exact Heap.lt_size e
theorem Paired.mapP {α β : Type} {F G : α → β → Prop} : ∀ {l₁ : List α} {l₂ : List β}, Paired F l₁ l₂ → (∀ a b, F a b → G a b) → Paired G l₁ l₂
  | _, _, .nil, _ => .nil
  | _, _, .cons r t, f => .cons (f _ _ r) (Paired.mapP t f)
theorem Paired.imp' {α β : Type} {F G : α → β → Prop} (f : ∀ a b, F a b → G a b) {l₁ : List α} {l₂ : List β} (r : Paired F l₁ l₂) : Paired G l₁ l₂ := Paired.mapP r f
/-- what an object's description leans on: its own object, its own dict, the tuples -/
theorem ObjOk.stay (x : ObjOk P w H h a o) (k : ∀ b u, (b = a ∨ H b = some (.own a)) → h.get? b = some u → h'.get? b = some u)
    (ho : ∀ b, H b = some (.own a) → H' b = some (.own a)) (ht : ∀ b xs, H b = some (.tup xs) → H' b = some (.tup xs)) : ObjOk P w H' h' a o := by
  induction o with
  | lst xs => obtain ⟨z, its, n, r, e⟩ := x; exact ⟨z, its, n, r, k _ _ (.inl rfl) e⟩
  | tup xs => obtain ⟨z, its, r, ob, e, c⟩ := x; exact ⟨z, its, r, ob, k _ _ (.inl rfl) e, c⟩
  | dK kvs => obtain ⟨z, y, vs, r, ob, es, ep, e, c⟩ := x; exact ⟨z, y, vs, r, ob, es, ep, k _ _ (.inl rfl) e, c⟩
  | dT kvs =>
    obtain ⟨z, y, xs, r, ob, es, ep, e, c⟩ := x
    exact ⟨z, y, xs, Paired.mapP r fun p q z => ⟨z.1, ht _ _ z.2.1, z.2.2⟩, ob, es, ep, k _ _ (.inl rfl) e, c⟩
  | set S n => obtain ⟨ob, es, ep, t, e, c⟩ := x; exact ⟨ob, es, ep, t, k _ _ (.inl rfl) e, c⟩
  | ins C dx fs =>
    obtain ⟨d, z, ne, e, mA, ⟨od, es, ep, e2, c⟩, r⟩ := x
    exact ⟨ho _ d, z, ne, k _ _ (.inl rfl) e, mA, ⟨od, es, ep, k _ _ (.inr d) e2, c⟩, r⟩
  | own y => obtain ⟨ob, e⟩ := x; exact ⟨ob, k _ _ (.inl rfl) e⟩
  | xd fs => obtain ⟨mA, ⟨od, es, ep, e, c⟩, r⟩ := x; exact ⟨mA, ⟨od, es, ep, k _ _ (.inl rfl) e, c⟩, r⟩
  | rng lo hi => obtain ⟨t, u, v, e⟩ := x; exact ⟨t, u, v, k _ _ (.inl rfl) e⟩
  | frz ob u ih => obtain ⟨e, q⟩ := x; exact ⟨k _ _ (.inl rfl) e, ih q⟩
  | tbl ps =>
    have e : h.get? a = some { cls := .none, data := .fields ps } := x
    show h'.get? a = some { cls := .none, data := .fields ps }
    exact k a _ (.inl rfl) e
  | met f y =>
    have e : h.get? a = some (PySem.W.methodObj (.ref f) (.ref y)) := x
    show h'.get? a = some (PySem.W.methodObj (.ref f) (.ref y))
    exact k a _ (.inl rfl) e
  | ext φ => obtain ⟨p, ⟨o, e⟩, st⟩ := x; exact ⟨st _ _ p fun o q => k _ _ (.inl rfl) q, ⟨o, k _ _ (.inl rfl) e⟩, st⟩
theorem HOk.lt (x : HOk P w H h) (e : H a = some o) : a < h.objs.size := (x a o e).lt
theorem HOk.fresh (x : HOk P w H h) (e : h.objs.size ≤ a) : H a = none := by
  cases q : H a with
  | none => rfl
  | some u => exact absurd (Nat.lt_of_lt_of_le (x.lt q) e) (Nat.lt_irrefl _)
/-- every object of the heap is kept -/
theorem HOk.kept (x : HOk P w H h) (k : ∀ b u, h.get? b = some u → h'.get? b = some u) : HOk P w H h' := fun a o e =>
  (x a o e).stay (fun b u _ q => k b u q) (fun _ q => q) fun _ _ q => q
/-- a new object is laid and tracked -/
theorem HOk.laid (x : HOk P w H h) (k : ∀ b u, h.get? b = some u → h'.get? b = some u) (hp : h.objs.size ≤ a) (new : ObjOk P w (upd H a o) h' a o) : HOk P w (upd H a o) h' := fun b u e => by
  have hn := x.fresh hp
  by_cases hb : b = a
  · subst hb; rw [upd_same] at e; cases e; exact new
  · rw [upd_ne hb] at e
    exact (x b u e).stay (fun c v _ q => k c v q) (fun c q => by rw [upd_ne (ne_of_none q hn)]; exact q) fun c xs q => by rw [upd_ne (ne_of_none q hn)]; exact q
end

/-- what may be read as u: it is u, or a known u -/
def Rd (H : Hp) (a : Addr) (u : HO) : Prop := H a = some u ∨ ∃ o, H a = some (.frz o u)
theorem Rd.of {H : Hp} {a : Addr} {u : HO} (h : H a = some u) : Rd H a u := .inl h
theorem Rd.ok {P : Program} {w : World} {H : Hp} {h : Heap} {a : Addr} {u : HO} (r : Rd H a u) (x : HOk P w H h) : ObjOk P w H h a u := by
  rcases r with r | ⟨o, r⟩
  · exact x a u r
  · obtain ⟨_, q⟩ := x a _ r
    exact q
/-- what may be written -/
def Mut : Option HO → Prop
  | some (.lst _) => True
  | some (.dK _) => True
  | some (.dT _) => True
  | some (.set _ _) => True
  | some (.ins _ _ _) => True
  | some (.ext _) => True
  | _ => False
section
variable {P : Program} {w : World} {H : Hp} {h h' : Heap} {x e : Addr} {o' : HO}
/-- the object at e is changed: x itself, or the dict of the instance x -/
theorem HOk.write (ok : HOk P w H h) (mu : Mut (H x)) (he : e = x ∨ H e = some (.own x)) (k : ∀ b u, b ≠ e → h.get? b = some u → h'.get? b = some u) (heo : ∃ u, h'.get? e = some u)
    (new : ObjOk P w (upd H x o') h' x o') : HOk P w (upd H x o') h' := fun b u q => by
  have nown : ∀ c y, H c = some (.own y) → c ≠ x := fun c y r z => by subst z; rw [r] at mu; exact mu
  have ntup : ∀ c xs, H c = some (.tup xs) → c ≠ x := fun c xs r z => by subst z; rw [r] at mu; exact mu
  by_cases hb : b = x
  · subst hb; rw [upd_same] at q; cases q; exact new
  · rw [upd_ne hb] at q
    by_cases hbe : b = e
    · have q' : H b = some (.own x) := by
        rcases he with z | z
        · exact absurd (hbe.trans z) hb
        · rw [hbe]; exact z
      rw [q] at q'; cases q'
      obtain ⟨v, hv⟩ := heo
      exact ⟨v, by rw [hbe]; exact hv⟩
    · refine (ok b u q).stay (fun c v hc r => k c v ?_ r) (fun c r => by rw [upd_ne (nown c b r)]; exact r) fun c xs r => by rw [upd_ne (ntup c xs r)]; exact r
      rcases hc with rfl | hc
      · exact hbe
      · rintro rfl
        rcases he with z | z
        · exact nown c b hc z
        · rw [hc] at z; cases z; exact hb rfl
end

/-! ### kept unless tracked; of the frames at fs (the callers') the slots may change (an exception that passes writes there); of the records at ex (iterators) nothing is said -/
structure Un (fs ex : List Addr) (H H' : Hp) (h h' : Heap) : Prop where
  keep : ∀ b o, h.get? b = some o → H b = none → b ∉ fs → b ∉ ex → h'.get? b = some o
  slot : ∀ b o, h.get? b = some o → H b = none → b ∈ fs → b ∉ ex → ∃ sl, h'.get? b = some { o with slots := sl }
  free : ∀ b o, h.get? b = some o → H b = none → b ∉ ex → H' b = none
  there : ∀ b o, h.get? b = some o → b ∉ ex → ∃ o', h'.get? b = some o'
  tups : ∀ b xs, H b = some (.tup xs) → H' b = some (.tup xs)
  frzs : ∀ b o u, H b = some (.frz o u) → H' b = some (.frz o u)
  tbls : ∀ b ps, H b = some (.tbl ps) → ∃ more, H' b = some (.tbl (ps ++ more))
section
variable {fs fs' ex ex' : List Addr} {H H1 H2 : Hp} {h h1 h2 h' : Heap} {a x e : Addr} {o : HO}
theorem Un.any (u : Un fs ex H H1 h h1) {b : Addr} {ob : Obj} (q : h.get? b = some ob) (n : H b = none) (hx : b ∉ ex) : ∃ sl, h1.get? b = some { ob with slots := sl } := by
  by_cases hb : b ∈ fs
  · exact u.slot b ob q n hb hx
  · exact ⟨ob.slots, u.keep b ob q n hb hx⟩
theorem Un.trans (a : Un fs ex H H1 h h1) (b : Un fs ex H1 H2 h1 h2) : Un fs ex H H2 h h2 where
  keep := fun c ob q n hc hx => b.keep c ob (a.keep c ob q n hc hx) (a.free c ob q n hx) hc hx
  slot := fun c ob q n hc hx => by
    obtain ⟨sl, e1⟩ := a.slot c ob q n hc hx
    obtain ⟨sl', e2⟩ := b.slot c _ e1 (a.free c ob q n hx) hc hx
    exact ⟨sl', e2⟩
  free := fun c ob q n hx => by
    obtain ⟨o', e1⟩ := a.there c ob q hx
    exact b.free c o' e1 (a.free c ob q n hx) hx
  there := fun c ob q hx => by
    obtain ⟨o', e1⟩ := a.there c ob q hx
    exact b.there c o' e1 hx
  tups := fun c xs q => b.tups c xs (a.tups c xs q)
  frzs := fun c ob xs q => b.frzs c ob xs (a.frzs c ob xs q)
  tbls := fun c ps q => by
    obtain ⟨m1, e1⟩ := a.tbls c ps q
    obtain ⟨m2, e2⟩ := b.tbls c _ e1
    exact ⟨m1 ++ m2, by rw [e2, Array.append_assoc]⟩
theorem Un.kept (k : ∀ b u, h.get? b = some u → h'.get? b = some u) : Un fs ex H H h h' :=
  ⟨fun b ob q _ _ _ => k b ob q, fun b ob q _ _ _ => ⟨ob.slots, k b ob q⟩, fun _ _ _ n _ => n, fun b ob q _ => ⟨ob, k b ob q⟩, fun _ _ q => q, fun _ _ _ q => q, fun _ ps q => ⟨#[], by rw [q]; simp⟩⟩
theorem Un.refl : Un fs ex H H h h := Un.kept fun _ _ q => q
theorem Un.laid (k : ∀ b u, h.get? b = some u → h'.get? b = some u) (hp : h.objs.size ≤ a) (hn : H a = none) : Un fs ex H (upd H a o) h h' where
  keep := fun b u q _ _ _ => k b u q
  slot := fun b u q _ _ _ => ⟨u.slots, k b u q⟩
  free := fun b u q n _ => by rw [upd_ne (Nat.ne_of_lt (Nat.lt_of_lt_of_le (Heap.lt_size q) hp))]; exact n
  there := fun b u q _ => ⟨u, k b u q⟩
  tups := fun b xs q => by rw [upd_ne (ne_of_none q hn)]; exact q
  frzs := fun b u xs q => by rw [upd_ne (ne_of_none q hn)]; exact q
  tbls := fun b ps q => ⟨#[], by rw [upd_ne (ne_of_none q hn), q]; simp⟩
theorem Un.write (mu : Mut (H x)) (he : e = x ∨ H e = some (.own x)) (k : ∀ b u, b ≠ e → h.get? b = some u → h'.get? b = some u) (heo : ∃ u, h'.get? e = some u) : Un fs ex H (upd H x o) h h' := by
  have hx : ∀ b, H b = none → b ≠ x := fun b n z => by subst z; rw [n] at mu; exact mu
  have hb : ∀ b, H b = none → b ≠ e := fun b n z => by
    subst z
    rcases he with r | r
    · exact hx b n r
    · rw [n] at r; cases r
  have hm : ∀ b u, H b = some u → ¬ Mut (some u) → b ≠ x := fun b u q nm z => by subst z; rw [q] at mu; exact nm mu
  refine ⟨fun b u q n _ _ => k b u (hb b n) q, fun b u q n _ _ => ⟨u.slots, k b u (hb b n) q⟩, fun b u q n _ => by rw [upd_ne (hx b n)]; exact n, fun b u q _ => ?_,
    fun b xs q => by rw [upd_ne (hm b _ q fun z => z)]; exact q, fun b u xs q => by rw [upd_ne (hm b _ q fun z => z)]; exact q, fun b ps q => ⟨#[], by rw [upd_ne (hm b _ q fun z => z), q]; simp⟩⟩
  by_cases hbe : b = e
  · subst hbe; exact heo
  · exact ⟨u, k b u hbe q⟩
theorem Un.mono (u : Un fs ex H H1 h h1) (hs : ∀ b ∈ fs, b ∈ fs') (hx : ∀ b ∈ ex, b ∈ ex') : Un fs' ex' H H1 h h1 :=
  ⟨fun b ob q n hb he => u.keep b ob q n (fun z => hb (hs b z)) fun z => he (hx b z), fun _ _ q n _ he => u.any q n fun z => he (hx _ z), fun b ob q n he => u.free b ob q n fun z => he (hx b z), fun b ob q he => u.there b ob q fun z => he (hx b z), u.tups, u.frzs, u.tbls⟩
end

/-! ### the heap without what is tracked -/
def trk (h : Heap) (H : Hp) : List Addr := (List.range h.objs.size).filter fun a => (H a).isSome
def hidT (h : Heap) (H : Hp) : Heap := PySem.W.hideAll h (trk h H)
theorem hidT_size (h : Heap) (H : Hp) : (hidT h H).objs.size = h.objs.size := PySem.W.hideAll_size _ _
theorem hidT_get {h : Heap} {H : Hp} {b : Addr} {o : Obj} (e : h.get? b = some o) (n : H b = none) : (hidT h H).get? b = some o :=
  PySem.W.hideAll_get _ e fun hm => by
    have q : (H b).isSome = true := (List.mem_filter.mp hm).2
    rw [n] at q; simp at q
theorem of_hidT {h : Heap} {H : Hp} {b : Addr} {o : Obj} (e : (hidT h H).get? b = some o) : h.get? b = some o ∧ H b = none := by
  have e' : h.get? b = some o := PySem.W.of_hideAll (trk h H) e
  refine ⟨e', ?_⟩
  cases q : H b with
  | none => rfl
  | some x =>
    have hm : b ∈ trk h H := List.mem_filter.mpr ⟨List.mem_range.mpr (Heap.lt_size e'), by simp [q]⟩
    have z : (hidT h H).get? b = none := PySem.W.hideAll_none (trk h H) hm
    rw [z] at e; cases e

/-! ### OpenK's ledger, filled with every new object but one -/
def allNews (g h : Heap) (L : Addr) : List (Addr × Obj) := (List.range h.objs.size).filterMap fun a => if a = L ∨ (g.get? a).isSome = true then none else (h.get? a).map fun o => (a, o)
theorem mem_allNews {g h : Heap} {L a : Addr} {o : Obj} (h1 : a ≠ L) (h2 : g.get? a = none) (h3 : h.get? a = some o) : (a, o) ∈ allNews g h L :=
  List.mem_filterMap.mpr ⟨a, List.mem_range.mpr (Heap.lt_size h3), by simp [h1, h2, h3]⟩
theorem of_mem_allNews {g h : Heap} {L : Addr} {p : Addr × Obj} (hp : p ∈ allNews g h L) : p.1 ≠ L ∧ g.get? p.1 = none ∧ h.get? p.1 = some p.2 := by
  obtain ⟨b, _, e⟩ := List.mem_filterMap.mp hp
  split at e
  · cases e
  · rename_i hn
    cases q : h.get? b with
    | none => rw [q] at e; simp at e
    | some u =>
      rw [q] at e
      simp only [Option.map_some, Option.some.injEq] at e
      subst e
      refine ⟨fun z => hn (.inl z), ?_, q⟩
      show g.get? b = none
      cases r : g.get? b with
      | none => rfl
      | some v => exact (hn (.inr (by simp [r]))).elim
def rest (g h : Heap) (L d : Addr) : List (Addr × Obj) := (allNews g h L).filter fun p => decide (p.1 ≠ d)
theorem rest_ne {g h : Heap} {L d : Addr} : ∀ p ∈ rest g h L d, p.1 ≠ d := fun p hp => of_decide_eq_true (List.mem_filter.mp hp).2
theorem mem_rest {g h : Heap} {L d a : Addr} {o : Obj} (h1 : a ≠ L) (h2 : g.get? a = none) (h3 : h.get? a = some o) (h4 : a ≠ d) : (a, o) ∈ rest g h L d :=
  List.mem_filter.mpr ⟨mem_allNews h1 h2 h3, decide_eq_true h4⟩
theorem news_all {g h : Heap} {L : Addr} : News g L h (allNews g h L) := fun p hp => let ⟨a, b, c⟩ := of_mem_allNews hp; ⟨c, a, b⟩
theorem news_at {g h : Heap} {L d : Addr} {o : Obj} (h1 : d ≠ L) (h2 : g.get? d = none) (h3 : h.get? d = some o) : News g L h ((d, o) :: rest g h L d) := fun p hp => by
  rcases List.mem_cons.mp hp with rfl | hp
  · exact ⟨h3, h1, h2⟩
  · exact news_all p (List.mem_filter.mp hp).1
/-- behind a rule that changed d alone: all else but the frame is kept -/
theorem kept_of_news {g h h' : Heap} {L d : Addr} {m : Str → Option Value} (k : ∀ b o, g.get? b = some o → h.get? b = some o) (F : Fr g L h' m) (N : News g L h' (rest g h L d)) :
    ∀ b o, b ≠ L → b ≠ d → h.get? b = some o → h'.get? b = some o := fun b o h1 h2 e => by
  cases q : g.get? b with
  | some u =>
    have := k b u q
    rw [e] at this; cases this
    exact F.keep b _ q
  | none => exact (N (b, o) (mem_rest h1 q e h2)).1
end L2

namespace L2
open PySem PySem.Spec PyProof.Rows

/-- the module's facts, over the base: the heap at the law's entry without what is tracked there -/
structure Mod (K : PySem.W.Frag) (mg : Str → Option Value) (base : Heap) : Prop where
  kin : K.In base
  glob : base.Ns mainGlobals mg
  blt : ∃ mb, base.Ns builtinsNs mb ∧ ∀ x : Str, x ≠ "__name__" → mb x = bootBuiltins x
  nolimit : base.NoLimit

/-- the context: a def's body (or a comprehension's block) running. base: fixed through the whole law; s₀, H₀: the entry; outer: the frames whose slots others may change (a def's callers); stack: all frames that run;
   ex: iterators that were made ahead of the entry and are walked here (a comprehension's); fn: the names whose cells were made at the entry (a def: all; a comprehension's block: its own); calm: not within an except suite; pn: pins that every state bears; xe: what is wanted of an exception that leaves the code -/
structure Cx where
  prog : Program
  w : World
  K : PySem.W.Frag
  mg : Str → Option Value
  base : Heap
  A : Around
  N : List Str
  s₀ : Shared
  H₀ : Hp
  env : Env
  outer : List Env
  stack : List Env
  ex : List Addr
  fn : Str → Bool
  calm : Bool
  pn : List (Addr × Obj)
  xe : Value → Shared → Prop
/-- the callers' frames -/
def frs (l : List Env) : List Addr := l.filterMap (·.frame)
abbrev Cx.fs (X : Cx) : List Addr := frs X.outer

def Vis (sc : Scope) (x : Str) : Prop := sc.names.lookup x = some .local ∨ sc.names.lookup x = some .cell ∨ sc.names.lookup x = some .free
def Loc (sc : Scope) (x : Str) : Prop := sc.names.lookup x = some .local ∨ sc.names.lookup x = some .cell
def Look (env : Env) (h : Heap) (m : Str → Option Value) (x : Str) (u : Value) : Prop :=
  (env.kindOf x = some .local ∧ m x = some u) ∨ ((env.kindOf x = some .cell ∨ env.kindOf x = some .free) ∧ ∃ c, env.cells.lookup x = some c ∧ h.IsCell c (some u))

structure Cx.Ok (X : Cx) : Prop where
  mod : Mod X.K X.mg X.base
  kind : X.env.scope.kind = .function
  glob : X.env.globals = mainGlobals
  blt : X.env.builtins = builtinsNs
  above : X.s₀.heap.objs.size ≤ X.env.locals
  inj : ∀ x y c, X.env.cells.lookup x = some c → X.env.cells.lookup y = some c → x = y
  has : ∀ x, (X.env.kindOf x = some .cell ∨ X.env.kindOf x = some .free) → ∃ c, X.env.cells.lookup x = some c
  cab : ∀ x c, X.fn x = true → X.env.cells.lookup x = some c → X.s₀.heap.objs.size ≤ c
  hd : X.calm = true → X.A.handled = none
  frames : X.A.frames = some X.stack
  stk : X.stack = X.outer ∨ (X.stack = X.env :: X.outer ∧ X.env.frame = some X.env.locals)
  exf : ∀ b ∈ X.ex, b ≠ X.env.locals ∧ ∀ x c, X.env.cells.lookup x = some c → c ≠ b
  bs : ∀ b o, X.base.get? b = some o → X.s₀.heap.get? b = some o ∧ X.H₀ b = none
  bsz : X.base.objs.size ≤ X.s₀.heap.objs.size
  noex : ∀ b o, X.base.get? b = some o → b ∉ X.ex
  exfs : ∀ b ∈ X.ex, b ∉ X.fs
  funs : X.s₀.heap.FunFrames X.base X.outer
  frf : ∀ b ∈ X.fs, X.H₀ b = none

structure Inv (X : Cx) (pins : List (Addr × Obj)) (σ : List (Option V)) (H : Hp) (s : Shared) : Prop where
  ok : X.Ok
  os : s.os = X.s₀.os
  bare : AllBare s.gens
  base : Un X.fs X.ex X.H₀ H X.s₀.heap s.heap
  loc : ∃ m, s.heap.Ns X.env.locals m ∧ ∀ (i : Nat) (x : Str) (v : V), X.N[i]? = some x → σ[i]? = some (some v) → Vis X.env.scope x → ∃ u, RelV v u ∧ Look X.env s.heap m x u
  cell : ∀ x c, X.env.cells.lookup x = some c → ∃ v, s.heap.IsCell c v
  free : H X.env.locals = none
  freeC : ∀ x c, X.env.cells.lookup x = some c → H c = none
  pin : ∀ p ∈ X.pn ++ pins, s.heap.get? p.1 = some p.2 ∧ H p.1 = none ∧ p.1 ≠ X.env.locals ∧ p.1 ∉ X.fs ∧ ∀ v, p.2.data ≠ .cell v
  hok : HOk X.prog X.w H s.heap
  len : σ.length = X.N.length

section
variable {X : Cx} {pins : List (Addr × Obj)} {σ : List (Option V)} {H H' : Hp} {s : Shared} {h' : Heap}

theorem Cx.Ok.nofr (ok : X.Ok) {b : Addr} {o : Obj} (e : X.base.get? b = some o) : b ∉ X.fs := fun hb => by
  have := (ok.funs.mem hb).1
  rw [e] at this; cases this
theorem Inv.bs (I : Inv X pins σ H s) : ∀ b o, X.base.get? b = some o → s.heap.get? b = some o ∧ H b = none := fun b o e =>
  ⟨I.base.keep b o (I.ok.bs b o e).1 (I.ok.bs b o e).2 (I.ok.nofr e) (I.ok.noex b o e), I.base.free b o (I.ok.bs b o e).1 (I.ok.bs b o e).2 (I.ok.noex b o e)⟩
theorem Inv.bk (I : Inv X pins σ H s) : ∀ b o, X.base.get? b = some o → s.heap.get? b = some o := fun b o e => (I.bs b o e).1
theorem Inv.mod (I : Inv X pins σ H s) : Mod X.K X.mg X.base := I.ok.mod
theorem Inv.kIn (I : Inv X pins σ H s) : X.K.In s.heap := I.ok.mod.kin.keeps I.bk
theorem Inv.nolimit (I : Inv X pins σ H s) : s.heap.NoLimit := I.ok.mod.nolimit.keeps I.bk
/-- the frame over the base: for OpenK's rules (K.In X.base is I.mod.kin) -/
theorem Inv.fr (I : Inv X pins σ H s) : ∃ m, Fr X.base X.env.locals s.heap m :=
  let ⟨m, hn, _⟩ := I.loc
  ⟨m, hn, I.bk, Nat.le_trans I.ok.bsz I.ok.above⟩
theorem Inv.lt (I : Inv X pins σ H s) : X.env.locals < s.heap.objs.size := let ⟨_, hn, _⟩ := I.loc; hn.lt
theorem Inv.sz (I : Inv X pins σ H s) : X.s₀.heap.objs.size ≤ s.heap.objs.size := Nat.le_trans I.ok.above (Nat.le_of_lt I.lt)
theorem Inv.nofs (I : Inv X pins σ H s) {a : Addr} (h : s.heap.objs.size ≤ a) : a ∉ X.fs := fun hb => by
  obtain ⟨_, o, ho, _⟩ := I.ok.funs.mem hb
  exact absurd (Nat.lt_of_lt_of_le (Heap.lt_size ho) (Nat.le_trans I.sz h)) (Nat.lt_irrefl _)
theorem Inv.cne (I : Inv X pins σ H s) : ∀ x c, X.env.cells.lookup x = some c → c ≠ X.env.locals := fun x c e z => by
  obtain ⟨v, o, ho, hd⟩ := I.cell x c e
  obtain ⟨m, ⟨o', es, ep, ho', hd', _⟩, _⟩ := I.loc
  rw [z, ho'] at ho; cases ho; rw [hd'] at hd; cases hd
theorem Inv.funs (I : Inv X pins σ H s) : s.heap.FunFrames X.base X.outer := by
  have all : ∀ (l : List Env), (∀ b ∈ frs l, b ∈ X.fs) → X.s₀.heap.FunFrames X.base l → s.heap.FunFrames X.base l := by
    intro l
    induction l with
    | nil => intro _ _; trivial
    | cons env r ih =>
      intro hs hl
      obtain ⟨hk, ⟨L, o, hf, hn, ho, hd⟩, hr⟩ := hl
      have hL : L ∈ X.fs := hs L (by unfold frs; rw [List.filterMap_cons, hf]; exact List.mem_cons_self)
      obtain ⟨sl, e⟩ := I.base.slot L o ho (I.ok.frf L hL) hL fun z => I.ok.exfs L z hL
      exact ⟨hk, ⟨L, _, hf, hn, e, hd⟩, ih (fun b hb => hs b (by unfold frs; rw [List.filterMap_cons, hf]; exact List.mem_cons_of_mem _ hb)) hr⟩
  exact all X.outer (fun _ hb => hb) I.ok.funs

/-- the frames that run, for a call -/
theorem Inv.stack (I : Inv X pins σ H s) : s.heap.FunFrames X.base X.stack := by
  rcases I.ok.stk with e | ⟨e, hf⟩
  · rw [e]; exact I.funs
  · rw [e]
    obtain ⟨m, hn, _⟩ := I.loc
    refine .cons (by rw [I.ok.kind]; decide) hf hn ?_ I.funs
    exact Heap.get?_none_of_le (Nat.le_trans I.ok.bsz I.ok.above)
theorem Inv.stkSub (I : Inv X pins σ H s) : ∀ b ∈ frs X.stack, b ∈ X.env.locals :: X.fs := fun b hb => by
  rcases I.ok.stk with e | ⟨e, hf⟩
  · rw [e] at hb; exact List.mem_cons_of_mem _ hb
  · rw [e] at hb
    unfold frs at hb
    rw [List.filterMap_cons, hf] at hb
    exact hb
theorem Inv.stkFree (I : Inv X pins σ H s) : ∀ b ∈ frs X.stack, H b = none := fun b hb => by
  rcases List.mem_cons.mp (I.stkSub b hb) with e | hb
  · rw [e]; exact I.free
  · obtain ⟨_, o, ho, _⟩ := I.ok.funs.mem hb
    exact I.base.free b o ho (I.ok.frf b hb) fun z => I.ok.exfs b z hb

/-- THE STEP: the untracked objects but the frame and the records at ch are kept (the callers' frames up to slots), the frame's map is kept, the new abstract heap is held -/
theorem Inv.step {g' : Array GenState} {t' : Nat} {d' : Drawn} {ch : List Addr} (I : Inv X pins σ H s)
    (hch : ∀ b ∈ ch, (b ∈ X.ex ∨ X.s₀.heap.objs.size ≤ b) ∧ b ≠ X.env.locals ∧ (∀ x c, X.env.cells.lookup x = some c → c ≠ b) ∧ ∀ p ∈ X.pn ++ pins, p.1 ≠ b)
    (keep : ∀ b o, b ≠ X.env.locals → b ∉ X.fs → b ∉ ch → s.heap.get? b = some o → H b = none → h'.get? b = some o)
    (slot : ∀ b o, b ≠ X.env.locals → b ∈ X.fs → b ∉ ch → s.heap.get? b = some o → H b = none → ∃ sl, h'.get? b = some { o with slots := sl }) (free : ∀ b o, b ∉ ch → s.heap.get? b = some o → H b = none → H' b = none)
    (there : ∀ b o, b ∉ ch → s.heap.get? b = some o → ∃ o', h'.get? b = some o')
    (tups : ∀ b xs, H b = some (.tup xs) → H' b = some (.tup xs)) (frzs : ∀ b o u, H b = some (.frz o u) → H' b = some (.frz o u)) (tbls : ∀ b ps, H b = some (.tbl ps) → ∃ more, H' b = some (.tbl (ps ++ more)))
    (ns : ∀ m, s.heap.Ns X.env.locals m → h'.Ns X.env.locals m) (hok : HOk X.prog X.w H' h') (hg : AllBare g') :
    Inv X pins σ H' { s with heap := h', gens := g', drawn := d', toks := t' } := by
  have neL : ∀ b o, X.s₀.heap.get? b = some o → b ≠ X.env.locals := fun b o e => Nat.ne_of_lt (Nat.lt_of_lt_of_le (Heap.lt_size e) I.ok.above)
  have neC : ∀ b o, X.s₀.heap.get? b = some o → b ∉ X.ex → b ∉ ch := fun b o e hx hb => by
    rcases (hch b hb).1 with z | z
    · exact hx z
    · exact absurd (Nat.lt_of_lt_of_le (Heap.lt_size e) z) (Nat.lt_irrefl _)
  have cellK : ∀ x c, X.env.cells.lookup x = some c → ∀ v, s.heap.IsCell c v → h'.IsCell c v := fun x c e v ⟨o, ho, hd⟩ => by
    have nch : c ∉ ch := fun z => (hch c z).2.2.1 x c e rfl
    by_cases hc : c ∈ X.fs
    · obtain ⟨sl, q⟩ := slot c o (I.cne x c e) hc nch ho (I.freeC x c e)
      exact ⟨_, q, hd⟩
    · exact ⟨o, keep c o (I.cne x c e) hc nch ho (I.freeC x c e), hd⟩
  refine ⟨I.ok, I.os, hg, ⟨fun b o e n hb hx => ?_, fun b o e n hb hx => ?_, fun b o e n hx => ?_, fun b o e hx => ?_, fun b xs e => tups b xs (I.base.tups b xs e), fun b o xs e => frzs b o xs (I.base.frzs b o xs e), fun b ps e => ?_⟩, ?_, fun x c e => ?_, ?_, fun x c e => ?_, fun p hp => ?_, hok, I.len⟩
  · exact keep b o (neL b o e) hb (neC b o e hx) (I.base.keep b o e n hb hx) (I.base.free b o e n hx)
  · obtain ⟨sl, e1⟩ := I.base.slot b o e n hb hx
    obtain ⟨sl', e2⟩ := slot b _ (neL b o e) hb (neC b o e hx) e1 (I.base.free b o e n hx)
    exact ⟨sl', e2⟩
  · obtain ⟨o', e1⟩ := I.base.there b o e hx
    exact free b o' (neC b o e hx) e1 (I.base.free b o e n hx)
  · obtain ⟨o', e1⟩ := I.base.there b o e hx
    exact there b o' (neC b o e hx) e1
  · obtain ⟨m1, e1⟩ := I.base.tbls b ps e
    obtain ⟨m2, e2⟩ := tbls b _ e1
    exact ⟨m1 ++ m2, by rw [e2, Array.append_assoc]⟩
  · obtain ⟨m, hn, hl⟩ := I.loc
    refine ⟨m, ns m hn, fun i x v e1 e2 e3 => ?_⟩
    obtain ⟨u, r, l⟩ := hl i x v e1 e2 e3
    refine ⟨u, r, ?_⟩
    rcases l with l | ⟨k, c, e, z⟩
    · exact .inl l
    · exact .inr ⟨k, c, e, cellK x c e _ z⟩
  · obtain ⟨v, z⟩ := I.cell x c e
    exact ⟨v, cellK x c e v z⟩
  · obtain ⟨m, ⟨o, _, _, ho, _⟩, _⟩ := I.loc
    exact free _ o (fun z => (hch _ z).2.1 rfl) ho I.free
  · obtain ⟨v, o, ho, hd⟩ := I.cell x c e
    exact free c o (fun z => (hch c z).2.2.1 x c e rfl) ho (I.freeC x c e)
  · obtain ⟨e, n, ne, nf, d⟩ := I.pin p hp
    have nch : p.1 ∉ ch := fun z => (hch p.1 z).2.2.2 p hp rfl
    exact ⟨keep p.1 p.2 ne nf nch e n, free p.1 p.2 nch e n, ne, nf, d⟩
/-- .. where the frame's own object is kept too -/
theorem Inv.un {t' : Nat} (I : Inv X pins σ H s) (u : Un X.fs [] H H' s.heap h') (hok : HOk X.prog X.w H' h') : Inv X pins σ H' { s with heap := h', toks := t' } := by
  obtain ⟨m, ⟨o, es, ep, ho, r⟩, _⟩ := id I.loc
  obtain ⟨sl, hL⟩ := u.any ho I.free (by simp)
  exact I.step (g' := s.gens) (d' := s.drawn) (ch := []) (fun _ z => nomatch z) (fun b o _ hb _ e n => u.keep b o e n hb (by simp)) (fun b o _ hb _ e n => u.slot b o e n hb (by simp)) (fun b o _ e n => u.free b o e n (by simp)) (fun b o _ e => u.there b o e (by simp)) u.tups u.frzs u.tbls (fun m' hm => by
    obtain ⟨o', es', ep', ho', r'⟩ := hm
    rw [ho] at ho'; cases ho'
    exact ⟨_, es', ep', hL, r'⟩) hok I.bare
/-- behind a call (or a comprehension's block): the slots of this frame may have changed too, the records at ch may have turned -/
theorem Inv.call {g' : Array GenState} {t' : Nat} {d' : Drawn} {ch : List Addr} (I : Inv X pins σ H s) (u : Un (frs X.stack) ch H H' s.heap h') (hok : HOk X.prog X.w H' h') (hg : AllBare g')
    (hch : ∀ b ∈ ch, (b ∈ X.ex ∨ X.s₀.heap.objs.size ≤ b) ∧ b ≠ X.env.locals ∧ (∀ x c, X.env.cells.lookup x = some c → c ≠ b) ∧ ∀ p ∈ X.pn ++ pins, p.1 ≠ b) :
    Inv X pins σ H' { s with heap := h', gens := g', drawn := d', toks := t' } := by
  obtain ⟨m, ⟨o, es, ep, ho, r⟩, _⟩ := id I.loc
  obtain ⟨sl, hL⟩ := u.any ho I.free fun z => (hch _ z).2.1 rfl
  exact I.step (ch := ch) hch (fun b o hL hb hc e n => u.keep b o e n (fun z => (List.mem_cons.mp (I.stkSub b z)).elim hL hb) hc) (fun b o _ _ hc e n => u.any e n hc) (fun b o hc e n => u.free b o e n hc) (fun b o hc e => u.there b o e hc) u.tups u.frzs u.tbls (fun m' hm => by
    obtain ⟨o', es', ep', ho', r'⟩ := hm
    rw [ho] at ho'; cases ho'
    exact ⟨_, es', ep', hL, r'⟩) hok hg
/-- an untracked record of ours (an iterator) has turned -/
theorem Inv.turned {t' : Nat} {it : Addr} (I : Inv X pins σ H s) (k : ∀ b o, b ≠ it → s.heap.get? b = some o → h'.get? b = some o) (hn : H it = none) (hL : it ≠ X.env.locals)
    (h1 : it ∈ X.ex ∨ X.s₀.heap.objs.size ≤ it) (h2 : ∀ x c, X.env.cells.lookup x = some c → c ≠ it) (h3 : ∀ p ∈ X.pn ++ pins, p.1 ≠ it) : Inv X pins σ H { s with heap := h', toks := t' } := by
  have nit : ∀ b u, H b = some u → b ≠ it := fun b u e z => by rw [z, hn] at e; cases e
  refine I.step (g' := s.gens) (d' := s.drawn) (ch := [it]) (fun b hb => ?_) (fun b o _ _ hc e _ => k b o (fun z => hc (by simp [z])) e) (fun b o _ _ hc e _ => ⟨o.slots, k b o (fun z => hc (by simp [z])) e⟩) (fun _ _ _ _ n => n)
    (fun b o hc e => ⟨o, k b o (fun z => hc (by simp [z])) e⟩) (fun _ _ e => e) (fun _ _ _ e => e) (fun b ps e => ⟨#[], by rw [e]; simp⟩) (fun m hm => ?_) (fun b u e => ?_) I.bare
  · have e : b = it := by simpa using hb
    subst e
    exact ⟨h1, hL, h2, h3⟩
  · obtain ⟨o, es, ep, ho, r⟩ := hm
    exact ⟨o, es, ep, k _ o (Ne.symm hL) ho, r⟩
  · refine (I.hok b u e).stay (fun c v hc q => k c v ?_ q) (fun _ q => q) fun _ _ q => q
    rcases hc with z | z
    · rw [z]; exact nit b u e
    · exact nit c _ z
theorem Inv.tok (I : Inv X pins σ H s) (t : Nat) : Inv X pins σ H { s with toks := t } := I.un (h' := s.heap) (t' := t) Un.refl I.hok
/-- all objects kept -/
theorem Inv.kept {t' : Nat} (I : Inv X pins σ H s) (k : ∀ b u, s.heap.get? b = some u → h'.get? b = some u) : Inv X pins σ H { s with heap := h', toks := t' } := I.un (Un.kept k) (I.hok.kept k)
/-- a new object laid and tracked -/
theorem Inv.laid {a : Addr} {o : HO} {t' : Nat} (I : Inv X pins σ H s) (k : ∀ b u, s.heap.get? b = some u → h'.get? b = some u) (hp : s.heap.objs.size ≤ a) (new : ObjOk X.prog X.w (upd H a o) h' a o) :
    Inv X pins σ (upd H a o) { s with heap := h', toks := t' } := I.un (Un.laid k hp (I.hok.fresh hp)) (I.hok.laid k hp new)
/-- an object written -/
theorem Inv.write {x e : Addr} {o : HO} {t' : Nat} (I : Inv X pins σ H s) (mu : Mut (H x)) (he : e = x ∨ H e = some (.own x)) (k : ∀ b u, b ≠ e → s.heap.get? b = some u → h'.get? b = some u) (heo : ∃ u, h'.get? e = some u)
    (new : ObjOk X.prog X.w (upd H x o) h' x o) : Inv X pins σ (upd H x o) { s with heap := h', toks := t' } := I.un (Un.write mu he k heo) (I.hok.write mu he k heo new)
/-- forgetting slots, pins -/
theorem Inv.weak {σ' : List (Option V)} (I : Inv X pins σ H s) (hl : σ'.length = σ.length) (w : ∀ (i : Nat) v, σ'[i]? = some (some v) → σ[i]? = some (some v)) : Inv X pins σ' H s :=
  ⟨I.ok, I.os, I.bare, I.base, let ⟨m, hn, hl'⟩ := I.loc; ⟨m, hn, fun i x v e1 e2 e3 => hl' i x v e1 (w i v e2) e3⟩, I.cell, I.free, I.freeC, I.pin, I.hok, hl.trans I.len⟩
theorem Inv.pins_of {pins' : List (Addr × Obj)} (I : Inv X pins σ H s) (h : ∀ p ∈ pins', s.heap.get? p.1 = some p.2 ∧ H p.1 = none ∧ p.1 ≠ X.env.locals ∧ p.1 ∉ X.fs ∧ ∀ v, p.2.data ≠ .cell v) : Inv X pins' σ H s :=
  ⟨I.ok, I.os, I.bare, I.base, I.loc, I.cell, I.free, I.freeC, fun p hp => (List.mem_append.mp hp).elim (fun z => I.pin p (List.mem_append_left _ z)) (h p), I.hok, I.len⟩

theorem nodup_ix {N : List Str} (hN : N.Nodup) {i j : Nat} {x : Str} (a : N[i]? = some x) (b : N[j]? = some x) : i = j := by
  obtain ⟨h1, e1⟩ := List.getElem?_eq_some_iff.mp a
  obtain ⟨h2, e2⟩ := List.getElem?_eq_some_iff.mp b
  exact (List.getElem_inj hN).mp (e1.trans e2.symm)

/-- a name is stored; what changed -/
theorem store_ok2 {M : Model} {A : Around} {E : Value → Shared → Prop} {i : Nat} {x : Str} {v : V} {u : Value} {Q : Unit → Shared → Prop} (I : Inv X pins σ H s) (hN : X.N.Nodup) (hi : X.N[i]? = some x) (hx : Loc X.env.scope x) (r : RelV v u)
    (h : ∀ s', Inv X pins (σ.set i (some v)) H s' → (∃ a, Heap.SameBut a s.heap s'.heap ∧ (a = X.env.locals ∨ X.env.cells.lookup x = some a)) → Q () s') (hf : X.fn x = true ∨ X.env.scope.names.lookup x = some .local := by first | exact .inl rfl | exact .inr rfl | assumption) : wpAny M A (storeName X.env x u) Q E s := by
  obtain ⟨m, hn, hl⟩ := id I.loc
  have hcls : (X.env.scope.kind == .class || (X.env.scope.kind == .module && X.env.locals != X.env.globals)) = false := by rw [I.ok.kind]; rfl
  have hiσ : i < σ.length := by rw [I.len]; exact (List.getElem?_eq_some_iff.mp hi).1
  have cne := I.cne
  have tracked : ∀ {a : Addr} {h' : Heap}, (∃ o, s.heap.get? a = some o ∧ H a = none) → Heap.SameBut a s.heap h' → HOk X.prog X.w H h' := fun {a h'} ha hs b ob e => by
    obtain ⟨_, _, hfree⟩ := ha
    refine (I.hok b ob e).stay (fun c w' hc q => (hs.2 c ?_).trans q) (fun _ q => q) fun _ _ q => q
    rintro rfl
    rcases hc with rfl | hc
    · rw [hfree] at e; cases e
    · rw [hfree] at hc; cases hc
  rcases hx with hk | hk
  · refine wpAny_storeName_local hk hn (fun h' hn' hs => ?_) hcls
    obtain ⟨oL, _, _, hoL, _⟩ := id hn
    refine h _ ⟨I.ok, I.os, I.bare, ⟨fun b o e n hb hx => ?_, fun b o e n hb hx => ?_, I.base.free, fun b o e hx => ?_, I.base.tups, I.base.frzs, I.base.tbls⟩, ⟨_, hn', fun j y v' e1 e2 e3 => ?_⟩, fun y c e => ?_, I.free, I.freeC, fun p hp => ?_, tracked ⟨oL, hoL, I.free⟩ hs, by simpa using I.len⟩ ⟨_, hs, .inl rfl⟩
    · exact (hs.2 b (Nat.ne_of_lt (Nat.lt_of_lt_of_le (Heap.lt_size e) I.ok.above))).trans (I.base.keep b o e n hb hx)
    · obtain ⟨sl, e1⟩ := I.base.slot b o e n hb hx
      exact ⟨sl, (hs.2 b (Nat.ne_of_lt (Nat.lt_of_lt_of_le (Heap.lt_size e) I.ok.above))).trans e1⟩
    · obtain ⟨o', e1⟩ := I.base.there b o e hx
      exact ⟨o', (hs.2 b (Nat.ne_of_lt (Nat.lt_of_lt_of_le (Heap.lt_size e) I.ok.above))).trans e1⟩
    · by_cases hj : j = i
      · subst hj
        rw [hi] at e1; cases e1
        rw [List.getElem?_set_self hiσ] at e2
        cases e2
        exact ⟨u, r, .inl ⟨hk, by simp⟩⟩
      · rw [List.getElem?_set_ne (Ne.symm hj)] at e2
        obtain ⟨u', r', q⟩ := hl j y v' e1 e2 e3
        refine ⟨u', r', ?_⟩
        rcases q with ⟨k, e⟩ | ⟨k, c, e, z⟩
        · refine .inl ⟨k, ?_⟩
          have : y ≠ x := fun e => hj (nodup_ix hN e1 (e ▸ hi))
          simp [this, e]
        · exact .inr ⟨k, c, e, z.sameBut hs (cne y c e)⟩
    · obtain ⟨w', z⟩ := I.cell y c e
      exact ⟨w', z.sameBut hs (cne y c e)⟩
    · obtain ⟨e, n, ne, nf, d⟩ := I.pin p hp
      exact ⟨(hs.2 p.1 ne).trans e, n, ne, nf, d⟩
  · have hfn : X.fn x = true := by
      rcases hf with z | z
      · exact z
      · rw [z] at hk; cases hk
    obtain ⟨c, hc⟩ := I.ok.has x (.inl hk)
    obtain ⟨w', z⟩ := I.cell x c hc
    refine wpAny_storeName_cell I.ok.kind hk hc z (fun h' hc' hs => ?_)
    obtain ⟨oc, hoc, hocd⟩ := id z
    refine h { s with heap := h' } ⟨I.ok, I.os, I.bare, ⟨fun b o e n hb hx => ?_, fun b o e n hb hx => ?_, I.base.free, fun b o e hx => ?_, I.base.tups, I.base.frzs, I.base.tbls⟩, ⟨m, hn.sameBut hs (Ne.symm (cne x c hc)), fun j y v' e1 e2 e3 => ?_⟩, fun y c' e => ?_, I.free, I.freeC, fun p hp => ?_, tracked ⟨oc, hoc, I.freeC x c hc⟩ hs, by simpa using I.len⟩ ⟨c, hs, .inr hc⟩
    · exact (hs.2 b (Nat.ne_of_lt (Nat.lt_of_lt_of_le (Heap.lt_size e) (I.ok.cab x c hfn hc)))).trans (I.base.keep b o e n hb hx)
    · obtain ⟨sl, e1⟩ := I.base.slot b o e n hb hx
      exact ⟨sl, (hs.2 b (Nat.ne_of_lt (Nat.lt_of_lt_of_le (Heap.lt_size e) (I.ok.cab x c hfn hc)))).trans e1⟩
    · obtain ⟨o', e1⟩ := I.base.there b o e hx
      exact ⟨o', (hs.2 b (Nat.ne_of_lt (Nat.lt_of_lt_of_le (Heap.lt_size e) (I.ok.cab x c hfn hc)))).trans e1⟩
    · by_cases hj : j = i
      · subst hj
        rw [hi] at e1; cases e1
        rw [List.getElem?_set_self hiσ] at e2
        cases e2
        exact ⟨u, r, .inr ⟨.inl hk, c, hc, hc'⟩⟩
      · rw [List.getElem?_set_ne (Ne.symm hj)] at e2
        obtain ⟨u', r', q⟩ := hl j y v' e1 e2 e3
        refine ⟨u', r', ?_⟩
        rcases q with q | ⟨k, c', e, z'⟩
        · exact .inl q
        · refine .inr ⟨k, c', e, z'.sameBut hs ?_⟩
          rintro rfl
          exact hj (nodup_ix hN e1 (I.ok.inj _ _ _ e hc ▸ hi))
    · by_cases hcc : c' = c
      · subst hcc; exact ⟨_, hc'⟩
      · obtain ⟨w2, z2⟩ := I.cell y c' e
        exact ⟨w2, z2.sameBut hs hcc⟩
    · obtain ⟨e, n, ne, nf, d⟩ := I.pin p hp
      refine ⟨(hs.2 p.1 ?_).trans e, n, ne, nf, d⟩
      intro q
      rw [q, hoc] at e
      have q' : oc = p.2 := Option.some.inj e
      exact d w' (by rw [← q']; exact hocd)
theorem store_ok {M : Model} {A : Around} {E : Value → Shared → Prop} {i : Nat} {x : Str} {v : V} {u : Value} {Q : Unit → Shared → Prop} (I : Inv X pins σ H s) (hN : X.N.Nodup) (hi : X.N[i]? = some x) (hx : Loc X.env.scope x) (r : RelV v u)
    (h : ∀ s', Inv X pins (σ.set i (some v)) H s' → Q () s') (hf : X.fn x = true ∨ X.env.scope.names.lookup x = some .local := by first | exact .inl rfl | exact .inr rfl | assumption) : wpAny M A (storeName X.env x u) Q E s :=
  store_ok2 I hN hi hx r (fun s' I' _ => h s' I') hf
/-- behind a call or a block, the state as it is -/
theorem Inv.call' {s' : Shared} {ch : List Addr} (I : Inv X pins σ H s) (ho : s'.os = s.os) (u : Un (frs X.stack) ch H H' s.heap s'.heap) (hok : HOk X.prog X.w H' s'.heap) (hg : AllBare s'.gens)
    (hch : ∀ b ∈ ch, (b ∈ X.ex ∨ X.s₀.heap.objs.size ≤ b) ∧ b ≠ X.env.locals ∧ (∀ x c, X.env.cells.lookup x = some c → c ≠ b) ∧ ∀ p ∈ X.pn ++ pins, p.1 ≠ b) : Inv X pins σ H' s' := by
  obtain ⟨h', g', d', t', o'⟩ := s'
  have e : o' = s.os := ho
  subst e
  exact I.call (g' := g') (t' := t') (d' := d') u hok hg hch
end

/-! ### the judgements -/
/-- an exception: its class, its own dict's address (where it has one), the abstract heap behind it -/
abbrev XK := Value → Option Addr → Hp → Prop
abbrev St := List (Option V)
abbrev VK := V → Hp → Prop
/-- an expression's reading; a test's; an argument list's -/
abbrev TE := St → Hp → VK → Prop
abbrev TT := St → Hp → (Bool → Hp → Prop) → Prop
abbrev TA := St → Hp → (List V → Hp → Prop) → Prop
/-- what is wanted behind a statement -/
structure Ends where
  nx : St → Hp → Prop
  rt : VK
  bk : St → Hp → Prop := fun _ _ => False
  ct : St → Hp → Prop := fun _ _ => False
abbrev TS := Ends → St → Hp → Prop

def EP (X : Cx) (pins : List (Addr × Obj)) (σ : St) (Q : VK) (u : Value) (s' : Shared) : Prop := ∃ v H', Inv X pins σ H' s' ∧ RelV v u ∧ Q v H'
def TP (X : Cx) (pins : List (Addr × Obj)) (σ : St) (Q : Bool → Hp → Prop) (b : Bool) (s' : Shared) : Prop := ∃ H', Inv X pins σ H' s' ∧ Q b H'
def AP (X : Cx) (pins : List (Addr × Obj)) (σ : St) (Q : List V → Hp → Prop) (us : List Value) (s' : Shared) : Prop := ∃ vs H', Inv X pins σ H' s' ∧ Vals vs us ∧ Q vs H'
def SP (X : Cx) (pins : List (Addr × Obj)) (D : Ends) (f : Flow) (s' : Shared) : Prop :=
  match f with
  | .next => ∃ σ' H', Inv X pins σ' H' s' ∧ D.nx σ' H'
  | .brk => ∃ σ' H', Inv X pins σ' H' s' ∧ D.bk σ' H'
  | .cont => ∃ σ' H', Inv X pins σ' H' s' ∧ D.ct σ' H'
  | .ret u => ∃ v σ' H', Inv X pins σ' H' s' ∧ RelV v u ∧ D.rt v H'

def PE (X : Cx) (e : Expr) (t : TE) : Prop :=
  ∀ (pins : List (Addr × Obj)) (s : Shared) (σ : St) (H : Hp) (Q : VK), Inv X pins σ H s → t σ H Q → wpAny (model X.prog X.w) X.A (eval e X.env) (EP X pins σ Q) X.xe s
def PT (X : Cx) (e : Expr) (t : TT) : Prop :=
  ∀ (pins : List (Addr × Obj)) (s : Shared) (σ : St) (H : Hp) (Q : Bool → Hp → Prop), Inv X pins σ H s → t σ H Q → wpAny (model X.prog X.w) X.A (isTrue e X.env (eval e X.env)) (TP X pins σ Q) X.xe s
/-- a test whatever its 'whole' is (and, or) -/
def PW (X : Cx) (e : Expr) (t : TT) : Prop :=
  ∀ (whole : Sem Value) (pins : List (Addr × Obj)) (s : Shared) (σ : St) (H : Hp) (Q : Bool → Hp → Prop), Inv X pins σ H s → t σ H Q → wpAny (model X.prog X.w) X.A (isTrue e X.env whole) (TP X pins σ Q) X.xe s
theorem PW.pt {X : Cx} {e : Expr} {t : TT} (h : PW X e t) : PT X e t := h _
/-- an argument list (no star), from the left -/
def PA (X : Cx) (es : List Expr) (t : TA) : Prop :=
  ∀ (pos : Pos) (pins : List (Addr × Obj)) (s : Shared) (σ : St) (H : Hp) (Q : List V → Hp → Prop), Inv X pins σ H s → t σ H Q → wpAny (model X.prog X.w) X.A (spliced (backTo pos (starEach es X.env))) (AP X pins σ Q) X.xe s
def PS (X : Cx) (st : Stmt) (t : TS) : Prop :=
  ∀ (pins : List (Addr × Obj)) (s : Shared) (σ : St) (H : Hp) (D : Ends), Inv X pins σ H s → t D σ H → wpAny (model X.prog X.w) X.A (exec st X.env) (SP X pins D) X.xe s
def PSs (X : Cx) (st : List Stmt) (t : TS) : Prop :=
  ∀ (pins : List (Addr × Obj)) (s : Shared) (σ : St) (H : Hp) (D : Ends), Inv X pins σ H s → t D σ H → wpAny (model X.prog X.w) X.A (execs st X.env) (SP X pins D) X.xe s
/-- weaken the end -/
theorem thn {α : Type} {t : Sem α} {Q Q' : α → Shared → Prop} {M : Model} {A : Around} {E : Value → Shared → Prop} {s : Shared} (h : wpAny M A t Q E s) (hQ : ∀ a s, Q a s → Q' a s) : wpAny M A t Q' E s := wpAny_mono h hQ fun _ _ x => x
end L2

namespace L2
open PySem PySem.Spec PyProof.Rows
section
variable {X : Cx}

/-- two expressions in a row -/
theorem bin {a b : Expr} {ta tb : TE} (ha : PE X a ta) (hb : PE X b tb) {pins : List (Addr × Obj)} {s : Shared} {σ : St} {H : Hp} {R : V → V → Hp → Prop} (I : Inv X pins σ H s) (h : ta σ H fun x H1 => tb σ H1 fun y H2 => R x y H2)
    {α : Type} {Q : α → Shared → Prop} {f : Value → Value → Sem α}
    (hf : ∀ v u s2 x y H2, Inv X pins σ H2 s2 → RelV x v → RelV y u → R x y H2 → wpAny (model X.prog X.w) X.A (f v u) Q X.xe s2) :
    wpAny (model X.prog X.w) X.A (eval a X.env) (fun v s₁ => wpAny (model X.prog X.w) X.A (eval b X.env) (fun u s₂ => wpAny (model X.prog X.w) X.A (f v u) Q X.xe s₂) X.xe s₁) X.xe s := by
  refine thn (ha pins s σ H _ I h) fun v s1 ⟨x, H1, I1, r1, q1⟩ => ?_
  refine thn (hb pins s1 σ H1 _ I1 q1) fun u s2 ⟨y, H2, I2, r2, q2⟩ => ?_
  exact hf v u s2 x y H2 I2 r1 r2 q2

/-! ### names and constants -/
def tVar (i : Nat) : TE := fun σ H Q => ∃ v, σ[i]? = some (some v) ∧ Q v H
def tC (v : V) : TE := fun _ H Q => Q v H
theorem pe_var {i : Nat} {x : Str} {pos : Pos} (hN : X.N[i]? = some x) (hv : Vis X.env.scope x) (hd : (x == ("__debug__" : Str)) = false := by decide) (hcd : (x == ("__classdict__" : Str)) = false := by decide) : PE X (.Name x pos) (tVar i) := by
  intro pins s σ H Q I h
  obtain ⟨v, e, h⟩ := h
  obtain ⟨m, hn, hl⟩ := I.loc
  obtain ⟨u, r, l⟩ := hl i x v hN e hv
  have fin : EP X pins σ Q u s := ⟨v, H, I, r, h⟩
  rcases l with ⟨hk, hm⟩ | ⟨hk, c, hc, hcell⟩
  · exact wpAny_Name (wpAny_loadName_local I.ok.kind hk hn hm fin) hd
  · rcases hk with hk | hk
    · exact wpAny_Name (wpAny_loadName_cell I.ok.kind hk hc hcell fin) hd
    · exact wpAny_Name (wpAny_loadName_free I.ok.kind hk hc hcell fin hcd) hd
theorem pe_int {i j pos} : PE X (.Constant (.int i) j pos) (tC (.int i)) := fun _ _ _ H _ I h => wpAny_Constant_int ⟨.int i, H, I.tok _, ⟨_, rfl⟩, h⟩
theorem pe_bl {b j pos} : PE X (.Constant (.bool b) j pos) (tC (.bl b)) := fun _ _ _ H _ I h => Constant_bool ⟨.bl b, H, I, rfl, h⟩
theorem pe_non {j pos} : PE X (.Constant .none j pos) (tC .non) := fun _ _ _ H _ I h => Constant_none ⟨.non, H, I, rfl, h⟩
theorem pe_str {x j pos} : PE X (.Constant (.str x) j pos) (tC (.str x)) := fun _ _ _ H _ I h => Calls.Constant_str ⟨.str x, H, I.tok _, ⟨_, rfl⟩, h⟩

/-- a global name of the def -/
def Gl (X : Cx) (x : Str) : Prop := X.env.kindOf x = some .globalImplicit
theorem ld_glob {E : Value → Shared → Prop} {pins : List (Addr × Obj)} {s : Shared} {σ : St} {H : Hp} {x : Str} {u : Value} {pos : Pos} {Q : Value → Shared → Prop} (I : Inv X pins σ H s) (hg : Gl X x) (hm : X.mg x = some u) (h : Q u s)
    (hd : (x == ("__debug__" : Str)) = false := by decide) : wpAny (model X.prog X.w) X.A (eval (.Name x pos) X.env) Q E s :=
  Calls.Name_function_global I.ok.kind hg (Calls.loadGlobal_global (by rw [I.ok.glob]; exact I.mod.glob.keeps I.bk) hm h) hd
theorem ld_blt {E : Value → Shared → Prop} {pins : List (Addr × Obj)} {s : Shared} {σ : St} {H : Hp} {x : Str} {u : Value} {pos : Pos} {Q : Value → Shared → Prop} (I : Inv X pins σ H s) (hg : Gl X x) (hm : X.mg x = none) (hv : bootBuiltins x = some u) (h : Q u s)
    (hn : x ≠ "__name__" := by decide) (hd : (x == ("__debug__" : Str)) = false := by decide) : wpAny (model X.prog X.w) X.A (eval (.Name x pos) X.env) Q E s := by
  obtain ⟨mb, h1, h2⟩ := I.mod.blt
  exact Calls.Name_function_global I.ok.kind hg (Calls.loadGlobal_builtin (by rw [I.ok.glob]; exact I.mod.glob.keeps I.bk) hm (by rw [I.ok.blt]; exact h1.keeps I.bk) ((h2 x hn).trans hv) h) hd
/-- a module's constant, a class, a function, as a value -/
theorem pe_glob {x : Str} {v : V} {u : Value} {pos : Pos} (hg : Gl X x) (hm : X.mg x = some u) (r : RelV v u) (hd : (x == ("__debug__" : Str)) = false := by decide) : PE X (.Name x pos) (tC v) :=
  fun _ _ _ H _ I h => ld_glob I hg hm ⟨v, H, I, r, h⟩ hd
theorem pe_bltn {x : Str} {v : V} {u : Value} {pos : Pos} (hg : Gl X x) (hm : X.mg x = none) (hv : bootBuiltins x = some u) (r : RelV v u) (hn : x ≠ "__name__" := by decide) (hd : (x == ("__debug__" : Str)) = false := by decide) : PE X (.Name x pos) (tC v) :=
  fun _ _ _ H _ I h => ld_blt I hg hm hv ⟨v, H, I, r, h⟩ hn hd

/-! ### arithmetic -/
/-- two ints -/
def t2I (ta tb : TE) (k : Int → Int → Hp → Prop) : St → Hp → Prop := fun σ H => ta σ H fun x H1 => tb σ H1 fun y H2 => ∃ i j, x = .int i ∧ y = .int j ∧ k i j H2
def tAdd (ta tb : TE) : TE := fun σ H Q => t2I ta tb (fun i j H2 => Q (.int (i + j)) H2) σ H
def tSub (ta tb : TE) : TE := fun σ H Q => t2I ta tb (fun i j H2 => Q (.int (i - j)) H2) σ H
/-- the left factor below 2^64 -/
def tMul (ta tb : TE) : TE := fun σ H Q => t2I ta tb (fun i j H2 => (-(2 ^ 64) < i ∧ i < 2 ^ 64) ∧ Q (.int (i * j)) H2) σ H
variable {a b : Expr} {ta tb : TE} {pos : Pos}
theorem pe_add (ha : PE X a ta) (hb : PE X b tb) : PE X (.BinOp a .Add b pos) (tAdd ta tb) := by
  intro pins s σ H Q I h
  refine wpAny_BinOp (bin ha hb I h fun v u s2 x y H2 I2 rx ry q => ?_)
  obtain ⟨i, j, rfl, rfl, q⟩ := q
  obtain ⟨t, rfl⟩ := rx
  obtain ⟨t', rfl⟩ := ry
  exact add_int ⟨.int _, H2, I2.tok _, ⟨_, rfl⟩, q⟩
theorem pe_sub (ha : PE X a ta) (hb : PE X b tb) : PE X (.BinOp a .Sub b pos) (tSub ta tb) := by
  intro pins s σ H Q I h
  refine wpAny_BinOp (bin ha hb I h fun v u s2 x y H2 I2 rx ry q => ?_)
  obtain ⟨i, j, rfl, rfl, q⟩ := q
  obtain ⟨t, rfl⟩ := rx
  obtain ⟨t', rfl⟩ := ry
  exact sub_int ⟨.int _, H2, I2.tok _, ⟨_, rfl⟩, q⟩
theorem pe_mul (ha : PE X a ta) (hb : PE X b tb) : PE X (.BinOp a .Mult b pos) (tMul ta tb) := by
  intro pins s σ H Q I h
  refine wpAny_BinOp (bin ha hb I h fun v u s2 x y H2 I2 rx ry q => ?_)
  obtain ⟨i, j, rfl, rfl, ⟨q1, q2⟩, q⟩ := q
  obtain ⟨t, rfl⟩ := rx
  obtain ⟨t', rfl⟩ := ry
  exact mul_int ⟨.int _, H2, I2.tok _, ⟨_, rfl⟩, q⟩ (.of_left (intBits_le_64 q1 q2))

/-! ### comparisons -/
def PC (X : Cx) (op : CmpOp) (a b : Expr) (t : TE) : Prop :=
  ∀ (pins : List (Addr × Obj)) (s : Shared) (σ : St) (H : Hp) (Q : VK), Inv X pins σ H s → t σ H Q →
    wpAny (model X.prog X.w) X.A (eval a X.env) (fun v s₁ => wpAny (model X.prog X.w) X.A (eval b X.env) (fun u s₂ => wpAny (model X.prog X.w) X.A (compareOp op v u) (EP X pins σ Q) X.xe s₂) X.xe s₁) X.xe s
theorem nobehind (b : Expr) {op : CmpOp} (h : op ≠ .In) (h2 : op ≠ .NotIn) : behindInMarks op b = false := by
  have e1 : (op == CmpOp.In) = false := by cases op <;> first | rfl | exact absurd rfl h
  have e2 : (op == CmpOp.NotIn) = false := by cases op <;> first | rfl | exact absurd rfl h2
  cases b <;> simp [behindInMarks, e1, e2]
def tCmp (p : Int → Int → Bool) (ta tb : TE) : TE := fun σ H Q => t2I ta tb (fun i j H2 => Q (.bl (p i j)) H2) σ H
abbrev tLt : TE → TE → TE := tCmp fun i j => decide (i < j)
abbrev tLe : TE → TE → TE := tCmp fun i j => decide (i ≤ j)
abbrev tGt : TE → TE → TE := tCmp fun i j => decide (j < i)
abbrev tGe : TE → TE → TE := tCmp fun i j => decide (j ≤ i)
abbrev tEqI : TE → TE → TE := tCmp fun i j => decide (i = j)
abbrev tNeI : TE → TE → TE := tCmp fun i j => !decide (i = j)
/-- a comparison of two ints, by its rule -/
theorem pc_int {op : CmpOp} {p : Int → Int → Bool} (ha : PE X a ta) (hb : PE X b tb)
    (rule : ∀ (i j : Int) (t u : Tok) (Q : Value → Shared → Prop) (s : Shared), Q (.bool (p i j)) s → wpAny (model X.prog X.w) X.A (compareOp op (.int i t) (.int j u)) Q X.xe s) : PC X op a b (tCmp p ta tb) := by
  intro pins s σ H Q I h
  refine bin ha hb I h fun v u s2 x y H2 I2 rx ry q => ?_
  obtain ⟨i, j, rfl, rfl, q⟩ := q
  obtain ⟨t, rfl⟩ := rx
  obtain ⟨t', rfl⟩ := ry
  exact rule i j t t' _ s2 ⟨.bl _, H2, I2, rfl, q⟩
theorem pc_lt (ha : PE X a ta) (hb : PE X b tb) : PC X .Lt a b (tLt ta tb) := pc_int ha hb fun _ _ _ _ _ _ h => lt_int h
theorem pc_le (ha : PE X a ta) (hb : PE X b tb) : PC X .LtE a b (tLe ta tb) := pc_int ha hb fun _ _ _ _ _ _ h => le_int h
theorem pc_gt (ha : PE X a ta) (hb : PE X b tb) : PC X .Gt a b (tGt ta tb) := pc_int ha hb fun _ _ _ _ _ _ h => gt_int h
theorem pc_ge (ha : PE X a ta) (hb : PE X b tb) : PC X .GtE a b (tGe ta tb) := pc_int ha hb fun _ _ _ _ _ _ h => ge_int h
theorem pc_eqI (ha : PE X a ta) (hb : PE X b tb) : PC X .Eq a b (tEqI ta tb) := pc_int ha hb fun _ _ _ _ _ _ h => eq_int (by rw [Bool.beq_eq_decide_eq]; exact h)
theorem pc_neI (ha : PE X a ta) (hb : PE X b tb) : PC X .NotEq a b (tNeI ta tb) := pc_int ha hb fun _ _ _ _ _ _ h => ne_int (by rw [bne, Bool.beq_eq_decide_eq]; exact h)
/-- is None -/
def tIsN (ta : TE) : TE := fun σ H Q => ta σ H fun x H1 => Q (.bl (decide (x = .non))) H1
def tNotN (ta : TE) : TE := fun σ H Q => ta σ H fun x H1 => Q (.bl (!decide (x = .non))) H1
theorem RelV.none_iff {x : V} {v : Value} (r : RelV x v) : (v == Value.none) = decide (x = .non) := by
  cases x with
  | non => cases r; rfl
  | bl _ => cases r; rfl
  | int _ => obtain ⟨t, rfl⟩ := r; rfl
  | str _ => obtain ⟨t, rfl⟩ := r; rfl
  | byt _ => obtain ⟨t, rfl⟩ := r; rfl
  | flt _ => obtain ⟨t, rfl⟩ := r; rfl
  | ref _ => cases r; rfl
  | ty _ => cases r; rfl
theorem pc_isN {j pos'} (ha : PE X a ta) : PC X .Is a (.Constant .none j pos') (tIsN ta) := by
  intro pins s σ H Q I h
  refine thn (ha pins s σ H _ I h) fun v s1 ⟨x, H1, I1, r1, q1⟩ => ?_
  exact Constant_none (is_none_gen ⟨.bl _, H1, I1, by rw [r1.none_iff]; rfl, q1⟩)
theorem pc_notN {j pos'} (ha : PE X a ta) : PC X .IsNot a (.Constant .none j pos') (tNotN ta) := by
  intro pins s σ H Q I h
  refine thn (ha pins s σ H _ I h) fun v s1 ⟨x, H1, I1, r1, q1⟩ => ?_
  exact Constant_none (isnot_none_gen ⟨.bl _, H1, I1, by rw [r1.none_iff]; rfl, q1⟩)
/-- a comparison as a value, as a test -/
def tB (t : TE) : TT := fun σ H Q => t σ H fun x H1 => ∃ c, x = .bl c ∧ Q c H1
theorem pe_cmp {op : CmpOp} {t : TE} (h : PC X op a b t) (h1 : behindInMarks op b = false := by first | exact nobehind _ (by decide) (by decide) | rfl) : PE X (.Compare a [op] [b] pos) t := fun pins s σ H Q I hw => wpAny_Compare1 (h pins s σ H Q I hw) h1
theorem pt_cmp {op : CmpOp} {t : TE} (h : PC X op a b t) (h1 : behindInMarks op b = false := by first | exact nobehind _ (by decide) (by decide) | rfl) : PT X (.Compare a [op] [b] pos) (tB t) := by
  intro pins s σ H Q I hw
  refine wpAny_isTrue_Compare1 (thn (h pins s σ H _ I hw) fun v s1 h1 => thn h1 fun u s2 h2 => thn h2 fun c s3 ⟨x, H1, I1, r1, q1⟩ => ?_) h1
  obtain ⟨d, rfl, q⟩ := q1
  cases r1
  exact wpAny_truthy_bool ⟨H1, I1, q⟩
/-- an expression whose value is a bool, as a test -/
theorem pt_val {e : Expr} {t : TE} (h : PE X e t) (he : ∀ whole, isTrue e X.env whole = (do let v ← whole; standAt e.pos; holding [v] (truthy v)) := by intro _; rfl) : PT X e (tB t) := by
  intro pins s σ H Q I hw
  refine isTrue_plain (thn (h pins s σ H _ I hw) fun v s1 ⟨x, H1, I1, r1, q1⟩ => ?_) (he _)
  obtain ⟨d, rfl, q⟩ := q1
  cases r1
  exact wpAny_truthy_bool ⟨H1, I1, q⟩

/-! ### and, or, not -/
variable {tA tB' : TT} {rest : List Expr}
def tAnd (t u : TT) : TT := fun σ H Q => t σ H fun c H1 => if c = true then u σ H1 Q else Q false H1
def tOr (t u : TT) : TT := fun σ H Q => t σ H fun c H1 => if c = true then Q true H1 else u σ H1 Q
def tNot (t : TT) : TT := fun σ H Q => t σ H fun c H1 => Q (!c) H1
theorem pw_and1 (ha : PT X a tA) : PW X (.BoolOp .And [a] pos) tA := by
  intro wh pins s σ H Q I h
  refine isTrue_and (thn (ha pins s σ H Q I h) fun c s1 e => ?_)
  cases c with
  | true => exact isTrue_and_nil e
  | false => exact e
theorem pw_or1 (ha : PT X a tA) : PW X (.BoolOp .Or [a] pos) tA := by
  intro wh pins s σ H Q I h
  refine isTrue_or (thn (ha pins s σ H Q I h) fun c s1 e => ?_)
  cases c with
  | false => exact isTrue_or_nil e
  | true => exact e
theorem pw_and (ha : PT X a tA) (hb : PW X (.BoolOp .And (b :: rest) pos) tB') : PW X (.BoolOp .And (a :: b :: rest) pos) (tAnd tA tB') := by
  intro wh pins s σ H Q I h
  refine isTrue_and (thn (ha pins s σ H _ I h) fun c s1 ⟨H1, I1, q1⟩ => ?_)
  cases c with
  | true => exact hb wh pins s1 σ H1 Q I1 q1
  | false => exact ⟨H1, I1, q1⟩
theorem pw_or (ha : PT X a tA) (hb : PW X (.BoolOp .Or (b :: rest) pos) tB') : PW X (.BoolOp .Or (a :: b :: rest) pos) (tOr tA tB') := by
  intro wh pins s σ H Q I h
  refine isTrue_or (thn (ha pins s σ H _ I h) fun c s1 ⟨H1, I1, q1⟩ => ?_)
  cases c with
  | true => exact ⟨H1, I1, q1⟩
  | false => exact hb wh pins s1 σ H1 Q I1 q1
theorem pt_not (ha : PT X a tA) : PT X (.UnaryOp .Not a pos) (tNot tA) := by
  intro pins s σ H Q I h
  exact isTrue_not (ha pins s σ H (fun c H1 => Q (!c) H1) I h)
/-- .. as values (bools) -/
def tAndV (ta tb : TE) : TE := fun σ H Q => ta σ H fun x H1 => ∃ c, x = .bl c ∧ if c = true then tb σ H1 Q else Q (.bl false) H1
def tOrV (ta tb : TE) : TE := fun σ H Q => ta σ H fun x H1 => ∃ c, x = .bl c ∧ if c = true then Q (.bl true) H1 else tb σ H1 Q
def tNotV (ta : TE) : TE := fun σ H Q => ta σ H fun x H1 => ∃ c, x = .bl c ∧ Q (.bl (!c)) H1
theorem pe_one {op} {t : TE} (h : PE X a t) : PE X (.BoolOp op [a] pos) t := fun pins s σ H Q I hw => BoolOp_one (h pins s σ H Q I hw)
theorem pe_and (ha : PE X a ta) (hb : PE X (.BoolOp .And (b :: rest) pos) tb) : PE X (.BoolOp .And (a :: b :: rest) pos) (tAndV ta tb) := by
  intro pins s σ H Q I h
  refine BoolOp_and (thn (ha pins s σ H _ I h) fun v s1 ⟨x, H1, I1, r1, q1⟩ => ?_)
  obtain ⟨c, rfl, q1⟩ := q1
  cases r1
  refine wpAny_truthy_bool ?_
  cases c with
  | true => exact hb pins s1 σ H1 Q I1 q1
  | false => exact ⟨.bl false, H1, I1, rfl, q1⟩
theorem pe_or (ha : PE X a ta) (hb : PE X (.BoolOp .Or (b :: rest) pos) tb) : PE X (.BoolOp .Or (a :: b :: rest) pos) (tOrV ta tb) := by
  intro pins s σ H Q I h
  refine BoolOp_or (thn (ha pins s σ H _ I h) fun v s1 ⟨x, H1, I1, r1, q1⟩ => ?_)
  obtain ⟨c, rfl, q1⟩ := q1
  cases r1
  refine wpAny_truthy_bool ?_
  cases c with
  | false => exact hb pins s1 σ H1 Q I1 q1
  | true => exact ⟨.bl true, H1, I1, rfl, q1⟩
theorem pe_not (ha : PE X a ta) : PE X (.UnaryOp .Not a pos) (tNotV ta) := by
  intro pins s σ H Q I h
  refine UnaryOp_ (thn (ha pins s σ H _ I h) fun v s1 ⟨x, H1, I1, r1, q1⟩ => ?_)
  obtain ⟨c, rfl, q1⟩ := q1
  cases r1
  exact not_of (wpAny_truthy_bool ⟨.bl (!c), H1, I1, rfl, q1⟩)
/-- a if t else b -/
def tIf (t : TT) (ta tb : TE) : TE := fun σ H Q => t σ H fun c H1 => if c = true then ta σ H1 Q else tb σ H1 Q
theorem pe_ifExp {c : Expr} (hc : PT X c tA) (ha : PE X a ta) (hb : PE X b tb) : PE X (.IfExp c a b pos) (tIf tA ta tb) := by
  intro pins s σ H Q I h
  refine wpAny_IfExp (thn (hc pins s σ H _ I h) fun d s1 ⟨H1, I1, q1⟩ => ?_)
  cases d with
  | true => exact ha pins s1 σ H1 Q I1 q1
  | false => exact hb pins s1 σ H1 Q I1 q1
end
end L2

namespace L2
open PySem PySem.Spec PyProof.Rows

/-! ### a list, a tuple that is read: tracked, frozen, or an object of the module -/
def SqL (K : PySem.W.Frag) (H : Hp) (a : Addr) (xs : List V) : Prop :=
  Rd H a (.lst xs) ∨
    ∃ (o : Obj) (its : Array Value) (n : Nat), K.lookup a = some o ∧ o.cls = .type "list" ∧ o.dict = none ∧ o.data = .seq its n ∧ its.size ≤ sizeLine ∧ Vals xs its.toList
def SqT (K : PySem.W.Frag) (H : Hp) (a : Addr) (xs : List V) : Prop :=
  Rd H a (.tup xs) ∨
    ∃ (o : Obj) (its : Array Value) (n : Nat), K.lookup a = some o ∧ o.cls = .type "tuple" ∧ o.data = .seq its n ∧ its.size ≤ sizeLine ∧ Vals xs its.toList
def absV : Value → Option V
  | .none => some .non
  | .bool b => some (.bl b)
  | .int i _ => some (.int i)
  | .str x _ => some (.str x)
  | .bytes b _ => some (.byt b)
  | .float b _ => some (.flt b)
  | .ref a => some (.ref a)
  | .type n => some (.ty n)
  | _ => none
theorem RelV.abs {x : V} {u : Value} (r : RelV x u) : absV u = some x := by
  cases x with
  | non => cases r; rfl
  | bl _ => cases r; rfl
  | int _ => obtain ⟨t, rfl⟩ := r; rfl
  | str _ => obtain ⟨t, rfl⟩ := r; rfl
  | byt _ => obtain ⟨t, rfl⟩ := r; rfl
  | flt _ => obtain ⟨t, rfl⟩ := r; rfl
  | ref _ => cases r; rfl
  | ty _ => cases r; rfl
theorem RelV.inj {x y : V} {u : Value} (r : RelV x u) (q : RelV y u) : x = y := Option.some.inj (r.abs.symm.trans q.abs)
theorem Vals.inj : ∀ {xs ys : List V} {us : List Value}, Vals xs us → Vals ys us → xs = ys
  | _, _, _, .nil, .nil => rfl
  | _, _, _, .cons r t, .cons r' t' => by rw [r.inj r', Vals.inj t t']
section
variable {X : Cx} {pins : List (Addr × Obj)} {σ : St} {H : Hp} {s : Shared} {a : Addr} {xs ys : List V}
theorem SqL.of {K : PySem.W.Frag} (h : H a = some (.lst xs)) : SqL K H a xs := .inl (.inl h)
theorem SqT.of {K : PySem.W.Frag} (h : H a = some (.tup xs)) : SqT K H a xs := .inl (.inl h)
theorem Inv.list (I : Inv X pins σ H s) (h : SqL X.K H a xs) : ∃ its : List Value, Vals xs its ∧ PlainL s.heap a its.toArray ∧ xs.length ≤ sizeLine := by
  rcases h with h | ⟨o, its, n, hk, hc, hd, hs, hz, r⟩
  · obtain ⟨z, its, n, r, e⟩ := h.ok I.hok
    exact ⟨its, r, ⟨_, n, e, rfl, rfl, rfl⟩, z⟩
  · refine ⟨its.toList, r, ⟨o, n, I.kIn a o hk, hc, hd, by simpa using hs⟩, ?_⟩
    have e := r.length
    simp only [Array.length_toList] at e
    omega
theorem Inv.tuple (I : Inv X pins σ H s) (h : SqT X.K H a xs) : ∃ its : List Value, Vals xs its ∧ IsTup s.heap a its.toArray ∧ xs.length ≤ sizeLine := by
  rcases h with h | ⟨o, its, n, hk, hc, hs, hz, r⟩
  · obtain ⟨z, its, r, p⟩ := h.ok I.hok
    exact ⟨its, r, p, z⟩
  · refine ⟨its.toList, r, ⟨o, I.kIn a o hk, hc, n, by simpa using hs⟩, ?_⟩
    have e := r.length
    simp only [Array.length_toList] at e
    omega
theorem Inv.list_inj (I : Inv X pins σ H s) (h : SqL X.K H a xs) (h' : SqL X.K H a ys) : xs = ys := by
  obtain ⟨its, r, ⟨o, n, e, _, _, d⟩, _⟩ := I.list h
  obtain ⟨its', r', ⟨o', n', e', _, _, d'⟩, _⟩ := I.list h'
  rw [e] at e'; cases e'
  rw [d] at d'
  injection d' with d1 _
  have : its = its' := by simpa using congrArg Array.toList d1
  subst this
  exact r.inj r'
theorem Inv.tuple_inj (I : Inv X pins σ H s) (h : SqT X.K H a xs) (h' : SqT X.K H a ys) : xs = ys := by
  obtain ⟨its, r, ⟨o, e, _, n, d⟩, _⟩ := I.tuple h
  obtain ⟨its', r', ⟨o', e', _, n', d'⟩, _⟩ := I.tuple h'
  rw [e] at e'; cases e'
  rw [d] at d'
  injection d' with d1 _
  have : its = its' := by simpa using congrArg Array.toList d1
  subst this
  exact r.inj r'
end

/-! ### another wish about exceptions -/
abbrev Cx.wish (X : Cx) (E : Value → Shared → Prop) : Cx := { X with xe := E }
/-- no exception leaves -/
abbrev Cx.nox (X : Cx) : Cx := X.wish fun _ _ => False
theorem Cx.Ok.wish {X : Cx} (ok : X.Ok) (E : Value → Shared → Prop) : (X.wish E).Ok :=
  ⟨ok.mod, ok.kind, ok.glob, ok.blt, ok.above, ok.inj, ok.has, ok.cab, ok.hd, ok.frames, ok.stk, ok.exf, ok.bs, ok.bsz, ok.noex, ok.exfs, ok.funs, ok.frf⟩
theorem Cx.Ok.unwish {X : Cx} {E : Value → Shared → Prop} (ok : (X.wish E).Ok) : X.Ok :=
  ⟨ok.mod, ok.kind, ok.glob, ok.blt, ok.above, ok.inj, ok.has, ok.cab, ok.hd, ok.frames, ok.stk, ok.exf, ok.bs, ok.bsz, ok.noex, ok.exfs, ok.funs, ok.frf⟩
section
variable {X : Cx} {pins : List (Addr × Obj)} {σ : St} {H : Hp} {s : Shared} {E : Value → Shared → Prop}
theorem Inv.wish (I : Inv X pins σ H s) (E : Value → Shared → Prop) : Inv (X.wish E) pins σ H s := ⟨I.ok.wish E, I.os, I.bare, I.base, I.loc, I.cell, I.free, I.freeC, I.pin, I.hok, I.len⟩
theorem Inv.unwish (I : Inv (X.wish E) pins σ H s) : Inv X pins σ H s := ⟨I.ok.unwish, I.os, I.bare, I.base, I.loc, I.cell, I.free, I.freeC, I.pin, I.hok, I.len⟩
theorem SP.unwish {D : Ends} {f : Flow} {s' : Shared} (h : SP (X.wish E) pins D f s') : SP X pins D f s' := by
  cases f with
  | next => obtain ⟨σ', H', I, q⟩ := h; exact ⟨σ', H', I.unwish, q⟩
  | brk => obtain ⟨σ', H', I, q⟩ := h; exact ⟨σ', H', I.unwish, q⟩
  | cont => obtain ⟨σ', H', I, q⟩ := h; exact ⟨σ', H', I.unwish, q⟩
  | ret u => obtain ⟨v, σ', H', I, r, q⟩ := h; exact ⟨v, σ', H', I.unwish, r, q⟩
theorem PE.nox {e : Expr} {t : TE} (h : PE X.nox e t) : PE X e t := fun pins s σ H Q I hw =>
  wpAny_mono (h pins s σ H Q (I.wish _) hw) (fun _ _ ⟨v, H', I', r, q⟩ => ⟨v, H', I'.unwish, r, q⟩) fun _ _ z => False.elim z
theorem PT.nox {e : Expr} {t : TT} (h : PT X.nox e t) : PT X e t := fun pins s σ H Q I hw =>
  wpAny_mono (h pins s σ H Q (I.wish _) hw) (fun _ _ ⟨H', I', q⟩ => ⟨H', I'.unwish, q⟩) fun _ _ z => False.elim z
theorem PSs.nox {st : List Stmt} {t : TS} (h : PSs X.nox st t) : PSs X st t := fun pins s σ H D I hw =>
  wpAny_mono (h pins s σ H D (I.wish _) hw) (fun _ _ q => q.unwish) fun _ _ z => False.elim z
end

/-! ### blocks and small statements -/
section
variable {X : Cx} {st : Stmt} {rest : List Stmt} {t u : TS} {e : Expr} {te : TE} {pos : Pos}
def tNext : TS := fun D σ H => D.nx σ H
def tSeq (t u : TS) : TS := fun D σ H => t { D with nx := u D } σ H
theorem pss_nil : PSs X [] tNext := fun _ _ σ H _ I h => wpAny_execs_nil ⟨σ, H, I, h⟩
theorem pss_cons (h1 : PS X st t) (h2 : PSs X rest u) : PSs X (st :: rest) (tSeq t u) := by
  intro pins s σ H D I h
  refine wpAny_execs_cons (thn (h1 pins s σ H { D with nx := u D } I h) fun f s1 q => ?_)
  cases f with
  | next =>
    obtain ⟨σ', H', I', q⟩ := q
    exact h2 pins s1 σ' H' D I' q
  | ret v => exact q
  | brk => exact q
  | cont => exact q
theorem pss_one (h1 : PS X st t) : PSs X [st] t := by
  intro pins s σ H D I h
  refine wpAny_execs_cons (thn (h1 pins s σ H D I h) fun f s1 q => ?_)
  cases f with
  | next => exact wpAny_execs_nil q
  | ret v => exact q
  | brk => exact q
  | cont => exact q
def tBreak : TS := fun D σ H => D.bk σ H
def tCont : TS := fun D σ H => D.ct σ H
theorem ps_pass : PS X (.Pass pos) tNext := fun _ _ σ H _ I h => wpAny_Pass ⟨σ, H, I, h⟩
theorem ps_break : PS X (.Break pos) tBreak := fun _ _ σ H _ I h => wpAny_Break ⟨σ, H, I, h⟩
theorem ps_continue : PS X (.Continue pos) tCont := fun _ _ σ H _ I h => wpAny_Continue ⟨σ, H, I, h⟩
/-- in a def's body nothing is shown -/
theorem Inv.quiet {pins : List (Addr × Obj)} {σ : St} {H : Hp} {s : Shared} (I : Inv X pins σ H s) : interactive X.env = false := by simp [interactive, I.ok.kind]
/-- a docstring -/
theorem ps_doc {x j pos pos'} : PS X (.Expr (.Constant (.str x) j pos) pos') tNext := fun _ s σ H _ I h => wpAny_Expr (Calls.Constant_str (show SP X _ _ .next { s with toks := s.toks + 1 } from ⟨σ, H, I.tok _, h⟩)) I.quiet
/-- an expression whose value is dropped -/
def tDrop (te : TE) : TS := fun D σ H => te σ H fun _ H1 => D.nx σ H1
theorem ps_expr (he : PE X e te) (hs : swapsWith e none pos.line X.env = pure false := by rfl) : PS X (.Expr e pos) (tDrop te) := by
  intro pins s σ H D I h
  exact wpAny_Expr_any (thn (he pins s σ H _ I h) fun v s1 ⟨x, H1, I1, r1, q1⟩ => ⟨σ, H1, I1, q1⟩) I.quiet hs
def tRet (te : TE) : TS := fun D σ H => te σ H D.rt
theorem ps_ret (he : PE X e te) : PS X (.Return (some e) pos) (tRet te) := by
  intro pins s σ H D I h
  exact wpAny_Return_some (thn (he pins s σ H _ I h) fun v s1 ⟨x, H1, I1, r1, q1⟩ => ⟨x, σ, H1, I1, r1, q1⟩)
def tRetN : TS := fun D _ H => D.rt .non H
theorem ps_retN : PS X (.Return none pos) tRetN := fun _ _ σ H _ I h => wpAny_Return_none ⟨.non, σ, H, I, rfl, h⟩
def tIfS (c : TT) (t u : TS) : TS := fun D σ H => c σ H fun b H1 => if b = true then t D σ H1 else u D σ H1
theorem ps_if {c : Expr} {a b : List Stmt} {tc : TT} (hc : PT X c tc) (ha : PSs X a t) (hb : PSs X b u) : PS X (.If c a b pos) (tIfS tc t u) := by
  intro pins s σ H D I h
  refine wpAny_If (thn (hc pins s σ H _ I h) fun d s1 ⟨H1, I1, q1⟩ => ?_)
  cases d with
  | true => exact ha pins s1 σ H1 D I1 q1
  | false => exact hb pins s1 σ H1 D I1 q1
/-- code that the proof never comes to -/
def tNever : TS := fun _ _ _ => False
theorem ps_never : PS X st tNever := fun _ _ _ _ _ _ h => h.elim
theorem pss_never {sts : List Stmt} : PSs X sts tNever := fun _ _ _ _ _ _ h => h.elim
end

/-! ### targets -/
abbrev TG := V → St → Hp → (St → Hp → Prop) → Prop
abbrev TGs := List V → St → Hp → (St → Hp → Prop) → Prop
def PG (X : Cx) (target : Expr) (t : TG) : Prop :=
  ∀ (pins : List (Addr × Obj)) (s : Shared) (σ : St) (H : Hp) (v : V) (u : Value) (Q : St → Hp → Prop), Inv X pins σ H s → RelV v u → t v σ H Q →
    wpAny (model X.prog X.w) X.A (assign target X.env u) (fun _ s' => ∃ σ' H', Inv X pins σ' H' s' ∧ Q σ' H') X.xe s
/-- several targets, one after another -/
def PGs (X : Cx) (ts : List Expr) (t : TGs) : Prop :=
  ∀ (pins : List (Addr × Obj)) (s : Shared) (σ : St) (H : Hp) (vs : List V) (us : List Value) (Q : St → Hp → Prop), Inv X pins σ H s → Vals vs us → t vs σ H Q →
    wpAny (model X.prog X.w) X.A (assignInOrder ((assignEach ts X.env).map (·.2)) us) (fun _ s' => ∃ σ' H', Inv X pins σ' H' s' ∧ Q σ' H') X.xe s
/-- o[i] = v, by values -/
abbrev TSet := V → V → V → Hp → (Hp → Prop) → Prop
def PSet (X : Cx) (t : TSet) : Prop :=
  ∀ (pins : List (Addr × Obj)) (s : Shared) (σ : St) (H : Hp) (o i v : V) (ov iv u : Value) (Q : Hp → Prop), Inv X pins σ H s → RelV o ov → RelV i iv → RelV v u → t o i v H Q →
    wpAny (model X.prog X.w) X.A (setItem ov iv u) (fun _ s' => ∃ H', Inv X pins σ H' s' ∧ Q H') X.xe s
/-- a op= b, by values -/
abbrev TIp := V → V → Hp → VK → Prop
def PIp (X : Cx) (op : Operator) (t : TIp) : Prop :=
  ∀ (pins : List (Addr × Obj)) (s : Shared) (σ : St) (H : Hp) (x y : V) (v u : Value) (Q : VK), Inv X pins σ H s → RelV x v → RelV y u → t x y H Q →
    wpAny (model X.prog X.w) X.A (inplaceOp op v u) (EP X pins σ Q) X.xe s
section
variable {X : Cx} {pos : Pos}
def gName (i : Nat) : TG := fun v σ H Q => Q (σ.set i (some v)) H
theorem pg_name {i : Nat} {x : Str} (hN : X.N.Nodup) (hi : X.N[i]? = some x) (hx : Loc X.env.scope x) (hf : X.fn x = true ∨ X.env.scope.names.lookup x = some .local := by first | exact .inl rfl | exact .inr rfl | assumption) : PG X (.Name x pos) (gName i) := by
  intro pins s σ H v u Q I r h
  exact wpAny_assign_Name (store_ok I hN hi hx r (fun s' I' => ⟨_, H, I', h⟩) hf)
def gNil : TGs := fun vs σ H Q => vs = [] ∧ Q σ H
def gCons (t : TG) (u : TGs) : TGs := fun vs σ H Q => ∃ v r, vs = v :: r ∧ t v σ H fun σ' H' => u r σ' H' Q
theorem pgs_nil : PGs X [] gNil := by
  intro pins s σ H vs us Q I r h
  obtain ⟨e, h⟩ := h
  subst e
  cases r
  exact assignInOrder_nil ⟨σ, H, I, h⟩
theorem pgs_cons {e : Expr} {es : List Expr} {t : TG} {u : TGs} (h1 : PG X e t) (h2 : PGs X es u)
    (hs : (assignEach (e :: es) X.env).map (·.2) = assign e X.env :: (assignEach es X.env).map (·.2) := by rfl) : PGs X (e :: es) (gCons t u) := by
  intro pins s σ H vs us Q I r h
  obtain ⟨v, vr, e1, h⟩ := h
  subst e1
  cases r with
  | cons r rr =>
    rw [hs]
    refine assignInOrder_cons (thn (h1 pins s σ H _ _ _ I r h) fun _ s1 ⟨σ1, H1, I1, q1⟩ => ?_)
    exact h2 pins s1 σ1 H1 _ _ Q I1 rr q1
/-- (a, b, ..) = a tuple of that length -/
def gTup (K : PySem.W.Frag) (n : Nat) (t : TGs) : TG := fun v σ H Q => ∃ a xs, v = .ref a ∧ SqT K H a xs ∧ xs.length = n ∧ t xs σ H Q
theorem pg_tup {es : List Expr} {k : Nat} {t : TGs} {n : Nat} (hc : X.calm = true) (h : PGs X es t)
    (hn : (assignEach es X.env).length = n := by rfl) (hst : (assignEach es X.env).findIdx? (·.1) = none := by rfl) : PG X (.Tuple es k pos) (gTup X.K n t) := by
  intro pins s σ H v u Q I r hw
  obtain ⟨a, xs, e1, hq, hl, hw⟩ := hw
  subst e1
  cases r
  obtain ⟨its, rv, ht, hz⟩ := I.tuple hq
  refine assign_Tuple_tuple (I.ok.hd hc) ht (by simp [hn, ← hl, rv.length]) hst fun h' hx => ?_
  have I1 : Inv X pins σ H { s with heap := h' } := I.kept (t' := s.toks) fun b o e => hx b o (Nat.ne_of_lt (Heap.lt_size e)) e
  exact h pins _ σ H xs _ Q I1 (by simpa using rv) hw
/-- o[i] = .. -/
def gSub (to ti : TE) (t : TSet) : TG := fun v σ H Q => to σ H fun o H1 => ti σ H1 fun i H2 => t o i v H2 fun H3 => Q σ H3
theorem pg_sub {o i : Expr} {to ti : TE} {t : TSet} (ho : PE X o to) (hi : PE X i ti) (hs : PSet X t)
    (ha : ∀ v, assign (.Subscript o i pos) X.env v = (do
      let ov ← holding [v] (eval o X.env)
      let iv ← holding [v, ov] (eval i X.env)
      standAt pos
      holding [v, ov, iv] (setItem ov iv v)
      release [v, ov, iv] []) := by intro _; rfl) : PG X (.Subscript o i pos) (gSub to ti t) := by
  intro pins s σ H v u Q I r h
  rw [ha]
  refine wpAny_bind (wpAny_holding (thn (ho pins s σ H _ I h) fun ov s1 ⟨x, H1, I1, r1, q1⟩ => ?_))
  refine wpAny_bind (wpAny_holding (thn (hi pins s1 σ H1 _ I1 q1) fun iv s2 ⟨y, H2, I2, r2, q2⟩ => ?_))
  refine wpAny_bind (wpAny_standAt (wpAny_bind (wpAny_holding (thn (hs pins s2 σ H2 x y v ov iv u _ I2 r1 r2 r q2) fun _ s3 ⟨H3, I3, q3⟩ => ?_))))
  exact wpAny_release ⟨σ, H3, I3, q3⟩
/-- target = value -/
def tAsg (te : TE) (g : TG) : TS := fun D σ H => te σ H fun x H1 => g x σ H1 D.nx
theorem ps_asg {tg e : Expr} {te : TE} {g : TG} (he : PE X e te) (hg : PG X tg g) (hs : swapsWithSole [tg] e pos.line X.env = pure false := by rfl) (hw : swappedStores [tg] e X.env = pure none := by rfl)
    (h1 : (assignEach [tg] X.env).map (·.2) = [assign tg X.env] := by rfl) : PS X (.Assign [tg] e pos) (tAsg te g) := by
  intro pins s σ H D I h
  refine wpAny_Assign_stores (thn (he pins s σ H _ I h) fun v s1 ⟨x, H1, I1, r1, q1⟩ => ?_) hs hw
  rw [h1]
  exact thn (hg pins s1 σ H1 x v _ I1 r1 q1) fun _ s2 q => q
/-- name = value -/
theorem ps_set {i : Nat} {x : Str} {e : Expr} {te : TE} {pos' : Pos} (hN : X.N.Nodup) (hi : X.N[i]? = some x) (hx : Loc X.env.scope x) (he : PE X e te) (hs : swapsWith e (some (.Name x pos')) pos.line X.env = pure false := by rfl) (hf : X.fn x = true ∨ X.env.scope.names.lookup x = some .local := by first | exact .inl rfl | exact .inr rfl | assumption) :
    PS X (.Assign [.Name x pos'] e pos) (tAsg te (gName i)) := by
  intro pins s σ H D I h
  refine wpAny_Assign_Name (thn (he pins s σ H _ I h) fun v s1 ⟨y, H1, I1, r1, q1⟩ => ?_) hs
  exact store_ok I1 hN hi hx r1 (fun s2 I2 => ⟨_, H1, I2, q1⟩) hf
/-- a, b = x, y with plain local names: stored from the right; the pair itself is not tracked (the opening rows as in PyProof/Rows/TupAssign.lean:23) -/
def tPar (i j : Nat) (ta : TA) : TS := fun D σ H => ta σ H fun vs H1 => ∃ v w, vs = [v, w] ∧ D.nx ((σ.set i (some v)).set j (some w)) H1
theorem ps_par {i j : Nat} {x y : Str} {a b : Expr} {ta : TA} {px py pt : Pos} {kt k2 pt2} (hc : X.calm = true) (hN : X.N.Nodup) (hi : X.N[i]? = some x) (hj : X.N[j]? = some y) (hij : i ≠ j)
    (hx : X.env.scope.names.lookup x = some .local) (hy : X.env.scope.names.lookup y = some .local) (ha : PA X [a, b] ta)
    (hw : swappedStores [.Tuple [.Name x px, .Name y py] kt pt] (.Tuple [a, b] k2 pt2) X.env = pure (some [x, y]))
    (hs : swapsWithSole [.Tuple [.Name x px, .Name y py] kt pt] (.Tuple [a, b] k2 pt2) pos.line X.env = pure false := by rfl) :
    PS X (.Assign [.Tuple [.Name x px, .Name y py] kt pt] (.Tuple [a, b] k2 pt2) pos) (tPar i j ta) := by
  intro pins s σ H D I h
  rw [exec_Assign_arm]
  refine wpAny_bind (wpAny_standAt ?_)
  rw [hs]
  refine wpAny_bind (wpAny_pure ?_)
  rw [if_neg (by decide)]
  refine wpAny_bind (Tuple_ (thn (ha _ pins s σ H _ I h) fun us s1 ⟨vs, H1, I1, r1, q1⟩ => ?_))
  obtain ⟨v, w, e1, q1⟩ := q1
  subst e1
  obtain ⟨u1, u2, rfl, rv, rw'⟩ : ∃ u1 u2, us = [u1, u2] ∧ RelV v u1 ∧ RelV w u2 := by
    cases r1 with
    | cons p q =>
      cases q with
      | cons p' q' =>
        cases q'
        exact ⟨_, _, rfl, p, p'⟩
  refine wpAny_newObj_type ?_ (by show 2 ≤ sizeLine; decide)
  have I2 : Inv X pins σ H1 { s1 with heap := s1.heap.push { cls := .type "tuple", data := .seq [u1, u2].toArray } } := I1.kept (t' := s1.toks) fun b o e => Heap.get?_push_of_some _ e
  rw [hw]
  refine wpAny_bind (wpAny_pure ?_)
  show wpAny (model X.prog X.w) X.A (do rule "assign.swapped-stores"; let items ← unpackItems (.ref s1.heap.objs.size) 2 none; assignInOrder [fun v => bindName X.env y v, fun v => bindName X.env x v] items.reverse; pure Flow.next) _ _ _
  refine wpAny_bind (wpAny_rule (wpAny_bind (unpackItems_tuple (items := #[u1, u2]) (I.ok.hd hc) (IsTup.new s1.heap _) fun h' hx' => ?_)))
  have I3 := I2.kept (h' := h') (t' := s1.toks) fun b o e => hx' b o (Nat.ne_of_lt (Heap.lt_size e)) e
  show wpAny _ _ (assignInOrder [fun v => bindName X.env y v, fun v => bindName X.env x v] [u2, u1] >>= fun _ => pure Flow.next) _ _ _
  refine wpAny_bind (assignInOrder_cons (wpAny_bindName (store_ok I3 hN hj (.inl hy) rw' (fun s2 I4 => ?_) (.inr hy))))
  refine assignInOrder_cons (wpAny_bindName (store_ok I4 hN hi (.inl hx) rv (fun s3 I5 => assignInOrder_nil (wpAny_pure ?_)) (.inr hx)))
  rw [List.set_comm _ _ (Ne.symm hij)] at I5
  exact ⟨_, H1, I5, q1⟩
/-- name op= e -/
def tAug (i : Nat) (te : TE) (ti : TIp) : TS := fun D σ H => ∃ x, σ[i]? = some (some x) ∧ te σ H fun y H1 => ti x y H1 fun z H2 => D.nx (σ.set i (some z)) H2
theorem ps_aug {i : Nat} {x : Str} {e : Expr} {te : TE} {op : Operator} {ti : TIp} {pos' : Pos} (hN : X.N.Nodup) (hi : X.N[i]? = some x) (hx : Loc X.env.scope x) (he : PE X e te) (ho : PIp X op ti) (hf : X.fn x = true ∨ X.env.scope.names.lookup x = some .local := by first | exact .inl rfl | exact .inr rfl | assumption) :
    PS X (.AugAssign (.Name x pos') op e pos) (tAug i te ti) := by
  intro pins s σ H D I h
  obtain ⟨v, e1, h⟩ := h
  obtain ⟨m, hn, hl⟩ := I.loc
  have vis : Vis X.env.scope x := by rcases hx with k | k; exact .inl k; exact .inr (.inl k)
  obtain ⟨u, r, l⟩ := hl i x v hi e1 vis
  refine wpAny_AugAssign_Name ?_
  have go : wpAny (model X.prog X.w) X.A (eval e X.env) (fun w s₂ => wpAny (model X.prog X.w) X.A (inplaceOp op u w) (fun r s₃ => wpAny (model X.prog X.w) X.A (storeName X.env x r) (fun _ => SP X pins D .next) X.xe s₃) X.xe s₂) X.xe s := by
    refine thn (he pins s σ H _ I h) fun w s1 ⟨y, H1, I1, r1, q1⟩ => ?_
    refine thn (ho pins s1 σ H1 v y u w _ I1 r r1 q1) fun z s2 ⟨zv, H2, I2, r2, q2⟩ => ?_
    exact store_ok I2 hN hi hx r2 (fun s3 I3 => ⟨_, H2, I3, q2⟩) hf
  rcases l with ⟨hk, hm⟩ | ⟨hk, c, hc, hcell⟩
  · exact wpAny_loadName_local I.ok.kind hk hn hm go
  · rcases hk with hk | hk
    · exact wpAny_loadName_cell I.ok.kind hk hc hcell go
    · rcases hx with k | k
      · have : X.env.scope.names.lookup x = some .free := hk
        rw [k] at this; cases this
      · have : X.env.scope.names.lookup x = some .free := hk
        rw [k] at this; cases this
/-- o[i] op= e -/
def tAugS (to ti te : TE) (tget : V → V → Hp → VK → Prop) (tip : TIp) (tset : TSet) : TS := fun D σ H => to σ H fun o H1 => ti σ H1 fun i H2 => tget o i H2 fun x H3 => te σ H3 fun y H4 => tip x y H4 fun z H5 => tset o i z H5 fun H6 => D.nx σ H6
/-- o[i], by values -/
def PGet (X : Cx) (t : V → V → Hp → VK → Prop) : Prop :=
  ∀ (pins : List (Addr × Obj)) (s : Shared) (σ : St) (H : Hp) (o i : V) (ov iv : Value) (Q : VK), Inv X pins σ H s → RelV o ov → RelV i iv → t o i H Q →
    wpAny (model X.prog X.w) X.A (getItem ov iv) (EP X pins σ Q) X.xe s
theorem ps_augS {o i e : Expr} {to ti te : TE} {tget : V → V → Hp → VK → Prop} {tip : TIp} {tset : TSet} {op : Operator} {tpos : Pos} (ho : PE X o to) (hi : PE X i ti) (hg : PGet X tget) (he : PE X e te) (hp : PIp X op tip) (hs : PSet X tset)
    (ha : ∀ ov iv new, augStore i ov iv new = (do holding [new, ov, iv] (setItem ov iv new); release [new, ov, iv] []; pure .next) := by intros; rfl) : PS X (.AugAssign (.Subscript o i tpos) op e pos) (tAugS to ti te tget tip tset) := by
  intro pins s σ H D I h
  refine wpAny_AugAssign_SubscriptAny (thn (ho pins s σ H _ I h) fun ov s1 ⟨x1, H1, I1, r1, q1⟩ => ?_) ha
  refine thn (hi pins s1 σ H1 _ I1 q1) fun iv s2 ⟨x2, H2, I2, r2, q2⟩ => ?_
  refine thn (hg pins s2 σ H2 x1 x2 ov iv _ I2 r1 r2 q2) fun old s3 ⟨x3, H3, I3, r3, q3⟩ => ?_
  refine thn (he pins s3 σ H3 _ I3 q3) fun v s4 ⟨x4, H4, I4, r4, q4⟩ => ?_
  refine thn (hp pins s4 σ H4 x3 x4 old v _ I4 r3 r4 q4) fun new s5 ⟨x5, H5, I5, r5, q5⟩ => ?_
  exact thn (hs pins s5 σ H5 x1 x2 x5 ov iv new _ I5 r1 r2 r5 q5) fun _ s6 ⟨H6, I6, q6⟩ => ⟨σ, H6, I6, q6⟩
/-- ints -/
def ipI (f : Int → Int → Int) : TIp := fun x y H Q => ∃ i j, x = .int i ∧ y = .int j ∧ Q (.int (f i j)) H
theorem ip_add : PIp X .Add (ipI fun i j => i + j) := by
  intro pins s σ H x y v u Q I r1 r2 h
  obtain ⟨i, j, e1, e2, q⟩ := h
  subst e1; subst e2
  obtain ⟨t, rfl⟩ := r1
  obtain ⟨t', rfl⟩ := r2
  exact iadd_int ⟨.int _, H, I.tok _, ⟨_, rfl⟩, q⟩
theorem ip_sub : PIp X .Sub (ipI fun i j => i - j) := by
  intro pins s σ H x y v u Q I r1 r2 h
  obtain ⟨i, j, e1, e2, q⟩ := h
  subst e1; subst e2
  obtain ⟨t, rfl⟩ := r1
  obtain ⟨t', rfl⟩ := r2
  exact isub_int ⟨.int _, H, I.tok _, ⟨_, rfl⟩, q⟩
end

/-! ### while -/
section
variable {X : Cx} {pos : Pos}
/-- the invariant W with its measure -/
def tWhile (c : TT) (tb : TS) : TS := fun D σ H => ∃ W : Nat → St → Hp → Prop, (∃ m, W m σ H) ∧ ∀ m σ H, W m σ H →
  c σ H fun b H1 => if b = true then ∃ N : St → Hp → Prop, (∀ σ' H', N σ' H' → ∃ m', m' < m ∧ W m' σ' H') ∧ tb { D with nx := N, ct := N, bk := D.nx } σ H1 else D.nx σ H1
theorem ps_while {c : Expr} {body : List Stmt} {tc : TT} {tb : TS} (hp : PassesOwn (model X.prog X.w) X.A X.env X.xe) (hc : PT X c tc) (hb : PSs X body tb) : PS X (.While c body [] pos) (tWhile tc tb) := by
  intro pins s σ H D I h
  obtain ⟨W, ⟨m0, w0⟩, turn⟩ := h
  refine wpAny_While (codeAny_whileLoop (fun n s' => ∃ σ' H', Inv X pins σ' H' s' ∧ W n σ' H') ?_ m0 ⟨σ, H, I, w0⟩)
  rintro n s1 ⟨σ1, H1, I1, w1⟩
  refine wpAny_passesOwn hp (thn (hc pins s1 σ1 H1 _ I1 (turn n σ1 H1 w1)) fun b s2 ⟨H2, I2, q2⟩ => ?_)
  cases b with
  | true =>
    obtain ⟨N, hN, q2⟩ := q2
    rw [if_pos rfl]
    refine wpAny_passesOwn hp (thn (hb pins s2 σ1 H2 _ I2 q2) fun f s3 q3 => ?_)
    cases f with
    | next =>
      obtain ⟨σ3, H3, I3, n3⟩ := q3
      obtain ⟨m', hm, w3⟩ := hN σ3 H3 n3
      exact ⟨m', hm, σ3, H3, I3, w3⟩
    | cont =>
      obtain ⟨σ3, H3, I3, n3⟩ := q3
      obtain ⟨m', hm, w3⟩ := hN σ3 H3 n3
      exact ⟨m', hm, σ3, H3, I3, w3⟩
    | brk => exact q3
    | ret v => exact q3
  | false =>
    rw [if_neg Bool.false_ne_true]
    exact wpAny_execs_nil ⟨σ1, H2, I2, q2⟩
end

/-! ### what a loop or a comprehension walks -/
/-- at turn i: it yields x (the heap may grow), or it stops -/
structure It where
  go : Nat → Hp → Prop
  yld : Nat → Hp → V → Hp → Prop
  stop : Nat → Hp → Prop
/-- the iterator's own objects may turn: they are not the frame's, not pinned, younger than the entry (or a comprehension's own) -/
def FpOk (X : Cx) (pins : List (Addr × Obj)) (H : Hp) (b : Addr) : Prop :=
  H b = none ∧ b ≠ X.env.locals ∧ b ∉ X.fs ∧ (b ∈ X.ex ∨ X.s₀.heap.objs.size ≤ b) ∧ (∀ x c, X.env.cells.lookup x = some c → c ≠ b) ∧ ∀ p ∈ X.pn ++ pins, p.1 ≠ b
theorem Inv.fpOk {X : Cx} {pins : List (Addr × Obj)} {σ : St} {H H' : Hp} {s : Shared} {b : Addr} (I : Inv X pins σ H s) (hb : s.heap.objs.size ≤ b) (hn : H' b = none) : FpOk X pins H' b := by
  refine ⟨hn, Nat.ne_of_gt (Nat.lt_of_lt_of_le I.lt hb), I.nofs hb, .inr (Nat.le_trans I.sz hb), fun x c e z => ?_, fun p hp z => ?_⟩
  · obtain ⟨v, q⟩ := I.cell x c e
    exact absurd (Nat.lt_of_lt_of_le q.lt (by rw [z]; exact hb)) (Nat.lt_irrefl _)
  · exact absurd (Nat.lt_of_lt_of_le (Heap.lt_size (I.pin p hp).1) (by rw [z]; exact hb)) (Nat.lt_irrefl _)
structure Turn (P : Program) (w : World) (K : PySem.W.Frag) (tg : Expr) (J : It) (fp : List Addr) (it : Addr) (tn : Nat → Heap → Prop) : Prop where
  mem : it ∈ fp
  obj : ∀ i h, tn i h → ∀ b ∈ fp, ∃ o, h.get? b = some o ∧ ∀ v, o.data ≠ .cell v
  keep : ∀ i h h', tn i h → (∀ b ∈ fp, ∀ o, h.get? b = some o → h'.get? b = some o) → tn i h'
  item : ∀ (X : Cx), X.prog = P → X.w = w → X.K = K → X.calm = true → ∀ (i : Nat) (pins : List (Addr × Obj)) (s : Shared) (σ : St) (H : Hp) (E : Value → Shared → Prop), Inv X pins σ H s → (∀ b ∈ fp, FpOk X pins H b) → tn i s.heap → J.go i H →
    wpAny (model P w) X.A (pyNext (.ref it)) (fun r s1 => ∃ u, r = some u ∧
      wpAny (model P w) X.A (letOwnedTupleGo tg (.ref it) u) (fun _ s2 => ∃ x H', Inv X pins σ H' s2 ∧ RelV x u ∧ J.yld i H x H' ∧ tn (i + 1) s2.heap ∧ ∀ b ∈ fp, H' b = none) E s1) E s
  done : ∀ (X : Cx), X.prog = P → X.w = w → X.K = K → X.calm = true → ∀ (i : Nat) (pins : List (Addr × Obj)) (s : Shared) (σ : St) (H : Hp) (E : Value → Shared → Prop), Inv X pins σ H s → (∀ b ∈ fp, FpOk X pins H b) → tn i s.heap → J.stop i H →
    wpAny (model P w) X.A (pyNext (.ref it)) (fun r s1 => r = none ∧ Inv X pins σ H s1) E s
  self : ∀ (A : Around) (i : Nat) (s : Shared) (Q : Value → Shared → Prop) (E : Value → Shared → Prop), tn i s.heap → Q (.ref it) s → wpAny (model P w) A (pyIter (.ref it)) Q E s
abbrev TI := St → Hp → (It → Hp → Prop) → Prop
/-- an iterator has come -/
def PIE (X : Cx) (pins : List (Addr × Obj)) (σ : St) (tg : Expr) (R : It → Hp → Prop) (itv : Value) (s2 : Shared) : Prop :=
  ∃ (it : Addr) (fp : List Addr) (tn : Nat → Heap → Prop) (J : It) (H' : Hp), itv = .ref it ∧ Inv X pins σ H' s2 ∧ Turn X.prog X.w X.K tg J fp it tn ∧ tn 0 s2.heap ∧ (∀ b ∈ fp, FpOk X pins H' b) ∧ R J H'
def PI (X : Cx) (tg iter : Expr) (wi : TI) : Prop :=
  ∀ (pins : List (Addr × Obj)) (s : Shared) (σ : St) (H : Hp) (R : It → Hp → Prop), Inv X pins σ H s → wi σ H R →
    wpAny (model X.prog X.w) X.A (eval iter X.env) (fun v s1 => wpAny (model X.prog X.w) X.A (pyIter v) (PIE X pins σ tg R) X.xe s1) X.xe s

/-- the step ahead of the store is nothing for an iterator that keeps no tuple -/
theorem go_of {M : Model} {A : Around} {E : Value → Shared → Prop} {s : Shared} {tg : Expr} {it : Addr} {u : Value} {o : Obj} {n : String} {vs : Array Value} {Q : Unit → Shared → Prop} (ho : s.heap.get? it = some o) (hc : o.cls = .type n) (hd : o.data = .fields vs)
    (hn : ["enumerate", "zip", "dict_itemiterator", "dict_reverseitemiterator", "odict_iterator", "itertools.zip_longest", "itertools.pairwise"].contains n = false) (hQ : Q () s) : wpAny M A (letOwnedTupleGo tg (.ref it) u) Q E s := by
  unfold letOwnedTupleGo
  cases tg <;> first
    | exact wpAny_pure hQ
    | (cases u <;> first
        | exact wpAny_pure hQ
        | (refine wpAny_bind (wpAny_load ho ?_)
           rw [hc, hd]
           show wpAny M A (if (["enumerate", "zip", "dict_itemiterator", "dict_reverseitemiterator", "odict_iterator", "itertools.zip_longest", "itertools.pairwise"].contains n && vs[0]? == some (rawInt _)) = true then _ else _) Q E s
           rw [if_neg (by intro h; rw [hn, Bool.false_and] at h; cases h)]
           exact wpAny_pure hQ))

/-- the list at a, as it stands at each turn (a loop may append to it) -/
def Itl (K : PySem.W.Frag) (a : Addr) : It :=
  ⟨fun i H => ∃ xs x, SqL K H a xs ∧ xs[i]? = some x, fun i H x H' => H' = H ∧ ∀ xs, SqL K H a xs → xs[i]? = some x, fun i H => ∃ xs, SqL K H a xs ∧ xs.length ≤ i⟩
def Itt (K : PySem.W.Frag) (a : Addr) : It :=
  ⟨fun i H => ∃ xs x, SqT K H a xs ∧ xs[i]? = some x, fun i H x H' => H' = H ∧ ∀ xs, SqT K H a xs → xs[i]? = some x, fun i H => ∃ xs, SqT K H a xs ∧ xs.length ≤ i⟩
/-- lo, lo + 1, .. (n of them) -/
def Itr (lo : Int) (n : Nat) : It := ⟨fun i _ => i < n, fun i H x H' => H' = H ∧ x = .int (lo + i), fun i _ => n ≤ i⟩
theorem turn_list {P : Program} {w : World} {K : PySem.W.Frag} {tg : Expr} (a it : Addr) : Turn P w K tg (Itl K a) [it] it (fun i h => h.IsListIter it a i) where
  mem := by simp
  obj := fun i h st b hb => by
    have e : b = it := by simpa using hb
    subst e
    obtain ⟨o, e, c, d⟩ := st
    exact ⟨o, e, fun v z => by rw [d] at z; cases z⟩
  keep := fun i h h' st k => st.at fun o e => k it (by simp) o e
  item := by
    intro X hP hw hK hc i pins s σ H E I hf st hg
    subst hP hw hK
    obtain ⟨xs, x, hq, hx⟩ := hg
    obtain ⟨its, rv, p, hz⟩ := I.list hq
    obtain ⟨u, hu, ru⟩ := rv.get hx
    obtain ⟨f0, f1, f2, f3, f4, f5⟩ := hf it (by simp)
    refine wpAny_pyNext_list_item st p.isList (x := u) (by simpa using hu) fun h' st' sb => ?_
    have I1 : Inv X pins σ H { s with heap := h' } := I.turned (t' := s.toks) (fun b o hb e => (sb.2 b hb).trans e) f0 f1 f3 f4 f5
    obtain ⟨o, e, c, d⟩ := id st'
    exact ⟨u, rfl, go_of (s := { s with heap := h' }) e c d (by decide) ⟨x, H, I1, ru, ⟨rfl, fun ys hy => by rw [I.list_inj hy hq]; exact hx⟩, st', fun b hb => (hf b hb).1⟩⟩
  done := by
    intro X hP hw hK hc i pins s σ H E I hf st hg
    subst hP hw hK
    obtain ⟨xs, hq, hx⟩ := hg
    obtain ⟨its, rv, p, hz⟩ := I.list hq
    obtain ⟨f0, f1, f2, f3, f4, f5⟩ := hf it (by simp)
    have hl := rv.length
    exact wpAny_pyNext_list_end (I.ok.hd hc) st p.isList (by simp; omega) fun h' eb => ⟨rfl, I.turned (t' := s.toks) (fun b o hb e => eb b o hb e) f0 f1 f3 f4 f5⟩
  self := fun _ _ _ _ _ st h => wpAny_pyIter_listiter st h
theorem turn_tuple {P : Program} {w : World} {K : PySem.W.Frag} {tg : Expr} (a it : Addr) : Turn P w K tg (Itt K a) [it] it (fun i h => h.IsTupleIter it a i) where
  mem := by simp
  obj := fun i h st b hb => by
    have e : b = it := by simpa using hb
    subst e
    obtain ⟨o, e, c, d⟩ := st
    exact ⟨o, e, fun v z => by rw [d] at z; cases z⟩
  keep := fun i h h' st k => st.at fun o e => k it (by simp) o e
  item := by
    intro X hP hw hK hc i pins s σ H E I hf st hg
    subst hP hw hK
    obtain ⟨xs, x, hq, hx⟩ := hg
    obtain ⟨its, rv, p, hz⟩ := I.tuple hq
    obtain ⟨u, hu, ru⟩ := rv.get hx
    obtain ⟨f0, f1, f2, f3, f4, f5⟩ := hf it (by simp)
    refine wpAny_pyNext_tuple_item st (show s.heap.IsTuple a its.toArray from p) (x := u) (by simpa using hu) fun h' st' sb => ?_
    have I1 : Inv X pins σ H { s with heap := h' } := I.turned (t' := s.toks) (fun b o hb e => (sb.2 b hb).trans e) f0 f1 f3 f4 f5
    obtain ⟨o, e, c, d⟩ := id st'
    exact ⟨u, rfl, go_of (s := { s with heap := h' }) e c d (by decide) ⟨x, H, I1, ru, ⟨rfl, fun ys hy => by rw [I.tuple_inj hy hq]; exact hx⟩, st', fun b hb => (hf b hb).1⟩⟩
  done := by
    intro X hP hw hK hc i pins s σ H E I hf st hg
    subst hP hw hK
    obtain ⟨xs, hq, hx⟩ := hg
    obtain ⟨its, rv, p, hz⟩ := I.tuple hq
    obtain ⟨f0, f1, f2, f3, f4, f5⟩ := hf it (by simp)
    have hl := rv.length
    exact wpAny_pyNext_tuple_end (I.ok.hd hc) st (show s.heap.IsTuple a its.toArray from p) (by simp; omega) fun h' eb => ⟨rfl, I.turned (t' := s.toks) (fun b o hb e => eb b o hb e) f0 f1 f3 f4 f5⟩
  self := fun _ _ _ _ _ st h => wpAny_pyIter_tupleiter st h
theorem turn_range {P : Program} {w : World} {K : PySem.W.Frag} {tg : Expr} (it : Addr) (lo : Int) (n : Nat) : Turn P w K tg (Itr lo n) [it] it (fun i h => IsRangeIter h it (lo + (i : Nat) * 1) ((n : Int) - (i : Nat)) 1) where
  mem := by simp
  obj := fun i h st b hb => by
    have e : b = it := by simpa using hb
    subst e
    exact ⟨_, st, fun v z => by
      have z' : Data.fields _ = Data.cell v := z
      cases z'⟩
  keep := fun i h h' st k => k it (by simp) _ st
  item := by
    intro X hP hw hK hc i pins s σ H E I hf st hg
    subst hP hw hK
    obtain ⟨f0, f1, f2, f3, f4, f5⟩ := hf it (by simp)
    have W := Walks.range (prog := X.prog) (w := X.w) (I.ok.hd hc) it lo 1 n
    refine W.item i s _ _ hg st fun v h' tk hv st' kk => ?_
    obtain ⟨t, rfl⟩ := hv
    have I1 : Inv X pins σ H { s with heap := h', toks := tk } := I.turned (fun b o hb e => kk b o (by simpa using hb) e) f0 f1 f3 f4 f5
    refine ⟨_, rfl, go_of (s := { s with heap := h', toks := tk }) (n := "range_iterator") st' rfl rfl (by decide) ⟨.int (lo + i), H, I1, ⟨t, ?_⟩, ⟨rfl, rfl⟩, st', fun b hb => (hf b hb).1⟩⟩
    rw [Int.mul_one]
  done := by
    intro X hP hw hK hc i pins s σ H E I hf st hg
    subst hP hw hK
    obtain ⟨f0, f1, f2, f3, f4, f5⟩ := hf it (by simp)
    exact wpAny_pyNext_range_end (I.ok.hd hc) st (by have : n ≤ i := hg; omega) fun h' eb => ⟨rfl, I.turned (t' := s.toks) (fun b o hb e => eb b o hb e) f0 f1 f3 f4 f5⟩
  self := fun _ _ _ _ _ st h => wpAny_pyIter_rangeiter st h
end L2

namespace L2
open PySem PySem.Spec PyProof.Rows
section
variable {X : Cx} {tg : Expr}
def iList (K : PySem.W.Frag) (tl : TE) : TI := fun σ H R => tl σ H fun x H1 => ∃ a, x = .ref a ∧ (∃ xs, SqL K H1 a xs) ∧ R (Itl K a) H1
def iTup (K : PySem.W.Frag) (tl : TE) : TI := fun σ H R => tl σ H fun x H1 => ∃ a, x = .ref a ∧ (∃ xs, SqT K H1 a xs) ∧ R (Itt K a) H1
theorem pi_list {l : Expr} {tl : TE} (hl : PE X l tl) : PI X tg l (iList X.K tl) := by
  intro pins s σ H R I h
  refine thn (hl pins s σ H _ I h) fun v s1 ⟨x, H1, I1, r1, q1⟩ => ?_
  obtain ⟨a, e, ⟨xs, hq⟩, q⟩ := q1
  subst e
  cases r1
  obtain ⟨its, rv, p, hz⟩ := I1.list hq
  refine wpAny_pyIter_list p.isList ?_
  refine ⟨s1.heap.objs.size, [s1.heap.objs.size], _, _, H1, rfl, I1.kept (t' := s1.toks) fun b o e => Heap.get?_push_of_some _ e, turn_list a _, ⟨_, Heap.get?_push_size _ rfl, rfl, rfl⟩, fun b hb => ?_, q⟩
  have e : b = s1.heap.objs.size := by simpa using hb
  subst e
  exact I1.fpOk (Nat.le_refl _) (I1.hok.fresh (Nat.le_refl _))
theorem pi_tup {l : Expr} {tl : TE} (hl : PE X l tl) : PI X tg l (iTup X.K tl) := by
  intro pins s σ H R I h
  refine thn (hl pins s σ H _ I h) fun v s1 ⟨x, H1, I1, r1, q1⟩ => ?_
  obtain ⟨a, e, ⟨xs, hq⟩, q⟩ := q1
  subst e
  cases r1
  obtain ⟨its, rv, p, hz⟩ := I1.tuple hq
  refine wpAny_pyIter_tuple (show s1.heap.IsTuple a its.toArray from p) ?_
  refine ⟨s1.heap.objs.size, [s1.heap.objs.size], _, _, H1, rfl, I1.kept (t' := s1.toks) fun b o e => Heap.get?_push_of_some _ e, turn_tuple a _, ⟨_, Heap.get?_push_size _ rfl, rfl, rfl⟩, fun b hb => ?_, q⟩
  have e : b = s1.heap.objs.size := by simpa using hb
  subst e
  exact I1.fpOk (Nat.le_refl _) (I1.hok.fresh (Nat.le_refl _))
/-- a range object just made, walked -/
theorem range_it {pins : List (Addr × Obj)} {σ : St} {H : Hp} {s : Shared} {R : It → Hp → Prop} {E : Value → Shared → Prop} {lo hi : Int} {t u v : Tok} {tk : Nat} (I : Inv X pins σ H s) (h1 : -(2 ^ 62) ≤ lo) (h2 : lo < 2 ^ 62) (h3 : -(2 ^ 62) ≤ hi) (h4 : hi < 2 ^ 62)
    (q : R (Itr lo (hi - lo).toNat) H) : wpAny (model X.prog X.w) X.A (pyIter (.ref s.heap.objs.size)) (PIE X pins σ tg R) E { s with heap := s.heap.push { cls := .type "range", data := .fields #[.int lo t, .int hi u, .int 1 v] }, toks := tk } := by
  refine wpAny_pyIter_range (IsRange.new ..) (small_one h1 h2 h3 h4) ?_
  have I1 : Inv X pins σ H { s with heap := s.heap.push { cls := .type "range", data := .fields #[.int lo t, .int hi u, .int 1 v] }, toks := tk } := I.kept fun b o e => Heap.get?_push_of_some _ e
  refine ⟨(s.heap.push { cls := .type "range", data := .fields #[.int lo t, .int hi u, .int 1 v] }).objs.size, [(s.heap.push { cls := .type "range", data := .fields #[.int lo t, .int hi u, .int 1 v] }).objs.size], _, _, H, rfl,
    I1.kept (t' := tk) fun b o e => Heap.get?_push_of_some _ e, turn_range _ lo (hi - lo).toNat, ?_, fun b hb => ?_, q⟩
  · have e1 : lo + ((0 : Nat) : Int) * 1 = lo := by simp
    have e2 : (((hi - lo).toNat : Nat) : Int) - ((0 : Nat) : Int) = Builtin.Range.rangeSize lo hi 1 := by rw [rangeSize_one]; split <;> omega
    show IsRangeIter _ _ (lo + ((0 : Nat) : Int) * 1) ((((hi - lo).toNat : Nat) : Int) - ((0 : Nat) : Int)) 1
    rw [e1, e2]
    exact Heap.get?_push_size _ rfl
  · have e : b = (s.heap.push { cls := .type "range", data := .fields #[.int lo t, .int hi u, .int 1 v] }).objs.size := by simpa using hb
    subst e
    exact I1.fpOk (Nat.le_refl _) (I1.hok.fresh (Nat.le_refl _))
def iRng1 (ta : TA) : TI := fun σ H R => ta σ H fun vs H1 => ∃ j : Int, vs = [.int j] ∧ -(2 ^ 62) ≤ j ∧ j < 2 ^ 62 ∧ R (Itr 0 j.toNat) H1
def iRng2 (ta : TA) : TI := fun σ H R => ta σ H fun vs H1 => ∃ i j : Int, vs = [.int i, .int j] ∧ (-(2 ^ 62) ≤ i ∧ i < 2 ^ 62 ∧ -(2 ^ 62) ≤ j ∧ j < 2 ^ 62) ∧ R (Itr i (j - i).toNat) H1
theorem pi_range1 {a : Expr} {ta : TA} {p pos : Pos} (hg : Gl X "range") (hm : X.mg "range" = none) (ha : PA X [a] ta) (hs : starEach [a] X.env = [(false, eval a X.env)] := by rfl) : PI X tg (.Call (.Name "range" p) [a] [] pos) (iRng1 ta) := by
  intro pins s σ H R I h
  refine Call_ (ld_blt I hg hm boot_range (PyProof.Rows.callWith_type1 (thn (ha pos pins s σ H _ I h) fun us s1 ⟨vs, H1, I1, r1, q1⟩ => ?_) hs rfl))
  obtain ⟨j, e, q1, q2, q⟩ := q1
  subst e
  cases r1 with
  | cons r rr =>
    cases rr
    obtain ⟨t, rfl⟩ := r
    exact call_range_1 (range_it I1 (by omega) (by omega) q1 q2 (by simpa using q))
theorem pi_range2 {a b : Expr} {ta : TA} {p pos : Pos} (hg : Gl X "range") (hm : X.mg "range" = none) (ha : PA X [a, b] ta) (hs : starEach [a, b] X.env = [(false, eval a X.env), (false, eval b X.env)] := by rfl) (hs2 : starEach [b] X.env = [(false, eval b X.env)] := by rfl) :
    PI X tg (.Call (.Name "range" p) [a, b] [] pos) (iRng2 ta) := by
  intro pins s σ H R I h
  refine Call_ (ld_blt I hg hm boot_range (PyProof.Rows.callWith_type1 (thn (ha pos pins s σ H _ I h) fun us s1 ⟨vs, H1, I1, r1, q1⟩ => ?_) (by rw [hs, hs2]) (by rw [hs2]; rfl)))
  obtain ⟨i, j, e, ⟨q1, q2, q3, q4⟩, q⟩ := q1
  subst e
  cases r1 with
  | cons r rr =>
    cases rr with
    | cons r' rr =>
      cases rr
      obtain ⟨t, rfl⟩ := r
      obtain ⟨t', rfl⟩ := r'
      exact call_range_2 (range_it I1 q1 q2 q3 q4 q)

/-! ### for -/
/-- W: the invariant by the turn and a measure; N: what the body is to reach -/
def tFor (wi : TI) (g : TG) (tb : TS) : TS := fun D σ H => wi σ H fun J H1 => ∃ W : Nat → Nat → St → Hp → Prop, (∃ m, W 0 m σ H1) ∧ ∀ i m σ H, W i m σ H →
  (J.stop i H ∧ D.nx σ H) ∨ (J.go i H ∧ ∃ N : St → Hp → Prop, (∀ σ' H', N σ' H' → ∃ m', m' < m ∧ W (i + 1) m' σ' H') ∧ ∀ x H', J.yld i H x H' → g x σ H' fun σ2 H2 => tb { D with nx := N, ct := N, bk := D.nx } σ2 H2)
/-- the records at fp as they stand -/
def pinsAt (fp : List Addr) (h : Heap) : List (Addr × Obj) := fp.filterMap fun b => (h.get? b).map fun o => (b, o)
theorem mem_pinsAt {fp : List Addr} {h : Heap} {b : Addr} {o : Obj} (hb : b ∈ fp) (e : h.get? b = some o) : (b, o) ∈ pinsAt fp h := List.mem_filterMap.mpr ⟨b, hb, by rw [e]; rfl⟩
theorem of_pinsAt {fp : List Addr} {h : Heap} {p : Addr × Obj} (hp : p ∈ pinsAt fp h) : p.1 ∈ fp ∧ h.get? p.1 = some p.2 := by
  obtain ⟨b, hb, e⟩ := List.mem_filterMap.mp hp
  cases q : h.get? b with
  | none => rw [q] at e; cases e
  | some o =>
    rw [q] at e
    have e' : (b, o) = p := Option.some.inj e
    subst e'
    exact ⟨hb, q⟩
theorem Inv.pinned {pins : List (Addr × Obj)} {σ : St} {H : Hp} {s : Shared} {fp : List Addr} (I : Inv X pins σ H s) (hf : ∀ b ∈ fp, FpOk X pins H b) (ho : ∀ b ∈ fp, ∃ o, s.heap.get? b = some o ∧ ∀ v, o.data ≠ .cell v) : Inv X (pins ++ pinsAt fp s.heap) σ H s :=
  I.pins_of fun p hp => (List.mem_append.mp hp).elim (fun z => I.pin p (List.mem_append_right _ z)) fun z => by
    obtain ⟨hb, e⟩ := of_pinsAt z
    obtain ⟨f0, f1, f2, _⟩ := hf p.1 hb
    obtain ⟨o, e', d⟩ := ho p.1 hb
    rw [e] at e'; cases e'
    exact ⟨e, f0, f1, f2, d⟩
theorem Inv.unpinned {pins pl : List (Addr × Obj)} {σ : St} {H : Hp} {s : Shared} (I : Inv X (pins ++ pl) σ H s) : Inv X pins σ H s := I.pins_of fun p hp => I.pin p (List.mem_append_right _ (List.mem_append_left _ hp))
theorem ps_for {iter : Expr} {body : List Stmt} {wi : TI} {g : TG} {tb : TS} {pos : Pos} (hp : PassesOwn (model X.prog X.w) X.A X.env X.xe) (hc : X.calm = true) (hi : PI X tg iter wi) (hg : PG X tg g) (hb : PSs X body tb)
    (hs : ∀ x, foldedSetIterable iter X.env x = pure x := by intro _; rfl) : PS X (.For tg iter body [] pos) (tFor wi g tb) := by
  intro pins s σ H D I h
  refine wpAny_For (thn (hi pins s σ H _ I h) fun v s1 h1 => thn h1 fun itv s2 h2 => ?_) hs
  obtain ⟨it, fp, tn, J, H2, e, I2, T, st2, f2, W, ⟨m0, w0⟩, turn⟩ := h2
  subst e
  -- what stays true of the iterator's objects through the loop
  have stat : ∀ {H' : Hp}, (∀ b ∈ fp, H' b = none) → ∀ b ∈ fp, FpOk X pins H' b := fun hn b hb => ⟨hn b hb, (f2 b hb).2⟩
  refine codeAny_forLoop_any (fun n s' => ∃ i σ' H', Inv X pins σ' H' s' ∧ tn i s'.heap ∧ (∀ b ∈ fp, H' b = none) ∧ W i n σ' H') ?_ m0 ⟨0, σ, H2, I2, st2, fun b hb => (f2 b hb).1, w0⟩
  rintro n s3 ⟨i, σ3, H3, I3, st3, fr3, w3⟩
  rcases turn i n σ3 H3 w3 with ⟨stop, qn⟩ | ⟨go, N, hN, step⟩
  · refine wpAny_passesOwn hp (thn (T.done X rfl rfl rfl hc i pins s3 σ3 H3 X.xe I3 (stat fr3) st3 stop) fun r s4 ⟨hr, I4⟩ => ?_)
    subst hr
    exact wpAny_execs_nil ⟨σ3, H3, I4, qn⟩
  · refine wpAny_passesOwn hp (thn (T.item X rfl rfl rfl hc i pins s3 σ3 H3 X.xe I3 (stat fr3) st3 go) fun r s4 ⟨u, hr, h4⟩ => ?_)
    subst hr
    refine wpAny_passesOwn hp (thn h4 fun _ s5 ⟨x, H5, I5, r5, y5, st5, fr5⟩ => ?_)
    have I5' := I5.pinned (stat fr5) (T.obj _ _ st5)
    refine wpAny_passesOwn hp (thn (hg _ s5 σ3 H5 x u _ I5' r5 (step x H5 y5)) fun _ s6 ⟨σ6, H6, I6, q6⟩ => ?_)
    refine wpAny_passesOwn hp (thn (hb _ s6 σ6 H6 _ I6 q6) fun f s7 q7 => ?_)
    have again : ∀ {σ7 : St} {H7 : Hp}, Inv X (pins ++ pinsAt fp s5.heap) σ7 H7 s7 → N σ7 H7 → ∃ m, m < n ∧ ∃ i σ' H', Inv X pins σ' H' s7 ∧ tn i s7.heap ∧ (∀ b ∈ fp, H' b = none) ∧ W i m σ' H' := fun {σ7 H7} I7 n7 => by
      obtain ⟨m', hm, w7⟩ := hN σ7 H7 n7
      refine ⟨m', hm, i + 1, σ7, H7, I7.unpinned, T.keep _ _ _ st5 fun b hb o e => (I7.pin (b, o) (List.mem_append_right _ (List.mem_append_right _ (mem_pinsAt hb e)))).1, fun b hb => ?_, w7⟩
      obtain ⟨o, e, d⟩ := T.obj _ _ st5 b hb
      exact (I7.pin (b, o) (List.mem_append_right _ (List.mem_append_right _ (mem_pinsAt hb e)))).2.1
    cases f with
    | next => obtain ⟨σ7, H7, I7, n7⟩ := q7; exact again I7 n7
    | cont => obtain ⟨σ7, H7, I7, n7⟩ := q7; exact again I7 n7
    | brk => obtain ⟨σ7, H7, I7, q7⟩ := q7; exact ⟨σ7, H7, I7.unpinned, q7⟩
    | ret v => obtain ⟨x7, σ7, H7, I7, r7, q7⟩ := q7; exact ⟨x7, σ7, H7, I7.unpinned, r7, q7⟩
end

/-! ### the forms one uses -/
/-- over a list that the body leaves as it is -/
theorem for_list {K : PySem.W.Frag} {a : Addr} {xs : List V} {g : TG} {tb : TS} {D : Ends} {σ : St} {H : Hp} (Pv : Nat → St → Hp → Prop) (h0 : Pv 0 σ H) (hl : ∀ i σ H, i ≤ xs.length → Pv i σ H → SqL K H a xs)
    (hs : ∀ i x σ H, xs[i]? = some x → Pv i σ H → g x σ H fun σ2 H2 => tb { D with nx := Pv (i + 1), ct := Pv (i + 1), bk := D.nx } σ2 H2) (hd : ∀ σ H, Pv xs.length σ H → D.nx σ H) :
    ∃ W : Nat → Nat → St → Hp → Prop, (∃ m, W 0 m σ H) ∧ ∀ i m σ H, W i m σ H →
      ((Itl K a).stop i H ∧ D.nx σ H) ∨ ((Itl K a).go i H ∧ ∃ N : St → Hp → Prop, (∀ σ' H', N σ' H' → ∃ m', m' < m ∧ W (i + 1) m' σ' H') ∧ ∀ x H', (Itl K a).yld i H x H' → g x σ H' fun σ2 H2 => tb { D with nx := N, ct := N, bk := D.nx } σ2 H2) := by
  refine ⟨fun i m σ H => m = xs.length - i ∧ i ≤ xs.length ∧ Pv i σ H, ⟨xs.length, by simp, Nat.zero_le _, h0⟩, ?_⟩
  rintro i m σ H ⟨rfl, hi, p⟩
  have q := hl i σ H hi p
  by_cases hlt : i < xs.length
  · refine .inr ⟨⟨xs, xs[i], q, by simp [hlt]⟩, Pv (i + 1), fun σ' H' p' => ⟨xs.length - (i + 1), by omega, rfl, hlt, p'⟩, fun x H' y => ?_⟩
    obtain ⟨e, y⟩ := y
    subst e
    exact hs i x σ _ (y xs q) p
  · have e : i = xs.length := by omega
    subst e
    exact .inl ⟨⟨xs, q, Nat.le_refl _⟩, hd σ H p⟩
theorem for_tup {K : PySem.W.Frag} {a : Addr} {xs : List V} {g : TG} {tb : TS} {D : Ends} {σ : St} {H : Hp} (Pv : Nat → St → Hp → Prop) (h0 : Pv 0 σ H) (hl : ∀ i σ H, i ≤ xs.length → Pv i σ H → SqT K H a xs)
    (hs : ∀ i x σ H, xs[i]? = some x → Pv i σ H → g x σ H fun σ2 H2 => tb { D with nx := Pv (i + 1), ct := Pv (i + 1), bk := D.nx } σ2 H2) (hd : ∀ σ H, Pv xs.length σ H → D.nx σ H) :
    ∃ W : Nat → Nat → St → Hp → Prop, (∃ m, W 0 m σ H) ∧ ∀ i m σ H, W i m σ H →
      ((Itt K a).stop i H ∧ D.nx σ H) ∨ ((Itt K a).go i H ∧ ∃ N : St → Hp → Prop, (∀ σ' H', N σ' H' → ∃ m', m' < m ∧ W (i + 1) m' σ' H') ∧ ∀ x H', (Itt K a).yld i H x H' → g x σ H' fun σ2 H2 => tb { D with nx := N, ct := N, bk := D.nx } σ2 H2) := by
  refine ⟨fun i m σ H => m = xs.length - i ∧ i ≤ xs.length ∧ Pv i σ H, ⟨xs.length, by simp, Nat.zero_le _, h0⟩, ?_⟩
  rintro i m σ H ⟨rfl, hi, p⟩
  have q := hl i σ H hi p
  by_cases hlt : i < xs.length
  · refine .inr ⟨⟨xs, xs[i], q, by simp [hlt]⟩, Pv (i + 1), fun σ' H' p' => ⟨xs.length - (i + 1), by omega, rfl, hlt, p'⟩, fun x H' y => ?_⟩
    obtain ⟨e, y⟩ := y
    subst e
    exact hs i x σ _ (y xs q) p
  · have e : i = xs.length := by omega
    subst e
    exact .inl ⟨⟨xs, q, Nat.le_refl _⟩, hd σ H p⟩
theorem for_range {lo : Int} {n : Nat} {g : TG} {tb : TS} {D : Ends} {σ : St} {H : Hp} (Pv : Nat → St → Hp → Prop) (h0 : Pv 0 σ H)
    (hs : ∀ i σ H, i < n → Pv i σ H → g (.int (lo + i)) σ H fun σ2 H2 => tb { D with nx := Pv (i + 1), ct := Pv (i + 1), bk := D.nx } σ2 H2) (hd : ∀ σ H, Pv n σ H → D.nx σ H) :
    ∃ W : Nat → Nat → St → Hp → Prop, (∃ m, W 0 m σ H) ∧ ∀ i m σ H, W i m σ H →
      ((Itr lo n).stop i H ∧ D.nx σ H) ∨ ((Itr lo n).go i H ∧ ∃ N : St → Hp → Prop, (∀ σ' H', N σ' H' → ∃ m', m' < m ∧ W (i + 1) m' σ' H') ∧ ∀ x H', (Itr lo n).yld i H x H' → g x σ H' fun σ2 H2 => tb { D with nx := N, ct := N, bk := D.nx } σ2 H2) := by
  refine ⟨fun i m σ H => m = n - i ∧ i ≤ n ∧ Pv i σ H, ⟨n, by simp, Nat.zero_le _, h0⟩, ?_⟩
  rintro i m σ H ⟨rfl, hi, p⟩
  by_cases hlt : i < n
  · refine .inr ⟨hlt, Pv (i + 1), fun σ' H' p' => ⟨n - (i + 1), by omega, rfl, hlt, p'⟩, fun x H' y => ?_⟩
    obtain ⟨e, y⟩ := y
    subst e y
    exact hs i σ _ hlt p
  · have e : i = n := by omega
    subst e
    exact .inl ⟨Nat.le_refl _, hd σ H p⟩
/-- while, by a word and a measure of the state -/
theorem while_by {c : TT} {tb : TS} {D : Ends} {σ : St} {H : Hp} (Pv : St → Hp → Prop) (μ : St → Hp → Nat) (h0 : Pv σ H)
    (hs : ∀ σ H, Pv σ H → c σ H fun b H1 => if b = true then tb { D with nx := fun σ' H' => Pv σ' H' ∧ μ σ' H' < μ σ H, ct := fun σ' H' => Pv σ' H' ∧ μ σ' H' < μ σ H, bk := D.nx } σ H1 else D.nx σ H1)
    (mono : ∀ σ H Q Q', (∀ b H1, Q b H1 → Q' b H1) → c σ H Q → c σ H Q') : tWhile c tb D σ H := by
  refine ⟨fun m σ H => m = μ σ H ∧ Pv σ H, ⟨_, rfl, h0⟩, ?_⟩
  rintro m σ H ⟨rfl, p⟩
  refine mono σ H _ _ (fun b H1 q => ?_) (hs σ H p)
  cases b with
  | true => exact ⟨_, fun σ' H' ⟨p', l⟩ => ⟨_, l, rfl, p'⟩, q⟩
  | false => exact q
end L2

namespace L2
open PySem PySem.Spec PyProof.Rows

abbrev R2 := V → V → Hp → VK → Prop
/-- a two-place operation on values: f is binaryOp op, inplaceOp op or compareOp op -/
def OpR (X : Cx) (f : Value → Value → Sem Value) (r : R2) : Prop :=
  ∀ (pins : List (Addr × Obj)) (s : Shared) (σ : St) (H : Hp) (x y : V) (v u : Value) (Q : VK), Inv X pins σ H s → RelV x v → RelV y u → r x y H Q →
    wpAny (model X.prog X.w) X.A (f v u) (EP X pins σ Q) X.xe s
/-- a one-place operation -/
def UnR (X : Cx) (f : Value → Sem Value) (r : V → Hp → VK → Prop) : Prop :=
  ∀ (pins : List (Addr × Obj)) (s : Shared) (σ : St) (H : Hp) (x : V) (v : Value) (Q : VK), Inv X pins σ H s → RelV x v → r x H Q →
    wpAny (model X.prog X.w) X.A (f v) (EP X pins σ Q) X.xe s
/-- a call of a value that is known (a builtin, a type) with values -/
def CallR (X : Cx) (f : Value) (r : List V → Hp → VK → Prop) : Prop :=
  ∀ (pins : List (Addr × Obj)) (s : Shared) (σ : St) (H : Hp) (xs : List V) (us : List Value) (Q : VK), Inv X pins σ H s → Vals xs us → r xs H Q →
    wpAny (model X.prog X.w) X.A (call f us) (EP X pins σ Q) X.xe s
/-- a value's truth -/
def TruR (X : Cx) (r : V → Hp → (Bool → Hp → Prop) → Prop) : Prop :=
  ∀ (pins : List (Addr × Obj)) (s : Shared) (σ : St) (H : Hp) (x : V) (v : Value) (Q : Bool → Hp → Prop), Inv X pins σ H s → RelV x v → r x H Q →
    wpAny (model X.prog X.w) X.A (truthy v) (TP X pins σ Q) X.xe s

def tOp (r : R2) (ta tb : TE) : TE := fun σ H Q => ta σ H fun x H1 => tb σ H1 fun y H2 => r x y H2 Q
def tUn (r : V → Hp → VK → Prop) (ta : TE) : TE := fun σ H Q => ta σ H fun x H1 => r x H1 Q
/-- ints in, under C, and a value out -/
def rI (C : Int → Int → Prop) (g : Int → Int → V) : R2 := fun x y H Q => ∃ i j, x = .int i ∧ y = .int j ∧ C i j ∧ Q (g i j) H
def rI0 (g : Int → Int → V) : R2 := fun x y H Q => ∃ i j, x = .int i ∧ y = .int j ∧ Q (g i j) H
def rU (g : Int → V) : V → Hp → VK → Prop := fun x H Q => ∃ i, x = .int i ∧ Q (g i) H

section
variable {X : Cx} {a b c : Expr} {ta tb tc : TE} {pos : Pos}

theorem binT (ha : PE X a ta) (hb : PE X b tb) {pins : List (Addr × Obj)} {s : Shared} {σ : St} {H : Hp} {R : V → V → Hp → Prop} (I : Inv X pins σ H s)
    (h : ta σ H fun x H1 => tb σ H1 fun y H2 => R x y H2) {Q : Value → Shared → Prop} {f : Value → Value → Sem Value}
    (hf : ∀ v u s2 x y H2, Inv X pins σ H2 s2 → RelV x v → RelV y u → R x y H2 → wpAny (model X.prog X.w) X.A (f v u) Q X.xe s2) :
    wpAny (model X.prog X.w) X.A (eval a X.env) (fun v s₁ => wpAny (model X.prog X.w) X.A (eval b X.env) (fun u s₂ => wpAny (model X.prog X.w) X.A (f v u) Q X.xe s₂) X.xe s₁) X.xe s := by
  refine thn (ha pins s σ H _ I h) fun v s1 ⟨x, H1, I1, r1, q1⟩ => ?_
  refine thn (hb pins s1 σ H1 _ I1 q1) fun u s2 ⟨y, H2, I2, r2, q2⟩ => ?_
  exact hf v u s2 x y H2 I2 r1 r2 q2

theorem pe_op {op : Operator} {r : R2} (ho : OpR X (binaryOp op) r) (ha : PE X a ta) (hb : PE X b tb) : PE X (.BinOp a op b pos) (tOp r ta tb) := by
  intro pins s σ H Q I h
  exact wpAny_BinOp (binT ha hb I h fun v u s2 x y H2 I2 rx ry q => ho pins s2 σ H2 x y v u Q I2 rx ry q)
theorem pe_un {op : UnaryOp} {r : V → Hp → VK → Prop} (ho : UnR X (unaryOp op) r) (ha : PE X a ta) : PE X (.UnaryOp op a pos) (tUn r ta) := by
  intro pins s σ H Q I h
  exact UnaryOp_ (thn (ha pins s σ H _ I h) fun v s1 ⟨x, H1, I1, r1, q1⟩ => ho pins s1 σ H1 x v Q I1 r1 q1)
/-- a op= e at a name: the name's slot i -/
theorem augR {op : Operator} {r : R2} (ho : OpR X (inplaceOp op) r) {pins : List (Addr × Obj)} {s : Shared} {σ : St} {H : Hp} {x y : V} {v u : Value} {Q : VK} (I : Inv X pins σ H s)
    (rx : RelV x v) (ry : RelV y u) (q : r x y H Q) : wpAny (model X.prog X.w) X.A (inplaceOp op v u) (EP X pins σ Q) X.xe s := ho pins s σ H x y v u Q I rx ry q

/-! ### ints -/
theorem opI {f : Value → Value → Sem Value} {C : Int → Int → Prop} {g : Int → Int → Int}
    (rule : ∀ (i j : Int) (t u : Tok) (s : Shared) (Q : Value → Shared → Prop) (E : Value → Shared → Prop), C i j → Q (.int (g i j) s.toks) { s with toks := s.toks + 1 } → wpAny (model X.prog X.w) X.A (f (.int i t) (.int j u)) Q E s) :
    OpR X f (rI C fun i j => .int (g i j)) := by
  intro pins s σ H x y v u Q I rx ry h
  obtain ⟨i, j, rfl, rfl, hc, q⟩ := h
  obtain ⟨t, rfl⟩ := rx
  obtain ⟨t', rfl⟩ := ry
  exact rule i j t t' s _ _ hc ⟨.int (g i j), H, I.tok _, ⟨_, rfl⟩, q⟩
theorem opI0 {f : Value → Value → Sem Value} {g : Int → Int → Int}
    (rule : ∀ (i j : Int) (t u : Tok) (s : Shared) (Q : Value → Shared → Prop) (E : Value → Shared → Prop), Q (.int (g i j) s.toks) { s with toks := s.toks + 1 } → wpAny (model X.prog X.w) X.A (f (.int i t) (.int j u)) Q E s) :
    OpR X f (rI0 fun i j => .int (g i j)) := by
  intro pins s σ H x y v u Q I rx ry h
  obtain ⟨i, j, rfl, rfl, q⟩ := h
  obtain ⟨t, rfl⟩ := rx
  obtain ⟨t', rfl⟩ := ry
  exact rule i j t t' s _ _ ⟨.int (g i j), H, I.tok _, ⟨_, rfl⟩, q⟩
theorem opB0 {f : Value → Value → Sem Value} {g : Int → Int → Bool}
    (rule : ∀ (i j : Int) (t u : Tok) (s : Shared) (Q : Value → Shared → Prop) (E : Value → Shared → Prop), Q (.bool (g i j)) s → wpAny (model X.prog X.w) X.A (f (.int i t) (.int j u)) Q E s) :
    OpR X f (rI0 fun i j => .bl (g i j)) := by
  intro pins s σ H x y v u Q I rx ry h
  obtain ⟨i, j, rfl, rfl, q⟩ := h
  obtain ⟨t, rfl⟩ := rx
  obtain ⟨t', rfl⟩ := ry
  exact rule i j t t' s _ _ ⟨.bl (g i j), H, I, rfl, q⟩

def CDiv (i j : Int) : Prop := 0 < j ∧ j < 1073741824
def CDivN (i j : Int) : Prop := j ≠ 0 ∧ j.natAbs < 1073741824
def CPow (i j : Int) : Prop := 0 ≤ j ∧ j ≤ 1000000 ∧ i.natAbs < 2 ^ 64
def CMul (i j : Int) : Prop := (-(2 ^ 64) < i ∧ i < 2 ^ 64) ∨ (-(2 ^ 64) < j ∧ j < 2 ^ 64)
theorem CMul.ok {i j : Int} (h : CMul i j) : IntMulOk i j := by
  rcases h with ⟨h1, h2⟩ | ⟨h1, h2⟩
  · exact .of_left (intBits_le_64 h1 h2)
  · exact .of_right (intBits_le_64 h1 h2)
theorem two_pow_nn (k : Nat) : (0 : Int) ≤ 2 ^ k := by
  rw [two_pow_cast]
  exact Int.natCast_nonneg _

theorem op_add : OpR X (binaryOp .Add) (rI0 fun i j => .int (i + j)) := opI0 fun _ _ _ _ _ _ _ q => add_int q
theorem op_sub : OpR X (binaryOp .Sub) (rI0 fun i j => .int (i - j)) := opI0 fun _ _ _ _ _ _ _ q => sub_int q
theorem op_mul : OpR X (binaryOp .Mult) (rI CMul fun i j => .int (i * j)) := opI fun _ _ _ _ _ _ _ hc q => mul_int q hc.ok
/-- // by a positive divisor -/
theorem op_fdiv : OpR X (binaryOp .FloorDiv) (rI CDiv fun i j => .int (i / j)) := opI fun i j _ _ _ _ _ hc q => by
  have h1 : (0 : Int) < j := hc.1
  have h2 : j < 1073741824 := hc.2
  exact floordiv_int (by omega) (by rw [Int.fdiv_eq_ediv_of_nonneg i (by omega)]; exact q) (.inl (PyProof.noPylong_small (by omega)))
theorem op_fdivN : OpR X (binaryOp .FloorDiv) (rI CDivN fun i j => .int (i.fdiv j)) := opI fun _ _ _ _ _ _ _ hc q => floordiv_int hc.1 q (.inl (PyProof.noPylong_small hc.2))
/-- % by a positive divisor of any size -/
theorem op_mod : OpR X (binaryOp .Mod) (rI (fun _ j => 0 < j) fun i j => .int (i % j)) := opI fun i j _ _ _ _ _ hc q => by
  have h1 : (0 : Int) < j := hc
  exact mod_int' (by omega) (by rw [Int.fmod_eq_emod_of_nonneg i (by omega)]; exact q)
theorem op_modN : OpR X (binaryOp .Mod) (rI (fun _ j => j ≠ 0) fun i j => .int (i.fmod j)) := opI fun _ _ _ _ _ _ _ hc q => mod_int' hc q
theorem op_pow : OpR X (binaryOp .Pow) (rI CPow fun i j => .int (i ^ j.toNat)) := opI fun _ _ _ _ _ _ _ hc q => pow_int_small hc.1 hc.2.1 hc.2.2 q
theorem op_shl : OpR X (binaryOp .LShift) (rI CPow fun i j => .int (i * 2 ^ j.toNat)) := opI fun _ _ _ _ _ _ _ hc q => lshift_int_small hc.1 hc.2.1 hc.2.2 q
theorem op_shr : OpR X (binaryOp .RShift) (rI (fun _ j => 0 ≤ j) fun i j => .int (i / 2 ^ j.toNat)) := opI fun i j _ _ _ _ _ hc q =>
  rshift_int hc (by rw [Int.fdiv_eq_ediv_of_nonneg i (two_pow_nn _)]; exact q)
theorem op_and : OpR X (binaryOp .BitAnd) (rI0 fun i j => .int (Builtin.bitAnd i j)) := opI0 fun _ _ _ _ _ _ _ q => and_int q
theorem op_or : OpR X (binaryOp .BitOr) (rI0 fun i j => .int (Builtin.bitOr i j)) := opI0 fun _ _ _ _ _ _ _ q => or_int q
theorem op_xor : OpR X (binaryOp .BitXor) (rI0 fun i j => .int (Builtin.bitXor i j)) := opI0 fun _ _ _ _ _ _ _ q => xor_int q

theorem iop_add : OpR X (inplaceOp .Add) (rI0 fun i j => .int (i + j)) := opI0 fun _ _ _ _ _ _ _ q => iadd_int q
theorem iop_sub : OpR X (inplaceOp .Sub) (rI0 fun i j => .int (i - j)) := opI0 fun _ _ _ _ _ _ _ q => isub_int q
theorem iop_mul : OpR X (inplaceOp .Mult) (rI CMul fun i j => .int (i * j)) := opI fun _ _ _ _ _ _ _ hc q => imul_int q hc.ok
theorem iop_fdiv : OpR X (inplaceOp .FloorDiv) (rI CDiv fun i j => .int (i / j)) := opI fun i j _ _ _ _ _ hc q => by
  have h1 : (0 : Int) < j := hc.1
  have h2 : j < 1073741824 := hc.2
  exact ifloordiv_int (by omega) (by rw [Int.fdiv_eq_ediv_of_nonneg i (by omega)]; exact q) (.inl (PyProof.noPylong_small (by omega)))
theorem iop_mod : OpR X (inplaceOp .Mod) (rI (fun _ j => 0 < j) fun i j => .int (i % j)) := opI fun i j _ _ _ _ _ hc q => by
  have h1 : (0 : Int) < j := hc
  exact imod_int (by omega) (by rw [Int.fmod_eq_emod_of_nonneg i (by omega)]; exact q)
theorem iop_shl : OpR X (inplaceOp .LShift) (rI CPow fun i j => .int (i * 2 ^ j.toNat)) := opI fun _ _ _ _ _ _ _ hc q => ilshift_int_small hc.1 hc.2.1 hc.2.2 q
theorem iop_shr : OpR X (inplaceOp .RShift) (rI (fun _ j => 0 ≤ j) fun i j => .int (i / 2 ^ j.toNat)) := opI fun i j _ _ _ _ _ hc q =>
  irshift_int hc (by rw [Int.fdiv_eq_ediv_of_nonneg i (two_pow_nn _)]; exact q)
theorem iop_and : OpR X (inplaceOp .BitAnd) (rI0 fun i j => .int (Builtin.bitAnd i j)) := opI0 fun _ _ _ _ _ _ _ q => iand_int q
theorem iop_or : OpR X (inplaceOp .BitOr) (rI0 fun i j => .int (Builtin.bitOr i j)) := opI0 fun _ _ _ _ _ _ _ q => ior_int q
theorem iop_xor : OpR X (inplaceOp .BitXor) (rI0 fun i j => .int (Builtin.bitXor i j)) := opI0 fun _ _ _ _ _ _ _ q => ixor_int q

theorem unI {f : Value → Sem Value} {g : Int → Int}
    (rule : ∀ (i : Int) (t : Tok) (s : Shared) (Q : Value → Shared → Prop) (E : Value → Shared → Prop), Q (.int (g i) s.toks) { s with toks := s.toks + 1 } → wpAny (model X.prog X.w) X.A (f (.int i t)) Q E s) :
    UnR X f (rU fun i => .int (g i)) := by
  intro pins s σ H x v Q I rx h
  obtain ⟨i, rfl, q⟩ := h
  obtain ⟨t, rfl⟩ := rx
  exact rule i t s _ _ ⟨.int (g i), H, I.tok _, ⟨_, rfl⟩, q⟩
theorem un_neg : UnR X (unaryOp .USub) (rU fun i => .int (-i)) := unI fun _ _ _ _ _ q => neg_int q
theorem un_inv : UnR X (unaryOp .Invert) (rU fun i => .int (Builtin.bitNot i)) := unI fun _ _ _ _ _ q => invert_int q

/-! ### bools among ints: n += (a < b) -/
theorem op_add_ib : OpR X (binaryOp .Add) (fun x y H Q => ∃ i k, x = .int i ∧ y = .bl k ∧ Q (.int (i + b2i k)) H) := by
  intro pins s σ H x y v u Q I rx ry h
  obtain ⟨i, k, rfl, rfl, q⟩ := h
  obtain ⟨t, rfl⟩ := rx
  cases ry
  exact add_int_bool ⟨.int (i + b2i k), H, I.tok _, ⟨_, rfl⟩, q⟩
end

/-! ### comparisons -/
/-- the scalars that == tells apart as data does -/
def scal : V → V → Bool
  | .non, .non => true | .non, .int _ => true | .int _, .non => true | .non, .bl _ => true | .bl _, .non => true | .non, .str _ => true | .str _, .non => true
  | .int _, .int _ => true | .bl _, .bl _ => true | .str _, .str _ => true | .byt _, .byt _ => true
  | .int _, .str _ => true | .str _, .int _ => true | .bl _, .str _ => true | .str _, .bl _ => true
  | _, _ => false
def rEq : R2 := fun x y H Q => scal x y = true ∧ Q (.bl (decide (x = y))) H
def rNe : R2 := fun x y H Q => scal x y = true ∧ Q (.bl (!decide (x = y))) H

theorem dec_int {i j : Int} : decide (V.int i = V.int j) = (i == j) := by
  rw [Bool.eq_iff_iff]
  simp
theorem dec_bl {i j : Bool} : decide (V.bl i = V.bl j) = (i == j) := by
  rw [Bool.eq_iff_iff]
  simp
theorem dec_str {i j : Str} : decide (V.str i = V.str j) = (i == j) := by
  rw [Bool.eq_iff_iff]
  simp
theorem dec_byt {i j : Array UInt8} : decide (V.byt i = V.byt j) = (i.toList == j.toList) := by
  rw [Bool.eq_iff_iff]
  cases i
  cases j
  simp

section
variable {X : Cx} {a b c : Expr} {ta tb tc : TE} {pos : Pos}
theorem fin_bl {pins : List (Addr × Obj)} {σ : St} {H : Hp} {s : Shared} {Q : VK} {k k' : Bool} (I : Inv X pins σ H s) (q : Q (.bl k) H) (e : k = k') : EP X pins σ Q (.bool k') s := by
  subst e
  exact ⟨.bl k, H, I, rfl, q⟩
theorem op_eq : OpR X (compareOp .Eq) rEq := by
  intro pins s σ H x y v u Q I rx ry h
  obtain ⟨hs, q⟩ := h
  cases x with
  | non =>
    cases rx
    cases y with
    | non => cases ry; exact PySem.EqNone.eq_none_none (fin_bl I q (by simp))
    | bl j => cases ry; exact PySem.EqNone.eq_none_bool (fin_bl I q (by simp))
    | int j => obtain ⟨t', rfl⟩ := ry; exact PySem.EqNone.eq_none_int (fin_bl I q (by simp))
    | str j => obtain ⟨t', rfl⟩ := ry; exact PySem.EqNone.eq_none_str (fin_bl I q (by simp))
    | _ => exact absurd (show false = true from hs) Bool.false_ne_true
  | bl i =>
    cases rx
    cases y with
    | non => cases ry; exact PySem.EqNone.eq_bool_none (fin_bl I q (by simp))
    | bl j => cases ry; exact eq_bool (fin_bl I q dec_bl)
    | str j => obtain ⟨t', rfl⟩ := ry; exact PySem.EqMixed.eq_bool_str (fin_bl I q (by simp))
    | _ => exact absurd (show false = true from hs) Bool.false_ne_true
  | int i =>
    obtain ⟨t, rfl⟩ := rx
    cases y with
    | non => cases ry; exact PySem.EqNone.eq_int_none (fin_bl I q (by simp))
    | int j => obtain ⟨t', rfl⟩ := ry; exact eq_int (fin_bl I q dec_int)
    | str j => obtain ⟨t', rfl⟩ := ry; exact PySem.EqMixed.eq_int_str (fin_bl I q (by simp))
    | _ => exact absurd (show false = true from hs) Bool.false_ne_true
  | str i =>
    obtain ⟨t, rfl⟩ := rx
    cases y with
    | non => cases ry; exact PySem.EqNone.eq_str_none (fin_bl I q (by simp))
    | bl j => cases ry; exact PySem.EqMixed.eq_str_bool (fin_bl I q (by simp))
    | int j => obtain ⟨t', rfl⟩ := ry; exact PySem.EqMixed.eq_str_int (fin_bl I q (by simp))
    | str j => obtain ⟨t', rfl⟩ := ry; exact eq_str (fin_bl I q dec_str)
    | _ => exact absurd (show false = true from hs) Bool.false_ne_true
  | byt i =>
    obtain ⟨t, rfl⟩ := rx
    cases y with
    | byt j => obtain ⟨t', rfl⟩ := ry; exact PySem.W.eq_bytes (fin_bl I q dec_byt)
    | _ => exact absurd (show false = true from hs) Bool.false_ne_true
  | _ => cases y <;> exact absurd (show false = true from hs) Bool.false_ne_true
theorem op_ne : OpR X (compareOp .NotEq) rNe := by
  intro pins s σ H x y v u Q I rx ry h
  obtain ⟨hs, q⟩ := h
  cases x with
  | non =>
    cases rx
    cases y with
    | non => cases ry; exact PySem.EqNone.ne_none_none (fin_bl I q (by simp))
    | bl j => cases ry; exact PySem.EqNone.ne_none_bool (fin_bl I q (by simp))
    | int j => obtain ⟨t', rfl⟩ := ry; exact PySem.EqNone.ne_none_int (fin_bl I q (by simp))
    | str j => obtain ⟨t', rfl⟩ := ry; exact PySem.EqNone.ne_none_str (fin_bl I q (by simp))
    | _ => exact absurd (show false = true from hs) Bool.false_ne_true
  | bl i =>
    cases rx
    cases y with
    | non => cases ry; exact PySem.EqNone.ne_bool_none (fin_bl I q (by simp))
    | bl j => cases ry; exact ne_bool (fin_bl I q (congrArg not dec_bl))
    | str j => obtain ⟨t', rfl⟩ := ry; exact PySem.EqMixed.ne_bool_str (fin_bl I q (by simp))
    | _ => exact absurd (show false = true from hs) Bool.false_ne_true
  | int i =>
    obtain ⟨t, rfl⟩ := rx
    cases y with
    | non => cases ry; exact PySem.EqNone.ne_int_none (fin_bl I q (by simp))
    | int j => obtain ⟨t', rfl⟩ := ry; exact ne_int (fin_bl I q (congrArg not dec_int))
    | str j => obtain ⟨t', rfl⟩ := ry; exact PySem.EqMixed.ne_int_str (fin_bl I q (by simp))
    | _ => exact absurd (show false = true from hs) Bool.false_ne_true
  | str i =>
    obtain ⟨t, rfl⟩ := rx
    cases y with
    | non => cases ry; exact PySem.EqNone.ne_str_none (fin_bl I q (by simp))
    | bl j => cases ry; exact PySem.EqMixed.ne_str_bool (fin_bl I q (by simp))
    | int j => obtain ⟨t', rfl⟩ := ry; exact PySem.EqMixed.ne_str_int (fin_bl I q (by simp))
    | str j => obtain ⟨t', rfl⟩ := ry; exact ne_str (fin_bl I q (congrArg not dec_str))
    | _ => exact absurd (show false = true from hs) Bool.false_ne_true
  | byt i =>
    obtain ⟨t, rfl⟩ := rx
    cases y with
    | byt j => obtain ⟨t', rfl⟩ := ry; exact PySem.W.ne_bytes (fin_bl I q (congrArg not dec_byt))
    | _ => exact absurd (show false = true from hs) Bool.false_ne_true
  | _ => cases y <;> exact absurd (show false = true from hs) Bool.false_ne_true

theorem op_lt : OpR X (compareOp .Lt) (rI0 fun i j => .bl (decide (i < j))) := opB0 fun _ _ _ _ _ _ _ q => lt_int q
theorem op_le : OpR X (compareOp .LtE) (rI0 fun i j => .bl (decide (i ≤ j))) := opB0 fun _ _ _ _ _ _ _ q => le_int q
theorem op_gt : OpR X (compareOp .Gt) (rI0 fun i j => .bl (decide (j < i))) := opB0 fun _ _ _ _ _ _ _ q => gt_int q
theorem op_ge : OpR X (compareOp .GtE) (rI0 fun i j => .bl (decide (j ≤ i))) := opB0 fun _ _ _ _ _ _ _ q => ge_int q
theorem op_lt_str : OpR X (compareOp .Lt) (fun x y H Q => ∃ i j, x = .str i ∧ y = .str j ∧ Q (.bl (decide (i.cps.toList < j.cps.toList))) H) := by
  intro pins s σ H x y v u Q I rx ry h
  obtain ⟨i, j, rfl, rfl, q⟩ := h
  obtain ⟨t, rfl⟩ := rx
  obtain ⟨t', rfl⟩ := ry
  exact lt_str (fin_bl I q rfl)
/-- the one string within the other -/
theorem op_in_str : OpR X (compareOp .In) (fun x y H Q => ∃ i j, x = .str i ∧ y = .str j ∧ Q (.bl (!(Builtin.Str.occurrences j i 0 j.length 1).isEmpty)) H) := by
  intro pins s σ H x y v u Q I rx ry h
  obtain ⟨i, j, rfl, rfl, q⟩ := h
  obtain ⟨t, rfl⟩ := rx
  obtain ⟨t', rfl⟩ := ry
  exact in_str (fin_bl I q rfl)

/-- is None, is not None: the right side a value none -/
theorem op_isN : OpR X (compareOp .Is) (fun x y H Q => y = .non ∧ Q (.bl (decide (x = .non))) H) := by
  intro pins s σ H x y v u Q I rx ry h
  obtain ⟨rfl, q⟩ := h
  cases ry
  refine is_none_gen (fin_bl I q ?_)
  cases x <;> first
    | (cases rx; rfl)
    | (obtain ⟨t, rfl⟩ := rx; rfl)
theorem op_notN : OpR X (compareOp .IsNot) (fun x y H Q => y = .non ∧ Q (.bl (!decide (x = .non))) H) := by
  intro pins s σ H x y v u Q I rx ry h
  obtain ⟨rfl, q⟩ := h
  cases ry
  refine isnot_none_gen (fin_bl I q ?_)
  cases x <;> first
    | (cases rx; rfl)
    | (obtain ⟨t, rfl⟩ := rx; rfl)

theorem op_notin_str : OpR X (compareOp .NotIn) (fun x y H Q => ∃ i j, x = .str i ∧ y = .str j ∧ Q (.bl (!(!(Builtin.Str.occurrences j i 0 j.length 1).isEmpty))) H) := by
  intro pins s σ H x y v u Q I rx ry h
  obtain ⟨i, j, rfl, rfl, q⟩ := h
  obtain ⟨t, rfl⟩ := rx
  obtain ⟨t', rfl⟩ := ry
  exact notIn_str (fin_bl I q rfl)
/-- is, is not of two objects that are tracked lists or instances -/
def isObj : HO → Bool
  | .lst _ => true
  | .ins _ _ _ => true
  | _ => false
theorem obj_there {pins : List (Addr × Obj)} {s : Shared} {σ : St} {H : Hp} {a : Addr} {o : HO} (I : Inv X pins σ H s) (h : H a = some o) (p : isObj o = true) : ∃ ob, s.heap.get? a = some ob ∧ ob.cls ≠ .type "tuple" := by
  cases o with
  | lst xs =>
    obtain ⟨_, its, n, _, e⟩ : xs.length ≤ sizeLine ∧ ∃ (its : List Value) (n : Nat), Vals xs its ∧ s.heap.get? a = some { cls := .type "list", data := .seq its.toArray n } := I.hok a _ h
    exact ⟨_, e, (by show Value.type "list" ≠ .type "tuple"; decide +kernel)⟩
  | ins C dx fs =>
    have x := I.hok a _ h
    obtain ⟨_, _, _, e, _⟩ := x
    exact ⟨_, e, (by show Value.ref C ≠ .type "tuple"; exact fun z => by cases z)⟩
  | _ => exact absurd (show false = true from p) Bool.false_ne_true
theorem op_is_ref : OpR X (compareOp .Is) (fun x y H Q => ∃ a b oa ob, x = .ref a ∧ y = .ref b ∧ H a = some oa ∧ isObj oa = true ∧ H b = some ob ∧ isObj ob = true ∧ Q (.bl (decide (a = b))) H) := by
  intro pins s σ H x y v u Q I rx ry h
  obtain ⟨a, b, oa, ob, rfl, rfl, ha, pa, hb, pb, q⟩ := h
  cases rx
  cases ry
  obtain ⟨o1, e1, n1⟩ := obj_there I ha pa
  obtain ⟨o2, e2, _⟩ := obj_there I hb pb
  by_cases z : a = b
  · subst z
    exact wpAny_is_ref_self (fin_bl I q (by simp))
  · exact wpAny_is_ref_other z e1 e2 n1 (fin_bl I q (by simp [z]))
theorem op_isnot_ref : OpR X (compareOp .IsNot) (fun x y H Q => ∃ a b oa ob, x = .ref a ∧ y = .ref b ∧ H a = some oa ∧ isObj oa = true ∧ H b = some ob ∧ isObj ob = true ∧ Q (.bl (!decide (a = b))) H) := by
  intro pins s σ H x y v u Q I rx ry h
  obtain ⟨a, b, oa, ob, rfl, rfl, ha, pa, hb, pb, q⟩ := h
  cases rx
  cases ry
  obtain ⟨o1, e1, n1⟩ := obj_there I ha pa
  obtain ⟨o2, e2, _⟩ := obj_there I hb pb
  by_cases z : a = b
  · subst z
    exact wpAny_isNot_ref_self (fin_bl I q (by simp))
  · exact wpAny_isNot_ref_other z e1 e2 n1 (fin_bl I q (by simp [z]))

/-- two rules for one operation: by cases -/
theorem OpR.or {f : Value → Value → Sem Value} {r r' : R2} (h : OpR X f r) (h' : OpR X f r') : OpR X f (fun x y H Q => r x y H Q ∨ r' x y H Q) := by
  intro pins s σ H x y v u Q I rx ry q
  rcases q with q | q
  · exact h pins s σ H x y v u Q I rx ry q
  · exact h' pins s σ H x y v u Q I rx ry q

theorem nomark (b : Expr) {op : CmpOp} (h : op ≠ .In := by decide) (h2 : op ≠ .NotIn := by decide) : behindInMarks op b = false := by
  have e1 : (op == CmpOp.In) = false := by cases op <;> first | rfl | exact absurd rfl h
  have e2 : (op == CmpOp.NotIn) = false := by cases op <;> first | rfl | exact absurd rfl h2
  cases b <;> simp [behindInMarks, e1, e2]
/-- a comparison as a value; hm: nomark b, or (for in, not in) by with_unfolding_all rfl -/
theorem pe_cmpR {op : CmpOp} {r : R2} (ho : OpR X (compareOp op) r) (ha : PE X a ta) (hb : PE X b tb) (hm : behindInMarks op b = false) : PE X (.Compare a [op] [b] pos) (tOp r ta tb) := by
  intro pins s σ H Q I h
  exact wpAny_Compare1 (binT ha hb I h fun v u s2 x y H2 I2 rx ry q => ho pins s2 σ H2 x y v u Q I2 rx ry q) hm
/-- a reading of a value as a test -/
def tTest (t : TE) : TT := fun σ H Q => t σ H fun x H' => ∃ k, x = .bl k ∧ Q k H'
theorem pt_cmpR {op : CmpOp} {r : R2} (ho : OpR X (compareOp op) r) (ha : PE X a ta) (hb : PE X b tb) (hm : behindInMarks op b = false) : PT X (.Compare a [op] [b] pos) (tTest (tOp r ta tb)) := by
  intro pins s σ H Q I h
  refine wpAny_isTrue_Compare1 (thn (ha pins s σ H _ I h) fun v s1 ⟨x, H1, I1, r1, q1⟩ => thn (hb pins s1 σ H1 _ I1 q1) fun u s2 ⟨y, H2, I2, r2, q2⟩ =>
    thn (ho pins s2 σ H2 x y v u _ I2 r1 r2 q2) fun c s3 ⟨z, H3, I3, r3, k, e, q3⟩ => ?_) hm
  subst e
  cases r3
  exact wpAny_truthy_bool ⟨H3, I3, q3⟩
/-- a op1 b op2 c -/
def tChain (r r' : R2) (ta tb tc : TE) : TE := fun σ H Q => ta σ H fun x H1 => tb σ H1 fun y H2 => r x y H2 fun z H3 => ∃ k, z = .bl k ∧
  (if k = true then tc σ H3 fun w' H4 => r' y w' H4 Q else Q (.bl false) H3)
theorem pe_chain {op op' : CmpOp} {r r' : R2} (ho : OpR X (compareOp op) r) (ho' : OpR X (compareOp op') r') (ha : PE X a ta) (hb : PE X b tb) (hc : PE X c tc)
    (hm : lastMarks [op, op'] [b, c] = false := by with_unfolding_all rfl) : PE X (.Compare a [op, op'] [b, c] pos) (tChain r r' ta tb tc) := by
  intro pins s σ H Q I h
  refine Compare_chain (thn (ha pins s σ H _ I h) fun v s1 ⟨x, H1, I1, r1, q1⟩ => chain_link (thn (hb pins s1 σ H1 _ I1 q1) fun u s2 ⟨y, H2, I2, r2, q2⟩ =>
    thn (ho pins s2 σ H2 x y v u _ I2 r1 r2 q2) fun d s3 ⟨z, H3, I3, r3, k, e, q3⟩ => ?_)) hm
  subst e
  cases r3
  refine wpAny_truthy_bool ?_
  cases k with
  | false => exact ite_ff ⟨.bl false, H3, I3, rfl, q3⟩
  | true => exact ite_tt (chain_last (thn (hc pins s3 σ H3 _ I3 q3) fun w' s4 ⟨z', H4, I4, r4, q4⟩ => ho' pins s4 σ H4 y z' u w' Q I4 r2 r4 q4))
theorem pt_chain {op op' : CmpOp} {r r' : R2} (ho : OpR X (compareOp op) r) (ho' : OpR X (compareOp op') r') (ha : PE X a ta) (hb : PE X b tb) (hc : PE X c tc)
    (hm : lastMarks [op, op'] [b, c] = false := by with_unfolding_all rfl) : PT X (.Compare a [op, op'] [b, c] pos) (tTest (tChain r r' ta tb tc)) := by
  intro pins s σ H Q I h
  refine isTrue_chain (thn (ha pins s σ H _ I h) fun v s1 ⟨x, H1, I1, r1, q1⟩ => test_link (thn (hb pins s1 σ H1 _ I1 q1) fun u s2 ⟨y, H2, I2, r2, q2⟩ =>
    thn (ho pins s2 σ H2 x y v u _ I2 r1 r2 q2) fun d s3 ⟨z, H3, I3, r3, k, e, q3⟩ => ?_)) hm
  subst e
  cases r3
  refine wpAny_truthy_bool ?_
  cases k with
  | false =>
    obtain ⟨k', e', q'⟩ := q3
    cases e'
    exact ite_ff ⟨H3, I3, q'⟩
  | true =>
    refine ite_tt (test_last (thn (hc pins s3 σ H3 _ I3 q3) fun w' s4 ⟨z', H4, I4, r4, q4⟩ => thn (ho' pins s4 σ H4 y z' u w' _ I4 r2 r4 q4) fun d' s5 ⟨z2, H5, I5, r5, k2, e2, q5⟩ => ?_))
    subst e2
    cases r5
    exact wpAny_truthy_bool ⟨H5, I5, q5⟩

/-! ### truth -/
/-- a value's truth by the abstract heap -/
def TruV (K : PySem.W.Frag) (x : V) (H : Hp) (k : Bool) : Prop :=
  match x with
  | .non => k = false
  | .bl b => k = b
  | .int i => k = (i != 0)
  | .str y => y.length ≤ sizeLine ∧ k = ((y.length : Int) != 0)
  | .byt y => y.size ≤ sizeLine ∧ k = ((y.size : Int) != 0)
  | .ref p => (∃ xs, SqL K H p xs ∧ k = !xs.isEmpty) ∨ (∃ xs, SqT K H p xs ∧ k = !xs.isEmpty) ∨ ∃ kvs, H p = some (.dK kvs) ∧ k = !kvs.isEmpty
  | _ => False
theorem isEmpty_kv {κ : Type} {kvs : List (κ × V)} {vs : List (κ × Value)} (r : KV kvs vs) : (!vs.isEmpty) = !kvs.isEmpty := by
  cases r <;> rfl
theorem isEmpty_of {xs : List V} {its : List Value} (r : Vals xs its) : (!its.toArray.isEmpty) = !xs.isEmpty := by
  cases r <;> simp
theorem line63 : (sizeLine : Nat) < 2 ^ 63 := by rw [sizeLine_eq]; decide
theorem tru_ok : TruR X (fun x H Q => ∃ k, TruV X.K x H k ∧ Q k H) := by
  intro pins s σ H x v Q I rx h
  obtain ⟨k, e, q⟩ := h
  have hl := line63
  have hs : sizeLine = 16777216 := sizeLine_eq
  cases x with
  | non =>
    cases rx
    have e' : k = false := e
    subst e'
    exact truthy_none ⟨H, I, q⟩
  | bl b =>
    cases rx
    have e' : k = b := e
    subst e'
    exact wpAny_truthy_bool ⟨H, I, q⟩
  | int i =>
    obtain ⟨t, rfl⟩ := rx
    have e' : k = (i != 0) := e
    subst e'
    exact PySem.P.truthy_int ⟨H, I, q⟩
  | str y =>
    obtain ⟨t, rfl⟩ := rx
    obtain ⟨hy, e'⟩ : y.length ≤ sizeLine ∧ k = ((y.length : Int) != 0) := e
    subst e'
    exact PySem.P.truthy_str (by omega) ⟨H, I.tok _, q⟩
  | byt y =>
    obtain ⟨t, rfl⟩ := rx
    obtain ⟨hy, e'⟩ : y.size ≤ sizeLine ∧ k = ((y.size : Int) != 0) := e
    subst e'
    exact PySem.W.truthy_bytes (by omega) ⟨H, I.tok _, q⟩
  | ref p =>
    cases rx
    have e' : (∃ xs, SqL X.K H p xs ∧ k = !xs.isEmpty) ∨ (∃ xs, SqT X.K H p xs ∧ k = !xs.isEmpty) ∨ ∃ kvs, H p = some (.dK kvs) ∧ k = !kvs.isEmpty := e
    rcases e' with ⟨xs, hx, e'⟩ | ⟨xs, hx, e'⟩ | ⟨kvs, hx, e'⟩
    · subst e'
      obtain ⟨its, r, pl, hz⟩ := I.list hx
      have hlen := r.length
      exact wpAny_truthy_list pl.isList (by simp only [List.size_toArray]; omega) ⟨H, I.tok _, by rw [isEmpty_of r]; exact q⟩
    · subst e'
      obtain ⟨its, r, pl, hz⟩ := I.tuple hx
      have hlen := r.length
      exact truthy_tuple pl (by simp only [List.size_toArray]; omega) ⟨H, I.tok _, by rw [isEmpty_of r]; exact q⟩
    · subst e'
      obtain ⟨hz, hS, vs, r, m⟩ : kvs.length ≤ sizeLine ∧ (p == sysModules) = false ∧ ∃ vs, KV kvs vs ∧ s.heap.DictOf (mixKind X.prog X.w) p vs := I.hok p _ hx
      have hlen : kvs.length = vs.length := Paired.length r
      exact wpAny_truthy_dict hS m (by omega) ⟨H, I.tok _, by rw [isEmpty_kv r]; exact q⟩
  | _ => exact (show False from e).elim
/-- any expression whose test is its value's truth (a name, a call, a subscript, a field ..: he by fun _ => rfl) -/
theorem pt_truth (ha : PE X a ta) (he : ∀ whole, isTrue a X.env whole = (do let v ← whole; standAt a.pos; holding [v] (truthy v))) :
    PT X a (fun σ H Q => ta σ H fun x H' => ∃ k, TruV X.K x H' k ∧ Q k H') := by
  intro pins s σ H Q I h
  exact isTrue_plain (thn (ha pins s σ H _ I h) fun v s1 ⟨x, H1, I1, r1, q1⟩ => tru_ok pins s1 σ H1 x v Q I1 r1 q1) (he _)

/-! ### strs and bytes -/
theorem pe_byt {x : List UInt8} {k : Nat} : PE X (.Constant (.bytes x) k pos) (fun _ H Q => Q (.byt x.toArray) H) := fun _ _ _ H _ I h => PySem.W.Constant_bytes ⟨.byt x.toArray, H, I.tok _, ⟨_, rfl⟩, h⟩
theorem op_add_str : OpR X (binaryOp .Add) (fun x y H Q => ∃ i j, x = .str i ∧ y = .str j ∧ i.length + j.length ≤ sizeLine ∧ Q (.str (i ++ j)) H) := by
  intro pins s σ H x y v u Q I rx ry h
  obtain ⟨i, j, rfl, rfl, hz, q⟩ := h
  obtain ⟨t, rfl⟩ := rx
  obtain ⟨t', rfl⟩ := ry
  exact add_str (fun t' tk => ⟨.str (i ++ j), H, I.tok _, ⟨_, rfl⟩, q⟩) hz
theorem iop_add_str : OpR X (inplaceOp .Add) (fun x y H Q => ∃ i j, x = .str i ∧ y = .str j ∧ i.length + j.length ≤ sizeLine ∧ Q (.str (i ++ j)) H) := by
  intro pins s σ H x y v u Q I rx ry h
  obtain ⟨i, j, rfl, rfl, hz, q⟩ := h
  obtain ⟨t, rfl⟩ := rx
  obtain ⟨t', rfl⟩ := ry
  exact iadd_str (fun t' tk => ⟨.str (i ++ j), H, I.tok _, ⟨_, rfl⟩, q⟩) hz
theorem op_add_byt : OpR X (binaryOp .Add) (fun x y H Q => ∃ i j, x = .byt i ∧ y = .byt j ∧ i.size + j.size ≤ 16777216 ∧ Q (.byt (i ++ j)) H) := by
  intro pins s σ H x y v u Q I rx ry h
  obtain ⟨i, j, rfl, rfl, hz, q⟩ := h
  obtain ⟨t, rfl⟩ := rx
  obtain ⟨t', rfl⟩ := ry
  exact PySem.W.KBy.add_bytes hz (fun t' tk => ⟨.byt (i ++ j), H, I.tok _, ⟨_, rfl⟩, q⟩)

def PlainIxT (b : Expr) : Prop := ∀ o i, subscripted b false o i = operate [o, i] (getItem o i)
/-- s[i], 0 ≤ i < len -/
theorem pe_item_str (ha : PE X a ta) (hb : PE X b tb) (hs : PlainIxT b) :
    PE X (.Subscript a b pos) (tOp (fun x y H Q => ∃ z i c, x = .str z ∧ y = .int i ∧ 0 ≤ i ∧ i < 2 ^ 63 ∧ i < z.length ∧ z.cps[i.toNat]? = some c ∧ Q (.str ⟨#[c]⟩) H) ta tb) := by
  intro pins s σ H Q I h
  refine Subscript_ (binT ha hb I h fun v u s2 x y H2 I2 rx ry q => ?_)
  obtain ⟨z, i, c, rfl, rfl, h0, h63, h1, hc, q⟩ := q
  obtain ⟨t, rfl⟩ := rx
  obtain ⟨t', rfl⟩ := ry
  have e : seqIndex? i z.length = some i.toNat := PySem.StrLaws.seqIndex_nonneg h0 h1
  exact tail_any (typeIs_str s2 z t) slot_str_getitem.lookup (getItem_str (c := c) (by
    have e1 : decide (i < -(2 ^ 63 : Int)) = false := decide_eq_false (by omega)
    have e2 : decide (i ≥ 2 ^ 63) = false := decide_eq_false (by omega)
    rw [e1, e2] <;> rfl) (by rw [e]; exact hc) ⟨.str ⟨#[c]⟩, H2, I2.tok _, ⟨_, rfl⟩, q⟩) (hs _ _)
/-- b[i], 0 ≤ i < len -/
theorem pe_item_byt (ha : PE X a ta) (hb : PE X b tb) (hs : PlainIxT b) :
    PE X (.Subscript a b pos) (tOp (fun x y H Q => ∃ (z : List UInt8) (i : Int), x = .byt z.toArray ∧ y = .int i ∧ z.length ≤ sizeLine ∧ 0 ≤ i ∧ i < z.length ∧ Q (.int ((z.getD i.toNat 0).toNat : Nat)) H) ta tb) := by
  intro pins s σ H Q I h
  refine Subscript_ (binT ha hb I h fun v u s2 x y H2 I2 rx ry q => ?_)
  obtain ⟨z, i, rfl, rfl, hz, h0, h1, q⟩ := q
  obtain ⟨t, rfl⟩ := rx
  obtain ⟨t', rfl⟩ := ry
  have hl : sizeLine = 16777216 := sizeLine_eq
  exact tail_any (PySem.W.typeIs_bytes s2 z.toArray t) PySem.W.FB.slot_bytes_getitem.lookup (PySem.W.getItem_bytes (by omega) h0 h1 ⟨.int ((z.getD i.toNat 0).toNat : Nat), H2, I2.tok _, ⟨_, rfl⟩, q⟩) (hs _ _)

/-! ### scalar builtins, by CallR -/
theorem vals1 {x : V} {us : List Value} (r : Vals [x] us) : ∃ u, us = [u] ∧ RelV x u := by
  cases r with
  | cons r1 r2 => cases r2; exact ⟨_, rfl, r1⟩
theorem vals2 {x y : V} {us : List Value} (r : Vals [x, y] us) : ∃ u w', us = [u, w'] ∧ RelV x u ∧ RelV y w' := by
  cases r with
  | cons r1 r2 =>
    cases r2 with
    | cons r3 r4 => cases r4; exact ⟨_, _, rfl, r1, r3⟩
theorem call_abs : CallR X (.builtin "abs") (fun xs H Q => ∃ i, xs = [.int i] ∧ Q (.int (if i < 0 then -i else i)) H) := by
  intro pins s σ H xs us Q I r h
  obtain ⟨i, rfl, q⟩ := h
  obtain ⟨u, rfl, t, rfl⟩ := vals1 r
  exact call_abs_int fun u tk => ⟨.int (if i < 0 then -i else i), H, I.tok _, ⟨_, rfl⟩, q⟩
theorem call_max2 (hc : X.calm = true) : CallR X (.builtin "max") (fun xs H Q => ∃ i j, xs = [.int i, .int j] ∧ Q (.int (if j > i then j else i)) H) := by
  intro pins s σ H xs us Q I r h
  obtain ⟨i, j, rfl, q⟩ := h
  obtain ⟨u, w', rfl, ⟨t, rfl⟩, ⟨t', rfl⟩⟩ := vals2 r
  refine max_two_ints (I.ok.hd hc) fun h' tk k => ⟨_, H, I.kept k, ?_, q⟩
  by_cases hj : j > i
  · rw [if_pos hj, if_pos hj]; exact ⟨_, rfl⟩
  · rw [if_neg hj, if_neg hj]; exact ⟨_, rfl⟩
theorem call_min2 (hc : X.calm = true) : CallR X (.builtin "min") (fun xs H Q => ∃ i j, xs = [.int i, .int j] ∧ Q (.int (if j < i then j else i)) H) := by
  intro pins s σ H xs us Q I r h
  obtain ⟨i, j, rfl, q⟩ := h
  obtain ⟨u, w', rfl, ⟨t, rfl⟩, ⟨t', rfl⟩⟩ := vals2 r
  refine min_two_ints (I.ok.hd hc) fun h' tk k => ⟨_, H, I.kept k, ?_, q⟩
  by_cases hj : j < i
  · rw [if_pos hj, if_pos hj]; exact ⟨_, rfl⟩
  · rw [if_neg hj, if_neg hj]; exact ⟨_, rfl⟩
theorem call_int1 : CallR X (.type "int") (fun xs H Q => (∃ i, xs = [.int i] ∧ Q (.int i) H) ∨ ∃ k, xs = [.bl k] ∧ Q (.int (if k then 1 else 0)) H) := by
  intro pins s σ H xs us Q I r h
  rcases h with ⟨i, rfl, q⟩ | ⟨k, rfl, q⟩
  · obtain ⟨u, rfl, t, rfl⟩ := vals1 r
    exact call_int_int ⟨.int i, H, I, ⟨_, rfl⟩, q⟩
  · obtain ⟨u, rfl, r1⟩ := vals1 r
    cases r1
    exact call_int_bool ⟨.int (if k then 1 else 0), H, I.tok _, ⟨_, rfl⟩, q⟩
theorem call_bool1 : CallR X (.type "bool") (fun xs H Q => (∃ i, xs = [.int i] ∧ Q (.bl (i != 0)) H) ∨ ∃ k, xs = [.bl k] ∧ Q (.bl k) H) := by
  intro pins s σ H xs us Q I r h
  rcases h with ⟨i, rfl, q⟩ | ⟨k, rfl, q⟩
  · obtain ⟨u, rfl, t, rfl⟩ := vals1 r
    exact call_bool_int ⟨.bl (i != 0), H, I, rfl, q⟩
  · obtain ⟨u, rfl, r1⟩ := vals1 r
    cases r1
    exact call_bool_bool ⟨.bl k, H, I, rfl, q⟩
theorem call_str_int : CallR X (.type "str") (fun xs H Q => ∃ i, xs = [.int i] ∧ i.natAbs.log2 < 1920 ∧ Q (.str (toString i)) H) := by
  intro pins s σ H xs us Q I r h
  obtain ⟨i, rfl, hz, q⟩ := h
  obtain ⟨u, rfl, t, rfl⟩ := vals1 r
  exact PySem.P.str_of_int hz ⟨.str _, H, I.tok _, ⟨_, rfl⟩, q⟩
theorem call_ord : CallR X (.builtin "ord") (fun xs H Q => ∃ x, xs = [.str x] ∧ x.length = 1 ∧ Q (.int (x.cps.getD 0 0 : Nat)) H) := by
  intro pins s σ H xs us Q I r h
  obtain ⟨x, rfl, hz, q⟩ := h
  obtain ⟨u, rfl, t, rfl⟩ := vals1 r
  exact ord_of_one hz ⟨.int _, H, I.tok _, ⟨_, rfl⟩, q⟩
theorem call_chr : CallR X (.builtin "chr") (fun xs H Q => ∃ i, xs = [.int i] ∧ 0 ≤ i ∧ i ≤ 1114111 ∧ Q (.str ⟨#[i.toNat]⟩) H) := by
  intro pins s σ H xs us Q I r h
  obtain ⟨i, rfl, h0, h1, q⟩ := h
  obtain ⟨u, rfl, t, rfl⟩ := vals1 r
  exact chr_of_range h0 h1 ⟨.str _, H, I.tok _, ⟨_, rfl⟩, q⟩
/-- len of a str, a bytes, a list, a tuple -/
def LenV (K : PySem.W.Frag) (x : V) (H : Hp) (n : Nat) : Prop :=
  match x with
  | .str y => y.length ≤ sizeLine ∧ n = y.length
  | .byt y => y.size ≤ sizeLine ∧ n = y.size
  | .ref p => (∃ xs, SqL K H p xs ∧ n = xs.length) ∨ ∃ xs, SqT K H p xs ∧ n = xs.length
  | _ => False
theorem call_len : CallR X (.builtin "len") (fun xs H Q => ∃ x n, xs = [x] ∧ LenV X.K x H n ∧ Q (.int n) H) := by
  intro pins s σ H xs us Q I r h
  obtain ⟨x, n, rfl, e, q⟩ := h
  obtain ⟨u, rfl, rx⟩ := vals1 r
  have hl := line63
  have hs : sizeLine = 16777216 := sizeLine_eq
  cases x with
  | str y =>
    obtain ⟨t, rfl⟩ := rx
    obtain ⟨hy, e'⟩ : y.length ≤ sizeLine ∧ n = y.length := e
    subst e'
    exact len_str (by omega) ⟨.int _, H, I.tok _, ⟨_, rfl⟩, q⟩
  | byt y =>
    obtain ⟨t, rfl⟩ := rx
    obtain ⟨hy, e'⟩ : y.size ≤ sizeLine ∧ n = y.size := e
    subst e'
    exact PySem.W.len_bytes (by omega) ⟨.int _, H, I.tok _, ⟨_, rfl⟩, q⟩
  | ref p =>
    cases rx
    have e' : (∃ xs, SqL X.K H p xs ∧ n = xs.length) ∨ ∃ xs, SqT X.K H p xs ∧ n = xs.length := e
    rcases e' with ⟨xs, hx, e'⟩ | ⟨xs, hx, e'⟩
    · subst e'
      obtain ⟨its, r', pl, hz⟩ := I.list hx
      have hlen := r'.length
      exact Calls.call_len_list pl.isList (by simp only [List.size_toArray]; omega) ⟨.int xs.length, H, I.tok _, ⟨_, by simp only [List.size_toArray]; rw [hlen]⟩, q⟩
    · subst e'
      obtain ⟨its, r', pl, hz⟩ := I.tuple hx
      have hlen := r'.length
      exact len_tuple pl (by simp only [List.size_toArray]; omega) ⟨.int xs.length, H, I.tok _, ⟨_, by simp only [List.size_toArray]; rw [hlen]⟩, q⟩
  | _ => exact (show False from e).elim
/-- divmod: a new tuple -/
theorem call_divmod : CallR X (.builtin "divmod") (fun xs H Q => ∃ i j, xs = [.int i, .int j] ∧ CDiv i j ∧ ∀ p, H p = none → Q (.ref p) (upd H p (.tup [.int (i / j), .int (i % j)]))) := by
  intro pins s σ H xs us Q I r h
  obtain ⟨i, j, rfl, ⟨h1, h2⟩, q⟩ := h
  obtain ⟨u, w', rfl, ⟨t, rfl⟩, ⟨t', rfl⟩⟩ := vals2 r
  refine divmod_int (by omega) ?_ (.inl (PyProof.noPylong_small (by omega)))
  rw [Int.fdiv_eq_ediv_of_nonneg i (by omega), Int.fmod_eq_emod_of_nonneg i (by omega)]
  have hn : H s.heap.objs.size = none := I.hok.fresh (Nat.le_refl _)
  refine ⟨.ref s.heap.objs.size, _, ?_, rfl, q _ hn⟩
  refine I.laid (fun b o e => Heap.get?_push_of_some _ e) (Nat.le_refl _) ⟨by simp only [List.length_cons, List.length_nil]; rw [sizeLine_eq]; decide, [.int (i / j) s.toks, .int (i % j) (s.toks + 1)], .cons ⟨_, rfl⟩ (.cons ⟨_, rfl⟩ .nil), ?_⟩
  exact ⟨_, Heap.get?_push_size s.heap rfl, rfl, 0, rfl⟩
end
end L2

namespace L2
open PySem PySem.Spec PyProof.Rows

/-! ### an instance, its attributes a map -/
structure ObjM (h : Heap) (x dx C : Addr) (mA : Str → Option Value) : Prop where
  obj : h.get? x = some (PySem.W.instObj C dx)
  ns : h.Ns1 dx mA
  ne : dx ≠ x

theorem lookIn_ns {h : Heap} {dx : Addr} {mA : Str → Option Value} (n : h.Ns1 dx mA) : ∃ od, h.get? dx = some od ∧ ∀ name, PySem.W.lookIn name od = some (mA name) := by
  obtain ⟨o, es, ep, ho, hd, hk, _, hm⟩ := n
  refine ⟨o, ho, fun name => ?_⟩
  have e := hm name
  unfold nsFind findBy at e
  rw [← Array.find?_toList] at e
  unfold PySem.W.lookIn
  rw [hd]
  dsimp only
  split
  · rename_i y q
    rw [q] at e
    exact congrArg some e
  · rename_i q
    rw [q] at e
    have a : es.toList.any (·.refKey) = false := by
      rw [List.any_eq_false]
      intro y hy
      obtain ⟨z, t, hkey⟩ := hk y (Array.mem_toList_iff.mp hy)
      simp [DictEntry.refKey, hkey]
    have a' : ¬ es.toList.any (·.refKey) = true := by rw [a]; exact Bool.false_ne_true
    rw [if_neg a']
    exact congrArg some e

theorem ObjM.look {h : Heap} {x dx C : Addr} {mA : Str → Option Value} (I : ObjM h x dx C mA) : ∃ od, PySem.W.InstAt h x (PySem.W.instObj C dx) C (some od) ∧ ∀ name, PySem.W.lookIn name od = some (mA name) :=
  let ⟨od, ho, hl⟩ := lookIn_ns I.ns
  ⟨od, ⟨I.obj, rfl, rfl, ho⟩, hl⟩

section
variable {prog : Program} {w : World} {A : Around} {E : Value → Shared → Prop} {s : Shared} {K : PySem.W.Frag} {x dx C f : Addr} {mA : Str → Option Value} {name : Str} {v : Value}

theorem get_map {expr : Bool} {Q : Value → Shared → Prop} (X : K.In s.heap) (I : ObjM s.heap x dx C mA) (hg : PySem.W.plainGet K C name = true) (hh : PySem.W.hasDictIn K C = true)
    (ha : PySem.W.findIn K (.ref C) name = some none) (hv : mA name = some v) (hv' : PySem.W.handedIn v = true) (h : Q v { s with toks := s.toks + 1 }) :
    wpAny (model prog w) A (getAttr (.ref x) name expr) Q E s := by
  obtain ⟨od, J, hl⟩ := I.look
  exact PySem.W.get_value X J (PySem.W.plainGet_of hg).1 (PySem.W.findObj_own hh ha rfl (by rw [hl, hv])) hv' h

theorem get_const {expr : Bool} {a : Value} {Q : Value → Shared → Prop} (X : K.In s.heap) (I : ObjM s.heap x dx C mA) (hg : PySem.W.plainGet K C name = true) (hh : PySem.W.hasDictIn K C = true)
    (ha : PySem.W.findIn K (.ref C) name = some (some a)) (hn : PySem.W.specialIn K a "__get__" = some none) (hc : PySem.W.copiedNames.contains name = false) (hv : mA name = none) (hv' : PySem.W.handedIn a = true)
    (h : Q a { s with toks := s.toks + 1 }) : wpAny (model prog w) A (getAttr (.ref x) name expr) Q E s := by
  obtain ⟨od, J, hl⟩ := I.look
  exact PySem.W.get_value X J (PySem.W.plainGet_of hg).1 (PySem.W.findObj_cls hh ha hn hv' hc (by rw [hl, hv])) hv' h

theorem get_meth {pl : Sem Bool} {Q : Value × List Value → Shared → Prop} (X : K.In s.heap) (I : ObjM s.heap x dx C mA) (hg : PySem.W.plainGet K C name = true)
    (hf : PySem.W.findIn K (.ref C) name = some (some (.ref f))) (ht : PySem.W.isFn K (.ref f) = true) (hv : mA name = none) (h : Q (.ref f, [.ref x]) s) :
    wpAny (model prog w) A (getMethod (.ref x) name pl) Q E s := by
  obtain ⟨od, J, hl⟩ := I.look
  exact PySem.W.method_fn X J (PySem.W.plainGet_of hg).1 (PySem.W.plainGet_of hg).2 hf (beq_iff_eq.mp ht) (by show (PySem.W.lookIn name od).map (·.isSome) = some false; rw [hl, hv]; rfl) h

theorem set_map {ns : List Str} {Q : Unit → Shared → Prop} (X : K.In s.heap) (I : ObjM s.heap x dx C mA)
    (hs : PySem.W.findIn K (.ref C) "__setattr__" = some (some (.builtin "object.__setattr__"))) (hp : PySem.W.plainOver K C = true) (ht : PySem.W.takerIn K C name = some none) (hh : PySem.W.hasDictIn K C = true)
    (hw : PySem.Within mA ns) (hsz : ns.length ≤ sizeLine)
    (h : ∀ h', ObjM h' x dx C (fun y => if y = name then some v else mA y) → Heap.SameBut dx s.heap h' → Q () { s with heap := h', toks := s.toks + 2 }) :
    wpAny (model prog w) A (setAttr (.ref x) name v) Q E s := by
  obtain ⟨od, J, hl⟩ := I.look
  refine PySem.W.set_plain X J hs (PySem.W.osa_open (s := { s with toks := s.toks + 1 }) (r := none) X J hp ht fun b => ?_)
  obtain ⟨cd, hc, hd'⟩ := PySem.W.any_some hh
  have hx : s.heap.get? x = some ⟨.ref C, some dx, .plain, #[]⟩ := I.obj
  refine wpAny_bind (wpAny_pure (wpAny_bind (wpAny_bind (wpAny_loadPart hx (wpAny_bind (PySem.W.Looks.here (s := { s with toks := s.toks + 1 }) (PySem.W.looks_clsIn X hc) ?_))))))
  rw [hd']
  refine wpAny_pure (a := some dx) (wpAny_bind (wpAny_pure (wpAny_bind ?_)))
  refine wpAny_nsSet1 (s := { s with toks := s.toks + 1 }) I.ns fun h' hn2 hs2 => ?_
  obtain ⟨oD, esD, epD, hoD, hdD, hcD⟩ := hn2.count (PySem.Within.cons name v hw)
  refine wpAny_bind (wpAny_lookBehind hoD (by rw [hdD]; exact pastItsLine_dict (Nat.le_trans hcD (by rw [List.length_cons]; omega))) ?_)
  exact wpAny_pure (h _ ⟨(hs2.2 _ (Ne.symm I.ne)).trans I.obj, hn2, I.ne⟩ hs2)

/-- C(..): the dict at the heap's end, the instance behind it; then its __init__ -/
theorem make_map {R : Result → Shared → Prop} {vs : List Value} {kw : List (Str × Value)} (X : K.In s.heap) (hm : PySem.W.makesIn K C = true)
    (hi : PySem.W.findIn K (.ref C) "__init__" = some (some (.ref f))) (hf : PySem.W.typeIn K (.ref f) = some (.type "function"))
    (h : codeAny (model prog w) (A.under (.builtin "type.__call__" ⟨.ref C :: vs, kw⟩)) (.call (.ref f) ⟨.ref (s.heap.objs.size + 1) :: vs, kw⟩) (PySem.W.InitBack (s.heap.objs.size + 1) R)
      { s with heap := (s.heap.push PySem.W.emptyDict).push (PySem.W.instObj C s.heap.objs.size) }) :
    codeAny (model prog w) A (.call (.ref C) ⟨vs, kw⟩) R s := by
  obtain ⟨hh, g, d, t, os⟩ := s
  exact PySem.W.make_core (PySem.W.makes_of X hm) (PySem.W.looks_findIn X hi) (fun self => PySem.W.bind_fn X self hf) (.inl rfl) h
/-- C() where there is no __init__ but object's -/
theorem make_map0 {R : Result → Shared → Prop} (X : K.In s.heap) (hm : PySem.W.makesIn K C = true)
    (hi : PySem.W.findIn K (.ref C) "__init__" = some (some (.builtin "object.__init__")))
    (hb : ∀ self, PySem.W.Looks (model prog w) s.heap (bindSpecial (.builtin "object.__init__") self) (.builtin "object.__init__", [self]))
    (h : codeAny (model prog w) (A.under (.builtin "type.__call__" ⟨[.ref C], []⟩)) (.call (.builtin "object.__init__") ⟨[.ref (s.heap.objs.size + 1)], []⟩) (PySem.W.InitBack (s.heap.objs.size + 1) R)
      { s with heap := (s.heap.push PySem.W.emptyDict).push (PySem.W.instObj C s.heap.objs.size) }) :
    codeAny (model prog w) A (.call (.ref C) ⟨[], []⟩) R s := by
  obtain ⟨hh, g, d, t, os⟩ := s
  exact PySem.W.make_core (PySem.W.makes_of X hm) (PySem.W.looks_findIn X hi) hb (.inr ⟨rfl, rfl⟩) h
end

/-! ### the attributes as a list of pairs -/
def putF (f : Str) (v : V) : List (Str × V) → List (Str × V)
  | [] => [(f, v)]
  | (g, x) :: r => if g = f then (g, v) :: r else (g, x) :: putF f v r
theorem lookup_putF (f g : Str) (v : V) : ∀ fs : List (Str × V), (putF f v fs).lookup g = if g = f then some v else fs.lookup g
  | [] => by
    show List.lookup g [(f, v)] = _
    by_cases h : g = f
    · have hb : (g == f) = true := beq_iff_eq.mpr h
      simp only [List.lookup, hb, if_pos h]
    · have hb : (g == f) = false := beq_eq_false_iff_ne.mpr h
      simp only [List.lookup, hb, if_neg h]
  | (k, x) :: r => by
    have ih := lookup_putF f g v r
    rw [show putF f v ((k, x) :: r) = (if k = f then (k, v) :: r else (k, x) :: putF f v r) from rfl]
    by_cases hk : k = f
    · rw [if_pos hk]
      by_cases h : g = k
      · have hb : (g == k) = true := beq_iff_eq.mpr h
        simp only [List.lookup, hb, if_pos (h.trans hk)]
      · have hb : (g == k) = false := beq_eq_false_iff_ne.mpr h
        simp only [List.lookup, hb, if_neg (fun e : g = f => h (e.trans hk.symm))]
    · rw [if_neg hk]
      by_cases h : g = k
      · have hb : (g == k) = true := beq_iff_eq.mpr h
        simp only [List.lookup, hb, if_neg (fun e : g = f => hk (h.symm.trans e))]
      · have hb : (g == k) = false := beq_eq_false_iff_ne.mpr h
        simp only [List.lookup, hb]
        exact ih
theorem keys_putF (f : Str) (v : V) : ∀ fs : List (Str × V), f ∈ (putF f v fs).map (·.1) ∧ ∀ g, g ∈ fs.map (·.1) → g ∈ (putF f v fs).map (·.1)
  | [] => ⟨by simp [putF], fun g h => by simp at h⟩
  | (k, x) :: r => by
    obtain ⟨i1, i2⟩ := keys_putF f v r
    rw [show putF f v ((k, x) :: r) = (if k = f then (k, v) :: r else (k, x) :: putF f v r) from rfl]
    by_cases hk : k = f
    · rw [if_pos hk]
      subst hk
      exact ⟨by simp, fun g h => by simpa using h⟩
    · rw [if_neg hk]
      refine ⟨?_, fun g h => ?_⟩
      · rw [List.map_cons]
        exact List.mem_cons_of_mem _ i1
      · rw [List.map_cons] at h ⊢
        rcases List.mem_cons.mp h with e | e
        · exact List.mem_cons.mpr (.inl e)
        · exact List.mem_cons_of_mem _ (i2 g e)
theorem length_putF (f : Str) (v : V) : ∀ fs : List (Str × V), (putF f v fs).length ≤ fs.length + 1
  | [] => by simp [putF]
  | (k, x) :: r => by
    have ih := length_putF f v r
    rw [show putF f v ((k, x) :: r) = (if k = f then (k, v) :: r else (k, x) :: putF f v r) from rfl]
    by_cases hk : k = f
    · rw [if_pos hk, List.length_cons, List.length_cons]; omega
    · rw [if_neg hk, List.length_cons, List.length_cons]; omega

theorem RelO.some_of {v : V} {o : Option Value} (r : RelO (some v) o) : ∃ u, o = some u ∧ RelV v u := by
  cases o with
  | none => exact (show False from r).elim
  | some u => exact ⟨u, rfl, r⟩
theorem RelO.none_of {o : Option Value} (r : RelO none o) : o = none := by
  cases o with
  | none => rfl
  | some u => exact (show False from r).elim
theorem handed_of {v : V} {u : Value} (r : RelV v u) : PySem.W.handedIn u = true := by
  cases v with
  | non => cases (show u = Value.none from r); rfl
  | bl b => cases (show u = Value.bool b from r); rfl
  | int i => obtain ⟨t, e⟩ := (show ∃ t, u = Value.int i t from r); cases e; rfl
  | str x => obtain ⟨t, e⟩ := (show ∃ t, u = Value.str x t from r); cases e; rfl
  | byt b => obtain ⟨t, e⟩ := (show ∃ t, u = Value.bytes b t from r); cases e; rfl
  | flt b => obtain ⟨t, e⟩ := (show ∃ t, u = Value.float b t from r); cases e; rfl
  | ref a => cases (show u = Value.ref a from r); rfl
  | ty n => cases (show u = Value.type n from r); rfl

section
variable {P : Program} {w : World} {H H' : Hp} {h h' : Heap} {a C dx : Addr} {fs fs' : List (Str × V)}
theorem ins_get (hok : HOk P w H h) (e : H a = some (.ins C dx fs)) : ∃ mA, ObjM h a dx C mA ∧ (∀ f, RelO (fs.lookup f) (mA f)) ∧ PySem.Within mA (fs.map (·.1)) ∧ fs.length ≤ 1000 ∧ H dx = some (.own a) := by
  obtain ⟨d, z, ne, ob, mA, n, r, q⟩ := (show ObjOk P w H h a (.ins C dx fs) from hok a _ e)
  exact ⟨mA, ⟨ob, n, ne⟩, r, q, z, d⟩
end

/-! ### what of the text a class must have -/
structure Cls (K : PySem.W.Frag) (C : Addr) : Prop where
  pg : PySem.W.plainGet K C Str.empty = true
  hd : PySem.W.hasDictIn K C = true
  po : PySem.W.plainOver K C = true
  sa : PySem.W.findIn K (.ref C) "__setattr__" = some (some (.builtin "object.__setattr__"))
theorem Cls.get {K : PySem.W.Frag} {C : Addr} (c : Cls K C) (f : Str) : PySem.W.plainGet K C f = true := c.pg
/-- no class of it has the name -/
def NoAttr (K : PySem.W.Frag) (C : Addr) (f : Str) : Prop := PySem.W.findIn K (.ref C) f = some none
theorem NoAttr.taker {K : PySem.W.Frag} {C : Addr} {f : Str} (n : NoAttr K C f) : PySem.W.takerIn K C f = some none := by
  unfold PySem.W.takerIn
  rw [show PySem.W.findIn K (.ref C) f = some none from n]
  rfl
/-- a constant of the class -/
structure Con (K : PySem.W.Frag) (C : Addr) (f : Str) (v : V) (u : Value) : Prop where
  at_ : PySem.W.findIn K (.ref C) f = some (some u)
  rel : RelV v u
  get : PySem.W.specialIn K u "__get__" = some none
  cp : PySem.W.copiedNames.contains f = false
/-- a method: a plain def of the class or of one above it -/
structure Meth (K : PySem.W.Frag) (C : Addr) (m : Str) (f : Addr) : Prop where
  at_ : PySem.W.findIn K (.ref C) m = some (some (.ref f))
  fn : PySem.W.isFn K (.ref f) = true
  kp : PySem.W.keepIn K (.ref f) = true

section
variable {X : Cx} {pins : List (Addr × Obj)} {σ : St} {H : Hp} {s : Shared} {a C dx : Addr} {fs : List (Str × V)} {f : Str} {v : V} {A : Around} {E : Value → Shared → Prop}

theorem getattr_ok {b : Bool} {Q : Value → Shared → Prop} (I : Inv X pins σ H s) (e : H a = some (.ins C dx fs)) (c : Cls X.K C) (n : NoAttr X.K C f) (l : fs.lookup f = some v)
    (h : ∀ u s', Inv X pins σ H s' → RelV v u → Q u s') : wpAny (model X.prog X.w) A (getAttr (.ref a) f b) Q E s := by
  obtain ⟨mA, O, r, _, _, _⟩ := ins_get I.hok e
  obtain ⟨u, hu, ru⟩ := RelO.some_of (v := v) (o := mA f) (by rw [← l]; exact r f)
  exact get_map I.kIn O (c.get f) c.hd n hu (handed_of ru) (h u _ (I.tok _) ru)

theorem getcon_ok {b : Bool} {u : Value} {Q : Value → Shared → Prop} (I : Inv X pins σ H s) (e : H a = some (.ins C dx fs)) (c : Cls X.K C) (k : Con X.K C f v u) (l : fs.lookup f = none)
    (h : ∀ s', Inv X pins σ H s' → Q u s') : wpAny (model X.prog X.w) A (getAttr (.ref a) f b) Q E s := by
  obtain ⟨mA, O, r, _, _, _⟩ := ins_get I.hok e
  have hn : mA f = none := RelO.none_of (by rw [← l]; exact r f)
  exact get_const I.kIn O (c.get f) c.hd k.at_ k.get k.cp hn (handed_of k.rel) (h _ (I.tok _))

theorem getmeth_ok {m : Str} {g : Addr} {pl : Sem Bool} {Q : Value × List Value → Shared → Prop} (I : Inv X pins σ H s) (e : H a = some (.ins C dx fs)) (c : Cls X.K C) (k : Meth X.K C m g) (l : fs.lookup m = none)
    (h : Q (.ref g, [.ref a]) s) : wpAny (model X.prog X.w) A (getMethod (.ref a) m pl) Q E s := by
  obtain ⟨mA, O, r, _, _, _⟩ := ins_get I.hok e
  have hn : mA m = none := RelO.none_of (by rw [← l]; exact r m)
  exact get_meth I.kIn O (c.get m) k.at_ k.fn hn h

theorem setattr_ok {y : V} {u : Value} {Q : Unit → Shared → Prop} (I : Inv X pins σ H s) (e : H a = some (.ins C dx fs)) (c : Cls X.K C) (n : NoAttr X.K C f) (hl : fs.length < 1000) (ry : RelV y u)
    (h : ∀ s', Inv X pins σ (upd H a (.ins C dx (putF f y fs))) s' → Q () s') : wpAny (model X.prog X.w) A (setAttr (.ref a) f u) Q E s := by
  obtain ⟨mA, O, r, wi, _, ho⟩ := ins_get I.hok e
  have hz : (fs.map (·.1)).length ≤ sizeLine := by rw [List.length_map, sizeLine_eq]; omega
  refine set_map I.kIn O c.sa c.po n.taker c.hd wi hz fun h' O' sb => h _ ?_
  have hd : ∃ o, h'.get? dx = some o := let ⟨o, _, _, e', _⟩ := O'.ns; ⟨o, e'⟩
  refine I.write (x := a) (e := dx) (by rw [e]; exact True.intro) (.inr ho) (fun b q hb z => (sb.2 b hb).trans z) hd ?_
  refine ⟨by rw [upd_ne O.ne]; exact ho, ?_, O.ne, O'.obj, _, O'.ns, fun g => ?_, fun g hg => ?_⟩
  · have := length_putF f y fs; omega
  · show RelO ((putF f y fs).lookup g) (if g = f then some u else mA g)
    rw [lookup_putF]
    by_cases q : g = f
    · rw [if_pos q, if_pos q]; exact ry
    · rw [if_neg q, if_neg q]; exact r g
  · by_cases q : g = f
    · rw [q]; exact (keys_putF f y fs).1
    · refine (keys_putF f y fs).2 g (wi g fun z => hg ?_)
      show (if g = f then some u else mA g) = none
      rw [if_neg q]; exact z

/-- a new instance, tracked, without attributes -/
theorem Inv.made (I : Inv X pins σ H s) : Inv X pins σ (upd (upd H s.heap.objs.size (.own (s.heap.objs.size + 1))) (s.heap.objs.size + 1) (.ins C s.heap.objs.size []))
    { s with heap := (s.heap.push PySem.W.emptyDict).push (PySem.W.instObj C s.heap.objs.size) } := by
  have e1 : (s.heap.push PySem.W.emptyDict).get? s.heap.objs.size = some PySem.W.emptyDict := Heap.get?_push_size s.heap rfl
  have e2 : ((s.heap.push PySem.W.emptyDict).push (PySem.W.instObj C s.heap.objs.size)).get? (s.heap.objs.size + 1) = some (PySem.W.instObj C s.heap.objs.size) := by
    have := Heap.get?_push_size (s.heap.push PySem.W.emptyDict) (o := PySem.W.instObj C s.heap.objs.size) rfl
    rwa [Heap.size_push] at this
  have e3 : (s.heap.push PySem.W.emptyDict).Ns s.heap.objs.size (fun _ => none) := ⟨PySem.W.emptyDict, #[], _, e1, rfl, (fun e he => absurd he (by simp)), fun _ => rfl⟩
  have I1 := I.laid (a := s.heap.objs.size) (o := .own (s.heap.objs.size + 1)) (h' := s.heap.push PySem.W.emptyDict) (t' := s.toks) (fun b u q => Heap.get?_push_of_some _ q) (Nat.le_refl _) ⟨_, e1⟩
  refine I1.laid (a := s.heap.objs.size + 1) (o := .ins C s.heap.objs.size []) (t' := s.toks) (fun b u q => Heap.get?_push_of_some _ q) (Nat.le_of_eq (Heap.size_push _ _)) ?_
  have ne : s.heap.objs.size ≠ s.heap.objs.size + 1 := Nat.ne_of_lt (Nat.lt_succ_self _)
  refine ⟨by rw [upd_ne ne, upd_same], Nat.zero_le _, ne, e2, fun _ => none, (Heap.Ns1.of_empty e3).at fun o q => Heap.get?_push_of_some _ q, fun _ => True.intro, fun y hy => absurd rfl hy⟩

/-- e.f where nothing but the object is asked: through attributeBase (super) and the last hold -/
theorem attr_of {prog : Program} {w : World} {env : Env} {e : Expr} {f : Str} {pos : Pos} {s : Shared} {Q : Value → Shared → Prop} (hb : attributeBase e f env (eval e env) = eval e env)
    (h : wpAny (model prog w) A (eval e env) (fun o s₁ => wpAny (model prog w) A (getAttr o f true) Q E s₁) E s) : wpAny (model prog w) A (eval (.Attribute e f pos) env) Q E s :=
  Attribute_any_ h (by rw [arm_eval_Attribute, hb])
end

/-! ### readings and rules -/
/-- e.f, an attribute of the instance -/
def tFld (K : PySem.W.Frag) (ta : TE) (f : Str) : TE := fun σ H Q => ta σ H fun x H1 => ∃ a C dx fs v, x = .ref a ∧ H1 a = some (.ins C dx fs) ∧ Cls K C ∧ NoAttr K C f ∧ fs.lookup f = some v ∧ Q v H1
/-- e.f, a constant of the class -/
def tCon (K : PySem.W.Frag) (ta : TE) (f : Str) : TE := fun σ H Q => ta σ H fun x H1 => ∃ a C dx fs v u, x = .ref a ∧ H1 a = some (.ins C dx fs) ∧ Cls K C ∧ Con K C f v u ∧ fs.lookup f = none ∧ Q v H1
/-- e.f = value -/
def sFld (K : PySem.W.Frag) (ta tv : TE) (f : Str) : TS := fun D σ H => tv σ H fun y H1 => ta σ H1 fun x H2 => ∃ a C dx fs, x = .ref a ∧ H2 a = some (.ins C dx fs) ∧ Cls K C ∧ NoAttr K C f ∧ fs.length < 1000 ∧
  D.nx σ (upd H2 a (.ins C dx (putF f y fs)))
/-- an augmented operator on two values -/
def InOp (X : Cx) (op : Operator) (rd : V → V → Hp → VK → Prop) : Prop :=
  ∀ (pins : List (Addr × Obj)) (s : Shared) (σ : St) (H : Hp) (x y : V) (u v : Value) (Q : VK), Inv X pins σ H s → RelV x u → RelV y v → rd x y H Q → wpAny (model X.prog X.w) X.A (inplaceOp op u v) (EP X pins σ Q) X.xe s
/-- e.f op= value -/
def sFldAug (K : PySem.W.Frag) (ta tv : TE) (rd : V → V → Hp → VK → Prop) (f : Str) : TS := fun D σ H => ta σ H fun x H1 => ∃ a C dx fs v, x = .ref a ∧ H1 a = some (.ins C dx fs) ∧ Cls K C ∧ NoAttr K C f ∧ fs.lookup f = some v ∧
  tv σ H1 fun y H2 => rd v y H2 fun z H3 => ∃ dx' fs', H3 a = some (.ins C dx' fs') ∧ fs'.length < 1000 ∧ D.nx σ (upd H3 a (.ins C dx' (putF f z fs')))

section
variable {X : Cx} {o e value : Expr} {f : Str} {pos pos' tpos : Pos} {ta tv : TE}
theorem pe_fld (he : PE X e ta) (hb : attributeBase e f X.env (eval e X.env) = eval e X.env) : PE X (.Attribute e f pos) (tFld X.K ta f) := by
  intro pins s σ H Q I h
  refine attr_of hb (thn (he pins s σ H _ I h) fun u s1 ⟨x, H1, I1, rx, a, C, dx, fs, v, ex, ea, c, n, l, q⟩ => ?_)
  subst ex
  obtain rfl : u = Value.ref a := rx
  exact getattr_ok I1 ea c n l fun u' s2 I2 ru => ⟨v, H1, I2, ru, q⟩
theorem pe_con (he : PE X e ta) (hb : attributeBase e f X.env (eval e X.env) = eval e X.env) : PE X (.Attribute e f pos) (tCon X.K ta f) := by
  intro pins s σ H Q I h
  refine attr_of hb (thn (he pins s σ H _ I h) fun u s1 ⟨x, H1, I1, rx, a, C, dx, fs, v, u0, ex, ea, c, k, l, q⟩ => ?_)
  subst ex
  obtain rfl : u = Value.ref a := rx
  exact getcon_ok I1 ea c k l fun s2 I2 => ⟨v, H1, I2, k.rel, q⟩
theorem ps_fld (ha : PE X o ta) (hv : PE X value tv) (hs : swapsWith value (some (.Attribute o f pos')) pos.line X.env = pure false) : PS X (.Assign [.Attribute o f pos'] value pos) (sFld X.K ta tv f) := by
  intro pins s σ H D I h
  refine plainObj_wpAny_Assign_Attribute (thn (hv pins s σ H _ I h) fun u s1 ⟨y, H1, I1, ry, q⟩ => thn (ha pins s1 σ H1 _ I1 q) fun ov s2 ⟨x, H2, I2, rx, a, C, dx, fs, ex, ea, c, n, l, q2⟩ => ?_) hs
  subst ex
  obtain rfl : ov = Value.ref a := rx
  exact setattr_ok I2 ea c n l ry fun s3 I3 => ⟨σ, _, I3, q2⟩
theorem ps_fldaug {op : Operator} {rd : V → V → Hp → VK → Prop} (ha : PE X o ta) (hv : PE X value tv) (hop : InOp X op rd) : PS X (.AugAssign (.Attribute o f tpos) op value pos) (sFldAug X.K ta tv rd f) := by
  intro pins s σ H D I h
  refine wpAny_AugAssign_AttributeAny (thn (ha pins s σ H _ I h) fun ov s1 ⟨x, H1, I1, rx, a, C, dx, fs, v, ex, ea, c, n, l, q⟩ => ?_)
  subst ex
  obtain rfl : ov = Value.ref a := rx
  refine getattr_ok I1 ea c n l fun u s2 I2 ru => thn (hv pins s2 σ H1 _ I2 q) fun w3 s3 ⟨y, H2, I3, ry, q3⟩ => thn (hop pins s3 σ H2 v y u w3 _ I3 ru ry q3) fun w4 s4 ⟨z, H3, I4, rz, dx', fs', ea', l', q4⟩ => ?_
  exact setattr_ok I4 ea' c n l' rz fun s5 I5 => ⟨σ, _, I5, q4⟩
def rAdd : V → V → Hp → VK → Prop := fun x y H Q => ∃ i j, x = .int i ∧ y = .int j ∧ Q (.int (i + j)) H
def rSub : V → V → Hp → VK → Prop := fun x y H Q => ∃ i j, x = .int i ∧ y = .int j ∧ Q (.int (i - j)) H
theorem in_add : InOp X .Add rAdd := by
  rintro pins s σ H x y u v Q I rx ry ⟨i, j, rfl, rfl, q⟩
  obtain ⟨t, rfl⟩ := (show ∃ t, u = Value.int i t from rx)
  obtain ⟨t', rfl⟩ := (show ∃ t', v = Value.int j t' from ry)
  exact PyProof.Rows.iadd_int ⟨.int (i + j), H, I.tok _, ⟨_, rfl⟩, q⟩
theorem in_sub : InOp X .Sub rSub := by
  rintro pins s σ H x y u v Q I rx ry ⟨i, j, rfl, rfl, q⟩
  obtain ⟨t, rfl⟩ := (show ∃ t, u = Value.int i t from rx)
  obtain ⟨t', rfl⟩ := (show ∃ t', v = Value.int j t' from ry)
  exact PyProof.Rows.isub_int ⟨.int (i - j), H, I.tok _, ⟨_, rfl⟩, q⟩

/-- what is between an instance and its method: the tree of a method call -/
theorem methcall_of {pl : Sem Bool} {m : Str} {apos : Pos} {args : List Expr} {pins : List (Addr × Obj)} {s : Shared} {σ : St} {H : Hp} {Q : Value → Shared → Prop} {te : TE} (he : PE X e te) (I : Inv X pins σ H s)
    (h : te σ H fun x H1 => ∃ a C dx fs g, x = .ref a ∧ H1 a = some (.ins C dx fs) ∧ Cls X.K C ∧ Meth X.K C m g ∧ fs.lookup m = none ∧
      ∀ s1, Inv X pins σ H1 s1 → wpAny (model X.prog X.w) X.A (callWith pos (.ref g) [.ref a] (backTo pos (starEach args X.env)) (backToKw pos (keywordEach [] X.env))) Q X.xe s1)
    (ht : eval (.Call (.Attribute e m apos) args [] pos) X.env = (do
      let ov ← eval e X.env
      standAt apos.atName
      let (f, first) ← holding [ov] (getMethod ov m pl)
      callWith pos f first (backTo pos (starEach args X.env)) (backToKw pos (keywordEach [] X.env)))) :
    wpAny (model X.prog X.w) X.A (eval (.Call (.Attribute e m apos) args [] pos) X.env) Q X.xe s := by
  refine PySem.W.methodCall_KW (pl := pl) (thn (he pins s σ H _ I h) fun u s1 ⟨x, H1, I1, rx, a, C, dx, fs, g, ex, ea, c, k, l, q⟩ => ?_) ht
  subst ex
  obtain rfl : u = Value.ref a := rx
  exact getmeth_ok I1 ea c k l (q s1 I1)
end

/-! ### isinstance -/
section
variable {X : Cx} {pins : List (Addr × Obj)} {σ : St} {H : Hp} {s : Shared} {A : Around} {E : Value → Shared → Prop} {Q : Value → Shared → Prop} {c : Value} {b : Bool}
/-- the type of a value, as the fragment's deciders take it; for an instance its class -/
inductive TyOf (K : PySem.W.Frag) (H : Hp) : V → Value → Prop where
  | non : TyOf K H .non (.type "NoneType")
  | bl (x : Bool) : TyOf K H (.bl x) (.type "bool")
  | int (i : Int) : TyOf K H (.int i) (.type "int")
  | str (x : Str) : TyOf K H (.str x) (.type "str")
  | flt (x : UInt64) : TyOf K H (.flt x) (.type "float")
  | lst {a : Addr} {xs : List V} (e : H a = some (.lst xs)) : TyOf K H (.ref a) (.type "list")
  | frz {a : Addr} {o : Obj} {xs : List V} (e : H a = some (.frz o (.lst xs))) : TyOf K H (.ref a) (.type "list")
  | tup {a : Addr} {xs : List V} (e : H a = some (.tup xs)) : TyOf K H (.ref a) (.type "tuple")
  | dK {a : Addr} {kvs : List (Key × V)} (e : H a = some (.dK kvs)) : TyOf K H (.ref a) (.type "dict")
  | dT {a : Addr} {kvs : List (List Key × V)} (e : H a = some (.dT kvs)) : TyOf K H (.ref a) (.type "dict")
  | ins {a C dx : Addr} {fs : List (Str × V)} (e : H a = some (.ins C dx fs)) (cl : Cls K C) (ha : PySem.W.findIn K (.ref C) "__class__" = some (some (.builtin "object.__class__")))
      (hn : PySem.W.specialIn K (.builtin "object.__class__") "__get__" = some (some (.builtin "getset_descriptor.__get__"))) (htk : PySem.W.takesIn K (.builtin "object.__class__") = some true)
      (hm : PySem.W.mroIn K C (.type "object") = some true) : TyOf K H (.ref a) (.ref C)
/-- isinstance(x, c) for one class c, a built-in or an own one: kitOne's answer -/
theorem isinst_ok {x : V} {u t : Value} (I : Inv X pins σ H s) (rx : RelV x u) (ty : TyOf X.K H x t) (e : PySem.W.kitOne X.K t c = some b) (h : ∀ tk, Q (.bool b) { s with toks := tk }) :
    wpAny (model X.prog X.w) A (call (.builtin "isinstance") [u, c]) Q E s := by
  cases ty with
  | non => cases (show u = Value.none from rx); exact PySem.W.kia_one PySem.W.kitx_none I.kIn True.intro e (fun z => nomatch z) h
  | bl y => cases (show u = Value.bool y from rx); exact PySem.W.kia_one PySem.W.kitx_bool I.kIn True.intro e (fun z => nomatch z) h
  | int i => obtain ⟨t, q⟩ := (show ∃ t, u = Value.int i t from rx); cases q; exact PySem.W.kia_one PySem.W.kitx_int I.kIn True.intro e (fun z => nomatch z) h
  | str y => obtain ⟨t, q⟩ := (show ∃ t, u = Value.str y t from rx); cases q; exact PySem.W.kia_one PySem.W.kitx_str I.kIn True.intro e (fun z => nomatch z) h
  | flt y => obtain ⟨t, q⟩ := (show ∃ t, u = Value.float y t from rx); cases q; exact PySem.W.kia_one PySem.W.kitx_float I.kIn True.intro e (fun z => nomatch z) h
  | @lst a xs ea =>
    cases (show u = Value.ref a from rx)
    obtain ⟨_, _, n, _, h1⟩ := (show ObjOk X.prog X.w H s.heap a (.lst xs) from I.hok a _ ea)
    exact PySem.W.kia_one PySem.W.kitx_list I.kIn ⟨_, h1, rfl⟩ e (fun z => nomatch z) h
  | @frz a ob xs ea =>
    cases (show u = Value.ref a from rx)
    obtain ⟨_, _, _, n, _, h1⟩ := (show ObjOk X.prog X.w H s.heap a (.frz ob (.lst xs)) from I.hok a _ ea)
    exact PySem.W.kia_one PySem.W.kitx_list I.kIn ⟨_, h1, rfl⟩ e (fun z => nomatch z) h
  | @tup a xs ea =>
    cases (show u = Value.ref a from rx)
    obtain ⟨_, _, _, p⟩ := (show ObjOk X.prog X.w H s.heap a (.tup xs) from I.hok a _ ea)
    obtain ⟨o, h1, h2, _⟩ := p
    exact PySem.W.kia_one PySem.W.kitx_tuple I.kIn ⟨o, h1, h2⟩ e (fun z => nomatch z) h
  | @dK a kvs ea =>
    cases (show u = Value.ref a from rx)
    obtain ⟨_, _, vs, _, p⟩ := (show ObjOk X.prog X.w H s.heap a (.dK kvs) from I.hok a _ ea)
    obtain ⟨o, es, ep, h1, h2, _⟩ := p
    exact PySem.W.kia_one PySem.W.kitx_dict I.kIn ⟨o, h1, h2.1⟩ e (fun z => nomatch z) h
  | @dT a kvs ea =>
    cases (show u = Value.ref a from rx)
    obtain ⟨_, _, xs, _, o, es, ep, h1, h2, _⟩ := (show ObjOk X.prog X.w H s.heap a (.dT kvs) from I.hok a _ ea)
    exact PySem.W.kia_one PySem.W.kitx_dict I.kIn ⟨o, h1, h2.1⟩ e (fun z => nomatch z) h
  | @ins a C dx fs ea cl ha hn htk hm =>
    cases (show u = Value.ref a from rx)
    obtain ⟨mA, O, _⟩ := ins_get I.hok ea
    obtain ⟨od, J, _⟩ := O.look
    exact PySem.W.kia_one (PySem.W.kitx_own (cl.get _) cl.hd ha hn htk hm) I.kIn J e (fun z => nomatch z) h
end
end L2

namespace L2
open PySem PySem.Spec PyProof.Rows

/-! ### room -/
structure Room (k : Nat) (A : Around) : Prop where
  hd : A.handled = none
  dp : A.depth + 3 * k + 5 < recursionLimit
  un : A.units + 16 * k + 200 < cLine
theorem Room.mono {j k : Nat} {A : Around} (r : Room k A) (h : j ≤ k) : Room j A := ⟨r.hd, by have := r.dp; omega, by have := r.un; omega⟩
theorem Room.deeper {k : Nat} {A : Around} (r : Room (k + 1) A) (env : Env) : Room k (A.deeper env) :=
  ⟨r.hd, by have := r.dp; show A.depth + 1 + 3 * k + 5 < _; omega, by have := r.un; show A.units + 3 + 16 * k + 200 < _; omega⟩
theorem Room.in1 {k : Nat} {A : Around} (r : Room (k + 1) A) : Room k A.in1 :=
  ⟨r.hd, by have := r.dp; show A.depth + 3 * k + 5 < _; omega, by have := r.un; show A.units + 1 + 16 * k + 200 < _; omega⟩
theorem make_depth {A : Around} {C : Addr} {us : List Value} {kw : List (Str × Value)} : (A.under (.builtin "type.__call__" ⟨.ref C :: us, kw⟩)).depth = A.depth + 1 := by
  first | rfl | simp [Around.under, Code.weight, Code.isCreation, Code.isGuard, Code.isCaller, Code.frames, Code.isFrame, guardIds]
theorem make_units {A : Around} {C : Addr} {us : List Value} {kw : List (Str × Value)} : (A.under (.builtin "type.__call__" ⟨.ref C :: us, kw⟩)).units = A.units + 1 := by
  first | rfl | simp [Around.under, Code.cUnits, Code.frames, Code.isFrame]
theorem Room.make {k : Nat} {A : Around} (r : Room (k + 1) A) (C : Addr) (us : List Value) (kw : List (Str × Value)) : Room k (A.under (.builtin "type.__call__" ⟨.ref C :: us, kw⟩)) :=
  ⟨r.hd, by have := r.dp; rw [make_depth]; omega, by have := r.un; rw [make_units]; omega⟩
theorem Room.depth {k : Nat} {A : Around} (r : Room k A) : A.depth < recursionLimit := by have := r.dp; omega
theorem Room.units {k : Nat} {A : Around} (r : Room k A) : A.units + 64 < cLine := by have := r.un; omega
theorem Room.units0 {k : Nat} {A : Around} (r : Room k A) : A.units < cLine := by have := r.un; omega

/-! ### argument lists and displays -/
def tNil : TA := fun _ H Q => Q [] H
def tCons (ta : TE) (tr : TA) : TA := fun σ H Q => ta σ H fun x H1 => tr σ H1 fun xs H2 => Q (x :: xs) H2
section
variable {X : Cx} {e : Expr} {es : List Expr} {te : TE} {t : TA} {pos : Pos}
theorem pa_nil : PA X [] tNil := fun _ _ _ _ H Q I h => Calls.spliced_nil ⟨[], H, I, .nil, h⟩
theorem pa_cons (ha : PE X e te) (hr : PA X es t) (hs : starEach (e :: es) X.env = (false, eval e X.env) :: starEach es X.env := by rfl) : PA X (e :: es) (tCons te t) := by
  intro pos pins s σ H Q I h
  rw [hs]
  show wpAny _ _ (spliced ((false, eval e X.env) :: backTo pos (starEach es X.env))) _ _ s
  refine Calls.spliced_cons (thn (ha pins s σ H _ I h) fun u s1 ⟨x, H1, I1, r1, q1⟩ => ?_)
  exact thn (hr pos pins s1 σ H1 _ I1 q1) fun us s2 ⟨xs, H2, I2, r2, q2⟩ => ⟨x :: xs, H2, I2, .cons r1 r2, q2⟩

/-- a tuple, a list of written items -/
def tTup (t : TA) : TE := fun σ H Q => t σ H fun xs H1 => xs.length ≤ sizeLine ∧ ∀ p, H1 p = none → Q (.ref p) (upd H1 p (.tup xs))
def tLst (t : TA) : TE := fun σ H Q => t σ H fun xs H1 => xs.length ≤ sizeLine ∧ ∀ p, H1 p = none → Q (.ref p) (upd H1 p (.lst xs))
theorem pe_tup {x1} (h : PA X es t) : PE X (.Tuple es x1 pos) (tTup t) := by
  intro pins s σ H Q I hq
  refine wpAny_Tuple_spliced (thn (h pos pins s σ H _ I hq) fun us s1 ⟨xs, H1, I1, r, z, q⟩ => ⟨by rw [← r.length]; exact z, ?_⟩)
  have hf : H1 s1.heap.objs.size = none := I1.hok.fresh (Nat.le_refl _)
  refine ⟨.ref s1.heap.objs.size, upd H1 s1.heap.objs.size (.tup xs), I1.laid (t' := s1.toks) (fun b u e => Heap.get?_push_of_some _ e) (Nat.le_refl _) ?_, rfl, q _ hf⟩
  exact ⟨z, us, r, ⟨_, Heap.get?_push_size _ rfl, rfl, _, rfl⟩⟩
theorem pe_lst (h : PA X es t) : PE X (.List es pos) (tLst t) := by
  intro pins s σ H Q I hq
  refine wpAny_List_spliced (thn (h pos pins s σ H _ I hq) fun us s1 ⟨xs, H1, I1, r, z, q⟩ => ⟨by rw [← r.length]; exact z, ?_⟩)
  have hf : H1 s1.heap.objs.size = none := I1.hok.fresh (Nat.le_refl _)
  refine ⟨.ref s1.heap.objs.size, upd H1 s1.heap.objs.size (.lst xs), I1.laid (t' := s1.toks) (fun b u e => Heap.get?_push_of_some _ e) (Nat.le_refl _) ?_, rfl, q _ hf⟩
  exact ⟨z, us, 0, r, Heap.get?_push_size _ rfl⟩
end

/-! ### what a def promises -/
/-- a def's promise: the bound arguments in the parameters' order, the heap, the wanted end, the wanted exception -/
abbrev Sp := List V → Hp → VK → XK → Prop
/-- how an exception lies behind a call (file 08 gives it): the callers' frames, abstract heap and state ahead of the call, the wish, the exception, the state -/
abbrev CXT := List Env → Hp → Shared → XK → Value → Shared → Prop

/-- the state at a call -/
structure Env0 (P : Program) (w : World) (K : PySem.W.Frag) (mg : Str → Option Value) (base : Heap) (A : Around) (outer : List Env) (s : Shared) (H : Hp) : Prop where
  frames : A.frames = some outer
  mod : Mod K mg base
  bs : ∀ b o, base.get? b = some o → s.heap.get? b = some o ∧ H b = none
  bsz : base.objs.size ≤ s.heap.objs.size
  funs : s.heap.FunFrames base outer
  frf : ∀ b ∈ frs outer, H b = none
  hok : HOk P w H s.heap
  bare : AllBare s.gens
/-- a call's end -/
def CE (outer : List Env) (P : Program) (w : World) (H : Hp) (s : Shared) (Q : VK) (u : Value) (s' : Shared) : Prop :=
  ∃ v H', s'.os = s.os ∧ AllBare s'.gens ∧ Un (frs outer) [] H H' s.heap s'.heap ∧ HOk P w H' s'.heap ∧ RelV v u ∧ Q v H'
def CR (CX : CXT) (outer : List Env) (P : Program) (w : World) (H : Hp) (s : Shared) (Q : VK) (E : XK) (r : Result) (s' : Shared) : Prop :=
  match r with
  | .ok (.ret u) => CE outer P w H s Q u s'
  | .ok _ => False
  | .error e => CX outer H s E e s'
structure FnOk (P : Program) (w : World) (K : PySem.W.Frag) (mg : Str → Option Value) (base : Heap) (CX : CXT) (k : Nat) (f : Addr) (fd : FuncData) (ps : List Str) (sp : Sp) : Prop where
  len : ∀ vs H Q E, sp vs H Q E → vs.length = ps.length
  run : ∀ (A : Around) (outer : List Env) (s : Shared) (H : Hp) (args : Args) (us : List Value) (vs : List V) (Q : VK) (E : XK), Room k A → Env0 P w K mg base A outer s H → BindsTo s fd args (ps.zip us) → Vals vs us → sp vs H Q E →
    codeAny (model P w) A (.call (.ref f) args) (CR CX outer P w H s Q E) s
theorem FnOk.mono {P : Program} {w : World} {K : PySem.W.Frag} {mg : Str → Option Value} {base : Heap} {CX : CXT} {j k : Nat} {f : Addr} {fd : FuncData} {ps : List Str} {sp : Sp} (F : FnOk P w K mg base CX j f fd ps sp) (h : j ≤ k) :
    FnOk P w K mg base CX k f fd ps sp := ⟨F.len, fun A outer s H args us vs Q E hr => F.run A outer s H args us vs Q E (hr.mono h)⟩
/-- a weaker promise -/
theorem FnOk.imp {P : Program} {w : World} {K : PySem.W.Frag} {mg : Str → Option Value} {base : Heap} {CX : CXT} {k : Nat} {f : Addr} {fd : FuncData} {ps : List Str} {sp sp' : Sp} (F : FnOk P w K mg base CX k f fd ps sp)
    (h : ∀ vs H Q E, sp' vs H Q E → sp vs H Q E) : FnOk P w K mg base CX k f fd ps sp' :=
  ⟨fun vs H Q E q => F.len vs H Q E (h _ _ _ _ q), fun A outer s H args us vs Q E hr he hb hv hs => F.run A outer s H args us vs Q E hr he hb hv (h _ _ _ _ hs)⟩

theorem Env0.make {P : Program} {w : World} {K : PySem.W.Frag} {mg : Str → Option Value} {base : Heap} {A : Around} {outer : List Env} {s : Shared} {H : Hp} (e : Env0 P w K mg base A outer s H) (C : Addr) (us : List Value) (kw : List (Str × Value)) :
    Env0 P w K mg base (A.under (.builtin "type.__call__" ⟨.ref C :: us, kw⟩)) outer s H := ⟨by first | exact e.frames | (simpa [Around.under, Code.envs, Code.isFrame, pushEnvs] using e.frames), e.mod, e.bs, e.bsz, e.funs, e.frf, e.hok, e.bare⟩
theorem Env0.in1 {P : Program} {w : World} {K : PySem.W.Frag} {mg : Str → Option Value} {base : Heap} {A : Around} {outer : List Env} {s : Shared} {H : Hp} (e : Env0 P w K mg base A outer s H) :
    Env0 P w K mg base A.in1 outer s H := ⟨e.frames, e.mod, e.bs, e.bsz, e.funs, e.frf, e.hok, e.bare⟩

section
variable {X : Cx} {pins : List (Addr × Obj)} {σ : St} {H : Hp} {s s' : Shared}
/-- from a body: what a callee wants -/
theorem Inv.env0 (I : Inv X pins σ H s) : Env0 X.prog X.w X.K X.mg X.base X.A X.stack s H :=
  ⟨I.ok.frames, I.ok.mod, I.bs, Nat.le_trans I.ok.bsz I.sz, I.stack, I.stkFree, I.hok, I.bare⟩
/-- behind a call -/
theorem Inv.after {Q : VK} {u : Value} (I : Inv X pins σ H s) (h : CE X.stack X.prog X.w H s Q u s') : EP X pins σ Q u s' := by
  obtain ⟨v, H', os, bare, un, hok, r, q⟩ := h
  obtain ⟨hh, g, d, t, os'⟩ := s'
  obtain rfl : os' = s.os := os
  exact ⟨v, H', I.call (h' := hh) (g' := g) (d' := d) (t' := t) (ch := []) un hok bare (fun b z => absurd z (by simp)), r, q⟩
end

/-! ### calls -/
/-- f(..): the written arguments, then the defaults dvs; E: what is wanted of an exception -/
def tCall (sp : Sp) (dvs : List V) (E : XK) (t : TA) : TE := fun σ H Q => t σ H fun vs H1 => sp (vs ++ dvs) H1 Q E
/-- o.m(..) of an instance of the class at C -/
def tMeth (C : Addr) (m : Str) (sp : Sp) (dvs : List V) (E : XK) (ta : TE) (t : TA) : TE := fun σ H Q => ta σ H fun x H1 => ∃ a dx fs, x = .ref a ∧ H1 a = some (.ins C dx fs) ∧ fs.lookup m = none ∧
  t σ H1 fun vs H2 => sp (x :: (vs ++ dvs)) H2 Q E
/-- C(..): a new instance and its dict, then __init__ -/
def tMake (C : Addr) (sp : Sp) (dvs : List V) (E : XK) (t : TA) : TE := fun σ H Q => t σ H fun vs H1 => ∀ x dx, H1 x = none → H1 dx = none → dx ≠ x →
  sp (.ref x :: (vs ++ dvs)) (upd (upd H1 dx (.own x)) x (.ins C dx [])) (fun v H2 => v = .non ∧ Q (.ref x) H2) E

/-- how the parameters are bound: us the positional arguments, kw the keywords' values by name, ds the defaults that fill up -/
def Binds (K : PySem.W.Frag) (fd : FuncData) (ps : List Str) (ds : List Value) : Prop :=
  ∀ (s : Shared) (us : List Value), K.In s.heap → (us ++ ds).length = ps.length → BindsTo s fd ⟨us, []⟩ (ps.zip (us ++ ds))
/-- every parameter is given -/
theorem Binds.all {K : PySem.W.Frag} {fd : FuncData} {ps : List Str} (h : ∀ us : List Value, us.length = ps.length → bindArgs fd ⟨us, []⟩ = pure (ps.zip us)) : Binds K fd ps [] := fun s us _ hl => by
  rw [List.append_nil] at hl ⊢
  exact .of_eq (h us hl)

/-- an exception of a callee reaches what this body wants of exceptions -/
def Passes (CX : CXT) (X : Cx) (E : XK) : Prop := ∀ (pins : List (Addr × Obj)) (σ : St) (H : Hp) (s : Shared) (e : Value) (s' : Shared), Inv X pins σ H s → CX X.stack H s E e s' → X.xe e s'

section
variable {X : Cx} {CX : CXT} {k : Nat} {f C : Addr} {fd : FuncData} {ps : List Str} {sp : Sp} {dvs : List V} {ds : List Value} {E : XK} {x m : Str} {p pos apos : Pos} {e o : Expr} {es : List Expr} {ta : TE} {t : TA}

/-- the callee runs -/
theorem run_fn {pins : List (Addr × Obj)} {σ : St} {H : Hp} {s : Shared} {Q : VK} {us : List Value} {vs : List V} (F : FnOk X.prog X.w X.K X.mg X.base CX k f fd ps sp) (hr : Room k X.A) (hb : Binds X.K fd ps ds) (hd : Vals dvs ds) (hx : Passes CX X E)
    (I : Inv X pins σ H s) (r : Vals vs us) (h : sp (vs ++ dvs) H Q E) : wpAny (model X.prog X.w) X.A (call (.ref f) us) (EP X pins σ Q) X.xe s := by
  have r2 : Vals (vs ++ dvs) (us ++ ds) := r.append hd
  have hl : (us ++ ds).length = ps.length := by rw [← r2.length]; exact F.len _ _ _ _ h
  refine wpAny_call (codeAny_mono (F.run X.A X.stack s H ⟨us, []⟩ (us ++ ds) (vs ++ dvs) Q E hr I.env0 (hb s us I.kIn hl) r2 h) fun r s' hq => ?_)
  cases r with
  | error e => exact hx pins σ H s e s' I hq
  | ok fl =>
    cases fl with
    | ret u => exact I.after hq
    | next => exact False.elim hq
    | brk => exact False.elim hq
    | cont => exact False.elim hq

theorem pe_call (F : FnOk X.prog X.w X.K X.mg X.base CX k f fd ps sp) (hr : Room k X.A) (hg : Gl X x) (hm : X.mg x = some (.ref f)) (hk : PySem.W.keepIn X.K (.ref f) = true) (hb : Binds X.K fd ps ds) (hd : Vals dvs ds) (hx : Passes CX X E)
    (ha : PA X (e :: es) t) (hdb : (x == ("__debug__" : Str)) = false := by decide) (he : starEach (e :: es) X.env = (false, eval e X.env) :: starEach es X.env := by rfl) (hpl : (backTo pos (starEach es X.env)).any (·.1) = false := by rfl) :
    PE X (.Call (.Name x p) (e :: es) [] pos) (tCall sp dvs E t) := by
  intro pins s σ H Q I h
  refine wpAny_Call_Name_kw (ld_glob I hg hm ?_ hdb)
  refine PySem.W.callWith_K (h₀ := X.base) I.ok.mod.kin hk (thn (ha pos pins s σ H _ I h) fun us s1 ⟨vs, H1, I1, r, q⟩ => ⟨I1.kIn, ?_⟩) he hpl
  exact run_fn F hr hb hd hx I1 r q
theorem pe_call0 (F : FnOk X.prog X.w X.K X.mg X.base CX k f fd ps sp) (hr : Room k X.A) (hg : Gl X x) (hm : X.mg x = some (.ref f)) (hk : PySem.W.keepIn X.K (.ref f) = true) (hb : Binds X.K fd ps ds) (hd : Vals dvs ds) (hx : Passes CX X E)
    (hdb : (x == ("__debug__" : Str)) = false := by decide) : PE X (.Call (.Name x p) [] [] pos) (tCall sp dvs E tNil) := by
  intro pins s σ H Q I h
  refine wpAny_Call_Name_kw (ld_glob I hg hm ?_ hdb)
  exact PySem.W.callWith_K0 I.kIn hk (run_fn (us := []) F hr hb hd hx I .nil h)

/-- o.m(e, ..) -/
theorem pe_meth {pl : Sem Bool} (he : PE X o ta) (c : Cls X.K C) (hm : Meth X.K C m f) (F : FnOk X.prog X.w X.K X.mg X.base CX k f fd ps sp) (hr : Room k X.A) (hb : Binds X.K fd ps ds) (hd : Vals dvs ds) (hx : Passes CX X E) (ha : PA X (e :: es) t)
    (hst : starEach (e :: es) X.env = (false, eval e X.env) :: starEach es X.env := by rfl) (hpl : (backTo pos (starEach es X.env)).any (·.1) = false := by rfl)
    (ht : eval (.Call (.Attribute o m apos) (e :: es) [] pos) X.env = (do
      let ov ← eval o X.env
      standAt apos.atName
      let (f, first) ← holding [ov] (getMethod ov m pl)
      callWith pos f first (backTo pos (starEach (e :: es) X.env)) (backToKw pos (keywordEach [] X.env))) := by rfl) :
    PE X (.Call (.Attribute o m apos) (e :: es) [] pos) (tMeth C m sp dvs E ta t) := by
  intro pins s σ H Q I h
  refine PySem.W.methodCall_KW (pl := pl) (thn (he pins s σ H _ I h) fun u s1 ⟨x, H1, I1, rx, a, dx, fs, ex, ea, l, q⟩ => ?_) ht
  subst ex
  obtain rfl : u = Value.ref a := rx
  refine getmeth_ok I1 ea c hm l ?_
  refine PySem.W.callWith_K (first := [.ref a]) (h₀ := X.base) I.ok.mod.kin hm.kp (thn (ha pos pins s1 σ H1 _ I1 q) fun us s2 ⟨vs, H2, I2, r, q2⟩ => ⟨I2.kIn, ?_⟩) hst hpl
  exact run_fn (us := .ref a :: us) (vs := .ref a :: vs) F hr hb hd hx I2 (.cons rfl r) q2
/-- o.m() -/
theorem pe_meth0 {pl : Sem Bool} (he : PE X o ta) (c : Cls X.K C) (hm : Meth X.K C m f) (F : FnOk X.prog X.w X.K X.mg X.base CX k f fd ps sp) (hr : Room k X.A) (hb : Binds X.K fd ps ds) (hd : Vals dvs ds) (hx : Passes CX X E)
    (ht : eval (.Call (.Attribute o m apos) [] [] pos) X.env = (do
      let ov ← eval o X.env
      standAt apos.atName
      let (f, first) ← holding [ov] (getMethod ov m pl)
      callWith pos f first (backTo pos (starEach [] X.env)) (backToKw pos (keywordEach [] X.env))) := by rfl) :
    PE X (.Call (.Attribute o m apos) [] [] pos) (tMeth C m sp dvs E ta tNil) := by
  intro pins s σ H Q I h
  refine PySem.W.methodCall_KW (pl := pl) (thn (he pins s σ H _ I h) fun u s1 ⟨x, H1, I1, rx, a, dx, fs, ex, ea, l, q⟩ => ?_) ht
  subst ex
  obtain rfl : u = Value.ref a := rx
  refine getmeth_ok I1 ea c hm l ?_
  exact PySem.W.callWith_K0 (first := [.ref a]) I1.kIn hm.kp (run_fn (us := [.ref a]) (vs := [.ref a]) F hr hb hd hx I1 (.cons rfl .nil) q)

/-- what a class must have to be made -/
structure Mk (K : PySem.W.Frag) (C f : Addr) : Prop where
  makes : PySem.W.makesIn K C = true
  init : PySem.W.findIn K (.ref C) "__init__" = some (some (.ref f))
  fn : PySem.W.isFn K (.ref f) = true
  kp : PySem.W.keepIn K (.ref C) = true

theorem run_make {pins : List (Addr × Obj)} {σ : St} {H : Hp} {s : Shared} {Q : VK} {us : List Value} {vs : List V} (M : Mk X.K C f) (F : FnOk X.prog X.w X.K X.mg X.base CX k f fd ps sp) (hr : Room (k + 1) X.A) (hb : Binds X.K fd ps ds) (hd : Vals dvs ds)
    (hx : Passes CX X E) (I : Inv X pins σ H s) (r : Vals vs us)
    (h : ∀ x dx, H x = none → H dx = none → dx ≠ x → sp (.ref x :: (vs ++ dvs)) (upd (upd H dx (.own x)) x (.ins C dx [])) (fun v H2 => v = .non ∧ Q (.ref x) H2) E) :
    wpAny (model X.prog X.w) X.A (call (.ref C) us) (EP X pins σ Q) X.xe s := by
  have hq := h (s.heap.objs.size + 1) s.heap.objs.size (I.hok.fresh (Nat.le_succ _)) (I.hok.fresh (Nat.le_refl _)) (Nat.ne_of_lt (Nat.lt_succ_self _))
  have I2 := Inv.made (C := C) I
  have r2 : Vals (V.ref (s.heap.objs.size + 1) :: (vs ++ dvs)) (Value.ref (s.heap.objs.size + 1) :: (us ++ ds)) := .cons rfl (r.append hd)
  have hl : (Value.ref (s.heap.objs.size + 1) :: us ++ ds).length = ps.length := by
    have e := r2.length
    rw [F.len _ _ _ _ hq] at e
    exact e.symm
  refine wpAny_call (make_map (f := f) I.kIn M.makes M.init (beq_iff_eq.mp M.fn) (codeAny_mono (F.run _ X.stack _ _ ⟨Value.ref (s.heap.objs.size + 1) :: us, []⟩ (Value.ref (s.heap.objs.size + 1) :: (us ++ ds)) _ _ E (hr.make C us [])
    (I2.env0.make C us []) (hb _ (Value.ref (s.heap.objs.size + 1) :: us) I2.kIn hl) r2 hq) fun r s' hq' => ?_))
  cases r with
  | error e => exact hx pins σ _ _ e s' I2 hq'
  | ok fl =>
    cases fl with
    | ret u =>
      obtain ⟨v, H', I3, rv, ev, q3⟩ := I2.after hq'
      subst ev
      exact ⟨rv, ⟨V.ref (s.heap.objs.size + 1), H', I3, rfl, q3⟩⟩
    | next => exact False.elim hq'
    | brk => exact False.elim hq'
    | cont => exact False.elim hq'
theorem pe_make (M : Mk X.K C f) (F : FnOk X.prog X.w X.K X.mg X.base CX k f fd ps sp) (hr : Room (k + 1) X.A) (hg : Gl X x) (hm : X.mg x = some (.ref C)) (hb : Binds X.K fd ps ds) (hd : Vals dvs ds) (hx : Passes CX X E)
    (ha : PA X (e :: es) t) (hdb : (x == ("__debug__" : Str)) = false := by decide) (he : starEach (e :: es) X.env = (false, eval e X.env) :: starEach es X.env := by rfl) (hpl : (backTo pos (starEach es X.env)).any (·.1) = false := by rfl) :
    PE X (.Call (.Name x p) (e :: es) [] pos) (tMake C sp dvs E t) := by
  intro pins s σ H Q I h
  refine wpAny_Call_Name_kw (ld_glob I hg hm ?_ hdb)
  refine PySem.W.callWith_K (h₀ := X.base) I.ok.mod.kin M.kp (thn (ha pos pins s σ H _ I h) fun us s1 ⟨vs, H1, I1, r, q⟩ => ⟨I1.kIn, ?_⟩) he hpl
  exact run_make M F hr hb hd hx I1 r q
theorem pe_make0 (M : Mk X.K C f) (F : FnOk X.prog X.w X.K X.mg X.base CX k f fd ps sp) (hr : Room (k + 1) X.A) (hg : Gl X x) (hm : X.mg x = some (.ref C)) (hb : Binds X.K fd ps ds) (hd : Vals dvs ds) (hx : Passes CX X E)
    (hdb : (x == ("__debug__" : Str)) = false := by decide) : PE X (.Call (.Name x p) [] [] pos) (tMake C sp dvs E tNil) := by
  intro pins s σ H Q I h
  refine wpAny_Call_Name_kw (ld_glob I hg hm ?_ hdb)
  exact PySem.W.callWith_K0 I.kIn M.kp (run_make (us := []) M F hr hb hd hx I .nil h)
end

/-! ### keywords -/
/-- the values of the keywords, from the left -/
def PK (X : Cx) (kws : List Keyword) (t : TA) : Prop :=
  ∀ (pos : Pos) (pins : List (Addr × Obj)) (s : Shared) (σ : St) (H : Hp) (Q : List V → Hp → Prop), Inv X pins σ H s → t σ H Q → wpAny (model X.prog X.w) X.A (evalAll ((backToKw pos (keywordEach kws X.env)).map (·.2))) (AP X pins σ Q) X.xe s
section
variable {X : Cx} {CX : CXT} {k : Nat} {f C : Addr} {fd : FuncData} {ps ks : List Str} {sp : Sp} {E : XK} {x m : Str} {p pos apos kpos : Pos} {e o : Expr} {es : List Expr} {kws : List Keyword} {te ta : TE} {t tk : TA} {nm : Option Str}
theorem pk_nil : PK X [] tNil := fun _ _ _ _ H Q I h => wpAny_evalAll_nil ⟨[], H, I, .nil, h⟩
theorem pk_cons (ha : PE X e te) (hr : PK X kws t) : PK X (⟨nm, e, kpos⟩ :: kws) (tCons te t) := by
  intro pos pins s σ H Q I h
  show wpAny _ _ (evalAll ((do let v ← eval e X.env; standAt pos; pure v) :: (backToKw pos (keywordEach kws X.env)).map (·.2))) _ _ s
  refine wpAny_evalAll_cons (wpAny_bind (thn (ha pins s σ H _ I h) fun u s1 ⟨x, H1, I1, r1, q1⟩ => wpAny_bind (wpAny_standAt (wpAny_pure ?_))))
  exact thn (hr pos pins s1 σ H1 _ I1 q1) fun us s2 ⟨xs, H2, I2, r2, q2⟩ => ⟨x :: xs, H2, I2, .cons r1 r2, q2⟩

/-- how a call with keywords binds: g puts the positional values us and the keywords' values ws (names ks) in the parameters' order, defaults among them -/
structure KBinds (K : PySem.W.Frag) (fd : FuncData) (ps ks : List Str) (g : List Value → List Value → List Value) (gV : List V → List V → List V) : Prop where
  to : ∀ (s : Shared) (us ws : List Value), K.In s.heap → (g us ws).length = ps.length → BindsTo s fd ⟨us, ks.zip ws⟩ (ps.zip (g us ws))
  rel : ∀ {vs : List V} {us : List Value} {zs : List V} {ws : List Value}, Vals vs us → Vals zs ws → Vals (gV vs zs) (g us ws)
def tCallK (sp : Sp) (gV : List V → List V → List V) (E : XK) (t tk : TA) : TE := fun σ H Q => t σ H fun vs H1 => tk σ H1 fun zs H2 => sp (gV vs zs) H2 Q E
variable {g : List Value → List Value → List Value} {gV : List V → List V → List V}
theorem run_fnk {pins : List (Addr × Obj)} {σ : St} {H : Hp} {s : Shared} {Q : VK} {us ws : List Value} {vs zs : List V} (F : FnOk X.prog X.w X.K X.mg X.base CX k f fd ps sp) (hr : Room k X.A) (hb : KBinds X.K fd ps ks g gV) (hx : Passes CX X E)
    (I : Inv X pins σ H s) (r : Vals vs us) (rz : Vals zs ws) (h : sp (gV vs zs) H Q E) : wpAny (model X.prog X.w) X.A (call (.ref f) us (ks.zip ws)) (EP X pins σ Q) X.xe s := by
  have r2 := hb.rel r rz
  have hl : (g us ws).length = ps.length := by rw [← r2.length]; exact F.len _ _ _ _ h
  refine wpAny_call (codeAny_mono (F.run X.A X.stack s H ⟨us, ks.zip ws⟩ (g us ws) (gV vs zs) Q E hr I.env0 (hb.to s us ws I.kIn hl) r2 h) fun r s' hq => ?_)
  cases r with
  | error e => exact hx pins σ H s e s' I hq
  | ok fl =>
    cases fl with
    | ret u => exact I.after hq
    | next => exact False.elim hq
    | brk => exact False.elim hq
    | cont => exact False.elim hq
/-- f(e, .., k = v, ..) -/
theorem pe_callK (F : FnOk X.prog X.w X.K X.mg X.base CX k f fd ps sp) (hr : Room k X.A) (hg : Gl X x) (hm : X.mg x = some (.ref f)) (hk : PySem.W.keepIn X.K (.ref f) = true) (hb : KBinds X.K fd ps ks g gV) (hx : Passes CX X E)
    (ha : PA X (e :: es) t) (hkw : PK X kws tk) (hall : (backToKw pos (keywordEach kws X.env)).all (·.1.isSome) = true := by rfl) (hks : (backToKw pos (keywordEach kws X.env)).filterMap (·.1) = ks := by rfl)
    (hdb : (x == ("__debug__" : Str)) = false := by decide) (he : starEach (e :: es) X.env = (false, eval e X.env) :: starEach es X.env := by rfl)
    (hpl : ((backTo pos (starEach (e :: es) X.env)).any (·.1) || (backToKw pos (keywordEach kws X.env)).any (·.1.isNone)) = false := by rfl) :
    PE X (.Call (.Name x p) (e :: es) kws pos) (tCallK sp gV E t tk) := by
  intro pins s σ H Q I h
  refine wpAny_Call_Name_kw (ld_glob I hg hm ?_ hdb)
  refine PySem.W.callWith_KW (h₀ := X.base) I.ok.mod.kin hk hall (thn (ha pos pins s σ H _ I h) fun us s1 ⟨vs, H1, I1, r, q⟩ => ?_) hpl he
  refine thn (hkw pos pins s1 σ H1 _ I1 q) fun ws s2 ⟨zs, H2, I2, rz, q2⟩ => ⟨I2.kIn, ?_⟩
  rw [hks]
  exact run_fnk F hr hb hx I2 r rz q2
end

/-! ### a def's body keeps its promise -/
/-- names: the parameters first -/
structure FnScope (N P : List Str) (sc : Scope) : Prop where
  kind : sc.kind = .function
  co : sc.isCoroutine = false
  gen : sc.isGenerator = false
  nd : N.Nodup
  pre : N.take P.length = P
  par : ∀ x ∈ P, sc.names.lookup x = some .local ∨ sc.names.lookup x = some .cell
  nofree : ∀ y ∈ sc.names, y.2 ≠ .free

theorem bindL_out {kindOf : Str → Option NameKind} {x : Str} : ∀ {binds : List (Str × Value)} {m : Str → Option Value}, (∀ v, (x, v) ∉ binds) → bindL kindOf binds m x = m x
  | [], _, _ => rfl
  | (n, v) :: r, m, h => by
    unfold bindL
    rw [bindL_out fun w hw => h w (List.mem_cons_of_mem _ hw)]
    split
    · have : x ≠ n := by rintro rfl; exact h v List.mem_cons_self
      simp [this]
    · rfl
theorem bindC_out {kindOf : Str → Option NameKind} {x : Str} : ∀ {binds : List (Str × Value)} {m : Str → Option Value}, (∀ v, (x, v) ∉ binds) → bindC kindOf binds m x = m x
  | [], _, _ => rfl
  | (n, v) :: r, m, h => by
    unfold bindC
    rw [bindC_out fun w hw => h w (List.mem_cons_of_mem _ hw)]
    split
    · rfl
    · have : x ≠ n := by rintro rfl; exact h v List.mem_cons_self
      simp [this]
theorem bindL_get {kindOf : Str → Option NameKind} {x : Str} {v : Value} : ∀ {P : List Str} {vs : List Value} {i : Nat} {m : Str → Option Value}, P.Nodup → P[i]? = some x → vs[i]? = some v → kindOf x = some .local →
    bindL kindOf (P.zip vs) m x = some v
  | [], _, _, _, _, h, _, _ => by simp at h
  | _ :: _, [], _, _, _, _, h, _ => by simp at h
  | p :: P, w :: vs, 0, m, nd, h1, h2, hk => by
    simp at h1 h2; subst h1; subst h2
    show bindL kindOf ((p, w) :: P.zip vs) m p = _
    unfold bindL
    rw [bindL_out fun v hv => (List.nodup_cons.mp nd).1 (List.of_mem_zip hv).1, if_pos hk]
    simp
  | p :: P, w :: vs, i + 1, m, nd, h1, h2, hk => by
    show bindL kindOf ((p, w) :: P.zip vs) m x = _
    unfold bindL
    exact bindL_get (i := i) (List.nodup_cons.mp nd).2 (by simpa using h1) (by simpa using h2) hk
theorem bindC_get {kindOf : Str → Option NameKind} {x : Str} {v : Value} : ∀ {P : List Str} {vs : List Value} {i : Nat} {m : Str → Option Value}, P.Nodup → P[i]? = some x → vs[i]? = some v → kindOf x ≠ some .local →
    bindC kindOf (P.zip vs) m x = some v
  | [], _, _, _, _, h, _, _ => by simp at h
  | _ :: _, [], _, _, _, _, h, _ => by simp at h
  | p :: P, w :: vs, 0, m, nd, h1, h2, hk => by
    simp at h1 h2; subst h1; subst h2
    show bindC kindOf ((p, w) :: P.zip vs) m p = _
    unfold bindC
    rw [bindC_out fun v hv => (List.nodup_cons.mp nd).1 (List.of_mem_zip hv).1, if_neg hk]
    simp
  | p :: P, w :: vs, i + 1, m, nd, h1, h2, hk => by
    show bindC kindOf ((p, w) :: P.zip vs) m x = _
    unfold bindC
    exact bindC_get (i := i) (List.nodup_cons.mp nd).2 (by simpa using h1) (by simpa using h2) hk

/-- the names' values at the entry -/
def start (N : List Str) (vs : List V) : St := vs.map some ++ List.replicate (N.length - vs.length) none

/-- the context of a def's body, at its entry; an exception leaves the frame, then lies as CX says -/
def cxOf (CX : CXT) (P : Program) (w : World) (K : PySem.W.Frag) (mg : Str → Option Value) (base : Heap) (N : List Str) (qual : Str) (scope : Scope) (f : Addr) (cd : Value) (A : Around) (outer : List Env) (s : Shared) (H : Hp) (E : XK) : Cx where
  prog := P
  w := w
  K := K
  mg := mg
  base := base
  A := A.deeper (envOfC qual scope s.heap.objs.size f cd)
  N := N
  s₀ := s
  H₀ := H
  env := envOfC qual scope s.heap.objs.size f cd
  outer := outer
  stack := envOfC qual scope s.heap.objs.size f cd :: outer
  ex := []
  calm := true
  fn := fun _ => true
  pn := []
  xe := fun e s' => wpAny (model P w) (A.deeper (envOfC qual scope s.heap.objs.size f cd)) (leaving (envOfC qual scope s.heap.objs.size f cd) e) (fun _ s'' => CX outer H s E e s'') (fun e' s'' => CX outer H s E e' s'') s'

theorem cell_has {sc : Scope} {n : Nat} {x : Str} (h : sc.names.lookup x = some .cell) : ∃ c, (cellsFrom n sc.names []).lookup x = some c := by
  have q := PySem.W.cellsFrom_some sc.names n [] (.inl h)
  exact Option.isSome_iff_exists.mp q

theorem inv_start {CX : CXT} {P : Program} {w : World} {K : PySem.W.Frag} {mg : Str → Option Value} {base : Heap} {N ps : List Str} {qual : Str} {scope : Scope} {f : Addr} {cd : Value} {A : Around} {outer : List Env} {s s1 : Shared} {H : Hp} {E : XK} {us : List Value} {vs : List V}
    (S : FnScope N ps scope) (hd : A.handled = none) (e0 : Env0 P w K mg base A outer s H) (hl : vs.length = ps.length) (r : Vals vs us)
    (x : InCallC s s.heap.objs.size (bindL (envOfC qual scope s.heap.objs.size f cd).kindOf (ps.zip us) fun _ => none) (cellsFrom (s.heap.objs.size + 1) scope.names []) (bindC (envOfC qual scope s.heap.objs.size f cd).kindOf (ps.zip us) fun _ => none) s1) :
    Inv (cxOf CX P w K mg base N qual scope f cd A outer s H E) [] (start N vs) H s1 := by
  have hpl : ps.length ≤ N.length := by have := congrArg List.length S.pre; rw [List.length_take] at this; omega
  obtain ⟨h1, tk, rfl, hk⟩ := x.done
  have noA : ∀ b : Addr, b ∉ (cxOf CX P w K mg base N qual scope f cd A outer s H E).ex := fun b z => absurd (show b ∈ ([] : List Addr) from z) (by simp)
  refine ⟨⟨e0.mod, S.kind, rfl, rfl, Nat.le_refl _, fun y z c h1 h2 => ?_, fun y hy => ?_, fun y c _ h => ?_, fun _ => hd, Around.frames_deeper e0.frames, .inr ⟨rfl, rfl⟩, fun b z => absurd z (noA b), e0.bs, e0.bsz, fun b _ _ => noA b, fun b z => absurd z (noA b), e0.funs, e0.frf⟩,
    rfl, e0.bare, Un.kept hk, ⟨_, x.toInCall.ns, fun i y v h1 h2 h3 => ?_⟩, fun y c h => ⟨_, x.cell y c h⟩, e0.hok.fresh (Nat.le_refl _), fun y c h => ?_, fun p hp => absurd (show p ∈ ([] : List (Addr × Obj)) from hp) (by simp), e0.hok.kept hk, ?_⟩
  · exact name_of_addr x.apart (PySem.mem_of_lookup h1) (PySem.mem_of_lookup h2)
  · have hy : scope.names.lookup y = some .cell ∨ scope.names.lookup y = some .free := hy
    rcases hy with hy | hy
    · exact cell_has hy
    · exact absurd rfl (S.nofree _ (PySem.mem_of_lookup hy))
  · exact Nat.le_of_lt (x.above y c (PySem.mem_of_lookup h))
  · have hi : i < vs.length := by
      unfold start at h2
      by_cases hi : i < vs.length
      · exact hi
      · rw [List.getElem?_append_right (by simpa using hi)] at h2
        rw [List.getElem?_replicate] at h2
        split at h2 <;> cases h2
    have ha : vs[i]? = some v := by
      unfold start at h2
      rw [List.getElem?_append_left (by simpa using hi), List.getElem?_map] at h2
      cases e : vs[i]? with
      | none => rw [e] at h2; cases h2
      | some a => rw [e] at h2; cases h2; rfl
    obtain ⟨u, hu, rv⟩ := r.get ha
    have hp : ps[i]? = some y := by
      rw [← S.pre, List.getElem?_take_of_lt (by omega)]; exact h1
    have ndP : ps.Nodup := by rw [← S.pre]; exact S.nd.sublist (List.take_sublist _ _)
    refine ⟨u, rv, ?_⟩
    rcases S.par y (List.mem_of_getElem? hp) with k | k
    · exact .inl ⟨k, bindL_get ndP hp hu k⟩
    · obtain ⟨c, e⟩ := cell_has (n := s.heap.objs.size + 1) k
      refine .inr ⟨.inl k, c, e, ?_⟩
      have q := x.cell y c e
      rw [bindC_get ndP hp hu (by show scope.names.lookup y ≠ _; rw [k]; decide)] at q
      exact q
  · exact e0.hok.fresh (Nat.le_of_lt (x.above y c (PySem.mem_of_lookup h)))
  · unfold start
    show _ = N.length
    rw [List.length_append, List.length_map, List.length_replicate]
    omega

/-- THE RULE: a def (or a method) of the text, by its body. The body's reading t is chosen for each entry; it is run at the parameters' values -/
theorem fn_of {CX : CXT} {P : Program} {w : World} {K : PySem.W.Frag} {mg : Str → Option Value} {base : Heap} {k : Nat} {f : Addr} {name qual : Str} {params : Arguments} {body : List Stmt} {scope : Scope} {dV kV doc pm cdv ct oc : Value} {an od : Option Addr}
    {osl : Array (Option Value)} {N ps : List Str} {sp : Sp} (lk : K.lookup f = some ⟨oc, od, .func (PySem.W.fnOf name qual params body scope dV kV doc pm an cdv ct), osl⟩) (hcd : PySem.W.codeIn K cdv qual = true) (S : FnScope N ps scope)
    (len : ∀ vs H Q E, sp vs H Q E → vs.length = ps.length)
    (hbody : ∀ (A : Around) (outer : List Env) (s : Shared) (H : Hp) (vs : List V) (Q : VK) (E : XK), Room k (A.deeper (envOfC qual scope s.heap.objs.size f cdv)) → sp vs H Q E →
      ∃ t, PSs (cxOf CX P w K mg base N qual scope f cdv A outer s H E) body t ∧ t { nx := fun _ H' => Q .non H', rt := Q } (start N vs) H) :
    FnOk P w K mg base CX (k + 1) f (PySem.W.fnOf name qual params body scope dV kV doc pm an cdv ct) ps sp := by
  refine ⟨len, fun A outer s H args us vs Q E hr e0 hb r hsp => ?_⟩
  have hl := len _ _ _ _ hsp
  have KX : K.In s.heap := e0.mod.kin.keeps fun b o e => (e0.bs b o e).1
  have lim : s.heap.NoLimit := e0.mod.nolimit.keeps fun b o e => (e0.bs b o e).1
  have hkind : ∀ y ∈ ps.zip us, scope.names.lookup y.1 = some .local ∨ (scope.names.lookup y.1 = some .cell ∧ ((cellsFrom (s.heap.objs.size + 1) scope.names []).lookup y.1).isSome = true) := fun ⟨n, v⟩ hy => by
    rcases S.par n (List.of_mem_zip hy).1 with q | q
    · exact .inl q
    · exact .inr ⟨q, PySem.W.cellsFrom_some _ _ _ (.inl q)⟩
  refine codeAny_call_function hr.depth (KX _ _ lk) rfl S.co S.gen rfl (PySem.W.codeRec_of KX hcd) (hb _ _ _ _ ?_)
  refine wpAny_newFunctionEnv_cells S.kind hkind fun env he s1 x => ?_
  subst he
  refine ⟨lim.keeps x.toInCall.keep, codeAny_func ?_⟩
  obtain ⟨t, ht, hq⟩ := hbody A outer s H vs Q E (hr.deeper _) hsp
  have I : Inv (cxOf CX P w K mg base N qual scope f cdv A outer s H E) [] (start N vs) H s1 := inv_start S hr.hd e0 hl r x
  refine wpAny_mono (ht [] s1 (start N vs) H _ I hq) (fun fl s' hs => ?_) fun e s' hs => hs
  have fin : ∀ {σ' : St} {H' : Hp} {v : V} {u : Value}, Inv (cxOf CX P w K mg base N qual scope f cdv A outer s H E) [] σ' H' s' → RelV v u → Q v H' → CE outer P w H s Q u s' :=
    fun {σ' H' v u} J rv q => ⟨v, H', J.os, J.bare, J.base, J.hok, rv, q⟩
  cases fl with
  | ret u =>
    obtain ⟨v, σ', H', J, rv, q⟩ := hs
    exact fin J rv q
  | next =>
    obtain ⟨σ', H', J, q⟩ := hs
    exact fin (v := V.non) (u := Value.none) J rfl q
  | brk =>
    obtain ⟨_, _, _, q⟩ := hs
    exact False.elim q
  | cont =>
    obtain ⟨_, _, _, q⟩ := hs
    exact False.elim q
end L2

namespace L2
open PySem PySem.Spec PyProof.Rows
section
variable {X : Cx} {x : Str} {p pos : Pos} {e : Expr} {es : List Expr} {t : TA} {id T : String} {r : List V → Hp → VK → Prop}

def tCB (r : List V → Hp → VK → Prop) (t : TA) : TE := fun σ H Q => t σ H fun vs H1 => r vs H1 Q
/-- f(e, ..), f a built-in function -/
theorem pe_callB (hc : CallR X (.builtin id) r) (hg : Gl X x) (hm : X.mg x = none) (hv : bootBuiltins x = some (.builtin id)) (ha : PA X (e :: es) t) (hn : x ≠ "__name__" := by decide) (hdb : (x == ("__debug__" : Str)) = false := by decide)
    (he : starEach (e :: es) X.env = (false, eval e X.env) :: starEach es X.env := by rfl) (hpl : (backTo pos (starEach es X.env)).any (·.1) = false := by rfl) : PE X (.Call (.Name x p) (e :: es) [] pos) (tCB r t) := by
  intro pins s σ H Q I h
  refine wpAny_Call_Name_kw (ld_blt I hg hm hv ?_ hn hdb)
  exact PyProof.Rows.callWith_builtin1 (thn (ha pos pins s σ H _ I h) fun us s1 ⟨vs, H1, I1, r1, q1⟩ => hc pins s1 σ H1 vs us Q I1 r1 q1) he hpl
/-- T(e, ..), T a built-in type -/
theorem pe_callTy (hc : CallR X (.type T) r) (hg : Gl X x) (hm : X.mg x = none) (hv : bootBuiltins x = some (.type T)) (ha : PA X (e :: es) t) (hn : x ≠ "__name__" := by decide) (hdb : (x == ("__debug__" : Str)) = false := by decide)
    (he : starEach (e :: es) X.env = (false, eval e X.env) :: starEach es X.env := by rfl) (hpl : (backTo pos (starEach es X.env)).any (·.1) = false := by rfl) : PE X (.Call (.Name x p) (e :: es) [] pos) (tCB r t) := by
  intro pins s σ H Q I h
  refine wpAny_Call_Name_kw (ld_blt I hg hm hv ?_ hn hdb)
  exact PyProof.Rows.callWith_type1 (thn (ha pos pins s σ H _ I h) fun us s1 ⟨vs, H1, I1, r1, q1⟩ => hc pins s1 σ H1 vs us Q I1 r1 q1) he hpl
/-- T() -/
theorem pe_callTy0 (hc : CallR X (.type T) r) (hg : Gl X x) (hm : X.mg x = none) (hv : bootBuiltins x = some (.type T)) (hn : x ≠ "__name__" := by decide) (hdb : (x == ("__debug__" : Str)) = false := by decide) :
    PE X (.Call (.Name x p) [] [] pos) (tCB r tNil) := by
  intro pins s σ H Q I h
  refine wpAny_Call_Name_kw (ld_blt I hg hm hv ?_ hn hdb)
  exact PyProof.Rows.callWith_type0 (hc pins s σ H [] [] Q I .nil h)
end
end L2

namespace HT
open PySem PyProof.Rows

/-- t < u of tuples of ints -/
def lexLt : List Int → List Int → Bool
  | [], [] => false
  | [], _ :: _ => true
  | _ :: _, [] => false
  | x :: xs, y :: ys => if x = y then lexLt xs ys else decide (x < y)
theorem lexLt_cons (x y : Int) (xs ys : List Int) : lexLt (x :: xs) (y :: ys) = if x = y then lexLt xs ys else decide (x < y) := rfl
theorem lexLt_nil_nil : lexLt [] [] = false := rfl
theorem lexLt_nil_cons (y : Int) (ys : List Int) : lexLt [] (y :: ys) = true := rfl
theorem lexLt_cons_nil (x : Int) (xs : List Int) : lexLt (x :: xs) [] = false := rfl

theorem eqAt_int (A : Around) (s : Shared) (a : Int) (t : Tok) (c : Int) (u : Tok) : ∃ e, SeqAt.EqAt A s (.int a t) (.int c u) e ∧ (e = true ↔ a = c) :=
  ⟨(a == c), SeqAt.EqAt.int_int a t c u, by simp⟩
theorem rcLt_int (A : Around) (s : Shared) (a : Int) (t : Tok) (c : Int) (u : Tok) (prog : Program) (w : World) (E : Value → Shared → Prop) (Q : Value → Shared → Prop) (h : Q (.bool (decide (a < c))) s) :
    wpAny (model prog w) A (richCompare .Lt (.int a t) (.int c u)) Q E s :=
  (PyProof.Rows.lt_int h : wpAny (model prog w) A (compareOp .Lt (.int a t) (.int c u)) Q E s)

section
open PySem.SeqAt
open PySem.AutoSeq1 (wpAny_loadPart')
open PySem.MeetsSeq PySem.MeetsSeq2 PySem.MeetsSeq3

theorem tuple_lt_ints (l b : Addr) (items items2 : Array Value) (n n2 : Nat) (dd dd2 : Option Addr) (sl sl2 : Array (Option Value)) (ns ms : List Int) (hi : IntsAre items.toList ns) (hj : IntsAre items2.toList ms) :
    Meets (Builtin.«tuple.__lt__» ⟨[.ref l, .ref b], []⟩)
      (fun _ R s => s.heap.get? l = some { cls := .type "tuple", dict := dd, data := .seq items n, slots := sl } ∧ s.heap.get? b = some { cls := .type "tuple", dict := dd2, data := .seq items2 n2, slots := sl2 } ∧
        R (.ok (.ret (.bool (lexLt ns ms)))) s) :=
  .of_wp fun prog w A R s h => by
    obtain ⟨hp, g, d, tk, os⟩ := s; obtain ⟨hl, hb, h⟩ := h
    have f2 := AutoSeq1.sub_tuple_tuple
    have z1 : items.size = ns.length := by rw [← hi.length]; simp
    have z2 : items2.size = ms.length := by rw [← hj.length]; simp
    wp_walk using wpAny_loadPart' hl, wpAny_loadPart' hb, wpAny_forIn_list _ (fun rest b s' => b.1 = none ∧ s' = ⟨hp, g, d, tk, os⟩ ∧ ∃ (vs ws : List Value) (ns' ms' : List Int), rest = vs.zip ws ∧
      IntsAre vs ns' ∧ IntsAre ws ms' ∧ ns'.length + items2.size = ms'.length + items.size ∧ R (.ok (.ret (.bool (lexLt ns' ms')))) ⟨hp, g, d, tk, os⟩) _
    case turn =>
      rintro ⟨y, x⟩ rest b s' ⟨hb', rfl, vs, ws, ns', ms', hz, hvi, hwi, hlen, hR⟩
      cases hvi with
      | nil => rw [List.zip_nil_left] at hz; cases hz
      | cons a t hvi' =>
        cases hwi with
        | nil => rw [List.zip_nil_right] at hz; cases hz
        | cons c u hwi' =>
          rw [List.zip_cons_cons] at hz
          injection hz with hyx hrest
          injection hyx with hy hx
          subst hy hx
          rw [lexLt_cons] at hR
          simp only [List.length_cons] at hlen
          obtain ⟨e, he, hiff⟩ := eqAt_int A.in1 ⟨hp, g, d, tk, os⟩ a t c u
          refine wpAny_bind (he prog w _ _ ?_)
          cases e with
          | true =>
            rw [if_pos (hiff.mp rfl)] at hR
            wp_walk
            exact ⟨rfl, rfl, _, _, _, _, hrest, hvi', hwi', by omega, hR⟩
          | false =>
            rw [if_neg (fun q => absurd (hiff.mpr q) Bool.false_ne_true)] at hR
            have hri := rcLt_int A.in1 ⟨hp, g, d, tk, os⟩ a t c u prog w
            wp_walk using hri
            exact ⟨_, rfl, by simpa using hR⟩
    case fin =>
      rintro ⟨b1, b2⟩ s' ⟨hb', rfl, vs, ws, ns', ms', hz, hvi, hwi, hlen, hR⟩
      simp only at hb'
      subst hb'
      have hv : lexLt ns' ms' = decide (items.size < items2.size) := by
        cases hvi with
        | nil =>
          cases hwi with
          | nil =>
            simp only [List.length_nil] at hlen
            rw [lexLt_nil_nil]
            exact (decide_eq_false (by omega)).symm
          | cons c u hw =>
            simp only [List.length_nil, List.length_cons] at hlen
            rw [lexLt_nil_cons]
            exact (decide_eq_true (by omega)).symm
        | cons a t hv =>
          cases hwi with
          | nil =>
            simp only [List.length_nil, List.length_cons] at hlen
            rw [lexLt_cons_nil]
            exact (decide_eq_false (by omega)).symm
          | cons c u hw =>
            rw [List.zip_cons_cons] at hz
            cases hz
      rw [hv] at hR
      wp_walk
      exact ⟨_, rfl, by simpa [Builtin.Tuple.tupleCompareSizes] using hR⟩
    case h =>
      exact ⟨rfl, rfl, items.toList, items2.toList, ns, ms, rfl, hi, hj, by omega, h⟩
end

section
variable {prog : Program} {w : World} {A : Around} {E : Value → Shared → Prop} {s : Shared}

theorem lt_tupInts {l b : Addr} {items items2 : Array Value} {ns ms : List Int} {Q : Value → Shared → Prop} (hl : IsTup s.heap l items) (hb : IsTup s.heap b items2) (hi : IntsAre items.toList ns) (hj : IntsAre items2.toList ms)
    (hu : A.units < cLine) (h : Q (.bool (lexLt ns ms)) s) : wpAny (model prog w) A (compareOp .Lt (.ref l) (.ref b)) Q E s := by
  obtain ⟨⟨cls, dd, data, sl⟩, ho, hc, n, hd⟩ := id hl
  obtain ⟨⟨cls2, dd2, data2, sl2⟩, ho2, hc2, n2, hd2⟩ := id hb
  simp only at hc hd hc2 hd2
  subst hc hd hc2 hd2
  exact richCompare_meets_room (op := .Lt) ⟨_, ho, rfl⟩ ⟨_, ho2, rfl⟩ PySem.F.slot_tuple_lt PySem.F.entry_tuple_lt (PySem.F.args_tuple_lt_2 _ _) (tuple_lt_ints l b items items2 n n2 dd dd2 sl sl2 ns ms hi hj)
    ⟨ho, ho2, show Value.bool (lexLt ns ms) ≠ Value.notImplemented ∧ Q (.bool (lexLt ns ms)) s from ⟨(fun x => nomatch x), h⟩⟩ hu

/-- t + u, t not empty -/
theorem cat_tup {t b : Addr} {vs ws : List Value} {Q : Value → Shared → Prop} (ht : IsTup s.heap t vs.toArray) (hb : IsTup s.heap b ws.toArray) (hv : vs ≠ [])
    (h1 : ws = [] → Q (.ref t) s) (h2 : ws ≠ [] → Q (.ref s.heap.objs.size) { s with heap := s.heap.push { cls := .type "tuple", data := .seq (vs ++ ws).toArray } })
    (hsz : vs.length + ws.length ≤ sizeLine) : wpAny (model prog w) A (binaryOp .Add (.ref t) (.ref b)) Q E s := by
  obtain ⟨⟨cls, dd, data, sl⟩, ho, hc, n, hd⟩ := id ht
  obtain ⟨⟨cls2, dd2, data2, sl2⟩, ho2, hc2, n2, hd2⟩ := id hb
  simp only at hc hd hc2 hd2
  subst hc hd hc2 hd2
  have e : vs.toArray ++ ws.toArray = (vs ++ ws).toArray := by simp
  by_cases hw : ws = []
  · exact concat_meets ⟨_, ho, rfl⟩ ⟨_, ho2, rfl⟩ noFill_tuple_add seq_tuple_add PySem.F.slot_tuple_add PySem.F.entry_tuple_add (PySem.F.args_tuple_add_2 _ _)
      (tuple_addW1 t b vs.toArray ws.toArray n n2 dd dd2 sl sl2 (by simpa using hv) (by simp [hw])) ⟨ho, ho2, h1 hw⟩
  · refine concat_meets ⟨_, ho, rfl⟩ ⟨_, ho2, rfl⟩ noFill_tuple_add seq_tuple_add PySem.F.slot_tuple_add PySem.F.entry_tuple_add (PySem.F.args_tuple_add_2 _ _)
      (tuple_addW2 t b vs.toArray ws.toArray n n2 dd dd2 sl sl2 (by simpa using hv) (by simpa using hw) (by rw [List.size_toArray, List.size_toArray]; exact hsz)) ⟨ho, ho2, ?_⟩
    rw [e]
    exact h2 hw

/-! ### t[a:b], not the whole -/
/-- a slice's bound as a place among n (d where it is left out) -/
def sIx (n d : Nat) : Option Int → Nat
  | none => d
  | some v => if v < 0 then (v + (n : Int)).toNat else min v.toNat n
theorem sIx_none (n d : Nat) : sIx n d none = d := rfl
theorem sIx_nat (n d k : Nat) : sIx n d (some (k : Int)) = min k n := by
  show (if (k : Int) < 0 then ((k : Int) + (n : Int)).toNat else min (k : Int).toNat n) = min k n
  rw [if_neg (by omega), Int.toNat_natCast]
theorem sIx_le (n d : Nat) (hd : d ≤ n) (o : Option Int) : sIx n d o ≤ n := by
  cases o with
  | none => exact hd
  | some v =>
    show (if v < 0 then (v + (n : Int)).toNat else min v.toNat n) ≤ n
    by_cases hv : v < 0
    · rw [if_pos hv]; omega
    · rw [if_neg hv]; exact Nat.min_le_right _ _
theorem clip_eq (v : Int) (n d : Nat) : (if v < 0 then max (v + (n : Int)) 0 else min v (n : Int)) = ((sIx n d (some v) : Nat) : Int) := by
  show (if v < 0 then max (v + (n : Int)) 0 else min v (n : Int)) = (((if v < 0 then (v + (n : Int)).toNat else min v.toNat n) : Nat) : Int)
  by_cases hv : v < 0
  · simp only [if_pos hv]; omega
  · simp only [if_neg hv]; omega
theorem adjust_gen (lo hi : Option Int) (n : Nat) : Builtin.Slice.sliceAdjust lo hi 1 (n : Int) = (((sIx n 0 lo : Nat) : Int), ((sIx n n hi : Nat) : Int)) := by
  have h1 : ¬ ((1 : Int) < 0) := by omega
  unfold Builtin.Slice.sliceAdjust
  simp only [h1, if_false]
  refine Prod.ext ?_ ?_
  · cases lo with
    | none => rfl
    | some v => exact clip_eq v n 0
  · cases hi with
    | none => rfl
    | some v => exact clip_eq v n n
theorem places_gen (i j : Nat) : Builtin.Slice.slicePlaces (i : Int) (j : Int) 1 = j - i := by
  unfold Builtin.Slice.slicePlaces
  have h1 : (1 : Int) > 0 := by omega
  simp only [h1, if_true, Int.ediv_one]
  split <;> omega
theorem slicePart_ {v : Value} {o : Option Int} {Q : Option Int → Shared → Prop} (p : IsPart v o) (h : Q o s) : wpAny (model prog w) A (Builtin.Slice.slicePartIndex v) Q E s := by
  cases p with
  | none => exact slicePart_none h
  | int i t => exact slicePart_int h
theorem sliceApplied_gen {sl : Addr} {vl vu : Value} {lo hi : Option Int} {n : Nat} {Q : Int × Int × Nat → Shared → Prop} (hs : s.heap.IsSliceOf sl vl vu .none) (pl : IsPart vl lo) (pu : IsPart vu hi)
    (h : Q (((sIx n 0 lo : Nat) : Int), 1, sIx n n hi - sIx n 0 lo) s) : wpAny (model prog w) A (Builtin.Slice.sliceApplied (.ref sl) (pure (n : Int))) Q E s := by
  obtain ⟨os, hos, hcs, hds⟩ := id hs
  unfold Builtin.Slice.sliceApplied Builtin.Slice.sliceFields
  refine wpAny_bind (wpAny_bind (wpAny_field hos hds (x := vl) rfl (wpAny_bind (wpAny_field hos hds (x := vu) rfl (wpAny_bind (wpAny_field hos hds (x := .none) rfl (wpAny_pure ?_)))))))
  refine wpAny_bind (slicePart_none ?_)
  show wpAny _ _ (if ((1 : Int) == 0) = true then _ else _) _ _ s
  rw [if_neg (by decide)]
  refine wpAny_bind (slicePart_ pl (wpAny_bind (slicePart_ pu (wpAny_bind (wpAny_pure ?_)))))
  show wpAny _ _ (match Builtin.Slice.sliceAdjust lo hi 1 (n : Int) with | (lo, hi) => pure (lo, (1 : Int), Builtin.Slice.slicePlaces lo hi 1)) _ _ s
  rw [adjust_gen lo hi n]
  show wpAny _ _ (pure (((sIx n 0 lo : Nat) : Int), (1 : Int), Builtin.Slice.slicePlaces ((sIx n 0 lo : Nat) : Int) ((sIx n n hi : Nat) : Int) 1)) _ _ s
  rw [places_gen]
  exact wpAny_pure h
theorem pick_gen (xs : Array Value) (i k : Nat) : ((List.range k).filterMap fun (m : Nat) => xs[((i : Int) + (m : Int) * 1).toNat]?).toArray = ((xs.toList.drop i).take k).toArray := by
  have e : (fun (m : Nat) => xs[((i : Int) + (m : Int) * 1).toNat]?) = fun m => xs[i + m]? := by
    funext m
    have : ((i : Int) + (m : Int) * 1).toNat = i + m := by omega
    rw [this]
  rw [e]
  have := pick_run xs i k
  rw [List.filterMap_map] at this
  have e2 : ((fun x => xs[x]?) ∘ fun x => i + x) = fun m => xs[i + m]? := rfl
  rw [e2] at this
  rw [this]

theorem getItem_tuple_cut {t sl : Addr} {items : Array Value} {vl vu : Value} {lo hi : Option Int} {Q : Value → Shared → Prop} (ht : IsTup s.heap t items) (hs : s.heap.IsSliceOf sl vl vu .none) (pl : IsPart vl lo) (pu : IsPart vu hi)
    (hw : ¬ (sIx items.size 0 lo = 0 ∧ sIx items.size items.size hi = items.size))
    (h : Q (.ref s.heap.objs.size) { s with heap := s.heap.push { cls := .type "tuple", data := .seq ((items.toList.drop (sIx items.size 0 lo)).take (sIx items.size items.size hi - sIx items.size 0 lo)).toArray } })
    (hsz : items.size ≤ sizeLine) : wpAny (model prog w) A (getItem (.ref t) (.ref sl)) Q E s := by
  have htake : sizeOk (.seq ((items.toList.drop (sIx items.size 0 lo)).take (sIx items.size items.size hi - sIx items.size 0 lo)).toArray) := by
    show ((items.toList.drop (sIx items.size 0 lo)).take (sIx items.size items.size hi - sIx items.size 0 lo)).toArray.size ≤ sizeLine
    rw [List.size_toArray, List.length_take, List.length_drop, Array.length_toList]
    omega
  have hj : sIx items.size items.size hi ≤ items.size := sIx_le _ _ (Nat.le_refl _) hi
  obtain ⟨os, hos, hcs, hds⟩ := id hs
  have hTs : s.TypeIs (.ref sl) "slice" := ⟨os, hos, hcs⟩
  unfold getItem
  try with_reducible refine wpAny_holding ?_
  first | refine wpAny_bind (wpAny_pure ?_) | skip
  refine wpAny_bind (wpAny_sequenceKey ht.typeIs (by decide) ?_)
  refine wpAny_bind (wpAny_callSpecial?_slot (name := Str.ofString "__getitem__") ht.typeIs PyProof.Rows.slot_tuple_getitem
    (wpAny_call_entry PyProof.Rows.slot_tuple_getitem ht.typeIs entry_tuple_getitem ?_ (args_tuple_getitem _ _)))
  show wpAny _ _ (Builtin.Tuple.tupleItemsOf (.ref t) >>= _) _ _ s
  refine wpAny_bind (tupleItemsOf_ ht ?_)
  refine wpAny_bind (wpAny_typeOf hTs ?_)
  rw [if_pos (by decide)]
  refine wpAny_bind (sliceApplied_gen hs pl pu ?_)
  have hno : ¬ ((((sIx items.size 0 lo : Nat) : Int) == 0 && (1 : Int) == 1 && (sIx items.size items.size hi - sIx items.size 0 lo) == items.size) = true) := by
    intro q
    rw [Bool.and_eq_true, Bool.and_eq_true] at q
    have q1 : ((sIx items.size 0 lo : Nat) : Int) = 0 := eq_of_beq q.1.1
    have q2 : sIx items.size items.size hi - sIx items.size 0 lo = items.size := eq_of_beq q.2
    exact hw ⟨by omega, by omega⟩
  show wpAny _ _ (if (((sIx items.size 0 lo : Nat) : Int) == 0 && (1 : Int) == 1 && (sIx items.size items.size hi - sIx items.size 0 lo) == items.size) = true then _ else _) _ _ s
  rw [if_neg hno, pick_gen]
  first
    | exact wpAny_bind (m := Builtin.Tuple.tupleExact _) (wpAny_newObj_type (wpAny_pure ⟨_, rfl, wpAny_pure h⟩) htake)
    | exact wpAny_bind (m := Builtin.Tuple.tupleExact _) (wpAny_newObj_type (wpAny_bind (wpAny_pure (wpAny_pure ⟨_, rfl, wpAny_pure h⟩))) htake)
    | exact wpAny_bind (wpAny_bind (m := Builtin.Tuple.tupleExact _) (wpAny_newObj_type (wpAny_pure (wpAny_pure ⟨_, rfl, wpAny_pure h⟩)) htake))
    | exact wpAny_bind (wpAny_bind (m := Builtin.Tuple.tupleExact _) (wpAny_newObj_type (wpAny_pure ⟨_, rfl, wpAny_pure h⟩) htake))
end
end HT

namespace L2
open PySem PySem.Spec PyProof.Rows

/-! ### the parts of a slice -/
abbrev TO := St → Hp → (Option Int → Hp → Prop) → Prop
/-- a slice's part (left out, or an int) -/
def PO (X : Cx) (e : Option Expr) (t : TO) : Prop :=
  ∀ (pins : List (Addr × Obj)) (s : Shared) (σ : St) (H : Hp) (Q : Option Int → Hp → Prop), Inv X pins σ H s → t σ H Q →
    wpAny (model X.prog X.w) X.A (evalPart e X.env) (fun u s' => ∃ o H', Inv X pins σ H' s' ∧ IsPart u o ∧ Q o H') X.xe s
def tNoPart : TO := fun _ H Q => Q none H
def tPart (t : TE) : TO := fun σ H Q => t σ H fun x H1 => ∃ i, x = .int i ∧ Q (some i) H1

theorem intsAre_of {ns : List Int} : ∀ {us : List Value}, Vals (ns.map V.int) us → IntsAre us ns := by
  induction ns with
  | nil => intro us r; rw [List.map_nil] at r; cases r; exact .nil
  | cons n ns ih =>
    intro us r
    rw [List.map_cons] at r
    cases r with
    | cons r1 r2 =>
      obtain ⟨t, e⟩ := r1
      subst e
      exact .cons n t (ih r2)

section
variable {X : Cx} {e : Expr} {te : TE} {lo hi : Option Expr} {tl th : TO} {pos p2 : Pos}

theorem po_none : PO X none tNoPart := by
  intro pins s σ H Q I h
  rw [evalPart_none]
  exact wpAny_pure ⟨none, H, I, .none, h⟩
theorem po_some (h : PE X e te) : PO X (some e) (tPart te) := by
  intro pins s σ H Q I hw
  rw [evalPart_some]
  refine thn (h pins s σ H _ I hw) fun u s1 ⟨x, H1, I1, r1, q1⟩ => ?_
  obtain ⟨i, rfl, q⟩ := q1
  obtain ⟨t, rfl⟩ := r1
  exact ⟨some i, H1, I1, .int i t, q⟩

/-- what a slice of a value is, by values: the slice object stands at sl -/
def SlR (X : Cx) (r : V → Option Int → Option Int → Hp → VK → Prop) : Prop :=
  ∀ (pins : List (Addr × Obj)) (s : Shared) (σ : St) (H : Hp) (x : V) (v vl vu : Value) (lo hi : Option Int) (sl : Addr) (Q : VK), Inv X pins σ H s → RelV x v → s.heap.IsSliceOf sl vl vu .none → IsPart vl lo → IsPart vu hi → r x lo hi H Q →
    ∃ T id, typeLookup (.type T) "__getitem__" = pure (some (.builtin id)) ∧ s.TypeIs v T ∧ wpAny (model X.prog X.w) X.A (getItem v (.ref sl)) (EP X pins σ Q) X.xe s
theorem SlR.or {r r' : V → Option Int → Option Int → Hp → VK → Prop} (h : SlR X r) (h' : SlR X r') : SlR X (fun x lo hi H Q => r x lo hi H Q ∨ r' x lo hi H Q) := by
  intro pins s σ H x v vl vu lo hi sl Q I rx hs pl pu q
  rcases q with q | q
  · exact h pins s σ H x v vl vu lo hi sl Q I rx hs pl pu q
  · exact h' pins s σ H x v vl vu lo hi sl Q I rx hs pl pu q
def tSl (r : V → Option Int → Option Int → Hp → VK → Prop) (te : TE) (tl th : TO) : TE := fun σ H Q => te σ H fun x H1 => tl σ H1 fun l H2 => th σ H2 fun u H3 => r x l u H3 Q
/-- a[lo:hi], any a -/
theorem pe_slice {r : V → Option Int → Option Int → Hp → VK → Prop} (hr : SlR X r) (he : PE X e te) (hl : PO X lo tl) (hu : PO X hi th) : PE X (.Subscript e (.Slice lo hi none p2) pos) (tSl r te tl th) := by
  intro pins s σ H Q I h
  refine Subscript_ (thn (he pins s σ H _ I h) fun v s1 ⟨x, H1, I1, r1, q1⟩ => ?_)
  refine wpAny_Slice (thn (hl pins s1 σ H1 _ I1 q1) fun vl s2 ⟨l, H2, I2, pl, q2⟩ => thn (hu pins s2 σ H2 _ I2 q2) fun vu s3 ⟨u, H3, I3, pu, q3⟩ => ?_)
  rw [evalPart_none]
  refine wpAny_pure ?_
  have I4 : Inv X pins σ H3 { s3 with heap := s3.heap.push { cls := .type "slice", data := .fields #[vl, vu, .none] } } := I3.kept (t' := s3.toks) fun b ob q => Heap.get?_push_of_some _ q
  obtain ⟨T, id, hT, ht, hg⟩ := hr pins { s3 with heap := s3.heap.push { cls := .type "slice", data := .fields #[vl, vu, .none] } } σ H3 x v vl vu l u s3.heap.objs.size Q I4 r1 (Heap.IsSliceOf.new ..) pl pu q3
  show wpAny (model X.prog X.w) X.A (subscriptTail e (.Slice lo hi none p2) v (.ref s3.heap.objs.size)) (EP X pins σ Q) X.xe { s3 with heap := s3.heap.push { cls := .type "slice", data := .fields #[vl, vu, .none] } }
  exact tail_any (ops := [.ref s3.heap.objs.size, v]) ht hT hg (by with_unfolding_all rfl)

/-- the items of xs[lo:hi] -/
def cutV (xs : List V) (lo hi : Option Int) : List V := (xs.drop (HT.sIx xs.length 0 lo)).take (HT.sIx xs.length xs.length hi - HT.sIx xs.length 0 lo)
theorem cutV_length (xs : List V) (lo hi : Option Int) : (cutV xs lo hi).length ≤ xs.length := by
  unfold cutV
  rw [List.length_take, List.length_drop]
  omega
/-- t[lo:hi], not the whole of it (the whole would be t itself) -/
def rSlT (K : PySem.W.Frag) : V → Option Int → Option Int → Hp → VK → Prop := fun x lo hi H Q => ∃ a xs, x = .ref a ∧ SqT K H a xs ∧
  ¬ (HT.sIx xs.length 0 lo = 0 ∧ HT.sIx xs.length xs.length hi = xs.length) ∧ ∀ p, H p = none → Q (.ref p) (upd H p (.tup (cutV xs lo hi)))
theorem sl_tup : SlR X (rSlT X.K) := by
  intro pins s σ H x v vl vu lo hi sl Q I rx hs pl pu h
  obtain ⟨a, xs, rfl, hx, hw, q⟩ := h
  cases rx
  obtain ⟨its, r, ht, hz⟩ := I.tuple hx
  have hlen : its.toArray.size = xs.length := by rw [List.size_toArray]; exact r.length.symm
  refine ⟨"tuple", _, PyProof.Rows.slot_tuple_getitem.lookup, ht.typeIs, ?_⟩
  refine HT.getItem_tuple_cut ht hs pl pu (by rw [hlen]; exact hw) ?_ (by rw [hlen]; exact hz)
  rw [hlen]
  refine ⟨.ref s.heap.objs.size, _, I.laid (t' := s.toks) (o := .tup (cutV xs lo hi)) (fun b ob q => Heap.get?_push_of_some _ q) (Nat.le_refl _) ?_, rfl, q _ (I.hok.fresh (Nat.le_refl _))⟩
  exact ⟨Nat.le_trans (cutV_length xs lo hi) hz, _, (r.drop (HT.sIx xs.length 0 lo)).take (HT.sIx xs.length xs.length hi - HT.sIx xs.length 0 lo), IsTup.new _ _⟩

/-! ### t < u, t + u -/
def rLtT (K : PySem.W.Frag) : R2 := fun x y H Q => ∃ a b ns ms, x = .ref a ∧ y = .ref b ∧ SqT K H a (ns.map V.int) ∧ SqT K H b (ms.map V.int) ∧ Q (.bl (HT.lexLt ns ms)) H
theorem op_ltT (hu : X.A.units < cLine) : OpR X (compareOp .Lt) (rLtT X.K) := by
  intro pins s σ H x y v u Q I rx ry h
  obtain ⟨a, b, ns, ms, rfl, rfl, ha, hb, q⟩ := h
  cases rx
  cases ry
  obtain ⟨its, r1, p1, _⟩ := I.tuple ha
  obtain ⟨its2, r2, p2, _⟩ := I.tuple hb
  have i1 : IntsAre its.toArray.toList ns := intsAre_of r1
  have i2 : IntsAre its2.toArray.toList ms := intsAre_of r2
  exact HT.lt_tupInts p1 p2 i1 i2 hu ⟨.bl (HT.lexLt ns ms), H, I, rfl, q⟩
/-- t + u, t not empty: u empty gives t itself -/
def rCatT (K : PySem.W.Frag) : R2 := fun x y H Q => ∃ a b xs ys, x = .ref a ∧ y = .ref b ∧ SqT K H a xs ∧ SqT K H b ys ∧ xs ≠ [] ∧ xs.length + ys.length ≤ sizeLine ∧
  (ys = [] → Q (.ref a) H) ∧ (ys ≠ [] → ∀ p, H p = none → Q (.ref p) (upd H p (.tup (xs ++ ys))))
theorem Vals.nil_iff {xs : List V} {us : List Value} (r : Vals xs us) : us = [] ↔ xs = [] := by
  cases r with
  | nil => simp
  | cons _ _ => simp
theorem op_catT : OpR X (binaryOp .Add) (rCatT X.K) := by
  intro pins s σ H x y v u Q I rx ry h
  obtain ⟨a, b, xs, ys, rfl, rfl, ha, hb, hx, hz, q1, q2⟩ := h
  cases rx
  cases ry
  obtain ⟨its, r1, p1, _⟩ := I.tuple ha
  obtain ⟨its2, r2, p2, _⟩ := I.tuple hb
  refine HT.cat_tup p1 p2 (fun z => hx (r1.nil_iff.mp z)) (fun z => ⟨.ref a, H, I, rfl, q1 (r2.nil_iff.mp z)⟩) (fun z => ?_) (by rw [← r1.length, ← r2.length]; exact hz)
  refine ⟨.ref s.heap.objs.size, _, I.laid (t' := s.toks) (o := .tup (xs ++ ys)) (fun b ob q => Heap.get?_push_of_some _ q) (Nat.le_refl _) ?_, rfl, q2 (fun w => z (r2.nil_iff.mpr w)) _ (I.hok.fresh (Nat.le_refl _))⟩
  exact ⟨by rw [List.length_append]; exact hz, _, r1.append r2, IsTup.new _ _⟩
/-- tuple(t) -/
theorem call_tupleT : CallR X (.type "tuple") (fun xs H Q => ∃ a ys, xs = [.ref a] ∧ SqT X.K H a ys ∧ Q (.ref a) H) := by
  intro pins s σ H xs us Q I r h
  obtain ⟨a, ys, rfl, ha, q⟩ := h
  obtain ⟨u, rfl, ru⟩ := vals1 r
  cases ru
  obtain ⟨its, _, p1, _⟩ := I.tuple ha
  exact call_tuple_same (items := its.toArray) p1 ⟨.ref a, H, I, rfl, q⟩
end
end L2

namespace L2
open PySem PySem.Spec PyProof.Rows

/-! ### places -/
/-- the place that an index of any sign means -/
def ixN (n : Nat) (i : Int) : Option Nat := if 0 ≤ i then (if i < n then some i.toNat else none) else if -(n : Int) ≤ i then some (i + n).toNat else none
def atI {α : Type} (xs : List α) (i : Int) : Option α := (ixN xs.length i).bind fun j => xs[j]?
theorem ixN_seq {n : Nat} {i : Int} {j : Nat} (h : ixN n i = some j) : seqIndex? i n = some j ∧ j < n ∧ -(n : Int) ≤ i ∧ i < n := by
  unfold ixN at h
  by_cases h0 : 0 ≤ i
  · rw [if_pos h0] at h
    by_cases h1 : i < n
    · rw [if_pos h1] at h
      have e : i.toNat = j := Option.some.inj h
      exact ⟨by rw [seqIndex_of h0 h1, e], by omega, by omega, h1⟩
    · rw [if_neg h1] at h; cases h
  · rw [if_neg h0] at h
    by_cases h1 : -(n : Int) ≤ i
    · rw [if_pos h1] at h
      have e : (i + n).toNat = j := Option.some.inj h
      exact ⟨by rw [seqIndex_neg (by omega) h1, e], by omega, h1, by omega⟩
    · rw [if_neg h1] at h; cases h
theorem atI_get {α : Type} {xs : List α} {i : Int} {v : α} (h : atI xs i = some v) : ∃ j, seqIndex? i xs.length = some j ∧ xs[j]? = some v ∧ j < xs.length ∧ -(xs.length : Int) ≤ i ∧ i < xs.length := by
  unfold atI at h
  cases e : ixN xs.length i with
  | none => rw [e] at h; cases h
  | some j =>
    rw [e] at h
    obtain ⟨h1, h2, h3, h4⟩ := ixN_seq e
    exact ⟨j, h1, h, h2, h3, h4⟩
theorem atI_nat {α : Type} {xs : List α} {j : Nat} {v : α} (h : xs[j]? = some v) : atI xs (j : Int) = some v := by
  have hj : j < xs.length := (List.getElem?_eq_some_iff.mp h).1
  have e : ixN xs.length (j : Int) = some j := by
    unfold ixN
    rw [if_pos (by omega), if_pos (by omega)]; simp
  unfold atI; rw [e]; exact h
theorem atI_last {α : Type} (xs : List α) (v : α) : atI (xs ++ [v]) (-1) = some v := by
  have hl : (xs ++ [v]).length = xs.length + 1 := by simp
  have e : ixN (xs ++ [v]).length (-1) = some xs.length := by
    unfold ixN
    rw [hl, if_neg (by decide), if_pos (by omega)]
    congr 1
    omega
  unfold atI
  rw [e]
  show (xs ++ [v])[xs.length]? = some v
  simp

/-! ### what may be subscripted -/
/-- what stands as an index of a plain subscript -/
def PlainIx (b : Expr) : Prop := ∀ o i, subscripted b false o i = operate [o, i] (getItem o i)
/-- a subscript by values -/
def IxR (X : Cx) (r : R2) : Prop :=
  ∀ (value slice : Expr) (pins : List (Addr × Obj)) (s : Shared) (σ : St) (H : Hp) (x y : V) (v u : Value) (Q : VK), Inv X pins σ H s → RelV x v → RelV y u → r x y H Q →
    subscripted slice false v u = operate [v, u] (getItem v u) → wpAny (model X.prog X.w) X.A (subscriptTail value slice v u) (EP X pins σ Q) X.xe s
/-- a call of a builtin's method by values: the receiver, the arguments -/
def MtR (X : Cx) (id : String) (r : V → List V → Hp → VK → Prop) : Prop :=
  ∀ (pins : List (Addr × Obj)) (s : Shared) (σ : St) (H : Hp) (x : V) (xs : List V) (v : Value) (us : List Value) (Q : VK), Inv X pins σ H s → RelV x v → Vals xs us → r x xs H Q →
    wpAny (model X.prog X.w) X.A (call (.builtin id) (v :: us)) (EP X pins σ Q) X.xe s
section
variable {X : Cx} {a b : Expr} {ta tb : TE} {pos : Pos}
theorem IxR.or {r r' : R2} (h : IxR X r) (h' : IxR X r') : IxR X (fun x y H Q => r x y H Q ∨ r' x y H Q) := by
  intro value slice pins s σ H x y v u Q I rx ry q hs
  rcases q with q | q
  · exact h value slice pins s σ H x y v u Q I rx ry q hs
  · exact h' value slice pins s σ H x y v u Q I rx ry q hs
theorem MtR.or {id : String} {r r' : V → List V → Hp → VK → Prop} (h : MtR X id r) (h' : MtR X id r') : MtR X id (fun x xs H Q => r x xs H Q ∨ r' x xs H Q) := by
  intro pins s σ H x xs v us Q I rx rs q
  rcases q with q | q
  · exact h pins s σ H x xs v us Q I rx rs q
  · exact h' pins s σ H x xs v us Q I rx rs q
/-- a[b] -/
theorem pe_ix {r : R2} (hr : IxR X r) (ha : PE X a ta) (hb : PE X b tb) (hs : PlainIx b) : PE X (.Subscript a b pos) (tOp r ta tb) := by
  intro pins s σ H Q I h
  exact Subscript_ (binT ha hb I h fun v u s2 x y H2 I2 rx ry q => hr a b pins s2 σ H2 x y v u Q I2 rx ry q (hs _ _))

def rIxL (K : PySem.W.Frag) : R2 := fun x y H Q => ∃ p xs i v, x = .ref p ∧ y = .int i ∧ SqL K H p xs ∧ atI xs i = some v ∧ Q v H
def rIxT (K : PySem.W.Frag) : R2 := fun x y H Q => ∃ p xs i v, x = .ref p ∧ y = .int i ∧ SqT K H p xs ∧ atI xs i = some v ∧ Q v H
def rIxS : R2 := fun x y H Q => ∃ z i c, x = .str z ∧ y = .int i ∧ z.length ≤ sizeLine ∧ atI z.cps.toList i = some c ∧ Q (.str ⟨#[c]⟩) H
theorem ix_list : IxR X (rIxL X.K) := by
  intro value slice pins s σ H x y v u Q I rx ry h hs
  obtain ⟨p, xs, i, z, rfl, rfl, hq, he, q⟩ := h
  cases rx
  obtain ⟨t, rfl⟩ := ry
  obtain ⟨its, r, pl, hz⟩ := I.list hq
  obtain ⟨j, h1, h2, h3, h4, h5⟩ := atI_get he
  obtain ⟨w, ew, rw'⟩ := r.get h2
  have hl := r.length
  have hn := line63
  have fin : EP X pins σ Q w s := ⟨z, H, I, rw', q⟩
  by_cases h0 : 0 ≤ i
  · have hj : i.toNat = j := by
      rw [seqIndex_of h0 h5] at h1
      exact Option.some.inj h1
    exact item_listR pl.isList h0 (by omega) (by rw [hj]; simpa using ew) fin hs
  · have hj : (i + (its.toArray.size : Int)).toNat = j := by
      rw [seqIndex_neg (by omega) h4] at h1
      rw [List.size_toArray, ← hl]
      exact Option.some.inj h1
    exact subscriptTail_builtinR (x := w) pl.isList.typeIs slot_list_getitem.lookup
      (wpAny_getItem_list_neg (Q := fun r s' => r = w ∧ EP X pins σ Q r s') pl.isList (by omega) (by rw [List.size_toArray] <;> omega) (by omega) (by rw [hj]; simpa using ew) ⟨rfl, fin⟩) hs
theorem ix_tup : IxR X (rIxT X.K) := by
  intro value slice pins s σ H x y v u Q I rx ry h hs
  obtain ⟨p, xs, i, z, rfl, rfl, hq, he, q⟩ := h
  cases rx
  obtain ⟨t, rfl⟩ := ry
  obtain ⟨its, r, pl, hz⟩ := I.tuple hq
  obtain ⟨j, h1, h2, h3, h4, h5⟩ := atI_get he
  obtain ⟨w, ew, rw'⟩ := r.get h2
  have hl := r.length
  have hn := line63
  have fin : EP X pins σ Q w s := ⟨z, H, I, rw', q⟩
  exact subscriptTail_builtinR (x := w) pl.typeIs slot_tuple_getitem.lookup
    (getItem_tuple (j := j) (Q := fun r s' => r = w ∧ EP X pins σ Q r s') pl (by omega) (by omega) (by rw [List.size_toArray, ← hl]; exact h1) (by simpa using ew) ⟨rfl, fin⟩) hs
theorem ix_str : IxR X rIxS := by
  intro value slice pins s σ H x y v u Q I rx ry h hs
  obtain ⟨z, i, c, rfl, rfl, hz, he, q⟩ := h
  obtain ⟨t, rfl⟩ := rx
  obtain ⟨t', rfl⟩ := ry
  obtain ⟨j, h1, h2, h3, h4, h5⟩ := atI_get he
  have hl : z.cps.toList.length = z.length := by simp [Str.length]
  rw [hl] at h1 h4 h5
  have hn := line63
  exact tail_any (typeIs_str s z t) slot_str_getitem.lookup (getItem_str (c := c) (by
    have e1 : decide (i < -(2 ^ 63 : Int)) = false := decide_eq_false (by omega)
    have e2 : decide (i ≥ 2 ^ 63) = false := decide_eq_false (by omega)
    rw [e1, e2, Bool.or_false]) (by rw [h1]; simpa using h2) ⟨.str ⟨#[c]⟩, H, I.tok _, ⟨_, rfl⟩, q⟩) hs
/-- list, tuple or str -/
def rIx (K : PySem.W.Frag) : R2 := fun x y H Q => rIxL K x y H Q ∨ rIxT K x y H Q ∨ rIxS x y H Q
theorem ix_seq : IxR X (rIx X.K) := ix_list.or (ix_tup.or ix_str)

/-! ### xs[i] = v, any sign -/
/-- the list's object behind a store -/
theorem mapSeq_set (its : List Value) (n j : Nat) (u : Value) : Obj.mapSeq (·.setIfInBounds j u) { cls := .type "list", data := .seq its.toArray n } = { cls := .type "list", data := .seq (its.set j u).toArray n } := by
  simp [Obj.mapSeq]
theorem Inv.lst {pins : List (Addr × Obj)} {σ : St} {H : Hp} {s : Shared} {p : Addr} {xs : List V} (I : Inv X pins σ H s) (h : H p = some (.lst xs)) :
    ∃ (its : List Value) (n : Nat), Vals xs its ∧ s.heap.get? p = some { cls := .type "list", data := .seq its.toArray n } ∧ xs.length ≤ sizeLine := by
  obtain ⟨z, its, n, r, e⟩ := I.hok p _ h
  exact ⟨its, n, r, e, z⟩
/-- the list at p is written by an update of its object -/
theorem Inv.lstUpd {pins : List (Addr × Obj)} {σ : St} {H : Hp} {s : Shared} {p : Addr} {xs ys : List V} {its its' : List Value} {n n' : Nat} {f : Obj → Obj} (I : Inv X pins σ H s) (h : H p = some (.lst xs))
    (ho : s.heap.get? p = some { cls := .type "list", data := .seq its.toArray n }) (hf : f { cls := .type "list", data := .seq its.toArray n } = { cls := .type "list", data := .seq its'.toArray n' }) (r : Vals ys its') (hz : ys.length ≤ sizeLine) (t : Nat) :
    Inv X pins σ (upd H p (.lst ys)) { s with heap := s.heap.update p f, toks := t } := by
  have e : (s.heap.update p f).get? p = some { cls := .type "list", data := .seq its'.toArray n' } := by
    rw [Heap.get?_update_self f ho (by rw [hf] <;> rfl), hf]
  refine I.write (x := p) (e := p) (by rw [h]; trivial) (.inl rfl) (fun b u hb q => (Heap.get?_update_other _ _ (Ne.symm hb)).trans q) ⟨_, e⟩ ?_
  exact ⟨hz, its', n', r, e⟩
def rSetL : V → V → V → Hp → (Hp → Prop) → Prop := fun o i v H Q => ∃ p xs k j, o = .ref p ∧ i = .int k ∧ H p = some (.lst xs) ∧ ixN xs.length k = some j ∧ Q (upd H p (.lst (xs.set j v)))
theorem set_list : PSet X rSetL := by
  intro pins s σ H o i v ov iv u Q I ro ri rv h
  obtain ⟨p, xs, k, j, rfl, rfl, hp, hj, q⟩ := h
  cases ro
  obtain ⟨t, rfl⟩ := ri
  obtain ⟨its, n, r, ho, hz⟩ := I.lst hp
  obtain ⟨h1, h2, h3, h4⟩ := ixN_seq hj
  have hl := r.length
  have hn := line63
  have I' : Inv X pins σ (upd H p (.lst (xs.set j v))) { s with heap := s.heap.update p (Obj.mapSeq (·.setIfInBounds j u)) } :=
    I.lstUpd hp ho (mapSeq_set its n j u) (r.set rv j) (by rw [List.length_set]; exact hz) s.toks
  by_cases h0 : 0 ≤ k
  · have hk : k.toNat = j := by
      rw [seqIndex_of h0 h4] at h1
      exact Option.some.inj h1
    exact PySem.W.ki_setAt ho h0 (by omega) (by rw [List.size_toArray, ← hl]; exact h4) (by rw [hk]; exact ⟨_, I', q⟩)
  · have hk : (k + (its.toArray.size : Int)).toNat = j := by
      rw [seqIndex_neg (by omega) h3] at h1
      rw [List.size_toArray, ← hl]
      exact Option.some.inj h1
    exact PySem.W.ki_setBack ho (by omega) (by rw [List.size_toArray, ← hl]; exact h3) (by omega) (by rw [hk]; exact ⟨_, I', q⟩)

/-! ### slices -/
theorem slice_bounds (lo hi : Option Int) (n : Nat) : (sliceBounds lo hi none n).1 = ((HT.sIx n 0 lo : Nat) : Int) ∧ (sliceBounds lo hi none n).2.1 = ((HT.sIx n n hi : Nat) : Int) ∧ (sliceBounds lo hi none n).2.2 = 1 := by
  refine ⟨?_, ?_, rfl⟩
  · cases lo with
    | none => simp [sliceBounds, HT.sIx]
    | some i =>
      simp only [sliceBounds, HT.sIx, Option.getD_none, show (1 : Int) > 0 by decide, if_true]
      by_cases h : i < 0
      · simp only [h, if_true] <;> omega
      · simp only [h, if_false] <;> omega
  · cases hi with
    | none => simp [sliceBounds, HT.sIx]
    | some i =>
      simp only [sliceBounds, HT.sIx, Option.getD_none, show (1 : Int) > 0 by decide, if_true]
      by_cases h : i < 0
      · simp only [h, if_true] <;> omega
      · simp only [h, if_false] <;> omega
theorem slicePick_cut (its : List Value) (lo hi : Option Int) : slicePick its.toArray lo hi none = ((its.drop (HT.sIx its.length 0 lo)).take (HT.sIx its.length its.length hi - HT.sIx its.length 0 lo)).toArray := by
  obtain ⟨h1, h2, h3⟩ := slice_bounds lo hi its.toArray.size
  unfold slicePick
  rw [h1, h2, h3]
  simp only [sliceRange_one, pick_run, List.size_toArray] <;> rfl
/-- xs[lo:hi] of a list: a new list -/
def rSlL (K : PySem.W.Frag) : V → Option Int → Option Int → Hp → VK → Prop := fun x lo hi H Q => ∃ a xs, x = .ref a ∧ SqL K H a xs ∧ ∀ p, H p = none → Q (.ref p) (upd H p (.lst (cutV xs lo hi)))
theorem sl_list : SlR X (rSlL X.K) := by
  intro pins s σ H x v vl vu lo hi sl Q I rx hs pl pu h
  obtain ⟨a, xs, rfl, hx, q⟩ := h
  cases rx
  obtain ⟨its, r, ht, hz⟩ := I.list hx
  have hlen := r.length
  refine ⟨"list", _, slot_list_getitem.lookup, ht.isList.typeIs, ?_⟩
  refine wpAny_getItem_list_slice ht.isList hs pl pu .none (by simp) ?_ (by rw [List.size_toArray] <;> omega)
  rw [slicePick_cut, ← hlen]
  refine ⟨.ref s.heap.objs.size, _, I.laid (t' := s.toks) (o := .lst (cutV xs lo hi)) (fun b ob q => Heap.get?_push_of_some _ q) (Nat.le_refl _) ?_, rfl, q _ (I.hok.fresh (Nat.le_refl _))⟩
  exact ⟨Nat.le_trans (cutV_length xs lo hi) hz, _, 0, (r.drop (HT.sIx xs.length 0 lo)).take (HT.sIx xs.length xs.length hi - HT.sIx xs.length 0 lo), Heap.get?_push_size _ rfl⟩

/-! ### in, not in: flat items -/
def flatV : V → Bool
  | .non => true
  | .bl _ => true
  | .int _ => true
  | .str _ => true
  | _ => false
/-- == of flat values -/
def eqV : V → V → Bool
  | .non, .non => true
  | .bl a, .bl b => a == b
  | .bl a, .int b => (if a then 1 else 0) == b
  | .int a, .bl b => a == (if b then 1 else 0)
  | .int a, .int b => a == b
  | .str a, .str b => a == b
  | _, _ => false
theorem eqAt_V {A : Around} {s : Shared} {y x : V} {u v : Value} (ry : RelV y u) (rx : RelV x v) (fy : flatV y = true) (fx : flatV x = true) : SeqAt.EqAt A s u v (eqV y x) := by
  cases y with
  | non =>
    cases ry
    cases x with
    | non => cases rx; exact SeqAt.EqAt.same _
    | bl b => cases rx; exact SeqAt.EqAt.none_bool b
    | int b => obtain ⟨t, rfl⟩ := rx; exact SeqAt.EqAt.none_int b t
    | str b => obtain ⟨t, rfl⟩ := rx; exact SeqAt.EqAt.none_str b t
    | _ => exact absurd (show false = true from fx) Bool.false_ne_true
  | bl a =>
    cases ry
    cases x with
    | non => cases rx; exact SeqAt.EqAt.bool_none a
    | bl b => cases rx; exact SeqAt.EqAt.bool_bool a b
    | int b => obtain ⟨t, rfl⟩ := rx; exact SeqAt.EqAt.bool_int a b t
    | str b => obtain ⟨t, rfl⟩ := rx; exact SeqAt.EqAt.bool_str a b t
    | _ => exact absurd (show false = true from fx) Bool.false_ne_true
  | int a =>
    obtain ⟨t', rfl⟩ := ry
    cases x with
    | non => cases rx; exact SeqAt.EqAt.int_none a t'
    | bl b => cases rx; exact SeqAt.EqAt.int_bool a t' b
    | int b => obtain ⟨t, rfl⟩ := rx; exact SeqAt.EqAt.int_int a t' b t
    | str b => obtain ⟨t, rfl⟩ := rx; exact SeqAt.EqAt.int_str a t' b t
    | _ => exact absurd (show false = true from fx) Bool.false_ne_true
  | str a =>
    obtain ⟨t', rfl⟩ := ry
    cases x with
    | non => cases rx; exact SeqAt.EqAt.str_none a t'
    | bl b => cases rx; exact SeqAt.EqAt.str_bool a t' b
    | int b => obtain ⟨t, rfl⟩ := rx; exact SeqAt.EqAt.str_int a t' b t
    | str b => obtain ⟨t, rfl⟩ := rx; exact SeqAt.EqAt.str_str a t' b t
    | _ => exact absurd (show false = true from fx) Bool.false_ne_true
  | _ => exact absurd (show false = true from fy) Bool.false_ne_true
/-- the items' answers, read off the values (a value's own answer does not lean on its token) -/
def eqU (x : V) (u : Value) : Bool := match u with
  | .none => eqV .non x
  | .bool b => eqV (.bl b) x
  | .int i _ => eqV (.int i) x
  | .str z _ => eqV (.str z) x
  | _ => false
theorem eqU_of {x y : V} {u : Value} (r : RelV y u) (f : flatV y = true) : eqU x u = eqV y x := by
  cases y with
  | non => cases r; rfl
  | bl b => cases r; rfl
  | int i => obtain ⟨t, rfl⟩ := r; rfl
  | str z => obtain ⟨t, rfl⟩ := r; rfl
  | _ => exact absurd (show false = true from f) Bool.false_ne_true
theorem any_eqU {x : V} : ∀ {xs : List V} {us : List Value}, Vals xs us → xs.all flatV = true → us.any (eqU x) = xs.any fun y => eqV y x
  | _, _, .nil, _ => rfl
  | y :: xs, u :: us, .cons r t, f => by
    rw [List.all_cons, Bool.and_eq_true] at f
    rw [List.any_cons, List.any_cons, eqU_of r f.1, any_eqU t f.2]
theorem mem_eqAt {A : Around} {s : Shared} {x : V} {v : Value} (rx : RelV x v) (fx : flatV x = true) : ∀ {xs : List V} {us : List Value}, Vals xs us → xs.all flatV = true → ∀ u ∈ us, SeqAt.EqAt A s u v (eqU x u)
  | _, _, .nil, _ => fun u hu => by cases hu
  | y :: xs, u :: us, .cons r t, f => fun u' hu => by
    rw [List.all_cons, Bool.and_eq_true] at f
    rcases List.mem_cons.mp hu with rfl | hu
    · rw [eqU_of r f.1]; exact eqAt_V r rx f.1 fx
    · exact mem_eqAt rx fx t f.2 u' hu
def inV (x : V) (xs : List V) : Bool := xs.any fun y => eqV y x
/-- x in a list or tuple of flat items -/
def rIn (K : PySem.W.Frag) (neg : Bool) : R2 := fun x y H Q => ∃ p xs, y = .ref p ∧ (SqL K H p xs ∨ SqT K H p xs) ∧ flatV x = true ∧ xs.all flatV = true ∧ Q (.bl (if neg then !inV x xs else inV x xs)) H
theorem op_in_seq : OpR X (compareOp .In) (rIn X.K false) := by
  intro pins s σ H x y v u Q I rx ry h
  obtain ⟨p, xs, rfl, hq, fx, fs, q⟩ := h
  cases ry
  rcases hq with hq | hq
  · obtain ⟨its, r, pl, hz⟩ := I.list hq
    refine SeqAt.in_listAt (eqU x) pl.isList (fun w hw => mem_eqAt rx fx r fs w (by simpa using hw)) ⟨.bl _, H, I, rfl, ?_⟩
    rw [show its.toArray.any (eqU x) = its.any (eqU x) by simp, any_eqU r fs]
    exact q
  · obtain ⟨its, r, pl, hz⟩ := I.tuple hq
    refine SeqAt.in_tupleAt (eqU x) pl (fun w hw => mem_eqAt rx fx r fs w (by simpa using hw)) ⟨.bl _, H, I, rfl, ?_⟩
    rw [show its.toArray.any (eqU x) = its.any (eqU x) by simp, any_eqU r fs]
    exact q
theorem op_notIn_seq : OpR X (compareOp .NotIn) (rIn X.K true) := by
  intro pins s σ H x y v u Q I rx ry h
  obtain ⟨p, xs, rfl, hq, fx, fs, q⟩ := h
  cases ry
  rcases hq with hq | hq
  · obtain ⟨its, r, pl, hz⟩ := I.list hq
    refine SeqAt.notIn_listAt (eqU x) pl.isList (fun w hw => mem_eqAt rx fx r fs w (by simpa using hw)) ⟨.bl _, H, I, rfl, ?_⟩
    rw [show its.toArray.any (eqU x) = its.any (eqU x) by simp, any_eqU r fs]
    exact q
  · obtain ⟨its, r, pl, hz⟩ := I.tuple hq
    refine SeqAt.notIn_tupleAt (eqU x) pl (fun w hw => mem_eqAt rx fx r fs w (by simpa using hw)) ⟨.bl _, H, I, rfl, ?_⟩
    rw [show its.toArray.any (eqU x) = its.any (eqU x) by simp, any_eqU r fs]
    exact q
theorem op_notIn_str : OpR X (compareOp .NotIn) (fun x y H Q => ∃ i j, x = .str i ∧ y = .str j ∧ Q (.bl (!(!(Builtin.Str.occurrences j i 0 j.length 1).isEmpty))) H) := by
  intro pins s σ H x y v u Q I rx ry h
  obtain ⟨i, j, rfl, rfl, q⟩ := h
  obtain ⟨t, rfl⟩ := rx
  obtain ⟨t', rfl⟩ := ry
  exact notIn_str ⟨.bl _, H, I, rfl, q⟩

/-! ### len, list(x), tuple(x) of any list or tuple that is read -/
theorem call_len_seq : CallR X (.builtin "len") (fun xs H Q => ∃ p ys, xs = [.ref p] ∧ (SqL X.K H p ys ∨ SqT X.K H p ys) ∧ Q (.int ys.length) H) := by
  intro pins s σ H xs us Q I r h
  obtain ⟨p, ys, rfl, hq, q⟩ := h
  obtain ⟨u, rfl, rx⟩ := vals1 r
  cases rx
  have hn := line63
  rcases hq with hq | hq
  · obtain ⟨its, r', pl, hz⟩ := I.list hq
    have hlen := r'.length
    exact Calls.call_len_list pl.isList (by simp only [List.size_toArray] <;> omega) ⟨.int ys.length, H, I.tok _, ⟨s.toks + 1, by rw [List.size_toArray, hlen]⟩, q⟩
  · obtain ⟨its, r', pl, hz⟩ := I.tuple hq
    have hlen := r'.length
    exact len_tuple pl (by simp only [List.size_toArray] <;> omega) ⟨.int ys.length, H, I.tok _, ⟨s.toks + 1, by rw [List.size_toArray, hlen]⟩, q⟩
theorem call_len_str : CallR X (.builtin "len") (fun xs H Q => ∃ z, xs = [.str z] ∧ z.length ≤ sizeLine ∧ Q (.int z.length) H) := by
  intro pins s σ H xs us Q I r h
  obtain ⟨z, rfl, hz, q⟩ := h
  obtain ⟨u, rfl, t, rfl⟩ := vals1 r
  have hn := line63
  exact len_str (by omega) ⟨.int z.length, H, I.tok _, ⟨_, rfl⟩, q⟩
theorem CallR.or {f : Value} {r r' : List V → Hp → VK → Prop} (h : CallR X f r) (h' : CallR X f r') : CallR X f (fun xs H Q => r xs H Q ∨ r' xs H Q) := by
  intro pins s σ H xs us Q I rs q
  rcases q with q | q
  · exact h pins s σ H xs us Q I rs q
  · exact h' pins s σ H xs us Q I rs q
theorem call_list_of : CallR X (.type "list") (fun xs H Q => ∃ p ys, xs = [.ref p] ∧ (SqL X.K H p ys ∨ SqT X.K H p ys) ∧ ∀ l, H l = none → Q (.ref l) (upd H l (.lst ys))) := by
  intro pins s σ H xs us Q I r h
  obtain ⟨p, ys, rfl, hq, q⟩ := h
  obtain ⟨u, rfl, rx⟩ := vals1 r
  cases rx
  have fin : ∀ (its : List Value), Vals ys its → ys.length ≤ sizeLine → ∀ (h' : Heap) (c' : Nat), (∀ b o', s.heap.get? b = some o' → h'.get? b = some o') →
      h'.get? s.heap.objs.size = some { cls := .type "list", dict := none, data := .seq its.toArray c', slots := #[] } → EP X pins σ Q (.ref s.heap.objs.size) { s with heap := h' } := fun its r' hz h' c' kp e =>
    ⟨.ref s.heap.objs.size, _, I.laid (t' := s.toks) kp (Nat.le_refl _) (show ObjOk X.prog X.w _ h' _ (.lst ys) from ⟨hz, its, c', r', e⟩), rfl, q _ (I.hok.fresh (Nat.le_refl _))⟩
  rcases hq with hq | hq
  · obtain ⟨its, r', pl, hz⟩ := I.list hq
    have hlen := r'.length
    obtain ⟨o, ho, hc, n, hd⟩ := pl.isList
    exact call_list_seq p (.inl rfl) ho hc hd (fun h' c' kp e => fin its r' hz h' c' kp e) (by simp only [List.size_toArray] <;> omega)
  · obtain ⟨its, r', pl, hz⟩ := I.tuple hq
    have hlen := r'.length
    obtain ⟨o, ho, hc, n, hd⟩ := pl
    exact call_list_seq p (.inr rfl) ho hc hd (fun h' c' kp e => fin its r' hz h' c' kp e) (by simp only [List.size_toArray] <;> omega)
theorem call_tuple_of : CallR X (.type "tuple") (fun xs H Q => ∃ p ys, xs = [.ref p] ∧ ((SqL X.K H p ys ∧ ∀ l, H l = none → Q (.ref l) (upd H l (.tup ys))) ∨ (SqT X.K H p ys ∧ Q (.ref p) H))) := by
  intro pins s σ H xs us Q I r h
  obtain ⟨p, ys, rfl, h⟩ := h
  obtain ⟨u, rfl, rx⟩ := vals1 r
  cases rx
  rcases h with ⟨hq, q⟩ | ⟨hq, q⟩
  · obtain ⟨its, r', pl, hz⟩ := I.list hq
    have hlen := r'.length
    refine call_tuple_list pl.isList (fun h' kp => ?_) (by simp only [List.size_toArray] <;> omega)
    have I1 : Inv X pins σ H { s with heap := h' } := I.kept (t' := s.toks) kp
    have I2 : Inv X pins σ (upd H h'.objs.size (.tup ys)) { s with heap := h'.push { cls := .type "tuple", data := .seq its.toArray } } :=
      I1.laid (t' := s.toks) (fun b o e => Heap.get?_push_of_some _ e) (Nat.le_refl _) (show ObjOk X.prog X.w _ _ _ (.tup ys) from ⟨hz, its, r', IsTup.new _ _⟩)
    exact ⟨.ref h'.objs.size, _, I2, rfl, q _ (I1.hok.fresh (Nat.le_refl _))⟩
  · obtain ⟨its, r', pl, hz⟩ := I.tuple hq
    exact call_tuple_same pl ⟨.ref p, H, I, rfl, q⟩

/-! ### the call of a builtin's method: o.m(..) -/
/-- the value is of that builtin type -/
def tyV (K : PySem.W.Frag) (T : String) (x : V) (H : Hp) : Prop := match x with
  | .str _ => T = "str"
  | .int _ => T = "int"
  | .ref p => (T = "list" ∧ ∃ xs, SqL K H p xs) ∨ (T = "tuple" ∧ ∃ o, K.lookup p = some o ∧ o.cls = .type "tuple" ∧ o.dict = none) ∨
      (T = "dict" ∧ ((∃ kvs, H p = some (.dK kvs)) ∨ ∃ kvs, H p = some (.dT kvs))) ∨ (T = "set" ∧ ∃ S n, H p = some (.set S n))
  | _ => False
theorem tyV_is {pins : List (Addr × Obj)} {σ : St} {H : Hp} {s : Shared} {T : String} {x : V} {v : Value} (I : Inv X pins σ H s) (r : RelV x v) (ty : tyV X.K T x H) :
    s.TypeIs v T ∧ ∀ a, v = .ref a → ∃ ob, s.heap.get? a = some ob ∧ ob.dict = none := by
  cases x with
  | str z =>
    obtain ⟨t, rfl⟩ := r
    cases (show T = "str" from ty)
    exact ⟨typeIs_str s z t, fun _ e => nomatch e⟩
  | int i =>
    obtain ⟨t, rfl⟩ := r
    cases (show T = "int" from ty)
    exact ⟨typeIs_int s i t, fun _ e => nomatch e⟩
  | ref p =>
    cases r
    rcases ty with ⟨rfl, xs, hq⟩ | ⟨rfl, o, hk, hc, hd⟩ | ⟨rfl, hk⟩ | ⟨rfl, S, n, hk⟩
    · obtain ⟨its, _, pl, _⟩ := I.list hq
      refine ⟨pl.isList.typeIs, fun a e => ?_⟩
      cases e
      obtain ⟨o, n, e, c, hd, _⟩ := pl
      exact ⟨o, e, hd⟩
    · refine ⟨⟨o, I.kIn p o hk, hc⟩, fun a e => ?_⟩
      cases e
      exact ⟨o, I.kIn _ o hk, hd⟩
    · have z : ∃ o, s.heap.get? p = some o ∧ o.ExactDict := by
        rcases hk with ⟨kvs, hk⟩ | ⟨kvs, hk⟩
        · obtain ⟨_, _, _, _, o, _, _, e, ex, _⟩ := I.hok p _ hk
          exact ⟨o, e, ex⟩
        · obtain ⟨_, _, _, _, o, _, _, e, ex, _⟩ := I.hok p _ hk
          exact ⟨o, e, ex⟩
      obtain ⟨o, e, ex⟩ := z
      refine ⟨⟨o, e, ex.1⟩, fun a e2 => ?_⟩
      cases e2
      exact ⟨o, e, ex.2.1⟩
    · obtain ⟨o, _, _, _, e, ex, _⟩ := I.hok p _ hk
      refine ⟨⟨o, e, ex.1⟩, fun a e2 => ?_⟩
      cases e2
      exact ⟨o, e, ex.2.1⟩
  | _ => exact False.elim ty
def tBM0 (K : PySem.W.Frag) (T : String) (r : V → List V → Hp → VK → Prop) (to : TE) : TE := fun σ H Q => to σ H fun x H1 => tyV K T x H1 ∧ r x [] H1 Q
def tBM (K : PySem.W.Frag) (T : String) (r : V → List V → Hp → VK → Prop) (to : TE) (t : TA) : TE := fun σ H Q => to σ H fun x H1 => tyV K T x H1 ∧ t σ H1 fun xs H2 => r x xs H2 Q
variable {o e : Expr} {es : List Expr} {to : TE} {t : TA} {name : Str} {apos cpos : Pos} {T id : String} {r : V → List V → Hp → VK → Prop}
theorem pe_bm0 (pa : PlainAttrs T) (slot : Slot T name id) (hty : typeOf (.builtin id) = pure (.type "method_descriptor")) (hm : MtR X id r) (ho : PE X o to)
    (hbase : attributeBase o name X.env (eval o X.env) = eval o X.env := by rfl) (hline : (apos.endLine == cpos.line) = true := by rfl) : PE X (.Call (.Attribute o name apos) [] [] cpos) (tBM0 X.K T r to) := by
  intro pins s σ H Q I h
  refine wpAny_Call_method0_late hbase hline (thn (ho pins s σ H _ I h) fun v s1 ⟨x, H1, I1, r1, ty, q1⟩ => ?_)
  obtain ⟨h1, h2⟩ := tyV_is I1 r1 ty
  exact ⟨T, id, pa, slot, hty, h1, h2, Calls.callWith_builtin rfl (PySem.evalArgs_none (hm pins s1 σ H1 x [] v [] Q I1 r1 .nil q1))⟩
theorem pe_bm (pa : PlainAttrs T) (slot : Slot T name id) (hty : typeOf (.builtin id) = pure (.type "method_descriptor")) (hm : MtR X id r) (ho : PE X o to) (ha : PA X (e :: es) t)
    (hbase : attributeBase o name X.env (eval o X.env) = eval o X.env := by rfl)
    (hfew : ((backTo cpos (starEach (e :: es) X.env)).all (fun x => !x.1) && (backToKw cpos (keywordEach [] X.env)).all (fun x => x.1.isSome)
      && decide ((e :: es).length + ([] : List Keyword).length + (if ([] : List Keyword).isEmpty then 0 else 1) < 30)) = true := by rfl)
    (hline : (apos.endLine == cpos.line) = true := by rfl) (hs : starEach (e :: es) X.env = (false, eval e X.env) :: starEach es X.env := by rfl) (hplain : (backTo cpos (starEach es X.env)).any (·.1) = false := by rfl) :
    PE X (.Call (.Attribute o name apos) (e :: es) [] cpos) (tBM X.K T r to t) := by
  intro pins s σ H Q I h
  refine wpAny_Call_method_late hbase hfew hline rfl (thn (ho pins s σ H _ I h) fun v s1 ⟨x, H1, I1, r1, ty, q1⟩ => ?_)
  obtain ⟨h1, h2⟩ := tyV_is I1 r1 ty
  refine ⟨T, id, pa, slot, hty, h1, h2, ?_⟩
  have hA := ha cpos pins s1 σ H1 _ I1 q1
  rw [hs] at hA ⊢
  refine Calls.callWith_builtin (by show (false || (backTo cpos (starEach es X.env)).any (·.1)) = false; rw [hplain] <;> rfl) (Calls.evalArgs_plain ?_)
  exact thn hA fun us s2 ⟨vs, H2, I2, r2, q2⟩ => hm pins s2 σ H2 x vs v us Q I2 r1 r2 q2
/- xs.append(e), list.index on a module's tuple .. are MtR facts of 06m -/
end
end L2

namespace L2
open PySem PySem.Spec PyProof.Rows

def MtM (X : Cx) (id : String) (r : V → List V → Hp → VK → Prop) : Prop :=
  ∀ (pins : List (Addr × Obj)) (s : Shared) (σ : St) (H : Hp) (x : V) (xs : List V) (v : Value) (us : List Value) (Q : VK), Inv X pins σ H s → RelV x v → Vals xs us → r x xs H Q →
    wpAny (model X.prog X.w) X.A (call (.builtin id) (v :: us)) (EP X pins σ Q) X.xe s

/-! ### lists of values -/
theorem Vals.one : ∀ {x : V} {us : List Value}, Vals [x] us → ∃ u, us = [u] ∧ RelV x u
  | _, _, .cons r .nil => ⟨_, rfl, r⟩
theorem Vals.two : ∀ {x y : V} {us : List Value}, Vals [x, y] us → ∃ u v, us = [u, v] ∧ RelV x u ∧ RelV y v
  | _, _, _, .cons r (.cons q .nil) => ⟨_, _, rfl, r, q⟩
theorem Vals.zero : ∀ {us : List Value}, Vals [] us → us = []
  | _, .nil => rfl
theorem Vals.dropLast {xs : List V} {us : List Value} (h : Vals xs us) : Vals xs.dropLast us.dropLast := by
  induction h with
  | nil => exact .nil
  | cons r t ih =>
    cases t with
    | nil => exact .nil
    | cons q t' => exact .cons r ih
theorem Vals.eraseIdx : ∀ {xs : List V} {us : List Value} (i : Nat), Vals xs us → Vals (xs.eraseIdx i) (us.eraseIdx i)
  | _, _, _, .nil => .nil
  | _, _, 0, .cons _ t => t
  | _, _, i + 1, .cons r t => .cons r (Vals.eraseIdx i t)
theorem Vals.reverse {xs : List V} {us : List Value} (h : Vals xs us) : Vals xs.reverse us.reverse := by
  induction h with
  | nil => exact .nil
  | cons r t ih => rw [List.reverse_cons, List.reverse_cons]; exact Vals.append ih (.cons r .nil)
theorem Vals.rep {xs : List V} {us : List Value} (h : Vals xs us) : ∀ k : Nat, Vals (List.replicate k xs).flatten (List.replicate k us).flatten
  | 0 => .nil
  | k + 1 => by
    rw [List.replicate_succ, List.replicate_succ, List.flatten_cons, List.flatten_cons]
    exact Vals.append h (Vals.rep h k)
theorem erase_last {α : Type} (l : List α) : l.eraseIdx (l.length - 1) = l.dropLast := by
  induction l with
  | nil => rfl
  | cons a r ih =>
    cases r with
    | nil => rfl
    | cons b r =>
      have e : (a :: b :: r).length - 1 = ((b :: r).length - 1) + 1 := by
        have h1 : (a :: b :: r).length = r.length + 2 := rfl
        have h2 : (b :: r).length = r.length + 1 := rfl
        omega
      rw [e, List.eraseIdx_cons_succ, ih]
      all_goals rfl
theorem len_erase {α : Type} : ∀ (l : List α) (i : Nat), (l.eraseIdx i).length ≤ l.length
  | [], _ => Nat.le_refl _
  | _ :: _, 0 => Nat.le_succ _
  | _ :: r, i + 1 => Nat.succ_le_succ (len_erase r i)
theorem foldl_rep (its : List Value) : ∀ (k : Nat) (acc : List Value),
    List.foldl (fun x1 x2 => x1 ++ x2) acc.toArray (List.replicate k its.toArray) = (acc ++ (List.replicate k its).flatten).toArray
  | 0, acc => by simp
  | k + 1, acc => by
    have e : acc.toArray ++ its.toArray = (acc ++ its).toArray := by simp
    have e2 : (acc ++ its) ++ (List.replicate k its).flatten = acc ++ (List.replicate (k + 1) its).flatten := by
      rw [List.replicate_succ, List.flatten_cons, List.append_assoc]
    rw [← e2, ← foldl_rep its k (acc ++ its), ← e, List.replicate_succ, List.foldl_cons]

section
variable {X : Cx} {pins : List (Addr × Obj)} {σ : St} {H : Hp} {s : Shared} {l b : Addr} {xs ys zs : List V}

/-! ### the two steps: a tracked list is rewritten, a new list is laid -/
theorem Inv.lset {its its' : List Value} {n : Nat} {f : Array Value → Array Value} {t' : Nat} (I : Inv X pins σ H s) (hH : H l = some (.lst xs))
    (e : s.heap.get? l = some { cls := .type "list", data := .seq its.toArray n }) (hf : f its.toArray = its'.toArray) (hv : Vals ys its') (hz : ys.length ≤ sizeLine) :
    Inv X pins σ (upd H l (.lst ys)) { s with heap := s.heap.update l (Obj.mapSeq f), toks := t' } := by
  have q := PySem.IsL.update e f
  rw [hf] at q
  refine I.write (x := l) (e := l) (by rw [hH]; exact trivial) (.inl rfl) (fun b' u hb hu => (Heap.get?_update_other s.heap (Obj.mapSeq f) (Ne.symm hb)).trans hu) ⟨_, q⟩ ?_
  exact ⟨hz, its', _, hv, q⟩
theorem Inv.lnew {its : List Value} {t' : Nat} (I : Inv X pins σ H s) (hv : Vals ys its) (hz : ys.length ≤ sizeLine) :
    Inv X pins σ (upd H s.heap.objs.size (.lst ys)) { s with heap := s.heap.push { cls := .type "list", data := .seq its.toArray }, toks := t' } :=
  I.laid (fun _ _ q => Heap.get?_push_of_some _ q) (Nat.le_refl _) ⟨hz, its, 0, hv, Heap.get?_push_size _ rfl⟩
theorem Inv.fresh (I : Inv X pins σ H s) : H s.heap.objs.size = none := I.hok.fresh (Nat.le_refl _)
theorem Inv.lstM (I : Inv X pins σ H s) (hH : H l = some (.lst xs)) : xs.length ≤ sizeLine ∧ ∃ (its : List Value) (n : Nat), Vals xs its ∧ xs.length = its.length ∧ s.heap.get? l = some { cls := .type "list", data := .seq its.toArray n } := by
  obtain ⟨z, its, n, r, e⟩ := I.hok l _ hH
  exact ⟨z, its, n, r, r.length, e⟩

theorem notLongL {n : Nat} (h : n ≤ sizeLine) : Builtin.List.listTooLong n = false := by
  unfold Builtin.List.listTooLong
  exact decide_eq_false (by omega)
end

section
variable {X : Cx}

/-! ### methods -/
def rAppend : V → List V → Hp → VK → Prop := fun x vs H Q => ∃ l xs y, x = .ref l ∧ vs = [y] ∧ H l = some (.lst xs) ∧ xs.length < sizeLine ∧ Q .non (upd H l (.lst (xs ++ [y])))
theorem mt_append : MtM X "list.append" rAppend := by
  intro pins s σ H x vs v us Q I rx rv h
  obtain ⟨l, xs, y, rfl, rfl, hH, hz, q⟩ := h
  cases rx
  obtain ⟨u, rfl, ru⟩ := rv.one
  obtain ⟨z, its, n, r, hl, e⟩ := I.lstM hH
  refine call_meets F.slot_list_append ⟨_, e, rfl⟩ F.entry_list_append (F.args_list_append_2 _ _) (PySem.list_append l its.toArray n u (by rw [List.size_toArray]; omega)) ⟨e, ?_⟩
  refine ⟨.non, _, I.lset (its' := its ++ [u]) hH e (by simp) (r.append (.cons ru .nil)) ?_, rfl, q⟩
  rw [List.length_append, List.length_singleton]
  omega

def rExtend : V → List V → Hp → VK → Prop := fun x vs H Q => ∃ l b xs zs, x = .ref l ∧ vs = [.ref b] ∧ H l = some (.lst xs) ∧ H b = some (.lst zs) ∧ xs.length + zs.length ≤ sizeLine ∧ Q .non (upd H l (.lst (xs ++ zs)))
theorem mt_extend : MtM X "list.extend" rExtend := by
  intro pins s σ H x vs v us Q I rx rv h
  obtain ⟨l, b, xs, zs, rfl, rfl, hH, hB, hz, q⟩ := h
  cases rx
  obtain ⟨u, rfl, ru⟩ := rv.one
  cases ru
  obtain ⟨z, its, n, r, hl, e⟩ := I.lstM hH
  obtain ⟨z2, its2, n2, r2, hl2, e2⟩ := I.lstM hB
  have hsz : its.toArray.size + its2.toArray.size ≤ sizeLine := by rw [List.size_toArray, List.size_toArray]; omega
  have hlong : ¬ (!its.toArray.isEmpty && Builtin.List.listTooLong (its.toArray.size + its2.toArray.size)) = true := by
    rw [notLongL hsz, Bool.and_false]
    exact Bool.false_ne_true
  refine call_meets F.slot_list_extend ⟨_, e, rfl⟩ F.entry_list_extend (F.args_list_extend_2 _ _)
    (AutoSeq1.list_extend_list_list_0 l its.toArray n b its2.toArray n2 hlong (by rw [List.size_toArray]; omega) (by omega)) ⟨e, e2, ?_⟩
  refine ⟨.non, _, I.lset (its' := its ++ its2) hH e (by simp) (r.append r2) ?_, rfl, q⟩
  rw [List.length_append]
  omega

def rPop : V → List V → Hp → VK → Prop := fun x vs H Q => ∃ l xs y, x = .ref l ∧ vs = [] ∧ H l = some (.lst xs) ∧ xs[xs.length - 1]? = some y ∧ Q y (upd H l (.lst xs.dropLast))
theorem mt_pop : MtM X "list.pop" rPop := by
  intro pins s σ H x vs v us Q I rx rv h
  obtain ⟨l, xs, y, rfl, rfl, hH, hy, q⟩ := h
  cases rx
  have hus := rv.zero
  subst hus
  obtain ⟨z, its, n, r, hl, e⟩ := I.lstM hH
  obtain ⟨u, hu, ru⟩ := r.get hy
  have hy' : its.toArray[its.toArray.size - 1]? = some u := by
    show its.toArray[its.length - 1]? = some u
    rw [← Array.getElem?_toList, ← hl]
    exact hu
  refine call_meets F.slot_list_pop ⟨_, e, rfl⟩ F.entry_list_pop (F.args_list_pop_1 _) (MeetsSeq.list_pop_last l its.toArray n u hy' (by rw [List.size_toArray]; omega)) ⟨e, ?_⟩
  refine ⟨y, _, I.lset (its' := its.dropLast) hH e ?_ r.dropLast ?_, ru, q⟩
  · show its.toArray.eraseIdxIfInBounds (its.toArray.size - 1) = its.dropLast.toArray
    rw [List.size_toArray, List.eraseIdxIfInBounds_toArray, erase_last]
  · rw [List.length_dropLast]
    omega

def rPopAt : V → List V → Hp → VK → Prop := fun x vs H Q => ∃ l xs i k y, x = .ref l ∧ vs = [.int i] ∧ H l = some (.lst xs) ∧ -(2 ^ 63) ≤ i ∧ i < 2 ^ 63 ∧ seqIndex? i xs.length = some k ∧ xs[k]? = some y ∧ Q y (upd H l (.lst (xs.eraseIdx k)))
theorem mt_popAt : MtM X "list.pop" rPopAt := by
  intro pins s σ H x vs v us Q I rx rv h
  obtain ⟨l, xs, i, k, y, rfl, rfl, hH, h1, h2, hk, hy, q⟩ := h
  cases rx
  obtain ⟨u, rfl, ru⟩ := rv.one
  obtain ⟨t, rfl⟩ := ru
  obtain ⟨z, its, n, r, hl, e⟩ := I.lstM hH
  obtain ⟨w, hw, rw'⟩ := r.get hy
  refine call_meets F.slot_list_pop ⟨_, e, rfl⟩ F.entry_list_pop (F.args_list_pop_2 _ _)
    (MeetsSeq.list_pop_at l its.toArray n i t k w (fitsIndex_both h1 h2) (by rw [List.size_toArray, ← hl]; exact hk) (by rw [← Array.getElem?_toList]; exact hw) (by rw [List.size_toArray]; omega)) ⟨e, ?_⟩
  refine ⟨y, _, I.lset (its' := its.eraseIdx k) hH e ?_ (r.eraseIdx k) ?_, rw', q⟩
  · show its.toArray.eraseIdxIfInBounds k = (its.eraseIdx k).toArray
    rw [List.eraseIdxIfInBounds_toArray]
  · have := len_erase xs k
    omega

def rReverse : V → List V → Hp → VK → Prop := fun x vs H Q => ∃ l xs, x = .ref l ∧ vs = [] ∧ H l = some (.lst xs) ∧ Q .non (upd H l (.lst xs.reverse))
theorem mt_reverse : MtM X "list.reverse" rReverse := by
  intro pins s σ H x vs v us Q I rx rv h
  obtain ⟨l, xs, rfl, rfl, hH, q⟩ := h
  cases rx
  have hus := rv.zero
  subst hus
  obtain ⟨z, its, n, r, hl, e⟩ := I.lstM hH
  refine call_meets F.slot_list_reverse ⟨_, e, rfl⟩ F.entry_list_reverse (F.args_list_reverse_1 _) (AutoSeq1.list_reverse_list_0 l its.toArray n (by rw [List.size_toArray]; omega)) ⟨e, ?_⟩
  refine ⟨.non, _, I.lset (its' := its.reverse) hH e (by simp) r.reverse ?_, rfl, q⟩
  rw [List.length_reverse]
  omega

def rClear : V → List V → Hp → VK → Prop := fun x vs H Q => ∃ l xs, x = .ref l ∧ vs = [] ∧ H l = some (.lst xs) ∧ Q .non (upd H l (.lst []))
theorem mt_clear : MtM X "list.clear" rClear := by
  intro pins s σ H x vs v us Q I rx rv h
  obtain ⟨l, xs, rfl, rfl, hH, q⟩ := h
  cases rx
  have hus := rv.zero
  subst hus
  obtain ⟨z, its, n, r, hl, e⟩ := I.lstM hH
  refine call_meets F.slot_list_clear ⟨_, e, rfl⟩ F.entry_list_clear (F.args_list_clear_1 _) (AutoSeq1.list_clear_list_0 l its.toArray n (by rw [List.size_toArray]; omega)) ⟨e, ?_⟩
  exact ⟨.non, _, I.lset (its' := []) (ys := []) hH e rfl .nil (Nat.zero_le _), rfl, q⟩

/-! ### list + list, list += list, list * int -/
def rCat : R2 := fun x y H Q => ∃ l b xs zs, x = .ref l ∧ y = .ref b ∧ H l = some (.lst xs) ∧ H b = some (.lst zs) ∧ xs.length + zs.length ≤ sizeLine ∧ ∀ p, H p = none → Q (.ref p) (upd H p (.lst (xs ++ zs)))
theorem op_cat : OpR X (binaryOp .Add) rCat := by
  intro pins s σ H x y v u Q I rx ry h
  obtain ⟨l, b, xs, zs, rfl, rfl, hH, hB, hz, q⟩ := h
  cases rx
  cases ry
  obtain ⟨z, its, n, r, hl, e⟩ := I.lstM hH
  obtain ⟨z2, its2, n2, r2, hl2, e2⟩ := I.lstM hB
  refine PySem.P.add_list e e2 ?_ (by rw [List.size_toArray, List.size_toArray]; omega)
  have ea : its.toArray ++ its2.toArray = (its ++ its2).toArray := by simp
  rw [ea]
  exact ⟨.ref _, _, I.lnew (t' := s.toks) (r.append r2) (by rw [List.length_append]; omega), rfl, q _ I.fresh⟩
/-- a list times an int (a negative one is nothing) -/
def rRep : R2 := fun x y H Q => ∃ l k xs, x = .ref l ∧ y = .int k ∧ H l = some (.lst xs) ∧ -(2 ^ 63) ≤ k ∧ k < 2 ^ 63 ∧ xs.length * k.toNat ≤ sizeLine ∧
  ∀ p, H p = none → Q (.ref p) (upd H p (.lst (List.replicate k.toNat xs).flatten))
theorem len_rep {α : Type} (xs : List α) (k : Nat) : (List.replicate k xs).flatten.length = k * xs.length := by
  induction k with
  | zero => simp
  | succ k ih => rw [List.replicate_succ, List.flatten_cons, List.length_append, ih, Nat.succ_mul, Nat.add_comm]
theorem op_rep : OpR X (binaryOp .Mult) rRep := by
  intro pins s σ H x y v u Q I rx ry h
  obtain ⟨l, k, xs, rfl, rfl, hH, h1, h2, hz, q⟩ := h
  cases rx
  obtain ⟨t, rfl⟩ := ry
  obtain ⟨z, its, n, r, hl, e⟩ := I.lstM hH
  have hlen : its.toArray.size * k.toNat ≤ sizeLine := by rw [List.size_toArray, ← hl]; exact hz
  have hcap : ¬ its.toArray.size * k.toNat > (2 ^ 63 - 1) / 8 := by
    have : (sizeLine : Nat) ≤ (2 ^ 63 - 1) / 8 := by decide
    omega
  have hfit : ¬ (!Builtin.List.listFitsIndex k) = true := by
    rw [fitsIndex_both h1 h2]
    exact Bool.false_ne_true
  have hlong : ¬ Builtin.List.listTooLong (its.toArray.size * k.toNat) = true := by
    rw [notLongL hlen]
    exact Bool.false_ne_true
  have hnew : List.foldl (fun x1 x2 => x1 ++ x2) #[] (List.replicate (if its.toArray.isEmpty = true then 0 else k.toNat) its.toArray) = (List.replicate k.toNat its).flatten.toArray := by
    have f0 : ∀ m : Nat, List.foldl (fun x1 x2 => x1 ++ x2) #[] (List.replicate m its.toArray) = (List.replicate m its).flatten.toArray := fun m => by
      have := foldl_rep its m []
      rw [List.nil_append] at this
      exact this
    rw [f0]
    cases its with
    | nil => simp
    | cons a r' => rw [if_neg (by simp)]
  refine wpAny_binaryOp_repeat_ref (T := "list") (U := "int") (by decide) ⟨_, e, rfl⟩ (fun s' => typeIs_int s' k t) noFill_list_mul F.fills_int_mul F.slot_int_rmul repeat_list F.slot_int_index.lookup
    (call_meets F.slot_int_rmul (typeIs_int s k t) F.entry_int_rmul (F.args_int_rmul_2 _ _) (int___rmul___int_list k t l its.toArray n)
      ⟨e, rfl, ⟨_, e, rfl⟩, call_meets F.slot_list_mul ⟨_, e, rfl⟩ F.entry_list_mul (F.args_list_mul_2 _ _) (AutoListH.list___mul___list_int_3 l its.toArray n k t hfit hcap hlong) ⟨e, ?_⟩⟩)
  rw [hnew]
  exact ⟨.ref _, _, I.lnew (t' := s.toks) (r.rep k.toNat) (by rw [len_rep, Nat.mul_comm]; exact hz), rfl, q _ I.fresh⟩

/-! ### del xs[i] -/
theorem del_list {pins : List (Addr × Obj)} {s : Shared} {σ : St} {H : Hp} {l : Addr} {xs : List V} {i : Int} {t : Tok} {k : Nat} {Q : Unit → Shared → Prop} (I : Inv X pins σ H s) (hH : H l = some (.lst xs))
    (h1 : -(2 ^ 63) ≤ i) (h2 : i < 2 ^ 63) (hk : seqIndex? i xs.length = some k) (h : ∀ s', Inv X pins σ (upd H l (.lst (xs.eraseIdx k))) s' → Q () s') :
    wpAny (model X.prog X.w) X.A (delItem (.ref l) (.int i t)) Q X.xe s := by
  obtain ⟨z, its, n, r, hl, e⟩ := I.lstM hH
  refine PySem.P.delItem_list (k := k) e (fitsIndex_both h1 h2) (by rw [List.size_toArray, ← hl]; exact hk) (h _ ?_) (by rw [List.size_toArray]; omega)
  refine I.lset (its' := its.eraseIdx k) (t' := s.toks) hH e ?_ (r.eraseIdx k) ?_
  · show its.toArray.eraseIdxIfInBounds k = (its.eraseIdx k).toArray
    rw [List.eraseIdxIfInBounds_toArray]
  · have := len_erase xs k
    omega
end

/-! ### xs[a:b] = ys -/
section
variable {prog : Program} {w : World} {A : Around} {E : Value → Shared → Prop} {s : Shared}
theorem splice_eq (its its2 : List Value) (a c : Nat) : its.toArray.extract 0 a ++ its2.toArray ++ its.toArray.extract c its.toArray.size = (its.take a ++ its2 ++ its.drop c).toArray := by
  apply Array.toList_inj.mp
  first
    | (simp
       exact List.take_of_length_le (by simp))
    | simp [List.take_of_length_le]
    | simp
theorem bounds_run {a c n : Nat} (hac : a ≤ c) (hc : c ≤ n) : sliceBounds (some (a : Int)) (some (c : Int)) none n = ((a : Int), (c : Int), 1) := by
  simp only [sliceBounds, Option.getD_none]
  have h1 : ¬ ((a : Int) < 0) := by omega
  have h2 : ¬ ((c : Int) < 0) := by omega
  simp only [h1, h2, if_false, show (1 : Int) > 0 by decide, if_true]
  congr 1
  · omega
  · congr 1; omega
set_option maxRecDepth 100000 in
/-- list.__setitem__ with a slice of step one and another list -/
theorem setItem_slice {l b sl : Addr} {items new : Array Value} {n n2 : Nat} {vl vu : Value} {a c : Nat} {Q : Unit → Shared → Prop}
    (e : s.heap.get? l = some { cls := .type "list", data := .seq items n }) (e2 : s.heap.get? b = some { cls := .type "list", data := .seq new n2 }) (hne : l ≠ b)
    (hs : s.heap.IsSliceOf sl vl vu .none) (pl : IsPart vl (some (a : Int))) (pu : IsPart vu (some (c : Int))) (hac : a ≤ c) (hc : c ≤ items.size)
    (hsz : items.size + new.size ≤ sizeLine) (h : Q () { s with heap := s.heap.update l (Obj.mapSeq fun xs => xs.extract 0 a ++ new ++ xs.extract c xs.size) }) :
    wpAny (model prog w) A (setItem (.ref l) (.ref sl) (.ref b)) Q E s := by
  have hl : s.heap.IsList l items := PySem.IsL.isList e
  have hb : s.heap.IsList b new := PySem.IsL.isList e2
  obtain ⟨os, hos, hcs, hds⟩ := id hs
  have hTs : s.TypeIs (.ref sl) "slice" := ⟨os, hos, hcs⟩
  have hstep : ¬ ((rawPart none == rawInt 0) = true) := Bool.false_ne_true
  have hsame : Builtin.List.listSameRef (.ref l) (.ref b) = false := by
    unfold Builtin.List.listSameRef
    exact beq_eq_false_iff_ne.mpr hne
  have hmax : (max (a : Int) (c : Int)).toNat = c := by omega
  have hz' : ((fun xs : Array Value => xs.extract 0 a ++ new ++ xs.extract c xs.size) items).size ≤ sizeLine + 1 := by
    simp only [Array.size_append, Array.size_extract]
    omega
  unfold setItem
  try with_reducible refine wpAny_holding ?_
  first | refine wpAny_bind (wpAny_pure ?_) | skip
  refine wpAny_bind (wpAny_sequenceKey hl.typeIs (by decide) ?_)
  refine wpAny_bind (wpAny_callSpecial?_slot (name := Str.ofString "__setitem__") hl.typeIs slot_list_setitem
    (wpAny_call_entry slot_list_setitem hl.typeIs entry_list_setitem ?_ (args_list_setitem _ _ _)))
  show wpAny _ _ (Builtin.List.listSubscript? (.ref sl) >>= _) _ _ s
  refine wpAny_bind ?_
  unfold Builtin.List.listSubscript?
  refine wpAny_bind (wpAny_specialOf hTs slice_no_index ?_)
  simp only [Option.isNone_none, if_true]
  refine wpAny_pure ?_
  show wpAny _ _ (typeOf (.ref sl) >>= _) _ _ s
  refine wpAny_bind (wpAny_typeOf hTs ?_)
  first
    | rw [if_neg (by decide)]
    | refine PySem.W.KFB.if_not (by decide) ?_
  rw [listSliceParts_eq]
  refine wpAny_bind (wpAny_bind (wpAny_field hos hds (x := .none) rfl (wpAny_bind (wpAny_listPart .none ?_))))
  rw [if_neg hstep]
  refine wpAny_bind (wpAny_field hos hds (x := vl) rfl (wpAny_bind (wpAny_listPart pl ?_)))
  refine wpAny_bind (wpAny_field hos hds (x := vu) rfl (wpAny_bind (wpAny_listPart pu (wpAny_pure ?_))))
  first
    | simp only [hsame, Bool.false_eq_true, if_false]
    | refine PySem.W.KFB.if_not hsame ?_
    | (dsimp only
       rw [if_neg (by rw [hsame]; exact Bool.false_ne_true)])
  refine wpAny_bind (m := Builtin.List.listAllItems (.ref b) "must assign iterable to extended slice") ?_
  unfold Builtin.List.listAllItems
  refine wpAny_bind (wpAny_typeOf hb.typeIs ?_)
  first
    | refine PySem.W.KFB.if_so (by decide) ?_
    | rw [if_pos (by decide)]
    | simp only [beq_self_eq_true, Bool.true_or, if_true]
  unfold Builtin.List.listItems
  refine wpAny_bind (wpAny_seqItems e2 rfl (wpAny_pure ?_))
  refine wpAny_bind (wpAny_bind (wpAny_seqItems e rfl (wpAny_pure ?_)))
  refine wpAny_bind (wpAny_of_eq ((sliceIndices_raw (some (a : Int)) (some (c : Int)) none items.size (by simp)).trans (congrArg (pure : Int × Int × Int → Sem (Int × Int × Int)) (bounds_run hac hc))) ?_)
  show wpAny _ _ (if ((1 : Int) == 1) = true then _ else _) _ _ s
  rw [if_pos (by decide)]
  refine wpAny_bind (wpAny_rule ?_)
  first
    | simp only [notLongL hsz, Bool.false_eq_true, if_false]
    | refine PySem.W.KFB.if_not (notLongL hsz) ?_
  first | refine wpAny_bind (wpAny_pure ?_) | skip
  show wpAny _ _ (updateSeq l (fun xs => xs.extract 0 ((a : Int)).toNat ++ new ++ xs.extract (max (a : Int) (c : Int)).toNat xs.size) >>= _) _ _ s
  rw [hmax, Int.toNat_natCast]
  refine wpAny_bind (wpAny_updateSeq (hz := Nat.le_trans (Nat.le_add_right _ _) hsz) (_hz' := hz') e rfl ?_)
  refine wpAny_bind (wpAny_letGo ?_)
  first
    | exact wpAny_bind (wpAny_pure (wpAny_pure ⟨.none, rfl, wpAny_pure h⟩))
    | exact wpAny_pure ⟨.none, rfl, wpAny_pure h⟩
end

section
variable {X : Cx}
/-- xs[a:c] = ys of another list, at the value level: sl is the slice object that was just made -/
theorem set_slice {pins : List (Addr × Obj)} {s : Shared} {σ : St} {H : Hp} {l b sl : Addr} {xs ys : List V} {a c : Int} {vl vu : Value} {Q : Unit → Shared → Prop} (I : Inv X pins σ H s)
    (hH : H l = some (.lst xs)) (hB : H b = some (.lst ys)) (hne : l ≠ b) (hs : s.heap.IsSliceOf sl vl vu .none) (ra : RelV (.int a) vl) (rc : RelV (.int c) vu) (h0 : 0 ≤ a) (hac : a ≤ c) (hc : c ≤ xs.length)
    (hz : xs.length + ys.length ≤ sizeLine) (h : ∀ s', Inv X pins σ (upd H l (.lst (xs.take a.toNat ++ ys ++ xs.drop c.toNat))) s' → Q () s') :
    wpAny (model X.prog X.w) X.A (setItem (.ref l) (.ref sl) (.ref b)) Q X.xe s := by
  obtain ⟨ta, rfl⟩ := ra
  obtain ⟨tc, rfl⟩ := rc
  obtain ⟨z, its, n, r, hl, e⟩ := I.lstM hH
  obtain ⟨z2, its2, n2, r2, hl2, e2⟩ := I.lstM hB
  obtain ⟨a', rfl⟩ := Int.eq_ofNat_of_zero_le h0
  obtain ⟨c', rfl⟩ := Int.eq_ofNat_of_zero_le (Int.le_trans h0 hac)
  simp only [Int.toNat_natCast] at h
  refine setItem_slice (a := a') (c := c') e e2 hne hs (.int _ _) (.int _ _) (by omega) (by rw [List.size_toArray]; omega) (by rw [List.size_toArray, List.size_toArray]; omega) (h _ ?_)
  refine I.lset (its' := its.take a' ++ its2 ++ its.drop c') (t' := s.toks) hH e ?_ (Vals.append (Vals.append (r.take _) r2) (r.drop _)) ?_
  · exact splice_eq its its2 a' c'
  · rw [List.length_append, List.length_append, List.length_take, List.length_drop]
    omega
end
end L2

namespace L2
open PySem PySem.Spec PyProof.Rows

/-! ### lists of pairs as tables -/
section
variable {κ : Type} [DecidableEq κ]
def valV (kvs : List (κ × V)) (k : κ) : Option V := (kvs.find? fun kv => decide (kv.1 = k)).map (·.2)
/-- in its place, or at the end -/
def putK (kvs : List (κ × V)) (k : κ) (v : V) : List (κ × V) :=
  if (kvs.any fun kv => decide (kv.1 = k)) = true then kvs.map (fun kv => if kv.1 = k then (kv.1, v) else kv) else kvs ++ [(k, v)]
def dropK (kvs : List (κ × V)) (k : κ) : List (κ × V) := kvs.filter fun kv => decide (kv.1 ≠ k)

theorem valV_nil {k : κ} : valV ([] : List (κ × V)) k = none := rfl
theorem valV_pos {p : κ × V} {r : List (κ × V)} {k : κ} (e : p.1 = k) : valV (p :: r) k = some p.2 := by simp [valV, List.find?_cons, e]
theorem valV_neg {p : κ × V} {r : List (κ × V)} {k : κ} (e : ¬ p.1 = k) : valV (p :: r) k = valV r k := by simp [valV, List.find?_cons, e]
theorem valV_any (k : κ) : ∀ kvs : List (κ × V), (kvs.any fun kv => decide (kv.1 = k)) = (valV kvs k).isSome
  | [] => rfl
  | p :: r => by
    rw [List.any_cons]
    by_cases e : p.1 = k
    · simp only [valV_pos e, decide_eq_true e, Bool.true_or, Option.isSome_some]
    · rw [valV_neg e, decide_eq_false e, Bool.false_or]; exact valV_any k r
theorem valV_map (k j : κ) (y : V) : ∀ kvs : List (κ × V), valV (kvs.map fun kv => if kv.1 = k then (kv.1, y) else kv) j = (valV kvs j).map fun x => if j = k then y else x
  | [] => rfl
  | p :: r => by
    have ih := valV_map k j y r
    rw [List.map_cons]
    by_cases h : p.1 = k
    · rw [if_pos h]
      by_cases e : p.1 = j
      · rw [valV_pos (p := (p.1, y)) e, valV_pos e, Option.map_some, if_pos (e.symm.trans h)]
      · rw [valV_neg (p := (p.1, y)) e, valV_neg e, ih]
    · rw [if_neg h]
      by_cases e : p.1 = j
      · rw [valV_pos (p := p) e, valV_pos e, Option.map_some, if_neg (fun z => h (e.trans z))]
      · rw [valV_neg (p := p) e, valV_neg e, ih]
theorem valV_snoc (k j : κ) (y : V) : ∀ kvs : List (κ × V), valV kvs k = none → valV (kvs ++ [(k, y)]) j = if j = k then some y else valV kvs j
  | [], _ => by
    by_cases e : k = j
    · rw [if_pos e.symm]; exact valV_pos (p := (k, y)) e
    · rw [if_neg (fun z => e z.symm)]; exact valV_neg (p := (k, y)) e
  | p :: r, hn => by
    rw [List.cons_append]
    have hk : ¬ p.1 = k := fun z => by rw [valV_pos z] at hn; cases hn
    rw [valV_neg hk] at hn
    have ih := valV_snoc k j y r hn
    by_cases e : p.1 = j
    · rw [valV_pos e, valV_pos e, if_neg (fun z => hk (e.trans z))]
    · rw [valV_neg e, valV_neg e, ih]
theorem valV_put (kvs : List (κ × V)) (k j : κ) (y : V) : valV (putK kvs k y) j = if j = k then some y else valV kvs j := by
  unfold putK
  by_cases a : (kvs.any fun kv => decide (kv.1 = k)) = true
  · rw [if_pos a, valV_map]
    rw [valV_any] at a
    by_cases e : j = k
    · obtain ⟨x, hx⟩ := Option.isSome_iff_exists.mp a
      rw [if_pos e, e, hx, Option.map_some, if_pos rfl]
    · rw [if_neg e]
      cases valV kvs j with
      | none => rfl
      | some x => rw [Option.map_some, if_neg e]
  · rw [if_neg a]
    refine valV_snoc k j y kvs ?_
    rw [valV_any] at a
    cases q : valV kvs k with
    | none => rfl
    | some x => rw [q] at a; exact (a rfl).elim
theorem length_putK (kvs : List (κ × V)) (k : κ) (v : V) : (putK kvs k v).length ≤ kvs.length + 1 := by
  unfold putK
  split
  · rw [List.length_map]; omega
  · rw [List.length_append, List.length_cons, List.length_nil]; omega
theorem putK_new {kvs : List (κ × V)} {k : κ} (v : V) (h : valV kvs k = none) : putK kvs k v = kvs ++ [(k, v)] := by
  unfold putK
  rw [valV_any, h]
  exact if_neg (by decide)

theorem RelO.isSome_eq {o : Option V} {u : Option Value} (r : RelO o u) : o.isSome = u.isSome := by
  cases o with
  | none => cases u with
    | none => rfl
    | some _ => exact (show False from r).elim
  | some _ => cases u with
    | none => exact (show False from r).elim
    | some _ => rfl
theorem RelO.getD {o : Option V} {u : Option Value} {d : V} {d' : Value} (r : RelO o u) (rd : RelV d d') : RelV (o.getD d) (u.getD d') := by
  cases o with
  | none => cases u with
    | none => exact rd
    | some _ => exact (show False from r).elim
  | some _ => cases u with
    | none => exact (show False from r).elim
    | some _ => exact r

/-- raw tables of the same keys -/
theorem KV.val {kvs : List (κ × V)} {vs : List (κ × Value)} (r : KV kvs vs) (k : κ) : RelO (valV kvs k) (valueAt vs k) := by
  unfold KV at r
  induction r with
  | nil => exact True.intro
  | @cons p q ps qs h t ih =>
    obtain ⟨h1, h2⟩ := h
    by_cases e : p.1 = k
    · have e' : q.1 = k := h1.symm.trans e
      have b : valueAt (q :: qs) k = some q.2 := by simp [valueAt, List.find?_cons, e']
      rw [valV_pos e, b]; exact h2
    · have e' : ¬ q.1 = k := fun z => e (h1.trans z)
      have b : valueAt (q :: qs) k = valueAt qs k := by simp [valueAt, List.find?_cons, e']
      rw [valV_neg e, b]; exact ih
theorem KV.any {kvs : List (κ × V)} {vs : List (κ × Value)} (r : KV kvs vs) (k : κ) : (kvs.any fun kv => decide (kv.1 = k)) = vs.any fun kv => decide (kv.1 = k) := by
  unfold KV at r
  induction r with
  | nil => rfl
  | cons h t ih => rw [List.any_cons, List.any_cons, ih, h.1]
theorem KV.repl {kvs : List (κ × V)} {vs : List (κ × Value)} (r : KV kvs vs) (k : κ) {y : V} {u : Value} (ry : RelV y u) :
    KV (kvs.map fun kv => if kv.1 = k then (kv.1, y) else kv) (vs.map fun kv => if kv.1 = k then (kv.1, u) else kv) := by
  unfold KV at r ⊢
  induction r with
  | nil => exact .nil
  | @cons p q ps qs h t ih =>
    rw [List.map_cons, List.map_cons]
    refine .cons ?_ ih
    obtain ⟨h1, h2⟩ := h
    by_cases e : p.1 = k
    · rw [if_pos e, if_pos (h1.symm.trans e)]; exact ⟨h1, ry⟩
    · rw [if_neg e, if_neg (fun z => e (h1.trans z))]; exact ⟨h1, h2⟩
theorem KV.put {kvs : List (κ × V)} {vs : List (κ × Value)} (r : KV kvs vs) (k : κ) {y : V} {u : Value} (ry : RelV y u) : KV (putK kvs k y) (stored vs k u) := by
  unfold putK stored
  rw [r.any k]
  by_cases e : (vs.any fun kv => decide (kv.1 = k)) = true
  · rw [if_pos e, if_pos e]; exact r.repl k ry
  · rw [if_neg e, if_neg e]; exact Paired.snoc r ⟨rfl, ry⟩
theorem KV.drop {kvs : List (κ × V)} {vs : List (κ × Value)} (r : KV kvs vs) (k : κ) : KV (dropK kvs k) (without vs k) := by
  unfold KV at r ⊢
  unfold dropK without
  induction r with
  | nil => exact .nil
  | @cons p q ps qs h t ih =>
    obtain ⟨h1, h2⟩ := h
    rw [List.filter_cons, List.filter_cons]
    by_cases e : p.1 = k
    · have a : ¬ decide (p.1 ≠ k) = true := by simp [e]
      have b : ¬ decide (q.1 ≠ k) = true := by simp [h1.symm.trans e]
      rw [if_neg a, if_neg b]; exact ih
    · have e' : ¬ q.1 = k := fun z => e (h1.trans z)
      have a : decide (p.1 ≠ k) = true := by simp [e]
      have b : decide (q.1 ≠ k) = true := by simp [e']
      rw [if_pos a, if_pos b]; exact .cons ⟨h1, h2⟩ ih
theorem KV.keys {kvs : List (κ × V)} {vs : List (κ × Value)} (r : KV kvs vs) : kvs.map (·.1) = vs.map (·.1) := by
  unfold KV at r
  induction r with
  | nil => rfl
  | cons h t ih => rw [List.map_cons, List.map_cons, ih, h.1]
theorem KV.length {kvs : List (κ × V)} {vs : List (κ × Value)} (r : KV kvs vs) : kvs.length = vs.length := Paired.length r
theorem dropK_le (kvs : List (κ × V)) (k : κ) : (dropK kvs k).length ≤ kvs.length := List.length_filter_le _ _
end


/-! ### a tracked dict, its keys ints and texts or tuples of these -/
theorem kV_is {P : Program} {w : World} {k : Key} {u : Value} (r : RelV (kV k) u) : (mixKind P w).is k u = true := by
  cases k with
  | inl i => obtain ⟨t, e⟩ := (show ∃ t, u = Value.int i t from r); subst e; exact mixKind_int P w i t
  | inr x => obtain ⟨t, e⟩ := (show ∃ t, u = Value.str x t from r); subst e; exact mixKind_str P w x t
theorem kV_inj {a b : Key} (e : kV a = kV b) : a = b := by
  cases a with
  | inl i => cases b with
    | inl j => have e' : V.int i = V.int j := e; injection e' with e'; rw [e']
    | inr y => exact nomatch (show V.int i = V.str y from e)
  | inr x => cases b with
    | inl j => exact nomatch (show V.str x = V.int j from e)
    | inr y => have e' : V.str x = V.str y := e; injection e' with e'; rw [e']
theorem kVs_inj : ∀ {a b : List Key}, a.map kV = b.map kV → a = b
  | [], [], _ => rfl
  | [], _ :: _, e => by simp at e
  | _ :: _, [], e => by simp at e
  | x :: xs, y :: ys, e => by
    rw [List.map_cons, List.map_cons] at e
    injection e with e1 e2
    rw [kV_inj e1, kVs_inj e2]
theorem items_are {P : Program} {w : World} : ∀ {ks : List Key} {us : List Value}, Vals (ks.map kV) us → ItemsAre (mixKind P w) ks us
  | [], _, r => by rw [List.map_nil] at r; cases r; exact .nil
  | k :: ks, _, r => by
    rw [List.map_cons] at r
    cases r with
    | cons h t => exact .cons (kV_is h) (items_are t)

/-- raw entries of a dict with tuple keys -/
abbrev KT (H : Hp) : List (List Key × V) → List (List Key × Addr × Value) → Prop := Paired fun p q => p.1 = q.1 ∧ H q.2.1 = some (.tup (p.1.map kV)) ∧ RelV p.2 q.2.2
theorem KT.val {H : Hp} {kvs : List (List Key × V)} {xs : List (List Key × Addr × Value)} (r : KT H kvs xs) (k : List Key) : RelO (valV kvs k) ((atKey xs k).map (·.2)) := by
  induction r with
  | nil => exact True.intro
  | @cons p q ps qs h t ih =>
    obtain ⟨h1, _, h2⟩ := h
    by_cases e : p.1 = k
    · have e' : q.1 = k := h1.symm.trans e
      have b : atKey (q :: qs) k = some q.2 := by simp [atKey, List.find?_cons, e']
      rw [valV_pos e, b]; exact h2
    · have e' : ¬ q.1 = k := fun z => e (h1.trans z)
      have b : atKey (q :: qs) k = atKey qs k := by simp [atKey, List.find?_cons, e']
      rw [valV_neg e, b]; exact ih
theorem KT.repl {H : Hp} {kvs : List (List Key × V)} {xs : List (List Key × Addr × Value)} (r : KT H kvs xs) (k : List Key) {y : V} {u : Value} (ry : RelV y u) :
    KT H (kvs.map fun kv => if kv.1 = k then (kv.1, y) else kv) (xs.map (putAt k u)) := by
  induction r with
  | nil => exact .nil
  | @cons p q ps qs h t ih =>
    rw [List.map_cons, List.map_cons]
    refine .cons ?_ ih
    obtain ⟨h1, h2, h3⟩ := h
    unfold putAt
    by_cases e : p.1 = k
    · rw [if_pos e, if_pos (h1.symm.trans e)]; exact ⟨h1, h2, ry⟩
    · rw [if_neg e, if_neg (fun z => e (h1.trans z))]; exact ⟨h1, h2, h3⟩
theorem KT.put {H : Hp} {kvs : List (List Key × V)} {xs : List (List Key × Addr × Value)} (r : KT H kvs xs) (k : List Key) {b : Addr} {y : V} {u : Value} (hb : H b = some (.tup (k.map kV))) (ry : RelV y u) :
    KT H (putK kvs k y) (storedH xs k b u) := by
  have e : (kvs.any fun kv => decide (kv.1 = k)) = (atKey xs k).isSome := by
    rw [valV_any, (r.val k).isSome_eq, Option.isSome_map]
  unfold putK storedH
  rw [e]
  by_cases q : (atKey xs k).isSome = true
  · rw [if_pos q, if_pos q]; exact r.repl k ry
  · rw [if_neg q, if_neg q]; exact Paired.snoc r ⟨rfl, hb, ry⟩
theorem KT.keeps {H H' : Hp} {kvs : List (List Key × V)} {xs : List (List Key × Addr × Value)} (r : KT H kvs xs) (ht : ∀ b ys, H b = some (.tup ys) → H' b = some (.tup ys)) : KT H' kvs xs :=
  Paired.mapP r fun _ _ z => ⟨z.1, ht _ _ z.2.1, z.2.2⟩

section
variable {P : Program} {w : World} {H : Hp} {h : Heap} {a : Addr}
theorem rd_of {u : HO} (ok : HOk P w H h) (e : Rd H a u) : ObjOk P w H h a u := e.ok ok
theorem dk_rd {kvs : List (Key × V)} (ok : HOk P w H h) (e : Rd H a (.dK kvs)) : kvs.length ≤ sizeLine ∧ (a == sysModules) = false ∧ ∃ vs, KV kvs vs ∧ h.DictOf (mixKind P w) a vs :=
  show ObjOk P w H h a (.dK kvs) from rd_of ok e
theorem dk_of {kvs : List (Key × V)} (ok : HOk P w H h) (e : H a = some (.dK kvs)) : kvs.length ≤ sizeLine ∧ (a == sysModules) = false ∧ ∃ vs, KV kvs vs ∧ h.DictOf (mixKind P w) a vs := dk_rd ok (.inl e)
/-- a tracked tuple of ints and texts is a key -/
theorem key_of {ks : List Key} (ok : HOk P w H h) (e : H a = some (.tup (ks.map kV))) : (tupleKind (mixKind P w)).is h ks a := by
  obtain ⟨_, its, r, o, h1, h2, n, h3⟩ := (show ObjOk P w H h a (.tup (ks.map kV)) from ok a _ e)
  exact ⟨o, its.toArray, n, h1, h2, h3, by simpa using items_are r⟩
theorem dt_rd {kvs : List (List Key × V)} (ok : HOk P w H h) (e : Rd H a (.dT kvs)) : kvs.length ≤ sizeLine ∧ (a == sysModules) = false ∧
    ∃ xs, KT H kvs xs ∧ h.DictOfH (tupleKind (mixKind P w)) a xs := by
  obtain ⟨z, y, xs, r, o, es, ep, h1, h2, h3, h4, h5⟩ := (show ObjOk P w H h a (.dT kvs) from rd_of ok e)
  refine ⟨z, y, xs, r, o, es, ep, h1, h2, h3, h4, fun x hx => ?_, h5⟩
  have all : ∀ {l : List (List Key × V)} {m : List (List Key × Addr × Value)}, KT H l m → ∀ x ∈ m, (tupleKind (mixKind P w)).is h x.1 x.2.1 := by
    intro l m q
    induction q with
    | nil => intro x hx; exact nomatch hx
    | @cons p q ps qs hq t ih =>
      intro x hx
      rcases List.mem_cons.mp hx with e | hx
      · subst e
        exact key_of ok (by rw [← hq.1]; exact hq.2.1)
      · exact ih x hx
  exact all r x hx
theorem dt_of {kvs : List (List Key × V)} (ok : HOk P w H h) (e : H a = some (.dT kvs)) : kvs.length ≤ sizeLine ∧ (a == sysModules) = false ∧
    ∃ xs, KT H kvs xs ∧ h.DictOfH (tupleKind (mixKind P w)) a xs := dt_rd ok (.inl e)
end

/-- what the dict at a holds at the key y -/
def DGet (H : Hp) (a : Addr) (y : V) (r : Option V) : Prop :=
  (∃ kvs k, Rd H a (.dK kvs) ∧ y = kV k ∧ r = valV kvs k) ∨ ∃ kvs k b, Rd H a (.dT kvs) ∧ y = .ref b ∧ H b = some (.tup (k.map kV)) ∧ r = valV kvs k
/-- the heap behind a[y] = v -/
def DPut (H : Hp) (a : Addr) (y v : V) (H' : Hp) : Prop :=
  (∃ kvs k, H a = some (.dK kvs) ∧ y = kV k ∧ kvs.length < sizeLine ∧ H' = upd H a (.dK (putK kvs k v))) ∨
  ∃ kvs k b, H a = some (.dT kvs) ∧ y = .ref b ∧ H b = some (.tup (k.map kV)) ∧ kvs.length < sizeLine ∧ H' = upd H a (.dT (putK kvs k v))
theorem DGet.k {H : Hp} {a : Addr} {kvs : List (Key × V)} {k : Key} (e : H a = some (.dK kvs)) : DGet H a (kV k) (valV kvs k) := .inl ⟨kvs, k, .inl e, rfl, rfl⟩
theorem DGet.t {H : Hp} {a b : Addr} {kvs : List (List Key × V)} {k : List Key} (e : H a = some (.dT kvs)) (eb : H b = some (.tup (k.map kV))) : DGet H a (.ref b) (valV kvs k) := .inr ⟨kvs, k, b, .inl e, rfl, eb, rfl⟩
theorem DPut.k {H : Hp} {a : Addr} {kvs : List (Key × V)} {k : Key} {v : V} (e : H a = some (.dK kvs)) (hl : kvs.length < sizeLine) : DPut H a (kV k) v (upd H a (.dK (putK kvs k v))) := .inl ⟨kvs, k, e, rfl, hl, rfl⟩
theorem DPut.t {H : Hp} {a b : Addr} {kvs : List (List Key × V)} {k : List Key} {v : V} (e : H a = some (.dT kvs)) (eb : H b = some (.tup (k.map kV))) (hl : kvs.length < sizeLine) :
    DPut H a (.ref b) v (upd H a (.dT (putK kvs k v))) := .inr ⟨kvs, k, b, e, rfl, eb, hl, rfl⟩


section
variable {X : Cx} {pins : List (Addr × Obj)} {σ : St} {H : Hp} {s : Shared} {a : Addr} {y v : V} {u r : Value} {o : Option V} {A : Around} {E : Value → Shared → Prop}

theorem Inv.big (I : Inv X pins σ H s) : sysModules < s.heap.objs.size := by
  have h : mainGlobals < s.heap.objs.size := (I.mod.glob.keeps I.bk).lt
  exact Nat.lt_trans (by decide) h

/-- d[y], there -/
theorem d_getItem {Q : Value → Shared → Prop} (hu : A.units + 1 < cLine) (I : Inv X pins σ H s) (g : DGet H a y (some v)) (ry : RelV y u) (h : ∀ w' s', Inv X pins σ H s' → RelV v w' → Q w' s') :
    wpAny (model X.prog X.w) A (getItem (.ref a) u) Q E s := by
  rcases g with ⟨kvs, k, e, ey, l⟩ | ⟨kvs, k, b, e, ey, eb, l⟩
  · subst ey
    obtain ⟨z, hd, vs, rel, dd⟩ := dk_rd I.hok e
    obtain ⟨w', hw, rw'⟩ := RelO.some_of (v := v) (o := valueAt vs k) (by rw [l]; exact rel.val k)
    exact wpAny_getItem_of (kV_is ry) dd.mapOf hw (h w' _ (I.tok _) rw')
  · subst ey
    cases (show u = Value.ref b from ry)
    obtain ⟨z, hd, xs, rel, dd⟩ := dt_rd I.hok e
    obtain ⟨w', hw, rw'⟩ := RelO.some_of (v := v) (o := (atKey xs k).map (·.2)) (by rw [l]; exact rel.val k)
    obtain ⟨p, hp, hp2⟩ := Option.map_eq_some_iff.mp hw
    refine wpAny_getItem_heap (tupleKind_room_in1 hu) (key_of I.hok eb) dd hp ?_
    rw [hp2]
    exact h w' _ (I.tok _) rw'
/-- y in d -/
theorem d_in {Q : Value → Shared → Prop} (hu : A.units + 1 < cLine) (I : Inv X pins σ H s) (g : DGet H a y o) (ry : RelV y u) (h : ∀ s', Inv X pins σ H s' → Q (.bool o.isSome) s') :
    wpAny (model X.prog X.w) A (compareOp .In u (.ref a)) Q E s := by
  rcases g with ⟨kvs, k, e, ey, l⟩ | ⟨kvs, k, b, e, ey, eb, l⟩
  · subst ey
    obtain ⟨z, hd, vs, rel, dd⟩ := dk_rd I.hok e
    refine wpAny_in_of (kV_is ry) hd dd.mapOf ?_
    rw [← (rel.val k).isSome_eq, ← l]
    exact h _ (I.tok _)
  · subst ey
    cases (show u = Value.ref b from ry)
    obtain ⟨z, hd, xs, rel, dd⟩ := dt_rd I.hok e
    refine wpAny_in_heap (tupleKind_room_in1 hu) (key_of I.hok eb) hd dd ?_
    have q := (rel.val k).isSome_eq
    rw [Option.isSome_map] at q
    rw [← q, ← l]
    exact h _ (I.tok _)
theorem d_notIn {Q : Value → Shared → Prop} (hu : A.units + 1 < cLine) (I : Inv X pins σ H s) (g : DGet H a y o) (ry : RelV y u) (h : ∀ s', Inv X pins σ H s' → Q (.bool (!o.isSome)) s') :
    wpAny (model X.prog X.w) A (compareOp .NotIn u (.ref a)) Q E s := by
  rcases g with ⟨kvs, k, e, ey, l⟩ | ⟨kvs, k, b, e, ey, eb, l⟩
  · subst ey
    obtain ⟨z, hd, vs, rel, dd⟩ := dk_rd I.hok e
    refine wpAny_notIn_of (kV_is ry) hd dd.mapOf ?_
    rw [← (rel.val k).isSome_eq, ← l]
    exact h _ (I.tok _)
  · subst ey
    cases (show u = Value.ref b from ry)
    obtain ⟨z, hd, xs, rel, dd⟩ := dt_rd I.hok e
    refine wpAny_notIn_heap (tupleKind_room_in1 hu) (key_of I.hok eb) hd dd ?_
    have q := (rel.val k).isSome_eq
    rw [Option.isSome_map] at q
    rw [← q, ← l]
    exact h _ (I.tok _)
/-- a dict's object is replaced -/
theorem d_write {h' : Heap} {t' : Nat} {ob : HO} (I : Inv X pins σ H s) (mu : Mut (H a)) (hs : Heap.SameBut a s.heap h') (he : ∃ q, h'.get? a = some q) (new : ObjOk X.prog X.w (upd H a ob) h' a ob) :
    Inv X pins σ (upd H a ob) { s with heap := h', toks := t' } :=
  I.write (x := a) (e := a) mu (.inl rfl) (fun b q hb z => (hs.2 b hb).trans z) he new
theorem dk_new {P : Program} {w : World} {H' : Hp} {h' : Heap} {kvs : List (Key × V)} {vs : List (Key × Value)} (z : kvs.length ≤ sizeLine) (hd : (a == sysModules) = false) (rel : KV kvs vs) (dd : h'.DictOf (mixKind P w) a vs) :
    ObjOk P w H' h' a (.dK kvs) := ⟨z, hd, vs, rel, dd⟩
/-- d[y] = v -/
theorem d_setItem {H' : Hp} {Q : Unit → Shared → Prop} (hu : A.units + 1 < cLine) (I : Inv X pins σ H s) (g : DPut H a y v H') (ry : RelV y u) (rv : RelV v r) (h : ∀ s', Inv X pins σ H' s' → Q () s') :
    wpAny (model X.prog X.w) A (setItem (.ref a) u r) Q E s := by
  rcases g with ⟨kvs, k, e, ey, l, eH⟩ | ⟨kvs, k, b, e, ey, eb, l, eH⟩
  · subst ey eH
    obtain ⟨z, hd, vs, rel, dd⟩ := dk_of I.hok e
    have hz : vs.length ≤ sizeLine := by rw [← rel.length]; exact z
    have hl : (putK kvs k v).length ≤ sizeLine := by have := length_putK kvs k v; omega
    refine wpAny_setItem_pairs (hsz := hz) (kV_is ry) dd fun h' dd' hs => h _ ?_
    have he : ∃ q, h'.get? a = some q := let ⟨q, _, _, hq, _⟩ := dd'; ⟨q, hq⟩
    exact d_write I (by rw [e]; exact True.intro) hs he (dk_new hl hd (rel.put k rv) dd')
  · subst ey eH
    cases (show u = Value.ref b from ry)
    obtain ⟨z, hd, xs, rel, dd⟩ := dt_of I.hok e
    have hz : xs.length ≤ sizeLine := by rw [← Paired.length rel]; exact z
    have hl : (putK kvs k v).length ≤ sizeLine := by have := length_putK kvs k v; omega
    refine wpAny_setItem_heap (hsz := hz) (tupleKind_room_in1 hu) (key_of I.hok eb) dd fun h' dd' hs => h _ ?_
    obtain ⟨q, es, ep, hq, h2, h3, h4, _, h5⟩ := dd'
    refine d_write I (by rw [e]; exact True.intro) hs ⟨q, hq⟩ ⟨hl, hd, _, (rel.put k eb rv).keeps fun c ys ec => ?_, q, es, ep, hq, h2, h3, h4, h5⟩
    rw [upd_ne (ne_of ec e (fun z => nomatch z))]
    exact ec
end

section
variable {X : Cx} {pins : List (Addr × Obj)} {σ : St} {H : Hp} {s : Shared} {a : Addr} {kvs : List (Key × V)} {k : Key} {u : Value} {A : Around} {E : Value → Shared → Prop}
/-- del d[k] -/
theorem d_delItem {Q : Unit → Shared → Prop} (I : Inv X pins σ H s) (e : H a = some (.dK kvs)) (ry : RelV (kV k) u) (l : (valV kvs k).isSome = true) (h : ∀ s', Inv X pins σ (upd H a (.dK (dropK kvs k))) s' → Q () s') :
    wpAny (model X.prog X.w) A (delItem (.ref a) u) Q E s := by
  obtain ⟨z, hd, vs, rel, dd⟩ := dk_of I.hok e
  refine wpAny_delItem_slot dd.typeIs (by decide) PySem.F.slot_dict_delitem
    (call_meetsIn PySem.F.slot_dict_delitem dd.typeIs PySem.F.entry_dict_delitem (PySem.F.args_dict_delitem_2 _ _) (meets_dict_delitem_pairs (mixKind X.prog X.w) a (kV_is ry)) ⟨vs, dd, by rw [← rel.length]; exact z, by rw [← (rel.val k).isSome_eq]; exact l, fun h' dd' hs => h _ ?_⟩)
  have he : ∃ q, h'.get? a = some q := let ⟨q, _, _, hq, _⟩ := dd'; ⟨q, hq⟩
  exact d_write I (by rw [e]; exact True.intro) hs he (dk_new (Nat.le_trans (dropK_le kvs k) z) hd (rel.drop k) dd')
/-- d.pop(k[, x]), there -/
theorem d_pop {v : V} {more : List Value} {Q : Value → Shared → Prop} (I : Inv X pins σ H s) (e : H a = some (.dK kvs)) (ry : RelV (kV k) u) (l : valV kvs k = some v) (hm : more = [] ∨ ∃ x, more = [x])
    (h : ∀ w' s', Inv X pins σ (upd H a (.dK (dropK kvs k))) s' → RelV v w' → Q w' s') : wpAny (model X.prog X.w) A (call (.builtin "dict.pop") (.ref a :: u :: more)) Q E s := by
  obtain ⟨z, hd, vs, rel, dd⟩ := dk_of I.hok e
  obtain ⟨w', hw, rw'⟩ := RelO.some_of (v := v) (o := valueAt vs k) (by rw [← l]; exact rel.val k)
  have hp : (keyPart u).isSome = true := by
    cases k with
    | inl i => obtain ⟨t, q⟩ := (show ∃ t, u = Value.int i t from ry); subst q; rfl
    | inr x => obtain ⟨t, q⟩ := (show ∃ t, u = Value.str x t from ry); subst q; rfl
  have ha : argsOk "dict.pop" ⟨.ref a :: u :: more, []⟩ := by
    rcases hm with q | ⟨x, q⟩
    · subst q; exact PySem.F.args_dict_pop_2 _ _
    · subst q; exact PySem.F.args_dict_pop_3 _ _ _
  refine call_meetsIn PySem.F.slot_dict_pop dd.typeIs PySem.F.entry_dict_pop ha (meets_dict_pop_there (mixKind X.prog X.w) a (kV_is ry) more hm hp)
    ⟨vs, w', dd, by rw [← rel.length]; exact z, hw, fun h' dd' hs => h w' _ ?_ rw'⟩
  have he : ∃ q, h'.get? a = some q := let ⟨q, _, _, hq, _⟩ := dd'; ⟨q, hq⟩
  exact d_write I (by rw [e]; exact True.intro) hs he (dk_new (Nat.le_trans (dropK_le kvs k) z) hd (rel.drop k) dd')
/-- d.pop(k, x), not there -/
theorem d_popD {r : Value} {Q : Value → Shared → Prop} (I : Inv X pins σ H s) (e : H a = some (.dK kvs)) (ry : RelV (kV k) u) (l : valV kvs k = none) (h : ∀ s', Inv X pins σ H s' → Q r s') :
    wpAny (model X.prog X.w) A (call (.builtin "dict.pop") [.ref a, u, r]) Q E s := by
  obtain ⟨z, hd, vs, rel, dd⟩ := dk_of I.hok e
  have hn : valueAt vs k = none := RelO.none_of (by rw [← l]; exact rel.val k)
  have hp : (keyPart u).isSome = true := by
    cases k with
    | inl i => obtain ⟨t, q⟩ := (show ∃ t, u = Value.int i t from ry); subst q; rfl
    | inr x => obtain ⟨t, q⟩ := (show ∃ t, u = Value.str x t from ry); subst q; rfl
  exact call_meetsIn PySem.F.slot_dict_pop dd.typeIs PySem.F.entry_dict_pop (PySem.F.args_dict_pop_3 _ _ _) (meets_dict_pop_default (mixKind X.prog X.w) a (kV_is ry) hd hp r) ⟨vs, dd, hn, h _ (I.tok _)⟩
/-- d.clear() -/
theorem d_clear {Q : Value → Shared → Prop} (I : Inv X pins σ H s) (e : H a = some (.dK kvs)) (h : ∀ s', Inv X pins σ (upd H a (.dK [])) s' → Q .none s') : wpAny (model X.prog X.w) A (call (.builtin "dict.clear") [.ref a]) Q E s := by
  obtain ⟨z, hd, vs, rel, dd⟩ := dk_of I.hok e
  refine call_meetsIn PySem.F.slot_dict_clear dd.typeIs PySem.F.entry_dict_clear (PySem.F.args_dict_clear_1 _) (meets_dict_clear (mixKind X.prog X.w) a) ⟨vs, dd, by rw [← rel.length]; exact z, fun h' dd' hs => h _ ?_⟩
  have he : ∃ q, h'.get? a = some q := let ⟨q, _, _, hq, _⟩ := dd'; ⟨q, hq⟩
  exact d_write (t' := s.toks) I (by rw [e]; exact True.intro) hs he (dk_new (Nat.zero_le _) hd .nil dd')
/-- len(d) -/
theorem d_len {Q : Value → Shared → Prop} (I : Inv X pins σ H s) (e : Rd H a (.dK kvs)) (h : ∀ t s', Inv X pins σ H s' → Q (.int kvs.length t) s') : wpAny (model X.prog X.w) A (call (.builtin "len") [.ref a]) Q E s := by
  obtain ⟨z, hd, vs, rel, dd⟩ := dk_rd I.hok e
  refine call_len_dict hd dd (by rw [← rel.length]; rw [sizeLine_eq] at z; omega) ?_
  rw [← rel.length]
  exact h _ _ (I.tok _)
/-- if d -/
theorem d_truth {Q : Bool → Shared → Prop} (I : Inv X pins σ H s) (e : Rd H a (.dK kvs)) (h : ∀ s', Inv X pins σ H s' → Q (!kvs.isEmpty) s') : wpAny (model X.prog X.w) A (truthy (.ref a)) Q E s := by
  obtain ⟨z, hd, vs, rel, dd⟩ := dk_rd I.hok e
  refine wpAny_truthy_dict hd dd (by rw [← rel.length]; rw [sizeLine_eq] at z; omega) ?_
  have q : kvs.isEmpty = vs.isEmpty := by cases rel <;> rfl
  rw [← q]
  exact h _ (I.tok _)
end


/-! ### readings and rules -/
/-- the element of a subscription, not a slice -/
def NoSl (i : Expr) : Prop := ∀ ov iv, subscripted i false ov iv = operate [ov, iv] (getItem ov iv)
theorem subD_of {prog : Program} {w : World} {A : Around} {E : Value → Shared → Prop} {s : Shared} {env : Env} {value slice : Expr} {pos : Pos} {T id : String} {Q : Value → Shared → Prop}
    (hl : typeLookup (.type T) "__getitem__" = pure (some (.builtin id))) (hs : NoSl slice)
    (h : wpAny (model prog w) A (eval value env) (fun o s₁ => wpAny (model prog w) A (eval slice env) (fun i s₂ => s₂.TypeIs o T ∧ wpAny (model prog w) A (getItem o i) Q E s₂) E s₁) E s) :
    wpAny (model prog w) A (eval (.Subscript value slice pos) env) Q E s := by
  refine Subscript_ (wpAny_mono h (fun o s₁ h₁ => wpAny_mono h₁ (fun i s₂ h₂ => ?_) fun _ _ x => x) fun _ _ x => x)
  obtain ⟨hT, h₂⟩ := h₂
  unfold subscriptTail
  refine wpAny_bind ?_
  rw [getitemInPython_of_ne hT.not_modules]
  refine wpAny_bind (wpAny_specialOf hT hl ?_)
  have fin : wpAny (model prog w) A (subscripted slice false o i) (fun r s₃ => wpAny (model prog w) A (letTemporaryGo value o r >>= fun _ => pure r) Q E s₃) E s₂ := by
    rw [hs o i]
    exact wpAny_operating (wpAny_mono h₂ (fun r s₃ h₃ => wpAny_bind (wpAny_letTemporaryGo (wpAny_pure h₃))) fun _ _ x => x)
  first
    | exact wpAny_pure (wpAny_bind fin)
    | exact wpAny_bind (wpAny_pure (wpAny_bind fin))
    | exact wpAny_bind fin

theorem dict_typeIs {X : Cx} {pins : List (Addr × Obj)} {σ : St} {H : Hp} {s : Shared} {a : Addr} {y : V} {o : Option V} (I : Inv X pins σ H s) (g : DGet H a y o) : s.TypeIs (.ref a) "dict" := by
  rcases g with ⟨kvs, k, e, _, _⟩ | ⟨kvs, k, b, e, _, _, _⟩
  · obtain ⟨_, _, vs, _, dd⟩ := dk_rd I.hok e
    exact dd.typeIs
  · obtain ⟨_, _, xs, _, dd⟩ := dt_rd I.hok e
    exact dd.typeIs
theorem dict_noDict {X : Cx} {pins : List (Addr × Obj)} {σ : St} {H : Hp} {s : Shared} {a : Addr} {y : V} {o : Option V} (I : Inv X pins σ H s) (g : DGet H a y o) :
    ∀ b, Value.ref a = .ref b → ∃ ob, s.heap.get? b = some ob ∧ ob.dict = none := fun b q => by
  cases q
  rcases g with ⟨kvs, k, e, _, _⟩ | ⟨kvs, k, b, e, _, _, _⟩
  · obtain ⟨_, _, vs, _, ob, _, _, h1, h2, _⟩ := dk_rd I.hok e
    exact ⟨ob, h1, h2.2.1⟩
  · obtain ⟨_, _, xs, _, ob, _, _, h1, h2, _⟩ := dt_rd I.hok e
    exact ⟨ob, h1, h2.2.1⟩

/-- d[y] -/
def tDGet (td ty : TE) : TE := fun σ H Q => td σ H fun x H1 => ty σ H1 fun y H2 => ∃ a v, x = .ref a ∧ DGet H2 a y (some v) ∧ Q v H2
/-- y in d, y not in d -/
def tDIn (ty td : TE) : TE := fun σ H Q => ty σ H fun y H1 => td σ H1 fun x H2 => ∃ a o, x = .ref a ∧ DGet H2 a y o ∧ Q (.bl o.isSome) H2
def tDNotIn (ty td : TE) : TE := fun σ H Q => ty σ H fun y H1 => td σ H1 fun x H2 => ∃ a o, x = .ref a ∧ DGet H2 a y o ∧ Q (.bl (!o.isSome)) H2
/-- d[y] = v -/
def sDPut (td ty tv : TE) : TS := fun D σ H => tv σ H fun v H1 => td σ H1 fun x H2 => ty σ H2 fun y H3 => ∃ a H4, x = .ref a ∧ DPut H3 a y v H4 ∧ D.nx σ H4
/-- d[y] op= v -/
def sDAug (td ty tv : TE) (rd : V → V → Hp → VK → Prop) : TS := fun D σ H => td σ H fun x H1 => ty σ H1 fun y H2 => ∃ a v, x = .ref a ∧ DGet H2 a y (some v) ∧
  tv σ H2 fun y2 H3 => rd v y2 H3 fun z H4 => ∃ H5, DPut H4 a y z H5 ∧ D.nx σ H5
/-- del d[y] -/
def sDDel (td ty : TE) : TS := fun D σ H => td σ H fun x H1 => ty σ H1 fun y H2 => ∃ a kvs k, x = .ref a ∧ H2 a = some (.dK kvs) ∧ y = kV k ∧ (valV kvs k).isSome = true ∧ D.nx σ (upd H2 a (.dK (dropK kvs k)))

section
variable {X : Cx} {o i e value : Expr} {pos pos' tpos : Pos} {td ty tv : TE}
theorem pe_dget (hu : X.A.units + 1 < cLine) (ho : PE X o td) (hi : PE X i ty) (hs : NoSl i) : PE X (.Subscript o i pos) (tDGet td ty) := by
  intro pins s σ H Q I h
  refine subD_of PySem.F.slot_dict_getitem.lookup hs (thn (ho pins s σ H _ I h) fun u s1 ⟨x, H1, I1, rx, q1⟩ => thn (hi pins s1 σ H1 _ I1 q1) fun iv s2 ⟨y, H2, I2, ry, a, v, ex, g, q2⟩ => ?_)
  subst ex
  obtain rfl : u = Value.ref a := rx
  exact ⟨dict_typeIs I2 g, d_getItem hu I2 g ry fun w' s3 I3 rw' => ⟨v, H2, I3, rw', q2⟩⟩
theorem pc_din (hu : X.A.units + 1 < cLine) (hi : PE X i ty) (ho : PE X o td) : PC X .In i o (tDIn ty td) := by
  intro pins s σ H Q I h
  refine thn (hi pins s σ H _ I h) fun iv s1 ⟨y, H1, I1, ry, q1⟩ => thn (ho pins s1 σ H1 _ I1 q1) fun u s2 ⟨x, H2, I2, rx, a, ov, ex, g, q2⟩ => ?_
  subst ex
  obtain rfl : u = Value.ref a := rx
  exact d_in hu I2 g ry fun s3 I3 => ⟨.bl ov.isSome, H2, I3, rfl, q2⟩
theorem pc_dnotin (hu : X.A.units + 1 < cLine) (hi : PE X i ty) (ho : PE X o td) : PC X .NotIn i o (tDNotIn ty td) := by
  intro pins s σ H Q I h
  refine thn (hi pins s σ H _ I h) fun iv s1 ⟨y, H1, I1, ry, q1⟩ => thn (ho pins s1 σ H1 _ I1 q1) fun u s2 ⟨x, H2, I2, rx, a, ov, ex, g, q2⟩ => ?_
  subst ex
  obtain rfl : u = Value.ref a := rx
  exact d_notIn hu I2 g ry fun s3 I3 => ⟨.bl (!ov.isSome), H2, I3, rfl, q2⟩
theorem ps_dput (hu : X.A.units + 1 < cLine) (ho : PE X o td) (hi : PE X i ty) (hv : PE X value tv) (hs : swapsWith value (some (.Subscript o i pos')) pos.line X.env = pure false) :
    PS X (.Assign [.Subscript o i pos'] value pos) (sDPut td ty tv) := by
  intro pins s σ H D I h
  refine wpAny_Assign_Subscript (thn (hv pins s σ H _ I h) fun r s1 ⟨v, H1, I1, rv, q1⟩ => thn (ho pins s1 σ H1 _ I1 q1) fun u s2 ⟨x, H2, I2, rx, q2⟩ => thn (hi pins s2 σ H2 _ I2 q2) fun iv s3 ⟨y, H3, I3, ry, a, H4, ex, g, q3⟩ => ?_) hs
  subst ex
  obtain rfl : u = Value.ref a := rx
  exact d_setItem hu I3 g ry rv fun s4 I4 => ⟨σ, H4, I4, q3⟩
theorem ps_daug {op : Operator} {rd : V → V → Hp → VK → Prop} (hu : X.A.units + 1 < cLine) (ho : PE X o td) (hi : PE X i ty) (hv : PE X value tv) (hop : InOp X op rd)
    (ha : ∀ ov iv new, augStore i ov iv new = (do holding [new, ov, iv] (setItem ov iv new); release [new, ov, iv] []; pure .next)) : PS X (.AugAssign (.Subscript o i tpos) op value pos) (sDAug td ty tv rd) := by
  intro pins s σ H D I h
  refine wpAny_AugAssign_SubscriptAny (thn (ho pins s σ H _ I h) fun u s1 ⟨x, H1, I1, rx, q1⟩ => thn (hi pins s1 σ H1 _ I1 q1) fun iv s2 ⟨y, H2, I2, ry, a, v, ex, g, q2⟩ => ?_) ha
  subst ex
  obtain rfl : u = Value.ref a := rx
  refine d_getItem hu I2 g ry fun w' s3 I3 rw' => thn (hv pins s3 σ H2 _ I3 q2) fun w2 s4 ⟨y2, H3, I4, ry2, q3⟩ => thn (hop pins s4 σ H3 v y2 w' w2 _ I4 rw' ry2 q3) fun w3 s5 ⟨z, H4, I5, rz, H5, g5, q4⟩ => ?_
  exact d_setItem hu I5 g5 ry rz fun s6 I6 => ⟨σ, H5, I6, q4⟩
theorem ps_ddel (ho : PE X o td) (hi : PE X i ty) : PS X (.Delete [.Subscript o i tpos] pos) (sDDel td ty) := by
  intro pins s σ H D I h
  refine wpAny_Delete (wpAny_deleteEach_cons (wpAny_delete_Subscript (thn (ho pins s σ H _ I h) fun u s1 ⟨x, H1, I1, rx, q1⟩ => thn (hi pins s1 σ H1 _ I1 q1) fun iv s2 ⟨y, H2, I2, ry, a, kvs, k, ex, e, ey, l, q2⟩ => ?_)))
  subst ex ey
  obtain rfl : u = Value.ref a := rx
  exact d_delItem I2 e ry l fun s3 I3 => wpAny_deleteEach_nil ⟨σ, _, I3, q2⟩
end


/-! ### displays -/
theorem dk_empty {P : Program} {w : World} {H : Hp} (h : Heap) (hb : sysModules < h.objs.size) : ObjOk P w H (h.push { cls := .type "dict", data := .dict #[] }) h.objs.size (.dK []) :=
  ⟨Nat.zero_le _, beq_eq_false_iff_ne.mpr (Ne.symm (Nat.ne_of_lt hb)), [], .nil, Heap.DictOf.new h⟩
theorem dt_empty {P : Program} {w : World} {H : Hp} (h : Heap) (hb : sysModules < h.objs.size) : ObjOk P w H (h.push { cls := .type "dict", data := .dict #[] }) h.objs.size (.dT []) :=
  ⟨Nat.zero_le _, beq_eq_false_iff_ne.mpr (Ne.symm (Nat.ne_of_lt hb)), [], .nil, _, #[], 0, Heap.get?_push_size _ rfl, ⟨rfl, rfl, rfl⟩, rfl, rfl, List.nodup_nil⟩
/-- {}, to be a dict of the kind that is wanted -/
def tDNewK : TE := fun _ H Q => ∀ p, H p = none → Q (.ref p) (upd H p (.dK []))
def tDNewT : TE := fun _ H Q => ∀ p, H p = none → Q (.ref p) (upd H p (.dT []))
section
variable {X : Cx} {pos : Pos}
theorem pe_dnewK : PE X (.Dict [] [] pos) tDNewK := fun pins s σ H Q I h =>
  wpAny_Dict_empty ⟨.ref s.heap.objs.size, _, I.laid (a := s.heap.objs.size) (o := .dK []) (t' := s.toks) (fun _ _ q => Heap.get?_push_of_some _ q) (Nat.le_refl _) (dk_empty s.heap I.big), rfl, h _ (I.hok.fresh (Nat.le_refl _))⟩
theorem pe_dnewT : PE X (.Dict [] [] pos) tDNewT := fun pins s σ H Q I h =>
  wpAny_Dict_empty ⟨.ref s.heap.objs.size, _, I.laid (a := s.heap.objs.size) (o := .dT []) (t' := s.toks) (fun _ _ q => Heap.get?_push_of_some _ q) (Nat.le_refl _) (dt_empty s.heap I.big), rfl, h _ (I.hok.fresh (Nat.le_refl _))⟩
end

/-- the pairs of a display, from the left -/
def tPairs : List (TE × TE) → St → Hp → (List (V × V) → Hp → Prop) → Prop
  | [], _, H, Q => Q [] H
  | (tk, tv) :: r, σ, H, Q => tk σ H fun x H1 => tv σ H1 fun y H2 => tPairs r σ H2 fun ps H3 => Q ((x, y) :: ps) H3
abbrev VV : List (V × V) → List (Value × Value) → Prop := Paired fun p q => RelV p.1 q.1 ∧ RelV p.2 q.2
def PPs (X : Cx) (pos : Pos) (keys : List (Option Expr)) (values : List Expr) (trs : List (TE × TE)) : Prop :=
  ∀ (pins : List (Addr × Obj)) (s : Shared) (σ : St) (H : Hp) (Q : List (V × V) → Hp → Prop), Inv X pins σ H s → tPairs trs σ H Q →
    wpAny (model X.prog X.w) X.A (evalPairs (pairTrees keys values X.env pos)) (fun vs s' => ∃ ps H', Inv X pins σ H' s' ∧ VV ps vs ∧ Q ps H') X.xe s
theorem pps_nil {X : Cx} {pos : Pos} : PPs X pos [] [] [] := fun pins s σ H Q I h => pairTrees_nil_walk ⟨[], H, I, .nil, h⟩
theorem pps_cons {X : Cx} {pos : Pos} {k v : Expr} {ks : List (Option Expr)} {vs : List Expr} {tk tv : TE} {trs : List (TE × TE)} (hk : PE X k tk) (hv : PE X v tv) (hr : PPs X pos ks vs trs) :
    PPs X pos (some k :: ks) (v :: vs) ((tk, tv) :: trs) := fun pins s σ H Q I h =>
  pairTrees_cons_walk (thn (hk pins s σ H _ I h) fun u s1 ⟨x, H1, I1, rx, q1⟩ => thn (hv pins s1 σ H1 _ I1 q1) fun w2 s2 ⟨y, H2, I2, ry, q2⟩ =>
    thn (hr pins s2 σ H2 _ I2 q2) fun ws s3 ⟨ps, H3, I3, rel, q3⟩ => ⟨(x, y) :: ps, H3, I3, .cons ⟨rx, ry⟩ rel, q3⟩)

def mergeK (kvs more : List (Key × V)) : List (Key × V) := more.foldl (fun acc kv => putK acc kv.1 kv.2) kvs
theorem KV.merge : ∀ {more : List (Key × V)} {rs : List (Key × Value)} {kvs : List (Key × V)} {vs : List (Key × Value)}, KV more rs → KV kvs vs → KV (mergeK kvs more) (merged vs rs) := by
  intro more rs kvs vs r
  unfold KV at r
  induction r generalizing kvs vs with
  | nil => intro q; exact q
  | @cons p q ps qs h t ih =>
    intro r0
    have e : KV (putK kvs p.1 p.2) (stored vs q.1 q.2) := by
      have := r0.put p.1 h.2
      rw [← h.1]; exact this
    exact ih e
theorem length_mergeK : ∀ (more kvs : List (Key × V)), (mergeK kvs more).length ≤ kvs.length + more.length
  | [], kvs => by show kvs.length ≤ kvs.length + 0; omega
  | p :: r, kvs => by
    have h1 := length_mergeK r (putK kvs p.1 p.2)
    have h2 := length_putK kvs p.1 p.2
    show (mergeK (putK kvs p.1 p.2) r).length ≤ _
    rw [List.length_cons]; omega
theorem carries_of {P : Program} {w : World} : ∀ {kvs : List (Key × V)} {ws : List (Value × Value)}, VV (kvs.map fun kv => (kV kv.1, kv.2)) ws → ∃ rs, Carries (mixKind P w) ws rs ∧ KV kvs rs
  | [], _, r => by rw [List.map_nil] at r; cases r; exact ⟨[], True.intro, .nil⟩
  | p :: kvs, _, r => by
    rw [List.map_cons] at r
    cases r with
    | @cons a b as bs h t =>
      obtain ⟨rs, c, q⟩ := carries_of (P := P) (w := w) t
      obtain ⟨b1, b2⟩ := b
      exact ⟨(p.1, b2) :: rs, ⟨kV_is h.1, rfl, c⟩, .cons ⟨rfl, h.2⟩ q⟩
/-- {k: v, ..} with keys ints and texts; the new dict stands empty while the pairs are made -/
def tDisp (trs : List (TE × TE)) : TE := fun σ H Q => ∀ p, H p = none → tPairs trs σ (upd H p (.dK [])) fun ps H2 => H2 p = some (.dK []) ∧ ∃ kvs : List (Key × V), ps = kvs.map (fun kv => (kV kv.1, kv.2)) ∧ kvs.length ≤ 15 ∧ Q (.ref p) (upd H2 p (.dK (mergeK [] kvs)))
theorem pe_disp {X : Cx} {pos : Pos} {keys : List (Option Expr)} {values : List Expr} {trs : List (TE × TE)} (h : PPs X pos keys values trs) (hall : keys.all (·.isSome) = true) (hl : keys.length = values.length) (h0 : keys ≠ [])
    (h15 : keys.length ≤ 15) : PE X (.Dict keys values pos) (tDisp trs) := by
  intro pins s σ H Q I q
  have hn := I.hok.fresh (Nat.le_refl s.heap.objs.size)
  have I1 := I.laid (a := s.heap.objs.size) (o := .dK []) (h' := s.heap.push { cls := .type "dict", data := .dict #[] }) (t' := s.toks) (fun _ _ q => Heap.get?_push_of_some _ q) (Nat.le_refl _) (dk_empty s.heap I.big)
  refine wpAny_Dict_walk (knd := mixKind X.prog X.w) hall hl h0 h15 (thn (h pins _ σ _ _ I1 (q _ hn)) fun ws s2 ⟨ps, H2, I2, rel, e, kvs, ep, lk, q2⟩ => ?_)
  subst ep
  obtain ⟨rs, c, rk⟩ := carries_of (P := X.prog) (w := X.w) rel
  obtain ⟨z, hd, vs0, r0, dd⟩ := dk_of I2.hok e
  cases r0
  refine ⟨rs, c, dd, fun h' dd' hs => ⟨.ref s.heap.objs.size, _, ?_, rfl, q2⟩⟩
  have hz : (mergeK [] kvs).length ≤ sizeLine := by
    have h1 := length_mergeK kvs []
    rw [List.length_nil] at h1
    rw [sizeLine_eq]; omega
  have he : ∃ q, h'.get? s.heap.objs.size = some q := let ⟨q, _, _, hq, _⟩ := dd'; ⟨q, hq⟩
  exact d_write I2 (by rw [e]; exact True.intro) hs he (dk_new hz hd (rk.merge .nil) dd')


/-! ### methods -/
/-- a method call o.m(e) of a built-in, with one argument: what must be seen of the text -/
structure M1 (X : Cx) (o : Expr) (m : Str) (apos : Pos) (e : Expr) (cpos : Pos) : Prop where
  base : attributeBase o m X.env (eval o X.env) = eval o X.env
  few : ((backTo cpos (starEach [e] X.env)).all (fun x => !x.1) && (backToKw cpos (keywordEach [] X.env)).all (fun x => x.1.isSome)
    && decide (([e] : List Expr).length + ([] : List Keyword).length + (if ([] : List Keyword).isEmpty then 0 else 1) < 30)) = true
  line : (apos.endLine == cpos.line) = true
  trees : backTo cpos (starEach [e] X.env) = [(false, eval e X.env)]
structure M2 (X : Cx) (o : Expr) (m : Str) (apos : Pos) (e f : Expr) (cpos : Pos) : Prop where
  base : attributeBase o m X.env (eval o X.env) = eval o X.env
  few : ((backTo cpos (starEach [e, f] X.env)).all (fun x => !x.1) && (backToKw cpos (keywordEach [] X.env)).all (fun x => x.1.isSome)
    && decide (([e, f] : List Expr).length + ([] : List Keyword).length + (if ([] : List Keyword).isEmpty then 0 else 1) < 30)) = true
  line : (apos.endLine == cpos.line) = true
  trees : backTo cpos (starEach [e, f] X.env) = [(false, eval e X.env), (false, eval f X.env)]

/-- a is a dict, whatever its keys -/
def IsD (H : Hp) (a : Addr) : Prop := (∃ kvs, Rd H a (.dK kvs)) ∨ ∃ kvs, Rd H a (.dT kvs)
theorem isD_at {X : Cx} {pins : List (Addr × Obj)} {σ : St} {H : Hp} {s : Shared} {a : Addr} (I : Inv X pins σ H s) (d : IsD H a) :
    s.TypeIs (.ref a) "dict" ∧ (∀ b, Value.ref a = .ref b → ∃ ob, s.heap.get? b = some ob ∧ ob.dict = none) ∧ (a == sysModules) = false := by
  rcases d with ⟨kvs, e⟩ | ⟨kvs, e⟩
  · obtain ⟨_, hd, vs, _, dd⟩ := dk_rd I.hok e
    refine ⟨dd.typeIs, fun b q => ?_, hd⟩
    cases q
    obtain ⟨ob, _, _, h1, h2, _⟩ := dd
    exact ⟨ob, h1, h2.2.1⟩
  · obtain ⟨_, hd, xs, _, dd⟩ := dt_rd I.hok e
    refine ⟨dd.typeIs, fun b q => ?_, hd⟩
    cases q
    obtain ⟨ob, _, _, h1, h2, _⟩ := dd
    exact ⟨ob, h1, h2.2.1⟩

section
variable {X : Cx} {pins : List (Addr × Obj)} {σ : St} {H : Hp} {s : Shared} {a : Addr} {y d : V} {u r : Value} {o : Option V} {A : Around} {E : Value → Shared → Prop}
/-- d.get(y) -/
theorem d_get1 {Q : Value → Shared → Prop} (hu : A.units + 1 < cLine) (I : Inv X pins σ H s) (g : DGet H a y o) (ry : RelV y u) (h : ∀ w' s', Inv X pins σ H s' → RelV (o.getD .non) w' → Q w' s') :
    wpAny (model X.prog X.w) A (call (.builtin "dict.get") [.ref a, u]) Q E s := by
  rcases g with ⟨kvs, k, e, ey, l⟩ | ⟨kvs, k, b, e, ey, eb, l⟩
  · subst ey
    obtain ⟨z, hd, vs, rel, dd⟩ := dk_rd I.hok e
    refine call_meetsIn PySem.F.slot_dict_get dd.typeIs PySem.F.entry_dict_get (PySem.F.args_dict_get_2 _ _) (meets_dict_get (mixKind X.prog X.w) a (kV_is ry) hd) ⟨_, dd.mapOf, h _ _ (I.tok _) ?_⟩
    rw [l]
    exact (rel.val k).getD rfl
  · subst ey
    cases (show u = Value.ref b from ry)
    obtain ⟨z, hd, xs, rel, dd⟩ := dt_rd I.hok e
    refine call_meetsIn PySem.F.slot_dict_get dd.typeIs PySem.F.entry_dict_get (PySem.F.args_dict_get_2 _ _) (meetsH_dict_get (tupleKind (mixKind X.prog X.w)) a b hd) ⟨tupleKind_room_in1 hu, k, xs, key_of I.hok eb, dd, h _ _ (I.tok _) ?_⟩
    rw [l]
    exact (rel.val k).getD rfl
/-- d.get(y, x) -/
theorem d_get2 {Q : Value → Shared → Prop} (hu : A.units + 1 < cLine) (I : Inv X pins σ H s) (g : DGet H a y o) (ry : RelV y u) (rd : RelV d r) (h : ∀ w' s', Inv X pins σ H s' → RelV (o.getD d) w' → Q w' s') :
    wpAny (model X.prog X.w) A (call (.builtin "dict.get") [.ref a, u, r]) Q E s := by
  rcases g with ⟨kvs, k, e, ey, l⟩ | ⟨kvs, k, b, e, ey, eb, l⟩
  · subst ey
    obtain ⟨z, hd, vs, rel, dd⟩ := dk_rd I.hok e
    refine call_meetsIn PySem.F.slot_dict_get dd.typeIs PySem.F.entry_dict_get (PySem.F.args_dict_get_3 _ _ _) (meets_dict_get_default (mixKind X.prog X.w) a (kV_is ry) hd r) ⟨_, dd.mapOf, h _ _ (I.tok _) ?_⟩
    rw [l]
    exact (rel.val k).getD rd
  · subst ey
    cases (show u = Value.ref b from ry)
    obtain ⟨z, hd, xs, rel, dd⟩ := dt_rd I.hok e
    refine call_meetsIn PySem.F.slot_dict_get dd.typeIs PySem.F.entry_dict_get (PySem.F.args_dict_get_3 _ _ _) (meetsH_dict_get_default (tupleKind (mixKind X.prog X.w)) a b hd r) ⟨tupleKind_room_in1 hu, k, xs, key_of I.hok eb, dd, h _ _ (I.tok _) ?_⟩
    rw [l]
    exact (rel.val k).getD rd
end

def tDGet1 (td ty : TE) : TE := fun σ H Q => td σ H fun x H1 => ∃ a, x = .ref a ∧ IsD H1 a ∧ ty σ H1 fun y H2 => ∃ o, DGet H2 a y o ∧ Q (o.getD .non) H2
def tDGet2 (td ty tx : TE) : TE := fun σ H Q => td σ H fun x H1 => ∃ a, x = .ref a ∧ IsD H1 a ∧ ty σ H1 fun y H2 => tx σ H2 fun z H3 => ∃ o, DGet H3 a y o ∧ Q (o.getD z) H3
/-- d.pop(k): there; d.pop(k, x): there or not -/
def tDPop1 (td ty : TE) : TE := fun σ H Q => td σ H fun x H1 => ∃ a, x = .ref a ∧ IsD H1 a ∧ ty σ H1 fun y H2 => ∃ kvs k v, H2 a = some (.dK kvs) ∧ y = kV k ∧ valV kvs k = some v ∧ Q v (upd H2 a (.dK (dropK kvs k)))
def tDPop2 (td ty tx : TE) : TE := fun σ H Q => td σ H fun x H1 => ∃ a, x = .ref a ∧ IsD H1 a ∧ ty σ H1 fun y H2 => tx σ H2 fun z H3 => ∃ kvs k, H3 a = some (.dK kvs) ∧ y = kV k ∧
  (∀ v, valV kvs k = some v → Q v (upd H3 a (.dK (dropK kvs k)))) ∧ (valV kvs k = none → Q z H3)
section
variable {X : Cx} {o e f : Expr} {apos cpos : Pos} {td ty tx : TE}
theorem pe_dget1 (hu : X.A.units + 1 < cLine) (ho : PE X o td) (he : PE X e ty) (m : M1 X o "get" apos e cpos) : PE X (.Call (.Attribute o "get" apos) [e] [] cpos) (tDGet1 td ty) := by
  intro pins s σ H Q I h
  refine wpAny_Call_method m.base m.few m.line PySem.F.plainAttrs_dict PySem.F.slot_dict_get PySem.F.type_dict_get (thn (ho pins s σ H _ I h) fun u s1 ⟨x, H1, I1, rx, a, ex, d, q1⟩ => ?_)
  subst ex
  obtain rfl : u = Value.ref a := rx
  obtain ⟨t1, t2, _⟩ := isD_at I1 d
  refine ⟨t1, t2, ?_⟩
  rw [m.trees]
  refine Calls.callWith_builtin rfl (Calls.evalArgs_plain (Calls.spliced_cons (thn (he pins s1 σ H1 _ I1 q1) fun iv s2 ⟨y, H2, I2, ry, ov, g, q2⟩ => Calls.spliced_nil ?_)))
  exact d_get1 hu I2 g ry fun w' s3 I3 rw' => ⟨_, H2, I3, rw', q2⟩
theorem pe_dget2 (hu : X.A.units + 1 < cLine) (ho : PE X o td) (he : PE X e ty) (hf : PE X f tx) (m : M2 X o "get" apos e f cpos) : PE X (.Call (.Attribute o "get" apos) [e, f] [] cpos) (tDGet2 td ty tx) := by
  intro pins s σ H Q I h
  refine wpAny_Call_method m.base m.few m.line PySem.F.plainAttrs_dict PySem.F.slot_dict_get PySem.F.type_dict_get (thn (ho pins s σ H _ I h) fun u s1 ⟨x, H1, I1, rx, a, ex, d, q1⟩ => ?_)
  subst ex
  obtain rfl : u = Value.ref a := rx
  obtain ⟨t1, t2, _⟩ := isD_at I1 d
  refine ⟨t1, t2, ?_⟩
  rw [m.trees]
  refine Calls.callWith_builtin rfl (Calls.evalArgs_plain (Calls.spliced_cons (thn (he pins s1 σ H1 _ I1 q1) fun iv s2 ⟨y, H2, I2, ry, q2⟩ =>
    Calls.spliced_cons (thn (hf pins s2 σ H2 _ I2 q2) fun fv s3 ⟨z, H3, I3, rz, ov, g, q3⟩ => Calls.spliced_nil ?_))))
  exact d_get2 hu I3 g ry rz fun w' s4 I4 rw' => ⟨_, H3, I4, rw', q3⟩
theorem pe_dpop1 (ho : PE X o td) (he : PE X e ty) (m : M1 X o "pop" apos e cpos) : PE X (.Call (.Attribute o "pop" apos) [e] [] cpos) (tDPop1 td ty) := by
  intro pins s σ H Q I h
  refine wpAny_Call_method m.base m.few m.line PySem.F.plainAttrs_dict PySem.F.slot_dict_pop PySem.F.type_dict_pop (thn (ho pins s σ H _ I h) fun u s1 ⟨x, H1, I1, rx, a, ex, d, q1⟩ => ?_)
  subst ex
  obtain rfl : u = Value.ref a := rx
  obtain ⟨t1, t2, _⟩ := isD_at I1 d
  refine ⟨t1, t2, ?_⟩
  rw [m.trees]
  refine Calls.callWith_builtin rfl (Calls.evalArgs_plain (Calls.spliced_cons (thn (he pins s1 σ H1 _ I1 q1) fun iv s2 ⟨y, H2, I2, ry, kvs, k, v, ea, ey, l, q2⟩ => Calls.spliced_nil ?_)))
  subst ey
  exact d_pop I2 ea ry l (.inl rfl) fun w' s3 I3 rw' => ⟨v, _, I3, rw', q2⟩
theorem pe_dpop2 (ho : PE X o td) (he : PE X e ty) (hf : PE X f tx) (m : M2 X o "pop" apos e f cpos) : PE X (.Call (.Attribute o "pop" apos) [e, f] [] cpos) (tDPop2 td ty tx) := by
  intro pins s σ H Q I h
  refine wpAny_Call_method m.base m.few m.line PySem.F.plainAttrs_dict PySem.F.slot_dict_pop PySem.F.type_dict_pop (thn (ho pins s σ H _ I h) fun u s1 ⟨x, H1, I1, rx, a, ex, d, q1⟩ => ?_)
  subst ex
  obtain rfl : u = Value.ref a := rx
  obtain ⟨t1, t2, _⟩ := isD_at I1 d
  refine ⟨t1, t2, ?_⟩
  rw [m.trees]
  refine Calls.callWith_builtin rfl (Calls.evalArgs_plain (Calls.spliced_cons (thn (he pins s1 σ H1 _ I1 q1) fun iv s2 ⟨y, H2, I2, ry, q2⟩ =>
    Calls.spliced_cons (thn (hf pins s2 σ H2 _ I2 q2) fun fv s3 ⟨z, H3, I3, rz, kvs, k, ea, ey, q3, q4⟩ => Calls.spliced_nil ?_))))
  subst ey
  cases l : valV kvs k with
  | some v => exact d_pop I3 ea ry l (.inr ⟨fv, rfl⟩) fun w' s4 I4 rw' => ⟨v, _, I4, rw', q3 v l⟩
  | none => exact d_popD I3 ea ry l fun s4 I4 => ⟨z, H3, I4, rz, q4 l⟩
end

/-! ### dict(d): a copy -/
section
variable {X : Cx} {pins : List (Addr × Obj)} {σ : St} {H : Hp} {s : Shared} {a : Addr} {kvs : List (Key × V)} {A : Around} {E : Value → Shared → Prop}
theorem d_copyOf {Q : Value → Shared → Prop} (I : Inv X pins σ H s) (e : Rd H a (.dK kvs)) (h : ∀ p s', H p = none → Inv X pins σ (upd H p (.dK kvs)) s' → Q (.ref p) s') : wpAny (model X.prog X.w) A (call (.type "dict") [.ref a]) Q E s := by
  obtain ⟨z, hd, vs, rel, dd⟩ := dk_rd I.hok e
  refine kt_call_dict hd dd (by rw [← rel.length]; exact z) fun h' dd' hs => ?_
  refine h _ _ (I.hok.fresh (Nat.le_refl _)) (I.laid (a := s.heap.objs.size) (o := .dK kvs) (t' := s.toks) (fun b q hq => ?_) (Nat.le_refl _) (dk_new z (beq_eq_false_iff_ne.mpr (Ne.symm (Nat.ne_of_lt I.big))) rel dd'))
  exact (hs.2 b (Nat.ne_of_lt (Heap.lt_size hq))).trans (Heap.get?_push_of_some _ hq)
end


section
variable {X : Cx} {pins : List (Addr × Obj)} {σ : St} {H : Hp} {s : Shared} {a : Addr} {y : V} {u : Value} {A : Around} {E : Value → Shared → Prop}
/-- d[y], not there: a KeyError -/
theorem d_missing {Q : Value → Shared → Prop} (hu : A.units + 1 < cLine) (hh : A.handled = none) (I : Inv X pins σ H s) (g : DGet H a y none) (ry : RelV y u)
    (h : ∀ h' e t', Heap.NewExc s.heap h' e "KeyError" → E (.ref e) { s with heap := h', toks := t' }) : wpAny (model X.prog X.w) A (getItem (.ref a) u) Q E s := by
  rcases g with ⟨kvs, k, e, ey, l⟩ | ⟨kvs, k, b, e, ey, eb, l⟩
  · subst ey
    obtain ⟨z, hd, vs, rel, dd⟩ := dk_rd I.hok e
    have hn : valueAt vs k = none := RelO.none_of (by rw [l]; exact rel.val k)
    exact wpAny_getItem_missing_of (kV_is ry) hd hh dd.mapOf hn fun h' ex ne => h h' ex _ ne
  · subst ey
    cases (show u = Value.ref b from ry)
    obtain ⟨z, hd, xs, rel, dd⟩ := dt_rd I.hok e
    have hn : (atKey xs k).map (·.2) = none := RelO.none_of (by rw [l]; exact rel.val k)
    exact wpAny_getItem_missing_heap (tupleKind_room_in1 hu) (key_of I.hok eb) hd hh dd (Option.map_eq_none_iff.mp hn) fun h' ex ne => h h' ex _ ne
end
end L2

namespace Att
open PySem PySem.W PySem.Calls PyProof.Rows

/-! ### the script -/
theorem ints_of_wellAll {P : Params} {h : Heap} : ∀ (ns : List Int) (vs : List Value), WellAll P h vs (ns.map WData.int) → IntsAre vs ns := by
  intro ns
  induction ns with
  | nil =>
    intro vs w
    rw [List.map_nil] at w
    cases w
    exact .nil
  | cons n ns ih =>
    intro vs w
    rw [List.map_cons] at w
    cases w with
    | cons a b =>
      cases a
      exact .cons _ _ (ih _ b)

theorem script_of {l : OpenLaw} {n : Nat} (hn : l.most = some n) {P : Params} {h : Heap} {args : List WData} {vals : List Value}
    (hpre : l.row.toRowW.claim.pre args = true) (hwl : WellAll P h vals args) :
    ∃ a vs ns, vals = [Value.ref a] ∧ args = [WData.list (ns.map WData.int)] ∧ h.get? a = some { cls := .type "list", data := .seq vs.toArray } ∧ IntsAre vs ns ∧ ns.length ≤ n := by
  have hsh : WShape.hasAll [] args [.list .int] = true := (pre_splitW hpre).1
  have hc : l.pre.holds [] { args := args } = true := (pre_splitW hpre).2
  obtain ⟨d, r, rfl, h1, h2⟩ := hasAllW_cons hsh
  obtain rfl := hasAllW_nil h2
  obtain ⟨xs, rfl, h3⟩ := hasW_list h1
  obtain ⟨ns, rfl⟩ := items_int h3
  have hlen : ns.length ≤ n := by
    unfold OpenLaw.pre at hc
    have h4 : (WTm.not (.lt (.lit (.int (n : Int))) (.len (.arg 0)))).holds [] { args := [.list (ns.map .int)] } = true := by
      have h4 := (holds_andW hc).1
      rw [hn] at h4
      exact h4
    have h5 := condW_of h4 (w_not (w_lt w_lit (w_len_list (w_arg rfl))))
    rw [List.length_map] at h5
    refine Nat.le_of_not_lt fun q => ?_
    have q' : (n : Int) < ((ns.length : Nat) : Int) := by omega
    first
      | (rw [decide_eq_true q'] at h5; exact absurd h5 (by decide))
      | (simp at h5; omega)
  cases hwl with
  | cons w1 w2 =>
    cases w2
    cases w1 with
    | list ho hall => exact ⟨_, _, ns, rfl, rfl, ho, ints_of_wellAll ns _ hall, hlen⟩

theorem post_true (l : OpenLaw) (args : List WData) : l.row.toRowW.claim.post args (.bool true) args = true :=
  postW_of (r := l.row.toRowW) (X := (true == true))
    (show WShape.has [] (.bool true) .bool = true by first | rfl | decide | simp [WShape.has, WShape.arms, WShape.armsAll])
    (show (WTm.eq .res (.lit (.bool true))).value [] { args := args, res := some (.bool true), after := args } = some (.bool (true == true)) from w_eq_bool (w_res rfl) w_lit) rfl

/-! ### the attachment: holds_open's last premise (the goal 'hc' behind k_head) from a wpAny of the law's body -/
theorem attach {l : OpenLaw} {n : Nat} {q : Program} {loose : List Str} {XP : (Str → Option Value) → Heap → Prop} {YP : World → Heap → Prop} {d : DefRec} {x : Str}
    (hn : l.most = some n) (hdf : d.params.defaults = [])
    (hbind : ∀ pm cd doc v : Value, bindArgs (docDef d.name d.params d.body d.scope pm cd doc) ⟨[v], []⟩ = pure [(x, v)])
    (hx : d.scope.names.lookup x = some .local ∨ d.scope.names.lookup x = some .cell)
    (hk : d.scope.kind = .function) (hco : d.scope.isCoroutine = false) (hgen : d.scope.isGenerator = false)
    (body : ∀ (w : World) (s₀ s₁ s : Shared) (mg mb : Str → Option Value) (fa : Addr) (o : Obj) (pm cd doc : Value) (a : Addr) (vs : List Value) (ns : List Int),
      Ground q loose [] XP w s₀ mg mb s₁.heap → YP w s₁.heap →
      s₁.heap.get? fa = some o → o.data = .func (docDef d.name d.params d.body d.scope pm cd doc) → s₁.heap.CodeRec cd d.name → mg d.name = some (.ref fa) →
      s₁.heap.get? a = some { cls := .type "list", data := .seq vs.toArray } → IntsAre vs ns → ns.length ≤ n →
      s.gens = #[] → s.os = s₁.os →
      Fr s₁.heap s₁.heap.objs.size s.heap (bindL (envOfC d.name d.scope s₁.heap.objs.size fa cd).kindOf [(x, .ref a)] fun _ => none) →
      Cl s₁.heap.objs.size (cellsFrom (s₁.heap.objs.size + 1) d.scope.names []) s.heap (bindC (envOfC d.name d.scope s₁.heap.objs.size fa cd).kindOf [(x, .ref a)] fun _ => none) →
      wpAny (model l.prog w) (callerA.deeper (envOfC d.name d.scope s₁.heap.objs.size fa cd)) (execs d.body (envOfC d.name d.scope s₁.heap.objs.size fa cd))
        (fun f s' => f = .ret (.bool true) ∧ OldK s₁.heap s'.heap ∧ s'.os = s₁.os ∧ AllBare s'.gens) (fun _ _ => False) s) :
    WalkO q loose XP YP l.row.toRowW d [] (fun f vs => PySem.call f vs) := by
  intro w s₀ s₁ mg mb G Y fa o pm cd doc dV kV ho hd hcd hD hmg hg args vals as hpre hlay hrd hwl hlo
  obtain rfl : dV = .none := Dflts.none hD hdf
  obtain rfl : kV = .none := Dflts.noKw hD
  obtain ⟨a, vs, ns, rfl, rfl, hobj, hints, hlen⟩ := script_of hn hpre hwl
  refine enter_call ?_
  refine call_cells_ret (o := o) (by rw [depth_caller]; decide) ho (fd_plain hd) G.T.nolimit hcd (hbind pm cd doc (.ref a)) (fun y hy => ?_) (fun h₁ tk F X => ?_) hco hgen hk
  · obtain rfl : y = (x, Value.ref a) := List.mem_singleton.mp hy
    rcases hx with e | e
    · exact .inl e
    · exact .inr ⟨e, cellsFrom_some _ _ _ (.inl e)⟩
  · refine wpAny_mono (body w s₀ s₁ { s₁ with heap := h₁, toks := tk } mg mb fa o pm cd doc a vs ns G Y ho (fd_plain hd) hcd hmg hobj hints hlen hg rfl F X) (fun f s' hq => ?_) (fun _ _ hq => hq)
    obtain ⟨rfl, h2, h3, h4⟩ := hq
    exact ⟨.inl ⟨.bool true, .bool true, [], rfl, fun _ => rfl, .bool true, post_true l _, fun _ => ⟨List.Pairwise.nil, fun _ hm => (nomatch hm)⟩⟩, h2, h3, h4⟩

/-- the same from a codeAny of the CALL (for a layer whose function contracts speak of calls) -/
theorem attach_call {l : OpenLaw} {n : Nat} {q : Program} {loose : List Str} {XP : (Str → Option Value) → Heap → Prop} {YP : World → Heap → Prop} {d : DefRec}
    (hn : l.most = some n) (hdf : d.params.defaults = [])
    (call : ∀ (w : World) (s₀ s₁ : Shared) (mg mb : Str → Option Value) (fa : Addr) (o : Obj) (pm cd doc : Value) (a : Addr) (vs : List Value) (ns : List Int),
      Ground q loose [] XP w s₀ mg mb s₁.heap → YP w s₁.heap →
      s₁.heap.get? fa = some o → o.data = .func (docDef d.name d.params d.body d.scope pm cd doc) → s₁.heap.CodeRec cd d.name → mg d.name = some (.ref fa) →
      s₁.heap.get? a = some { cls := .type "list", data := .seq vs.toArray } → IntsAre vs ns → ns.length ≤ n → s₁.gens = #[] →
      codeAny (model l.prog w) callerA (.call (.ref fa) ⟨[.ref a], []⟩) (fun r s' => r = .ok (.ret (.bool true)) ∧ OldK s₁.heap s'.heap ∧ s'.os = s₁.os ∧ AllBare s'.gens) s₁) :
    WalkO q loose XP YP l.row.toRowW d [] (fun f vs => PySem.call f vs) := by
  intro w s₀ s₁ mg mb G Y fa o pm cd doc dV kV ho hd hcd hD hmg hg args vals as hpre hlay hrd hwl hlo
  obtain rfl : dV = .none := Dflts.none hD hdf
  obtain rfl : kV = .none := Dflts.noKw hD
  obtain ⟨a, vs, ns, rfl, rfl, hobj, hints, hlen⟩ := script_of hn hpre hwl
  refine enter_call (codeAny_mono (call w s₀ s₁ mg mb fa o pm cd doc a vs ns G Y ho (fd_plain hd) hcd hmg hobj hints hlen hg) fun r s' hq => ?_)
  obtain ⟨rfl, h2, h3, h4⟩ := hq
  exact ⟨.inl ⟨.bool true, .bool true, [], rfl, fun _ => rfl, .bool true, post_true l _, fun _ => ⟨List.Pairwise.nil, fun _ hm => (nomatch hm)⟩⟩, h2, h3, h4⟩

/-- the same where the top left finished generators (o_head chose holds_openN): nothing may have changed at all and no generator may be left -/
theorem attachN {l : OpenLaw} {n : Nat} {q : Program} {loose : List Str} {XP : (Str → Option Value) → Heap → Prop} {YP : World → Heap → Prop} {d : DefRec} {x : Str}
    (hn : l.most = some n) (hdf : d.params.defaults = [])
    (hbind : ∀ pm cd doc v : Value, bindArgs (docDef d.name d.params d.body d.scope pm cd doc) ⟨[v], []⟩ = pure [(x, v)])
    (hx : d.scope.names.lookup x = some .local ∨ d.scope.names.lookup x = some .cell)
    (hk : d.scope.kind = .function) (hco : d.scope.isCoroutine = false) (hgen : d.scope.isGenerator = false)
    (body : ∀ (w : World) (s₀ s₁ s : Shared) (mg mb : Str → Option Value) (fa : Addr) (o : Obj) (pm cd doc : Value) (a : Addr) (vs : List Value) (ns : List Int),
      Ground q loose [] XP w s₀ mg mb s₁.heap → YP w s₁.heap →
      s₁.heap.get? fa = some o → o.data = .func (docDef d.name d.params d.body d.scope pm cd doc) → s₁.heap.CodeRec cd d.name → mg d.name = some (.ref fa) →
      s₁.heap.get? a = some { cls := .type "list", data := .seq vs.toArray } → IntsAre vs ns → ns.length ≤ n →
      s.gens = #[] → s.os = s₁.os →
      Fr s₁.heap s₁.heap.objs.size s.heap (bindL (envOfC d.name d.scope s₁.heap.objs.size fa cd).kindOf [(x, .ref a)] fun _ => none) →
      Cl s₁.heap.objs.size (cellsFrom (s₁.heap.objs.size + 1) d.scope.names []) s.heap (bindC (envOfC d.name d.scope s₁.heap.objs.size fa cd).kindOf [(x, .ref a)] fun _ => none) →
      wpAny (model l.prog w) (callerA.deeper (envOfC d.name d.scope s₁.heap.objs.size fa cd)) (execs d.body (envOfC d.name d.scope s₁.heap.objs.size fa cd))
        (fun f s' => f = .ret (.bool true) ∧ (∀ b o, s₁.heap.get? b = some o → s'.heap.get? b = some o) ∧ s'.os = s₁.os ∧ s'.gens = #[]) (fun _ _ => False) s) :
    WalkN q loose XP YP l.row.toRowW d [] (fun f vs => PySem.call f vs) := by
  intro w s₀ s₁ mg mb G Y fa o pm cd doc dV kV ho hd hcd hD hmg hg args vals as hpre hlay hrd hwl hlo
  obtain rfl : dV = .none := Dflts.none hD hdf
  obtain rfl : kV = .none := Dflts.noKw hD
  obtain ⟨a, vs, ns, rfl, rfl, hobj, hints, hlen⟩ := script_of hn hpre hwl
  refine enter_callW ?_
  refine call_cells_ret (o := o) (by rw [depth_caller]; decide) ho (fd_plain hd) G.T.nolimit hcd (hbind pm cd doc (.ref a)) (fun y hy => ?_) (fun h₁ tk F X => ?_) hco hgen hk
  · obtain rfl : y = (x, Value.ref a) := List.mem_singleton.mp hy
    rcases hx with e | e
    · exact .inl e
    · exact .inr ⟨e, cellsFrom_some _ _ _ (.inl e)⟩
  · refine wpAny_mono (body w s₀ s₁ { s₁ with heap := h₁, toks := tk } mg mb fa o pm cd doc a vs ns G Y ho (fd_plain hd) hcd hmg hobj hints hlen hg rfl F X) (fun f s' hq => ?_) (fun _ _ hq => hq)
    obtain ⟨rfl, h2, h3, h4⟩ := hq
    exact ⟨.inl ⟨.bool true, .bool true, [], rfl, fun _ => rfl, .bool true, post_true l _, fun _ => ⟨List.Pairwise.nil, fun _ hm => (nomatch hm)⟩⟩, h2, h3, h4⟩

/-! ### rules over ANY heap (no ledger) from facts about the written part K: the library's own take a ledger (News) for what they write -/
section
variable {prog : Program} {w : World} {A : Around} {E : Value → Shared → Prop} {s : Shared} {K : Frag}

/-- a def of the module, or a method (qual 'C.m'), entered: the frame is the next address; cells behind it -/
theorem call_fn {R : Result → Shared → Prop} {name qual : Str} {params : Arguments} {body : List Stmt} {scope : Scope} {dV kV doc pm cdv ct oc : Value} {an od : Option Addr} {osl : Array (Option Value)} {f : Addr} {args : Args} {binds : List (Str × Value)}
    (X : K.In s.heap) (hlim : s.heap.NoLimit) (ho : K.lookup f = some ⟨oc, od, .func (fnOf name qual params body scope dV kV doc pm an cdv ct), osl⟩) (hcd : codeIn K cdv qual = true) (hroom : A.depth < recursionLimit)
    (hbind : BindsTo s (fnOf name qual params body scope dV kV doc pm an cdv ct) args binds)
    (hkind : (binds.all fun y => scope.names.lookup y.1 == some .local || scope.names.lookup y.1 == some .cell) = true)
    (h : ∀ s₁, InCallC s s.heap.objs.size (bindL (envOfC qual scope s.heap.objs.size f cdv).kindOf binds fun _ => none) (cellsFrom (s.heap.objs.size + 1) scope.names [])
        (bindC (envOfC qual scope s.heap.objs.size f cdv).kindOf binds fun _ => none) s₁ →
      wpAny (model prog w) (A.deeper (envOfC qual scope s.heap.objs.size f cdv)) (execs body (envOfC qual scope s.heap.objs.size f cdv))
        (fun fl s' => R (.ok (.ret (match fl with | .ret v => v | _ => .none))) s')
        (fun e s' => wpAny (model prog w) (A.deeper (envOfC qual scope s.heap.objs.size f cdv)) (leaving (envOfC qual scope s.heap.objs.size f cdv) e) (fun _ s'' => R (.error e) s'') (fun e' s'' => R (.error e') s'') s') s₁)
    (hco : scope.isCoroutine = false) (hgen : scope.isGenerator = false) (hk : scope.kind = .function) : codeAny (model prog w) A (.call (.ref f) args) R s := by
  refine codeAny_call_function hroom (X _ _ ho) rfl hco hgen rfl (codeRec_of X hcd) (hbind _ _ _ _ ?_)
  refine wpAny_newFunctionEnv_cells hk (kindsX hkind _) fun env he s₁ x => ?_
  subst he
  exact ⟨hlim.keeps x.toInCall.keep, codeAny_func (h s₁ x)⟩

/-- C(..): dict at size, instance at size + 1, then __init__ -/
theorem make_obj {R : Result → Shared → Prop} {C fI : Addr} {rest : List Value} {kw : List (Str × Value)}
    (X : K.In s.heap) (hm : makesIn K C = true) (hi : findIn K (.ref C) "__init__" = some (some (.ref fI))) (hf : isFn K (.ref fI) = true)
    (h : codeAny (model prog w) (A.under (.builtin "type.__call__" ⟨.ref C :: rest, kw⟩)) (.call (.ref fI) ⟨.ref (s.heap.objs.size + 1) :: rest, kw⟩) (InitBack (s.heap.objs.size + 1) R)
      { s with heap := (s.heap.push emptyDict).push (instObj C s.heap.objs.size) }) : codeAny (model prog w) A (.call (.ref C) ⟨rest, kw⟩) R s := by
  obtain ⟨hh, g, d, t, os⟩ := s
  exact make_core (makes_of X hm) (looks_findIn X hi) (fun self => bind_fn X self (beq_iff_eq.mp hf)) (.inl rfl) h

/-- x.name where the instance's dict holds the name and the class does not -/
theorem get_field {x C : Addr} {ox : Obj} {es : List DictEntry} {n : Nat} {name : Str} {expr : Bool} {v : Value} {Q : Value → Shared → Prop}
    (X : K.In s.heap) (I : PySem.W.InstAt s.heap x ox C (some (dictOf es n))) (hg : plainGet K C name = true) (hh : hasDictIn K C = true) (ha : findIn K (.ref C) name = some none)
    (hl : getL name es = some (some v)) (hv : handedIn v = true) (h : Q v { s with toks := s.toks + 1 }) : wpAny (model prog w) A (getAttr (.ref x) name expr) Q E s :=
  get_value X I (plainGet_of hg).1 (findObj_own hh ha rfl hl) hv h

/-- x.m(..): the method found in the class -/
theorem get_method {x C f : Addr} {ox : Obj} {es : List DictEntry} {n : Nat} {name : Str} {pl : Sem Bool} {Q : Value × List Value → Shared → Prop}
    (X : K.In s.heap) (I : PySem.W.InstAt s.heap x ox C (some (dictOf es n))) (hg : plainGet K C name = true) (hf : findIn K (.ref C) name = some (some (.ref f))) (ht : isFn K (.ref f) = true)
    (hl : getL name es = some none) (h : Q (.ref f, [.ref x]) s) : wpAny (model prog w) A (getMethod (.ref x) name pl) Q E s :=
  method_fn X I (plainGet_of hg).1 (plainGet_of hg).2 hf (beq_iff_eq.mp ht) (by show (lookIn name (dictOf es n)).map _ = _; rw [lookIn_dict, hl]; rfl) h

/-! the whole heap as the ledger: makes every rule that writes through a ledger a rule over any heap -/
def noObjs (h : Heap) : Heap := { h with objs := #[] }
theorem noObjs_get (h : Heap) (b : Addr) : (noObjs h).get? b = none := by
  cases e : (noObjs h).get? b with
  | none => rfl
  | some o => exact absurd (Heap.lt_size e) (Nat.not_lt_zero _)
def ledger (h : Heap) (L d : Addr) : List (Addr × Obj) := (List.range h.objs.size).filterMap fun a => if a = L ∨ a = d then none else (h.get? a).map fun o => (a, o)
theorem mem_ledger {h : Heap} {L d a : Addr} {o : Obj} : (a, o) ∈ ledger h L d ↔ a ≠ L ∧ a ≠ d ∧ h.get? a = some o := by
  unfold ledger
  rw [List.mem_filterMap]
  constructor
  · rintro ⟨b, _, e⟩
    split at e
    · cases e
    · rename_i hb
      obtain ⟨o', ho, e'⟩ := Option.map_eq_some_iff.mp e
      cases e'
      exact ⟨fun q => hb (.inl q), fun q => hb (.inr q), ho⟩
  · rintro ⟨n1, n2, ho⟩
    refine ⟨a, List.mem_range.mpr (Heap.lt_size ho), ?_⟩
    rw [if_neg (show ¬ (a = L ∨ a = d) from fun q => q.elim n1 n2), ho] <;> rfl
theorem news_ledger {h : Heap} {L d : Addr} {od : Obj} (hne : d ≠ L) (ho : h.get? d = some od) : News (noObjs h) L h ([] ++ (d, od) :: ledger h L d) := by
  rintro ⟨a, o⟩ hp
  rcases List.mem_cons.mp hp with e | hp
  · cases e
    exact ⟨ho, hne, noObjs_get _ _⟩
  · obtain ⟨n1, n2, e⟩ := mem_ledger.mp hp
    exact ⟨e, n1, noObjs_get _ _⟩
theorem fr_all {h : Heap} {L : Addr} {m : Str → Option Value} (n : h.Ns L m) : Fr (noObjs h) L h m :=
  ⟨n, fun b o e => (by rw [noObjs_get] at e; cases e), Nat.zero_le _⟩
/-- Upd of the head entry (for append_K, setItem_K ..) -/
theorem upd_ledger {h : Heap} {L d : Addr} {o o' : Obj} : Upd d o o' ((d, o) :: ledger h L d) ((d, o') :: ledger h L d) :=
  .head fun ⟨_, _⟩ hp => (mem_ledger.mp hp).2.1

/-- x.name = v over any heap: L is any namespace of the heap (the frame's, say): its map stays, its object is not told; all else but the dict stays -/
theorem set_field {x C dx L : Addr} {ox : Obj} {m : Str → Option Value} {es es' : List DictEntry} {n n' : Nat} {name : Str} {v : Value} {Q : Unit → Shared → Prop}
    (X : K.In s.heap) (I : PySem.W.InstAt s.heap x ox C (some (dictOf es n))) (hd : ox.dict = some dx) (hL : s.heap.Ns L m) (hne : dx ≠ L)
    (hs : findIn K (.ref C) "__setattr__" = some (some (.builtin "object.__setattr__"))) (hp : plainOver K C = true) (ht : takerIn K C name = some none) (hh : hasDictIn K C = true) (hl : (getL name es).isSome = true)
    (e : (putL name (PyData.keyHash w.params name) (.str name (s.toks + 1)) v es, putN name es n) = (es', n')) (hz : es'.length ≤ 1000)
    (h : ∀ h' : Heap, h'.Ns L m → h'.get? dx = some (dictOf es' n') → (∀ b o, b ≠ dx → b ≠ L → s.heap.get? b = some o → h'.get? b = some o) → Q () { s with heap := h', toks := s.toks + 2 }) :
    wpAny (model prog w) A (setAttr (.ref x) name v) Q E s := by
  obtain ⟨e1, e2⟩ := Prod.mk.inj e
  have hdx : s.heap.get? dx = some (dictOf es n) := by
    have := I.dict
    rw [hd] at this
    exact this
  refine set_plain X I hs (osa_dict (s := { s with toks := s.toks + 1 }) (h₀ := noObjs s.heap) (L := L) (m := m) (od := dictOf es n) (od' := dictOf es' n') (es := es') (n := n') (pre := []) (post := ledger s.heap L dx)
    (fr_all hL) (news_ledger hne hdx) X I hd hp ht hh hl (fun _ q => nomatch q) (fun ⟨_, _⟩ q => (mem_ledger.mp q).2.1) (by rw [putName_dict, e1, e2]) rfl hz fun h' F' N' => ?_)
  exact h h' F'.ns (N'.get (List.Mem.head _)) fun b o n1 n2 ho => N'.get (List.Mem.tail _ (mem_ledger.mpr ⟨n2, n1, ho⟩))
end
end Att

namespace L2
open PySem PySem.Spec PyProof.Rows

theorem vals_ints : ∀ {vs : List Value} {ns : List Int}, IntsAre vs ns → Vals (ns.map V.int) vs
  | _, _, .nil => .nil
  | _, _, .cons n t h => .cons ⟨t, rfl⟩ (vals_ints h)

/-- nothing is tracked but the script, known to the object (or it is an object of the module) -/
def Only (H : Hp) : Prop := ∀ b, H b = none ∨ ∃ o xs, H b = some (.frz o (.lst xs))

/-- THE HEAD: the law's promise, at the heap behind the top. F, the promise of the law's def, may use that base is part of the heap (so K.In base, base.Ns mainGlobals mg stand in Mod) -/
theorem law_call {P : Program} {w : World} {K : PySem.W.Frag} {mg mb : Str → Option Value} {CX : CXT} {k : Nat} {fa a : Addr} {fd : FuncData} {x : Str} {sp : Sp} {s₁ : Shared} {vs : List Value} {ns : List Int}
    (KX : K.In s₁.heap) (hns : s₁.heap.Ns mainGlobals mg) (hb : s₁.heap.Ns builtinsNs mb) (hbb : ∀ x : Str, x ≠ "__name__" → mb x = bootBuiltins x) (hlim : s₁.heap.NoLimit) (hg : s₁.gens = #[])
    (ha : s₁.heap.get? a = some { cls := .type "list", data := .seq vs.toArray }) (hi : IntsAre vs ns) (hl : ns.length ≤ sizeLine) (hr : Room k callerA)
    (F : ∀ base : Heap, K.In base → base.Ns mainGlobals mg → FnOk P w K mg base CX k fa fd [x] sp) (hbind : ∀ (s : Shared) (u : Value), BindsTo s fd ⟨[u], []⟩ [(x, u)])
    (hsp : ∀ H : Hp, Only H → SqL K H a (ns.map V.int) → sp [.ref a] H (fun v _ => v = .bl true) fun _ _ _ => False)
    (hCX : ∀ H e s', CX [] H s₁ (fun _ _ _ => False) e s' → False) :
    codeAny (model P w) callerA (.call (.ref fa) ⟨[.ref a], []⟩) (fun r s' => r = .ok (.ret (.bool true)) ∧ OldK s₁.heap s'.heap ∧ s'.os = s₁.os ∧ AllBare s'.gens) s₁ := by
  have rv := vals_ints hi
  have lenV := hi.length
  -- from an abstract heap in which nothing but the script may be tracked
  have core : ∀ H : Hp, Only H → SqL K H a (ns.map V.int) → HOk P w H s₁.heap → (∀ b, H b ≠ none → b = a) → (H a ≠ none → K.lookup a = none) →
      codeAny (model P w) callerA (.call (.ref fa) ⟨[.ref a], []⟩) (fun r s' => r = .ok (.ret (.bool true)) ∧ OldK s₁.heap s'.heap ∧ s'.os = s₁.os ∧ AllBare s'.gens) s₁ := by
    intro H hO hS hok hA hK
    have base_of : ∀ {b : Addr} {o : Obj}, s₁.heap.get? b = some o → H b = none → (hidT s₁.heap H).get? b = some o := fun e n => hidT_get e n
    have noA : ∀ {b : Addr} {o : Obj} {es : Array DictEntry} {ep : Nat}, s₁.heap.get? b = some o → o.data = .dict es ep → H b = none := fun {b o es ep} e d => by
      cases q : H b with
      | none => rfl
      | some u =>
        have e' : b = a := hA b (by rw [q]; simp)
        subst e'
        rw [ha] at e; cases e
        have d' : Data.seq vs.toArray _ = Data.dict es ep := d
        cases d'
    have nsK : ∀ {b : Addr} {m : Str → Option Value}, s₁.heap.Ns b m → (hidT s₁.heap H).Ns b m := fun {b m} ⟨o, es, ep, e, d, r⟩ => ⟨o, es, ep, base_of e (noA e d), d, r⟩
    have hKb : K.In (hidT s₁.heap H) := fun b o e => base_of (KX b o e) (by
      cases q : H b with
      | none => rfl
      | some u =>
        have e' : b = a := hA b (by rw [q]; simp)
        subst e'
        rw [hK (by rw [q]; simp)] at e; cases e)
    have hM : Mod K mg (hidT s₁.heap H) := ⟨hKb, nsK hns, ⟨mb, nsK hb, hbb⟩, let ⟨mc, h1, h2⟩ := hlim; ⟨mc, nsK h1, h2⟩⟩
    have e0 : Env0 P w K mg (hidT s₁.heap H) callerA [] s₁ H := ⟨rfl, hM, fun b o e => of_hidT e, Nat.le_of_eq (hidT_size _ _), trivial, fun b hb => absurd (show b ∈ ([] : List Addr) from hb) (by simp), hok, .of_eq hg⟩
    refine codeAny_mono ((F _ hKb (nsK hns)).run callerA [] s₁ H ⟨[.ref a], []⟩ [.ref a] [.ref a] _ _ hr e0 (hbind s₁ (.ref a)) (.cons rfl .nil) (hsp H hO hS)) fun r s' h => ?_
    cases r with
    | error e => exact (hCX H e s' h).elim
    | ok fl =>
      cases fl with
      | next => exact False.elim h
      | brk => exact False.elim h
      | cont => exact False.elim h
      | ret u =>
        obtain ⟨v, H', os, bare, un, hok', r', q⟩ := h
        have q' : v = .bl true := q
        subst q'
        obtain rfl : u = Value.bool true := r'
        refine ⟨rfl, OldK.of_keep fun b o e => ?_, os, bare⟩
        cases q : H b with
        | none => exact un.keep b o e q (by intro z; exact absurd (show b ∈ ([] : List Addr) from z) (by simp)) (by simp)
        | some u =>
          rcases hO b with z | ⟨ob, xs, z⟩
          · rw [q] at z; cases z
          · have z2 := un.frzs b ob _ z
            obtain ⟨e1, _⟩ := hok b _ z
            obtain ⟨e2, _⟩ := hok' b _ z2
            rw [e] at e1; cases e1
            exact e2
  cases hk : K.lookup a with
  | some o =>
    -- the script is one of the module's own objects
    have e := KX a o hk
    rw [ha] at e
    cases e
    refine core (fun _ => none) (fun _ => .inl rfl) (.inr ⟨_, vs.toArray, _, hk, rfl, rfl, rfl, by rw [List.size_toArray, lenV]; exact hl, by simpa using rv⟩) (fun b u z => by have z' : (none : Option HO) = some u := z; cases z') (fun b z => absurd rfl z) fun z => absurd rfl z
  | none =>
    refine core (fun b => if b = a then some (.frz { cls := .type "list", data := .seq vs.toArray } (.lst (ns.map V.int))) else none) (fun b => ?_) (.inl (.inr ⟨{ cls := .type "list", data := .seq vs.toArray }, if_pos rfl⟩)) (fun b u z => ?_) (fun b z => ?_) fun _ => hk
    · by_cases hb : b = a
      · exact .inr ⟨_, _, if_pos hb⟩
      · exact .inl (if_neg hb)
    · by_cases hb : b = a
      · have z' := (if_pos hb).symm.trans z
        cases z'
        subst hb
        exact ⟨ha, by rw [List.length_map]; exact hl, vs, _, rv, ha⟩
      · have z' := (if_neg hb).symm.trans z
        cases z'
    · by_cases hb : b = a
      · exact hb
      · exact absurd (if_neg hb) z
end L2

namespace L2
open PySem PySem.Spec PyProof.Rows

abbrev KOf {K : PySem.W.Frag} {h : Heap} (_ : K.In h) : PySem.W.Frag := K

/-- the goal that k_head leaves (case hc), from the law's promise. F gives the function object fd (K's own) once, then the promise over every base -/
theorem walk_of {l : PySem.W.OpenLaw} {n k : Nat} {q : Program} {loose : List Str} {XP : (Str → Option Value) → Heap → Prop} {YP : World → Heap → Prop} {d : DefRec} {K : Params → PySem.W.Frag} {CX : World → CXT} {sp : World → Sp} {x : Str}
    (hn : l.most = some n) (hn2 : n ≤ sizeLine) (hdf : d.params.defaults = []) (hr : Room k callerA)
    (hY : ∀ (w : World) (h : Heap), YP w h → (K w.params).In h)
    (F : ∀ (w : World) (mg : Str → Option Value) (fa : Addr) (h : Heap), (K w.params).In h → h.Ns mainGlobals mg → mg d.name = some (.ref fa) →
      ∃ fd : FuncData, (∀ (s : Shared) (u : Value), BindsTo s fd ⟨[u], []⟩ [(x, u)]) ∧
        ∀ base : Heap, (K w.params).In base → base.Ns mainGlobals mg → FnOk l.prog w (K w.params) mg base (CX w) k fa fd [x] (sp w))
    (hsp : ∀ (w : World) (H : Hp) (a : Addr) (ns : List Int), ns.length ≤ n → Only H → SqL (K w.params) H a (ns.map V.int) → sp w [.ref a] H (fun v _ => v = .bl true) fun _ _ _ => False)
    (hCX : ∀ (w : World) (H : Hp) (s : Shared) (e : Value) (s' : Shared), CX w [] H s (fun _ _ _ => False) e s' → False) :
    PySem.W.WalkO q loose XP YP l.row.toRowW d [] (fun f vs => PySem.call f vs) := by
  refine Att.attach_call hn hdf fun w s₀ s₁ mg mb fa o pm cd doc a vs ns G Y ho hd hcd hmg hobj hints hlen hg => ?_
  have KX := hY w _ Y
  obtain ⟨fd, hb, hF⟩ := F w mg fa _ KX G.T.g hmg
  exact law_call KX G.T.g G.T.b G.T.builtins G.T.nolimit hg hobj hints (Nat.le_trans hlen hn2) hr hF hb (fun H hO hS => hsp w H a ns hlen hO hS) fun H e s' => hCX w H s₁ e s'
/-- the same where the promise hangs on the written part alone: (sp := My.sp_law), no hole under a binder -/
theorem walk_ofK {l : PySem.W.OpenLaw} {n k : Nat} {q : Program} {loose : List Str} {XP : (Str → Option Value) → Heap → Prop} {YP : World → Heap → Prop} {d : DefRec} {K : Params → PySem.W.Frag} {CX : CXT} {sp : PySem.W.Frag → Sp} {x : Str}
    (hn : l.most = some n) (hn2 : n ≤ sizeLine) (hdf : d.params.defaults = []) (hr : Room k callerA)
    (hY : ∀ (w : World) (h : Heap), YP w h → (K w.params).In h)
    (F : ∀ (w : World) (mg : Str → Option Value) (fa : Addr) (h : Heap), (K w.params).In h → h.Ns mainGlobals mg → mg d.name = some (.ref fa) →
      ∃ fd : FuncData, (∀ (s : Shared) (u : Value), BindsTo s fd ⟨[u], []⟩ [(x, u)]) ∧
        ∀ base : Heap, (K w.params).In base → base.Ns mainGlobals mg → FnOk l.prog w (K w.params) mg base CX k fa fd [x] (sp (K w.params)))
    (hsp : ∀ (K : PySem.W.Frag) (H : Hp) (a : Addr) (ns : List Int), ns.length ≤ n → Only H → SqL K H a (ns.map V.int) → sp K [.ref a] H (fun v _ => v = .bl true) fun _ _ _ => False)
    (hCX : ∀ (H : Hp) (s : Shared) (e : Value) (s' : Shared), CX [] H s (fun _ _ _ => False) e s' → False) :
    PySem.W.WalkO q loose XP YP l.row.toRowW d [] (fun f vs => PySem.call f vs) :=
  walk_of (K := K) (CX := fun _ => CX) (sp := fun w => sp (K w.params)) hn hn2 hdf hr hY F (fun w H a ns h1 h2 h3 => hsp (K w.params) H a ns h1 h2 h3) fun _ H s e s' => hCX H s e s'
end L2

/- THE LAST THEOREM (shape; LID, My.* are yours):
   My.Adr: a structure of the addresses that your layer names (classes, functions); My.Txt K t: a structure (Prop) of the equations over K;
   My.txt_mk : {K} {implicit addresses ..} (e1 : nsIn K mainGlobals "law" = some (some (.ref f))) (e2 : K.lookup f = some ⟨oc, od, .func (fnOf "law" "law" params body scope dV kV doc pm an cdv ct), sl⟩) (e3 : codeIn K cdv "law" = true) .. : ∃ t, My.Txt K t

set_option maxRecDepth 100000 in
set_option maxHeartbeats 0 in
theorem PySem.Challenge.cw_LID_holds : PySem.Challenge.rw_LID.Holds := by
  w_on; o_law; k_head; (case hw => w_witness2)
  k_fill
  refine L2.walk_of (l := PySem.Challenge.rw_LID) (n := 63) (k := 40) (x := "script") (CX := fun w => ..) (sp := fun _ => My.sp_law) rfl (by decide) rfl ⟨rfl, by decide, by decide⟩ (fun w h Y => PySem.W.kIn_of Y) ?F ?S ?C
  case F =>
    intro w mg fa h KX G hmg
    have T : ∃ t, My.Txt (L2.KOf KX) t := by
      dsimp only [L2.KOf]                          -- K must stand as «<heap const> w.params» for k_is
      refine' My.txt_mk ?e1 ?e2 ?e3 ..
      (case e1 => PySem.W.k_is)                    -- in the order: a name -> its address -> its object -> its parts
      (case e2 => PySem.W.k_is)
      ..
    obtain ⟨t, T⟩ := T
    have e0 := hmg.symm.trans (PySem.W.mg_of KX G T.law)
    cases e0                                       -- fa is the law's own address
    exact ⟨_, fun s u => .of_eq rfl, fun base kb nb => My.law_fn T kb nb⟩     -- if «.of_eq rfl» comes too early: refine' ⟨_, ?b, fun base kb nb => My.law_fn T kb nb⟩; exact fun s u => .of_eq rfl
  case S => exact fun w H a ns hl hO hS => ..
  case C => exact ..
(the tactic k_is has no namespace: write k_is) -/

/-! SHORT WORDS over the layer: a def of the text, its body, what a loop and a test want. -/
namespace L2
open PySem PySem.Spec PyProof.Rows

/-! ### the text by places -/
/-- the j-th statement of a class's body -/
def inClass (s : Stmt) (j : Nat) : Stmt := match s with
  | .ClassDef _ _ _ body _ _ _ _ _ _ _ => body.getD j (.Pass ⟨0, 0, 0, 0⟩)
  | _ => .Pass ⟨0, 0, 0, 0⟩
def defArgs (s : Stmt) : Arguments := match s with
  | .FunctionDef _ a _ _ _ _ _ _ _ _ => a
  | _ => { posonlyargs := [], args := [], vararg := none, kwonlyargs := [], kw_defaults := [], kwarg := none, defaults := [] }
def defBody (s : Stmt) : List Stmt := match s with
  | .FunctionDef _ _ b _ _ _ _ _ _ _ => b
  | _ => []
def defScope (s : Stmt) : Scope := match s with
  | .FunctionDef _ _ _ _ _ _ sc _ _ _ => sc
  | _ => { kind := .function, names := [], isGenerator := false, isCoroutine := false }

/-! ### no exception leaves a def -/
abbrev CX0 : CXT := fun _ _ _ _ _ _ => False
abbrev E0 : XK := fun _ _ _ => False
theorem pass0 {X : Cx} : Passes CX0 X E0 := fun _ _ _ _ _ _ _ h => h.elim

/-! ### a def (or method) of the text as it stands behind the top -/
structure Fun (K : PySem.W.Frag) (x qual : Str) (st : Stmt) (f : Addr) (fd : FuncData) : Prop where
  ex : ∃ (oc : Value) (od : Option Addr) (kV doc pm : Value) (an : Option Addr) (cdv ct : Value) (osl : Array (Option Value)),
    fd = PySem.W.fnOf x qual (defArgs st) (defBody st) (defScope st) .none kV doc pm an cdv ct ∧ K.lookup f = some ⟨oc, od, .func fd, osl⟩ ∧ PySem.W.codeIn K cdv qual = true
  kp : PySem.W.keepIn K (.ref f) = true
section
variable {P : Program} {w : World} {K : PySem.W.Frag} {mg : Str → Option Value} {base : Heap}
/-- THE RULE for a def: its body as a term of rules, and the reading of that term -/
theorem Fun.ok {x qual : Str} {st : Stmt} {f : Addr} {fd : FuncData} {N ps : List Str} {k : Nat} {sp : Sp} (F : Fun K x qual st f fd) (S : FnScope N ps (defScope st)) (len : ∀ vs H Q E, sp vs H Q E → vs.length = ps.length)
    (hbody : ∀ (cdv : Value) (A : Around) (outer : List Env) (s : Shared) (H : Hp) (vs : List V) (Q : VK) (E : XK), Room k (A.deeper (envOfC qual (defScope st) s.heap.objs.size f cdv)) → sp vs H Q E →
      ∃ t, PSs (cxOf CX0 P w K mg base N qual (defScope st) f cdv A outer s H E).nox (defBody st) t ∧ t { nx := fun _ H' => Q .non H', rt := Q } (start N vs) H) : FnOk P w K mg base CX0 (k + 1) f fd ps sp := by
  obtain ⟨oc, od, kV, doc, pm, an, cdv, ct, osl, rfl, lk, hcd⟩ := F.ex
  refine fn_of lk hcd S len fun A outer s H vs Q E hr hsp => ?_
  obtain ⟨t, h, q⟩ := hbody cdv A outer s H vs Q E hr hsp
  exact ⟨t, h.nox, q⟩
/-- how its arguments bind (no defaults): h is «fun _ _ _ _ _ _ us hl => match us, hl with | [_, _], _ => rfl», one _ a parameter -/
theorem Fun.binds {x qual : Str} {st : Stmt} {f : Addr} {fd : FuncData} {ps : List Str} (F : Fun K x qual st f fd)
    (h : ∀ (kV doc pm : Value) (an : Option Addr) (cdv ct : Value) (us : List Value), us.length = ps.length → bindArgs (PySem.W.fnOf x qual (defArgs st) (defBody st) (defScope st) .none kV doc pm an cdv ct) ⟨us, []⟩ = pure (ps.zip us)) : Binds K fd ps [] := by
  obtain ⟨oc, od, kV, doc, pm, an, cdv, ct, osl, rfl, lk, hcd⟩ := F.ex
  exact .all (h kV doc pm an cdv ct)
theorem fun_mk {x qual : Str} {st : Stmt} {f : Addr} {oc : Value} {od an : Option Addr} {osl : Array (Option Value)} {kV doc pm cdv ct : Value} (l : K.lookup f = some ⟨oc, od, .func (PySem.W.fnOf x qual (defArgs st) (defBody st) (defScope st) .none kV doc pm an cdv ct), osl⟩)
    (c : PySem.W.codeIn K cdv qual = true) (k : PySem.W.keepIn K (.ref f) = true) : Fun K x qual st f (PySem.W.fnOf x qual (defArgs st) (defBody st) (defScope st) .none kV doc pm an cdv ct) := ⟨⟨oc, od, kV, doc, pm, an, cdv, ct, osl, rfl, l, c⟩, k⟩
end
theorem hu_of {A : Around} {k : Nat} (hr : Room k A) : A.units + 1 < cLine := Nat.lt_of_le_of_lt (Nat.add_le_add_left (by decide : 1 ≤ 64) _) hr.units
theorem small1000 {n : Nat} (h : n ≤ 1000) : n < sizeLine := Nat.lt_of_le_of_lt h (by decide)

/-! ### expressions in short: the name that stands in the i-th slot -/
section
variable {X : Cx}
theorem pv (i : Nat) {x : Str} {pos : Pos} (hN : X.N[i]? = some x := by rfl) (hv : Vis X.env.scope x := by first | exact Or.inl rfl | exact Or.inr (Or.inl rfl) | exact Or.inr (Or.inr rfl)) (hd : (x == ("__debug__" : Str)) = false := by decide)
    (hcd : (x == ("__classdict__" : Str)) = false := by decide) : PE X (.Name x pos) (tVar i) := pe_var hN hv hd hcd
/-- len of a dict -/
theorem call_lenD : CallR X (.builtin "len") (fun xs H Q => ∃ a kvs, xs = [V.ref a] ∧ H a = some (.dK kvs) ∧ Q (.int kvs.length) H) := by
  intro pins s σ H xs us Q I r h
  obtain ⟨a, kvs, rfl, ha, q⟩ := h
  obtain ⟨u, rfl, ru⟩ := vals1 r
  cases ru
  exact d_len I (.inl ha) fun t s' I' => ⟨.int kvs.length, H, I', ⟨t, rfl⟩, q⟩
end

/-! ### tests -/
theorem iteF {A B : Prop} (h : B) : if false = true then A else B := by
  rw [if_neg Bool.false_ne_true]
  exact h
theorem iteT {A B : Prop} (h : A) : if true = true then A else B := by
  rw [if_pos rfl]
  exact h
theorem ite2 {c A B : Prop} [Decidable c] (h1 : c → A) (h2 : ¬ c → B) : if c then A else B := by
  by_cases h : c
  · rw [if_pos h]
    exact h1 h
  · rw [if_neg h]
    exact h2 h
theorem iteNS {c A B : Prop} [Decidable c] (hc : c) (h : B) : if (!decide c) = true then A else B := by
  rw [decide_eq_true hc]
  exact iteF h

/-! ### heaps -/
/-- all that was tracked is as it was -/
def Same (H H' : Hp) : Prop := ∀ b o, H b = some o → H' b = some o
theorem Same.refl (H : Hp) : Same H H := fun _ _ h => h
theorem Same.trans {H H1 H2 : Hp} (a : Same H H1) (b : Same H1 H2) : Same H H2 := fun c o h => b c o (a c o h)
theorem Same.free {H H' : Hp} (e : Same H H') {l : Addr} (h : H' l = Option.none) : H l = Option.none := by
  cases q : H l with
  | none => rfl
  | some o =>
    rw [e l o q] at h
    cases h
theorem Same.seq {K : PySem.W.Frag} {H H' : Hp} {a : Addr} {xs : List V} (e : Same H H') (h : SqL K H a xs) : SqL K H' a xs := by
  rcases h with (h | ⟨o, h⟩) | h
  · exact .inl (.inl (e _ _ h))
  · exact .inl (.inr ⟨o, e _ _ h⟩)
  · exact .inr h

/-! ### a dict's pairs: keys that differ -/
section
variable {κ : Type} [DecidableEq κ]
theorem valV_not {kvs : List (κ × V)} {k : κ} (h : valV kvs k = none) : ¬ k ∈ kvs.map (·.1) := by
  intro m
  obtain ⟨p, hp, e⟩ := List.mem_map.mp m
  have q : (kvs.any fun kv => decide (kv.1 = k)) = true := List.any_eq_true.mpr ⟨p, hp, decide_eq_true e⟩
  rw [valV_any, h] at q
  exact absurd q (by simp)
theorem valV_in {kvs : List (κ × V)} {k : κ} {v : V} (h : valV kvs k = some v) : k ∈ kvs.map (·.1) := by
  have q : (kvs.any fun kv => decide (kv.1 = k)) = true := by
    rw [valV_any, h]
    all_goals rfl
  obtain ⟨p, hp, e⟩ := List.any_eq_true.mp q
  exact List.mem_map.mpr ⟨p, hp, of_decide_eq_true e⟩
theorem nd_snoc : ∀ {l : List κ} {k : κ}, l.Nodup → ¬ k ∈ l → (l ++ [k]).Nodup
  | [], k, _, _ => by simp
  | a :: r, k, h, hk => by
    obtain ⟨h1, h2⟩ := List.nodup_cons.mp h
    show (a :: (r ++ [k])).Nodup
    refine List.nodup_cons.mpr ⟨fun m => ?_, nd_snoc h2 fun m => hk (List.mem_cons.mpr (Or.inr m))⟩
    rcases List.mem_append.mp m with q | q
    · exact h1 q
    · exact hk (List.mem_cons.mpr (Or.inl (List.mem_singleton.mp q).symm))
theorem nd_putK {kvs : List (κ × V)} {k : κ} (v : V) (hn : (kvs.map (·.1)).Nodup) (h : valV kvs k = none) : ((putK kvs k v).map (·.1)).Nodup := by
  rw [putK_new v h, List.map_append]
  exact nd_snoc hn (valV_not h)
theorem dropK_pos {p : κ × V} {r : List (κ × V)} {k : κ} (e : p.1 = k) : dropK (p :: r) k = dropK r k := by
  unfold dropK
  rw [List.filter_cons, if_neg (by simp [e])]
theorem dropK_neg {p : κ × V} {r : List (κ × V)} {k : κ} (e : ¬ p.1 = k) : dropK (p :: r) k = p :: dropK r k := by
  unfold dropK
  rw [List.filter_cons, if_pos (by simp [e])]
theorem dropK_no : ∀ {kvs : List (κ × V)} {k : κ}, ¬ k ∈ kvs.map (·.1) → dropK kvs k = kvs
  | [], _, _ => rfl
  | p :: r, k, h => by
    have h' : ¬ k ∈ r.map (·.1) := fun m => by
      obtain ⟨q, hq, e⟩ := List.mem_map.mp m
      exact h (List.mem_map.mpr ⟨q, List.mem_cons.mpr (Or.inr hq), e⟩)
    rw [dropK_neg fun e => h (List.mem_map.mpr ⟨p, List.mem_cons.mpr (Or.inl rfl), e⟩), dropK_no h']
theorem dropK_mem {kvs : List (κ × V)} {k : κ} {p : κ × V} (h : p ∈ dropK kvs k) : p ∈ kvs := (List.mem_filter.mp h).1
theorem nd_dropK : ∀ {kvs : List (κ × V)} {k : κ}, (kvs.map (·.1)).Nodup → ((dropK kvs k).map (·.1)).Nodup
  | [], _, _ => List.nodup_nil
  | p :: r, k, h => by
    have h : (p.1 :: r.map (·.1)).Nodup := h
    obtain ⟨h1, h2⟩ := List.nodup_cons.mp h
    by_cases e : p.1 = k
    · rw [dropK_pos e]
      exact nd_dropK h2
    · rw [dropK_neg e]
      show (p.1 :: (dropK r k).map (·.1)).Nodup
      refine List.nodup_cons.mpr ⟨fun m => h1 ?_, nd_dropK h2⟩
      obtain ⟨q, hq, eq⟩ := List.mem_map.mp m
      exact List.mem_map.mpr ⟨q, dropK_mem hq, eq⟩
theorem dropK_len : ∀ {kvs : List (κ × V)} {k : κ}, (kvs.map (·.1)).Nodup → k ∈ kvs.map (·.1) → (dropK kvs k).length + 1 = kvs.length
  | [], _, _, m => by simp at m
  | p :: r, k, h, m => by
    have h : (p.1 :: r.map (·.1)).Nodup := h
    have m : k = p.1 ∨ k ∈ r.map (·.1) := List.mem_cons.mp m
    obtain ⟨h1, h2⟩ := List.nodup_cons.mp h
    by_cases e : p.1 = k
    · subst e
      rw [dropK_pos rfl, dropK_no h1]
      all_goals rfl
    · have m' : k ∈ r.map (·.1) := m.resolve_left fun z => e z.symm
      have q := dropK_len h2 m'
      rw [dropK_neg e, List.length_cons, List.length_cons]
      omega
end
end L2


/-! BExt1 -/
set_option Elab.async false
set_option linter.all false
set_option maxRecDepth 100000
set_option maxHeartbeats 4000000
/-! COMPREHENSIONS over the hand layer: one clause, any target, tests or none; the block has a frame of its own, which sees the outer names by their cells. -/
namespace L2
open PySem PySem.Spec PyProof.Rows

/-! ### two statements, joined by what holds between them -/
def tSeqM (t u : TS) : TS := fun D σ H => ∃ M : St → Hp → Prop, t { D with nx := M } σ H ∧ ∀ σ' H', M σ' H' → u D σ' H'
theorem pss_cut {X : Cx} {st : Stmt} {rest : List Stmt} {t u : TS} (h1 : PS X st t) (h2 : PSs X rest u) : PSs X (st :: rest) (tSeqM t u) := by
  intro pins s σ H D I h
  obtain ⟨M, h, hM⟩ := h
  refine wpAny_execs_cons (thn (h1 pins s σ H { D with nx := M } I h) fun f s1 q => ?_)
  cases f with
  | next =>
    obtain ⟨σ', H', I', q⟩ := q
    exact h2 pins s1 σ' H' D I' (hM σ' H' q)
  | brk => exact q
  | cont => exact q
  | ret u => exact q
theorem iteB {c : Bool} {A B : Prop} (hc : c = true) (h : A) : if c = true then A else B := by rw [if_pos hc]; exact h
theorem iteN {c : Bool} {A B : Prop} (hc : c = false) (h : B) : if c = true then A else B := by rw [hc]; exact iteF h
/-! ### the tests of a clause -/
def PTs (X : Cx) (ifs : List Expr) (t : TT) : Prop :=
  ∀ (pins : List (Addr × Obj)) (s : Shared) (σ : St) (H : Hp) (Q : Bool → Hp → Prop), Inv X pins σ H s → t σ H Q →
    wpAny (model X.prog X.w) X.A (forIn ifs true fun c r => if r = true then do let ok ← isTrue c X.env (eval c X.env); pure (ForInStep.yield ok) else pure (ForInStep.yield r)) (TP X pins σ Q) X.xe s
def tYes : TT := fun _ H Q => Q true H
theorem yes_if {τ : St} {H : Hp} {A B : Hp → Prop} (h : A H) : tYes τ H (fun b H5 => if b = true then A H5 else B H5) := by
  show if true = true then A H else B H
  exact iteT h
theorem pts_nil {X : Cx} : PTs X [] tYes := fun _ _ _ H _ I h => wpAny_tests_nil ⟨H, I, h⟩
theorem pts_one {X : Cx} {c : Expr} {t : TT} (h : PT X c t) : PTs X [c] t := fun pins s σ H Q I hw => wpAny_tests_one (h pins s σ H Q I hw)

/-! ### the loop of a block, no exception within -/
section
variable {prog : Program} {w : World} {A : Around} {R : Result → Shared → Prop} {s : Shared}
abbrev NoE : Value → Shared → Prop := fun _ _ => False
theorem ofNoE {α : Type} {m : Sem α} {Q : α → Shared → Prop} {E : Value → Shared → Prop} {s : Shared} (h : wpAny (model prog w) A m Q NoE s) : wpAny (model prog w) A m Q E s :=
  wpAny_mono h (fun _ _ q => q) fun _ _ z => z.elim
/-- what one turn of a block does behind its item -/
def afterItem (prog : Program) (w : World) (A : Around) (env : Env) (tg : Expr) (ifs : List Expr) (elt : Expr) (it acc : Value) (again : Shared → Prop) (v : Value) (s1 : Shared) : Prop :=
  wpAny (model prog w) A (letOwnedTupleGo tg it v) (fun _ s2 => wpAny (model prog w) A (assign tg env v) (fun _ s3 =>
    wpAny (model prog w) A (forIn ifs true fun c r => if r = true then do let ok ← isTrue c env (eval c env); pure (ForInStep.yield ok) else pure (ForInStep.yield r)) (fun ok s4 =>
      if ok = true then wpAny (model prog w) A (eval elt env) (fun x s5 => wpAny (model prog w) A (call (.builtin "list.append") [acc, x]) (fun _ s6 => again s6) NoE s5) NoE s4
      else again s4) NoE s3) NoE s2) NoE s1
theorem block_loop {elt tg iter : Expr} {ifs : List Expr} {scope : Scope} {pos : Pos} {it acc : Value} {env : Env} (J : Nat → Shared → Prop)
    (turn : ∀ n s, J n s → wpAny (model prog w) A (pyNext it) (fun r s1 => match r with
      | none => R (.ok .next) s1
      | some v => afterItem prog w A env tg ifs elt it acc (fun s6 => ∃ m, m < n ∧ J m s6) v s1) NoE s)
    (n : Nat) (h : J n s) : codeAny (model prog w) A (.compLoop (.ListComp elt [⟨tg, iter, ifs, 0⟩] scope pos) 0 it acc env) R s := by
  refine codeAny_loop rfl J (fun n s hJ => ?_) n h
  show wpAny _ A ((compTurn (.ListComp elt [⟨tg, iter, ifs, 0⟩] scope pos) 0 it acc env).onRaise (fun x => do noteFrame x env; theTreesLotGoes x)) _ _ s
  refine wpAny_noted (ofNoE ?_)
  rw [compTurn_list]
  refine wpAny_bind (wpAny_standAt (wpAny_bind (thn (turn n s hJ) fun r s1 h1 => ?_)))
  cases r with
  | none => exact wpAny_pure h1
  | some v =>
    refine wpAny_bind (thn h1 fun _ s2 h2 => wpAny_bind (thn h2 fun _ s3 h3 => wpAny_bind (thn h3 fun ok s4 h4 => ?_)))
    cases ok with
    | false => exact wpAny_pure ⟨rfl, h4⟩
    | true => exact wpAny_bind (wpAny_bind (thn h4 fun x s5 h5 => wpAny_bind (thn h5 fun _ s6 h6 => wpAny_pure (wpAny_pure ⟨rfl, h6⟩))))
end

/-! ### the cells that a block sees -/
theorem clos_go {env : Env} : ∀ (names : List (Str × NameKind)) (acc : List (Str × Addr)), (∀ y ∈ names, y.2 = .free → ∃ c, env.cells.lookup y.1 = some c) → (∀ x c, acc.lookup x = some c → env.cells.lookup x = some c) →
    ∃ cl, (forIn names acc (fun (y : Str × NameKind) (cs : List (Str × Addr)) => (if (y.2 == NameKind.free) = true then (do let c ← cellOf env y.1; pure (ForInStep.yield ((y.1, c) :: cs))) else pure (ForInStep.yield cs) : Sem (ForInStep (List (Str × Addr)))))) = (pure cl : Sem (List (Str × Addr))) ∧
      (∀ x c, cl.lookup x = some c → env.cells.lookup x = some c) ∧ (∀ x, (acc.lookup x).isSome = true → (cl.lookup x).isSome = true) ∧ (∀ y ∈ names, y.2 = .free → (cl.lookup y.1).isSome = true)
  | [], acc, _, h2 => ⟨acc, rfl, h2, fun _ h => h, fun y hy => by cases hy⟩
  | (n, k) :: r, acc, h1, h2 => by
    have h1' : ∀ y ∈ r, y.2 = .free → ∃ c, env.cells.lookup y.1 = some c := fun y hy => h1 y (List.mem_cons_of_mem _ hy)
    by_cases hk : k = .free
    · subst hk
      obtain ⟨c, hc⟩ := h1 (n, .free) List.mem_cons_self rfl
      have h2' : ∀ x c', (((n, c) :: acc : List (Str × Addr)).lookup x) = some c' → env.cells.lookup x = some c' := fun x c' e => by
        rw [List.lookup_cons] at e
        by_cases hx : (x == n) = true
        · rw [hx] at e
          cases e
          rw [beq_iff_eq.mp hx]
          exact hc
        · rw [Bool.not_eq_true] at hx
          rw [hx] at e
          exact h2 x c' e
      obtain ⟨cl, e, p1, p2, p3⟩ := clos_go r ((n, c) :: acc) h1' h2'
      refine ⟨cl, ?_, p1, fun x hx => p2 x ?_, fun y hy hf => ?_⟩
      · rw [List.forIn_cons]
        have q : cellOf env n = pure c := by unfold cellOf; rw [hc]
        simp only [beq_self_eq_true, if_true, q, pure_bind]
        exact e
      · rw [List.lookup_cons]
        cases q : x == n with
        | true => rfl
        | false => exact hx
      · rcases List.mem_cons.mp hy with rfl | hy
        · exact p2 n (by rw [List.lookup_cons, beq_self_eq_true]; rfl)
        · exact p3 y hy hf
    · obtain ⟨cl, e, p1, p2, p3⟩ := clos_go r acc h1' h2
      have hb : (k == NameKind.free) = false := by simpa using hk
      refine ⟨cl, ?_, p1, p2, fun y hy hf => ?_⟩
      · rw [List.forIn_cons]
        simp only [hb, Bool.false_eq_true, if_false, pure_bind]
        exact e
      · rcases List.mem_cons.mp hy with rfl | hy
        · exact absurd hf hk
        · exact p3 y hy hf
/-- the closure of a block -/
structure Clos (env : Env) (scope : Scope) (cl : List (Str × Addr)) : Prop where
  eq : closureFor scope env = pure cl
  sub : ∀ x c, cl.lookup x = some c → env.cells.lookup x = some c
  all : ∀ y ∈ scope.names, y.2 = .free → (cl.lookup y.1).isSome = true
theorem clos_of {env : Env} {scope : Scope} (h : ∀ y ∈ scope.names, y.2 = .free → ∃ c, env.cells.lookup y.1 = some c) : ∃ cl, Clos env scope cl := by
  obtain ⟨cl, e, p1, p2, p3⟩ := clos_go (env := env) scope.names [] h (fun x c z => by simp at z)
  refine ⟨cl, ⟨?_, p1, p3⟩⟩
  have q : closureFor scope env = (forIn scope.names [] (fun (y : Str × NameKind) (cs : List (Str × Addr)) => (if (y.2 == NameKind.free) = true then (do let c ← cellOf env y.1; pure (ForInStep.yield ((y.1, c) :: cs))) else pure (ForInStep.yield cs) : Sem (ForInStep (List (Str × Addr))))) >>= fun s => pure s) := rfl
  rw [q, e, pure_bind]

/-! ### the block's context -/
abbrev cxComp (X : Cx) (scope : Scope) (N' : List Str) (cl : List (Str × Addr)) (C : Addr) (s₀ : Shared) (H₀ : Hp) (fp : List Addr) : Cx :=
  { X with N := N', s₀ := s₀, H₀ := H₀, env := compEnvC scope cl C X.env, outer := X.stack, ex := fp, fn := fun _ => false, pn := [], xe := NoE }
/-- a block's own part -/
structure Blk where
  cl : List (Str × Addr)
  C : Addr
  s₀ : Shared
  H₀ : Hp
  fp : List Addr
abbrev cxB (X : Cx) (scope : Scope) (N' : List Str) (b : Blk) : Cx := cxComp X scope N' b.cl b.C b.s₀ b.H₀ b.fp
def isCF : Option NameKind → Bool
  | some .cell => true
  | some .free => true
  | _ => false
theorem isCF_iff {k : Option NameKind} (h : isCF k = true) : k = some .cell ∨ k = some .free := by
  cases k with
  | none => cases h
  | some k => cases k <;> first | exact .inl rfl | exact .inr rfl | cases h
/-- the names that the block takes over: the j-th of the outer frame stands behind the t own ones -/
def capOk (N : List Str) (kd kd' : Str → Option NameKind) (N' : List Str) (t : Nat) : List Nat → Nat → Bool
  | [], k => N'.length == t + k
  | j :: r, k => (match N[j]?, N'[t + k]? with
    | some x, some y => (x == y) && isCF (kd x) && isCF (kd' x)
    | _, _ => false) && capOk N kd kd' N' t r (k + 1)
theorem capOk_len {N : List Str} {kd kd' : Str → Option NameKind} {N' : List Str} {t : Nat} : ∀ {caps : List Nat} {k : Nat}, capOk N kd kd' N' t caps k = true → N'.length = t + k + caps.length
  | [], k, h => by
    have := beq_iff_eq.mp h
    simpa using this
  | j :: r, k, h => by
    have := capOk_len (Bool.and_eq_true_iff.mp h).2
    rw [List.length_cons]
    omega
theorem capOk_at {N : List Str} {kd kd' : Str → Option NameKind} {N' : List Str} {t : Nat} : ∀ {caps : List Nat} {k i j : Nat}, capOk N kd kd' N' t caps k = true → caps[i]? = some j →
    ∃ x, N[j]? = some x ∧ N'[t + k + i]? = some x ∧ isCF (kd x) = true ∧ isCF (kd' x) = true
  | [], _, _, _, _, e => by simp at e
  | j :: r, k, 0, j', h, e => by
    simp at e
    subst e
    have h1 := (Bool.and_eq_true_iff.mp h).1
    cases q : N[j]? with
    | none => rw [q] at h1; cases h1
    | some x =>
      cases q' : N'[t + k]? with
      | none => rw [q, q'] at h1; cases h1
      | some y =>
        rw [q, q'] at h1
        obtain ⟨h2, h3⟩ := Bool.and_eq_true_iff.mp h1
        obtain ⟨h4, h5⟩ := Bool.and_eq_true_iff.mp h2
        obtain rfl : x = y := beq_iff_eq.mp h4
        exact ⟨x, rfl, rfl, h5, h3⟩
  | j :: r, k, i + 1, j', h, e => by
    obtain ⟨x, a, b, c, d⟩ := capOk_at (i := i) (Bool.and_eq_true_iff.mp h).2 (by simpa using e)
    refine ⟨x, a, ?_, c, d⟩
    have q : t + (k + 1) + i = t + k + (i + 1) := by omega
    rw [← q]
    exact b
/-- what must be seen of a block's scope -/
structure CompOk (X : Cx) (scope : Scope) (N' : List Str) (t : Nat) (caps : List Nat) : Prop where
  kind : scope.kind = .function
  shape : (scope.names.all fun y => (y.2 == .local && scope.names.lookup y.1 == some .local) || (y.2 == .free && isCF (X.env.kindOf y.1)) || (y.2 == .globalImplicit)) = true
  cap : capOk X.N X.env.kindOf (compEnvC scope [] 0 X.env).kindOf N' t caps 0 = true
theorem CompOk.at {X : Cx} {scope : Scope} {N' : List Str} {t : Nat} {caps : List Nat} (S : CompOk X scope N' t caps) {y : Str × NameKind} (hy : y ∈ scope.names) :
    y.2 ≠ .cell ∧ (y.2 = .local → scope.names.lookup y.1 = some .local) ∧ (y.2 = .free → isCF (X.env.kindOf y.1) = true) := by
  have h := List.all_eq_true.mp S.shape y hy
  obtain ⟨n, k⟩ := y
  cases k <;> simp at h <;> simp [h]
/-- the values at a block's entry -/
def capS (t : Nat) (caps : List Nat) (σ : St) : St := List.replicate t none ++ caps.map fun j => (σ[j]?).join

theorem relabel_cf {scope : Scope} {env : Env} {x : Str} : ∀ {names : List (Str × NameKind)}, (∀ y ∈ names, y.2 ≠ .cell) → isCF ((names.map fun (y : Str × NameKind) => if (y.2 == NameKind.free && env.scope.kind == .function && env.kindOf y.1 == some .cell) = true then (y.1, NameKind.cell) else (y.1, y.2)).lookup x) = true →
    (x, NameKind.free) ∈ names
  | [], _, h => by simp [isCF] at h
  | (n, k) :: r, hn, h => by
    have hr : ∀ y ∈ r, y.2 ≠ .cell := fun y hy => hn y (List.mem_cons_of_mem _ hy)
    have hk : k ≠ .cell := hn (n, k) List.mem_cons_self
    rw [List.map_cons] at h
    by_cases hx : (x == n) = true
    · obtain rfl : x = n := beq_iff_eq.mp hx
      have q : k = .free := by
        by_cases hf : k = .free
        · exact hf
        · exfalso
          have hb : (k == NameKind.free) = false := by simpa using hf
          simp only [hb, Bool.false_and, Bool.false_eq_true, if_false, List.lookup_cons, beq_self_eq_true] at h
          cases k <;> simp [isCF] at h hk hf
      subst q
      exact List.mem_cons_self
    · rw [Bool.not_eq_true] at hx
      refine List.mem_cons_of_mem _ (relabel_cf (scope := scope) (env := env) hr ?_)
      by_cases hc : (k == NameKind.free && env.scope.kind == .function && env.kindOf n == some .cell) = true
      · simp only [hc, if_true, List.lookup_cons, hx] at h
        exact h
      · rw [Bool.not_eq_true] at hc
        simp only [hc, Bool.false_eq_true, if_false, List.lookup_cons, hx] at h
        exact h

/-! ### the reading -/
/-- D: the new list, ys its items so far; τ the block's names -/
def CompR (J : It) (g : TG) (tc : TT) (te : TE) (Q : VK) (D : Addr) (τ0 : St) (H0 : Hp) : Prop :=
  ∃ W : Nat → Nat → List V → St → Hp → Prop, (∃ m, W 0 m [] τ0 H0) ∧ ∀ i m ys τ H, W i m ys τ H →
    (J.stop i H ∧ Q (.ref D) H) ∨ (J.go i H ∧ ∃ N : List V → St → Hp → Prop, (∀ zs τ' H', N zs τ' H' → ∃ m', m' < m ∧ W (i + 1) m' zs τ' H') ∧ ∀ x H3, J.yld i H x H3 → g x τ H3 fun τ2 H4 => tc τ2 H4 fun b H5 =>
      if b = true then te τ2 H5 fun y H6 => H6 D = some (.lst ys) ∧ ys.length < sizeLine ∧ N (ys ++ [y]) τ2 (upd H6 D (.lst (ys ++ [y]))) else N ys τ2 H5)
def tComp (wi : TI) (g : Blk → TG) (tc : Blk → TT) (te : Blk → TE) (t : Nat) (caps : List Nat) : TE := fun σ H Q =>
  wi σ H fun J H1 => ∀ D, H1 D = none → ∀ b : Blk, CompR J (g b) (tc b) (te b) Q D (capS t caps σ) (upd H1 D (.lst []))

/-! the forms one uses -/
theorem comp_by {J : It} {g : TG} {tc : TT} {te : TE} {Q : VK} {D : Addr} {τ0 : St} {H0 : Hp} (n : Nat) (Pv : Nat → List V → St → Hp → Prop) (h0 : Pv 0 [] τ0 H0)
    (hst : ∀ zs τ H, Pv n zs τ H → J.stop n H ∧ Q (.ref D) H)
    (hgo : ∀ i zs τ H, i < n → Pv i zs τ H → J.go i H ∧ ∀ x H3, J.yld i H x H3 → g x τ H3 fun τ2 H4 => tc τ2 H4 fun b H5 =>
      if b = true then te τ2 H5 fun y H6 => H6 D = some (.lst zs) ∧ zs.length < sizeLine ∧ Pv (i + 1) (zs ++ [y]) τ2 (upd H6 D (.lst (zs ++ [y]))) else Pv (i + 1) zs τ2 H5) : CompR J g tc te Q D τ0 H0 := by
  refine ⟨fun i m zs τ H => m = n - i ∧ i ≤ n ∧ Pv i zs τ H, ⟨n, by simp, Nat.zero_le _, h0⟩, ?_⟩
  rintro i m zs τ H ⟨rfl, hi, p⟩
  by_cases hlt : i < n
  · obtain ⟨go, step⟩ := hgo i zs τ H hlt p
    exact .inr ⟨go, Pv (i + 1), fun zs' τ' H' p' => ⟨n - (i + 1), by omega, rfl, hlt, p'⟩, step⟩
  · have e : i = n := by omega
    subst e
    exact .inl (hst zs τ H p)
theorem comp_list {K : PySem.W.Frag} {a : Addr} {xs : List V} {g : TG} {tc : TT} {te : TE} {Q : VK} {D : Addr} {τ0 : St} {H0 : Hp} (Pv : Nat → List V → St → Hp → Prop) (h0 : Pv 0 [] τ0 H0) (hl : ∀ i zs τ H, Pv i zs τ H → SqL K H a xs)
    (hs : ∀ i x zs τ H, xs[i]? = some x → Pv i zs τ H → g x τ H fun τ2 H4 => tc τ2 H4 fun b H5 =>
      if b = true then te τ2 H5 fun y H6 => H6 D = some (.lst zs) ∧ zs.length < sizeLine ∧ Pv (i + 1) (zs ++ [y]) τ2 (upd H6 D (.lst (zs ++ [y]))) else Pv (i + 1) zs τ2 H5)
    (hd : ∀ zs τ H, Pv xs.length zs τ H → Q (.ref D) H) : CompR (Itl K a) g tc te Q D τ0 H0 :=
  comp_by xs.length Pv h0 (fun zs τ H p => ⟨⟨xs, hl _ _ _ _ p, Nat.le_refl _⟩, hd zs τ H p⟩) fun i zs τ H hi p => ⟨⟨xs, xs[i], hl _ _ _ _ p, by simp [hi]⟩, fun x H3 y => by
    obtain ⟨e, y⟩ := y
    subst e
    exact hs i x zs τ _ (y xs (hl _ _ _ _ p)) p⟩
theorem comp_tup {K : PySem.W.Frag} {a : Addr} {xs : List V} {g : TG} {tc : TT} {te : TE} {Q : VK} {D : Addr} {τ0 : St} {H0 : Hp} (Pv : Nat → List V → St → Hp → Prop) (h0 : Pv 0 [] τ0 H0) (hl : ∀ i zs τ H, Pv i zs τ H → SqT K H a xs)
    (hs : ∀ i x zs τ H, xs[i]? = some x → Pv i zs τ H → g x τ H fun τ2 H4 => tc τ2 H4 fun b H5 =>
      if b = true then te τ2 H5 fun y H6 => H6 D = some (.lst zs) ∧ zs.length < sizeLine ∧ Pv (i + 1) (zs ++ [y]) τ2 (upd H6 D (.lst (zs ++ [y]))) else Pv (i + 1) zs τ2 H5)
    (hd : ∀ zs τ H, Pv xs.length zs τ H → Q (.ref D) H) : CompR (Itt K a) g tc te Q D τ0 H0 :=
  comp_by xs.length Pv h0 (fun zs τ H p => ⟨⟨xs, hl _ _ _ _ p, Nat.le_refl _⟩, hd zs τ H p⟩) fun i zs τ H hi p => ⟨⟨xs, xs[i], hl _ _ _ _ p, by simp [hi]⟩, fun x H3 y => by
    obtain ⟨e, y⟩ := y
    subst e
    exact hs i x zs τ _ (y xs (hl _ _ _ _ p)) p⟩
theorem comp_range {lo : Int} {n : Nat} {g : TG} {tc : TT} {te : TE} {Q : VK} {D : Addr} {τ0 : St} {H0 : Hp} (Pv : Nat → List V → St → Hp → Prop) (h0 : Pv 0 [] τ0 H0)
    (hs : ∀ i zs τ H, i < n → Pv i zs τ H → g (.int (lo + i)) τ H fun τ2 H4 => tc τ2 H4 fun b H5 =>
      if b = true then te τ2 H5 fun y H6 => H6 D = some (.lst zs) ∧ zs.length < sizeLine ∧ Pv (i + 1) (zs ++ [y]) τ2 (upd H6 D (.lst (zs ++ [y]))) else Pv (i + 1) zs τ2 H5)
    (hd : ∀ zs τ H, Pv n zs τ H → Q (.ref D) H) : CompR (Itr lo n) g tc te Q D τ0 H0 :=
  comp_by n Pv h0 (fun zs τ H p => ⟨Nat.le_refl _, hd zs τ H p⟩) fun i zs τ H hi p => ⟨hi, fun x H3 y => by
    obtain ⟨e, y⟩ := y
    subst e y
    exact hs i zs τ _ hi p⟩
section
variable {X : Cx} {tg iter elt : Expr} {ifs : List Expr} {scope : Scope} {pos : Pos} {N' : List Str} {t : Nat} {caps : List Nat} {g : Blk → TG} {tc : Blk → TT} {te : Blk → TE} {wi : TI}
theorem FpOk.heap {pins : List (Addr × Obj)} {H H' : Hp} {b : Addr} (f : FpOk X pins H b) (h : H' b = none) : FpOk X pins H' b := ⟨h, f.2⟩

theorem comp_core {cl : List (Str × Addr)} {J : It} {fp : List Addr} {it : Addr} {tn : Nat → Heap → Prop} {pins : List (Addr × Obj)} {σ : St} {H2 : Hp} {s2 : Shared} {Q : VK} {E : Value → Shared → Prop}
    (hc : X.calm = true) (S : CompOk X scope N' t caps) (L : Clos X.env scope cl)
    (hg : ∀ b, PG (cxB X scope N' b) tg (g b)) (ht : ∀ b, PTs (cxB X scope N' b) ifs (tc b)) (he : ∀ b, PE (cxB X scope N' b) elt (te b))
    (I2 : Inv X pins σ H2 s2) (T : Turn X.prog X.w X.K tg J fp it tn) (st2 : tn 0 s2.heap) (f2 : ∀ b ∈ fp, FpOk X pins H2 b)
    (R : ∀ D, H2 D = none → ∀ b, CompR J (g b) (tc b) (te b) Q D (capS t caps σ) (upd H2 D (.lst []))) :
    wpAny (model X.prog X.w) X.A (newList []) (fun acc s3 => wpAny (model X.prog X.w) X.A (newFunctionEnv scope X.env.globals cl [] X.env.qual none .none (some X.env)) (fun cenv s4 =>
      codeAny (model X.prog X.w) X.A (.compStart (.ListComp elt [⟨tg, iter, ifs, 0⟩] scope pos) 0 (.ref it) acc { cenv with scope := relabel scope X.env })
        (fun r s' => ∃ (D : Addr) (H' : Hp) (m : Str → Option Value), acc = .ref D ∧ r = .ok .next ∧ Inv X pins σ H' s' ∧ s'.heap.Ns cenv.locals m ∧ FpOk X pins H' cenv.locals ∧ Q (.ref D) H') s4) E s3) E s2 := by
  refine wpAny_newObj_type ?_
  have I3 : Inv X pins σ (upd H2 s2.heap.objs.size (.lst [])) { s2 with heap := s2.heap.push { cls := .type "list", data := .seq ([] : List Value).toArray } } := I2.lnew (t' := s2.toks) .nil (Nat.zero_le _)
  have hD : H2 s2.heap.objs.size = none := I2.fresh
  have R := R _ hD
  generalize hs3 : ({ s2 with heap := s2.heap.push { cls := .type "list", data := .seq ([] : List Value).toArray } } : Shared) = s3 at I3 ⊢
  generalize hH3 : upd H2 s2.heap.objs.size (.lst []) = H3 at I3 R
  generalize hDD : s2.heap.objs.size = D at R ⊢
  have k3 : ∀ b o, s2.heap.get? b = some o → s3.heap.get? b = some o := fun b o e => by rw [← hs3]; exact Heap.get?_push_of_some _ e
  have st3 : tn 0 s3.heap := T.keep 0 _ _ st2 fun b _ o e => k3 b o e
  have fpn : ∀ b ∈ fp, H3 b = none := fun b hb => by
    obtain ⟨o, e, _⟩ := T.obj 0 _ st2 b hb
    rw [← hH3, upd_ne (Nat.ne_of_lt (Heap.lt_size e))]
    exact (f2 b hb).1
  have f3 : ∀ b ∈ fp, FpOk X pins H3 b := fun b hb => (f2 b hb).heap (fpn b hb)
  refine wpAny_newFunctionEnv (fun y hy => (S.at hy).1) (by intro y hy; simp at hy) (fun h4 hns hsb => ?_) S.kind
  generalize hC : s3.heap.objs.size = C at hns hsb ⊢
  have k4 : ∀ b o, s3.heap.get? b = some o → h4.get? b = some o := fun b o e => hsb.extBut b o (by rw [← hC]; exact Nat.ne_of_lt (Heap.lt_size e)) (Heap.get?_push_of_some _ e)
  have cellsub : ∀ x c, (cxComp X scope N' cl C s3 H3 fp).env.cells.lookup x = some c → X.env.cells.lookup x = some c := L.sub
  have hnc : ∀ y ∈ scope.names, y.2 ≠ .cell := fun y hy => (S.at hy).1
  have fC : ∀ {H' : Hp}, H' C = none → FpOk X pins H' C := fun h => by rw [← hC] at h ⊢; exact I3.fpOk (Nat.le_refl _) h
  have I4 : Inv (cxComp X scope N' cl C s3 H3 fp) [] (capS t caps σ) H3 { s3 with heap := h4, toks := s3.toks + ([] : List (Str × Value)).length } := by
    refine ⟨⟨I3.ok.mod, S.kind, I3.ok.glob, I3.ok.blt, Nat.le_of_eq hC, fun x y c h1 h2 => I3.ok.inj x y c (L.sub _ _ h1) (L.sub _ _ h2), fun x hx => ?_, fun x c h _ => absurd (show false = true from h) Bool.false_ne_true, I3.ok.hd, I3.ok.frames, .inl rfl, fun b hb => ⟨?_, fun x c e => (f3 b hb).2.2.2.2.1 x c (L.sub x c e)⟩,
        I3.bs, Nat.le_trans I3.ok.bsz I3.sz, fun b o e hb => ?_, fun b hb z => ?_, I3.stack, I3.stkFree⟩,
      rfl, I3.bare, Un.kept k4, ⟨_, hns, fun i x v e1 e2 e3 => ?_⟩, fun x c e => ?_, (by rw [← hC]; exact I3.fresh), fun x c e => I3.freeC x c (L.sub x c e), fun p hp => ?_, I3.hok.kept k4, ?_⟩
    · have hx' : isCF ((relabel scope X.env).names.lookup x) = true := by
        rcases hx with q | q
        · rw [show (relabel scope X.env).names.lookup x = some .cell from q]; rfl
        · rw [show (relabel scope X.env).names.lookup x = some .free from q]; rfl
      exact Option.isSome_iff_exists.mp (L.all _ (relabel_cf (scope := scope) hnc hx') rfl)
    · obtain ⟨o, e, _⟩ := T.obj 0 _ st3 b hb
      rw [← hC]
      exact Nat.ne_of_lt (Heap.lt_size e)
    · rcases (f3 b hb).2.2.2.1 with z | z
      · exact I3.ok.noex b o e z
      · exact absurd (Nat.lt_of_lt_of_le (Nat.lt_of_lt_of_le (Heap.lt_size e) I3.ok.bsz) z) (Nat.lt_irrefl _)
    · rcases List.mem_cons.mp (I3.stkSub b z) with q | q
      · exact (f3 b hb).2.1 q
      · exact (f3 b hb).2.2.1 q
    · -- a name that was taken over
      unfold capS at e2
      by_cases hi : i < t
      · rw [List.getElem?_append_left (by simpa using hi), List.getElem?_replicate] at e2
        simp [hi] at e2
      · rw [List.getElem?_append_right (by simpa using hi), List.length_replicate, List.getElem?_map] at e2
        cases q : caps[i - t]? with
        | none => rw [q] at e2; simp at e2
        | some j =>
          rw [q] at e2
          obtain ⟨y, c1, c2, c3, c4⟩ := capOk_at S.cap q
          have ei : t + 0 + (i - t) = i := by omega
          rw [ei] at c2
          have exy : x = y := Option.some.inj ((show N'[i]? = some x from e1).symm.trans c2)
          subst exy
          have e2' : σ[j]? = some (some v) := by
            have e2 : (σ[j]?).join = some v := Option.some.inj e2
            cases r : σ[j]? with
            | none => rw [r] at e2; cases e2
            | some z =>
              rw [r] at e2
              have e2 : z = some v := e2
              rw [e2]
          obtain ⟨m, hn, hl⟩ := I3.loc
          have cf := isCF_iff c3
          obtain ⟨u, ru, lk⟩ := hl j x v c1 e2' (.inr (by
            rcases cf with z | z
            · exact .inl z
            · exact .inr z))
          refine ⟨u, ru, .inr ⟨isCF_iff c4, ?_⟩⟩
          rcases lk with ⟨z, _⟩ | ⟨_, c, ec, zc⟩
          · rcases cf with w | w <;> (rw [z] at w; cases w)
          · have hfree := relabel_cf (scope := scope) (env := X.env) (x := x) hnc c4
            obtain ⟨c', ec'⟩ := Option.isSome_iff_exists.mp (L.all _ hfree rfl)
            have := L.sub _ _ ec'
            rw [show X.env.cells.lookup x = some c from ec] at this
            cases this
            obtain ⟨o, ho, hd⟩ := zc
            exact ⟨c, ec', o, k4 _ _ ho, hd⟩
    · obtain ⟨v, o, ho, hd⟩ := I3.cell x c (L.sub x c e)
      exact ⟨v, o, k4 _ _ ho, hd⟩
    · exact absurd (show p ∈ ([] : List (Addr × Obj)) from hp) (by simp)
    · unfold capS
      rw [List.length_append, List.length_replicate, List.length_map, capOk_len S.cap]
      omega
  obtain ⟨W, ⟨m0, w0⟩, turn⟩ := R ⟨cl, C, s3, H3, fp⟩
  -- back to the frame outside
  have back : ∀ {τ : St} {H' : Hp} {s' : Shared}, Inv (cxComp X scope N' cl C s3 H3 fp) [] τ H' s' → Inv X pins σ H' s' := fun {τ H' s'} J => by
    refine I3.call' (ch := fp) (J.os.trans ?_) J.base J.hok J.bare fun b hb => ⟨(f3 b hb).2.2.2.1, (f3 b hb).2.1, (f3 b hb).2.2.2.2.1, (f3 b hb).2.2.2.2.2⟩
    rfl
  have stat : ∀ {H' : Hp}, (∀ b ∈ fp, H' b = none) → ∀ b ∈ fp, FpOk (cxComp X scope N' cl C s3 H3 fp) [] H' b := fun {H'} hn b hb => by
    refine ⟨hn b hb, (I4.ok.exf b hb).1, I4.ok.exfs b hb, .inl hb, (I4.ok.exf b hb).2, fun p hp => ?_⟩
    exact absurd (show p ∈ ([] : List (Addr × Obj)) from hp) (by simp)
  have loop : codeAny (model X.prog X.w) X.A (.compLoop (.ListComp elt [⟨tg, iter, ifs, 0⟩] scope pos) 0 (.ref it) (.ref D) (compEnvC scope cl C X.env))
      (fun r s' => ∃ (D' : Addr) (H' : Hp) (m : Str → Option Value), Value.ref D = .ref D' ∧ r = .ok .next ∧ Inv X pins σ H' s' ∧ s'.heap.Ns C m ∧ FpOk X pins H' C ∧ Q (.ref D') H') { s3 with heap := h4, toks := s3.toks + ([] : List (Str × Value)).length } := by
    refine block_loop (fun n s' => ∃ i ys τ H', Inv (cxComp X scope N' cl C s3 H3 fp) [] τ H' s' ∧ tn i s'.heap ∧ (∀ b ∈ fp, H' b = none) ∧ W i n ys τ H') ?_ m0 ⟨0, [], _, H3, I4, T.keep 0 _ _ st3 fun b _ o e => k4 b o e, fpn, w0⟩
    rintro n s5 ⟨i, ys, τ, H5, I5, st5, fr5, w5⟩
    rcases turn i n ys τ H5 w5 with ⟨stop, q⟩ | ⟨go, N, hN, step⟩
    · refine thn (T.done (cxComp X scope N' cl C s3 H3 fp) rfl rfl rfl hc i [] s5 τ H5 NoE I5 (stat fr5) st5 stop) fun r s6 ⟨hr, I6⟩ => ?_
      subst hr
      obtain ⟨m, hm, _⟩ := id I6.loc
      exact ⟨D, H5, m, rfl, rfl, back I6, hm, fC I6.free, q⟩
    · refine thn (T.item (cxComp X scope N' cl C s3 H3 fp) rfl rfl rfl hc i [] s5 τ H5 NoE I5 (stat fr5) st5 go) fun r s6 ⟨u, hr, h6⟩ => ?_
      subst hr
      refine thn h6 fun _ s7 ⟨x, H7, I7, r7, y7, st7, fr7⟩ => ?_
      have I7' := I7.pinned (stat fr7) (T.obj _ _ st7)
      have again : ∀ {τ9 : St} {H9 : Hp} {s9 : Shared} {ys9 : List V} {m' : Nat}, Inv (cxComp X scope N' cl C s3 H3 fp) ([] ++ pinsAt fp s7.heap) τ9 H9 s9 → m' < n → W (i + 1) m' ys9 τ9 H9 →
          ∃ m, m < n ∧ ∃ i ys τ H', Inv (cxComp X scope N' cl C s3 H3 fp) [] τ H' s9 ∧ tn i s9.heap ∧ (∀ b ∈ fp, H' b = none) ∧ W i m ys τ H' := fun {τ9 H9 s9 ys9 m'} I9 hm w9 => by
        refine ⟨m', hm, i + 1, ys9, τ9, H9, I9.unpinned, T.keep _ _ _ st7 fun b hb o e => (I9.pin (b, o) (List.mem_append_right _ (List.mem_append_right _ (mem_pinsAt hb e)))).1, fun b hb => ?_, w9⟩
        obtain ⟨o, e, _⟩ := T.obj _ _ st7 b hb
        exact (I9.pin (b, o) (List.mem_append_right _ (List.mem_append_right _ (mem_pinsAt hb e)))).2.1
      refine thn (hg ⟨cl, C, s3, H3, fp⟩ _ s7 τ H7 x u _ I7' r7 (step x H7 y7)) fun _ s8 ⟨τ8, H8, I8, q8⟩ => ?_
      refine thn (ht ⟨cl, C, s3, H3, fp⟩ _ s8 τ8 H8 _ I8 q8) fun ok s9 ⟨H9, I9, q9⟩ => ?_
      cases ok with
      | false =>
        obtain ⟨m', hm, w9⟩ := hN _ _ _ (show N ys τ8 H9 from q9)
        exact again I9 hm w9
      | true =>
        refine thn (he ⟨cl, C, s3, H3, fp⟩ _ s9 τ8 H9 _ I9 q9) fun y s10 ⟨z, H10, I10, r10, hl, hz, q10⟩ => ?_
        refine thn (mt_append _ s10 τ8 H10 (.ref D) [z] (.ref D) [y] (fun v H11 => v = .non ∧ H11 = upd H10 D (.lst (ys ++ [z]))) I10 rfl (.cons r10 .nil) ⟨D, ys, z, rfl, rfl, hl, hz, rfl, rfl⟩) fun _ s11 ⟨v, H11, I11, _, _, e11⟩ => ?_
        subst e11
        obtain ⟨m', hm, w10⟩ := hN _ _ _ q10
        exact again I11 hm w10
  exact codeAny_compStart_list loop (T.self _ 0 _ _ _ (T.keep 0 _ _ st3 fun b _ o e => k4 b o e) loop)

/-- [elt for tg in iter if ..] -/
theorem pe_comp (hc : X.calm = true) (S : CompOk X scope N' t caps) (hi : PI X tg iter wi)
    (hg : ∀ b, PG (cxB X scope N' b) tg (g b)) (ht : ∀ b, PTs (cxB X scope N' b) ifs (tc b)) (he : ∀ b, PE (cxB X scope N' b) elt (te b))
    (hs : ∀ x, foldedSetIterable iter X.env x = pure x := by intro _; rfl) : PE X (.ListComp elt [⟨tg, iter, ifs, 0⟩] scope pos) (tComp wi g tc te t caps) := by
  intro pins s σ H Q I h
  obtain ⟨cl, L⟩ := clos_of (env := X.env) (scope := scope) fun y hy hf => I.ok.has y.1 (isCF_iff ((S.at hy).2.2 hf))
  rw [eval_ListComp]
  refine wpAny_comprehension_free (use := none) rfl hs L.eq S.kind (fun y hy => (S.at hy).2.1) (thn (hi pins s σ H _ I h) fun x s1 h1 => thn h1 fun itv s2 h2 => ?_)
  obtain ⟨it, fp, tn, J, H2, rfl, I2, T, st2, f2, R⟩ := h2
  refine thn (comp_core hc S L hg ht he I2 T st2 f2 R) fun acc s3 h3 => thn h3 fun cenv s4 h4 => codeAny_mono h4 fun r s' hr => ?_
  obtain ⟨D, H', m, rfl, rfl, I', hm, fC, q⟩ := hr
  obtain ⟨c0, c1, c2, c3, c4, c5⟩ := fC
  exact ⟨m, hm, fun h' sb => ⟨.ref D, H', I'.turned (t' := s'.toks) (fun b o hb e => sb.extBut b o hb e) c0 c1 c3 c4 c5, rfl, q⟩⟩

/-- y = [elt for tg in iter if ..], y a local name: stored ahead of the block's own names being let go -/
theorem ps_setComp {i : Nat} {y : Str} {py spos : Pos} (hc : X.calm = true) (hN : X.N.Nodup) (hiy : X.N[i]? = some y) (hy : Loc X.env.scope y) (S : CompOk X scope N' t caps) (hi : PI X tg iter wi)
    (hg : ∀ b, PG (cxB X scope N' b) tg (g b)) (ht : ∀ b, PTs (cxB X scope N' b) ifs (tc b)) (he : ∀ b, PE (cxB X scope N' b) elt (te b))
    (hsw : swapsWith (.ListComp elt [⟨tg, iter, ifs, 0⟩] scope pos) (some (.Name y py)) spos.line X.env = pure true := by rfl)
    (hs : ∀ x, foldedSetIterable iter X.env x = pure x := by intro _; rfl) (hf : X.fn y = true ∨ X.env.scope.names.lookup y = some .local := by first | exact .inl rfl | exact .inr rfl | assumption) :
    PS X (.Assign [.Name y py] (.ListComp elt [⟨tg, iter, ifs, 0⟩] scope pos) spos) (tAsg (tComp wi g tc te t caps) (gName i)) := by
  intro pins s σ H D' I h
  obtain ⟨cl, L⟩ := clos_of (env := X.env) (scope := scope) fun y hy hf => I.ok.has y.1 (isCF_iff ((S.at hy).2.2 hf))
  rw [exec_Assign_Name_used _ _ _ _ hsw]
  refine wpAny_bind (wpAny_standAt (wpAny_bind ?_))
  show wpAny _ X.A (comprehension (.ListComp elt [⟨tg, iter, ifs, 0⟩] scope pos) scope X.env _ (newList []) false (eval iter X.env) (some (assign (.Name y py) X.env)) >>= fun _ => pure ()) _ _ s
  refine wpAny_bind (thn (Q := fun _ s' => SP X pins D' .next s') ?_ fun _ s' hq => wpAny_pure (wpAny_pure hq))
  refine wpAny_comprehension_free (use := some (assign (.Name y py) X.env)) rfl hs L.eq S.kind (fun y hy => (S.at hy).2.1) (thn (hi pins s σ H _ I h) fun x s1 h1 => thn h1 fun itv s2 h2 => ?_)
  obtain ⟨it, fp, tn, J, H2, rfl, I2, T, st2, f2, R⟩ := h2
  refine thn (comp_core hc S L hg ht he I2 T st2 f2 R) fun acc s3 h3 => thn h3 fun cenv s4 h4 => codeAny_mono h4 fun r s' hr => ?_
  obtain ⟨D, H', m, rfl, rfl, I', hm, fC, q⟩ := hr
  obtain ⟨c0, c1, c2, c3, c4, c5⟩ := fC
  show wpAny _ X.A (assign (.Name y py) X.env (.ref D)) _ _ _
  refine wpAny_assign_Name (store_ok2 I' hN hiy hy (show RelV (.ref D) (.ref D) from rfl) (fun s'' I'' ⟨a, sb, ha⟩ => ?_) hf)
  have hne : cenv.locals ≠ a := by
    rcases ha with z | z
    · rw [z]; exact c1
    · exact fun z' => c4 y a z z'.symm
  refine ⟨m, hm.sameBut sb hne, fun h' sb' => ?_⟩
  exact ⟨_, H', I''.turned (t' := s''.toks) (fun b o hb e => sb'.extBut b o hb e) c0 c1 c3 c4 c5, q⟩
end
end L2

/-! BExt2 -/
set_option Elab.async false
set_option linter.all false
set_option maxRecDepth 100000
set_option maxHeartbeats 4000000
namespace L2
open PySem PySem.Spec PyProof.Rows

/-! ### division by a greater number -/
def CDivG (i j : Int) : Prop := 0 < j ∧ j.natAbs.log2 < 9000
section
variable {X : Cx}
theorem op_fdivG : OpR X (binaryOp .FloorDiv) (rI CDivG fun i j => .int (i / j)) := opI fun i j _ _ _ _ _ hc q => by
  have e : i.fdiv j = i / j := Int.fdiv_eq_ediv_of_nonneg i (Int.le_of_lt hc.1)
  exact floordiv_int (Ne.symm (Int.ne_of_lt hc.1)) (by rw [e]; exact q) (.inl (PyProof.noPylong_of_log2 hc.2))

/-! ### isinstance -/
def clsV : V → Option Value
  | .ty n => some (.type n)
  | .ref a => some (.ref a)
  | _ => none
theorem clsV_rel {c : V} {cv u : Value} (h : clsV c = some cv) (r : RelV c u) : u = cv := by
  cases c <;> simp [clsV] at h
  · exact (show u = Value.ref _ from r).trans h
  · exact (show u = Value.type _ from r).trans h
def rIsi (K : PySem.W.Frag) : List V → Hp → VK → Prop := fun xs H Q => ∃ x c t cv b, xs = [x, c] ∧ clsV c = some cv ∧ TyOf K H x t ∧ PySem.W.kitOne K t cv = some b ∧ Q (.bl b) H
theorem call_isi : CallR X (.builtin "isinstance") (rIsi X.K) := by
  intro pins s σ H xs us Q I r h
  obtain ⟨x, c, t, cv, b, rfl, hc, ty, e, q⟩ := h
  obtain ⟨u, v, rfl, r1, r2⟩ := r.two
  obtain rfl := clsV_rel hc r2
  exact isinst_ok I r1 ty e fun tk => ⟨.bl b, H, I.tok tk, rfl, q⟩

/-! ### == and != of lists and tuples, whatever is within -/
/-- x == y is b; n bounds the nesting -/
inductive EqD (K : PySem.W.Frag) (H : Hp) : V → V → Bool → Nat → Prop where
  | flat {x y : V} {n : Nat} (fx : flatV x = true) (fy : flatV y = true) : EqD K H x y (eqV x y) n
  | same {a : Addr} {n : Nat} : EqD K H (.ref a) (.ref a) true n
  | lst {a b : Addr} {xs ys : List V} {e : Nat → Bool} {n : Nat} (hne : a ≠ b) (ha : SqL K H a xs) (hb : SqL K H b ys) (hl : xs.length = ys.length) (h : ∀ (j : Nat) x y, xs[j]? = some x → ys[j]? = some y → EqD K H x y (e j) n) :
      EqD K H (.ref a) (.ref b) ((List.range xs.length).all e) (n + 1)
  | tup {a b : Addr} {xs ys : List V} {e : Nat → Bool} {n : Nat} (hne : a ≠ b) (ha : SqT K H a xs) (hb : SqT K H b ys) (hl : xs.length = ys.length) (h : ∀ (j : Nat) x y, xs[j]? = some x → ys[j]? = some y → EqD K H x y (e j) n) :
      EqD K H (.ref a) (.ref b) ((List.range xs.length).all e) (n + 1)
theorem in1_units (A : Around) : A.in1.units = A.units + 1 := rfl
theorem EqD.at {pins : List (Addr × Obj)} {σ : St} {H : Hp} {s : Shared} {x y : V} {b : Bool} {n : Nat} (I : Inv X pins σ H s) (h : EqD X.K H x y b n) :
    ∀ (A : Around) (u v : Value), A.units + n < cLine → RelV x u → RelV y v → SeqAt.EqAt A s u v b := by
  induction h with
  | flat fx fy => intro A u v _ rx ry; exact eqAt_V rx ry fx fy
  | same => intro A u v _ rx ry; cases rx; cases ry; exact SeqAt.EqAt.same _
  | @lst a b xs ys e n hne ha hb hl h ih =>
    intro A u v hu rx ry
    cases rx; cases ry
    obtain ⟨i1, r1, p1, _⟩ := I.list ha
    obtain ⟨i2, r2, p2, _⟩ := I.list hb
    have l1 := r1.length
    have l2 := r2.length
    refine SeqAt.EqAt.of_refs hne ?_
    have q := SeqAt.RcAt.lists (A := A) (s := s) (e := e) p1.isList p2.isList (by simp; omega) (by omega) (fun j h1 h2 => ?_)
    · rw [List.size_toArray, ← l1] at q
      exact q
    · have g1 : j < xs.length := by rw [l1]; simpa using h1
      have g2 : j < ys.length := by rw [l2]; simpa using h2
      obtain ⟨u1, e1, q1⟩ := r1.get (i := j) (x := xs[j]) (by simp [g1])
      obtain ⟨u2, e2, q2⟩ := r2.get (i := j) (x := ys[j]) (by simp [g2])
      have f1 : i1.toArray[j] = u1 := by
        have := List.getElem?_eq_some_iff.mp e1
        obtain ⟨_, z⟩ := this
        simpa using z
      have f2 : i2.toArray[j] = u2 := by
        have := List.getElem?_eq_some_iff.mp e2
        obtain ⟨_, z⟩ := this
        simpa using z
      rw [f1, f2]
      exact ih j _ _ (by simp [g1]) (by simp [g2]) A.in1 u1 u2 (by rw [in1_units]; omega) q1 q2
  | @tup a b xs ys e n hne ha hb hl h ih =>
    intro A u v hu rx ry
    cases rx; cases ry
    obtain ⟨i1, r1, p1, _⟩ := I.tuple ha
    obtain ⟨i2, r2, p2, _⟩ := I.tuple hb
    have l1 := r1.length
    have l2 := r2.length
    refine SeqAt.EqAt.of_refs hne ?_
    have q := SeqAt.RcAt.tuples (A := A) (s := s) (e := e) (show s.heap.IsTuple a i1.toArray from p1) (show s.heap.IsTuple b i2.toArray from p2) (by omega) (fun j h1 h2 => ?_)
    · have z : i1.toArray.size = i2.toArray.size := by simp; omega
      rw [← z, Nat.min_self, beq_self_eq_true, Bool.and_true, List.size_toArray, ← l1] at q
      exact q
    · have g1 : j < xs.length := by rw [l1]; simpa using h1
      have g2 : j < ys.length := by rw [l2]; simpa using h2
      obtain ⟨u1, e1, q1⟩ := r1.get (i := j) (x := xs[j]) (by simp [g1])
      obtain ⟨u2, e2, q2⟩ := r2.get (i := j) (x := ys[j]) (by simp [g2])
      have f1 : i1.toArray[j] = u1 := by
        have := List.getElem?_eq_some_iff.mp e1
        obtain ⟨_, z⟩ := this
        simpa using z
      have f2 : i2.toArray[j] = u2 := by
        have := List.getElem?_eq_some_iff.mp e2
        obtain ⟨_, z⟩ := this
        simpa using z
      rw [f1, f2]
      exact ih j _ _ (by simp [g1]) (by simp [g2]) A.in1 u1 u2 (by rw [in1_units]; omega) q1 q2
theorem EqD.mono {K : PySem.W.Frag} {H : Hp} {x y : V} {b : Bool} {n : Nat} (h : EqD K H x y b n) : ∀ {m : Nat}, n ≤ m → EqD K H x y b m := by
  induction h with
  | flat fx fy => intro m _; exact .flat fx fy
  | same => intro m _; exact .same
  | lst hne ha hb hl h ih =>
    intro m hm
    obtain ⟨k, rfl⟩ : ∃ k, m = k + 1 := ⟨m - 1, by omega⟩
    exact .lst hne ha hb hl fun j x y e1 e2 => ih j x y e1 e2 (by omega)
  | tup hne ha hb hl h ih =>
    intro m hm
    obtain ⟨k, rfl⟩ : ∃ k, m = k + 1 := ⟨m - 1, by omega⟩
    exact .tup hne ha hb hl fun j x y e1 e2 => ih j x y e1 e2 (by omega)

/-- two sequences of one kind and one length, item by item; b is whether all are equal -/
def rEqS (K : PySem.W.Frag) (A : Around) (neg : Bool) : R2 := fun x y H Q => ∃ (a b : Addr) (xs ys : List V) (e : Nat → Bool) (n : Nat), x = .ref a ∧ y = .ref b ∧ ((SqL K H a xs ∧ SqL K H b ys) ∨ (SqT K H a xs ∧ SqT K H b ys)) ∧ xs.length = ys.length ∧
  A.units + n + 2 < cLine ∧ (∀ (j : Nat) x y, xs[j]? = some x → ys[j]? = some y → EqD K H x y (e j) n) ∧ Q (.bl (if neg then !(List.range xs.length).all e else (List.range xs.length).all e)) H
theorem items_at {pins : List (Addr × Obj)} {σ : St} {H : Hp} {s : Shared} {A : Around} {xs ys : List V} {i1 i2 : List Value} {e : Nat → Bool} {n : Nat} (I : Inv X pins σ H s) (r1 : Vals xs i1) (r2 : Vals ys i2) (hu : A.units + n + 2 < cLine)
    (h : ∀ (j : Nat) x y, xs[j]? = some x → ys[j]? = some y → EqD X.K H x y (e j) n) : ∀ (j : Nat) (h1 : j < i1.toArray.size) (h2 : j < i2.toArray.size), SeqAt.EqAt A.in1 s i1.toArray[j] i2.toArray[j] (e j) := fun j h1 h2 => by
  have g1 : j < xs.length := by rw [r1.length]; simpa using h1
  have g2 : j < ys.length := by rw [r2.length]; simpa using h2
  obtain ⟨u1, e1, q1⟩ := r1.get (i := j) (x := xs[j]) (by simp [g1])
  obtain ⟨u2, e2, q2⟩ := r2.get (i := j) (x := ys[j]) (by simp [g2])
  have f1 : i1.toArray[j] = u1 := by
    obtain ⟨_, z⟩ := List.getElem?_eq_some_iff.mp e1
    simpa using z
  have f2 : i2.toArray[j] = u2 := by
    obtain ⟨_, z⟩ := List.getElem?_eq_some_iff.mp e2
    simpa using z
  rw [f1, f2]
  exact (h j _ _ (by simp [g1]) (by simp [g2])).at I A.in1 u1 u2 (by rw [in1_units]; omega) q1 q2
theorem op_eqS : OpR X (compareOp .Eq) (rEqS X.K X.A false) := by
  intro pins s σ H x y v u Q I rx ry h
  obtain ⟨a, b, xs, ys, e, n, rfl, rfl, hq, hl, hu, hi, q⟩ := h
  cases rx; cases ry
  rcases hq with ⟨h1, h2⟩ | ⟨h1, h2⟩
  · obtain ⟨i1, r1, p1, _⟩ := I.list h1
    obtain ⟨i2, r2, p2, _⟩ := I.list h2
    refine SeqAt.eq_listAt p1.isList p2.isList (by simp; rw [← r1.length, ← r2.length, hl]) (by omega) (items_at I r1 r2 hu hi) ⟨.bl _, H, I, rfl, ?_⟩
    rw [List.size_toArray, ← r1.length]
    exact q
  · obtain ⟨i1, r1, p1, _⟩ := I.tuple h1
    obtain ⟨i2, r2, p2, _⟩ := I.tuple h2
    have z : i1.toArray.size = i2.toArray.size := by simp; rw [← r1.length, ← r2.length, hl]
    refine SeqAt.eq_tupleAt (show s.heap.IsTuple a i1.toArray from p1) (show s.heap.IsTuple b i2.toArray from p2) (by omega) (items_at I r1 r2 hu hi) ⟨.bl _, H, I, rfl, ?_⟩
    rw [← z, Nat.min_self, beq_self_eq_true, Bool.and_true, List.size_toArray, ← r1.length]
    exact q
theorem op_neS : OpR X (compareOp .NotEq) (rEqS X.K X.A true) := by
  intro pins s σ H x y v u Q I rx ry h
  obtain ⟨a, b, xs, ys, e, n, rfl, rfl, hq, hl, hu, hi, q⟩ := h
  cases rx; cases ry
  rcases hq with ⟨h1, h2⟩ | ⟨h1, h2⟩
  · obtain ⟨i1, r1, p1, _⟩ := I.list h1
    obtain ⟨i2, r2, p2, _⟩ := I.list h2
    refine SeqAt.RcNeAt.lists p1.isList p2.isList (by simp; rw [← r1.length, ← r2.length, hl]) (by omega) (items_at I r1 r2 hu hi) _ _ _ _ ⟨.bl _, H, I, rfl, ?_⟩
    rw [List.size_toArray, ← r1.length]
    exact q
  · obtain ⟨i1, r1, p1, _⟩ := I.tuple h1
    obtain ⟨i2, r2, p2, _⟩ := I.tuple h2
    have z : i1.toArray.size = i2.toArray.size := by simp; rw [← r1.length, ← r2.length, hl]
    refine SeqAt.RcNeAt.tuples (show s.heap.IsTuple a i1.toArray from p1) (show s.heap.IsTuple b i2.toArray from p2) (by omega) (items_at I r1 r2 hu hi) _ _ _ _ ⟨.bl _, H, I, rfl, ?_⟩
    rw [← z, Nat.min_self, beq_self_eq_true, Bool.and_true, List.size_toArray, ← r1.length]
    exact q

/-! ### two dicts of ints and texts with the very same pairs -/
theorem valV_mem {κ : Type} [DecidableEq κ] : ∀ {kvs : List (κ × V)} {k : κ} {v : V}, (kvs.map (·.1)).Nodup → (k, v) ∈ kvs → valV kvs k = some v
  | (k', v') :: r, k, v, nd, h => by
    rw [List.map_cons] at nd
    obtain ⟨n1, n2⟩ := List.nodup_cons.mp nd
    rcases List.mem_cons.mp h with e | h
    · cases e
      exact valV_pos (p := (k', v')) rfl
    · have hk : ¬ k' = k := fun z => n1 (List.mem_map.mpr ⟨(k, v), h, z.symm⟩)
      rw [valV_neg (p := (k', v')) hk]
      exact valV_mem n2 h
theorem hits_same {A : Around} {s : Shared} {κ : Type} [DecidableEq κ] {kb : List (κ × Value)} {kvb : List (κ × V)} (rb : KV kvb kb) (fl : ∀ p ∈ kvb, flatV p.2 = true) (nd : (kvb.map (·.1)).Nodup) : ∀ {kva : List (κ × V)} {ka : List (κ × Value)}, KV kva ka → (∀ p ∈ kva, p ∈ kvb) → PySem.W.KeqHits A s kb ka true
  | _, _, .nil, _ => .nil
  | (k, v) :: r, (k', u) :: r', .cons h t, hs => by
    obtain ⟨e1, e2⟩ := h
    cases e1
    have hm : (k, v) ∈ kvb := hs _ List.mem_cons_self
    have hv : valV kvb k = some v := valV_mem nd hm
    have q := rb.val k
    rw [hv] at q
    cases e : valueAt kb k with
    | none => rw [e] at q; exact False.elim q
    | some y =>
      rw [e] at q
      have hf := fl _ hm
      have he := eqAt_V (A := A) (s := s) e2 (show RelV v y from q) hf hf
      have ev : eqV v v = true := by cases v <;> simp [flatV] at hf <;> simp [eqV]
      rw [ev] at he
      have := PySem.W.KeqHits.hit (k := k) e he (hits_same rb fl nd t fun p hp => hs p (List.mem_cons_of_mem _ hp))
      simpa using this
def rNeD (A : Around) : R2 := fun x y H Q => ∃ (a b : Addr) (kvs : List (Key × V)), x = .ref a ∧ y = .ref b ∧ H a = some (.dK kvs) ∧ H b = some (.dK kvs) ∧ (∀ p ∈ kvs, flatV p.2 = true) ∧ (kvs.map (·.1)).Nodup ∧ A.units + 2 < cLine ∧ Q (.bl false) H
theorem op_neD : OpR X (compareOp .NotEq) (rNeD X.A) := by
  intro pins s σ H x y v u Q I rx ry h
  obtain ⟨a, b, kvs, rfl, rfl, ha, hb, fl, nd, hu, q⟩ := h
  cases rx; cases ry
  obtain ⟨z1, d1, vs1, r1, o1⟩ := I.hok a _ ha
  obtain ⟨z2, d2, vs2, r2, o2⟩ := I.hok b _ hb
  refine PySem.W.keq_ne d1 d2 o1 o2 (by omega) (fun _ => hits_same r2 fl nd r1 fun p hp => hp) ⟨.bl false, H, I, ?_, q⟩
  have e1 := r1.length
  have e2 := r2.length
  have : (vs1.length == vs2.length) = true := by rw [← e1, ← e2]; simp
  rw [this]
  rfl

/-! ### all, any of a list of bools -/
theorem all_getD (bs : List Bool) : (List.range bs.length).all (fun i => bs.getD i false) = bs.all id := by
  rw [Bool.eq_iff_iff, List.all_eq_true, List.all_eq_true]
  constructor
  · intro h b hb
    obtain ⟨i, hi, rfl⟩ := List.mem_iff_getElem.mp hb
    have := h i (List.mem_range.mpr hi)
    simpa [List.getD, hi] using this
  · intro h i hi
    have hi := List.mem_range.mp hi
    have := h _ (List.getElem_mem hi)
    simpa [List.getD, hi] using this
theorem any_getD (bs : List Bool) : (List.range bs.length).any (fun i => bs.getD i false) = bs.any id := by
  rw [Bool.eq_iff_iff, List.any_eq_true, List.any_eq_true]
  constructor
  · rintro ⟨i, hi, h⟩
    have hi := List.mem_range.mp hi
    exact ⟨bs[i], List.getElem_mem hi, by simpa [List.getD, hi] using h⟩
  · rintro ⟨b, hb, h⟩
    obtain ⟨i, hi, rfl⟩ := List.mem_iff_getElem.mp hb
    exact ⟨i, List.mem_range.mpr hi, by simpa [List.getD, hi] using h⟩
theorem truth_bools {P : Program} {w : World} {A : Around} {bs : List Bool} {its : List Value} (r : Vals (bs.map V.bl) its) : TruthOf P w A (fun i v => its.toArray[i]? = some v) (fun i => bs.getD i false) := by
  intro i v s Q E hv q
  have hv' : its[i]? = some v := by simpa using hv
  have hi : i < its.length := (List.getElem?_eq_some_iff.mp hv').1
  have hl := r.length
  rw [List.length_map] at hl
  have hb : i < bs.length := by omega
  obtain ⟨u, e, ru⟩ := r.get (i := i) (x := V.bl bs[i]) (by simp [hb])
  rw [hv'] at e
  cases e
  cases ru
  refine wpAny_truthy_bool ?_
  simpa [List.getD, hb] using q
def rAllB (K : PySem.W.Frag) (f : List Bool → Bool) : List V → Hp → VK → Prop := fun xs H Q => ∃ a bs, xs = [V.ref a] ∧ SqL K H a (bs.map V.bl) ∧ Q (.bl (f bs)) H
theorem call_allB (hc : X.calm = true) : CallR X (.builtin "all") (rAllB X.K fun bs => bs.all id) := by
  intro pins s σ H xs us Q I r h
  obtain ⟨a, bs, rfl, ha, q⟩ := h
  obtain ⟨u, rfl, ru⟩ := r.one
  cases ru
  obtain ⟨its, rv, p, hz⟩ := I.list ha
  refine call_all_walk (wpAny_pyIter_list p.isList ?_)
  have hne : a ≠ s.heap.objs.size := by
    obtain ⟨o, n, e, _⟩ := p
    exact Nat.ne_of_lt (Heap.lt_size e)
  refine ⟨_, _, _, _, _, _, _, rfl, Walks.list (A := X.A.in1) (show X.A.in1.handled = none from I.ok.hd hc) s.heap.objs.size a hne its.toArray, ⟨⟨_, Heap.get?_push_size _ rfl, rfl, rfl⟩, p.isList.push _⟩, truth_bools rv, fun h' tk k => ?_⟩
  refine ⟨.bl _, H, I.kept (t' := tk) fun b o e => k b o (by simpa using Nat.ne_of_lt (Heap.lt_size e)) (Heap.get?_push_of_some _ e), rfl, ?_⟩
  have hl := rv.length
  rw [List.length_map] at hl
  rw [List.size_toArray, ← hl, all_getD]
  exact q
theorem call_anyB (hc : X.calm = true) : CallR X (.builtin "any") (rAllB X.K fun bs => bs.any id) := by
  intro pins s σ H xs us Q I r h
  obtain ⟨a, bs, rfl, ha, q⟩ := h
  obtain ⟨u, rfl, ru⟩ := r.one
  cases ru
  obtain ⟨its, rv, p, hz⟩ := I.list ha
  refine call_any_walk (wpAny_pyIter_list p.isList ?_)
  have hne : a ≠ s.heap.objs.size := by
    obtain ⟨o, n, e, _⟩ := p
    exact Nat.ne_of_lt (Heap.lt_size e)
  refine ⟨_, _, _, _, _, _, _, rfl, Walks.list (A := X.A.in1) (show X.A.in1.handled = none from I.ok.hd hc) s.heap.objs.size a hne its.toArray, ⟨⟨_, Heap.get?_push_size _ rfl, rfl, rfl⟩, p.isList.push _⟩, truth_bools rv, fun h' tk k => ?_⟩
  refine ⟨.bl _, H, I.kept (t' := tk) fun b o e => k b o (by simpa using Nat.ne_of_lt (Heap.lt_size e)) (Heap.get?_push_of_some _ e), rfl, ?_⟩
  have hl := rv.length
  rw [List.length_map] at hl
  rw [List.size_toArray, ← hl, any_getD]
  exact q
/-- dict(d) -/
theorem call_dict1 : CallR X (.type "dict") (fun xs H Q => ∃ a kvs, xs = [V.ref a] ∧ H a = some (.dK kvs) ∧ ∀ p, H p = none → Q (.ref p) (upd H p (.dK kvs))) := by
  intro pins s σ H xs us Q I r h
  obtain ⟨a, kvs, rfl, ha, q⟩ := h
  obtain ⟨u, rfl, ru⟩ := r.one
  cases ru
  exact d_copyOf I (.inl ha) fun p s' hp I' => ⟨.ref p, _, I', rfl, q p hp⟩
end

/-! ### calls, in short -/
/-- a def of the text, all that a call of it wants -/
structure Callee (P : Program) (w : World) (K : PySem.W.Frag) (mg : Str → Option Value) (base : Heap) (x : Str) (f : Addr) (fd : FuncData) (ps : List Str) (k : Nat) (sp : Sp) : Prop where
  ok : FnOk P w K mg base CX0 k f fd ps sp
  g : mg x = some (.ref f)
  kp : PySem.W.keepIn K (.ref f) = true
  b : Binds K fd ps []
/-- a class of the text that is made by its __init__ -/
structure Maker (P : Program) (w : World) (K : PySem.W.Frag) (mg : Str → Option Value) (base : Heap) (x : Str) (C f : Addr) (fd : FuncData) (ps : List Str) (k : Nat) (sp : Sp) : Prop where
  ok : FnOk P w K mg base CX0 k f fd ps sp
  g : mg x = some (.ref C)
  mm : Mk K C f
  b : Binds K fd ps []
section
variable {X : Cx} {k : Nat} {f C : Addr} {fd : FuncData} {ps : List Str} {sp : Sp} {x m : Str} {p pos apos : Pos} {e o : Expr} {es : List Expr} {ta : TE} {t : TA}
theorem pe_c (c : Callee X.prog X.w X.K X.mg X.base x f fd ps k sp) (hr : Room k X.A) (ha : PA X (e :: es) t) (hg : Gl X x := by rfl) (hdb : (x == ("__debug__" : Str)) = false := by decide)
    (he : starEach (e :: es) X.env = (false, eval e X.env) :: starEach es X.env := by rfl) (hpl : (backTo pos (starEach es X.env)).any (·.1) = false := by rfl) : PE X (.Call (.Name x p) (e :: es) [] pos) (tCall sp [] E0 t) :=
  pe_call c.ok hr hg c.g c.kp c.b .nil pass0 ha hdb he hpl
theorem pe_m (c : Maker X.prog X.w X.K X.mg X.base x C f fd ps k sp) (hr : Room (k + 1) X.A) (ha : PA X (e :: es) t) (hg : Gl X x := by rfl) (hdb : (x == ("__debug__" : Str)) = false := by decide)
    (he : starEach (e :: es) X.env = (false, eval e X.env) :: starEach es X.env := by rfl) (hpl : (backTo pos (starEach es X.env)).any (·.1) = false := by rfl) : PE X (.Call (.Name x p) (e :: es) [] pos) (tMake C sp [] E0 t) :=
  pe_make c.mm c.ok hr hg c.g c.b .nil pass0 ha hdb he hpl
/-- o.m(..) where the class is read off the object -/
def tMethD (X : Cx) (m : Str) (ta : TE) (t : TA) : TE := fun σ H Q => ta σ H fun x H1 => ∃ (a C dx : Addr) (fs : List (Str × V)) (f : Addr) (fd : FuncData) (ps : List Str) (k : Nat) (sp : Sp), x = .ref a ∧ H1 a = some (.ins C dx fs) ∧ fs.lookup m = none ∧ Cls X.K C ∧ Meth X.K C m f ∧
  FnOk X.prog X.w X.K X.mg X.base CX0 k f fd ps sp ∧ Room k X.A ∧ Binds X.K fd ps [] ∧ t σ H1 fun vs H2 => sp (x :: (vs ++ [])) H2 Q E0
theorem pe_methD {pl : Sem Bool} (he : PE X o ta) (ha : PA X (e :: es) t)
    (hst : starEach (e :: es) X.env = (false, eval e X.env) :: starEach es X.env := by rfl) (hpl : (backTo pos (starEach es X.env)).any (·.1) = false := by rfl)
    (ht : eval (.Call (.Attribute o m apos) (e :: es) [] pos) X.env = (do
      let ov ← eval o X.env
      standAt apos.atName
      let (f, first) ← holding [ov] (getMethod ov m pl)
      callWith pos f first (backTo pos (starEach (e :: es) X.env)) (backToKw pos (keywordEach [] X.env))) := by rfl) :
    PE X (.Call (.Attribute o m apos) (e :: es) [] pos) (tMethD X m ta t) := by
  intro pins s σ H Q I h
  refine PySem.W.methodCall_KW (pl := pl) (thn (he pins s σ H _ I h) fun u s1 ⟨x, H1, I1, rx, a, C, dx, fs, f, fd, ps, k, sp, ex, ea, l, cl, hm, F, hr, hb, q⟩ => ?_) ht
  subst ex
  obtain rfl : u = Value.ref a := rx
  refine getmeth_ok I1 ea cl hm l ?_
  refine PySem.W.callWith_K (first := [.ref a]) (h₀ := X.base) I.ok.mod.kin hm.kp (thn (ha pos pins s1 σ H1 _ I1 q) fun us s2 ⟨vs, H2, I2, r, q2⟩ => ⟨I2.kIn, ?_⟩) hst hpl
  exact run_fn (us := .ref a :: us) (vs := .ref a :: vs) F hr hb .nil pass0 I2 (.cons rfl r) q2
theorem pe_meth0D {pl : Sem Bool} (he : PE X o ta)
    (ht : eval (.Call (.Attribute o m apos) [] [] pos) X.env = (do
      let ov ← eval o X.env
      standAt apos.atName
      let (f, first) ← holding [ov] (getMethod ov m pl)
      callWith pos f first (backTo pos (starEach [] X.env)) (backToKw pos (keywordEach [] X.env))) := by rfl) :
    PE X (.Call (.Attribute o m apos) [] [] pos) (tMethD X m ta tNil) := by
  intro pins s σ H Q I h
  refine PySem.W.methodCall_KW (pl := pl) (thn (he pins s σ H _ I h) fun u s1 ⟨x, H1, I1, rx, a, C, dx, fs, f, fd, ps, k, sp, ex, ea, l, cl, hm, F, hr, hb, q⟩ => ?_) ht
  subst ex
  obtain rfl : u = Value.ref a := rx
  refine getmeth_ok I1 ea cl hm l ?_
  exact PySem.W.callWith_K0 (first := [.ref a]) I1.kIn hm.kp (run_fn (us := [.ref a]) (vs := [.ref a]) F hr hb .nil pass0 I1 (.cons rfl .nil) q)
end
end L2

/-! ZipT -/
set_option Elab.async false
set_option linter.all false
set_option maxHeartbeats 4000000
/-! zip of two sequences, each a list or a tuple -/
namespace PySem
namespace Zt
inductive SK where
  | l
  | t
def ItAt (k : SK) (h : Heap) (it a : Addr) (i : Nat) : Prop := match k with
  | .l => h.IsListIter it a i
  | .t => h.IsTupleIter it a i
def SqAt (k : SK) (h : Heap) (a : Addr) (xs : Array Value) : Prop := match k with
  | .l => h.IsList a xs
  | .t => h.IsTuple a xs
theorem ItAt.obj {k : SK} {h : Heap} {it a : Addr} {i : Nat} (x : ItAt k h it a i) : ∃ o, h.get? it = some o ∧ (∀ v, o.data ≠ .cell v) := by
  cases k <;> (obtain ⟨o, e, c, d⟩ := x; exact ⟨o, e, fun v z => by rw [d] at z; cases z⟩)
theorem ItAt.at {k : SK} {h h' : Heap} {it a : Addr} {i : Nat} (x : ItAt k h it a i) (e : ∀ o, h.get? it = some o → h'.get? it = some o) : ItAt k h' it a i := by
  cases k
  · exact Heap.IsListIter.at x e
  · exact Heap.IsTupleIter.at x e
theorem SqAt.at {k : SK} {h h' : Heap} {a : Addr} {xs : Array Value} (x : SqAt k h a xs) (e : ∀ o, h.get? a = some o → h'.get? a = some o) : SqAt k h' a xs := by
  cases k
  · obtain ⟨o, ho, r⟩ := x; exact ⟨o, e o ho, r⟩
  · obtain ⟨o, ho, r⟩ := x; exact ⟨o, e o ho, r⟩
theorem SqAt.obj {k : SK} {h : Heap} {a : Addr} {xs : Array Value} (x : SqAt k h a xs) : ∃ o, h.get? a = some o := by
  cases k <;> (obtain ⟨o, ho, _⟩ := x; exact ⟨o, ho⟩)

section
variable {prog : Program} {w : World} {A : Around} {E : Value → Shared → Prop} {s : Shared}
/-- the tuple iterator's next, an item -/
theorem next_tup_item {it l : Addr} {i : Nat} {items : Array Value} {x : Value} {Q : Value → Shared → Prop} (hit : s.heap.IsTupleIter it l i) (ht : s.heap.IsTuple l items) (hx : items[i]? = some x)
    (hQ : ∀ h', h'.IsTupleIter it l (i + 1) → Heap.SameBut it s.heap h' → Q x { s with heap := h' }) : wpAny (model prog w) A (Builtin.SmallTypes.nextOf (.ref it)) Q E s := by
  obtain ⟨o, ho, hc, hd⟩ := id hit
  obtain ⟨o2, ho2, _, n2, hd2⟩ := ht
  unfold Builtin.SmallTypes.nextOf
  refine wpAny_bind (wpAny_callSpecial?_slot (name := Str.ofString "__next__") hit.typeIs F.slot_tuple_iterator_next (wpAny_call_entry F.slot_tuple_iterator_next hit.typeIs F.entry_tuple_iterator_next ?_ (F.args_tuple_iterator_next_1 _)))
  show wpAny _ _ (field (.ref it) 0 >>= _) _ _ s; refine wpAny_bind (wpAny_field ho hd (x := .ref l) rfl ?_)
  show wpAny _ _ (if (Value.ref l == Value.none) = true then _ else _) _ _ s; rw [if_neg (show ¬ ((Value.ref l == Value.none) = true) from Bool.false_ne_true)]
  show wpAny _ _ (field (.ref it) 1 >>= _) _ _ s; refine wpAny_bind (wpAny_field ho hd (x := .int i 0) rfl ?_)
  show wpAny _ _ (seqItems? (.ref l) >>= _) _ _ s; refine wpAny_bind (wpAny_seqItems ho2 hd2 ?_)
  simp only [Int.toNat_natCast, hx]
  refine wpAny_bind (wpAny_setField ho hd (by simp) (wpAny_pure ⟨x, rfl, wpAny_pure (hQ _ ⟨_, Heap.get?_update_self _ ho (Obj.isFreed_of_fields (Obj.data_mapFields hd _)), (Obj.cls_mapFields ..).trans hc, ?_⟩ (Heap.SameBut.update ..))⟩))
  rw [Obj.data_mapFields hd]
  simp [rawInt]
/-- .. and its end -/
theorem next_tup_end {it l : Addr} {i : Nat} {items : Array Value} {Q : Value → Shared → Prop} (hh : A.handled = none) (hit : s.heap.IsTupleIter it l i) (ht : s.heap.IsTuple l items) (hx : items[i]? = none)
    (hE : ∀ h' e, Heap.ExtBut it s.heap h' → (∃ o, h'.get? e = some o ∧ o.cls = .type "StopIteration") → E (.ref e) { s with heap := h' }) : wpAny (model prog w) A (Builtin.SmallTypes.nextOf (.ref it)) Q E s := by
  obtain ⟨o, ho, hc, hd⟩ := id hit
  obtain ⟨o2, ho2, _, n2, hd2⟩ := ht
  unfold Builtin.SmallTypes.nextOf
  refine wpAny_bind (wpAny_callSpecial?_slot (name := Str.ofString "__next__") hit.typeIs F.slot_tuple_iterator_next (wpAny_call_entry F.slot_tuple_iterator_next hit.typeIs F.entry_tuple_iterator_next ?_ (F.args_tuple_iterator_next_1 _)))
  show wpAny _ _ (field (.ref it) 0 >>= _) _ _ s; refine wpAny_bind (wpAny_field ho hd (x := .ref l) rfl ?_)
  show wpAny _ _ (if (Value.ref l == Value.none) = true then _ else _) _ _ s; rw [if_neg (show ¬ ((Value.ref l == Value.none) = true) from Bool.false_ne_true)]
  show wpAny _ _ (field (.ref it) 1 >>= _) _ _ s; refine wpAny_bind (wpAny_field ho hd (x := .int i 0) rfl ?_)
  show wpAny _ _ (seqItems? (.ref l) >>= _) _ _ s; refine wpAny_bind (wpAny_seqItems ho2 hd2 ?_)
  simp only [Int.toNat_natCast, hx]
  refine wpAny_bind (wpAny_rule (wpAny_bind (wpAny_setField ho hd (by simp) ?_)))
  show wpAny _ _ (newExc (.type "StopIteration") [] >>= _) _ _ _; refine wpAny_bind ?_
  simp only [newExc, newTuple]
  refine wpAny_bind (wpAny_newObj_type ?_ (by size_fits)); refine wpAny_bind (m := firstArgMember _ _) (wpAny_of_eq (a := Value.none) (by first | rfl | (simp only [firstArgMember]; rfl)) ?_)
  refine wpAny_newObj_type ?_ (by size_fits); simp only [raiseNew]
  refine wpAny_bind (wpAny_handled ?_); first | rw [show A.in1.handled = none from hh] | rw [hh]
  refine wpAny_bind (wpAny_pure (wpAny_throw ?_))
  exact hE _ _ (((Heap.SameBut.update ..).extBut.push _).push _) ⟨_, Heap.get?_push_size _ rfl, rfl⟩
theorem next_item {k : SK} {it a : Addr} {i : Nat} {xs : Array Value} {x : Value} {Q : Value → Shared → Prop} (hit : ItAt k s.heap it a i) (hs : SqAt k s.heap a xs) (hx : xs[i]? = some x)
    (hQ : ∀ h', ItAt k h' it a (i + 1) → Heap.SameBut it s.heap h' → Q x { s with heap := h' }) : wpAny (model prog w) A (Builtin.SmallTypes.nextOf (.ref it)) Q E s := by
  cases k
  · exact wpAny_nextOf_list_item hit hs hx hQ
  · exact next_tup_item hit hs hx hQ
theorem next_end {k : SK} {it a : Addr} {i : Nat} {xs : Array Value} {Q : Value → Shared → Prop} (hh : A.handled = none) (hit : ItAt k s.heap it a i) (hs : SqAt k s.heap a xs) (hx : xs[i]? = none)
    (hE : ∀ h' e, Heap.ExtBut it s.heap h' → (∃ o, h'.get? e = some o ∧ o.cls = .type "StopIteration") → E (.ref e) { s with heap := h' }) : wpAny (model prog w) A (Builtin.SmallTypes.nextOf (.ref it)) Q E s := by
  cases k
  · exact wpAny_nextOf_list_end hh hit hs hx hE
  · exact next_tup_end hh hit hs hx hE

/-- the zip's own five records -/
structure Ap (z TI TO i1 i2 : Addr) : Prop where
  a1 : TI ≠ z
  a2 : TO ≠ z
  a3 : i1 ≠ z
  a4 : i2 ≠ z
  a5 : TI ≠ TO
  a6 : TI ≠ i1
  a7 : TI ≠ i2
  a8 : TO ≠ i1
  a9 : TO ≠ i2
  a10 : i1 ≠ i2
structure Off (l z TO i1 i2 : Addr) : Prop where
  b1 : l ≠ z
  b2 : l ≠ TO
  b3 : l ≠ i1
  b4 : l ≠ i2
structure ZAt (k1 k2 : SK) (z TI TO i1 i2 l1 l2 : Addr) (f0 : Value) (i : Nat) (h : Heap) : Prop where
  zz : IsZip h z TI TO f0
  ti : IsPair h TI (.ref i1) (.ref i2)
  to : ∃ a b, IsPair h TO a b
  j1 : ItAt k1 h i1 l1 i
  j2 : ItAt k2 h i2 l2 i
theorem ZAt.keep {k1 k2 : SK} {z TI TO i1 i2 l1 l2 : Addr} {f0 : Value} {i : Nat} {h h' : Heap} (x : ZAt k1 k2 z TI TO i1 i2 l1 l2 f0 i h) (k : ∀ b ∈ [z, TI, TO, i1, i2], ∀ o, h.get? b = some o → h'.get? b = some o) : ZAt k1 k2 z TI TO i1 i2 l1 l2 f0 i h' := by
  obtain ⟨p1, p2, ⟨a, b, p3⟩, p4, p5⟩ := x
  exact ⟨k z (by simp) _ p1, k TI (by simp) _ p2, ⟨a, b, k TO (by simp) _ p3⟩, p4.at fun o e => k i1 (by simp) o e, p5.at fun o e => k i2 (by simp) o e⟩

theorem zip_item {k1 k2 : SK} {z TI TO i1 i2 l1 l2 : Addr} {i : Nat} {xs ys : Array Value} {x y : Value} {Q : Value → Shared → Prop} (D : Ap z TI TO i1 i2) (O1 : Off l1 z TO i1 i2) (O2 : Off l2 z TO i1 i2)
    (Z : ZAt k1 k2 z TI TO i1 i2 l1 l2 .none i s.heap) (hl1 : SqAt k1 s.heap l1 xs) (hl2 : SqAt k2 s.heap l2 ys) (hx : xs[i]? = some x) (hy : ys[i]? = some y)
    (hQ : ∀ h', ZAt k1 k2 z TI TO i1 i2 l1 l2 (rawInt s.heap.objs.size) (i + 1) h' → IsPair h' s.heap.objs.size x y → (∀ c o, c ≠ z → c ≠ TO → c ≠ i1 → c ≠ i2 → s.heap.get? c = some o → h'.get? c = some o) → Q (.ref s.heap.objs.size) { s with heap := h' }) :
    wpAny (model prog w) A (Builtin.«zip.__next__» ⟨[.ref z], []⟩) (fun fin s' => ∃ v, fin = .done (.ret v) ∧ Q v s') E s := by
  obtain ⟨hz, hTI, ⟨a, b, hTO⟩, h1, h2⟩ := Z
  show wpAny _ _ (field (.ref z) 2 >>= _) _ _ _; refine wpAny_bind (wpAny_field hz rfl (x := .bool false) rfl ?_)
  show wpAny _ _ (field (.ref z) 3 >>= _) _ _ _; refine wpAny_bind (wpAny_field hz rfl (x := .ref TI) rfl ?_)
  refine wpAny_bind (wpAny_seqItems hTI rfl ?_); show wpAny _ _ (Builtin.SmallTypes.ownedTupleIsFree (.ref z) >>= _) _ _ _
  refine wpAny_bind ?_; unfold Builtin.SmallTypes.ownedTupleIsFree
  refine wpAny_bind (wpAny_field hz rfl (x := .none) rfl (wpAny_pure ?_)); simp only [if_true]
  refine wpAny_bind (wpAny_rule ?_); refine wpAny_bind (wpAny_field hz rfl (x := .ref TO) rfl ?_)
  refine wpAny_bind (wpAny_setField_rec hz (by simp) fun g1 y1 s1 => ?_); replace y1 : IsZip g1 z TI TO .ellipsis := y1
  refine wpAny_bind ?_; simp only [List.zipIdx_cons, List.zipIdx_nil, List.forIn_cons, List.forIn_nil]
  refine wpAny_bind (wpAny_bind (wpAny_onRaise ?_)); show wpAny _ _ (Builtin.SmallTypes.nextOf (.ref i1) >>= _) _ _ _
  refine wpAny_bind (next_item (h1.at fun o e => s1.extBut _ _ D.a3 e) (hl1.at fun o e => s1.extBut _ _ O1.b1 e) hx fun g2 q1 s2 => wpAny_pure ?_)
  have to2 : IsPair g2 TO a b := s2.extBut _ _ D.a8 (s1.extBut _ _ D.a2 hTO)
  refine wpAny_bind (wpAny_seqItems to2 rfl ?_); refine wpAny_bind (wpAny_updateSeq_pair to2 fun g3 to3 s3 => ?_)
  replace to3 : IsPair g3 TO x b := to3
  refine wpAny_bind (wpAny_letGo (wpAny_pure ?_)); refine wpAny_bind (wpAny_bind (wpAny_onRaise ?_))
  show wpAny _ _ (Builtin.SmallTypes.nextOf (.ref i2) >>= _) _ _ _
  refine wpAny_bind (next_item (h2.at fun o e => s3.extBut _ _ D.a9.symm (s2.extBut _ _ D.a10.symm (s1.extBut _ _ D.a4 e))) (hl2.at fun o e => s3.extBut _ _ O2.b2 (s2.extBut _ _ O2.b3 (s1.extBut _ _ O2.b1 e))) hy fun g4 q2 s4 => wpAny_pure ?_)
  have to4 : IsPair g4 TO x b := s4.extBut _ _ D.a9 to3
  refine wpAny_bind (wpAny_seqItems to4 rfl ?_); refine wpAny_bind (wpAny_updateSeq_pair to4 fun g5 to5 s5 => ?_)
  replace to5 : IsPair g5 TO x y := to5
  refine wpAny_bind (wpAny_letGo (wpAny_pure (wpAny_pure ?_))); refine wpAny_bind (wpAny_seqItems to5 rfl ?_); refine wpAny_bind (wpAny_newTuple ?_)
  have sz : g5.objs.size = s.heap.objs.size := by rw [s5.1, s4.1, s3.1, s2.1, s1.1]
  have y5 : IsZip g5 z TI TO .ellipsis := s5.extBut _ _ D.a2.symm (s4.extBut _ _ D.a4.symm (s3.extBut _ _ D.a2.symm (s2.extBut _ _ D.a3.symm y1)))
  have kk : ∀ c o, c ≠ z → c ≠ TO → c ≠ i1 → c ≠ i2 → s.heap.get? c = some o → g5.get? c = some o := fun c o c1 c2 c3 c4 e => s5.extBut _ _ c2 (s4.extBut _ _ c4 (s3.extBut _ _ c2 (s2.extBut _ _ c3 (s1.extBut _ _ c1 e))))
  have q1' : ItAt k1 g5 i1 l1 (i + 1) := q1.at fun o e => s5.extBut _ _ D.a8.symm (s4.extBut _ _ D.a10 (s3.extBut _ _ D.a8.symm e))
  have q2' : ItAt k2 g5 i2 l2 (i + 1) := q2.at fun o e => s5.extBut _ _ D.a9.symm e
  have zlt : z < g5.objs.size := Heap.lt_size y5
  show wpAny _ _ (Builtin.SmallTypes.ownedTupleHandOut (.ref z) (.ref g5.objs.size) >>= _) _ _ _
  refine wpAny_bind ?_; unfold Builtin.SmallTypes.ownedTupleHandOut
  have y6 : IsZip (g5.push { cls := .type "tuple", data := .seq #[x, y] }) z TI TO .ellipsis := Heap.get?_push_of_some _ y5
  refine wpAny_bind (wpAny_setField_rec y6 (by simp) fun g7 y7 s7 => ?_); replace y7 : IsZip g7 z TI TO (rawInt g5.objs.size) := y7
  refine wpAny_setField_rec y7 (by simp) fun g8 y8 s8 => ?_; replace y8 : IsZip g8 z TI TO (rawInt g5.objs.size) := y8
  have up : ∀ c o, c ≠ z → g5.get? c = some o → g8.get? c = some o := fun c o c1 e => s8.extBut _ _ c1 (s7.extBut _ _ c1 (Heap.get?_push_of_some _ e))
  have tt : IsPair g8 g5.objs.size x y := s8.extBut _ _ (Nat.ne_of_gt zlt) (s7.extBut _ _ (Nat.ne_of_gt zlt) (Heap.get?_push_size _ rfl))
  rw [sz] at y8 tt
  refine wpAny_pure ⟨_, rfl, ?_⟩
  show Q (.ref g5.objs.size) _
  rw [sz]
  exact hQ g8 ⟨y8, up _ _ D.a1 (kk _ _ D.a1 D.a5 D.a6 D.a7 hTI), ⟨_, _, up _ _ D.a2 to5⟩, q1'.at fun o e => up _ o D.a3 e, q2'.at fun o e => up _ o D.a4 e⟩ tt fun c o c1 c2 c3 c4 e => up c o c1 (kk c o c1 c2 c3 c4 e)

theorem zip_end {k1 k2 : SK} {z TI TO i1 i2 l1 l2 : Addr} {i : Nat} {xs ys : Array Value} {Q : Fin → Shared → Prop} (hh : A.handled = none) (D : Ap z TI TO i1 i2) (O1 : Off l1 z TO i1 i2) (O2 : Off l2 z TO i1 i2)
    (Z : ZAt k1 k2 z TI TO i1 i2 l1 l2 .none i s.heap) (hl1 : SqAt k1 s.heap l1 xs) (hl2 : SqAt k2 s.heap l2 ys) (hend : xs[i]? = none ∨ ys[i]? = none)
    (hE : ∀ h' e, (∀ c o, c ≠ z → c ≠ TO → c ≠ i1 → c ≠ i2 → s.heap.get? c = some o → h'.get? c = some o) → (∃ o, h'.get? e = some o ∧ o.cls = .type "StopIteration") → E (.ref e) { s with heap := h' }) :
    wpAny (model prog w) A (Builtin.«zip.__next__» ⟨[.ref z], []⟩) Q E s := by
  obtain ⟨hz, hTI, ⟨a, b, hTO⟩, h1, h2⟩ := Z
  show wpAny _ _ (field (.ref z) 2 >>= _) _ _ _; refine wpAny_bind (wpAny_field hz rfl (x := .bool false) rfl ?_)
  show wpAny _ _ (field (.ref z) 3 >>= _) _ _ _; refine wpAny_bind (wpAny_field hz rfl (x := .ref TI) rfl ?_)
  refine wpAny_bind (wpAny_seqItems hTI rfl ?_); show wpAny _ _ (Builtin.SmallTypes.ownedTupleIsFree (.ref z) >>= _) _ _ _
  refine wpAny_bind ?_; unfold Builtin.SmallTypes.ownedTupleIsFree
  refine wpAny_bind (wpAny_field hz rfl (x := .none) rfl (wpAny_pure ?_)); simp only [if_true]
  refine wpAny_bind (wpAny_rule ?_); refine wpAny_bind (wpAny_field hz rfl (x := .ref TO) rfl ?_)
  refine wpAny_bind (wpAny_setField_rec hz (by simp) fun g1 y1 s1 => ?_); replace y1 : IsZip g1 z TI TO .ellipsis := y1
  refine wpAny_bind ?_; simp only [List.zipIdx_cons, List.zipIdx_nil, List.forIn_cons, List.forIn_nil]
  refine wpAny_bind (wpAny_bind (wpAny_onRaise ?_)); show wpAny _ _ (Builtin.SmallTypes.nextOf (.ref i1) >>= _) _ _ _
  have m1 := h1.at (h' := g1) fun o e => s1.extBut _ _ D.a3 e
  have n1 := hl1.at (h' := g1) fun o e => s1.extBut _ _ O1.b1 e
  cases hx : xs[i]? with
  | none =>
    refine wpAny_bind (next_end hh m1 n1 hx fun g2 e s2 he => ?_)
    obtain ⟨oe, hoe, hce⟩ := he
    have y2 : IsZip g2 z TI TO .ellipsis := s2 _ _ D.a3.symm y1
    have hez : e ≠ z := fun x => by subst x; rw [y2] at hoe; cases hoe; simp at hce
    exact wpAny_setField_rec y2 (by simp) fun g3 _ s3 => hE g3 e (fun c o c1 _ c3 _ x => s3.extBut _ _ c1 (s2 _ _ c3 (s1.extBut _ _ c1 x))) ⟨oe, s3.extBut _ _ hez hoe, hce⟩
  | some x =>
    have hy : ys[i]? = none := by
      rcases hend with h | h
      · rw [hx] at h; cases h
      · exact h
    refine wpAny_bind (next_item m1 n1 hx fun g2 q1 s2 => wpAny_pure ?_)
    have to2 : IsPair g2 TO a b := s2.extBut _ _ D.a8 (s1.extBut _ _ D.a2 hTO)
    refine wpAny_bind (wpAny_seqItems to2 rfl ?_); refine wpAny_bind (wpAny_updateSeq_pair to2 fun g3 to3 s3 => ?_)
    refine wpAny_bind (wpAny_letGo (wpAny_pure ?_)); refine wpAny_bind (wpAny_bind (wpAny_onRaise ?_))
    show wpAny _ _ (Builtin.SmallTypes.nextOf (.ref i2) >>= _) _ _ _
    refine wpAny_bind (next_end hh (h2.at fun o e => s3.extBut _ _ D.a9.symm (s2.extBut _ _ D.a10.symm (s1.extBut _ _ D.a4 e))) (hl2.at fun o e => s3.extBut _ _ O2.b2 (s2.extBut _ _ O2.b3 (s1.extBut _ _ O2.b1 e))) hy fun g4 e s4 he => ?_)
    obtain ⟨oe, hoe, hce⟩ := he
    have y4 : IsZip g4 z TI TO .ellipsis := s4 _ _ D.a4.symm (s3.extBut _ _ D.a2.symm (s2.extBut _ _ D.a3.symm y1))
    have hez : e ≠ z := fun x => by subst x; rw [y4] at hoe; cases hoe; simp at hce
    exact wpAny_setField_rec y4 (by simp) fun g5 _ s5 => hE g5 e (fun c o c1 c2 c3 c4 x => s5.extBut _ _ c1 (s4 _ _ c4 (s3.extBut _ _ c2 (s2.extBut _ _ c3 (s1.extBut _ _ c1 x))))) ⟨oe, s5.extBut _ _ hez hoe, hce⟩

theorem pyNext_item {k1 k2 : SK} {z TI TO i1 i2 l1 l2 : Addr} {i : Nat} {xs ys : Array Value} {x y : Value} {Q : Option Value → Shared → Prop} (D : Ap z TI TO i1 i2) (O1 : Off l1 z TO i1 i2) (O2 : Off l2 z TO i1 i2)
    (Z : ZAt k1 k2 z TI TO i1 i2 l1 l2 .none i s.heap) (hl1 : SqAt k1 s.heap l1 xs) (hl2 : SqAt k2 s.heap l2 ys) (hx : xs[i]? = some x) (hy : ys[i]? = some y)
    (hQ : ∀ h', ZAt k1 k2 z TI TO i1 i2 l1 l2 (rawInt s.heap.objs.size) (i + 1) h' → IsPair h' s.heap.objs.size x y → (∀ c o, c ≠ z → c ≠ TO → c ≠ i1 → c ≠ i2 → s.heap.get? c = some o → h'.get? c = some o) → Q (some (.ref s.heap.objs.size)) { s with heap := h' }) :
    wpAny (model prog w) A (pyNext (.ref z)) Q E s := by
  have hT : s.TypeIs (.ref z) "zip" := ⟨_, Z.zz, rfl⟩
  unfold pyNext
  exact wpAny_bind (wpAny_attempt (wpAny_callSpecial?_slot (name := Str.ofString "__next__") hT F.slot_zip_next (wpAny_call_entry F.slot_zip_next hT F.entry_zip_next (zip_item D O1 O2 Z hl1 hl2 hx hy fun h' a1 a2 a3 => wpAny_pure (hQ h' a1 a2 a3)) (F.args_zip_next_1 _))))
theorem pyNext_end {k1 k2 : SK} {z TI TO i1 i2 l1 l2 : Addr} {i : Nat} {xs ys : Array Value} {Q : Option Value → Shared → Prop} (hh : A.handled = none) (D : Ap z TI TO i1 i2) (O1 : Off l1 z TO i1 i2) (O2 : Off l2 z TO i1 i2)
    (Z : ZAt k1 k2 z TI TO i1 i2 l1 l2 .none i s.heap) (hl1 : SqAt k1 s.heap l1 xs) (hl2 : SqAt k2 s.heap l2 ys) (hend : xs[i]? = none ∨ ys[i]? = none)
    (hQ : ∀ h', (∀ c o, c ≠ z → c ≠ TO → c ≠ i1 → c ≠ i2 → s.heap.get? c = some o → h'.get? c = some o) → Q none { s with heap := h' }) : wpAny (model prog w) A (pyNext (.ref z)) Q E s := by
  have hT : s.TypeIs (.ref z) "zip" := ⟨_, Z.zz, rfl⟩
  unfold pyNext
  refine wpAny_bind (wpAny_attempt (wpAny_callSpecial?_slot (name := Str.ofString "__next__") hT F.slot_zip_next (wpAny_call_entry F.slot_zip_next hT F.entry_zip_next (zip_end hh D O1 O2 Z hl1 hl2 hend fun h' e hk he => ?_) (F.args_zip_next_1 _))))
  obtain ⟨o, ho, hc⟩ := he
  exact wpAny_bind (wpAny_isInstance (T := "StopIteration") (b := true) ⟨o, ho, hc⟩ isSubtype_stop (wpAny_pure (hQ _ hk)))
end
end Zt
end PySem

/-! ZipN -/
set_option Elab.async false
set_option linter.all false
set_option maxHeartbeats 4000000
namespace PySem
namespace Zt
def itObj (k : SK) (a : Addr) : Obj := match k with
  | .l => { cls := .type "list_iterator", data := .fields #[.ref a, .int 0 0] }
  | .t => { cls := .type "tuple_iterator", data := .fields #[.ref a, .int 0 0] }
theorem itObj_at {k : SK} {h : Heap} {it a : Addr} (e : h.get? it = some (itObj k a)) : ItAt k h it a 0 := by
  cases k <;> exact ⟨_, e, rfl, rfl⟩
theorem pyIter_sq {prog : Program} {w : World} {A : Around} {E : Value → Shared → Prop} {s : Shared} {k : SK} {a : Addr} {xs : Array Value} {Q : Value → Shared → Prop} (h : SqAt k s.heap a xs)
    (hQ : Q (.ref s.heap.objs.size) { s with heap := s.heap.push (itObj k a) }) : wpAny (model prog w) A (pyIter (.ref a)) Q E s := by
  cases k
  · exact wpAny_pyIter_list h hQ
  · exact wpAny_pyIter_tuple h hQ
abbrev g1 (k1 : SK) (h : Heap) (l1 : Addr) : Heap := h.push (itObj k1 l1)
abbrev g2 (k1 k2 : SK) (h : Heap) (l1 l2 : Addr) : Heap := (g1 k1 h l1).push (itObj k2 l2)
abbrev g3 (k1 k2 : SK) (h : Heap) (l1 l2 : Addr) : Heap := (g2 k1 k2 h l1 l2).push { cls := .type "tuple", data := .seq #[.ref h.objs.size, .ref (g1 k1 h l1).objs.size] }
abbrev g4 (k1 k2 : SK) (h : Heap) (l1 l2 : Addr) : Heap := (g3 k1 k2 h l1 l2).push { cls := .type "tuple", data := .seq #[.none, .none] }
abbrev g5 (k1 k2 : SK) (h : Heap) (l1 l2 : Addr) : Heap := (g4 k1 k2 h l1 l2).push { cls := .type "zip", data := .fields #[.none, .bool false, .bool false, .ref (g2 k1 k2 h l1 l2).objs.size, .ref (g3 k1 k2 h l1 l2).objs.size] }
theorem meets_new (k1 k2 : SK) (l1 l2 : Addr) (xs ys : Array Value) :
    Meets (Builtin.«zip.__new__» ⟨[.type "zip", .ref l1, .ref l2], []⟩) (fun _ R s => SqAt k1 s.heap l1 xs ∧ SqAt k2 s.heap l2 ys ∧ R (.ok (.ret (.ref (g4 k1 k2 s.heap l1 l2).objs.size))) { s with heap := g5 k1 k2 s.heap l1 l2 }) :=
  .of_wp fun prog w A R s h => by
    obtain ⟨hp, g, d, tk, os⟩ := s; obtain ⟨hl1, hl2, h⟩ := h
    have hsub := sub_zip
    have L1 : SqAt k1 (Shared.heap ⟨hp, g, d, tk, os⟩) l1 xs := hl1
    have L2 : SqAt k2 (Shared.heap ⟨hp.push (itObj k1 l1), g, d, tk, os⟩) l2 ys := hl2.at fun o e => Heap.get?_push_of_some _ e
    wp_walk using pyIter_sq L1, pyIter_sq L2
    exact ⟨_, rfl, h⟩
section
variable {prog : Program} {w : World} {A : Around} {E : Value → Shared → Prop} {s : Shared}
theorem call_zip {k1 k2 : SK} {l1 l2 : Addr} {xs ys : Array Value} {Q : Value → Shared → Prop} (hl1 : SqAt k1 s.heap l1 xs) (hl2 : SqAt k2 s.heap l2 ys)
    (h : ∀ h', ZAt k1 k2 (s.heap.objs.size + 4) (s.heap.objs.size + 2) (s.heap.objs.size + 3) s.heap.objs.size (s.heap.objs.size + 1) l1 l2 .none 0 h' → (∀ c o, s.heap.get? c = some o → h'.get? c = some o) → Q (.ref (s.heap.objs.size + 4)) { s with heap := h' }) :
    wpAny (model prog w) A (call (.type "zip") [.ref l1, .ref l2]) Q E s := by
  refine callType_new F.called_zip (by decide) (F.typeCall_zip_2 _ _) (F.newCall_zip_2 _ _) (fun obj => F.args_object_init_3 obj _ _) F.entry_zip_new (meets_new k1 k2 l1 l2 xs ys) ⟨hl1, hl2, ?_⟩
  have z1 : (g1 k1 s.heap l1).objs.size = s.heap.objs.size + 1 := Heap.size_push ..
  have z2 : (g2 k1 k2 s.heap l1 l2).objs.size = s.heap.objs.size + 2 := by rw [Heap.size_push, z1]
  have z3 : (g3 k1 k2 s.heap l1 l2).objs.size = s.heap.objs.size + 3 := by rw [Heap.size_push, z2]
  have z4 : (g4 k1 k2 s.heap l1 l2).objs.size = s.heap.objs.size + 4 := by rw [Heap.size_push, z3]
  have p : ∀ {h : Heap} {o o' : Obj} {b : Addr}, h.get? b = some o → (h.push o').get? b = some o := fun e => Heap.get?_push_of_some _ e
  have e5 : (g5 k1 k2 s.heap l1 l2).get? (g4 k1 k2 s.heap l1 l2).objs.size = some _ := Heap.get?_push_size _ rfl
  have e4 : (g5 k1 k2 s.heap l1 l2).get? (g3 k1 k2 s.heap l1 l2).objs.size = some _ := p (Heap.get?_push_size _ rfl)
  have e3 : (g5 k1 k2 s.heap l1 l2).get? (g2 k1 k2 s.heap l1 l2).objs.size = some _ := p (p (Heap.get?_push_size _ rfl))
  have e2 : (g5 k1 k2 s.heap l1 l2).get? (g1 k1 s.heap l1).objs.size = some (itObj k2 l2) := p (p (p (Heap.get?_push_size _ (by cases k2 <;> rfl))))
  have e1 : (g5 k1 k2 s.heap l1 l2).get? s.heap.objs.size = some (itObj k1 l1) := p (p (p (p (Heap.get?_push_size _ (by cases k1 <;> rfl)))))
  show _ ∧ _
  rw [z2, z3, z4] at e5
  rw [z1, z2] at e3
  rw [z3] at e4
  rw [z1] at e2
  rw [z4]
  exact ⟨⟨_, e5, rfl⟩, h _ ⟨e5, e3, ⟨_, _, e4⟩, itObj_at e1, itObj_at e2⟩ fun c o x => p (p (p (p (p x))))⟩
end
end Zt
end PySem

/-! BExt3 -/
set_option Elab.async false
set_option linter.all false
set_option maxRecDepth 100000
set_option maxHeartbeats 4000000
namespace L2
open PySem PySem.Spec PyProof.Rows PySem.Zt
def SqK (k : SK) (K : PySem.W.Frag) (H : Hp) (a : Addr) (xs : List V) : Prop := match k with
  | .l => SqL K H a xs
  | .t => SqT K H a xs
section
variable {X : Cx} {pins : List (Addr × Obj)} {σ : St} {H : Hp} {s : Shared} {a b : Addr} {xs ys : List V}
theorem Inv.seqK {k : SK} (I : Inv X pins σ H s) (h : SqK k X.K H a xs) : ∃ its : List Value, Vals xs its ∧ SqAt k s.heap a its.toArray ∧ xs.length ≤ sizeLine := by
  cases k
  · obtain ⟨its, r, p, z⟩ := I.list h
    exact ⟨its, r, p.isList, z⟩
  · obtain ⟨its, r, p, z⟩ := I.tuple h
    exact ⟨its, r, p, z⟩
theorem Inv.seqK_inj {k : SK} (I : Inv X pins σ H s) (h : SqK k X.K H a xs) (h' : SqK k X.K H a ys) : xs = ys := by
  cases k
  · exact I.list_inj h h'
  · exact I.tuple_inj h h'
/-- a sequence that is read is none of an iterator's own records -/
theorem Inv.off {k : SK} (I : Inv X pins σ H s) (h : SqK k X.K H a xs) (f : FpOk X pins H b) : a ≠ b := by
  rintro rfl
  have own : ∀ o, X.K.lookup a = some o → False := fun o e => by
    have e' := I.ok.mod.kin a o e
    rcases f.2.2.2.1 with z | z
    · exact I.ok.noex a o e' z
    · exact absurd (Nat.lt_of_lt_of_le (Nat.lt_of_lt_of_le (Heap.lt_size e') I.ok.bsz) z) (Nat.lt_irrefl _)
  cases k
  · rcases h with (h | ⟨o, h⟩) | ⟨o, _, _, h, _⟩
    · rw [f.1] at h; cases h
    · rw [f.1] at h; cases h
    · exact own o h
  · rcases h with (h | ⟨o, h⟩) | ⟨o, _, _, h, _⟩
    · rw [f.1] at h; cases h
    · rw [f.1] at h; cases h
    · exact own o h
/-- records of ours have turned; a new object is laid -/
theorem Inv.turnedLaid {h' : Heap} {t' : Nat} {ch : List Addr} {T : Addr} {o : HO} (I : Inv X pins σ H s) (hf : ∀ b ∈ ch, FpOk X pins H b) (k : ∀ b u, b ∉ ch → s.heap.get? b = some u → h'.get? b = some u) (hT : s.heap.objs.size ≤ T)
    (new : ObjOk X.prog X.w (upd H T o) h' T o) : Inv X pins σ (upd H T o) { s with heap := h', toks := t' } := by
  have hn : H T = none := I.hok.fresh hT
  have nch : ∀ b u, H b = some u → b ∉ ch := fun b u e hb => by rw [(hf b hb).1] at e; cases e
  have neT : ∀ b u, s.heap.get? b = some u → b ≠ T := fun b u e => Nat.ne_of_lt (Nat.lt_of_lt_of_le (Heap.lt_size e) hT)
  refine I.step (g' := s.gens) (d' := s.drawn) (ch := ch) (fun b hb => ?_) (fun b u _ _ hc e _ => k b u hc e) (fun b u _ _ hc e _ => ⟨u.slots, k b u hc e⟩) (fun b u _ e n => ?_) (fun b u hc e => ⟨u, k b u hc e⟩)
    (fun b zs e => ?_) (fun b ob u e => ?_) (fun b ps e => ⟨#[], ?_⟩) (fun m hm => ?_) (fun b u e => ?_) I.bare
  · exact ⟨(hf b hb).2.2.2.1, (hf b hb).2.1, (hf b hb).2.2.2.2.1, (hf b hb).2.2.2.2.2⟩
  · rw [upd_ne (neT b u e)]; exact n
  · rw [upd_ne (ne_of_none e hn)]; exact e
  · rw [upd_ne (ne_of_none e hn)]; exact e
  · rw [upd_ne (ne_of_none e hn), e]; simp
  · obtain ⟨ob, es, ep, ho, r⟩ := hm
    exact ⟨ob, es, ep, k _ ob (fun hb => (hf _ hb).2.1 rfl) ho, r⟩
  · by_cases hb : b = T
    · subst hb
      rw [upd_same] at e
      cases e
      exact new
    · rw [upd_ne hb] at e
      refine (I.hok b u e).stay (fun c v hc q => k c v ?_ q) (fun c q => by rw [upd_ne (ne_of_none q hn)]; exact q) fun c zs q => by rw [upd_ne (ne_of_none q hn)]; exact q
      rcases hc with z | z
      · rw [z]; exact nch b u e
      · exact nch c _ z
theorem Inv.turnedL {h' : Heap} {t' : Nat} {ch : List Addr} (I : Inv X pins σ H s) (hf : ∀ b ∈ ch, FpOk X pins H b) (k : ∀ b u, b ∉ ch → s.heap.get? b = some u → h'.get? b = some u) : Inv X pins σ H { s with heap := h', toks := t' } := by
  have nch : ∀ b u, H b = some u → b ∉ ch := fun b u e hb => by rw [(hf b hb).1] at e; cases e
  refine I.step (g' := s.gens) (d' := s.drawn) (ch := ch) (fun b hb => ?_) (fun b u _ _ hc e _ => k b u hc e) (fun b u _ _ hc e _ => ⟨u.slots, k b u hc e⟩) (fun b u _ e n => n) (fun b u hc e => ⟨u, k b u hc e⟩)
    (fun b zs e => e) (fun b ob u e => e) (fun b ps e => ⟨#[], by rw [e]; simp⟩) (fun m hm => ?_) (fun b u e => ?_) I.bare
  · exact ⟨(hf b hb).2.2.2.1, (hf b hb).2.1, (hf b hb).2.2.2.2.1, (hf b hb).2.2.2.2.2⟩
  · obtain ⟨ob, es, ep, ho, r⟩ := hm
    exact ⟨ob, es, ep, k _ ob (fun hb => (hf _ hb).2.1 rfl) ho, r⟩
  · refine (I.hok b u e).stay (fun c v hc q => k c v ?_ q) (fun _ q => q) fun _ _ q => q
    rcases hc with z | z
    · rw [z]; exact nch b u e
    · exact nch c _ z
end
/-- the pairs of two sequences, each a new tuple -/
def Itz (k1 k2 : SK) (K : PySem.W.Frag) (a b : Addr) : It :=
  ⟨fun i H => ∃ xs ys x y, SqK k1 K H a xs ∧ SqK k2 K H b ys ∧ xs[i]? = some x ∧ ys[i]? = some y,
   fun i H v H' => ∃ p, H p = none ∧ v = .ref p ∧ ∀ xs ys x y, SqK k1 K H a xs → SqK k2 K H b ys → xs[i]? = some x → ys[i]? = some y → H' = upd H p (.tup [x, y]),
   fun i H => ∃ xs ys, SqK k1 K H a xs ∧ SqK k2 K H b ys ∧ (xs.length ≤ i ∨ ys.length ≤ i)⟩
theorem turn_zip {P : Program} {w : World} {K : PySem.W.Frag} {es : List Expr} {n : Nat} {tp : Pos} {k1 k2 : SK} {z TI TO i1 i2 : Addr} (a b : Addr) (D : Ap z TI TO i1 i2) :
    Turn P w K (.Tuple es n tp) (Itz k1 k2 K a b) [z, TI, TO, i1, i2] z (fun i h => ZAt k1 k2 z TI TO i1 i2 a b .none i h) where
  mem := by simp
  obj := fun i h st c hc => by
    obtain ⟨q1, q2, ⟨u, v, q3⟩, q4, q5⟩ := st
    have hc' : c = z ∨ c = TI ∨ c = TO ∨ c = i1 ∨ c = i2 := by simpa using hc
    rcases hc' with rfl | rfl | rfl | rfl | rfl
    · exact ⟨_, q1, fun v z => by
        have z' : Data.fields _ = Data.cell v := z
        cases z'⟩
    · exact ⟨_, q2, fun v z => by
        have z' : Data.seq _ _ = Data.cell v := z
        cases z'⟩
    · exact ⟨_, q3, fun v z => by
        have z' : Data.seq _ _ = Data.cell v := z
        cases z'⟩
    · exact q4.obj
    · exact q5.obj
  keep := fun i h h' st k => st.keep k
  item := by
    intro X hP hw hK hc i pins s σ H E I hf st hg
    subst hP hw hK
    obtain ⟨xs, ys, x, y, ha, hb, hx, hy⟩ := hg
    obtain ⟨its1, r1, p1, _⟩ := I.seqK ha
    obtain ⟨its2, r2, p2, _⟩ := I.seqK hb
    obtain ⟨u1, e1, q1⟩ := r1.get hx
    obtain ⟨u2, e2, q2⟩ := r2.get hy
    have fz := hf z (by simp)
    have fo := hf TO (by simp)
    have f1 := hf i1 (by simp)
    have f2 := hf i2 (by simp)
    refine pyNext_item D ⟨I.off ha fz, I.off ha fo, I.off ha f1, I.off ha f2⟩ ⟨I.off hb fz, I.off hb fo, I.off hb f1, I.off hb f2⟩ st p1 p2 (by simpa using e1) (by simpa using e2) fun h1 Z1 T1 kk => ?_
    refine ⟨_, rfl, wpAny_letOwnedTupleGo_zip Z1.zz fun h2 z2 sb => ?_⟩
    have tz : s.heap.objs.size ≠ z := fun q => by
      have := Heap.lt_size st.zz
      rw [← q] at this
      exact Nat.lt_irrefl _ this
    have T2 : IsPair h2 s.heap.objs.size u1 u2 := sb.extBut _ _ tz T1
    have k2 : ∀ c o, c ∉ [z, TO, i1, i2] → s.heap.get? c = some o → h2.get? c = some o := fun c o hc e => by
      simp only [List.mem_cons, List.not_mem_nil, or_false, not_or] at hc
      exact sb.extBut c o hc.1 (kk c o hc.1 hc.2.1 hc.2.2.1 hc.2.2.2 e)
    have hn : H s.heap.objs.size = none := I.fresh
    refine ⟨.ref s.heap.objs.size, upd H s.heap.objs.size (.tup [x, y]), I.turnedLaid (t' := s.toks) (ch := [z, TO, i1, i2]) (fun c hc => hf c ?_) k2 (Nat.le_refl _) ?_, rfl, ⟨_, hn, rfl, fun xs' ys' x' y' ha' hb' hx' hy' => ?_⟩, ?_, fun c hc => ?_⟩
    · simp only [List.mem_cons, List.not_mem_nil, or_false] at hc ⊢
      rcases hc with q | q | q | q <;> simp [q]
    · exact ⟨by show 2 ≤ sizeLine; decide, [u1, u2], .cons q1 (.cons q2 .nil), ⟨_, T2, rfl, _, rfl⟩⟩
    · have := I.seqK_inj ha ha'
      subst this
      have := I.seqK_inj hb hb'
      subst this
      rw [hx] at hx'
      cases hx'
      rw [hy] at hy'
      cases hy'
      rfl
    · obtain ⟨_, q2, ⟨u, v, q3⟩, q4, q5⟩ := Z1
      exact ⟨z2, sb.extBut _ _ D.a1 q2, ⟨u, v, sb.extBut _ _ D.a2 q3⟩, q4.at fun o e => sb.extBut _ _ D.a3 e, q5.at fun o e => sb.extBut _ _ D.a4 e⟩
    · obtain ⟨q1, q2, ⟨u, v, q3⟩, q4, q5⟩ := st
      have lt : ∀ {c o}, s.heap.get? c = some o → c ≠ s.heap.objs.size := fun e => Nat.ne_of_lt (Heap.lt_size e)
      have hne : c ≠ s.heap.objs.size := by
        have hc' : c = z ∨ c = TI ∨ c = TO ∨ c = i1 ∨ c = i2 := by simpa using hc
        rcases hc' with rfl | rfl | rfl | rfl | rfl
        · exact lt q1
        · exact lt q2
        · exact lt q3
        · obtain ⟨o, e, _⟩ := q4.obj
          exact lt e
        · obtain ⟨o, e, _⟩ := q5.obj
          exact lt e
      rw [upd_ne hne]
      exact (hf c hc).1
  done := by
    intro X hP hw hK hc i pins s σ H E I hf st hg
    subst hP hw hK
    obtain ⟨xs, ys, ha, hb, hend⟩ := hg
    obtain ⟨its1, r1, p1, _⟩ := I.seqK ha
    obtain ⟨its2, r2, p2, _⟩ := I.seqK hb
    have l1 := r1.length
    have l2 := r2.length
    have fz := hf z (by simp)
    have fo := hf TO (by simp)
    have f1 := hf i1 (by simp)
    have f2 := hf i2 (by simp)
    refine pyNext_end (I.ok.hd hc) D ⟨I.off ha fz, I.off ha fo, I.off ha f1, I.off ha f2⟩ ⟨I.off hb fz, I.off hb fo, I.off hb f1, I.off hb f2⟩ st p1 p2 ?_ fun h' kk => ⟨rfl, I.turnedL (t' := s.toks) (ch := [z, TO, i1, i2]) (fun c hc => hf c ?_) fun c o hc e => ?_⟩
    · rcases hend with q | q
      · left; simp; omega
      · right; simp; omega
    · simp only [List.mem_cons, List.not_mem_nil, or_false] at hc ⊢
      rcases hc with q | q | q | q <;> simp [q]
    · simp only [List.mem_cons, List.not_mem_nil, or_false, not_or] at hc
      exact kk c o hc.1 hc.2.1 hc.2.2.1 hc.2.2.2 e
  self := fun _ _ _ _ _ st h => wpAny_pyIter_zip st.zz h
theorem ap_new (n : Nat) : Ap (n + 4) (n + 2) (n + 3) n (n + 1) :=
  ⟨Nat.ne_of_lt (by omega), Nat.ne_of_lt (by omega), Nat.ne_of_lt (by omega), Nat.ne_of_lt (by omega), Nat.ne_of_lt (by omega), Nat.ne_of_gt (by omega), Nat.ne_of_gt (by omega), Nat.ne_of_gt (by omega), Nat.ne_of_gt (by omega), Nat.ne_of_lt (by omega)⟩
theorem comp_zip {K : PySem.W.Frag} {k1 k2 : SK} {a b : Addr} {xs ys : List V} {g : TG} {tc : TT} {te : TE} {Q : VK} {D : Addr} {τ0 : St} {H0 : Hp} (hlen : xs.length = ys.length) (Pv : Nat → List V → St → Hp → Prop) (h0 : Pv 0 [] τ0 H0) (hl : ∀ i zs τ H, Pv i zs τ H → SqK k1 K H a xs ∧ SqK k2 K H b ys)
    (hs : ∀ i x y zs τ H p, xs[i]? = some x → ys[i]? = some y → Pv i zs τ H → H p = none → g (.ref p) τ (upd H p (.tup [x, y])) fun τ2 H4 => tc τ2 H4 fun c H5 =>
      if c = true then te τ2 H5 fun y H6 => H6 D = some (.lst zs) ∧ zs.length < sizeLine ∧ Pv (i + 1) (zs ++ [y]) τ2 (upd H6 D (.lst (zs ++ [y]))) else Pv (i + 1) zs τ2 H5)
    (hd : ∀ zs τ H, Pv xs.length zs τ H → Q (.ref D) H) : CompR (Itz k1 k2 K a b) g tc te Q D τ0 H0 :=
  comp_by xs.length Pv h0 (fun zs τ H p => ⟨⟨xs, ys, (hl _ _ _ _ p).1, (hl _ _ _ _ p).2, .inl (Nat.le_refl _)⟩, hd zs τ H p⟩) fun i zs τ H hi p => by
    have hi2 : i < ys.length := by omega
    have e1 : xs[i]? = some xs[i] := by simp [hi]
    have e2 : ys[i]? = some ys[i] := by simp [hi2]
    refine ⟨⟨xs, ys, xs[i], ys[i], (hl _ _ _ _ p).1, (hl _ _ _ _ p).2, e1, e2⟩, fun v H3 y => ?_⟩
    obtain ⟨q, hq, rfl, y⟩ := y
    rw [y xs ys xs[i] ys[i] (hl _ _ _ _ p).1 (hl _ _ _ _ p).2 e1 e2]
    exact hs i _ _ zs τ H q e1 e2 p hq
/-- a class of the text, a built-in type, by name -/
theorem pe_cls {X : Cx} {x : Str} {C : Addr} {pos : Pos} (hm : X.mg x = some (.ref C)) (hg : Gl X x := by rfl) (hd : (x == ("__debug__" : Str)) = false := by decide) : PE X (.Name x pos) (tC (.ref C)) := pe_glob hg hm rfl hd
theorem pe_bty {X : Cx} {x : Str} {n : String} {pos : Pos} (hm : X.mg x = none) (hv : bootBuiltins x = some (.type n)) (hg : Gl X x := by rfl) (hn : x ≠ "__name__" := by decide) (hd : (x == ("__debug__" : Str)) = false := by decide) : PE X (.Name x pos) (tC (.ty n)) := pe_bltn hg hm hv rfl hn hd
def iZip (K : PySem.W.Frag) (ta : TA) : TI := fun σ H R => ta σ H fun vs H1 => ∃ k1 k2 a b xs ys, vs = [V.ref a, V.ref b] ∧ SqK k1 K H1 a xs ∧ SqK k2 K H1 b ys ∧ R (Itz k1 k2 K a b) H1
theorem bt_len : bootBuiltins "len" = some (.builtin "len") := by decide +kernel
theorem bt_int : bootBuiltins "int" = some (.type "int") := by decide +kernel
theorem bt_min : bootBuiltins "min" = some (.builtin "min") := by decide +kernel
theorem bt_max : bootBuiltins "max" = some (.builtin "max") := by decide +kernel
theorem bt_isinstance : bootBuiltins "isinstance" = some (.builtin "isinstance") := by decide +kernel
theorem bt_list : bootBuiltins "list" = some (.type "list") := by decide +kernel
theorem bt_dict : bootBuiltins "dict" = some (.type "dict") := by decide +kernel
theorem bt_all : bootBuiltins "all" = some (.builtin "all") := by decide +kernel
theorem bt_any : bootBuiltins "any" = some (.builtin "any") := by decide +kernel
theorem bt_abs : bootBuiltins "abs" = some (.builtin "abs") := by decide +kernel
theorem bt_sorted : bootBuiltins "sorted" = some (.builtin "sorted") := by decide +kernel
theorem bt_str : bootBuiltins "str" = some (.type "str") := by decide +kernel
theorem bt_sum : bootBuiltins "sum" = some (.builtin "sum") := by decide +kernel
theorem bt_bool : bootBuiltins "bool" = some (.type "bool") := by decide +kernel
theorem bt_tuple : bootBuiltins "tuple" = some (.type "tuple") := by decide +kernel
theorem bt_ValueError : bootBuiltins "ValueError" = some (.type "ValueError") := by decide +kernel
theorem bt_enumerate : bootBuiltins "enumerate" = some (.type "enumerate") := by decide +kernel
theorem bt_reversed : bootBuiltins "reversed" = some (.type "reversed") := by decide +kernel
theorem b01 (k : Bool) : -(2 ^ 64) < (if k = true then (1 : Int) else 0) ∧ (if k = true then (1 : Int) else 0) < 2 ^ 64 := by cases k <;> decide
theorem boot_zip : bootBuiltins "zip" = some (.type "zip") := by decide +kernel
theorem pi_zip {X : Cx} {es : List Expr} {n : Nat} {tp : Pos} {a b : Expr} {ta : TA} {p pos : Pos} (hg : Gl X "zip") (hm : X.mg "zip" = none) (ha : PA X [a, b] ta) (hs : starEach [a, b] X.env = [(false, eval a X.env), (false, eval b X.env)] := by rfl) (hs2 : starEach [b] X.env = [(false, eval b X.env)] := by rfl) :
    PI X (.Tuple es n tp) (.Call (.Name "zip" p) [a, b] [] pos) (iZip X.K ta) := by
  intro pins s σ H R I h
  refine Call_ (ld_blt I hg hm boot_zip (PyProof.Rows.callWith_type1 (thn (ha pos pins s σ H _ I h) fun us s1 ⟨vs, H1, I1, r1, q1⟩ => ?_) (by rw [hs, hs2]) (by rw [hs2]; rfl)))
  obtain ⟨k1, k2, a', b', xs, ys, e, h1, h2, q⟩ := q1
  subst e
  obtain ⟨u, v, rfl, ru, rv⟩ := r1.two
  cases ru
  cases rv
  obtain ⟨its1, x1, p1, _⟩ := I1.seqK h1
  obtain ⟨its2, x2, p2, _⟩ := I1.seqK h2
  refine call_zip p1 p2 fun h' Z kk => wpAny_pyIter_zip Z.zz ?_
  have fp : ∀ c ∈ [s1.heap.objs.size + 4, s1.heap.objs.size + 2, s1.heap.objs.size + 3, s1.heap.objs.size, s1.heap.objs.size + 1], FpOk X pins H1 c := fun c hc => by
    have hle : s1.heap.objs.size ≤ c := by
      simp only [List.mem_cons, List.not_mem_nil, or_false] at hc
      rcases hc with q | q | q | q | q <;> rw [q] <;> omega
    exact I1.fpOk hle (I1.hok.fresh hle)
  refine ⟨_, _, _, _, H1, rfl, I1.kept (t' := s1.toks) kk, turn_zip a' b' (ap_new _), Z, fp, q⟩
end L2

/-! BExt4 -/
set_option Elab.async false
set_option linter.all false
set_option maxRecDepth 100000
set_option maxHeartbeats 4000000
namespace L2
open PySem PySem.Spec PyProof.Rows
theorem getD_at {ns : List Int} {i : Nat} (h : i < ns.length) : ns.getD i 0 = ns[i] := by simp [List.getD, h]
theorem vals_at {ns : List Int} {its : List Value} (r : Vals (ns.map V.int) its) {i : Nat} {v : Value} (e : its.toArray[i]? = some v) : ∃ t, v = .int (ns.getD i 0) t := by
  have e' : its[i]? = some v := by simpa using e
  have hi : i < its.length := (List.getElem?_eq_some_iff.mp e').1
  have hl := r.length
  rw [List.length_map] at hl
  have hb : i < ns.length := by omega
  obtain ⟨u, e2, ru⟩ := r.get (i := i) (x := V.int ns[i]) (by simp [hb])
  rw [e'] at e2
  cases e2
  obtain ⟨t, rfl⟩ := ru
  exact ⟨t, by rw [getD_at hb]⟩
theorem best_gt (val : Nat → Int) : ∀ k, argBest (fun i j => decide (val i > val j)) k ≤ k ∧ ∀ j, j ≤ k → val j ≤ val (argBest (fun i j => decide (val i > val j)) k)
  | 0 => ⟨Nat.le_refl _, fun j hj => by rw [Nat.le_zero.mp hj]; exact Int.le_refl _⟩
  | k + 1 => by
    obtain ⟨h1, h2⟩ := best_gt val k
    show (if decide (val (k + 1) > val (argBest _ k)) = true then k + 1 else argBest _ k) ≤ k + 1 ∧ ∀ j, j ≤ k + 1 → val j ≤ val (if decide (val (k + 1) > val (argBest _ k)) = true then k + 1 else argBest _ k)
    by_cases q : val (k + 1) > val (argBest (fun i j => decide (val i > val j)) k)
    · rw [if_pos (decide_eq_true q)]
      refine ⟨Nat.le_refl _, fun j hj => ?_⟩
      by_cases e : j = k + 1
      · rw [e]; exact Int.le_refl _
      · have := h2 j (by omega)
        omega
    · rw [if_neg (fun z => q (of_decide_eq_true z))]
      refine ⟨Nat.le_succ_of_le h1, fun j hj => ?_⟩
      by_cases e : j = k + 1
      · rw [e]; omega
      · exact h2 j (by omega)
theorem best_lt (val : Nat → Int) : ∀ k, argBest (fun i j => decide (val i < val j)) k ≤ k ∧ ∀ j, j ≤ k → val (argBest (fun i j => decide (val i < val j)) k) ≤ val j
  | 0 => ⟨Nat.le_refl _, fun j hj => by rw [Nat.le_zero.mp hj]; exact Int.le_refl _⟩
  | k + 1 => by
    obtain ⟨h1, h2⟩ := best_lt val k
    show (if decide (val (k + 1) < val (argBest _ k)) = true then k + 1 else argBest _ k) ≤ k + 1 ∧ ∀ j, j ≤ k + 1 → val (if decide (val (k + 1) < val (argBest _ k)) = true then k + 1 else argBest _ k) ≤ val j
    by_cases q : val (k + 1) < val (argBest (fun i j => decide (val i < val j)) k)
    · rw [if_pos (decide_eq_true q)]
      refine ⟨Nat.le_refl _, fun j hj => ?_⟩
      by_cases e : j = k + 1
      · rw [e]; exact Int.le_refl _
      · have := h2 j (by omega)
        omega
    · rw [if_neg (fun z => q (of_decide_eq_true z))]
      refine ⟨Nat.le_succ_of_le h1, fun j hj => ?_⟩
      by_cases e : j = k + 1
      · rw [e]; omega
      · exact h2 j (by omega)
abbrev bst (u : Value) (c : Nat) : Obj := { cls := .type "list", data := .seq #[u, u] c }
section
variable {P : Program} {w : World} {A : Around} {R : Result → Shared → Prop} {I S : Addr} {fp wr : List Addr} {n : Nat} {Is : Nat → Value → Prop} {St : Nat → Heap → Prop} {kw : List (Str × Value)}

/-! ### max of a list with a default: the loop, once something was seen -/
theorem maxd_go (W : Walks P w A.in1 I fp wr n Is St) (bt : Nat → Nat → Bool) (cm : CmpOf P w A.in1 .Gt Is bt) (nf : S ∉ fp) : ∀ (r j : Nat) (t : Shared) (u : Value) (c : Nat), n = j + 1 + r → St (j + 1) t.heap → Is (argBest bt j) u → t.heap.get? S = some (bst u c) →
    (∀ v h' tk, Is (argBest bt (n - 1)) v → (∀ b o, b ∉ wr → b ≠ S → t.heap.get? b = some o → h'.get? b = some o) → R (.ok (.ret v)) { t with heap := h', toks := tk }) → codeAny (model P w) A (.builtin "max.loop" ⟨[.ref I, .none, .ref S], kw⟩) R t := by
  have nw : S ∉ wr := fun z => nf (W.sub _ z)
  have nm : (toString "max" ++ toString ".loop" : String) = "max.loop" := by decide
  intro r
  induction r with
  | zero =>
    intro j t u c hn st iu at_ fin
    subst hn
    refine codeAny_builtin F.entry_max_loop (by
      rw [Around.under_plainId F.plain_max_loop _]
      show wpAny _ A.in1 (seqItems? (.ref S) >>= _) _ _ t
      refine wpAny_bind (wpAny_seqItems at_ rfl (by
        show wpAny _ A.in1 (tryCatch (pyNext (.ref I)) _ >>= _) _ _ t
        refine wpAny_bind (wpAny_tryCatch (W.done t _ _ st fun h1 tk kk => ?_))
        show wpAny _ A.in1 (updateSeq S (fun _ => #[]) >>= _) _ _ _
        refine wpAny_bind (wpAny_updateSeq (kk S _ nw at_) rfl (wpAny_bind (wpAny_letGo (wpAny_pure ?_))))
        exact fin u _ tk iu fun b o n1 n2 e => (Heap.get?_update_other _ _ n2.symm).trans (kk b o n1 e))))
  | succ r ih =>
    intro j t u c hn st iu at_ fin
    refine codeAny_builtin F.entry_max_loop (by
      rw [Around.under_plainId F.plain_max_loop _]
      show wpAny _ A.in1 (seqItems? (.ref S) >>= _) _ _ t
      refine wpAny_bind (wpAny_seqItems at_ rfl (by
        show wpAny _ A.in1 (tryCatch (pyNext (.ref I)) _ >>= _) _ _ t
        refine wpAny_bind (wpAny_tryCatch (W.item (j + 1) t _ _ (by omega) st fun v h1 tk iv st1 kk => ?_))
        have at1 := kk S _ nw at_
        show wpAny _ A.in1 (tryCatch (holding [v, v] (richCompare .Gt v u >>= _)) _ >>= _) _ _ _
        refine wpAny_bind (wpAny_tryCatch (wpAny_holding (wpAny_bind (cm (j + 1) (argBest bt j) v u _ _ _ iv iu (wpAny_bind (wpAny_holding (wpAny_truthy_bool (wpAny_bind (wpAny_letGo (wpAny_pure ?_))))))))))
        by_cases q : bt (j + 1) (argBest bt j) = true
        · have ab : argBest bt (j + 1) = j + 1 := by show (if bt (j + 1) (argBest bt j) = true then j + 1 else argBest bt j) = _; rw [if_pos q]
          rw [if_pos q]
          refine wpAny_bind (wpAny_updateSeq at1 rfl (wpAny_bind (wpAny_letGo ?_)))
          rw [nm]
          refine wpAny_pure ⟨plainId_quiet F.plain_max_loop _, ih (j + 1) _ v _ (by omega) (W.frame _ _ _ st1 fun b hb o e => (Heap.get?_update_other _ _ fun z : S = b => nf (z ▸ hb)).trans e) (by rw [ab]; exact iv) (Heap.get?_update_self _ at1 rfl) fun v2 h2 tk2 iv2 kk2 => ?_⟩
          exact fin v2 h2 tk2 iv2 fun b o n1 n2 e => kk2 b o n1 n2 ((Heap.get?_update_other _ _ n2.symm).trans (kk b o n1 e))
        · have ab : argBest bt (j + 1) = argBest bt j := by show (if bt (j + 1) (argBest bt j) = true then j + 1 else argBest bt j) = _; rw [if_neg q]
          rw [if_neg q]
          refine wpAny_bind (wpAny_letGo ?_)
          rw [nm]
          exact wpAny_pure ⟨plainId_quiet F.plain_max_loop _, ih (j + 1) _ u c (by omega) st1 (by rw [ab]; exact iu) at1 fun v2 h2 tk2 iv2 kk2 => fin v2 h2 tk2 iv2 fun b o n1 n2 e => kk2 b o n1 n2 (kk b o n1 e)⟩)))
/-- from the begin: the default of nothing, else the best -/
theorem maxd_run {d : Value} {x : Str} (W : Walks P w A.in1 I fp wr n Is St) (bt : Nat → Nat → Bool) (cm : CmpOf P w A.in1 .Gt Is bt) (nf : S ∉ fp) {t : Shared} {c : Nat} (st : St 0 t.heap)
    (at_ : t.heap.get? S = some { cls := .type "list", data := .seq #[] c }) (fin : ∀ v h' tk, ((n = 0 ∧ v = d) ∨ (0 < n ∧ Is (argBest bt (n - 1)) v)) → (∀ b o, b ∉ wr → b ≠ S → t.heap.get? b = some o → h'.get? b = some o) → R (.ok (.ret v)) { t with heap := h', toks := tk }) :
    codeAny (model P w) A (.builtin "max.loop" ⟨[.ref I, .none, .ref S], [(x, d)]⟩) R t := by
  have nw : S ∉ wr := fun z => nf (W.sub _ z)
  have nm : (toString "max" ++ toString ".loop" : String) = "max.loop" := by decide
  refine codeAny_builtin F.entry_max_loop (by
    rw [Around.under_plainId F.plain_max_loop _]
    show wpAny _ A.in1 (seqItems? (.ref S) >>= _) _ _ t
    refine wpAny_bind (wpAny_seqItems at_ rfl (by
      show wpAny _ A.in1 (tryCatch (pyNext (.ref I)) _ >>= _) _ _ t
      by_cases hn : n = 0
      · subst hn
        refine wpAny_bind (wpAny_tryCatch (W.done t _ _ st fun h1 tk kk => ?_))
        show wpAny _ A.in1 (rule _ >>= _) _ _ _
        exact wpAny_bind (wpAny_rule (wpAny_pure (fin d h1 tk (.inl ⟨rfl, rfl⟩) fun b o n1 _ e => kk b o n1 e)))
      · refine wpAny_bind (wpAny_tryCatch (W.item 0 t _ _ (by omega) st fun v h1 tk iv st1 kk => ?_))
        have at1 := kk S _ nw at_
        show wpAny _ A.in1 (updateSeq S (fun _ => #[v, v]) >>= _) _ _ _
        refine wpAny_bind (wpAny_updateSeq at1 rfl ?_)
        rw [nm]
        refine wpAny_pure ⟨plainId_quiet F.plain_max_loop _, maxd_go W bt cm nf (n - 1) 0 _ v _ (by omega) (W.frame _ _ _ st1 fun b hb o e => (Heap.get?_update_other _ _ fun z : S = b => nf (z ▸ hb)).trans e) iv (Heap.get?_update_self _ at1 rfl) fun v2 h2 tk2 iv2 kk2 => ?_⟩
        exact fin v2 h2 tk2 (.inr ⟨by omega, iv2⟩) fun b o n1 n2 e => kk2 b o n1 n2 ((Heap.get?_update_other _ _ n2.symm).trans (kk b o n1 e)))))
theorem args_maxd (a v : Value) : argsOk "max" ⟨[a], [(Str.ofString "default", v)]⟩ := by unfold argsOk; kernel_rfl
theorem max_default {l : Addr} {its : List Value} {ns : List Int} {d : Value} {Q : Value → Shared → Prop} {E : Value → Shared → Prop} {s : Shared} (hh : A.handled = none) (hl : s.heap.IsList l its.toArray) (hr : Vals (ns.map V.int) its)
    (h : ∀ v h' tk, ((ns = [] ∧ v = d) ∨ ∃ m t, v = .int m t ∧ m ∈ ns ∧ ∀ y ∈ ns, y ≤ m) → (∀ b o, s.heap.get? b = some o → h'.get? b = some o) → Q v { s with heap := h', toks := tk }) :
    wpAny (model P w) A (call (.builtin "max") [.ref l] [(Str.ofString "default", d)]) Q E s := by
  have nm : (toString "max" ++ toString ".loop" : String) = "max.loop" := by decide
  have lt : l < s.heap.objs.size := by
    obtain ⟨_, e, _⟩ := hl
    exact Heap.lt_size e
  have len : its.toArray.size = ns.length := by
    have := hr.length
    rw [List.length_map] at this
    simp [this]
  refine PyProof.Rows.kmk_tree F.kind_max F.plain_max F.entry_max (args_maxd _ _) (by
    show wpAny _ A.in1 (Builtin.Builtins.bindParams "max" ["key", "default"] 0 ⟨[], [(Str.ofString "default", d)]⟩ >>= _) _ _ s
    refine wpAny_bind (wpAny_of_eq (show Builtin.Builtins.bindParams "max" ["key", "default"] 0 ⟨[], [(Str.ofString "default", d)]⟩ = pure [none, some d] from rfl) (wpAny_bind (wpAny_pure (wpAny_bind (wpAny_pyIter_list hl (wpAny_bind (wpAny_newObj_type ?_)))))))
    rw [nm]
    have W := Walks.list (prog := P) (w := w) (A := A.in1) hh s.heap.objs.size l (Nat.ne_of_lt lt) its.toArray
    have st : ((s.heap.push { cls := .type "list_iterator", data := .fields #[.ref l, .int 0 0] }).IsListIter s.heap.objs.size l 0 ∧ (s.heap.push { cls := .type "list_iterator", data := .fields #[.ref l, .int 0 0] }).IsList l its.toArray) := ⟨⟨_, Heap.get?_push_size _ rfl, rfl, rfl⟩, hl.push _⟩
    have cm := CmpOf.ints_gt (prog := P) (w := w) (A := A.in1) (fun i => ns.getD i 0) (fun i v e => vals_at hr e)
    have nf : (s.heap.push { cls := .type "list_iterator", data := .fields #[.ref l, .int 0 0] }).objs.size ∉ [s.heap.objs.size, l] := by
      intro z
      rw [Heap.size_push] at z
      rcases List.mem_cons.mp z with e | e
      · exact Nat.succ_ne_self _ e
      · exact Nat.lt_irrefl _ (Nat.lt_trans (Nat.lt_succ_self _) ((List.mem_singleton.mp e).symm ▸ lt))
    refine wpAny_pure ⟨plainId_quiet F.plain_max_loop _, maxd_run (c := 0) W _ cm nf (W.frame _ _ _ st fun b _ o e => Heap.get?_push_of_some _ e) (Heap.get?_push_size _ rfl) fun v h' tk hv kk => ?_⟩
    refine h v h' tk ?_ fun b o e => kk b o (fun z => ?_) (fun z => ?_) (Heap.get?_push_of_some _ (Heap.get?_push_of_some _ e))
    · rcases hv with ⟨z, e⟩ | ⟨z, e⟩
      · left
        exact ⟨List.eq_nil_of_length_eq_zero (by omega), e⟩
      · right
        obtain ⟨t, et⟩ := vals_at hr e
        have hb := best_gt (fun i => ns.getD i 0) (its.toArray.size - 1)
        refine ⟨_, t, et, ?_, fun y hy => ?_⟩
        · have hi := hb.1
          rw [getD_at (by omega)]
          exact List.getElem_mem _
        · obtain ⟨i, hi, rfl⟩ := List.mem_iff_getElem.mp hy
          have := hb.2 i (by omega)
          rw [show (ns.getD i 0) = ns[i] from getD_at hi] at this
          exact this
    · rw [List.mem_singleton.mp z] at e
      exact Nat.lt_irrefl _ (Heap.lt_size e)
    · have z2 : b = s.heap.objs.size + 1 := z.trans (Heap.size_push _ _)
      exact Nat.lt_irrefl _ (Nat.lt_trans (Nat.lt_succ_self _) (z2 ▸ Heap.lt_size e)))
/-- max(e, default=d) -/
def tMaxD (K : PySem.W.Frag) (ta : TA) (td : TE) : TE := fun σ H Q => ta σ H fun vs H1 => td σ H1 fun dv H2 => ∃ a ns i, vs = [V.ref a] ∧ dv = .int i ∧ SqL K H2 a (ns.map V.int) ∧ ∀ m : Int, ((ns = [] ∧ m = i) ∨ (m ∈ ns ∧ ∀ y ∈ ns, y ≤ m)) → Q (.int m) H2
theorem pe_maxD {X : Cx} {e dv : Expr} {ta : TA} {td : TE} {p kp pos : Pos} (hc : X.calm = true) (hg : Gl X "max") (hm : X.mg "max" = none) (ha : PA X [e] ta) (hd : PE X dv td) (hs : starEach [e] X.env = [(false, eval e X.env)] := by rfl) :
    PE X (.Call (.Name "max" p) [e] [⟨some "default", dv, kp⟩] pos) (tMaxD X.K ta td) := by
  intro pins s σ H Q I h
  refine wpAny_Call_Name_kw (ld_blt I hg hm bt_max ?_)
  refine PyProof.Rows.callWith_kw (thn (ha pos pins s σ H _ I h) fun us s1 ⟨vs, H1, I1, r1, q1⟩ => PyProof.Rows.kws_cons (thn (hd pins s1 σ H1 _ I1 q1) fun u s2 ⟨y, H2, I2, r2, q2⟩ => PyProof.Rows.kws_nil ?_)) (by rw [hs]; rfl) (by rw [hs]; rfl)
  obtain ⟨a, ns, i, rfl, rfl, hl, q⟩ := q2
  obtain ⟨z, rfl, rz⟩ := r1.one
  cases rz
  obtain ⟨tk0, rfl⟩ := r2
  obtain ⟨its, rv, pl, _⟩ := I2.list hl
  refine max_default (I2.ok.hd hc) pl.isList rv fun v h' tk hv kk => ?_
  rcases hv with ⟨e1, rfl⟩ | ⟨m, t, rfl, hm⟩
  · exact ⟨.int i, H2, I2.kept (t' := tk) kk, ⟨_, rfl⟩, q i (.inl ⟨e1, rfl⟩)⟩
  · exact ⟨.int m, H2, I2.kept (t' := tk) kk, ⟨_, rfl⟩, q m (.inr hm)⟩

/-! ### min of a list with a default: the loop, once something was seen -/
theorem mind_go (W : Walks P w A.in1 I fp wr n Is St) (bt : Nat → Nat → Bool) (cm : CmpOf P w A.in1 .Lt Is bt) (nf : S ∉ fp) : ∀ (r j : Nat) (t : Shared) (u : Value) (c : Nat), n = j + 1 + r → St (j + 1) t.heap → Is (argBest bt j) u → t.heap.get? S = some (bst u c) →
    (∀ v h' tk, Is (argBest bt (n - 1)) v → (∀ b o, b ∉ wr → b ≠ S → t.heap.get? b = some o → h'.get? b = some o) → R (.ok (.ret v)) { t with heap := h', toks := tk }) → codeAny (model P w) A (.builtin "min.loop" ⟨[.ref I, .none, .ref S], kw⟩) R t := by
  have nw : S ∉ wr := fun z => nf (W.sub _ z)
  have nm : (toString "min" ++ toString ".loop" : String) = "min.loop" := by decide
  intro r
  induction r with
  | zero =>
    intro j t u c hn st iu at_ fin
    subst hn
    refine codeAny_builtin F.entry_min_loop (by
      rw [Around.under_plainId F.plain_min_loop _]
      show wpAny _ A.in1 (seqItems? (.ref S) >>= _) _ _ t
      refine wpAny_bind (wpAny_seqItems at_ rfl (by
        show wpAny _ A.in1 (tryCatch (pyNext (.ref I)) _ >>= _) _ _ t
        refine wpAny_bind (wpAny_tryCatch (W.done t _ _ st fun h1 tk kk => ?_))
        show wpAny _ A.in1 (updateSeq S (fun _ => #[]) >>= _) _ _ _
        refine wpAny_bind (wpAny_updateSeq (kk S _ nw at_) rfl (wpAny_bind (wpAny_letGo (wpAny_pure ?_))))
        exact fin u _ tk iu fun b o n1 n2 e => (Heap.get?_update_other _ _ n2.symm).trans (kk b o n1 e))))
  | succ r ih =>
    intro j t u c hn st iu at_ fin
    refine codeAny_builtin F.entry_min_loop (by
      rw [Around.under_plainId F.plain_min_loop _]
      show wpAny _ A.in1 (seqItems? (.ref S) >>= _) _ _ t
      refine wpAny_bind (wpAny_seqItems at_ rfl (by
        show wpAny _ A.in1 (tryCatch (pyNext (.ref I)) _ >>= _) _ _ t
        refine wpAny_bind (wpAny_tryCatch (W.item (j + 1) t _ _ (by omega) st fun v h1 tk iv st1 kk => ?_))
        have at1 := kk S _ nw at_
        show wpAny _ A.in1 (tryCatch (holding [v, v] (richCompare .Lt v u >>= _)) _ >>= _) _ _ _
        refine wpAny_bind (wpAny_tryCatch (wpAny_holding (wpAny_bind (cm (j + 1) (argBest bt j) v u _ _ _ iv iu (wpAny_bind (wpAny_holding (wpAny_truthy_bool (wpAny_bind (wpAny_letGo (wpAny_pure ?_))))))))))
        by_cases q : bt (j + 1) (argBest bt j) = true
        · have ab : argBest bt (j + 1) = j + 1 := by show (if bt (j + 1) (argBest bt j) = true then j + 1 else argBest bt j) = _; rw [if_pos q]
          rw [if_pos q]
          refine wpAny_bind (wpAny_updateSeq at1 rfl (wpAny_bind (wpAny_letGo ?_)))
          rw [nm]
          refine wpAny_pure ⟨plainId_quiet F.plain_min_loop _, ih (j + 1) _ v _ (by omega) (W.frame _ _ _ st1 fun b hb o e => (Heap.get?_update_other _ _ fun z : S = b => nf (z ▸ hb)).trans e) (by rw [ab]; exact iv) (Heap.get?_update_self _ at1 rfl) fun v2 h2 tk2 iv2 kk2 => ?_⟩
          exact fin v2 h2 tk2 iv2 fun b o n1 n2 e => kk2 b o n1 n2 ((Heap.get?_update_other _ _ n2.symm).trans (kk b o n1 e))
        · have ab : argBest bt (j + 1) = argBest bt j := by show (if bt (j + 1) (argBest bt j) = true then j + 1 else argBest bt j) = _; rw [if_neg q]
          rw [if_neg q]
          refine wpAny_bind (wpAny_letGo ?_)
          rw [nm]
          exact wpAny_pure ⟨plainId_quiet F.plain_min_loop _, ih (j + 1) _ u c (by omega) st1 (by rw [ab]; exact iu) at1 fun v2 h2 tk2 iv2 kk2 => fin v2 h2 tk2 iv2 fun b o n1 n2 e => kk2 b o n1 n2 (kk b o n1 e)⟩)))
/-- from the begin: the default of nothing, else the best -/
theorem mind_run {d : Value} {x : Str} (W : Walks P w A.in1 I fp wr n Is St) (bt : Nat → Nat → Bool) (cm : CmpOf P w A.in1 .Lt Is bt) (nf : S ∉ fp) {t : Shared} {c : Nat} (st : St 0 t.heap)
    (at_ : t.heap.get? S = some { cls := .type "list", data := .seq #[] c }) (fin : ∀ v h' tk, ((n = 0 ∧ v = d) ∨ (0 < n ∧ Is (argBest bt (n - 1)) v)) → (∀ b o, b ∉ wr → b ≠ S → t.heap.get? b = some o → h'.get? b = some o) → R (.ok (.ret v)) { t with heap := h', toks := tk }) :
    codeAny (model P w) A (.builtin "min.loop" ⟨[.ref I, .none, .ref S], [(x, d)]⟩) R t := by
  have nw : S ∉ wr := fun z => nf (W.sub _ z)
  have nm : (toString "min" ++ toString ".loop" : String) = "min.loop" := by decide
  refine codeAny_builtin F.entry_min_loop (by
    rw [Around.under_plainId F.plain_min_loop _]
    show wpAny _ A.in1 (seqItems? (.ref S) >>= _) _ _ t
    refine wpAny_bind (wpAny_seqItems at_ rfl (by
      show wpAny _ A.in1 (tryCatch (pyNext (.ref I)) _ >>= _) _ _ t
      by_cases hn : n = 0
      · subst hn
        refine wpAny_bind (wpAny_tryCatch (W.done t _ _ st fun h1 tk kk => ?_))
        show wpAny _ A.in1 (rule _ >>= _) _ _ _
        exact wpAny_bind (wpAny_rule (wpAny_pure (fin d h1 tk (.inl ⟨rfl, rfl⟩) fun b o n1 _ e => kk b o n1 e)))
      · refine wpAny_bind (wpAny_tryCatch (W.item 0 t _ _ (by omega) st fun v h1 tk iv st1 kk => ?_))
        have at1 := kk S _ nw at_
        show wpAny _ A.in1 (updateSeq S (fun _ => #[v, v]) >>= _) _ _ _
        refine wpAny_bind (wpAny_updateSeq at1 rfl ?_)
        rw [nm]
        refine wpAny_pure ⟨plainId_quiet F.plain_min_loop _, mind_go W bt cm nf (n - 1) 0 _ v _ (by omega) (W.frame _ _ _ st1 fun b hb o e => (Heap.get?_update_other _ _ fun z : S = b => nf (z ▸ hb)).trans e) iv (Heap.get?_update_self _ at1 rfl) fun v2 h2 tk2 iv2 kk2 => ?_⟩
        exact fin v2 h2 tk2 (.inr ⟨by omega, iv2⟩) fun b o n1 n2 e => kk2 b o n1 n2 ((Heap.get?_update_other _ _ n2.symm).trans (kk b o n1 e)))))
theorem args_mind (a v : Value) : argsOk "min" ⟨[a], [(Str.ofString "default", v)]⟩ := by unfold argsOk; kernel_rfl
theorem min_default {l : Addr} {its : List Value} {ns : List Int} {d : Value} {Q : Value → Shared → Prop} {E : Value → Shared → Prop} {s : Shared} (hh : A.handled = none) (hl : s.heap.IsList l its.toArray) (hr : Vals (ns.map V.int) its)
    (h : ∀ v h' tk, ((ns = [] ∧ v = d) ∨ ∃ m t, v = .int m t ∧ m ∈ ns ∧ ∀ y ∈ ns, m ≤ y) → (∀ b o, s.heap.get? b = some o → h'.get? b = some o) → Q v { s with heap := h', toks := tk }) :
    wpAny (model P w) A (call (.builtin "min") [.ref l] [(Str.ofString "default", d)]) Q E s := by
  have nm : (toString "min" ++ toString ".loop" : String) = "min.loop" := by decide
  have lt : l < s.heap.objs.size := by
    obtain ⟨_, e, _⟩ := hl
    exact Heap.lt_size e
  have len : its.toArray.size = ns.length := by
    have := hr.length
    rw [List.length_map] at this
    simp [this]
  refine PyProof.Rows.kmk_tree F.kind_min F.plain_min F.entry_min (args_mind _ _) (by
    show wpAny _ A.in1 (Builtin.Builtins.bindParams "min" ["key", "default"] 0 ⟨[], [(Str.ofString "default", d)]⟩ >>= _) _ _ s
    refine wpAny_bind (wpAny_of_eq (show Builtin.Builtins.bindParams "min" ["key", "default"] 0 ⟨[], [(Str.ofString "default", d)]⟩ = pure [none, some d] from rfl) (wpAny_bind (wpAny_pure (wpAny_bind (wpAny_pyIter_list hl (wpAny_bind (wpAny_newObj_type ?_)))))))
    rw [nm]
    have W := Walks.list (prog := P) (w := w) (A := A.in1) hh s.heap.objs.size l (Nat.ne_of_lt lt) its.toArray
    have st : ((s.heap.push { cls := .type "list_iterator", data := .fields #[.ref l, .int 0 0] }).IsListIter s.heap.objs.size l 0 ∧ (s.heap.push { cls := .type "list_iterator", data := .fields #[.ref l, .int 0 0] }).IsList l its.toArray) := ⟨⟨_, Heap.get?_push_size _ rfl, rfl, rfl⟩, hl.push _⟩
    have cm := CmpOf.ints_lt (prog := P) (w := w) (A := A.in1) (fun i => ns.getD i 0) (fun i v e => vals_at hr e)
    have nf : (s.heap.push { cls := .type "list_iterator", data := .fields #[.ref l, .int 0 0] }).objs.size ∉ [s.heap.objs.size, l] := by
      intro z
      rw [Heap.size_push] at z
      rcases List.mem_cons.mp z with e | e
      · exact Nat.succ_ne_self _ e
      · exact Nat.lt_irrefl _ (Nat.lt_trans (Nat.lt_succ_self _) ((List.mem_singleton.mp e).symm ▸ lt))
    refine wpAny_pure ⟨plainId_quiet F.plain_min_loop _, mind_run (c := 0) W _ cm nf (W.frame _ _ _ st fun b _ o e => Heap.get?_push_of_some _ e) (Heap.get?_push_size _ rfl) fun v h' tk hv kk => ?_⟩
    refine h v h' tk ?_ fun b o e => kk b o (fun z => ?_) (fun z => ?_) (Heap.get?_push_of_some _ (Heap.get?_push_of_some _ e))
    · rcases hv with ⟨z, e⟩ | ⟨z, e⟩
      · left
        exact ⟨List.eq_nil_of_length_eq_zero (by omega), e⟩
      · right
        obtain ⟨t, et⟩ := vals_at hr e
        have hb := best_lt (fun i => ns.getD i 0) (its.toArray.size - 1)
        refine ⟨_, t, et, ?_, fun y hy => ?_⟩
        · have hi := hb.1
          rw [getD_at (by omega)]
          exact List.getElem_mem _
        · obtain ⟨i, hi, rfl⟩ := List.mem_iff_getElem.mp hy
          have := hb.2 i (by omega)
          rw [show (ns.getD i 0) = ns[i] from getD_at hi] at this
          exact this
    · rw [List.mem_singleton.mp z] at e
      exact Nat.lt_irrefl _ (Heap.lt_size e)
    · have z2 : b = s.heap.objs.size + 1 := z.trans (Heap.size_push _ _)
      exact Nat.lt_irrefl _ (Nat.lt_trans (Nat.lt_succ_self _) (z2 ▸ Heap.lt_size e)))
/-- min(e, default=d) -/
def tMinD (K : PySem.W.Frag) (ta : TA) (td : TE) : TE := fun σ H Q => ta σ H fun vs H1 => td σ H1 fun dv H2 => ∃ a ns i, vs = [V.ref a] ∧ dv = .int i ∧ SqL K H2 a (ns.map V.int) ∧ ∀ m : Int, ((ns = [] ∧ m = i) ∨ (m ∈ ns ∧ ∀ y ∈ ns, m ≤ y)) → Q (.int m) H2
theorem pe_minD {X : Cx} {e dv : Expr} {ta : TA} {td : TE} {p kp pos : Pos} (hc : X.calm = true) (hg : Gl X "min") (hm : X.mg "min" = none) (ha : PA X [e] ta) (hd : PE X dv td) (hs : starEach [e] X.env = [(false, eval e X.env)] := by rfl) :
    PE X (.Call (.Name "min" p) [e] [⟨some "default", dv, kp⟩] pos) (tMinD X.K ta td) := by
  intro pins s σ H Q I h
  refine wpAny_Call_Name_kw (ld_blt I hg hm bt_min ?_)
  refine PyProof.Rows.callWith_kw (thn (ha pos pins s σ H _ I h) fun us s1 ⟨vs, H1, I1, r1, q1⟩ => PyProof.Rows.kws_cons (thn (hd pins s1 σ H1 _ I1 q1) fun u s2 ⟨y, H2, I2, r2, q2⟩ => PyProof.Rows.kws_nil ?_)) (by rw [hs]; rfl) (by rw [hs]; rfl)
  obtain ⟨a, ns, i, rfl, rfl, hl, q⟩ := q2
  obtain ⟨z, rfl, rz⟩ := r1.one
  cases rz
  obtain ⟨tk0, rfl⟩ := r2
  obtain ⟨its, rv, pl, _⟩ := I2.list hl
  refine min_default (I2.ok.hd hc) pl.isList rv fun v h' tk hv kk => ?_
  rcases hv with ⟨e1, rfl⟩ | ⟨m, t, rfl, hm⟩
  · exact ⟨.int i, H2, I2.kept (t' := tk) kk, ⟨_, rfl⟩, q i (.inl ⟨e1, rfl⟩)⟩
  · exact ⟨.int m, H2, I2.kept (t' := tk) kk, ⟨_, rfl⟩, q m (.inr hm)⟩
end
/-! ### sum of a list of ints -/
theorem pre_take (ns : List Int) : ∀ k, preSum (fun i => ns.getD i 0) k = (ns.take k).sum
  | 0 => by simp [preSum]
  | k + 1 => by
    show preSum _ k + ns.getD k 0 = _
    rw [pre_take ns k, List.take_add_one]
    cases q : ns[k]? with
    | none => simp [List.getD, q]
    | some x => simp [List.getD, q]
def rSumI (K : PySem.W.Frag) : List V → Hp → VK → Prop := fun xs H Q => ∃ (a : Addr) (ns : List Int), xs = [V.ref a] ∧ SqL K H a (ns.map V.int) ∧ Q (.int ns.sum) H
section
variable {X : Cx}
theorem call_sumI (hc : X.calm = true) : CallR X (.builtin "sum") (rSumI X.K) := by
  intro pins s σ H xs us Q I r h
  obtain ⟨a, ns, rfl, ha, q⟩ := h
  obtain ⟨u, rfl, ru⟩ := r.one
  cases ru
  obtain ⟨its, rv, p, hz⟩ := I.list ha
  have lt : a < s.heap.objs.size := by
    obtain ⟨_, e, _⟩ := p.isList
    exact Heap.lt_size e
  refine call_sum_walkAnyS (wpAny_pyIter_list p.isList ?_)
  refine ⟨s.heap.objs.size, _, _, _, _, _, _, fun i => ns.getD i 0, rfl, (Walks.list (A := X.A.in1) (show X.A.in1.handled = none from I.ok.hd hc) s.heap.objs.size a (Nat.ne_of_lt lt) its.toArray).toS, ⟨⟨_, Heap.get?_push_size _ rfl, rfl, rfl⟩, p.isList.push _⟩, fun b hb => ?_, fun i v hv => vals_at rv hv, fun s' t' hm => ?_⟩
  · show b < (s.heap.push _).objs.size
    rw [Heap.size_push]
    have z : b = s.heap.objs.size ∨ b = a := by simpa using hb
    rcases z with z | z
    · rw [z]; exact Nat.lt_succ_self _
    · rw [z]; exact Nat.lt_succ_of_lt lt
  · obtain ⟨h', g', d', tk', os'⟩ := s'
    have e1 : g' = s.gens := hm.gens
    have e2 : d' = s.drawn := hm.drawn
    have e3 : os' = s.os := hm.os
    subst e1 e2 e3
    have hl := rv.length
    rw [List.length_map] at hl
    rw [pre_take, List.size_toArray, ← hl, List.take_length]
    exact ⟨.int _, H, I.kept (t' := tk') fun b o e => hm.heap b o (fun z => by
      rw [List.mem_singleton.mp z] at e
      exact Nat.lt_irrefl _ (Heap.lt_size e)) (Heap.get?_push_of_some _ e), ⟨_, rfl⟩, q⟩

/-! ### sorted of fewer than 64 ints -/
theorem ints_of : ∀ {ns : List Int} {its : List Value}, Vals (ns.map V.int) its → IntsAre its ns
  | [], _, r => by cases r; exact .nil
  | n :: ns, _, r => by
    cases r with
    | cons h t =>
      obtain ⟨k, rfl⟩ := h
      exact .cons _ _ (ints_of t)
theorem of_ints : ∀ {ns : List Int} {its : List Value}, IntsAre its ns → Vals (ns.map V.int) its
  | _, _, .nil => .nil
  | _, _, .cons _ _ t => .cons ⟨_, rfl⟩ (of_ints t)
def rSortI (K : PySem.W.Frag) : List V → Hp → VK → Prop := fun xs H Q => ∃ (a : Addr) (ns : List Int), xs = [V.ref a] ∧ SqL K H a (ns.map V.int) ∧ ns.length < 64 ∧ ∀ (p : Addr) (ms : List Int), H p = none → ms.Perm ns → ms.Pairwise (· ≤ ·) → Q (.ref p) (upd H p (.lst (ms.map V.int)))
theorem call_sortI : CallR X (.builtin "sorted") (rSortI X.K) := by
  intro pins s σ H xs us Q I r h
  obtain ⟨a, ns, rfl, ha, h64, q⟩ := h
  obtain ⟨u, rfl, ru⟩ := r.one
  cases ru
  obtain ⟨its, rv, p, hz⟩ := I.list ha
  have hl := rv.length
  rw [List.length_map] at hl hz
  refine sorted_ints p.isList (ints_of rv) (by omega) fun out ms a1 a2 a3 => ?_
  have hn : H (s.heap.objs.size + 1) = none := I.hok.fresh (Nat.le_succ _)
  obtain ⟨c, hc⟩ := sortedAll_at s.heap its out
  refine ⟨.ref _, _, I.laid (a := s.heap.objs.size + 1) (o := .lst (ms.map V.int)) (t' := s.toks) (fun _ _ e => sortedAll_old e) (Nat.le_succ _) ⟨?_, out.toList, c, of_ints a1, ?_⟩, rfl, q _ ms hn a2 a3⟩
  · rw [List.length_map, a2.length_eq]; exact hz
  · exact hc

/-! ### != of lists of unlike lengths -/
def rNeL (K : PySem.W.Frag) (A : Around) : R2 := fun x y H Q => ∃ (a b : Addr) (xs ys : List V), x = .ref a ∧ y = .ref b ∧ SqL K H a xs ∧ SqL K H b ys ∧ xs.length ≠ ys.length ∧ A.units < cLine ∧ Q (.bl true) H
theorem op_neL : OpR X (compareOp .NotEq) (rNeL X.K X.A) := by
  intro pins s σ H x y v u Q I rx ry h
  obtain ⟨a, b, xs, ys, rfl, rfl, h1, h2, hl, hu, q⟩ := h
  cases rx; cases ry
  obtain ⟨i1, r1, p1, _⟩ := I.list h1
  obtain ⟨i2, r2, p2, _⟩ := I.list h2
  exact SeqAt.RcNeAt.lists_lengths p1.isList p2.isList (by simp; rw [← r1.length, ← r2.length]; exact hl) hu _ _ _ _ ⟨.bl _, H, I, rfl, q⟩
end

end L2

/-! BExt5 -/
set_option Elab.async false
set_option linter.all false
set_option maxRecDepth 100000
set_option maxHeartbeats 4000000
namespace L2
open PySem PySem.Spec PyProof.Rows
/-! ### (a, b, ..) = a list of that length -/
section
variable {P : Program} {w : World} {A : Around} {E : Value → Shared → Prop}
theorem draw_list {it l : Addr} {items : Array Value} (hh : A.handled = none) (hne : l ≠ it) : ∀ (n i : Nat) (s : Shared) (Q : List Value → Shared → Prop), i + n ≤ items.size → (s.heap.IsListIter it l i ∧ s.heap.IsList l items) →
    (∀ h' tk, (h'.IsListIter it l (i + n) ∧ h'.IsList l items) → (∀ b o, b ≠ it → s.heap.get? b = some o → h'.get? b = some o) → Q ((items.toList.drop i).take n) { s with heap := h', toks := tk }) → wpAny (model P w) A (draw (.ref it) n) Q E s
  | 0, i, s, Q, _, st, q => by
    show wpAny _ _ (pure []) Q E s
    exact wpAny_pure (by simpa using q s.heap s.toks st fun _ _ _ e => e)
  | n + 1, i, s, Q, le, st, q => by
    have hi : i < items.size := by omega
    show wpAny _ _ (pyNext (.ref it) >>= _) Q E s
    refine wpAny_bind ((Walks.list (prog := P) (w := w) (A := A) hh it l hne items).item i s _ _ hi st fun v h1 tk1 hv st1 k1 => ?_)
    refine wpAny_bind (wpAny_holding (draw_list hh hne n (i + 1) _ _ (by omega) st1 fun h2 tk2 st2 k2 => wpAny_pure ?_))
    have ev : v = items[i] := by
      rw [Array.getElem?_eq_getElem hi] at hv
      exact (Option.some.inj hv).symm
    have hd : items.toList.drop i = items[i] :: items.toList.drop (i + 1) := by simp [List.drop_eq_getElem_cons, hi]
    have := q h2 tk2 (by rw [show i + (n + 1) = i + 1 + n by omega]; exact st2) fun b o hb e => k2 b o hb (k1 b o (by simpa using hb) e)
    rw [hd, List.take_succ_cons, ← ev] at this
    exact this
theorem unpackItems_list {s : Shared} {a : Addr} {its : List Value} {Q : List Value → Shared → Prop} (hh : A.handled = none) (ht : s.heap.IsList a its.toArray)
    (q : ∀ h' tk, (∀ b o, b ≠ s.heap.objs.size → s.heap.get? b = some o → h'.get? b = some o) → Q its { s with heap := h', toks := tk }) : wpAny (model P w) A (unpackItems (.ref a) its.length none) Q E s := by
  have lt : a ≠ s.heap.objs.size := by
    obtain ⟨_, e, _⟩ := id ht
    exact Nat.ne_of_lt (Heap.lt_size e)
  unfold unpackItems notIterableAtAll
  refine wpAny_bind (wpAny_bind (wpAny_specialOf ht.typeIs slot_list_iter.lookup (wpAny_pure ?_)))
  simp only [Bool.false_eq_true, if_false]
  refine wpAny_bind (wpAny_holding (wpAny_pyIter_list ht (wpAny_bind (wpAny_holding (draw_list hh lt its.length 0 _ _ (by simp) ⟨⟨_, Heap.get?_push_size _ rfl, rfl, rfl⟩, ht.push _⟩ fun h1 tk1 st1 k1 => ?_)))))
  have hall : List.take its.length (List.drop 0 its.toArray.toList) = its := by
    rw [List.drop_zero]; exact List.take_of_length_le (by simp)
  rw [hall, if_neg (by simp)]
  rw [Nat.zero_add] at st1
  refine wpAny_bind (wpAny_holding ((Walks.list (prog := P) (w := w) (A := A) hh s.heap.objs.size a lt its.toArray).done _ _ _ (by simpa using st1) fun h2 tk2 k2 => ?_))
  simp only [Option.isSome_none, Bool.false_eq_true, if_false]
  exact wpAny_pure (q h2 tk2 fun b o hb e => k2 b o (by simpa using hb) (k1 b o hb (Heap.get?_push_of_some _ e)))
end
def gTupL (K : PySem.W.Frag) (n : Nat) (t : TGs) : TG := fun v σ H Q => ∃ a xs, v = .ref a ∧ SqL K H a xs ∧ xs.length = n ∧ t xs σ H Q
theorem pg_tupL {X : Cx} {pos : Pos} {es : List Expr} {k : Nat} {t : TGs} {n : Nat} (hc : X.calm = true) (h : PGs X es t)
    (hn : (assignEach es X.env).length = n := by rfl) (hst : (assignEach es X.env).findIdx? (·.1) = none := by rfl) : PG X (.Tuple es k pos) (gTupL X.K n t) := by
  intro pins s σ H v u Q I r hw
  obtain ⟨a, xs, e1, hq, hl, hw⟩ := hw
  subst e1
  cases r
  obtain ⟨its, rv, pl, hz⟩ := I.list hq
  have len : n = its.length := by rw [← hl, rv.length]
  rw [assign_Tuple]
  refine wpAny_bind (wpAny_standAt ?_)
  unfold unpack
  rw [hst, hn, len]
  refine wpAny_bind (wpAny_holding (unpackItems_list (I.ok.hd hc) pl.isList fun h2 tk2 k2 => ?_))
  exact h pins _ σ H xs _ Q (I.kept (t' := tk2) fun b o e => k2 b o (Nat.ne_of_lt (Heap.lt_size e)) e) rv hw
/-- one of two readings of an operation -/
theorem op_alt {X : Cx} {f : Value → Value → Sem Value} {r1 r2 : R2} (h1 : OpR X f r1) (h2 : OpR X f r2) : OpR X f (fun x y H Q => r1 x y H Q ∨ r2 x y H Q) := by
  intro pins s σ H x y v u Q I rx ry h
  rcases h with h | h
  · exact h1 pins s σ H x y v u Q I rx ry h
  · exact h2 pins s σ H x y v u Q I rx ry h
end L2

/-! Em -/
set_option Elab.async false
set_option linter.all false
set_option maxRecDepth 100000
set_option maxHeartbeats 4000000
/-! expressions, apart from the text: what they are worth -/
namespace K04
open PySem L2
inductive Ex where
  | num (i : Int)
  | name (x : Str)
  | two (w : Str) (e f : Ex)
  | mod (e : Ex) (n : Int)
  | less (e f g h : Ex)
def Ex.dep : Ex → Nat
  | .num _ => 1
  | .name _ => 1
  | .two _ e f => max e.dep f.dep + 1
  | .mod e _ => e.dep + 1
  | .less e f g h => max (max e.dep f.dep) (max g.dep h.dep) + 1
theorem Ex.dep_pos : ∀ e : Ex, 1 ≤ e.dep
  | .num _ => Nat.le_refl _
  | .name _ => Nat.le_refl _
  | .two _ _ _ => Nat.le_add_left _ _
  | .mod _ _ => Nat.le_add_left _ _
  | .less _ _ _ _ => Nat.le_add_left _ _
def Ex.val (ρ : Str → Int) : Ex → Int
  | .num i => i
  | .name x => ρ x
  | .two w e f => if w = "add" then e.val ρ + f.val ρ else if w = "sub" then e.val ρ - f.val ρ else if w = "min" then (if f.val ρ < e.val ρ then f.val ρ else e.val ρ) else (if f.val ρ > e.val ρ then f.val ρ else e.val ρ)
  | .mod e n => e.val ρ % n
  | .less e f g h => if e.val ρ < f.val ρ then g.val ρ else h.val ρ
abbrev TwoW (w : Str) : Prop := w = "add" ∨ w = "sub" ∨ w = "min" ∨ w = "max"
/-- as they are drawn -/
def Ex.ok (names : List Str) : Ex → Prop
  | .num i => -100000000000000000000 < i ∧ i < 100000000000000000000
  | .name x => x ∈ names
  | .two w e f => TwoW w ∧ e.ok names ∧ f.ok names
  | .mod e n => (1 ≤ n ∧ n ≤ 1000000000) ∧ e.ok names
  | .less e f g h => e.ok names ∧ f.ok names ∧ g.ok names ∧ h.ok names

/-! ### frames -/
/-- all but what stands at l is as it was -/
def Ext (l : Addr) (H H' : Hp) : Prop := ∀ b o, H b = some o → b ≠ l → H' b = some o
theorem Ext.refl {l : Addr} {H : Hp} : Ext l H H := fun _ _ e _ => e
theorem Ext.trans {l : Addr} {H H1 H2 : Hp} (a : Ext l H H1) (b : Ext l H1 H2) : Ext l H H2 := fun c o e n => b c o (a c o e n) n
theorem Ext.same {l : Addr} {H H' : Hp} (a : Same H H') : Ext l H H' := fun c o e _ => a c o e
theorem Ext.new {l p : Addr} {H : Hp} {o : HO} (h : H p = none) : Ext l H (upd H p o) := fun c u e _ => by rw [upd_ne (ne_of_none e h)]; exact e
theorem Ext.at {l : Addr} {H : Hp} {o : HO} : Ext l H (upd H l o) := fun c u e n => by rw [upd_ne n]; exact e
theorem Same.new {p : Addr} {H : Hp} {o : HO} (h : H p = none) : Same H (upd H p o) := fun c u e => by rw [upd_ne (ne_of_none e h)]; exact e
def StOk (st : List V) : Prop := (∃ a : Int, st = [V.int a]) ∨ ∃ a b c : Int, st = [V.int a, V.int b, V.int c]
def StAt (H : Hp) (l : Addr) : Prop := ∃ st, H l = some (.lst st) ∧ StOk st
theorem StAt.new {H : Hp} {l p : Addr} {o : HO} (s : StAt H l) (h : H p = none) : StAt (upd H p o) l := by
  obtain ⟨st, e, k⟩ := s
  exact ⟨st, by rw [upd_ne (ne_of_none e h)]; exact e, k⟩
theorem StAt.same {H H' : Hp} {l : Addr} (s : StAt H l) (h : Same H H') : StAt H' l := by
  obtain ⟨st, e, k⟩ := s
  exact ⟨st, h _ _ e, k⟩

/-! ### an expression as the tuple that tells it -/
def Told (H : Hp) : Ex → V → Prop
  | .num i, v => ∃ p, v = .ref p ∧ H p = some (.tup [.str "num", .int i])
  | .name x, v => ∃ p, v = .ref p ∧ H p = some (.tup [.str "name", .str x])
  | .two w e f, v => ∃ p a b, v = .ref p ∧ H p = some (.tup [.str w, a, b]) ∧ Told H e a ∧ Told H f b
  | .mod e n, v => ∃ p a, v = .ref p ∧ H p = some (.tup [.str "mod", a, .int n]) ∧ Told H e a
  | .less e f g h, v => ∃ p a b c d, v = .ref p ∧ H p = some (.tup [.str "less", a, b, c, d]) ∧ Told H e a ∧ Told H f b ∧ Told H g c ∧ Told H h d
theorem Told.mono {H H' : Hp} (k : ∀ b xs, H b = some (.tup xs) → H' b = some (.tup xs)) : ∀ {e : Ex} {v : V}, Told H e v → Told H' e v
  | .num _, _, ⟨p, e, h⟩ => ⟨p, e, k _ _ h⟩
  | .name _, _, ⟨p, e, h⟩ => ⟨p, e, k _ _ h⟩
  | .two _ _ _, _, ⟨p, a, b, e, h, t1, t2⟩ => ⟨p, a, b, e, k _ _ h, t1.mono k, t2.mono k⟩
  | .mod _ _, _, ⟨p, a, e, h, t1⟩ => ⟨p, a, e, k _ _ h, t1.mono k⟩
  | .less _ _ _ _, _, ⟨p, a, b, c, d, e, h, t1, t2, t3, t4⟩ => ⟨p, a, b, c, d, e, k _ _ h, t1.mono k, t2.mono k, t3.mono k, t4.mono k⟩
theorem Told.ext {l : Addr} {H H' : Hp} (s : StAt H l) (k : Ext l H H') {e : Ex} {v : V} (t : Told H e v) : Told H' e v := t.mono fun b xs h => k b _ h fun z => by
  obtain ⟨st, q, _⟩ := s
  rw [z, q] at h
  cases h
theorem Told.same {H H' : Hp} (k : Same H H') {e : Ex} {v : V} (t : Told H e v) : Told H' e v := t.mono fun b xs h => k b _ h
theorem Told.ref {H : Hp} : ∀ {e : Ex} {v : V}, Told H e v → ∃ p xs, v = .ref p ∧ H p = some (.tup xs)
  | .num _, _, ⟨p, e, h⟩ => ⟨p, _, e, h⟩
  | .name _, _, ⟨p, e, h⟩ => ⟨p, _, e, h⟩
  | .two _ _ _, _, ⟨p, a, b, e, h, _⟩ => ⟨p, _, e, h⟩
  | .mod _ _, _, ⟨p, a, e, h, _⟩ => ⟨p, _, e, h⟩
  | .less _ _ _ _, _, ⟨p, a, b, c, d, e, h, _⟩ => ⟨p, _, e, h⟩
theorem eqV_refl {x : V} (h : flatV x = true) : eqV x x = true := by
  cases x <;> simp [flatV] at h <;> simp [eqV]
theorem flat_same {K : PySem.W.Frag} {H : Hp} {x : V} {n : Nat} (h : flatV x = true) : EqD K H x x true n := by
  have := EqD.flat (K := K) (H := H) (n := n) h h
  rw [eqV_refl h] at this
  exact this
theorem tup_same {K : PySem.W.Frag} {H : Hp} {a b : Addr} {xs ys : List V} {n : Nat} (ha : H a = some (.tup xs)) (hb : H b = some (.tup ys)) (hl : xs.length = ys.length) (h : ∀ (j : Nat) x y, xs[j]? = some x → ys[j]? = some y → EqD K H x y true n) : EqD K H (.ref a) (.ref b) true (n + 1) := by
  by_cases hne : a = b
  · subst hne; exact .same
  · have := EqD.tup (K := K) (e := fun _ => true) hne (SqT.of ha) (SqT.of hb) hl h
    have e : ((List.range xs.length).all fun _ => true) = true := by simp
    rw [e] at this
    exact this
/-- told twice, they are equal -/
theorem Told.eqD {K : PySem.W.Frag} {H : Hp} : ∀ {e : Ex} {u v : V}, Told H e u → Told H e v → EqD K H u v true e.dep
  | .num i, _, _, ⟨p, e1, h1⟩, ⟨q, e2, h2⟩ => by
    subst e1 e2
    refine tup_same (n := 0) h1 h2 rfl fun j x y a b => ?_
    rw [a] at b; cases b
    match j, a with
    | 0, a => cases a; exact flat_same rfl
    | 1, a => cases a; exact flat_same rfl
    | _ + 2, a => simp at a
  | .name i, _, _, ⟨p, e1, h1⟩, ⟨q, e2, h2⟩ => by
    subst e1 e2
    refine tup_same (n := 0) h1 h2 rfl fun j x y a b => ?_
    rw [a] at b; cases b
    match j, a with
    | 0, a => cases a; exact flat_same rfl
    | 1, a => cases a; exact flat_same rfl
    | _ + 2, a => simp at a
  | .two w e f, _, _, ⟨p, a1, b1, e1, h1, s1, s2⟩, ⟨q, a2, b2, e2, h2, t1, t2⟩ => by
    subst e1 e2
    refine tup_same h1 h2 rfl fun j x y a b => ?_
    match j, a, b with
    | 0, a, b => cases a; cases b; exact flat_same rfl
    | 1, a, b => cases a; cases b; exact (Told.eqD s1 t1).mono (Nat.le_max_left _ _)
    | 2, a, b => cases a; cases b; exact (Told.eqD s2 t2).mono (Nat.le_max_right _ _)
    | _ + 3, a, b => simp at a
  | .mod e n, _, _, ⟨p, a1, e1, h1, s1⟩, ⟨q, a2, e2, h2, t1⟩ => by
    subst e1 e2
    refine tup_same h1 h2 rfl fun j x y a b => ?_
    match j, a, b with
    | 0, a, b => cases a; cases b; exact flat_same rfl
    | 1, a, b => cases a; cases b; exact Told.eqD s1 t1
    | 2, a, b => cases a; cases b; exact flat_same rfl
    | _ + 3, a, b => simp at a
  | .less e f g h, _, _, ⟨p, a1, b1, c1, d1, e1, h1, s1, s2, s3, s4⟩, ⟨q, a2, b2, c2, d2, e2, h2, t1, t2, t3, t4⟩ => by
    subst e1 e2
    have m1 := Nat.le_max_left (max e.dep f.dep) (max g.dep h.dep)
    have m2 := Nat.le_max_right (max e.dep f.dep) (max g.dep h.dep)
    refine tup_same h1 h2 rfl fun j x y a b => ?_
    match j, a, b with
    | 0, a, b => cases a; cases b; exact flat_same rfl
    | 1, a, b => cases a; cases b; exact (Told.eqD s1 t1).mono (Nat.le_trans (Nat.le_max_left _ _) m1)
    | 2, a, b => cases a; cases b; exact (Told.eqD s2 t2).mono (Nat.le_trans (Nat.le_max_right _ _) m1)
    | 3, a, b => cases a; cases b; exact (Told.eqD s3 t3).mono (Nat.le_trans (Nat.le_max_left _ _) m2)
    | 4, a, b => cases a; cases b; exact (Told.eqD s4 t4).mono (Nat.le_trans (Nat.le_max_right _ _) m2)
    | _ + 5, a, b => simp at a
/-! ### numbers for the names -/
def rho (kvs : List (Key × V)) (x : Str) : Int := match valV kvs (Sum.inr x) with
  | some (.int i) => i
  | _ => 0
def Has (names : List Str) (kvs : List (Key × V)) : Prop := ∀ x ∈ names, ∃ i, valV kvs (Sum.inr x : Key) = some (.int i)
theorem Has.at {names : List Str} {kvs : List (Key × V)} (h : Has names kvs) {x : Str} (hx : x ∈ names) : valV kvs (Sum.inr x : Key) = some (.int (rho kvs x)) := by
  obtain ⟨i, e⟩ := h x hx
  unfold rho
  rw [e]
theorem Same.made {H : Hp} {x dx C : Addr} {fs fs' : List (Str × V)} (nx : H x = none) (ndx : H dx = none) : Same H (upd (upd (upd H dx (.own x)) x (.ins C dx fs')) x (.ins C dx fs)) := fun b o e => by
  rw [upd_ne (ne_of_none e nx), upd_ne (ne_of_none e nx), upd_ne (ne_of_none e ndx)]
  exact e
theorem two_no {w : Str} (h : TwoW w) : decide (V.str w = V.str "num") = false ∧ decide (V.str w = V.str "name") = false ∧ decide (V.str w = V.str "mod") = false ∧ decide (V.str w = V.str "less") = false := by
  rcases h with rfl | rfl | rfl | rfl <;> decide +kernel
theorem log_small {n : Int} (h1 : 1 ≤ n) (h2 : n ≤ 1000000000) : n.natAbs.log2 < 9000 := by
  have h0 : n.natAbs ≠ 0 := by omega
  have := (Nat.log2_lt h0 (k := 30)).mpr (Nat.lt_of_le_of_lt (show n.natAbs ≤ 1000000000 by omega) (by decide))
  omega
theorem mem_putK {κ : Type} [DecidableEq κ] {kvs : List (κ × V)} {k : κ} {v : V} {p : κ × V} (h : p ∈ putK kvs k v) : p ∈ kvs ∨ p.2 = v := by
  unfold putK at h
  split at h
  · obtain ⟨q, hq, e⟩ := List.mem_map.mp h
    split at e
    · rw [← e]; exact .inr rfl
    · rw [← e]; exact .inl hq
  · rcases List.mem_append.mp h with h | h
    · exact .inl h
    · rw [List.mem_singleton.mp h]; exact .inr rfl
theorem nd_put {κ : Type} [DecidableEq κ] {kvs : List (κ × V)} {k : κ} (v : V) (hn : (kvs.map (·.1)).Nodup) : ((putK kvs k v).map (·.1)).Nodup := by
  cases e : valV kvs k with
  | none => exact nd_putK v hn e
  | some u =>
    have q : (kvs.any fun kv => decide (kv.1 = k)) = true := by rw [valV_any, e]; rfl
    unfold putK
    rw [if_pos q, List.map_map]
    have : ((fun x : κ × V => x.1) ∘ fun kv => if kv.1 = k then (kv.1, v) else kv) = fun kv => kv.1 := by
      funext kv
      show (if kv.1 = k then (kv.1, v) else kv).1 = kv.1
      split <;> rfl
    rw [this]
    exact hn
theorem log_lt {n : Int} {m : Nat} (h1 : 0 < n) (h2 : n.natAbs < 2 ^ m) (h3 : m ≤ 9000) : n.natAbs.log2 < 9000 := by
  have h0 : n.natAbs ≠ 0 := by omega
  have := (Nat.log2_lt h0 (k := m)).mpr h2
  omega
/-- an item of three written numbers -/
theorem pick3 {x y z d : Int} (h0 : 0 ≤ d) (h3 : d < 3) : ∃ v, atI [V.int x, V.int y, V.int z] d = some (.int v) ∧ (v = x ∨ v = y ∨ v = z) := by
  have : d = 0 ∨ d = 1 ∨ d = 2 := by omega
  rcases this with rfl | rfl | rfl
  · exact ⟨x, rfl, .inl rfl⟩
  · exact ⟨y, rfl, .inr (.inl rfl)⟩
  · exact ⟨z, rfl, .inr (.inr rfl)⟩
theorem pick2 {x y d : Int} (h0 : 0 ≤ d) (h3 : d < 2) : ∃ v, atI [V.int x, V.int y] d = some (.int v) ∧ (v = x ∨ v = y) := by
  have : d = 0 ∨ d = 1 := by omega
  rcases this with rfl | rfl
  · exact ⟨x, rfl, .inl rfl⟩
  · exact ⟨y, rfl, .inr rfl⟩
theorem pow20 : (10 : Int) ^ (20 : Int).toNat = 100000000000000000000 := by decide
theorem pow9 : (10 : Int) ^ (9 : Int).toNat = 1000000000 := by decide
theorem log_pick {v x y z : Int} (h : v = x ∨ v = y ∨ v = z) (hx : 0 < x ∧ x ≤ 100000000000000000000) (hy : 0 < y ∧ y ≤ 100000000000000000000) (hz : 0 < z ∧ z ≤ 100000000000000000000) : 0 < v ∧ v.natAbs.log2 < 9000 := by
  have hv : 0 < v ∧ v ≤ 100000000000000000000 := by omega
  refine ⟨hv.1, log_lt (m := 67) hv.1 ?_ (by decide)⟩
  have : v.natAbs ≤ 100000000000000000000 := by omega
  exact Nat.lt_of_le_of_lt this (by decide)
theorem pickN {xs : List Str} {d : Int} (h0 : 0 ≤ d) (h1 : d < (xs.map V.str).length) : ∃ x, x ∈ xs ∧ atI (xs.map V.str) d = some (V.str x) := by
  rw [List.length_map] at h1
  have hd : d.toNat < xs.length := by omega
  refine ⟨xs[d.toNat], List.getElem_mem hd, ?_⟩
  unfold atI ixN
  rw [List.length_map, if_pos h0, if_pos h1]
  show (xs.map V.str)[d.toNat]? = _
  simp [hd]
theorem pick4s {d : Int} (h0 : 0 ≤ d) (h4 : d < 4) : ∃ x, TwoW x ∧ atI [V.str "add", V.str "sub", V.str "min", V.str "max"] d = some (V.str x) := by
  have : d = 0 ∨ d = 1 ∨ d = 2 ∨ d = 3 := by omega
  rcases this with rfl | rfl | rfl | rfl
  · exact ⟨"add", .inl rfl, rfl⟩
  · exact ⟨"sub", .inr (.inl rfl), rfl⟩
  · exact ⟨"min", .inr (.inr (.inl rfl)), rfl⟩
  · exact ⟨"max", .inr (.inr (.inr rfl)), rfl⟩
theorem StAt.ne {H : Hp} {l p : Addr} (s : StAt H l) (h : H p = none) : p ≠ l := by
  obtain ⟨st, e, _⟩ := s
  exact (ne_of_none e h).symm
theorem gn_if {i : Nat} {v : V} {τ : St} {H : Hp} {A B : St → Hp → Prop} (h : A (τ.set i (some v)) H) : gName i v τ H fun τ2 H4 => tYes τ2 H4 fun b H5 => if b = true then A τ2 H5 else B τ2 H5 := by
  show if true = true then A (τ.set i (some v)) H else B (τ.set i (some v)) H
  exact iteT h
theorem Told.updL {H : Hp} {D : Addr} {zs : List V} {o : HO} (hD : H D = some (.lst zs)) {e : Ex} {v : V} (t : Told H e v) : Told (upd H D o) e v := t.mono fun b xs h => by
  have hb : b ≠ D := ne_of h hD (by intro z; cases z)
  rw [upd_ne hb]
  exact h
theorem dec_same (x : V) : decide (x = x) = true := by simp
/-- the parts of two tuples that tell one expression -/
theorem Told.items {K : PySem.W.Frag} {H : Hp} {e : Ex} {u v : V} (t1 : Told H e u) (t2 : Told H e v) : ∃ (p q : Addr) (xs ys : List V), u = .ref p ∧ v = .ref q ∧ H p = some (.tup xs) ∧ H q = some (.tup ys) ∧ xs.length = ys.length ∧
    ∀ (j : Nat) x y, xs[j]? = some x → ys[j]? = some y → EqD K H x y true e.dep := by
  cases e with
  | num i =>
    obtain ⟨p, rfl, h1⟩ := t1
    obtain ⟨q, rfl, h2⟩ := t2
    refine ⟨p, q, _, _, rfl, rfl, h1, h2, rfl, fun j x y a b => ?_⟩
    match j, a, b with
    | 0, a, b => cases a; cases b; exact flat_same rfl
    | 1, a, b => cases a; cases b; exact flat_same rfl
    | _ + 2, a, b => simp at a
  | name i =>
    obtain ⟨p, rfl, h1⟩ := t1
    obtain ⟨q, rfl, h2⟩ := t2
    refine ⟨p, q, _, _, rfl, rfl, h1, h2, rfl, fun j x y a b => ?_⟩
    match j, a, b with
    | 0, a, b => cases a; cases b; exact flat_same rfl
    | 1, a, b => cases a; cases b; exact flat_same rfl
    | _ + 2, a, b => simp at a
  | two w e1 e2 =>
    obtain ⟨p, a1, b1, rfl, h1, s1, s2⟩ := t1
    obtain ⟨q, a2, b2, rfl, h2, r1, r2⟩ := t2
    refine ⟨p, q, _, _, rfl, rfl, h1, h2, rfl, fun j x y a b => ?_⟩
    have m1 : e1.dep ≤ (Ex.two w e1 e2).dep := by show _ ≤ max e1.dep e2.dep + 1; omega
    have m2 : e2.dep ≤ (Ex.two w e1 e2).dep := by show _ ≤ max e1.dep e2.dep + 1; omega
    match j, a, b with
    | 0, a, b => cases a; cases b; exact flat_same rfl
    | 1, a, b => cases a; cases b; exact (Told.eqD s1 r1).mono m1
    | 2, a, b => cases a; cases b; exact (Told.eqD s2 r2).mono m2
    | _ + 3, a, b => simp at a
  | mod e1 n =>
    obtain ⟨p, a1, rfl, h1, s1⟩ := t1
    obtain ⟨q, a2, rfl, h2, r1⟩ := t2
    refine ⟨p, q, _, _, rfl, rfl, h1, h2, rfl, fun j x y a b => ?_⟩
    match j, a, b with
    | 0, a, b => cases a; cases b; exact flat_same rfl
    | 1, a, b => cases a; cases b; exact (Told.eqD s1 r1).mono (Nat.le_succ _)
    | 2, a, b => cases a; cases b; exact flat_same rfl
    | _ + 3, a, b => simp at a
  | less e1 e2 e3 e4 =>
    obtain ⟨p, a1, b1, c1, d1, rfl, h1, s1, s2, s3, s4⟩ := t1
    obtain ⟨q, a2, b2, c2, d2, rfl, h2, r1, r2, r3, r4⟩ := t2
    refine ⟨p, q, _, _, rfl, rfl, h1, h2, rfl, fun j x y a b => ?_⟩
    have m : (Ex.less e1 e2 e3 e4).dep = max (max e1.dep e2.dep) (max e3.dep e4.dep) + 1 := rfl
    match j, a, b with
    | 0, a, b => cases a; cases b; exact flat_same rfl
    | 1, a, b => cases a; cases b; exact (Told.eqD s1 r1).mono (by omega)
    | 2, a, b => cases a; cases b; exact (Told.eqD s2 r2).mono (by omega)
    | 3, a, b => cases a; cases b; exact (Told.eqD s3 r3).mono (by omega)
    | 4, a, b => cases a; cases b; exact (Told.eqD s4 r4).mono (by omega)
    | _ + 5, a, b => simp at a
theorem pick4i {d : Int} (h0 : 0 ≤ d) (h4 : d < 4) : ∃ v : Int, atI [V.int 5, V.int 5, V.int 5, V.int 8] d = some (V.int v) ∧ 1 ≤ v ∧ v ≤ 8 := by
  have : d = 0 ∨ d = 1 ∨ d = 2 ∨ d = 3 := by omega
  rcases this with rfl | rfl | rfl | rfl
  · exact ⟨5, rfl, by decide, by decide⟩
  · exact ⟨5, rfl, by decide, by decide⟩
  · exact ⟨5, rfl, by decide, by decide⟩
  · exact ⟨8, rfl, by decide, by decide⟩
theorem cut_ints {ns : List Int} {lo hi : Option Int} {i : Nat} {y : V} (h : (cutV (ns.map V.int) lo hi)[i]? = some y) : ∃ c, y = .int c := by
  have hm := List.mem_of_getElem? h
  unfold cutV at hm
  obtain ⟨c, _, e⟩ := List.mem_map.mp (List.mem_of_mem_drop (List.mem_of_mem_take hm))
  exact ⟨c, e.symm⟩
theorem log_1009 : ((1009 : Int).natAbs.log2 < 9000) := by decide
theorem log_2003 : ((2003 : Int).natAbs.log2 < 9000) := by decide
end K04

/-! BExc -/
set_option Elab.async false
set_option linter.all false
set_option maxRecDepth 100000
set_option maxHeartbeats 4000000
namespace L2
open PySem PySem.Spec PyProof.Rows
/-! ## raise and try -/
section
variable {P : Program} {w : World} {H H' : Hp} {h h' : Heap} {a : Addr} {o : HO}
theorem ObjOk.thr (x : ObjOk P w H h a o) : ∃ u, h.get? a = some u := by
  cases o with
  | lst xs => obtain ⟨_, _, _, _, e⟩ := x; exact ⟨_, e⟩
  | tup xs => obtain ⟨_, _, _, _, e, _⟩ := x; exact ⟨_, e⟩
  | dK kvs => obtain ⟨_, _, _, _, o, _, _, e, _⟩ := x; exact ⟨_, e⟩
  | dT kvs => obtain ⟨_, _, _, _, o, _, _, e, _⟩ := x; exact ⟨_, e⟩
  | set S n => obtain ⟨o, _, _, _, e, _⟩ := x; exact ⟨_, e⟩
  | ins C dx fs => obtain ⟨_, _, _, e, _⟩ := x; exact ⟨_, e⟩
  | own y => obtain ⟨_, e⟩ := x; exact ⟨_, e⟩
  | xd fs => obtain ⟨_, ⟨_, _, _, e, _⟩, _⟩ := x; exact ⟨_, e⟩
  | rng lo hi => obtain ⟨_, _, _, e⟩ := x; exact ⟨_, e⟩
  | frz ob u => obtain ⟨e, _⟩ := x; exact ⟨_, e⟩
  | tbl ps => exact ⟨_, show h.get? a = some _ from x⟩
  | met f y => exact ⟨_, show h.get? a = some _ from x⟩
  | ext φ => obtain ⟨_, ⟨_, e⟩, _⟩ := x; exact ⟨_, e⟩
theorem HOk.thr (x : HOk P w H h) (e : H a = some o) : ∃ u, h.get? a = some u := (x a o e).thr
theorem HOk.untr (x : HOk P w H h) (e : h.get? a = none) : H a = none := by
  cases q : H a with
  | none => rfl
  | some u =>
    obtain ⟨v, hv⟩ := x.thr q
    rw [e] at hv
    cases hv
/-- what is tracked is kept -/
theorem HOk.keptT (x : HOk P w H h) (k : ∀ b u, H b ≠ none → h.get? b = some u → h'.get? b = some u) : HOk P w H h' := fun a o e =>
  (x a o e).stay (fun b u hb q => k b u (by rcases hb with rfl | hb <;> simp_all) q) (fun _ q => q) fun _ _ q => q
end
/-- how the state lies behind a call that raised: ahead H, s; behind H', s'; B: what no frame that passes the exception on changes -/
structure Lies (P : Program) (w : World) (l : List Env) (H : Hp) (s : Shared) (H' : Hp) (s' : Shared) (B : Heap) : Prop where
  os : s'.os = s.os
  bare : AllBare s'.gens
  un : Un (frs l) [] H H' s.heap s'.heap
  hok : HOk P w H' s'.heap
  c1 : ∀ b o, s.heap.get? b = some o → H b = none → b ∉ frs l → B.get? b = some o
  c2 : ∀ b o, H' b ≠ none → s'.heap.get? b = some o → B.get? b = some o
  c3 : ∀ b o, s.heap.get? b = some o → b ∉ frs l → ∃ o', B.get? b = some o'
abbrev CX1 (P : Program) (w : World) : CXT := fun l H s E e s' => ∃ (a : Addr) (cls a0 : Value) (H' : Hp) (B : Heap), e = .ref a ∧ Lies P w l H s H' s' B ∧ Heap.FlyingW B l a cls a0 s'.heap ∧ E cls none H'
section
variable {X : Cx} {pins : List (Addr × Obj)} {σ : St} {H H' : Hp} {s s' : Shared} {B h2 : Heap} {t2 : Nat}
theorem Lies.un2 (I : Inv X pins σ H s) (L : Lies X.prog X.w X.stack H s H' s' B) (st : B.StaysIn h2) (up : s'.heap.UpToSlots h2) : Un (frs X.stack) [] H H' s.heap h2 := by
  have sl : ∀ b o, s.heap.get? b = some o → b ∈ frs X.stack → ∃ z, h2.get? b = some { o with slots := z } := fun b o q hb => by
    obtain ⟨z, e1⟩ := L.un.slot b o q (I.stkFree b hb) hb (by simp)
    obtain ⟨_, o', ho', hd⟩ := I.stack.mem hb
    rw [q] at ho'
    cases ho'
    obtain ⟨z2, e2⟩ := up b _ e1 (fun vs z => hd vs z)
    exact ⟨z2, e2⟩
  refine ⟨fun b o q n hb _ => st b o (L.c1 b o q n hb), fun b o q _ hb _ => sl b o q hb, fun b o q n hx => L.un.free b o q n hx, fun b o q _ => ?_, L.un.tups, L.un.frzs, L.un.tbls⟩
  by_cases hb : b ∈ frs X.stack
  · obtain ⟨z, e⟩ := sl b o q hb
    exact ⟨_, e⟩
  · obtain ⟨o', e⟩ := L.c3 b o q hb
    exact ⟨o', st b o' e⟩
theorem Lies.ok2 {l : List Env} {P : Program} {w : World} (L : Lies P w l H s H' s' B) (st : B.StaysIn h2) : HOk P w H' h2 := L.hok.keptT fun b u hb q => st b u (L.c2 b u hb q)
/-- the exception has come to this frame: the frame stands as ahead of the call -/
theorem Lies.inv (I : Inv X pins σ H s) (L : Lies X.prog X.w X.stack H s H' s' B) (st : B.StaysIn h2) (up : s'.heap.UpToSlots h2) : Inv X pins σ H' { s' with heap := h2, toks := t2 } := by
  refine I.call' (s' := { s' with heap := h2, toks := t2 }) (ch := []) L.os (L.un2 I st up) (L.ok2 st) L.bare (fun b z => absurd z (by simp))
/-- what lies ahead of the frame's own call -/
theorem Lies.out (I : Inv X pins σ H s) (L : Lies X.prog X.w X.stack H s H' s' B) (st : B.StaysIn h2) (up : s'.heap.UpToSlots h2) (hx : X.ex = []) : Lies X.prog X.w X.outer X.H₀ X.s₀ H' { s' with heap := h2 } B := by
  have J := Lies.inv (t2 := s'.toks) I L st up
  have ns : ∀ b o, X.s₀.heap.get? b = some o → b ∉ frs X.outer → b ∉ frs X.stack := fun b o q hb z => by
    rcases List.mem_cons.mp (I.stkSub b z) with e | e
    · exact absurd (Nat.lt_of_lt_of_le (Heap.lt_size q) I.ok.above) (by rw [e]; exact Nat.lt_irrefl _)
    · exact hb e
  have hn : ∀ b : Addr, b ∉ X.ex := fun b => by rw [hx]; simp
  refine ⟨J.os, J.bare, ?_, J.hok, fun b o q n hb => ?_, fun b o hb q => ?_, fun b o q hb => ?_⟩
  · have := J.base
    rw [hx] at this
    exact this
  · exact L.c1 b o (I.base.keep b o q n hb (hn b)) (I.base.free b o q n (hn b)) (ns b o q hb)
  · cases e : H' b with
    | none => exact absurd e hb
    | some u =>
      obtain ⟨v, hv⟩ := L.hok.thr e
      have z := L.c2 b v hb hv
      have q' : h2.get? b = some o := q
      rw [st b v z] at q'
      cases q'
      exact z
  · obtain ⟨o', e⟩ := I.base.there b o q (hn b)
    exact L.c3 b o' e (ns b o q hb)
/-- a new object (an exception's) has been laid at this frame -/
theorem lies_new (I : Inv X pins σ H s) (k : ∀ b u, s.heap.get? b = some u → h2.get? b = some u) : Lies X.prog X.w X.stack H s H { s with heap := h2 } (PySem.W.hideAll s.heap (frs X.stack)) := by
  refine ⟨rfl, I.bare, Un.kept k, I.hok.kept k, fun b o q _ hb => PySem.W.hideAll_get _ q hb, fun b o hb q => ?_, fun b o q hb => ⟨o, PySem.W.hideAll_get _ q hb⟩⟩
  cases e : H b with
  | none => exact absurd e hb
  | some u =>
    obtain ⟨v, hv⟩ := I.hok.thr e
    have q' : h2.get? b = some o := q
    rw [k b v hv] at q'
    cases q'
    exact PySem.W.hideAll_get _ hv fun z => hb (I.stkFree b z)
end
section
variable {P : Program} {w : World} {K : PySem.W.Frag} {mg : Str → Option Value} {base : Heap} {N : List Str} {qual : Str} {scope : Scope} {f : Addr} {cd : Value} {A : Around} {outer : List Env} {s0 : Shared} {H0 : Hp} {E : XK}
/-- a callee's exception leaves this def, too -/
theorem pass1 : Passes (CX1 P w) (cxOf (CX1 P w) P w K mg base N qual scope f cd A outer s0 H0 E) E := by
  rintro pins σ H s e s' I ⟨a, cls, a0, H', B, rfl, L, F, q⟩
  have hfr := I.ok.frames
  refine wpAny_leaves_onW (M := model P w) (A := A.deeper (envOfC qual scope s0.heap.objs.size f cd)) (outer := outer) (L := s0.heap.objs.size) hfr rfl F fun h2 F2 up => ?_
  exact ⟨a, cls, a0, H', B, rfl, L.out I F2.1 up rfl, F2, q⟩
/-- an exception made here leaves this def -/
theorem leave1 {pins : List (Addr × Obj)} {σ : St} {H : Hp} {s : Shared} {h' : Heap} {e : Addr} {cls : Value} {args : List Value} (I : Inv (cxOf (CX1 P w) P w K mg base N qual scope f cd A outer s0 H0 E) pins σ H s)
    (hx : Heap.MadeExcOf s.heap h' e cls args) (q : E cls none H) : (cxOf (CX1 P w) P w K mg base N qual scope f cd A outer s0 H0 E).xe (.ref e) { s with heap := h' } := by
  have hfr := I.ok.frames
  have L := lies_new I hx.keeps
  refine wpAny_leaves_madeW (M := model P w) (A := A.deeper (envOfC qual scope s0.heap.objs.size f cd)) (s := { s with heap := h' }) (outer := outer) (L := s0.heap.objs.size) (base := PySem.W.hideAll s.heap (frs (envOfC qual scope s0.heap.objs.size f cd :: outer))) hfr rfl (fun b o q => PySem.W.of_hideAll _ q)
    (PySem.W.funFrames_hide I.stack fun env he b hb => List.mem_filterMap.mpr ⟨env, he, hb⟩) hx fun h2 t F2 _ _ up => ?_
  exact ⟨e, cls, .ref t, H, _, rfl, L.out I F2.1 up rfl, F2, q⟩
end
end L2

/-! SortTot -/
set_option Elab.async false
set_option linter.all false
set_option maxRecDepth 100000
set_option maxHeartbeats 4000000
namespace L2
namespace Srt
open PySem PyProof.Rows
/-! ### sorted of any items, whose comparing changes nothing: it ends, and its items are those of before -/
def gallop' : Bool → Keyed → Array Keyed → Nat → Nat → Nat → StateT SortSt Sem (Option Nat) := sortPriv% PySem.Builtin.gallop
def mergeLo' : Array Keyed → Array Keyed → StateT SortSt Sem (Array Keyed) := sortPriv% PySem.Builtin.mergeLo
def mergeHi' : Array Keyed → Array Keyed → StateT SortSt Sem (Array Keyed) := sortPriv% PySem.Builtin.mergeHi
def setMin' : Nat → StateT SortSt Sem Unit := sortPriv% PySem.Builtin.setMinGallop
def beyond' (left : Bool) (key : Keyed) (arr : Array Keyed) (base i : Nat) : StateT SortSt Sem (Option Bool) :=
  elem' arr (base + i) >>= fun x => if left = true then lt' x key else lt' key x >>= fun o => pure (o.map fun b => !b)
section
variable {prog : Program} {w : World} {A : Around} {E : Value → Shared → Prop} {s : Shared} {it : List Keyed} {κ : SortKind}
def Cmp (prog : Program) (w : World) (A : Around) (s : Shared) (it : List Keyed) (κ : SortKind) : Prop :=
  ∀ x ∈ it, ∀ y ∈ it, ∀ (Q : Bool → Shared → Prop) (E : Value → Shared → Prop), (∀ b, Q b s) → wpAny (model prog w) A (keyLt' κ x.1 y.1) Q E s
theorem t_lt (C : Cmp prog w A s it κ) {st : SortSt} (hk : kindOf st = κ) {x y : Keyed} (hx : x ∈ it) (hy : y ∈ it) {Q : Option Bool → SortSt → Prop} (h : ∀ b, Q (some b) st) : wpS (model prog w) A E s (lt' x y) Q st := by
  rw [lt'_eq]
  refine wpS_bind (wpS_get ?_)
  rw [hk]
  refine wpS_bind (wpS_lift (wpAny_attempt (C x hx y hy _ _ fun b => ⟨rfl, ?_⟩)))
  exact wpS_pure (h b)
theorem t_elem {st : SortSt} {arr : Array Keyed} {i : Nat} (hi : i < arr.size) {Q : Keyed → SortSt → Prop} (h : Q arr[i] st) : wpS (model prog w) A E s (elem' arr i) Q st := by
  rw [elem'_eq, getElem?_pos arr i hi]
  exact wpS_pure h
theorem t_beyond (C : Cmp prog w A s it κ) {st : SortSt} (hk : kindOf st = κ) {left : Bool} {key : Keyed} {arr : Array Keyed} {base i : Nat} (hkey : key ∈ it) (harr : ∀ x ∈ arr, x ∈ it) (hi : base + i < arr.size)
    {Q : Option Bool → SortSt → Prop} (h : ∀ b, Q (some b) st) : wpS (model prog w) A E s (beyond' left key arr base i) Q st := by
  unfold beyond'
  refine wpS_bind (t_elem hi ?_)
  have hx : arr[base + i] ∈ it := harr _ (Array.getElem_mem hi)
  cases left with
  | true => exact t_lt C hk hx hkey h
  | false =>
    refine wpS_bind (t_lt C hk hkey hx fun b => ?_)
    exact wpS_pure (h (!b))
theorem t_gallop (C : Cmp prog w A s it κ) {st : SortSt} (hk : kindOf st = κ) {left : Bool} {key : Keyed} {arr : Array Keyed} {base n hint : Nat} (hkey : key ∈ it) (harr : ∀ x ∈ arr, x ∈ it) (hb : base + n ≤ arr.size) (hh : hint < n)
    {Q : Option Nat → SortSt → Prop} (h : ∀ k, k ≤ n → Q (some k) st) : wpS (model prog w) A E s (gallop' left key arr base n hint) Q st := by
  refine wpS_bind (t_beyond C hk hkey harr (by omega) fun rt => ?_)
  cases rt with
  | true =>
    simp only [if_true]
    refine wpS_bind (wpS_mono (wpS_forRange (I := fun _ c st' => st' = st ∧ ∃ a b, c = (none, a, b)) (Q := fun c st' => st' = st ∧ ∃ a b, c = (none, a, b)) ?_ ?_ ⟨rfl, _, _, rfl⟩) ?_)
    · rintro i c st' _ hi ⟨rfl, a, b, rfl⟩
      dsimp only
      by_cases q : b ≥ n - hint
      · rw [if_pos q]
        exact wpS_pure ⟨rfl, _, _, rfl⟩
      · rw [if_neg q]
        refine wpS_bind (t_beyond C hk hkey harr (by omega) fun mo => ?_)
        cases mo with
        | true => exact wpS_pure ⟨rfl, _, _, rfl⟩
        | false => exact wpS_pure ⟨rfl, _, _, rfl⟩
    · exact fun c st' h => h
    · rintro c st' ⟨rfl, a, b, rfl⟩
      dsimp only
      refine wpS_bind (wpS_mono (wpS_forRange (I := fun _ c st'' => st'' = st' ∧ ∃ a b, c = (none, a, b) ∧ b ≤ n) (Q := fun c st'' => st'' = st' ∧ ∃ a b, c = (none, a, b) ∧ b ≤ n) ?_ ?_ ⟨rfl, _, _, rfl, by omega⟩) ?_)
      · rintro i c st'' _ _ ⟨rfl, a, b, rfl, ha⟩
        dsimp only
        by_cases q : a ≥ b
        · rw [if_pos q]
          exact wpS_pure ⟨rfl, a, b, rfl, ha⟩
        · rw [if_neg q]
          refine wpS_bind (t_beyond C hk hkey harr (by omega) fun mo => ?_)
          cases mo with
          | true => exact wpS_pure ⟨rfl, _, _, rfl, ha⟩
          | false => exact wpS_pure ⟨rfl, _, _, rfl, by omega⟩
      · exact fun c st'' h => h
      · rintro c st'' ⟨rfl, a, b, rfl, ha⟩
        exact wpS_pure (h b ha)
  | false =>
    simp only [Bool.false_eq_true, if_false]
    refine wpS_bind (wpS_mono (wpS_forRange (I := fun _ c st' => st' = st ∧ ∃ a b, c = (none, a, b)) (Q := fun c st' => st' = st ∧ ∃ a b, c = (none, a, b)) ?_ ?_ ⟨rfl, _, _, rfl⟩) ?_)
    · rintro i c st' _ hi ⟨rfl, a, b, rfl⟩
      dsimp only
      by_cases q : b ≥ hint + 1
      · rw [if_pos q]
        exact wpS_pure ⟨rfl, _, _, rfl⟩
      · rw [if_neg q]
        refine wpS_bind (t_beyond C hk hkey harr (by omega) fun mo => ?_)
        cases mo with
        | true => exact wpS_pure ⟨rfl, _, _, rfl⟩
        | false => exact wpS_pure ⟨rfl, _, _, rfl⟩
    · exact fun c st' h => h
    · rintro c st' ⟨rfl, a, b, rfl⟩
      dsimp only
      refine wpS_bind (wpS_mono (wpS_forRange (I := fun _ c st'' => st'' = st' ∧ ∃ a b, c = (none, a, b) ∧ b ≤ n) (Q := fun c st'' => st'' = st' ∧ ∃ a b, c = (none, a, b) ∧ b ≤ n) ?_ ?_ ⟨rfl, _, _, rfl, by omega⟩) ?_)
      · rintro i c st'' _ _ ⟨rfl, a, b, rfl, ha⟩
        dsimp only
        by_cases q : a ≥ b
        · rw [if_pos q]
          exact wpS_pure ⟨rfl, a, b, rfl, ha⟩
        · rw [if_neg q]
          refine wpS_bind (t_beyond C hk hkey harr (by omega) fun mo => ?_)
          cases mo with
          | true => exact wpS_pure ⟨rfl, _, _, rfl, ha⟩
          | false => exact wpS_pure ⟨rfl, _, _, rfl, by omega⟩
      · exact fun c st'' h => h
      · rintro c st'' ⟨rfl, a, b, rfl, ha⟩
        exact wpS_pure (h b ha)
/-- what a merge leaves as it was -/
structure Eqv (st st' : SortSt) : Prop where
  k : kindOf st' = kindOf st
  a : arrOf st' = arrOf st
  p : pendingOf st' = pendingOf st
  f : failedOf st' = failedOf st
theorem Eqv.refl (st : SortSt) : Eqv st st := ⟨rfl, rfl, rfl, rfl⟩
theorem t_setMin {st st' : SortSt} (e : Eqv st st') {g : Nat} {Q : Unit → SortSt → Prop} (h : ∀ st'', Eqv st st'' → Q () st'') : wpS (model prog w) A E s (setMin' g) Q st' := wpS_modify (h _ ⟨e.k, e.a, e.p, e.f⟩)
def In (it : List Keyed) (o : Array Keyed) : Prop := ∀ x ∈ o, x ∈ it
theorem In.push {o : Array Keyed} {x : Keyed} (h : In it o) (hx : x ∈ it) : In it (o.push x) := fun y hy => by
  rcases Array.mem_push.mp hy with q | q
  · exact h y q
  · rw [q]; exact hx
theorem In.app {o p : Array Keyed} (h : In it o) (k : In it p) : In it (o ++ p) := fun y hy => by
  rcases Array.mem_append.mp hy with q | q
  · exact h y q
  · exact k y q
theorem In.ext {o : Array Keyed} {i j : Nat} (h : In it o) : In it (o.extract i j) := fun y hy => by
  have hy : y ∈ (o.extract i j).toList := Array.mem_def.mp hy
  rw [Array.toList_extract, List.extract_eq_drop_take] at hy
  exact h y (Array.mem_def.mpr (List.mem_of_mem_drop (List.mem_of_mem_take hy)))
theorem In.rev {o : Array Keyed} (h : In it o) : In it o.reverse := fun y hy => h y (Array.mem_reverse.mp hy)
theorem In.at {o : Array Keyed} {i : Nat} (h : In it o) (hi : i < o.size) : o[i] ∈ it := h _ (Array.getElem_mem hi)
theorem In.one {x : Keyed} (h : x ∈ it) : In it #[x] := fun y hy => by
  simp at hy
  rw [hy]; exact h
/-- the loops of mergeLo: an end with an array, or a place behind which both have items left -/
def LoP (it : List Keyed) (a b : Array Keyed) (m : Nat) (r : Option (Array Keyed)) (o : Array Keyed) (x y : Nat) : Prop :=
  match r with
  | some o => In it o
  | none => In it o ∧ x + 1 < a.size ∧ y < b.size ∧ m ≤ x + y
theorem t_mergeLo (C : Cmp prog w A s it κ) {st : SortSt} (hk : kindOf st = κ) {a b : Array Keyed} (ha : In it a) (hb : In it b) (za : 1 ≤ a.size) (zb : 1 ≤ b.size)
    {Q : Array Keyed → SortSt → Prop} (h : ∀ o st', In it o → Eqv st st' → Q o st') : wpS (model prog w) A E s (mergeLo' a b) Q st := by
  refine wpS_bind (wpS_lift (wpAny_rule ⟨rfl, ?_⟩))
  refine wpS_bind (t_elem (by omega) ?_)
  have b0 := In.one (hb.at (i := 0) (by omega))
  dsimp only
  by_cases q1 : (1 == b.size) = true
  · rw [if_pos q1]
    exact wpS_pure (h _ _ ((b0.app ha.ext).app hb.ext) (Eqv.refl st))
  rw [if_neg q1]
  by_cases q2 : (0 + 1 == a.size) = true
  · rw [if_pos q2]
    exact wpS_pure (h _ _ ((b0.app hb.ext).app ha.ext) (Eqv.refl st))
  rw [if_neg q2]
  have q1 : 1 ≠ b.size := fun z => q1 (by simp [z])
  have q2 : 1 ≠ a.size := fun z => q2 (by simp [z])
  refine wpS_bind (wpS_get ?_)
  refine wpS_bind (wpS_mono (wpS_forRange (I := fun i c st' => Eqv st st' ∧ ∃ o x y mg, c = (none, o, x, y, mg) ∧ In it o ∧ x + 1 < a.size ∧ y < b.size ∧ i ≤ x + y) (Q := fun c st' => Eqv st st' ∧ ∃ r o x y mg, c = (some r, o, x, y, mg) ∧ In it r) ?_ ?_ ⟨Eqv.refl st, _, _, _, _, rfl, b0, by omega, by omega, by omega⟩) ?_)
  · rintro i c st1 _ hi ⟨ev, o, x, y, mg, rfl, ho, hx, hy, hm⟩
    dsimp only
    refine wpS_bind (wpS_mono (wpS_forRange (I := fun j c st' => Eqv st st' ∧ ∃ o x y ca cb, c = (none, o, x, y, ca, cb) ∧ In it o ∧ x + 1 < a.size ∧ y < b.size ∧ i + j ≤ x + y) (Q := fun c st' => Eqv st st' ∧ ∃ r o x y ca cb, c = (r, o, x, y, ca, cb) ∧ LoP it a b (i + 1) r o x y) ?_ ?_ ⟨ev, _, _, _, _, _, rfl, ho, hx, hy, hm⟩) ?_)
    · rintro j c st2 _ hj ⟨ev, o, x, y, ca, cb, rfl, ho, hx, hy, hm⟩
      dsimp only
      have hx0 := ha.at (i := x) (by omega)
      have hy0 := hb.at hy
      refine wpS_bind (t_elem hy (wpS_bind (t_elem (by omega) (wpS_bind (t_lt C (ev.k.trans hk) hy0 hx0 fun bw => ?_)))))
      cases bw with
      | true =>
        simp only [if_true]
        refine wpS_bind (t_elem hy ?_)
        have ho' := ho.push hy0
        by_cases q3 : (y + 1 == b.size) = true
        · rw [if_pos q3]
          exact wpS_pure ⟨ev, _, _, _, _, _, _, rfl, (ho'.app ha.ext).app hb.ext⟩
        · rw [if_neg q3]
          have q3 : y + 1 ≠ b.size := fun z => q3 (by simp [z])
          by_cases q4 : cb + 1 ≥ mg
          · rw [if_pos q4]
            exact wpS_pure ⟨ev, _, _, _, _, _, _, rfl, ho', hx, by omega, by omega⟩
          · rw [if_neg q4]
            exact wpS_pure ⟨ev, _, _, _, _, _, rfl, ho', hx, by omega, by omega⟩
      | false =>
        simp only [Bool.false_eq_true, if_false]
        refine wpS_bind (t_elem (by omega) ?_)
        have ho' := ho.push hx0
        by_cases q3 : (x + 1 + 1 == a.size) = true
        · rw [if_pos q3]
          exact wpS_pure ⟨ev, _, _, _, _, _, _, rfl, (ho'.app hb.ext).app ha.ext⟩
        · rw [if_neg q3]
          have q3 : x + 1 + 1 ≠ a.size := fun z => q3 (by simp [z])
          by_cases q4 : ca + 1 ≥ mg
          · rw [if_pos q4]
            exact wpS_pure ⟨ev, _, _, _, _, _, _, rfl, ho', by omega, hy, by omega⟩
          · rw [if_neg q4]
            exact wpS_pure ⟨ev, _, _, _, _, _, rfl, ho', by omega, hy, by omega⟩
    · rintro c st2 ⟨ev, o, x, y, ca, cb, rfl, ho, hx, hy, hm⟩
      exact ⟨ev, _, _, _, _, _, _, rfl, ho, hx, hy, by omega⟩
    · rintro c st2 ⟨ev, r, o, x, y, ca, cb, rfl, hp⟩
      dsimp only
      cases r with
      | some r => exact wpS_pure ⟨ev, _, _, _, _, _, rfl, hp⟩
      | none =>
        obtain ⟨ho, hx, hy, hm⟩ := hp
        refine wpS_bind (wpS_lift (wpAny_rule ⟨rfl, ?_⟩))
        refine wpS_bind (wpS_mono (wpS_forRange (I := fun _ c st' => Eqv st st' ∧ ∃ o x y mg ca cb, c = (none, o, x, y, mg, ca, cb) ∧ In it o ∧ x + 1 < a.size ∧ y < b.size ∧ i + 1 ≤ x + y) (Q := fun c st' => Eqv st st' ∧ ∃ r o x y mg ca cb, c = (r, o, x, y, mg, ca, cb) ∧ LoP it a b (i + 1) r o x y) ?_ ?_ ⟨ev, _, _, _, _, _, _, rfl, ho, hx, hy, hm⟩) ?_)
        · rintro j c st3 _ hj ⟨ev, o, x, y, mg, ca, cb, rfl, ho, hx, hy, hm⟩
          dsimp only
          by_cases qm : mg > 1
          · rw [if_pos qm]
            refine wpS_bind (t_setMin ev fun st4 ev4 => ?_)
            refine wpS_bind (t_elem hy ?_)
            refine wpS_bind (t_gallop C (ev4.k.trans hk) (hb.at hy) ha (by omega) (by omega) fun k hk1 => ?_)
            dsimp only
            by_cases qk : k > 0
            · rw [if_pos qk]
              have ho1 := ho.app (ha.ext (i := x) (j := x + k))
              by_cases qa : (x + k + 1 == a.size) = true
              · rw [if_pos qa]
                exact wpS_pure ⟨ev4, _, _, _, _, _, _, _, rfl, (ho1.app hb.ext).app ha.ext⟩
              rw [if_neg qa]
              have qa : x + k + 1 ≠ a.size := fun z => qa (by simp [z])
              by_cases qb : (x + k == a.size) = true
              · rw [if_pos qb]
                exact wpS_pure ⟨ev4, _, _, _, _, _, _, _, rfl, (ho1.app ha.ext).app hb.ext⟩
              rw [if_neg qb]
              have qb : x + k ≠ a.size := fun z => qb (by simp [z])
              refine wpS_bind (t_elem hy ?_)
              have ho2 := ho1.push (hb.at hy)
              by_cases qc : (y + 1 == b.size) = true
              · rw [if_pos qc]
                exact wpS_pure ⟨ev4, _, _, _, _, _, _, _, rfl, (ho2.app ha.ext).app hb.ext⟩
              rw [if_neg qc]
              have qc : y + 1 ≠ b.size := fun z => qc (by simp [z])
              refine wpS_bind (t_elem (by omega) ?_)
              refine wpS_bind (t_gallop C (ev4.k.trans hk) (ha.at (i := x + k) (by omega)) hb (by omega) (by omega) fun k2 hk2 => ?_)
              dsimp only
              by_cases qk2 : k2 > 0
              · rw [if_pos qk2]
                have ho3 := ho2.app (hb.ext (i := y + 1) (j := y + 1 + k2))
                by_cases qd : (y + 1 + k2 == b.size) = true
                · rw [if_pos qd]
                  exact wpS_pure ⟨ev4, _, _, _, _, _, _, _, rfl, (ho3.app ha.ext).app hb.ext⟩
                rw [if_neg qd]
                have qd : y + 1 + k2 ≠ b.size := fun z => qd (by simp [z])
                refine wpS_bind (t_elem (by omega) ?_)
                have ho4 := ho3.push (ha.at (i := x + k) (by omega))
                by_cases qe : (x + k + 1 + 1 == a.size) = true
                · rw [if_pos qe]
                  exact wpS_pure ⟨ev4, _, _, _, _, _, _, _, rfl, (ho4.app hb.ext).app ha.ext⟩
                rw [if_neg qe]
                have qe : x + k + 1 + 1 ≠ a.size := fun z => qe (by simp [z])
                split
                · exact wpS_pure ⟨ev4, _, _, _, _, _, _, _, rfl, ho4, by omega, by omega, by omega⟩
                · exact wpS_pure ⟨ev4, _, _, _, _, _, _, rfl, ho4, by omega, by omega, by omega⟩
              · rw [if_neg qk2]
                refine wpS_bind (t_elem (by omega) ?_)
                have ho4 := ho2.push (ha.at (i := x + k) (by omega))
                by_cases qe : (x + k + 1 + 1 == a.size) = true
                · rw [if_pos qe]
                  exact wpS_pure ⟨ev4, _, _, _, _, _, _, _, rfl, (ho4.app hb.ext).app ha.ext⟩
                rw [if_neg qe]
                have qe : x + k + 1 + 1 ≠ a.size := fun z => qe (by simp [z])
                split
                · exact wpS_pure ⟨ev4, _, _, _, _, _, _, _, rfl, ho4, by omega, by omega, by omega⟩
                · exact wpS_pure ⟨ev4, _, _, _, _, _, _, rfl, ho4, by omega, by omega, by omega⟩
            · rw [if_neg qk]
              refine wpS_bind (t_elem hy ?_)
              have ho2 := ho.push (hb.at hy)
              by_cases qc : (y + 1 == b.size) = true
              · rw [if_pos qc]
                exact wpS_pure ⟨ev4, _, _, _, _, _, _, _, rfl, (ho2.app ha.ext).app hb.ext⟩
              rw [if_neg qc]
              have qc : y + 1 ≠ b.size := fun z => qc (by simp [z])
              refine wpS_bind (t_elem (by omega) ?_)
              refine wpS_bind (t_gallop C (ev4.k.trans hk) (ha.at (i := x) (by omega)) hb (by omega) (by omega) fun k2 hk2 => ?_)
              dsimp only
              by_cases qk2 : k2 > 0
              · rw [if_pos qk2]
                have ho3 := ho2.app (hb.ext (i := y + 1) (j := y + 1 + k2))
                by_cases qd : (y + 1 + k2 == b.size) = true
                · rw [if_pos qd]
                  exact wpS_pure ⟨ev4, _, _, _, _, _, _, _, rfl, (ho3.app ha.ext).app hb.ext⟩
                rw [if_neg qd]
                have qd : y + 1 + k2 ≠ b.size := fun z => qd (by simp [z])
                refine wpS_bind (t_elem (by omega) ?_)
                have ho4 := ho3.push (ha.at (i := x) (by omega))
                by_cases qe : (x + 1 + 1 == a.size) = true
                · rw [if_pos qe]
                  exact wpS_pure ⟨ev4, _, _, _, _, _, _, _, rfl, (ho4.app hb.ext).app ha.ext⟩
                rw [if_neg qe]
                have qe : x + 1 + 1 ≠ a.size := fun z => qe (by simp [z])
                split
                · exact wpS_pure ⟨ev4, _, _, _, _, _, _, _, rfl, ho4, by omega, by omega, by omega⟩
                · exact wpS_pure ⟨ev4, _, _, _, _, _, _, rfl, ho4, by omega, by omega, by omega⟩
              · rw [if_neg qk2]
                refine wpS_bind (t_elem (by omega) ?_)
                have ho4 := ho2.push (ha.at (i := x) (by omega))
                by_cases qe : (x + 1 + 1 == a.size) = true
                · rw [if_pos qe]
                  exact wpS_pure ⟨ev4, _, _, _, _, _, _, _, rfl, (ho4.app hb.ext).app ha.ext⟩
                rw [if_neg qe]
                have qe : x + 1 + 1 ≠ a.size := fun z => qe (by simp [z])
                split
                · exact wpS_pure ⟨ev4, _, _, _, _, _, _, _, rfl, ho4, by omega, by omega, by omega⟩
                · exact wpS_pure ⟨ev4, _, _, _, _, _, _, rfl, ho4, by omega, by omega, by omega⟩
          · rw [if_neg qm]
            refine wpS_bind (t_setMin ev fun st4 ev4 => ?_)
            refine wpS_bind (t_elem hy ?_)
            refine wpS_bind (t_gallop C (ev4.k.trans hk) (hb.at hy) ha (by omega) (by omega) fun k hk1 => ?_)
            dsimp only
            by_cases qk : k > 0
            · rw [if_pos qk]
              have ho1 := ho.app (ha.ext (i := x) (j := x + k))
              by_cases qa : (x + k + 1 == a.size) = true
              · rw [if_pos qa]
                exact wpS_pure ⟨ev4, _, _, _, _, _, _, _, rfl, (ho1.app hb.ext).app ha.ext⟩
              rw [if_neg qa]
              have qa : x + k + 1 ≠ a.size := fun z => qa (by simp [z])
              by_cases qb : (x + k == a.size) = true
              · rw [if_pos qb]
                exact wpS_pure ⟨ev4, _, _, _, _, _, _, _, rfl, (ho1.app ha.ext).app hb.ext⟩
              rw [if_neg qb]
              have qb : x + k ≠ a.size := fun z => qb (by simp [z])
              refine wpS_bind (t_elem hy ?_)
              have ho2 := ho1.push (hb.at hy)
              by_cases qc : (y + 1 == b.size) = true
              · rw [if_pos qc]
                exact wpS_pure ⟨ev4, _, _, _, _, _, _, _, rfl, (ho2.app ha.ext).app hb.ext⟩
              rw [if_neg qc]
              have qc : y + 1 ≠ b.size := fun z => qc (by simp [z])
              refine wpS_bind (t_elem (by omega) ?_)
              refine wpS_bind (t_gallop C (ev4.k.trans hk) (ha.at (i := x + k) (by omega)) hb (by omega) (by omega) fun k2 hk2 => ?_)
              dsimp only
              by_cases qk2 : k2 > 0
              · rw [if_pos qk2]
                have ho3 := ho2.app (hb.ext (i := y + 1) (j := y + 1 + k2))
                by_cases qd : (y + 1 + k2 == b.size) = true
                · rw [if_pos qd]
                  exact wpS_pure ⟨ev4, _, _, _, _, _, _, _, rfl, (ho3.app ha.ext).app hb.ext⟩
                rw [if_neg qd]
                have qd : y + 1 + k2 ≠ b.size := fun z => qd (by simp [z])
                refine wpS_bind (t_elem (by omega) ?_)
                have ho4 := ho3.push (ha.at (i := x + k) (by omega))
                by_cases qe : (x + k + 1 + 1 == a.size) = true
                · rw [if_pos qe]
                  exact wpS_pure ⟨ev4, _, _, _, _, _, _, _, rfl, (ho4.app hb.ext).app ha.ext⟩
                rw [if_neg qe]
                have qe : x + k + 1 + 1 ≠ a.size := fun z => qe (by simp [z])
                split
                · exact wpS_pure ⟨ev4, _, _, _, _, _, _, _, rfl, ho4, by omega, by omega, by omega⟩
                · exact wpS_pure ⟨ev4, _, _, _, _, _, _, rfl, ho4, by omega, by omega, by omega⟩
              · rw [if_neg qk2]
                refine wpS_bind (t_elem (by omega) ?_)
                have ho4 := ho2.push (ha.at (i := x + k) (by omega))
                by_cases qe : (x + k + 1 + 1 == a.size) = true
                · rw [if_pos qe]
                  exact wpS_pure ⟨ev4, _, _, _, _, _, _, _, rfl, (ho4.app hb.ext).app ha.ext⟩
                rw [if_neg qe]
                have qe : x + k + 1 + 1 ≠ a.size := fun z => qe (by simp [z])
                split
                · exact wpS_pure ⟨ev4, _, _, _, _, _, _, _, rfl, ho4, by omega, by omega, by omega⟩
                · exact wpS_pure ⟨ev4, _, _, _, _, _, _, rfl, ho4, by omega, by omega, by omega⟩
            · rw [if_neg qk]
              refine wpS_bind (t_elem hy ?_)
              have ho2 := ho.push (hb.at hy)
              by_cases qc : (y + 1 == b.size) = true
              · rw [if_pos qc]
                exact wpS_pure ⟨ev4, _, _, _, _, _, _, _, rfl, (ho2.app ha.ext).app hb.ext⟩
              rw [if_neg qc]
              have qc : y + 1 ≠ b.size := fun z => qc (by simp [z])
              refine wpS_bind (t_elem (by omega) ?_)
              refine wpS_bind (t_gallop C (ev4.k.trans hk) (ha.at (i := x) (by omega)) hb (by omega) (by omega) fun k2 hk2 => ?_)
              dsimp only
              by_cases qk2 : k2 > 0
              · rw [if_pos qk2]
                have ho3 := ho2.app (hb.ext (i := y + 1) (j := y + 1 + k2))
                by_cases qd : (y + 1 + k2 == b.size) = true
                · rw [if_pos qd]
                  exact wpS_pure ⟨ev4, _, _, _, _, _, _, _, rfl, (ho3.app ha.ext).app hb.ext⟩
                rw [if_neg qd]
                have qd : y + 1 + k2 ≠ b.size := fun z => qd (by simp [z])
                refine wpS_bind (t_elem (by omega) ?_)
                have ho4 := ho3.push (ha.at (i := x) (by omega))
                by_cases qe : (x + 1 + 1 == a.size) = true
                · rw [if_pos qe]
                  exact wpS_pure ⟨ev4, _, _, _, _, _, _, _, rfl, (ho4.app hb.ext).app ha.ext⟩
                rw [if_neg qe]
                have qe : x + 1 + 1 ≠ a.size := fun z => qe (by simp [z])
                split
                · exact wpS_pure ⟨ev4, _, _, _, _, _, _, _, rfl, ho4, by omega, by omega, by omega⟩
                · exact wpS_pure ⟨ev4, _, _, _, _, _, _, rfl, ho4, by omega, by omega, by omega⟩
              · rw [if_neg qk2]
                refine wpS_bind (t_elem (by omega) ?_)
                have ho4 := ho2.push (ha.at (i := x) (by omega))
                by_cases qe : (x + 1 + 1 == a.size) = true
                · rw [if_pos qe]
                  exact wpS_pure ⟨ev4, _, _, _, _, _, _, _, rfl, (ho4.app hb.ext).app ha.ext⟩
                rw [if_neg qe]
                have qe : x + 1 + 1 ≠ a.size := fun z => qe (by simp [z])
                split
                · exact wpS_pure ⟨ev4, _, _, _, _, _, _, _, rfl, ho4, by omega, by omega, by omega⟩
                · exact wpS_pure ⟨ev4, _, _, _, _, _, _, rfl, ho4, by omega, by omega, by omega⟩
        · rintro c st3 ⟨ev, o, x, y, mg, ca, cb, rfl, ho, hx, hy, hm⟩
          exact ⟨ev, _, _, _, _, _, _, _, rfl, ho, hx, hy, hm⟩
        · rintro c st3 ⟨ev, r, o, x, y, mg, ca, cb, rfl, hp⟩
          dsimp only
          cases r with
          | some r => exact wpS_pure ⟨ev, _, _, _, _, _, rfl, hp⟩
          | none =>
            obtain ⟨ho, hx, hy, hm⟩ := hp
            refine wpS_bind (t_setMin ev fun st4 ev4 => ?_)
            exact wpS_pure ⟨ev4, _, _, _, _, rfl, ho, hx, hy, hm⟩
  · rintro c st1 ⟨ev, o, x, y, mg, rfl, ho, hx, hy, hm⟩
    omega
  · rintro c st1 ⟨ev, r, o, x, y, mg, rfl, hr⟩
    exact wpS_pure (h r st1 hr ev)
def HiP (it : List Keyed) (a b : Array Keyed) (m : Nat) (r : Option (Array Keyed)) (o : Array Keyed) (x y : Nat) : Prop :=
  match r with
  | some o => In it o
  | none => In it o ∧ 1 ≤ x ∧ x < a.size ∧ 2 ≤ y ∧ y ≤ b.size ∧ m + x + y ≤ a.size + b.size
theorem t_mergeHi (C : Cmp prog w A s it κ) {st : SortSt} (hk : kindOf st = κ) {a b : Array Keyed} (ha : In it a) (hb : In it b) (za : 1 ≤ a.size) (zb : 1 ≤ b.size)
    {Q : Array Keyed → SortSt → Prop} (h : ∀ o st', In it o → Eqv st st' → Q o st') : wpS (model prog w) A E s (mergeHi' a b) Q st := by
  refine wpS_bind (wpS_lift (wpAny_rule ⟨rfl, ?_⟩))
  refine wpS_bind (t_elem (by omega) ?_)
  have b0 := In.one (ha.at (i := a.size - 1) (by omega))
  dsimp only
  by_cases q1 : (a.size - 1 == 0) = true
  · rw [if_pos q1]
    exact wpS_pure (h _ _ ((ha.ext.app hb.ext).app b0.rev) (Eqv.refl st))
  rw [if_neg q1]
  by_cases q2 : (b.size == 1) = true
  · rw [if_pos q2]
    exact wpS_pure (h _ _ ((hb.ext.app ha.ext).app b0.rev) (Eqv.refl st))
  rw [if_neg q2]
  have q1 : a.size - 1 ≠ 0 := fun z => q1 (by simp [z])
  have q2 : b.size ≠ 1 := fun z => q2 (by simp [z])
  refine wpS_bind (wpS_get ?_)
  refine wpS_bind (wpS_mono (wpS_forRange (I := fun i c st' => Eqv st st' ∧ ∃ x y o mg, c = (none, x, y, o, mg) ∧ In it o ∧ 1 ≤ x ∧ x < a.size ∧ 2 ≤ y ∧ y ≤ b.size ∧ i + x + y ≤ a.size + b.size) (Q := fun c st' => Eqv st st' ∧ ∃ r x y o mg, c = (some r, x, y, o, mg) ∧ In it r) ?_ ?_ ⟨Eqv.refl st, _, _, _, _, rfl, b0, by omega, by omega, by omega, by omega, by omega⟩) ?_)
  · rintro i c st1 _ hi ⟨ev, x, y, o, mg, rfl, ho, hx, hx2, hy, hy2, hm⟩
    dsimp only
    refine wpS_bind (wpS_mono (wpS_forRange (I := fun j c st' => Eqv st st' ∧ ∃ x y o ca cb, c = (none, x, y, o, ca, cb) ∧ In it o ∧ 1 ≤ x ∧ x < a.size ∧ 2 ≤ y ∧ y ≤ b.size ∧ i + j + x + y ≤ a.size + b.size) (Q := fun c st' => Eqv st st' ∧ ∃ r x y o ca cb, c = (r, x, y, o, ca, cb) ∧ HiP it a b (i + 1) r o x y) ?_ ?_ ⟨ev, _, _, _, _, _, rfl, ho, hx, hx2, hy, hy2, hm⟩) ?_)
    · rintro j c st2 _ hj ⟨ev, x, y, o, ca, cb, rfl, ho, hx, hx2, hy, hy2, hm⟩
      dsimp only
      have hx0 := ha.at (i := x - 1) (by omega)
      have hy0 := hb.at (i := y - 1) (by omega)
      refine wpS_bind (t_elem (by omega) (wpS_bind (t_elem (by omega) (wpS_bind (t_lt C (ev.k.trans hk) hy0 hx0 fun bw => ?_)))))
      cases bw with
      | true =>
        simp only [if_true]
        refine wpS_bind (t_elem (by omega) ?_)
        have ho' := ho.push hx0
        by_cases q3 : (x - 1 == 0) = true
        · rw [if_pos q3]
          exact wpS_pure ⟨ev, _, _, _, _, _, _, rfl, (ha.ext.app hb.ext).app ho'.rev⟩
        · rw [if_neg q3]
          have q3 : x - 1 ≠ 0 := fun z => q3 (by simp [z])
          by_cases q4 : ca + 1 ≥ mg
          · rw [if_pos q4]
            exact wpS_pure ⟨ev, _, _, _, _, _, _, rfl, ho', by omega, by omega, by omega, by omega, by omega⟩
          · rw [if_neg q4]
            exact wpS_pure ⟨ev, _, _, _, _, _, rfl, ho', by omega, by omega, by omega, by omega, by omega⟩
      | false =>
        simp only [Bool.false_eq_true, if_false]
        refine wpS_bind (t_elem (by omega) ?_)
        have ho' := ho.push hy0
        by_cases q3 : (y - 1 == 1) = true
        · rw [if_pos q3]
          exact wpS_pure ⟨ev, _, _, _, _, _, _, rfl, (hb.ext.app ha.ext).app ho'.rev⟩
        · rw [if_neg q3]
          have q3 : y - 1 ≠ 1 := fun z => q3 (by simp [z])
          by_cases q4 : cb + 1 ≥ mg
          · rw [if_pos q4]
            exact wpS_pure ⟨ev, _, _, _, _, _, _, rfl, ho', by omega, by omega, by omega, by omega, by omega⟩
          · rw [if_neg q4]
            exact wpS_pure ⟨ev, _, _, _, _, _, rfl, ho', by omega, by omega, by omega, by omega, by omega⟩
    · rintro c st2 ⟨ev, x, y, o, ca, cb, rfl, ho, hx, hx2, hy, hy2, hm⟩
      exact ⟨ev, _, _, _, _, _, _, rfl, ho, hx, hx2, hy, hy2, by omega⟩
    · rintro c st2 ⟨ev, r, x, y, o, ca, cb, rfl, hp⟩
      dsimp only
      cases r with
      | some r => exact wpS_pure ⟨ev, _, _, _, _, _, rfl, hp⟩
      | none =>
        obtain ⟨ho, hx, hx2, hy, hy2, hm⟩ := hp
        refine wpS_bind (wpS_lift (wpAny_rule ⟨rfl, ?_⟩))
        refine wpS_bind (wpS_mono (wpS_forRange (I := fun _ c st' => Eqv st st' ∧ ∃ x y o mg ca cb, c = (none, x, y, o, mg, ca, cb) ∧ In it o ∧ 1 ≤ x ∧ x < a.size ∧ 2 ≤ y ∧ y ≤ b.size ∧ i + 1 + x + y ≤ a.size + b.size) (Q := fun c st' => Eqv st st' ∧ ∃ r x y o mg ca cb, c = (r, x, y, o, mg, ca, cb) ∧ HiP it a b (i + 1) r o x y) ?_ ?_ ⟨ev, _, _, _, _, _, _, rfl, ho, hx, hx2, hy, hy2, hm⟩) ?_)
        · rintro j c st3 _ hj ⟨ev, x, y, o, mg, ca, cb, rfl, ho, hx, hx2, hy, hy2, hm⟩
          dsimp only
          by_cases qm : mg > 1
          · rw [if_pos qm]
            refine wpS_bind (t_setMin ev fun st4 ev4 => ?_)
            refine wpS_bind (t_elem (by omega) ?_)
            refine wpS_bind (t_gallop C (ev4.k.trans hk) (hb.at (i := y - 1) (by omega)) ha (by omega) (by omega) fun k hk1 => ?_)
            dsimp only
            by_cases qk : x - k > 0
            · rw [if_pos qk]
              have ho1 := ho.app (ha.ext (i := k) (j := x)).rev
              by_cases qa : (k == 0) = true
              · rw [if_pos qa]
                exact wpS_pure ⟨ev4, _, _, _, _, _, _, _, rfl, (ha.ext.app hb.ext).app ho1.rev⟩
              rw [if_neg qa]
              have qa : k ≠ 0 := fun z => qa (by simp [z])
              refine wpS_bind (t_elem (by omega) ?_)
              have ho2 := ho1.push (hb.at (i := y - 1) (by omega))
              by_cases qc : (y - 1 == 1) = true
              · rw [if_pos qc]
                exact wpS_pure ⟨ev4, _, _, _, _, _, _, _, rfl, (hb.ext.app ha.ext).app ho2.rev⟩
              rw [if_neg qc]
              have qc : y - 1 ≠ 1 := fun z => qc (by simp [z])
              refine wpS_bind (t_elem (by omega) ?_)
              refine wpS_bind (t_gallop C (ev4.k.trans hk) (ha.at (i := k - 1) (by omega)) hb (by omega) (by omega) fun k2 hk2 => ?_)
              dsimp only
              by_cases qk2 : y - 1 - k2 > 0
              · rw [if_pos qk2]
                have ho3 := ho2.app (hb.ext (i := k2) (j := y - 1)).rev
                by_cases qd : (k2 == 1) = true
                · rw [if_pos qd]
                  exact wpS_pure ⟨ev4, _, _, _, _, _, _, _, rfl, (hb.ext.app ha.ext).app ho3.rev⟩
                rw [if_neg qd]
                have qd : k2 ≠ 1 := fun z => qd (by simp [z])
                by_cases qd2 : (k2 == 0) = true
                · rw [if_pos qd2]
                  exact wpS_pure ⟨ev4, _, _, _, _, _, _, _, rfl, (ha.ext.app hb.ext).app ho3.rev⟩
                rw [if_neg qd2]
                have qd2 : k2 ≠ 0 := fun z => qd2 (by simp [z])
                refine wpS_bind (t_elem (by omega) ?_)
                have ho4 := ho3.push (ha.at (i := k - 1) (by omega))
                by_cases qe : (k - 1 == 0) = true
                · rw [if_pos qe]
                  exact wpS_pure ⟨ev4, _, _, _, _, _, _, _, rfl, (ha.ext.app hb.ext).app ho4.rev⟩
                rw [if_neg qe]
                have qe : k - 1 ≠ 0 := fun z => qe (by simp [z])
                split
                · exact wpS_pure ⟨ev4, _, _, _, _, _, _, _, rfl, ho4, by omega, by omega, by omega, by omega, by omega⟩
                · exact wpS_pure ⟨ev4, _, _, _, _, _, _, rfl, ho4, by omega, by omega, by omega, by omega, by omega⟩
              · rw [if_neg qk2]
                refine wpS_bind (t_elem (by omega) ?_)
                have ho4 := ho2.push (ha.at (i := k - 1) (by omega))
                by_cases qe : (k - 1 == 0) = true
                · rw [if_pos qe]
                  exact wpS_pure ⟨ev4, _, _, _, _, _, _, _, rfl, (ha.ext.app hb.ext).app ho4.rev⟩
                rw [if_neg qe]
                have qe : k - 1 ≠ 0 := fun z => qe (by simp [z])
                split
                · exact wpS_pure ⟨ev4, _, _, _, _, _, _, _, rfl, ho4, by omega, by omega, by omega, by omega, by omega⟩
                · exact wpS_pure ⟨ev4, _, _, _, _, _, _, rfl, ho4, by omega, by omega, by omega, by omega, by omega⟩
            · rw [if_neg qk]
              refine wpS_bind (t_elem (by omega) ?_)
              have ho2 := ho.push (hb.at (i := y - 1) (by omega))
              by_cases qc : (y - 1 == 1) = true
              · rw [if_pos qc]
                exact wpS_pure ⟨ev4, _, _, _, _, _, _, _, rfl, (hb.ext.app ha.ext).app ho2.rev⟩
              rw [if_neg qc]
              have qc : y - 1 ≠ 1 := fun z => qc (by simp [z])
              refine wpS_bind (t_elem (by omega) ?_)
              refine wpS_bind (t_gallop C (ev4.k.trans hk) (ha.at (i := x - 1) (by omega)) hb (by omega) (by omega) fun k2 hk2 => ?_)
              dsimp only
              by_cases qk2 : y - 1 - k2 > 0
              · rw [if_pos qk2]
                have ho3 := ho2.app (hb.ext (i := k2) (j := y - 1)).rev
                by_cases qd : (k2 == 1) = true
                · rw [if_pos qd]
                  exact wpS_pure ⟨ev4, _, _, _, _, _, _, _, rfl, (hb.ext.app ha.ext).app ho3.rev⟩
                rw [if_neg qd]
                have qd : k2 ≠ 1 := fun z => qd (by simp [z])
                by_cases qd2 : (k2 == 0) = true
                · rw [if_pos qd2]
                  exact wpS_pure ⟨ev4, _, _, _, _, _, _, _, rfl, (ha.ext.app hb.ext).app ho3.rev⟩
                rw [if_neg qd2]
                have qd2 : k2 ≠ 0 := fun z => qd2 (by simp [z])
                refine wpS_bind (t_elem (by omega) ?_)
                have ho4 := ho3.push (ha.at (i := x - 1) (by omega))
                by_cases qe : (x - 1 == 0) = true
                · rw [if_pos qe]
                  exact wpS_pure ⟨ev4, _, _, _, _, _, _, _, rfl, (ha.ext.app hb.ext).app ho4.rev⟩
                rw [if_neg qe]
                have qe : x - 1 ≠ 0 := fun z => qe (by simp [z])
                split
                · exact wpS_pure ⟨ev4, _, _, _, _, _, _, _, rfl, ho4, by omega, by omega, by omega, by omega, by omega⟩
                · exact wpS_pure ⟨ev4, _, _, _, _, _, _, rfl, ho4, by omega, by omega, by omega, by omega, by omega⟩
              · rw [if_neg qk2]
                refine wpS_bind (t_elem (by omega) ?_)
                have ho4 := ho2.push (ha.at (i := x - 1) (by omega))
                by_cases qe : (x - 1 == 0) = true
                · rw [if_pos qe]
                  exact wpS_pure ⟨ev4, _, _, _, _, _, _, _, rfl, (ha.ext.app hb.ext).app ho4.rev⟩
                rw [if_neg qe]
                have qe : x - 1 ≠ 0 := fun z => qe (by simp [z])
                split
                · exact wpS_pure ⟨ev4, _, _, _, _, _, _, _, rfl, ho4, by omega, by omega, by omega, by omega, by omega⟩
                · exact wpS_pure ⟨ev4, _, _, _, _, _, _, rfl, ho4, by omega, by omega, by omega, by omega, by omega⟩
          · rw [if_neg qm]
            refine wpS_bind (t_setMin ev fun st4 ev4 => ?_)
            refine wpS_bind (t_elem (by omega) ?_)
            refine wpS_bind (t_gallop C (ev4.k.trans hk) (hb.at (i := y - 1) (by omega)) ha (by omega) (by omega) fun k hk1 => ?_)
            dsimp only
            by_cases qk : x - k > 0
            · rw [if_pos qk]
              have ho1 := ho.app (ha.ext (i := k) (j := x)).rev
              by_cases qa : (k == 0) = true
              · rw [if_pos qa]
                exact wpS_pure ⟨ev4, _, _, _, _, _, _, _, rfl, (ha.ext.app hb.ext).app ho1.rev⟩
              rw [if_neg qa]
              have qa : k ≠ 0 := fun z => qa (by simp [z])
              refine wpS_bind (t_elem (by omega) ?_)
              have ho2 := ho1.push (hb.at (i := y - 1) (by omega))
              by_cases qc : (y - 1 == 1) = true
              · rw [if_pos qc]
                exact wpS_pure ⟨ev4, _, _, _, _, _, _, _, rfl, (hb.ext.app ha.ext).app ho2.rev⟩
              rw [if_neg qc]
              have qc : y - 1 ≠ 1 := fun z => qc (by simp [z])
              refine wpS_bind (t_elem (by omega) ?_)
              refine wpS_bind (t_gallop C (ev4.k.trans hk) (ha.at (i := k - 1) (by omega)) hb (by omega) (by omega) fun k2 hk2 => ?_)
              dsimp only
              by_cases qk2 : y - 1 - k2 > 0
              · rw [if_pos qk2]
                have ho3 := ho2.app (hb.ext (i := k2) (j := y - 1)).rev
                by_cases qd : (k2 == 1) = true
                · rw [if_pos qd]
                  exact wpS_pure ⟨ev4, _, _, _, _, _, _, _, rfl, (hb.ext.app ha.ext).app ho3.rev⟩
                rw [if_neg qd]
                have qd : k2 ≠ 1 := fun z => qd (by simp [z])
                by_cases qd2 : (k2 == 0) = true
                · rw [if_pos qd2]
                  exact wpS_pure ⟨ev4, _, _, _, _, _, _, _, rfl, (ha.ext.app hb.ext).app ho3.rev⟩
                rw [if_neg qd2]
                have qd2 : k2 ≠ 0 := fun z => qd2 (by simp [z])
                refine wpS_bind (t_elem (by omega) ?_)
                have ho4 := ho3.push (ha.at (i := k - 1) (by omega))
                by_cases qe : (k - 1 == 0) = true
                · rw [if_pos qe]
                  exact wpS_pure ⟨ev4, _, _, _, _, _, _, _, rfl, (ha.ext.app hb.ext).app ho4.rev⟩
                rw [if_neg qe]
                have qe : k - 1 ≠ 0 := fun z => qe (by simp [z])
                split
                · exact wpS_pure ⟨ev4, _, _, _, _, _, _, _, rfl, ho4, by omega, by omega, by omega, by omega, by omega⟩
                · exact wpS_pure ⟨ev4, _, _, _, _, _, _, rfl, ho4, by omega, by omega, by omega, by omega, by omega⟩
              · rw [if_neg qk2]
                refine wpS_bind (t_elem (by omega) ?_)
                have ho4 := ho2.push (ha.at (i := k - 1) (by omega))
                by_cases qe : (k - 1 == 0) = true
                · rw [if_pos qe]
                  exact wpS_pure ⟨ev4, _, _, _, _, _, _, _, rfl, (ha.ext.app hb.ext).app ho4.rev⟩
                rw [if_neg qe]
                have qe : k - 1 ≠ 0 := fun z => qe (by simp [z])
                split
                · exact wpS_pure ⟨ev4, _, _, _, _, _, _, _, rfl, ho4, by omega, by omega, by omega, by omega, by omega⟩
                · exact wpS_pure ⟨ev4, _, _, _, _, _, _, rfl, ho4, by omega, by omega, by omega, by omega, by omega⟩
            · rw [if_neg qk]
              refine wpS_bind (t_elem (by omega) ?_)
              have ho2 := ho.push (hb.at (i := y - 1) (by omega))
              by_cases qc : (y - 1 == 1) = true
              · rw [if_pos qc]
                exact wpS_pure ⟨ev4, _, _, _, _, _, _, _, rfl, (hb.ext.app ha.ext).app ho2.rev⟩
              rw [if_neg qc]
              have qc : y - 1 ≠ 1 := fun z => qc (by simp [z])
              refine wpS_bind (t_elem (by omega) ?_)
              refine wpS_bind (t_gallop C (ev4.k.trans hk) (ha.at (i := x - 1) (by omega)) hb (by omega) (by omega) fun k2 hk2 => ?_)
              dsimp only
              by_cases qk2 : y - 1 - k2 > 0
              · rw [if_pos qk2]
                have ho3 := ho2.app (hb.ext (i := k2) (j := y - 1)).rev
                by_cases qd : (k2 == 1) = true
                · rw [if_pos qd]
                  exact wpS_pure ⟨ev4, _, _, _, _, _, _, _, rfl, (hb.ext.app ha.ext).app ho3.rev⟩
                rw [if_neg qd]
                have qd : k2 ≠ 1 := fun z => qd (by simp [z])
                by_cases qd2 : (k2 == 0) = true
                · rw [if_pos qd2]
                  exact wpS_pure ⟨ev4, _, _, _, _, _, _, _, rfl, (ha.ext.app hb.ext).app ho3.rev⟩
                rw [if_neg qd2]
                have qd2 : k2 ≠ 0 := fun z => qd2 (by simp [z])
                refine wpS_bind (t_elem (by omega) ?_)
                have ho4 := ho3.push (ha.at (i := x - 1) (by omega))
                by_cases qe : (x - 1 == 0) = true
                · rw [if_pos qe]
                  exact wpS_pure ⟨ev4, _, _, _, _, _, _, _, rfl, (ha.ext.app hb.ext).app ho4.rev⟩
                rw [if_neg qe]
                have qe : x - 1 ≠ 0 := fun z => qe (by simp [z])
                split
                · exact wpS_pure ⟨ev4, _, _, _, _, _, _, _, rfl, ho4, by omega, by omega, by omega, by omega, by omega⟩
                · exact wpS_pure ⟨ev4, _, _, _, _, _, _, rfl, ho4, by omega, by omega, by omega, by omega, by omega⟩
              · rw [if_neg qk2]
                refine wpS_bind (t_elem (by omega) ?_)
                have ho4 := ho2.push (ha.at (i := x - 1) (by omega))
                by_cases qe : (x - 1 == 0) = true
                · rw [if_pos qe]
                  exact wpS_pure ⟨ev4, _, _, _, _, _, _, _, rfl, (ha.ext.app hb.ext).app ho4.rev⟩
                rw [if_neg qe]
                have qe : x - 1 ≠ 0 := fun z => qe (by simp [z])
                split
                · exact wpS_pure ⟨ev4, _, _, _, _, _, _, _, rfl, ho4, by omega, by omega, by omega, by omega, by omega⟩
                · exact wpS_pure ⟨ev4, _, _, _, _, _, _, rfl, ho4, by omega, by omega, by omega, by omega, by omega⟩
        · rintro c st3 ⟨ev, x, y, o, mg, ca, cb, rfl, ho, hx, hx2, hy, hy2, hm⟩
          exact ⟨ev, _, _, _, _, _, _, _, rfl, ho, hx, hx2, hy, hy2, hm⟩
        · rintro c st3 ⟨ev, r, x, y, o, mg, ca, cb, rfl, hp⟩
          dsimp only
          cases r with
          | some r => exact wpS_pure ⟨ev, _, _, _, _, _, rfl, hp⟩
          | none =>
            obtain ⟨ho, hx, hx2, hy, hy2, hm⟩ := hp
            refine wpS_bind (t_setMin ev fun st4 ev4 => ?_)
            exact wpS_pure ⟨ev4, _, _, _, _, rfl, ho, hx, hx2, hy, hy2, hm⟩
  · rintro c st1 ⟨ev, x, y, o, mg, rfl, ho, hx, hx2, hy, hy2, hm⟩
    omega
  · rintro c st1 ⟨ev, r, x, y, o, mg, rfl, hr⟩
    exact wpS_pure (h r st1 hr ev)
end
end Srt
end L2

/-! SortTot2 -/
set_option Elab.async false
set_option linter.all false
set_option maxRecDepth 100000
set_option maxHeartbeats 4000000
namespace L2
namespace Srt
open PySem PyProof.Rows
section
variable {prog : Program} {w : World} {A : Around} {E : Value → Shared → Prop} {s : Shared} {it : List Keyed} {κ : SortKind} {n : Nat}
structure TB (it : List Keyed) (κ : SortKind) (n : Nat) (st : SortSt) : Prop where
  z : (arrOf st).size = n
  i : In it (arrOf st)
  k : kindOf st = κ
  f : failedOf st = none
theorem TB.perm {st : SortSt} (t : TB it κ n st) {xs : Array Keyed} (p : xs.Perm (arrOf st)) : TB it κ n (setArr st xs) :=
  ⟨p.size_eq.trans t.z, fun x hx => t.i x (Array.mem_def.mpr ((Array.perm_iff_toList_perm.mp p).mem_iff.mp (Array.mem_def.mp hx))), t.k, t.f⟩
theorem t_ltAt (C : Cmp prog w A s it κ) {st : SortSt} (t : TB it κ n st) {i j : Nat} (hi : i < n) (hj : j < n) {Q : Option Bool → SortSt → Prop} (h : ∀ b, Q (some b) st) : wpS (model prog w) A E s (ltAt' i j) Q st := by
  rw [ltAt'_eq]
  refine wpS_bind (wpS_get ?_)
  have hi : i < (arrOf st).size := by rw [t.z]; exact hi
  have hj : j < (arrOf st).size := by rw [t.z]; exact hj
  exact wpS_bind (t_elem hi (wpS_bind (t_elem hj (t_lt C t.k (t.i.at hi) (t.i.at hj) h))))
/-- as st, but for the order of its items -/
def Ord (it : List Keyed) (κ : SortKind) (n : Nat) (p : Array (Nat × Nat × Nat)) (st : SortSt) : Prop := TB it κ n st ∧ pendingOf st = p
theorem t_rev {p : Array (Nat × Nat × Nat)} {st : SortSt} (o : Ord it κ n p st) {i j : Nat} {Q : Unit → SortSt → Prop} (h : ∀ st', Ord it κ n p st' → Q () st') : wpS (model prog w) A E s (reverseSlice' i j) Q st := by
  rw [reverseSlice'_eq]
  exact wpS_modify (h _ ⟨o.1.perm (mirror_perm _ _ _ _), o.2⟩)
theorem t_move {p : Array (Nat × Nat × Nat)} {st : SortSt} (o : Ord it κ n p st) {i j : Nat} {Q : Unit → SortSt → Prop} (h : ∀ st', Ord it κ n p st' → Q () st') : wpS (model prog w) A E s (moveDown' i j) Q st := by
  rw [moveDown'_eq]
  exact wpS_modify (h _ ⟨o.1.perm (bubble_perm _ _ _), o.2⟩)
theorem t_bin (C : Cmp prog w A s it κ) {p : Array (Nat × Nat × Nat)} {st : SortSt} (o : Ord it κ n p st) {lo m ok : Nat} (hm : lo + m ≤ n) {Q : Bool → SortSt → Prop} (h : ∀ st', Ord it κ n p st' → Q true st') : wpS (model prog w) A E s (binarySort' lo m ok) Q st := by
  rw [binarySort'_eq]
  refine wpS_bind (wpS_mono (wpS_forRange (I := fun k c st' => c = (none, ()) ∧ Ord it κ n p st') (Q := fun c st' => c = (none, ()) ∧ Ord it κ n p st') ?_ ?_ ⟨rfl, o⟩) ?_)
  · rintro k c st1 hk1 hk ⟨rfl, o1⟩
    dsimp only
    refine wpS_bind (wpS_mono (wpS_forRange (I := fun _ c st' => st' = st1 ∧ ∃ l r, c = (none, l, r) ∧ r ≤ k) (Q := fun c st' => st' = st1 ∧ ∃ l r, c = (none, l, r) ∧ r ≤ k) ?_ ?_ ⟨rfl, _, _, rfl, Nat.le_refl _⟩) ?_)
    · rintro j c st2 _ hj ⟨rfl, l, r, rfl, hr⟩
      dsimp only
      by_cases q : l ≥ r
      · rw [if_pos q]
        exact wpS_pure ⟨rfl, _, _, rfl, hr⟩
      · rw [if_neg q]
        refine wpS_bind (t_ltAt C o1.1 (by omega) (by omega) fun b => ?_)
        cases b with
        | true => exact wpS_pure ⟨rfl, _, _, rfl, by omega⟩
        | false => exact wpS_pure ⟨rfl, _, _, rfl, hr⟩
    · exact fun c st' h => h
    · rintro c st2 ⟨rfl, l, r, rfl, hr⟩
      dsimp only
      exact wpS_bind (t_move o1 fun st3 o3 => wpS_pure ⟨rfl, o3⟩)
  · exact fun c st' h => h
  · rintro c st1 ⟨rfl, o1⟩
    exact wpS_pure (h st1 o1)
theorem t_count (C : Cmp prog w A s it κ) {p : Array (Nat × Nat × Nat)} {st : SortSt} (o : Ord it κ n p st) {lo m : Nat} (h1 : 1 ≤ m) (hm : lo + m ≤ n) {Q : Option Nat → SortSt → Prop} (h : ∀ k st', 1 ≤ k → k ≤ m → Ord it κ n p st' → Q (some k) st') : wpS (model prog w) A E s (countRun' lo m) Q st := by
  rw [countRun'_eq]
  refine wpS_bind (wpS_mono (wpS_forRange (I := fun i c st' => Ord it κ n p st' ∧ c = (none, i)) (Q := fun c st' => Ord it κ n p st' ∧ ∃ k, c = (none, k) ∧ 1 ≤ k ∧ k ≤ m) ?_ ?_ ⟨o, rfl⟩) ?_)
  · rintro i c st1 hi1 hi ⟨o1, rfl⟩
    dsimp only
    refine wpS_bind (t_ltAt C o1.1 (by omega) (by omega) fun b => ?_)
    cases b with
    | true => exact wpS_pure ⟨o1, _, rfl, hi1, by omega⟩
    | false => exact wpS_pure ⟨o1, rfl⟩
  · rintro c st1 ⟨o1, rfl⟩
    exact ⟨o1, _, rfl, by omega, by omega⟩
  · rintro c st1 ⟨o1, k, rfl, k1, k2⟩
    dsimp only
    by_cases q : (k == m) = true
    · rw [if_pos q]
      exact wpS_pure (h k st1 k1 k2 o1)
    rw [if_neg q]
    have q : k ≠ m := fun z => q (by simp [z])
    by_cases qk : k > 1
    · rw [if_pos qk]
      refine wpS_bind (t_ltAt C o1.1 (by omega) (by omega) fun b => ?_)
      cases b with
      | true => exact wpS_pure (h k st1 k1 k2 o1)
      | false =>
        simp only [Bool.false_eq_true, if_false]
        refine wpS_bind (t_rev o1 fun st2 o2 => ?_)
        refine wpS_bind (wpS_lift (wpAny_rule ⟨rfl, ?_⟩))
        refine wpS_bind (wpS_mono (wpS_forRange (I := fun i c st' => Ord it κ n p st' ∧ ∃ g, c = (none, i, g)) (Q := fun c st' => Ord it κ n p st' ∧ ∃ j g, c = (none, j, g) ∧ k + 1 ≤ j ∧ j ≤ m) ?_ ?_ ⟨o2, _, rfl⟩) ?_)
        · rintro i c st3 hi1 hi ⟨o3, g, rfl⟩
          dsimp only
          refine wpS_bind (t_ltAt C o3.1 (by omega) (by omega) fun b => ?_)
          cases b with
          | true =>
            simp only [if_true]
            by_cases qg : g > 0
            · rw [if_pos qg]
              exact wpS_bind (t_rev o3 fun st4 o4 => wpS_pure ⟨o4, _, rfl⟩)
            · rw [if_neg qg]
              exact wpS_pure ⟨o3, _, rfl⟩
          | false =>
            simp only [Bool.false_eq_true, if_false]
            refine wpS_bind (t_ltAt C o3.1 (by omega) (by omega) fun b => ?_)
            cases b with
            | true => exact wpS_pure ⟨o3, _, _, rfl, by omega, by omega⟩
            | false => exact wpS_pure ⟨o3, _, rfl⟩
        · rintro c st3 ⟨o3, g, rfl⟩
          exact ⟨o3, _, _, rfl, by omega, by omega⟩
        · rintro c st3 ⟨o3, j, g, rfl, j1, j2⟩
          dsimp only
          by_cases qg : g > 0
          · rw [if_pos qg]
            refine wpS_bind (t_rev o3 fun st4 o4 => ?_)
            refine wpS_bind (t_rev o4 fun st8 o8 => ?_)
            refine wpS_bind (wpS_mono (wpS_forRange (I := fun i c st' => Ord it κ n p st' ∧ c = (none, i)) (Q := fun c st' => Ord it κ n p st' ∧ ∃ k, c = (none, k) ∧ 1 ≤ k ∧ k ≤ m) ?_ ?_ ⟨o8, rfl⟩) ?_)
            · rintro i c st9 hi1 hi ⟨o9, rfl⟩
              dsimp only
              refine wpS_bind (t_ltAt C o9.1 (by omega) (by omega) fun b => ?_)
              cases b with
              | true => exact wpS_pure ⟨o9, _, rfl, by omega, by omega⟩
              | false => exact wpS_pure ⟨o9, rfl⟩
            · rintro c st9 ⟨o9, rfl⟩
              exact ⟨o9, _, rfl, by omega, by omega⟩
            · rintro c st9 ⟨o9, kk, rfl, e1, e2⟩
              exact wpS_pure (h kk st9 e1 e2 o9)
          · rw [if_neg qg]
            refine wpS_bind (t_rev o3 fun st8 o8 => ?_)
            refine wpS_bind (wpS_mono (wpS_forRange (I := fun i c st' => Ord it κ n p st' ∧ c = (none, i)) (Q := fun c st' => Ord it κ n p st' ∧ ∃ k, c = (none, k) ∧ 1 ≤ k ∧ k ≤ m) ?_ ?_ ⟨o8, rfl⟩) ?_)
            · rintro i c st9 hi1 hi ⟨o9, rfl⟩
              dsimp only
              refine wpS_bind (t_ltAt C o9.1 (by omega) (by omega) fun b => ?_)
              cases b with
              | true => exact wpS_pure ⟨o9, _, rfl, by omega, by omega⟩
              | false => exact wpS_pure ⟨o9, rfl⟩
            · rintro c st9 ⟨o9, rfl⟩
              exact ⟨o9, _, rfl, by omega, by omega⟩
            · rintro c st9 ⟨o9, kk, rfl, e1, e2⟩
              exact wpS_pure (h kk st9 e1 e2 o9)
    · rw [if_neg qk]
      refine wpS_bind (wpS_lift (wpAny_rule ⟨rfl, ?_⟩))
      refine wpS_bind (wpS_mono (wpS_forRange (I := fun i c st' => Ord it κ n p st' ∧ ∃ g, c = (none, i, g)) (Q := fun c st' => Ord it κ n p st' ∧ ∃ j g, c = (none, j, g) ∧ k + 1 ≤ j ∧ j ≤ m) ?_ ?_ ⟨o1, _, rfl⟩) ?_)
      · rintro i c st3 hi1 hi ⟨o3, g, rfl⟩
        dsimp only
        refine wpS_bind (t_ltAt C o3.1 (by omega) (by omega) fun b => ?_)
        cases b with
        | true =>
          simp only [if_true]
          by_cases qg : g > 0
          · rw [if_pos qg]
            exact wpS_bind (t_rev o3 fun st4 o4 => wpS_pure ⟨o4, _, rfl⟩)
          · rw [if_neg qg]
            exact wpS_pure ⟨o3, _, rfl⟩
        | false =>
          simp only [Bool.false_eq_true, if_false]
          refine wpS_bind (t_ltAt C o3.1 (by omega) (by omega) fun b => ?_)
          cases b with
          | true => exact wpS_pure ⟨o3, _, _, rfl, by omega, by omega⟩
          | false => exact wpS_pure ⟨o3, _, rfl⟩
      · rintro c st3 ⟨o3, g, rfl⟩
        exact ⟨o3, _, _, rfl, by omega, by omega⟩
      · rintro c st3 ⟨o3, j, g, rfl, j1, j2⟩
        dsimp only
        by_cases qg : g > 0
        · rw [if_pos qg]
          refine wpS_bind (t_rev o3 fun st4 o4 => ?_)
          refine wpS_bind (t_rev o4 fun st8 o8 => ?_)
          refine wpS_bind (wpS_mono (wpS_forRange (I := fun i c st' => Ord it κ n p st' ∧ c = (none, i)) (Q := fun c st' => Ord it κ n p st' ∧ ∃ k, c = (none, k) ∧ 1 ≤ k ∧ k ≤ m) ?_ ?_ ⟨o8, rfl⟩) ?_)
          · rintro i c st9 hi1 hi ⟨o9, rfl⟩
            dsimp only
            refine wpS_bind (t_ltAt C o9.1 (by omega) (by omega) fun b => ?_)
            cases b with
            | true => exact wpS_pure ⟨o9, _, rfl, by omega, by omega⟩
            | false => exact wpS_pure ⟨o9, rfl⟩
          · rintro c st9 ⟨o9, rfl⟩
            exact ⟨o9, _, rfl, by omega, by omega⟩
          · rintro c st9 ⟨o9, kk, rfl, e1, e2⟩
            exact wpS_pure (h kk st9 e1 e2 o9)
        · rw [if_neg qg]
          refine wpS_bind (t_rev o3 fun st8 o8 => ?_)
          refine wpS_bind (wpS_mono (wpS_forRange (I := fun i c st' => Ord it κ n p st' ∧ c = (none, i)) (Q := fun c st' => Ord it κ n p st' ∧ ∃ k, c = (none, k) ∧ 1 ≤ k ∧ k ≤ m) ?_ ?_ ⟨o8, rfl⟩) ?_)
          · rintro i c st9 hi1 hi ⟨o9, rfl⟩
            dsimp only
            refine wpS_bind (t_ltAt C o9.1 (by omega) (by omega) fun b => ?_)
            cases b with
            | true => exact wpS_pure ⟨o9, _, rfl, by omega, by omega⟩
            | false => exact wpS_pure ⟨o9, rfl⟩
          · rintro c st9 ⟨o9, rfl⟩
            exact ⟨o9, _, rfl, by omega, by omega⟩
          · rintro c st9 ⟨o9, kk, rfl, e1, e2⟩
            exact wpS_pure (h kk st9 e1 e2 o9)
/-! ### two runs laid together -/
theorem sets_size : ∀ (l : List (Keyed × Nat)) (b : Nat) (a : Array Keyed), (l.foldl (fun a (q, j) => a.setIfInBounds (b + j) q) a).size = a.size
  | [], _, _ => rfl
  | (q, j) :: l, b, a => by rw [List.foldl_cons, sets_size l b]; simp
theorem sets_in : ∀ (l : List (Keyed × Nat)) (b : Nat) (a : Array Keyed), In it a → (∀ q ∈ l, q.1 ∈ it) → In it (l.foldl (fun a (q, j) => a.setIfInBounds (b + j) q) a)
  | [], _, _, h, _ => h
  | (q, j) :: l, b, a, h, hl => by
    rw [List.foldl_cons]
    refine sets_in l b _ (fun x hx => ?_) fun r hr => hl r (List.mem_cons_of_mem _ hr)
    rcases Array.mem_or_eq_of_mem_setIfInBounds hx with z | z
    · exact h x z
    · rw [z]; exact hl (q, j) List.mem_cons_self
theorem zip_in {o : Array Keyed} (h : In it o) : ∀ q ∈ o.toList.zipIdx, q.1 ∈ it := fun q hq => by
  obtain ⟨x, i⟩ := q
  have := (List.mem_zipIdx hq).2.2
  rw [this]
  exact h _ (Array.mem_def.mpr (List.getElem_mem _))
theorem w_set {x st : SortSt} {Q : PUnit → SortSt → Prop} (h : Q ⟨⟩ x) : wpS (model prog w) A E s (set x : StateT SortSt Sem PUnit) Q st := by
  unfold wpS
  rw [StateT.run_set]
  exact wpAny_pure ⟨rfl, h⟩
theorem t_mergeAt (C : Cmp prog w A s it κ) {st : SortSt} (t : TB it κ n st) {n1 p1 p2 : Nat} (hp : pendingOf st = #[(0, n1, p1), (n1, n - n1, p2)]) (h1 : 1 ≤ n1) (h2 : n1 < n) {Q : Bool → SortSt → Prop}
    (h : ∀ st', TB it κ n st' → pendingOf st' = #[(0, n, p1)] → Q true st') : wpS (model prog w) A E s (mergeAt' 0) Q st := by
  refine wpS_bind (wpS_get ?_)
  have hq := hp
  unfold pendingOf at hq
  rw [hq]
  have e0 : #[(0, n1, p1), (n1, n - n1, p2)][0]? = some (0, n1, p1) := rfl
  have e1 : #[(0, n1, p1), (n1, n - n1, p2)][0 + 1]? = some (n1, n - n1, p2) := rfl
  rw [e0, e1]
  dsimp only
  have ep : (#[(0, n1, p1), (n1, n - n1, p2)].setIfInBounds 0 (0, n1 + (n - n1), p1)).eraseIdxIfInBounds (0 + 1) = #[(0, n, p1)] := by
    rw [show n1 + (n - n1) = n by omega]
    apply Array.toList_inj.mp
    simp [Array.setIfInBounds, Array.eraseIdxIfInBounds]
  rw [ep]
  refine wpS_bind (w_set ?_)
  have t2 : TB it κ n (setPending st #[(0, n, p1)]) := ⟨t.z, t.i, t.k, t.f⟩
  have hz := t.z
  refine wpS_bind (t_elem (show n1 < (arrOf st).size by omega) ?_)
  refine wpS_bind (t_gallop C t2.k (t.i.at (i := n1) (by omega)) t.i (by omega) (by omega) fun k hk1 => ?_)
  dsimp only
  by_cases q1 : (n1 - k == 0) = true
  · rw [if_pos q1]
    exact wpS_pure (h _ t2 rfl)
  rw [if_neg q1]
  have q1 : n1 - k ≠ 0 := fun z => q1 (by simp [z])
  refine wpS_bind (t_elem (show 0 + k + (n1 - k) - 1 < (arrOf st).size by omega) ?_)
  refine wpS_bind (t_gallop C t2.k (t.i.at (i := 0 + k + (n1 - k) - 1) (by omega)) t.i (by omega) (by omega) fun m hm1 => ?_)
  dsimp only
  by_cases q2 : (m == 0) = true
  · rw [if_pos q2]
    exact wpS_pure (h _ t2 rfl)
  rw [if_neg q2]
  have q2 : m ≠ 0 := fun z => q2 (by simp [z])
  have fin : ∀ (o : Array Keyed) (st3 : SortSt), In it o → Eqv (setPending st #[(0, n, p1)]) st3 → wpS (model prog w) A E s (do
      modify fun u => setArr u (o.toList.zipIdx.foldl (fun a (q, j) => a.setIfInBounds (0 + k + j) q) (arrOf u))
      return (failedOf (← get)).isNone) Q st3 := fun o st3 ho ev => by
    refine wpS_bind (wpS_modify (wpS_bind (wpS_get ?_)))
    have hf : failedOf st3 = none := ev.f.trans t.f
    have e : (failedOf (setArr st3 (o.toList.zipIdx.foldl (fun a (q, j) => a.setIfInBounds (0 + k + j) q) (arrOf st3)))).isNone = true := by
      show (failedOf st3).isNone = true
      rw [hf]; rfl
    rw [e]
    refine wpS_pure (h _ ⟨?_, ?_, ev.k.trans t.k, hf⟩ ev.p)
    · exact (sets_size _ _ _).trans ((congrArg Array.size ev.a).trans hz)
    · refine sets_in _ _ _ ?_ (zip_in ho)
      rw [ev.a]
      exact t.i
  by_cases q3 : n1 - k ≤ m
  · rw [if_pos q3]
    exact wpS_bind (t_mergeLo C t2.k t.i.ext t.i.ext (by simp; omega) (by simp; omega) fin)
  · rw [if_neg q3]
    exact wpS_bind (t_mergeHi C t2.k t.i.ext t.i.ext (by simp; omega) (by simp; omega) fin)
/-! ### all runs, up to 66 items -/
theorem minrun_le : ∀ z, z ≤ 66 → 2 ≤ z → z ≤ 2 * minRun' z z 0 ∧ minRun' z z 0 ≤ z ∧ 1 ≤ minRun' z z 0 := by decide
theorem t_runs (C : Cmp prog w A s it κ) {st : SortSt} (t : TB it κ n st) (hp : pendingOf st = #[]) (h2 : 2 ≤ n) (h66 : n ≤ 66) {Q : Unit → SortSt → Prop} (h : ∀ st', TB it κ n st' → Q () st') : wpS (model prog w) A E s sortRuns' Q st := by
  obtain ⟨r1, r2, r3⟩ := minrun_le n h66 h2
  rw [sortRuns'_eq]
  refine wpS_bind (wpS_get ?_)
  rw [t.z]
  dsimp only
  refine wpS_bind (wpS_mono (wpS_forRange (I := fun i c st' => TB it κ n st' ∧ ∃ lo, c = (none, lo) ∧ i ≤ lo ∧ ((lo = 0 ∧ pendingOf st' = #[]) ∨ (1 ≤ lo ∧ lo ≤ n ∧ (lo = n ∨ minRun' n n 0 ≤ lo) ∧ ∃ p1, pendingOf st' = #[(0, lo, p1)]) ∨ (lo = n ∧ ∃ n1 p1 p2, 1 ≤ n1 ∧ n1 < n ∧ pendingOf st' = #[(0, n1, p1), (n1, n - n1, p2)])))
    (Q := fun c st' => TB it κ n st' ∧ ∃ lo, c = (none, lo) ∧ ((∃ p1, pendingOf st' = #[(0, n, p1)]) ∨ ∃ n1 p1 p2, 1 ≤ n1 ∧ n1 < n ∧ pendingOf st' = #[(0, n1, p1), (n1, n - n1, p2)])) ?_ ?_ ⟨t, 0, rfl, Nat.le_refl _, .inl ⟨rfl, hp⟩⟩) ?_)
  · rintro i c st1 _ hi ⟨t1, lo, rfl, hil, hc⟩
    dsimp only
    by_cases q1 : lo ≥ n
    · rw [if_pos q1]
      refine wpS_pure ⟨t1, lo, rfl, ?_⟩
      rcases hc with ⟨l0, _⟩ | ⟨l1, l2, l3, p1, hpd⟩ | ⟨l0, hpd⟩
      · omega
      · have : lo = n := by omega
        subst this
        exact .inl ⟨p1, hpd⟩
      · exact .inr hpd
    rw [if_neg q1]
    refine wpS_bind (t_count (p := pendingOf st1) C ⟨t1, rfl⟩ (by omega) (by omega) fun fd st0 f1 f2 o0 => ?_)
    dsimp only
    by_cases q2 : fd < minRun' n n 0
    · rw [if_pos q2]
      refine wpS_bind (wpS_lift (wpAny_rule ⟨rfl, ?_⟩))
      refine wpS_bind (t_bin C o0 (by omega) fun st2 o2 => ?_)
      simp only [Bool.not_true, Bool.false_eq_true, if_false]
      refine wpS_bind (wpS_get ?_)
      rcases hc with ⟨l0, hpd⟩ | ⟨l1, l2, l3, p1, hpd⟩ | ⟨l0, _⟩
      · subst l0
        rw [o2.2, hpd]
        refine wpS_bind (wpS_modify (wpS_pure ⟨⟨o2.1.z, o2.1.i, o2.1.k, o2.1.f⟩, _, rfl, by omega, .inr (.inl ⟨by omega, by omega, by omega, 0, ?_⟩)⟩))
        show (pendingOf st2).push _ = _
        rw [o2.2, hpd, Nat.zero_add]
        rfl
      · have hRe : min (n - lo) (minRun' n n 0) = n - lo := by omega
        have hpd2 : pendingOf st2 = #[(0, lo, p1)] := o2.2.trans hpd
        rw [hpd2]
        refine wpS_bind (wpS_mono (wpS_forRange (I := fun _ c st' => st' = st2 ∧ c = (none, ())) (Q := fun c st' => st' = st2 ∧ c = (none, ())) ?_ (fun _ _ h => h) ⟨rfl, rfl⟩) ?_)
        · rintro j c st3 _ hj ⟨rfl, rfl⟩
          refine wpS_bind (wpS_get ?_)
          rw [hpd2]
          exact wpS_pure ⟨rfl, rfl⟩
        · rintro c st3 ⟨rfl, rfl⟩
          refine wpS_bind (wpS_modify (wpS_bind (wpS_modify (wpS_pure ⟨⟨o2.1.z, o2.1.i, o2.1.k, o2.1.f⟩, _, rfl, by omega, .inr (.inr ⟨by omega, lo, power' n (2 * 0 + lo) (2 * 0 + lo + lo + min (n - lo) (minRun' n n 0)) n, 0, by omega, by omega, ?_⟩)⟩))))
          show ((pendingOf st3).modify ((pendingOf st3).size - 1) _).push _ = _
          rw [hpd2, hRe]
          apply Array.toList_inj.mp
          simp [Array.modify]
          rfl
      · omega
    · rw [if_neg q2]
      obtain ⟨st2, e2⟩ : ∃ st2, st2 = st0 := ⟨_, rfl⟩
      rw [← e2] at o0 ⊢
      have o2 := o0
      refine wpS_bind (wpS_get ?_)
      rcases hc with ⟨l0, hpd⟩ | ⟨l1, l2, l3, p1, hpd⟩ | ⟨l0, _⟩
      · subst l0
        rw [o2.2, hpd]
        refine wpS_bind (wpS_modify (wpS_pure ⟨⟨o2.1.z, o2.1.i, o2.1.k, o2.1.f⟩, _, rfl, by omega, .inr (.inl ⟨by omega, by omega, by omega, 0, ?_⟩)⟩))
        show (pendingOf st2).push _ = _
        rw [o2.2, hpd, Nat.zero_add]
        rfl
      · have hRe : fd = n - lo := by omega
        have hpd2 : pendingOf st2 = #[(0, lo, p1)] := o2.2.trans hpd
        rw [hpd2]
        refine wpS_bind (wpS_mono (wpS_forRange (I := fun _ c st' => st' = st2 ∧ c = (none, ())) (Q := fun c st' => st' = st2 ∧ c = (none, ())) ?_ (fun _ _ h => h) ⟨rfl, rfl⟩) ?_)
        · rintro j c st3 _ hj ⟨rfl, rfl⟩
          refine wpS_bind (wpS_get ?_)
          rw [hpd2]
          exact wpS_pure ⟨rfl, rfl⟩
        · rintro c st3 ⟨rfl, rfl⟩
          refine wpS_bind (wpS_modify (wpS_bind (wpS_modify (wpS_pure ⟨⟨o2.1.z, o2.1.i, o2.1.k, o2.1.f⟩, _, rfl, by omega, .inr (.inr ⟨by omega, lo, power' n (2 * 0 + lo) (2 * 0 + lo + lo + fd) n, 0, by omega, by omega, ?_⟩)⟩))))
          show ((pendingOf st3).modify ((pendingOf st3).size - 1) _).push _ = _
          rw [hpd2, hRe]
          apply Array.toList_inj.mp
          simp [Array.modify]
          rfl
      · omega
  · rintro c st1 ⟨t1, lo, rfl, hil, hc⟩
    refine ⟨t1, lo, rfl, ?_⟩
    rcases hc with ⟨l0, _⟩ | ⟨l1, l2, l3, p1, hpd⟩ | ⟨l0, hpd⟩
    · omega
    · have : lo = n := by omega
      subst this
      exact .inl ⟨p1, hpd⟩
    · exact .inr hpd
  · rintro c st1 ⟨t1, lo, rfl, hc⟩
    dsimp only
    refine wpS_bind (wpS_mono (wpS_forRange (I := fun _ c st' => TB it κ n st' ∧ c = (none, ()) ∧ ((∃ p1, pendingOf st' = #[(0, n, p1)]) ∨ ∃ n1 p1 p2, 1 ≤ n1 ∧ n1 < n ∧ pendingOf st' = #[(0, n1, p1), (n1, n - n1, p2)])) (Q := fun c st' => TB it κ n st' ∧ c = (none, ())) ?_ (fun _ _ h => ⟨h.1, h.2.1⟩) ⟨t1, rfl, hc⟩) ?_)
    · rintro i c st2 _ hi ⟨t2, rfl, hc⟩
      refine wpS_bind (wpS_get ?_)
      rcases hc with ⟨p1, hpd⟩ | ⟨n1, p1, p2, h1, h2, hpd⟩
      · rw [hpd]
        exact wpS_pure ⟨t2, rfl⟩
      · rw [hpd]
        refine wpS_bind (t_mergeAt C t2 hpd h1 h2 fun st3 t3 hp3 => ?_)
        exact wpS_pure ⟨t3, rfl, .inl ⟨_, hp3⟩⟩
    · rintro c st2 ⟨t2, rfl⟩
      exact wpS_pure (h st2 t2)
end
end Srt
end L2

/-! SortTot3 -/
set_option Elab.async false
set_option linter.all false
set_option maxRecDepth 100000
set_option maxHeartbeats 4000000
namespace L2
namespace Srt
open PySem PyProof.Rows PySem.W
/-- tuples of two ints -/
def Pr (h : Heap) (v : Value) : Prop := ∃ x o i j t u n, v = .ref x ∧ h.get? x = some o ∧ o.cls = .type "tuple" ∧ o.data = .seq #[.int i t, .int j u] n
section
variable {prog : Program} {w : World} {A : Around} {E : Value → Shared → Prop} {s : Shared}
theorem pr_lt {x y : Value} (hx : Pr s.heap x) (hy : Pr s.heap y) {Q : Bool → Shared → Prop} (h : ∀ b, Q b s) : wpAny (model prog w) A (keyLt' (tuples' true) x y) Q E s := by
  obtain ⟨x, o, i, j, t, u, n, rfl, ho, _, hd⟩ := hx
  obtain ⟨y, o', i', j', t', u', n', rfl, ho', _, hd'⟩ := hy
  refine kat_lt ho hd ho' hd' (kat_cons (wpAny_eqBool_int ?_))
  refine kat_go (fun _ => kat_yes (kat_cons (wpAny_eqBool_int ?_))) fun _ => kat_no (oneLt_int (h _))
  exact kat_go (fun _ => kat_yes (kat_nil (h _))) fun _ => kat_no (kat_one _ _ (lt_int (h _)))
theorem pr_tups : ∀ {vs : List Value}, (∀ v ∈ vs, Pr s.heap v) → ∃ fs : List Value, KatTups s.heap vs fs ∧ fs.length = vs.length ∧ ∀ f ∈ fs, ∃ i t, f = .int i t
  | [], _ => ⟨[], .nil, rfl, fun f hf => by cases hf⟩
  | v :: vs, h => by
    obtain ⟨fs, k, hl, hi⟩ := pr_tups (vs := vs) fun v hv => h v (List.mem_cons_of_mem _ hv)
    obtain ⟨x, o, i, j, t, u, n, rfl, ho, hc, hd⟩ := h v List.mem_cons_self
    refine ⟨.int i t :: fs, .cons ho hc hd rfl k, by simp [hl], fun f hf => ?_⟩
    rcases List.mem_cons.mp hf with rfl | hf
    · exact ⟨i, t, rfl⟩
    · exact hi f hf
theorem pr_kind {vs : List Value} (h : ∀ v ∈ vs, Pr s.heap v) (hne : 0 < vs.length) {Q : SortKind → Shared → Prop} (q : Q (tuples' true) s) : wpAny (model prog w) A (keyKind' vs.toArray) Q E s := by
  obtain ⟨fs, k, hl, hi⟩ := pr_tups h
  refine kat_kind (T := .type "int") k (by omega) (fun v hv => ?_) rfl q
  obtain ⟨i, t, rfl⟩ := hi v hv
  exact Looks.of_pure rfl
theorem mem_zip2 {vs : List Value} {p : Keyed} (h : p ∈ vs.toArray.zip vs.toArray) : p.1 ∈ vs ∧ p.2 ∈ vs := by
  have h : p ∈ (vs.toArray.zip vs.toArray).toList := Array.mem_def.mp h
  rw [Array.toList_zip] at h
  obtain ⟨a, b⟩ := p
  exact List.of_mem_zip h
theorem pr_runs {vs : List Value} (h : ∀ v ∈ vs, Pr s.heap v) (h2 : 2 ≤ vs.length) (h66 : vs.length ≤ 66) {Q : Unit → SortSt → Prop}
    (q : ∀ st' : SortSt, failedOf st' = none → ((arrOf st').map (·.2)).size = vs.length → (∀ v ∈ (arrOf st').map (·.2), v ∈ vs) → Q () st') :
    wpS (model prog w) A E s sortRuns' Q (SortSt.mk' (tuples' true) (vs.toArray.zip vs.toArray) #[] 7 none) := by
  have hz : (vs.toArray.zip vs.toArray).size = vs.length := by simp
  refine t_runs (it := (vs.toArray.zip vs.toArray).toList) (κ := tuples' true) (n := vs.length) (fun x hx y hy Q E hq => ?_) ⟨hz, fun x hx => Array.mem_def.mp hx, rfl, rfl⟩ rfl h2 h66 fun st' t => q st' t.f ?_ fun v hv => ?_
  · exact pr_lt (h _ (mem_zip2 (Array.mem_def.mpr hx)).1) (h _ (mem_zip2 (Array.mem_def.mpr hy)).1) hq
  · rw [Array.size_map]; exact t.z
  · obtain ⟨p, hp, rfl⟩ := Array.mem_map.mp hv
    exact (mem_zip2 (Array.mem_def.mpr (t.i p hp))).2
theorem Pr.keeps {h h' : Heap} {v : Value} (p : Pr h v) (k : ∀ b o, h.get? b = some o → o.cls = .type "tuple" → h'.get? b = some o) : Pr h' v := by
  obtain ⟨x, o, i, j, t, u, n, e, ho, hc, hd⟩ := p
  exact ⟨x, o, i, j, t, u, n, e, k _ _ ho hc, hc, hd⟩
theorem sort_pairs {a : Addr} {vs : List Value} {n : Nat} {P : PySem.Fin → Shared → Prop} (ho : s.heap.get? a = some (seqObj "list" vs.toArray n)) (hp : ∀ v ∈ vs, Pr s.heap v) (h66 : vs.length ≤ 66)
    (h : ∀ o : Array Value, o.size = vs.length → (∀ v ∈ o, v ∈ vs) → P (.done (.ret .none)) { s with heap := sortedHeap s.heap a vs o }) : wpAny (model prog w) A (Builtin.«list.sort» ⟨[.ref a], []⟩) P E s := by
  have big : 66 ≤ sizeLine := by decide
  have ha := Heap.lt_size ho
  rw [list_sort_plain]
  refine wpAny_bind (listItems_at ho rfl (wpAny_bind (listUpdate_at ho rfl ?_ (by simp; omega) (Nat.zero_le _))))
  have o1 := get?_update_seq ho (fun _ => (#[] : Array Value))
  refine wpAny_bind (seqEpoch_at o1 rfl (wpAny_bind (wpAny_newTuple (wpAny_bind (wpAny_newList (wpAny_holding ?_) (Nat.zero_le _))) (by show vs.length ≤ _; omega))))
  generalize hH : Heap.push (Heap.push (s.heap.update a (Obj.mapSeq fun _ => (#[] : Array Value))) (seqObj "tuple" vs.toArray 0)) (seqObj "list" #[] 0) = H6
  have hs : ∀ o : Array Value, sortedHeap s.heap a vs o = H6.update a (Obj.mapSeq fun _ => o) := fun o => by rw [← hH]; rfl
  have o6 := Heap.get?_push_of_some (seqObj "list" #[] 0) (Heap.get?_push_of_some (seqObj "tuple" vs.toArray 0) o1)
  rw [hH] at o6
  have hp6 : ∀ v ∈ vs, Pr H6 v := fun v hv => (hp v hv).keeps fun b o e hc => by
    have hb : a ≠ b := fun z => by
      rw [← z, ho] at e
      cases e
      have hc : Value.type "list" = .type "tuple" := hc
      injection hc with hc
      exact absurd hc (by decide)
    rw [← hH]
    refine Heap.get?_push_of_some _ (Heap.get?_push_of_some _ ?_)
    rw [Heap.get?_update_other _ _ hb]
    exact e
  have e6 : ({ s with heap := Heap.push (Heap.push (s.heap.update a (Obj.mapSeq fun _ => (#[] : Array Value))) (seqObj "tuple" vs.toArray 0)) (seqObj "list" #[] 0) } : Shared) = { s with heap := H6 } := by rw [hH]
  refine (show wpAny (model prog w) A _ P E { s with heap := H6 } from ?_)
  dsimp only
  have hz0 : ((vs.toArray.zip vs.toArray).map (fun p : Keyed => p.2)).size = vs.length := by simp
  by_cases q : vs.toArray.size < 2
  · rw [if_pos q, if_pos q]
    refine wpAny_bind (wpAny_pure ?_)
    rw [StateT.run_pure]
    refine wpAny_bind (wpAny_pure (wpAny_bind (seqEpoch_at o6 rfl (wpAny_bind (listUpdate_at o6 rfl ?_ (Nat.zero_le _) (by show ((vs.toArray.zip vs.toArray).map (fun p : Keyed => p.2)).size ≤ _; omega))))))
    simp only [bne_self_eq_false, Bool.false_eq_true, if_false]
    refine wpAny_pure ?_
    rw [← hs]
    refine h _ hz0 fun v hv => ?_
    obtain ⟨p, hp', rfl⟩ := Array.mem_map.mp hv
    exact (mem_zip2 hp').2
  · rw [if_neg q, if_neg q]
    have q : 2 ≤ vs.length := by simp at q; omega
    refine wpAny_bind (pr_kind hp6 (by omega) ?_)
    refine wpAny_bind (wpAny_mono (pr_runs (s := { s with heap := H6 }) hp6 q h66 (Q := fun _ st' => failedOf st' = none ∧ ((arrOf st').map (·.2)).size = vs.length ∧ ∀ v ∈ (arrOf st').map (·.2), v ∈ vs) fun st' a1 a2 a3 => ⟨a1, a2, a3⟩) ?_ fun _ _ e => e)
    rintro ⟨⟨⟩, st'⟩ s' ⟨rfl, hf, hz, hm⟩
    refine wpAny_bind (seqEpoch_at o6 rfl (wpAny_bind (listUpdate_at o6 rfl ?_ (Nat.zero_le _) (by omega))))
    rw [hf]
    simp only [bne_self_eq_false, Bool.false_eq_true, if_false]
    refine wpAny_pure ?_
    rw [← hs]
    exact h _ hz hm
theorem sorted_pairs {l : Addr} {vs : List Value} {Q : Value → Shared → Prop} (hl : s.heap.IsList l vs.toArray) (hp : ∀ v ∈ vs, Pr s.heap v) (h66 : vs.length ≤ 66)
    (h : ∀ o : Array Value, o.size = vs.length → (∀ v ∈ o, v ∈ vs) → Q (.ref (s.heap.objs.size + 1)) { s with heap := sortedAll s.heap vs o }) : wpAny (model prog w) A (call (.builtin "sorted") [.ref l]) Q E s := by
  have big : 66 ≤ sizeLine := by decide
  refine Calls.call_function_entry kind_sorted plain_sorted entry_sorted (args_sorted1 _) ?_
  unfold Builtin.«sorted»
  refine wpAny_bind (m := checkCount "sorted" 1 1 _) (wpAny_pure (wpAny_bind (collect_list hl (wpAny_bind (wpAny_newList ?_ (by show vs.length ≤ _; omega))) (by omega))))
  have hz : (Heap.update (Heap.push s.heap (seqObj "list" #[] 0)) s.heap.objs.size (Obj.mapSeq fun x => x ++ vs.toArray)).objs.size = s.heap.objs.size + 1 := (Heap.size_update _ _ _).trans (size_push' _ _)
  have hk : ∀ b o, s.heap.get? b = some o → (Heap.push (Heap.update (Heap.push s.heap (seqObj "list" #[] 0)) s.heap.objs.size (Obj.mapSeq fun x => x ++ vs.toArray)) (seqObj "list" vs.toArray 0)).get? b = some o := fun b o e => by
    refine Heap.get?_push_of_some _ ?_
    rw [Heap.get?_update_other _ _ (Nat.ne_of_gt (Heap.lt_size e))]
    exact Heap.get?_push_of_some _ e
  have ho := Heap.get?_push_size (Heap.update (Heap.push s.heap (seqObj "list" #[] 0)) s.heap.objs.size (Obj.mapSeq fun x => x ++ vs.toArray)) (o := seqObj "list" vs.toArray 0) rfl
  refine (show wpAny _ _ _ _ _ { s with heap := Heap.push (Heap.update (Heap.push s.heap (seqObj "list" #[] 0)) s.heap.objs.size (Obj.mapSeq fun x => x ++ vs.toArray)) (seqObj "list" vs.toArray 0) } from ?_)
  rw [hz] at ho ⊢
  refine wpAny_bind (wpAny_holding (wpAny_call_entry slot_list_sort ⟨_, ho, rfl⟩ entry_list_sort ?_ (args_list_sort _)))
  refine sort_pairs ho (fun v hv => (hp v hv).keeps fun b o e _ => hk b o e) h66 fun o z m => ⟨_, rfl, wpAny_pure ⟨_, rfl, h o z m⟩⟩
end
section
variable {X : Cx}
theorem vals_pick {ys : List V} : ∀ {l : List Value}, (∀ v ∈ l, ∃ y ∈ ys, RelV y v) → ∃ zs, Vals zs l ∧ ∀ z ∈ zs, z ∈ ys
  | [], _ => ⟨[], .nil, fun z hz => by cases hz⟩
  | v :: l, h => by
    obtain ⟨zs, r, m⟩ := vals_pick (l := l) fun v hv => h v (List.mem_cons_of_mem _ hv)
    obtain ⟨y, hy, e⟩ := h v List.mem_cons_self
    refine ⟨y :: zs, .cons e r, fun z hz => ?_⟩
    rcases List.mem_cons.mp hz with rfl | hz
    · exact hy
    · exact m z hz
def rSortP (K : PySem.W.Frag) : List V → Hp → VK → Prop := fun xs H Q => ∃ (a : Addr) (ys : List V), xs = [V.ref a] ∧ SqL K H a ys ∧ ys.length ≤ 66 ∧ (∀ y ∈ ys, ∃ q i j, y = .ref q ∧ H q = some (.tup [.int i, .int j])) ∧
  ∀ (p : Addr) (zs : List V), H p = none → zs.length = ys.length → (∀ z ∈ zs, z ∈ ys) → Q (.ref p) (upd H p (.lst zs))
theorem call_sortP : CallR X (.builtin "sorted") (rSortP X.K) := by
  intro pins s σ H xs us Q I r h
  obtain ⟨a, ys, rfl, ha, h66, hy, q⟩ := h
  obtain ⟨u, rfl, ru⟩ := r.one
  cases ru
  obtain ⟨its, rv, p, hz⟩ := I.list ha
  have hl := rv.length
  have back : ∀ v ∈ its, ∃ y ∈ ys, RelV y v := fun v hv => by
    obtain ⟨i, hi, e⟩ := List.getElem_of_mem hv
    have hi' : i < ys.length := by omega
    obtain ⟨u, hu, ru⟩ := rv.get (i := i) (x := ys[i]) (by simp [hi'])
    rw [List.getElem?_eq_getElem hi] at hu
    cases hu
    exact ⟨ys[i], List.getElem_mem hi', e ▸ ru⟩
  refine sorted_pairs p.isList (fun v hv => ?_) (by omega) fun o z m => ?_
  · obtain ⟨y, hy', e⟩ := back v hv
    obtain ⟨t, i, j, rfl, ht⟩ := hy y hy'
    cases e
    obtain ⟨_, vs, rr, ob, e1, e2, n, e3⟩ := (show ObjOk X.prog X.w H s.heap t (.tup [.int i, .int j]) from I.hok t _ ht)
    cases rr with
    | cons r1 rr =>
      cases rr with
      | cons r2 rr =>
        cases rr
        obtain ⟨t1, rfl⟩ := r1
        obtain ⟨t2, rfl⟩ := r2
        exact ⟨t, ob, i, j, t1, t2, n, rfl, e1, e2, e3⟩
  · obtain ⟨zs, rz, mz⟩ := vals_pick (ys := ys) (l := o.toList) fun v hv => back v (m v (Array.mem_def.mpr hv))
    have hn : H (s.heap.objs.size + 1) = none := I.hok.fresh (Nat.le_succ _)
    have lz : zs.length = ys.length := by rw [rz.length, Array.length_toList, z, hl]
    obtain ⟨c, hc⟩ := sortedAll_at s.heap its o
    refine ⟨.ref _, _, I.laid (a := s.heap.objs.size + 1) (o := .lst zs) (t' := s.toks) (fun _ _ e => sortedAll_old e) (Nat.le_succ _) ⟨by rw [lz]; exact hz, o.toList, c, rz, hc⟩, rfl, q _ zs hn lz mz⟩
end
end Srt
end L2

/-! SortD -/
set_option Elab.async false
set_option linter.all false
set_option maxRecDepth 100000
set_option maxHeartbeats 4000000
namespace L2
namespace Srt
open PySem PyProof.Rows PySem.W
/-! ### sorted of a dict with fewer than 64 ints for keys -/
section
variable {prog : Program} {w : World} {A : Around} {E : Value → Shared → Prop} {s : Shared}
theorem ints_all : ∀ {ns : List Int} {vs : List Value}, vs.length = ns.length → (∀ (j : Nat) v n, vs[j]? = some v → ns[j]? = some n → ∃ t, v = Value.int n t) → IntsAre vs ns
  | [], [], _, _ => .nil
  | n :: ns, v :: vs, hl, h => by
    obtain ⟨t, rfl⟩ := h 0 v n rfl rfl
    exact .cons _ _ (ints_all (by simpa using hl) fun j v n e1 e2 => h (j + 1) v n (by simpa using e1) (by simpa using e2))
  | [], _ :: _, hl, _ => by simp at hl
  | _ :: _, [], hl, _ => by simp at hl
theorem sorted_dictI {d : Addr} {kvs : List (Key × Value)} {ep : Nat} {ns : List Int} {Q : Value → Shared → Prop} (lo : (d == sysModules) = false) (hh : A.handled = none) (hD : s.heap.DictAt (mixKind prog w) d kvs ep) (hk : kvs.map (·.1) = ns.map Sum.inl) (h64 : ns.length < 64)
    (h : ∀ (D : Addr) (h' : Heap) (tk : Nat) (out : Array Value) (ms : List Int), (∀ b o, s.heap.get? b = some o → h'.get? b = some o) → s.heap.get? D = none → IntsAre out.toList ms → ms.Perm ns → ms.Pairwise (· ≤ ·) → (∃ c, h'.get? D = some (seqObj "list" out c)) → Q (.ref D) { s with heap := h', toks := tk }) :
    wpAny (model prog w) A (call (.builtin "sorted") [.ref d]) Q E s := by
  have big : 64 ≤ sizeLine := by decide
  have hlen : kvs.length = ns.length := by
    have := congrArg List.length hk
    simpa using this
  refine Calls.call_function_entry kind_sorted plain_sorted entry_sorted (args_sorted1 _) ?_
  unfold Builtin.«sorted»
  refine wpAny_bind (m := checkCount "sorted" 1 1 _) (wpAny_pure ?_)
  refine wpAny_bind (kdu_collect (A := A.in1) (kdl_dict (knd := mixKind prog w) (kvs := kvs) (ep := ep) lo) hh hD (by omega) fun h' tk acc hk' hacc => ?_)
  have hl : acc.toList.length = kvs.length := by rw [Array.length_toList]; exact hacc.1
  have hI : IntsAre acc.toList ns := ints_all (by omega) fun j v n e1 e2 => by
    obtain ⟨k, x, hx, hkk⟩ := hacc.2 j v (by rw [← Array.getElem?_toList]; exact e1)
    have e3 : (kvs.map (·.1))[j]? = some k := by rw [List.getElem?_map, hx]; rfl
    rw [hk, List.getElem?_map, e2] at e3
    obtain rfl : (Sum.inl n : Key) = k := by simpa using e3
    rcases keyIs_shape (k := Sum.inl n) (v := v) hkk with ⟨i, t, e, rfl⟩ | ⟨i, t, e, rfl⟩
    · injection e with e
      exact ⟨t, by rw [e]⟩
    · cases e
  refine wpAny_bind (wpAny_newList ?_ (by omega))
  have hoL : (h'.push (seqObj "list" acc.toList.toArray 0)).get? h'.objs.size = some (seqObj "list" acc.toList.toArray 0) := Heap.get?_push_size _ rfl
  refine (show wpAny _ _ _ _ _ { s with heap := h'.push (seqObj "list" acc.toList.toArray 0), toks := tk } from ?_)
  refine wpAny_bind (wpAny_holding (wpAny_call_entry slot_list_sort ⟨_, hoL, rfl⟩ entry_list_sort (list_sort_tree hoL hI (by omega) fun out ns' a1 a2 a3 => ⟨_, rfl, ?_⟩) (args_list_sort _)))
  refine wpAny_pure ⟨_, rfl, h h'.objs.size _ tk out ns' (fun b o e => ?_) ?_ a1 a2 a3 (sortedHeap_at hoL)⟩
  · have e1 := hk' b o e
    have lt := Heap.lt_size e1
    rw [sortedHeap_old (Nat.ne_of_lt lt) (by rw [size_push']; exact Nat.lt_succ_of_lt lt)]
    exact Heap.get?_push_of_some _ e1
  · cases z : s.heap.get? h'.objs.size with
    | none => rfl
    | some o => exact absurd (Heap.lt_size (hk' _ _ z)) (Nat.lt_irrefl _)
end
section
variable {X : Cx} {pins : List (Addr × Obj)} {σ : St} {H : Hp} {s : Shared} {h' : Heap}
theorem laidF {a : Addr} {o : HO} {t' : Nat} (I : Inv X pins σ H s) (k : ∀ b u, s.heap.get? b = some u → h'.get? b = some u) (hf : s.heap.get? a = none) (new : ObjOk X.prog X.w (upd H a o) h' a o) :
    Inv X pins σ (upd H a o) { s with heap := h', toks := t' } := by
  have hn : H a = none := I.hok.untr hf
  have ne : ∀ b u, s.heap.get? b = some u → b ≠ a := fun b u q z => by rw [z, hf] at q; cases q
  refine I.un ⟨fun b u q _ _ _ => k b u q, fun b u q _ _ _ => ⟨u.slots, k b u q⟩, fun b u q n _ => by rw [upd_ne (ne b u q)]; exact n, fun b u q _ => ⟨u, k b u q⟩, fun b xs q => by rw [upd_ne (ne_of_none q hn)]; exact q,
    fun b u xs q => by rw [upd_ne (ne_of_none q hn)]; exact q, fun b ps q => ⟨#[], by rw [upd_ne (ne_of_none q hn), q]; simp⟩⟩ fun b u e => ?_
  by_cases hb : b = a
  · subst hb; rw [upd_same] at e; cases e; exact new
  · rw [upd_ne hb] at e
    exact (I.hok b u e).stay (fun c v _ q => k c v q) (fun c q => by rw [upd_ne (ne_of_none q hn)]; exact q) fun c xs q => by rw [upd_ne (ne_of_none q hn)]; exact q
theorem KV.keys {κ : Type} : ∀ {kvs : List (κ × V)} {vs : List (κ × Value)}, KV kvs vs → kvs.map (·.1) = vs.map (·.1)
  | [], _, r => by cases r; rfl
  | p :: kvs, _, r => by
    cases r with
    | cons h t => rw [List.map_cons, List.map_cons, KV.keys t, h.1]
def rSortD : List V → Hp → VK → Prop := fun xs H Q => ∃ (a : Addr) (kvs : List (Key × V)) (ns : List Int), xs = [V.ref a] ∧ H a = some (.dK kvs) ∧ kvs.map (·.1) = ns.map Sum.inl ∧ ns.length < 64 ∧
  ∀ (p : Addr) (ms : List Int), H p = none → ms.Perm ns → ms.Pairwise (· ≤ ·) → Q (.ref p) (upd H p (.lst (ms.map V.int)))
theorem call_sortD (hc : X.calm = true := by rfl) : CallR X (.builtin "sorted") rSortD := by
  intro pins s σ H xs us Q I r h
  obtain ⟨a, kvs, ns, rfl, ha, hk, h64, q⟩ := h
  obtain ⟨u, rfl, ru⟩ := r.one
  cases ru
  have big : 64 ≤ sizeLine := by decide
  obtain ⟨hz, lo, vs, rel, hD⟩ := dk_of I.hok ha
  obtain ⟨ep, hat⟩ := hD.dictAt
  refine sorted_dictI lo (I.ok.hd hc) hat (by rw [← KV.keys rel]; exact hk) h64 fun D h' tk out ms k1 k2 a1 a2 a3 k3 => ?_
  obtain ⟨c, k3⟩ := k3
  exact ⟨.ref D, _, laidF (o := .lst (ms.map V.int)) I k1 k2 ⟨by rw [List.length_map, a2.length_eq]; omega, out.toList, c, of_ints a1, by rw [Array.toArray_toList]; exact k3⟩, rfl, q D ms (I.hok.untr k2) a2 a3⟩
end
end Srt
end L2

/-! Gr -/
set_option Elab.async false
set_option linter.all false
namespace K04
open PySem L2
/-! ### hands and lines, apart from the text -/
structure Hs (hs : List Int) : Prop where
  l1 : 1 ≤ hs.length
  l12 : hs.length ≤ 12
  up : hs.Pairwise (· < ·)
  lo : ∀ h ∈ hs, 0 ≤ h
  hi : ∀ h ∈ hs, h ≤ 99
structure Ls (hs : List Int) (ls : List (Int × Int)) : Prop where
  nd : ls.Nodup
  ok : ∀ p ∈ ls, p.1 ∈ hs ∧ p.2 ∈ hs ∧ p.1 < p.2
  le : ls.length ≤ 66
def Adj (ls : List (Int × Int)) (x y : Int) : Prop := (x, y) ∈ ls ∨ (y, x) ∈ ls
theorem Adj.symm {ls : List (Int × Int)} {x y : Int} (h : Adj ls x y) : Adj ls y x := h.elim .inr .inl
theorem Adj.mem {hs : List Int} {ls : List (Int × Int)} {x y : Int} (L : Ls hs ls) (h : Adj ls x y) : x ∈ hs ∧ y ∈ hs := by
  rcases h with h | h
  · exact ⟨(L.ok _ h).1, (L.ok _ h).2.1⟩
  · exact ⟨(L.ok _ h).2.1, (L.ok _ h).1⟩
inductive Rch (ls : List (Int × Int)) (s : Int) : Int → Prop where
  | start : Rch ls s s
  | step {x y : Int} : Rch ls s x → Adj ls x y → Rch ls s y
theorem Rch.trans {ls : List (Int × Int)} {x y z : Int} (a : Rch ls x y) (b : Rch ls y z) : Rch ls x z := by
  induction b with
  | start => exact a
  | step _ h ih => exact .step ih h
theorem Rch.symm {ls : List (Int × Int)} {x y : Int} (a : Rch ls x y) : Rch ls y x := by
  induction a with
  | start => exact .start
  | step _ h ih => exact (Rch.step .start h.symm).trans ih
theorem Rch.mem {hs : List Int} {ls : List (Int × Int)} {x y : Int} (L : Ls hs ls) (hx : x ∈ hs) (a : Rch ls x y) : y ∈ hs := by
  cases a with
  | start => exact hx
  | step _ h => exact (h.mem L).2
theorem Rch.closed {ls : List (Int × Int)} {s y : Int} {r : List Int} (h0 : s ∈ r) (hc : ∀ x ∈ r, ∀ y, Adj ls x y → y ∈ r) (a : Rch ls s y) : y ∈ r := by
  induction a with
  | start => exact h0
  | step _ h ih => exact hc _ ih _ h
open Classical in
noncomputable def comp (hs : List Int) (ls : List (Int × Int)) (s : Int) : List Int := hs.filter fun x => decide (Rch ls s x)
open Classical in
theorem mem_comp {hs : List Int} {ls : List (Int × Int)} {s x : Int} : x ∈ comp hs ls s ↔ x ∈ hs ∧ Rch ls s x := by
  unfold comp
  rw [List.mem_filter, decide_eq_true_iff]
theorem comp_up {hs : List Int} {ls : List (Int × Int)} {s : Int} (h : hs.Pairwise (· < ·)) : (comp hs ls s).Pairwise (· < ·) := h.filter _
theorem comp_le {hs : List Int} {ls : List (Int × Int)} {s : Int} : (comp hs ls s).length ≤ hs.length := List.length_filter_le _ _
theorem up_nodup {as : List Int} (h : as.Pairwise (· < ·)) : as.Nodup := h.imp fun {a b} z => by omega
theorem up_eq : ∀ {as bs : List Int}, as.Pairwise (· < ·) → bs.Pairwise (· < ·) → (∀ x, x ∈ as ↔ x ∈ bs) → as = bs
  | [], [], _, _, _ => rfl
  | [], b :: bs, _, _, h => by cases (h b).mpr List.mem_cons_self
  | a :: as, [], _, _, h => by cases (h a).mp List.mem_cons_self
  | a :: as, b :: bs, h1, h2, h => by
    rw [List.pairwise_cons] at h1 h2
    have e : a = b := by
      rcases List.mem_cons.mp ((h a).mp List.mem_cons_self) with e | m
      · exact e
      · rcases List.mem_cons.mp ((h b).mpr List.mem_cons_self) with e | m'
        · exact e.symm
        · have := h2.1 a m; have := h1.1 b m'; omega
    subst e
    rw [up_eq h1.2 h2.2 fun x => ?_]
    constructor
    · intro m
      rcases List.mem_cons.mp ((h x).mp (List.mem_cons_of_mem _ m)) with e | m'
      · subst e; have := h1.1 x m; omega
      · exact m'
    · intro m
      rcases List.mem_cons.mp ((h x).mpr (List.mem_cons_of_mem _ m)) with e | m'
      · subst e; have := h2.1 x m; omega
      · exact m'
theorem sort_is {ms ns bs : List Int} (p : ms.Perm ns) (h : ms.Pairwise (· ≤ ·)) (hn : ns.Nodup) (hb : bs.Pairwise (· < ·)) (hm : ∀ x, x ∈ ns ↔ x ∈ bs) : ms = bs := by
  have hn' : ms.Nodup := p.nodup_iff.mpr hn
  refine up_eq ?_ hb fun x => (p.mem_iff).trans (hm x)
  have : ms.Pairwise fun a b => a ≤ b ∧ a ≠ b := List.Pairwise.and h hn'
  exact this.imp fun {a b} z => by omega
theorem nd_le : ∀ {as bs : List Int}, as.Nodup → (∀ x ∈ as, x ∈ bs) → as.length ≤ bs.length
  | [], _, _, _ => Nat.zero_le _
  | a :: as, bs, hn, hs => by
    rw [List.nodup_cons] at hn
    have ha := hs a List.mem_cons_self
    have ih := nd_le (as := as) (bs := bs.erase a) hn.2 fun x hx => by
      have ne : x ≠ a := fun z => hn.1 (by rw [← z]; exact hx)
      exact (List.mem_erase_of_ne ne).mpr (hs x (List.mem_cons_of_mem _ hx))
    rw [List.length_erase_of_mem ha] at ih
    have := List.length_pos_of_mem ha
    rw [List.length_cons]; omega
/-! neighbours, as they are put down -/
def nbs (ls : List (Int × Int)) (h : Int) : List Int := ls.flatMap fun p => (if p.1 = h then [p.2] else []) ++ if p.2 = h then [p.1] else []
theorem mem_nbs {ls : List (Int × Int)} {h x : Int} : x ∈ nbs ls h ↔ Adj ls h x := by
  unfold nbs Adj
  rw [List.mem_flatMap]
  constructor
  · rintro ⟨⟨u, v⟩, hp, hx⟩
    dsimp only at hx
    rw [List.mem_append] at hx
    rcases hx with hx | hx
    · split at hx
      · rename_i e; subst e
        rw [List.mem_singleton] at hx; subst hx; exact .inl hp
      · cases hx
    · split at hx
      · rename_i e; subst e
        rw [List.mem_singleton] at hx; subst hx; exact .inr hp
      · cases hx
  · rintro (h1 | h1)
    · exact ⟨_, h1, by simp⟩
    · exact ⟨_, h1, by simp⟩
theorem nbs_len {h : Int} : ∀ {ls : List (Int × Int)}, (nbs ls h).length ≤ 2 * ls.length
  | [] => Nat.le_refl _
  | p :: ls => by
    have ih := nbs_len (h := h) (ls := ls)
    unfold nbs at ih ⊢
    rw [List.flatMap_cons, List.length_append, List.length_append, List.length_cons]
    have h1 : (if p.1 = h then [p.2] else []).length ≤ 1 := by split <;> simp
    have h2 : (if p.2 = h then [p.1] else []).length ≤ 1 := by split <;> simp
    omega
theorem nbs_snoc {ls : List (Int × Int)} {p : Int × Int} {h : Int} : nbs (ls ++ [p]) h = nbs ls h ++ ((if p.1 = h then [p.2] else []) ++ if p.2 = h then [p.1] else []) := by
  unfold nbs
  rw [List.flatMap_append, List.flatMap_cons, List.flatMap_nil, List.append_nil]
theorem nbs_take {ls : List (Int × Int)} {p : Int × Int} {i : Nat} {h : Int} (e : ls[i]? = some p) : nbs (ls.take (i + 1)) h = nbs (ls.take i) h ++ ((if p.1 = h then [p.2] else []) ++ if p.2 = h then [p.1] else []) := by
  rw [List.take_add_one, e]
  exact nbs_snoc
/-! groups -/
def Least (hs : List Int) (ls : List (Int × Int)) (h : Int) : Prop := ∀ x ∈ hs, Rch ls h x → h ≤ x
open Classical in
noncomputable def reps (ls : List (Int × Int)) (hs us : List Int) : List Int := us.filter fun h => decide (Least hs ls h)
open Classical in
theorem mem_reps {hs us : List Int} {ls : List (Int × Int)} {h : Int} : h ∈ reps ls hs us ↔ h ∈ us ∧ Least hs ls h := by
  unfold reps
  rw [List.mem_filter, decide_eq_true_iff]
noncomputable def grs (ls : List (Int × Int)) (hs us : List Int) : List (List Int) := (reps ls hs us).map (comp hs ls)
open Classical in
theorem reps_snoc_pos {hs us : List Int} {ls : List (Int × Int)} {h : Int} (l : Least hs ls h) : reps ls hs (us ++ [h]) = reps ls hs us ++ [h] := by
  unfold reps
  rw [List.filter_append, List.filter_cons, if_pos (decide_eq_true l), List.filter_nil]
open Classical in
theorem reps_snoc_neg {hs us : List Int} {ls : List (Int × Int)} {h : Int} (l : ¬ Least hs ls h) : reps ls hs (us ++ [h]) = reps ls hs us := by
  unfold reps
  rw [List.filter_append, List.filter_cons, if_neg (by rw [decide_eq_true_iff]; exact l), List.filter_nil, List.append_nil]
theorem comp_head {hs : List Int} {ls : List (Int × Int)} {h : Int} (up : hs.Pairwise (· < ·)) (m : h ∈ hs) (l : Least hs ls h) : ∃ t, comp hs ls h = h :: t := by
  have hm : h ∈ comp hs ls h := mem_comp.mpr ⟨m, .start⟩
  have hu := comp_up (ls := ls) (s := h) up
  match e : comp hs ls h with
  | [] => rw [e] at hm; cases hm
  | y :: t =>
    rw [e] at hm hu
    have hy : y ∈ comp hs ls h := by rw [e]; exact List.mem_cons_self
    have := l y (mem_comp.mp hy).1 (mem_comp.mp hy).2
    rcases List.mem_cons.mp hm with e' | m'
    · subst e'; exact ⟨t, rfl⟩
    · have := (List.pairwise_cons.mp hu).1 h m'
      omega
theorem rep_of {hs : List Int} {ls : List (Int × Int)} {x : Int} (up : hs.Pairwise (· < ·)) (m : x ∈ hs) : ∃ h ∈ hs, Least hs ls h ∧ Rch ls h x ∧ h ≤ x := by
  have hm : x ∈ comp hs ls x := mem_comp.mpr ⟨m, .start⟩
  have hu := comp_up (ls := ls) (s := x) up
  match e : comp hs ls x with
  | [] => rw [e] at hm; cases hm
  | y :: t =>
    have hy : y ∈ comp hs ls x := by rw [e]; exact List.mem_cons_self
    obtain ⟨y1, y2⟩ := mem_comp.mp hy
    rw [e] at hu hm
    have least : ∀ z ∈ comp hs ls x, y ≤ z := fun z hz => by
      rw [e] at hz
      rcases List.mem_cons.mp hz with rfl | hz
      · exact Int.le_refl _
      · have := (List.pairwise_cons.mp hu).1 z hz
        omega
    exact ⟨y, y1, fun z hz r => least z (mem_comp.mpr ⟨hz, y2.trans r⟩), y2.symm, least x (mem_comp.mpr ⟨m, .start⟩)⟩
theorem rep_one {hs : List Int} {ls : List (Int × Int)} {g h x : Int} (mg : g ∈ hs) (mh : h ∈ hs) (lg : Least hs ls g) (lh : Least hs ls h) (rg : Rch ls g x) (rh : Rch ls h x) : g = h := by
  have := lg h mh (rg.trans rh.symm)
  have := lh g mg (rh.trans rg.symm)
  omega
theorem flat_nd {hs : List Int} {ls : List (Int × Int)} {us : List Int} (up : hs.Pairwise (· < ·)) (su : ∀ x ∈ us, x ∈ hs) (nu : us.Nodup) : (grs ls hs us).flatten.Nodup := by
  unfold List.Nodup
  rw [List.pairwise_flatten]
  refine ⟨fun l hl => ?_, ?_⟩
  · obtain ⟨h, _, rfl⟩ := List.mem_map.mp hl
    exact up_nodup (comp_up up)
  · unfold grs
    rw [List.pairwise_map]
    have hn : (reps ls hs us).Nodup := nu.filter _
    refine hn.imp_of_mem fun {g h} mg mh ne x hx y hy => ?_
    rintro rfl
    exact ne (rep_one (su _ (mem_reps.mp mg).1) (su _ (mem_reps.mp mh).1) (mem_reps.mp mg).2 (mem_reps.mp mh).2 (mem_comp.mp hx).2 (mem_comp.mp hy).2)
theorem flat_mem {hs : List Int} {ls : List (Int × Int)} {x : Int} (up : hs.Pairwise (· < ·)) : x ∈ (grs ls hs hs).flatten ↔ x ∈ hs := by
  rw [List.mem_flatten]
  constructor
  · rintro ⟨l, hl, hx⟩
    obtain ⟨h, _, rfl⟩ := List.mem_map.mp hl
    exact (mem_comp.mp hx).1
  · intro m
    obtain ⟨h, mh, lh, r, _⟩ := rep_of (ls := ls) up m
    exact ⟨comp hs ls h, List.mem_map.mpr ⟨h, mem_reps.mpr ⟨mh, lh⟩, rfl⟩, mem_comp.mpr ⟨m, r⟩⟩
end K04

/-! Gr2 -/
set_option Elab.async false
set_option linter.all false
namespace K04
open PySem L2
/-! ### how many lines there can be -/
def pairs : List Int → List (Int × Int)
  | [] => []
  | h :: t => t.map (fun x => (h, x)) ++ pairs t
theorem pairs_len : ∀ hs : List Int, (pairs hs).length * 2 + hs.length = hs.length * hs.length
  | [] => rfl
  | h :: t => by
    have ih := pairs_len t
    show (t.map (fun x => (h, x)) ++ pairs t).length * 2 + (t.length + 1) = (t.length + 1) * (t.length + 1)
    rw [List.length_append, List.length_map]
    have e : (t.length + 1) * (t.length + 1) = t.length * t.length + t.length + (t.length + 1) := by rw [Nat.succ_mul, Nat.mul_succ]
    omega
theorem pairs_mem : ∀ {hs : List Int} {x y : Int}, hs.Pairwise (· < ·) → x ∈ hs → y ∈ hs → x < y → (x, y) ∈ pairs hs
  | h :: t, x, y, up, hx, hy, lt => by
    rw [List.pairwise_cons] at up
    show (x, y) ∈ t.map (fun x => (h, x)) ++ pairs t
    rw [List.mem_append]
    rcases List.mem_cons.mp hx with rfl | hx'
    · rcases List.mem_cons.mp hy with rfl | hy
      · omega
      · exact .inl (List.mem_map.mpr ⟨y, hy, rfl⟩)
    · rcases List.mem_cons.mp hy with rfl | hy
      · have := up.1 x hx'; omega
      · exact .inr (pairs_mem up.2 hx' hy lt)
theorem nd_le2 : ∀ {as bs : List (Int × Int)}, as.Nodup → (∀ x ∈ as, x ∈ bs) → as.length ≤ bs.length
  | [], _, _, _ => Nat.zero_le _
  | a :: as, bs, hn, hs => by
    rw [List.nodup_cons] at hn
    have ha := hs a List.mem_cons_self
    have ih := nd_le2 (as := as) (bs := bs.erase a) hn.2 fun x hx => by
      have ne : x ≠ a := fun z => hn.1 (by rw [← z]; exact hx)
      exact (List.mem_erase_of_ne ne).mpr (hs x (List.mem_cons_of_mem _ hx))
    rw [List.length_erase_of_mem ha] at ih
    have := List.length_pos_of_mem ha
    rw [List.length_cons]; omega
theorem Ls.of {hs : List Int} {ls : List (Int × Int)} (W : Hs hs) (nd : ls.Nodup) (ok : ∀ p ∈ ls, p.1 ∈ hs ∧ p.2 ∈ hs ∧ p.1 < p.2) : Ls hs ls where
  nd := nd
  ok := ok
  le := by
    have h1 := nd_le2 (bs := pairs hs) nd fun p hp => pairs_mem W.up (ok p hp).1 (ok p hp).2.1 (ok p hp).2.2
    have h2 := pairs_len hs
    have h3 : hs.length * hs.length ≤ 12 * hs.length := Nat.mul_le_mul_right _ W.l12
    have h4 := W.l12
    omega
theorem Ls.turn {hs : List Int} {ls : List (Int × Int)} (L : Ls hs ls) (t : Nat) : Ls hs (ls.drop t ++ ls.take t) where
  nd := by
    have p : (ls.drop t ++ ls.take t).Perm ls := List.perm_append_comm.trans (by rw [List.take_append_drop])
    exact p.nodup_iff.mpr L.nd
  ok := fun p hp => by
    rcases List.mem_append.mp hp with m | m
    · exact L.ok p (List.mem_of_mem_drop m)
    · exact L.ok p (List.mem_of_mem_take m)
  le := by
    have := L.le
    rw [List.length_append, List.length_drop, List.length_take]
    omega
theorem cut_lo {xs : List V} {t : Nat} (h : t ≤ xs.length) : cutV xs (some (t : Int)) none = xs.drop t := by
  unfold cutV
  rw [HT.sIx_nat, HT.sIx_none, Nat.min_eq_left h]
  exact List.take_of_length_le (by rw [List.length_drop]; exact Nat.le_refl _)
theorem cut_hi {xs : List V} {t : Nat} (h : t ≤ xs.length) : cutV xs none (some (t : Int)) = xs.take t := by
  unfold cutV
  rw [HT.sIx_nat, HT.sIx_none, Nat.min_eq_left h, List.drop_zero, Nat.sub_zero]
theorem Hs.shift {hs : List Int} {h0 : Int} {t : List Int} (W : Hs hs) (e : hs = h0 :: t) : Hs (hs.map fun h => h - h0) where
  l1 := by rw [List.length_map]; exact W.l1
  l12 := by rw [List.length_map]; exact W.l12
  up := by
    rw [List.pairwise_map]
    exact W.up.imp fun {a b} z => by omega
  lo := fun x hx => by
    obtain ⟨h, m, rfl⟩ := List.mem_map.mp hx
    subst e
    have up := W.up
    rw [List.pairwise_cons] at up
    rcases List.mem_cons.mp m with rfl | m
    · omega
    · have := up.1 h m; omega
  hi := fun x hx => by
    obtain ⟨h, m, rfl⟩ := List.mem_map.mp hx
    have := W.hi h m
    have := W.lo h0 (by rw [e]; exact List.mem_cons_self)
    omega
end K04

/-! K03a -/
set_option Elab.async false
set_option linter.all false
set_option maxRecDepth 100000
set_option maxHeartbeats 4000000
namespace K04
open PySem L2
def top (i : Nat) : Stmt := PySem.Challenge.pw_beatless_k03_groups.main.body.getD i (.Pass ⟨0, 0, 0, 0⟩)
abbrev st_is_whole : Stmt := top 5
abbrev st_are_hands : Stmt := top 9
abbrev st_is_line : Stmt := top 10
abbrev st_are_lines : Stmt := top 11
abbrev st_near_by_hand : Stmt := top 12
abbrev st__law_cell_at : Stmt := top 15
abbrev st__law_digit : Stmt := top 16
abbrev st__law_web : Stmt := top 17
abbrev st__law_reached : Stmt := top 18
abbrev st_law : Stmt := top 19
abbrev st_Web___init__ : Stmt := inClass (top 13) 0
abbrev st_Web_hands : Stmt := inClass (top 13) 1
abbrev st_Web_lines : Stmt := inClass (top 13) 2
abbrev st_Web_groups : Stmt := inClass (top 13) 6
abbrev st_Web_group_of : Stmt := inClass (top 13) 7
theorem sc_is_whole : FnScope ["value"] ["value"] (defScope st_is_whole) := ⟨rfl, rfl, rfl, by decide +kernel, rfl, by decide +kernel, by decide +kernel⟩
theorem sc_are_hands : FnScope ["hands", "ahead", "hand"] ["hands"] (defScope st_are_hands) := ⟨rfl, rfl, rfl, by decide +kernel, rfl, by decide +kernel, by decide +kernel⟩
theorem sc_is_line : FnScope ["line", "hands"] ["line", "hands"] (defScope st_is_line) := ⟨rfl, rfl, rfl, by decide +kernel, rfl, by decide +kernel, by decide +kernel⟩
theorem sc_are_lines : FnScope ["lines", "hands", "seen", "line"] ["lines", "hands"] (defScope st_are_lines) := ⟨rfl, rfl, rfl, by decide +kernel, rfl, by decide +kernel, by decide +kernel⟩
theorem sc_near_by_hand : FnScope ["hands", "lines", "near", "hand", "one", "other"] ["hands", "lines"] (defScope st_near_by_hand) := ⟨rfl, rfl, rfl, by decide +kernel, rfl, by decide +kernel, by decide +kernel⟩
theorem sc__law_cell_at : FnScope ["_law_script", "_law_k"] ["_law_script", "_law_k"] (defScope st__law_cell_at) := ⟨rfl, rfl, rfl, by decide +kernel, rfl, by decide +kernel, by decide +kernel⟩
theorem sc__law_digit : FnScope ["_law_state", "_law_base", "_law_cell", "_law_found", "_law_number"] ["_law_state", "_law_base"] (defScope st__law_digit) := ⟨rfl, rfl, rfl, by decide +kernel, rfl, by decide +kernel, by decide +kernel⟩
theorem sc__law_web : FnScope ["_law_state", "_law_hands", "_law_low", "_law_k", "_law_more", "_law_lines", "_law_thin", "_law_one", "_law_other", "_law_turn"] ["_law_state"] (defScope st__law_web) := ⟨rfl, rfl, rfl, by decide +kernel, rfl, by decide +kernel, by decide +kernel⟩
theorem sc__law_reached : FnScope ["_law_group", "_law_lines", "_law_found", "_law_turn", "_law_one", "_law_other"] ["_law_group", "_law_lines"] (defScope st__law_reached) := ⟨rfl, rfl, rfl, by decide +kernel, rfl, by decide +kernel, by decide +kernel⟩
theorem sc_law : FnScope ["_law_script", "_law_hands", "_law_lines", "_law_web_here", "_law_found", "_law_flat", "_law_group", "_law_firsts", "_law_kept"] ["_law_script"] (defScope st_law) := ⟨rfl, rfl, rfl, by decide +kernel, rfl, by decide +kernel, by decide +kernel⟩
theorem sc_Web___init__ : FnScope ["self", "hands", "lines"] ["self", "hands", "lines"] (defScope st_Web___init__) := ⟨rfl, rfl, rfl, by decide +kernel, rfl, by decide +kernel, by decide +kernel⟩
theorem sc_Web_hands : FnScope ["self"] ["self"] (defScope st_Web_hands) := ⟨rfl, rfl, rfl, by decide +kernel, rfl, by decide +kernel, by decide +kernel⟩
theorem sc_Web_lines : FnScope ["self"] ["self"] (defScope st_Web_lines) := ⟨rfl, rfl, rfl, by decide +kernel, rfl, by decide +kernel, by decide +kernel⟩
theorem sc_Web_groups : FnScope ["self", "found", "placed", "hand", "group", "member"] ["self"] (defScope st_Web_groups) := ⟨rfl, rfl, rfl, by decide +kernel, rfl, by decide +kernel, by decide +kernel⟩
theorem sc_Web_group_of : FnScope ["self", "hand", "reached", "left", "here", "other"] ["self", "hand"] (defScope st_Web_group_of) := ⟨rfl, rfl, rfl, by decide +kernel, rfl, by decide +kernel, by decide +kernel⟩
/-- the addresses -/
structure Ad where
  f_is_whole : Addr
  d_is_whole : FuncData
  f_are_hands : Addr
  d_are_hands : FuncData
  f_is_line : Addr
  d_is_line : FuncData
  f_are_lines : Addr
  d_are_lines : FuncData
  f_near_by_hand : Addr
  d_near_by_hand : FuncData
  f__law_cell_at : Addr
  d__law_cell_at : FuncData
  f__law_digit : Addr
  d__law_digit : FuncData
  f__law_web : Addr
  d__law_web : FuncData
  f__law_reached : Addr
  d__law_reached : FuncData
  f_law : Addr
  d_law : FuncData
  f_Web___init__ : Addr
  d_Web___init__ : FuncData
  f_Web_hands : Addr
  d_Web_hands : FuncData
  f_Web_lines : Addr
  d_Web_lines : FuncData
  f_Web_groups : Addr
  d_Web_groups : FuncData
  f_Web_group_of : Addr
  d_Web_group_of : FuncData
  c_Web : Addr
  t_MOST_HANDS : Tok
  t_LAST_HAND : Tok
/-- what the top has written -/
structure Txt (K : PySem.W.Frag) (mg : Str → Option Value) (a : Ad) : Prop where
  n_len : mg "len" = none
  n_int : mg "int" = none
  n_min : mg "min" = none
  n_range : mg "range" = none
  n_isinstance : mg "isinstance" = none
  n_list : mg "list" = none
  n_sorted : mg "sorted" = none
  n_bool : mg "bool" = none
  n_tuple : mg "tuple" = none
  n_ValueError : mg "ValueError" = none
  F_is_whole : Fun K "is_whole" "is_whole" st_is_whole a.f_is_whole a.d_is_whole
  b_is_whole : Binds K a.d_is_whole ["value"] []
  g_is_whole : mg "is_whole" = some (.ref a.f_is_whole)
  F_are_hands : Fun K "are_hands" "are_hands" st_are_hands a.f_are_hands a.d_are_hands
  b_are_hands : Binds K a.d_are_hands ["hands"] []
  g_are_hands : mg "are_hands" = some (.ref a.f_are_hands)
  F_is_line : Fun K "is_line" "is_line" st_is_line a.f_is_line a.d_is_line
  b_is_line : Binds K a.d_is_line ["line", "hands"] []
  g_is_line : mg "is_line" = some (.ref a.f_is_line)
  F_are_lines : Fun K "are_lines" "are_lines" st_are_lines a.f_are_lines a.d_are_lines
  b_are_lines : Binds K a.d_are_lines ["lines", "hands"] []
  g_are_lines : mg "are_lines" = some (.ref a.f_are_lines)
  F_near_by_hand : Fun K "near_by_hand" "near_by_hand" st_near_by_hand a.f_near_by_hand a.d_near_by_hand
  b_near_by_hand : Binds K a.d_near_by_hand ["hands", "lines"] []
  g_near_by_hand : mg "near_by_hand" = some (.ref a.f_near_by_hand)
  F__law_cell_at : Fun K "_law_cell_at" "_law_cell_at" st__law_cell_at a.f__law_cell_at a.d__law_cell_at
  b__law_cell_at : Binds K a.d__law_cell_at ["_law_script", "_law_k"] []
  g__law_cell_at : mg "_law_cell_at" = some (.ref a.f__law_cell_at)
  F__law_digit : Fun K "_law_digit" "_law_digit" st__law_digit a.f__law_digit a.d__law_digit
  b__law_digit : Binds K a.d__law_digit ["_law_state", "_law_base"] []
  g__law_digit : mg "_law_digit" = some (.ref a.f__law_digit)
  F__law_web : Fun K "_law_web" "_law_web" st__law_web a.f__law_web a.d__law_web
  b__law_web : Binds K a.d__law_web ["_law_state"] []
  g__law_web : mg "_law_web" = some (.ref a.f__law_web)
  F__law_reached : Fun K "_law_reached" "_law_reached" st__law_reached a.f__law_reached a.d__law_reached
  b__law_reached : Binds K a.d__law_reached ["_law_group", "_law_lines"] []
  g__law_reached : mg "_law_reached" = some (.ref a.f__law_reached)
  F_law : Fun K "law" "law" st_law a.f_law a.d_law
  b_law : Binds K a.d_law ["_law_script"] []
  b0_law : ∀ (s : Shared) (u : Value), BindsTo s a.d_law ⟨[u], []⟩ [("_law_script", u)]
  g_law : mg "law" = some (.ref a.f_law)
  F_Web___init__ : Fun K "__init__" "Web.__init__" st_Web___init__ a.f_Web___init__ a.d_Web___init__
  b_Web___init__ : Binds K a.d_Web___init__ ["self", "hands", "lines"] []
  F_Web_hands : Fun K "hands" "Web.hands" st_Web_hands a.f_Web_hands a.d_Web_hands
  b_Web_hands : Binds K a.d_Web_hands ["self"] []
  mt_Web_hands : Meth K a.c_Web "hands" a.f_Web_hands
  F_Web_lines : Fun K "lines" "Web.lines" st_Web_lines a.f_Web_lines a.d_Web_lines
  b_Web_lines : Binds K a.d_Web_lines ["self"] []
  mt_Web_lines : Meth K a.c_Web "lines" a.f_Web_lines
  F_Web_groups : Fun K "groups" "Web.groups" st_Web_groups a.f_Web_groups a.d_Web_groups
  b_Web_groups : Binds K a.d_Web_groups ["self"] []
  mt_Web_groups : Meth K a.c_Web "groups" a.f_Web_groups
  F_Web_group_of : Fun K "group_of" "Web.group_of" st_Web_group_of a.f_Web_group_of a.d_Web_group_of
  b_Web_group_of : Binds K a.d_Web_group_of ["self", "hand"] []
  mt_Web_group_of : Meth K a.c_Web "group_of" a.f_Web_group_of
  g_Web : mg "Web" = some (.ref a.c_Web)
  cl_Web : Cls K a.c_Web
  mk_Web : Mk K a.c_Web a.f_Web___init__
  ty_Web : ∀ (H : Hp) (p dx : Addr) (fs : List (Str × V)), H p = some (.ins a.c_Web dx fs) → TyOf K H (.ref p) (.ref a.c_Web)
  na_Web_own_hands : NoAttr K a.c_Web "own_hands"
  na_Web_own_lines : NoAttr K a.c_Web "own_lines"
  na_Web_near : NoAttr K a.c_Web "near"
  k_tint_tint : PySem.W.kitOne K (.type "int") (.type "int") = some true
  k_tint_tbool : PySem.W.kitOne K (.type "int") (.type "bool") = some false
  k_tlist_tlist : PySem.W.kitOne K (.type "list") (.type "list") = some true
  k_ttuple_ttuple : PySem.W.kitOne K (.type "tuple") (.type "tuple") = some true
  g_MOST_HANDS : mg "MOST_HANDS" = some (.int 12 a.t_MOST_HANDS)
  g_LAST_HAND : mg "LAST_HAND" = some (.int 99 a.t_LAST_HAND)
end K04

/-! K03b -/
set_option Elab.async false
set_option linter.all false
set_option maxRecDepth 100000
set_option maxHeartbeats 4000000
namespace K04
open PySem L2
section
variable {P : Program} {w : World} {K : PySem.W.Frag} {mg : Str → Option Value} {base : Heap} {a : Ad}
/-! ### draws: only their bounds matter -/
def spDigit : Sp := fun vs H Q _ => ∃ (l : Addr) (n : Int), vs = [.ref l, .int n] ∧ StAt H l ∧ 0 < n ∧ n.natAbs.log2 < 9000 ∧ ∀ (d : Int) (H' : Hp), 0 ≤ d → d < n → StAt H' l → Ext l H H' → Q (.int d) H'
theorem ok_digit (T : Txt K mg a) : FnOk P w K mg base CX0 1 a.f__law_digit a.d__law_digit ["_law_state", "_law_base"] spDigit := by
  refine T.F__law_digit.ok sc__law_digit (fun vs H Q E h => ?_) (fun cdv A outer s H vs Q E hr h => ?_)
  · obtain ⟨l, n, rfl, _⟩ := h
    rfl
  · obtain ⟨l, n, rfl, ⟨st, hst, ok⟩, hn, hlog, k⟩ := h
    refine ⟨_, (pss_cut (ps_if (pt_cmpR op_eq (pe_callB call_len_seq (by rfl) T.n_len bt_len (pa_cons (pv 0) pa_nil)) pe_int (nomark _))
        (pss_cons (ps_set (i := 2) sc__law_digit.nd rfl (Or.inl rfl) (pe_ix ix_list (pv 0) pe_int (fun _ _ => rfl)))
        (pss_cons (ps_asg (pe_op op_mul (pv 2) (pe_callTy call_int1 (by rfl) T.n_int bt_int (pa_cons (pe_cmpR op_ge (pv 2) (pe_op op_pow pe_int pe_int) (nomark _)) pa_nil))) (pg_sub (pv 0) pe_int set_list))
        (pss_one (ps_expr (pe_bm PySem.F.plainAttrs_list PySem.F.slot_list_extend PySem.F.type_list_extend mt_extend (pv 0) (pa_cons (pe_lst (pa_cons (pe_op op_mod (pv 2) pe_int) (pa_cons pe_int pa_nil))) pa_nil))))))
        pss_nil)
      (pss_cons (ps_if (pt_cmpR op_gt (pe_ix ix_list (pv 0) pe_int (fun _ _ => rfl)) pe_int (nomark _))
        (pss_cons (ps_set (i := 3) sc__law_digit.nd rfl (Or.inl rfl) (pe_op op_mod (pe_ix ix_list (pv 0) pe_int (fun _ _ => rfl)) (pv 1)))
        (pss_cons (ps_asg (pe_op op_fdivG (pe_ix ix_list (pv 0) pe_int (fun _ _ => rfl)) (pv 1)) (pg_sub (pv 0) pe_int set_list))
        (pss_one (ps_ret (pv 3)))))
        pss_nil)
      (pss_cons (ps_asg (pe_op op_add (pe_ix ix_list (pv 0) pe_int (fun _ _ => rfl)) pe_int) (pg_sub (pv 0) pe_int set_list))
      (pss_cons (ps_set (i := 4) sc__law_digit.nd rfl (Or.inl rfl) (pe_op op_mod (pe_op op_mul (pe_op op_add (pe_op op_add (pe_ix ix_list (pv 0) pe_int (fun _ _ => rfl)) (pe_op op_mul pe_int (pe_ix ix_list (pv 0) pe_int (fun _ _ => rfl)))) pe_int) pe_int) pe_int))
      (pss_cons (ps_set (i := 4) sc__law_digit.nd rfl (Or.inl rfl) (pe_op op_mod (pe_op op_mul (pv 4) (pe_op op_add (pe_op op_fdivG (pv 4) pe_int) pe_int)) pe_int))
      (pss_one (ps_ret (pe_op op_mod (pe_op op_mod (pe_op op_mul (pv 4) (pe_op op_add (pe_op op_fdivG (pv 4) pe_int) pe_int)) pe_int) (pv 1))))))))), ?_⟩
    refine ⟨fun σ' H' => ∃ (c0 : Option V) (x y z : Int), σ' = [some (.ref l), some (.int n), c0, none, none] ∧ H' l = some (.lst [.int x, .int y, .int z]) ∧ Ext l H H', ?_, ?_⟩
    · -- if len(_law_state) == 1:
      refine ⟨_, rfl, l, st, rfl, .inl (SqL.of hst), rfl, _, rfl, ?_⟩
      rcases ok with ⟨x, rfl⟩ | ⟨x, y, z, rfl⟩
      · refine iteB rfl ?_
        refine ⟨_, rfl, l, _, 0, _, rfl, rfl, SqL.of hst, rfl, _, rfl, _, rfl, _, _, rfl, rfl, ⟨by decide, by decide, by decide⟩, _, _, rfl, rfl, .inr ⟨_, rfl, _, _, rfl, rfl, .inr (b01 _), _, rfl, l, _, 0, 0, rfl, rfl, hst, rfl, ?_⟩⟩
        · refine ⟨_, rfl, .inl ⟨rfl, _, SqL.of upd_same⟩, _, rfl, _, _, rfl, rfl, (by show (0 : Int) < 2147483647; decide), (by show 2 ≤ sizeLine; decide), fun p hp => ?_⟩
          have hpl : p ≠ l := by
            intro z
            rw [z, upd_same] at hp
            cases hp
          have hp0 : H p = none := by rw [upd_ne hpl] at hp; exact hp
          refine ⟨l, p, [_], [_, _], rfl, rfl, (upd_ne hpl.symm).trans upd_same, upd_same, (by show 1 + 2 ≤ sizeLine; decide), ?_⟩
          refine ⟨_, _, _, _, rfl, upd_same, fun b o e nb => ?_⟩
          rw [upd_ne nb, upd_ne (ne_of_none e hp0), upd_ne nb]
          exact e
      · refine iteN rfl ?_
        exact ⟨none, x, y, z, rfl, hst, Ext.refl⟩
    · rintro σ' H1 ⟨c0, x, y, z, rfl, hst, hx⟩
      -- if _law_state[0] > 0:
      refine ⟨_, rfl, l, _, 0, _, rfl, rfl, SqL.of hst, rfl, _, _, rfl, rfl, _, rfl, ?_⟩
      refine ite2 (fun q => ?_) (fun q => ?_)
      · refine ⟨_, rfl, l, _, 0, _, rfl, rfl, SqL.of hst, rfl, _, rfl, _, _, rfl, rfl, hn, _, rfl, l, _, 0, _, rfl, rfl, SqL.of hst, rfl, _, rfl, _, _, rfl, rfl, ⟨hn, hlog⟩, _, rfl, l, _, 0, 0, rfl, rfl, hst, rfl, _, rfl, ?_⟩
        exact k _ _ (Int.emod_nonneg _ (Int.ne_of_gt hn)) (Int.emod_lt_of_pos _ hn) ⟨_, upd_same, .inr ⟨_, _, _, rfl⟩⟩ (hx.trans Ext.at)
      · refine ⟨_, rfl, l, _, 2, _, rfl, rfl, SqL.of hst, rfl, _, _, rfl, rfl, _, rfl, l, _, 2, 2, rfl, rfl, hst, rfl, ?_⟩
        refine ⟨_, rfl, l, _, 1, _, rfl, rfl, SqL.of upd_same, rfl, _, rfl, l, _, 2, _, rfl, rfl, SqL.of upd_same, rfl, _, _, rfl, rfl, .inl ⟨by decide, by decide⟩, _, _, rfl, rfl, _, _, rfl, rfl, _, _, rfl, rfl, .inr ⟨by decide, by decide⟩, _, _, rfl, rfl, (by show (0 : Int) < 2147483647; decide), ?_⟩
        generalize hv : (y + 7919 * (z + 1) + 1) * 48271 % 2147483647 = v
        have v1 : 0 ≤ v := by rw [← hv]; exact Int.emod_nonneg _ (by decide)
        have v2 : v < 2147483647 := by rw [← hv]; exact Int.emod_lt_of_pos _ (by decide)
        refine ⟨_, rfl, _, rfl, _, _, rfl, rfl, ⟨by show (0 : Int) < 1009; decide, log_1009⟩, _, _, rfl, rfl, _, _, rfl, rfl, .inl ⟨by omega, by omega⟩, _, _, rfl, rfl, (by show (0 : Int) < 2147483647; decide), ?_⟩
        generalize hu : v * (v / 1009 + 69621) % 2147483647 = u
        have u1 : 0 ≤ u := by rw [← hu]; exact Int.emod_nonneg _ (by decide)
        have u2 : u < 2147483647 := by rw [← hu]; exact Int.emod_lt_of_pos _ (by decide)
        refine ⟨_, rfl, _, rfl, _, _, rfl, rfl, ⟨by show (0 : Int) < 2003; decide, log_2003⟩, _, _, rfl, rfl, _, _, rfl, rfl, .inl ⟨by omega, by omega⟩, _, _, rfl, rfl, (by show (0 : Int) < 2147483399; decide), _, rfl, _, _, rfl, rfl, hn, ?_⟩
        exact k _ _ (Int.emod_nonneg _ (Int.ne_of_gt hn)) (Int.emod_lt_of_pos _ hn) ⟨_, upd_same, .inr ⟨_, _, _, rfl⟩⟩ (hx.trans Ext.at)

/-! ### _law_cell_at -/
def spCell (K : PySem.W.Frag) : Sp := fun vs H Q _ => ∃ (l : Addr) (ns : List Int) (k : Int), vs = [.ref l, .int k] ∧ SqL K H l (ns.map V.int) ∧ 0 ≤ k ∧ ∀ i : Int, Q (.int i) H
theorem ok_cell (T : Txt K mg a) : FnOk P w K mg base CX0 1 a.f__law_cell_at a.d__law_cell_at ["_law_script", "_law_k"] (spCell K) := by
  refine T.F__law_cell_at.ok sc__law_cell_at (fun vs H Q E h => ?_) (fun cdv A outer s H vs Q E hr h => ?_)
  · obtain ⟨l, ns, k, rfl, _⟩ := h
    rfl
  · obtain ⟨l, ns, k, rfl, hl, k0, q⟩ := h
    refine ⟨_, (pss_cons (ps_if (pt_cmpR op_lt (pv 1) (pe_callB call_len_seq (by rfl) T.n_len bt_len (pa_cons (pv 0) pa_nil)) (nomark _))
        (pss_one (ps_ret (pe_ix ix_list (pv 0) (pv 1) (fun _ _ => rfl))))
        pss_nil)
      (pss_one (ps_ret pe_int))), ?_⟩
    refine ⟨_, rfl, _, rfl, l, _, rfl, .inl hl, _, _, rfl, rfl, _, rfl, ?_⟩
    rw [List.length_map]
    refine ite2 (fun z => ?_) (fun z => ?_)
    · have z : k < ns.length := of_decide_eq_true z
      obtain ⟨n, rfl⟩ : ∃ n : Nat, k = n := ⟨k.toNat, by omega⟩
      have hn : n < ns.length := by omega
      refine ⟨_, rfl, _, rfl, l, _, _, V.int ns[n], rfl, rfl, hl, atI_nat (by simp [hn]), ?_⟩
      exact q _
    · exact q 0
end
end K04

/-! K03c -/
set_option Elab.async false
set_option linter.all false
set_option maxRecDepth 100000
set_option maxHeartbeats 4000000
namespace K04
open PySem L2
/-! ### webs -/
/-- a list of tuples of two ints -/
def LnAt (H : Hp) (rs : List V) (ls : List (Int × Int)) : Prop := rs.length = ls.length ∧ ∀ (i : Nat) r p, rs[i]? = some r → ls[i]? = some p → ∃ q, r = .ref q ∧ H q = some (.tup [.int p.1, .int p.2])
theorem LnAt.same {H H' : Hp} {rs : List V} {ls : List (Int × Int)} (h : LnAt H rs ls) (s : Same H H') : LnAt H' rs ls := ⟨h.1, fun i r p h1 h2 => by
  obtain ⟨q, e, t⟩ := h.2 i r p h1 h2
  exact ⟨q, e, s _ _ t⟩⟩
theorem LnAt.get {H : Hp} {rs : List V} {ls : List (Int × Int)} (h : LnAt H rs ls) {i : Nat} {r : V} (e : rs[i]? = some r) : ∃ p q, ls[i]? = some p ∧ r = .ref q ∧ H q = some (.tup [.int p.1, .int p.2]) := by
  have hi : i < ls.length := by rw [← h.1]; exact (List.getElem?_eq_some_iff.mp e).1
  have hp : ls[i]? = some ls[i] := by simp [hi]
  obtain ⟨q, e1, e2⟩ := h.2 i r _ e hp
  exact ⟨_, q, hp, e1, e2⟩
theorem inV_int {x : Int} : ∀ {ns : List Int}, inV (.int x) (ns.map V.int) = decide (x ∈ ns)
  | [] => by simp [inV]
  | n :: ns => by
    have ih := inV_int (x := x) (ns := ns)
    unfold inV at ih ⊢
    rw [List.map_cons, List.any_cons, ih]
    show ((n == x) || decide (x ∈ ns)) = decide (x ∈ n :: ns)
    by_cases e : n = x
    · simp [e]
    · have e' : ¬ x = n := fun z => e z.symm
      simp [e, e']
theorem flat_ints (ns : List Int) : (ns.map V.int).all flatV = true := by
  rw [List.all_eq_true]
  intro v hv
  obtain ⟨x, _, rfl⟩ := List.mem_map.mp hv
  rfl
section
variable {P : Program} {w : World} {K : PySem.W.Frag} {mg : Str → Option Value} {base : Heap} {a : Ad}
def spWhole : Sp := fun vs H Q _ => ∃ i : Int, vs = [.int i] ∧ Q (.bl true) H
theorem ok_whole (T : Txt K mg a) : FnOk P w K mg base CX0 1 a.f_is_whole a.d_is_whole ["value"] spWhole := by
  refine T.F_is_whole.ok sc_is_whole (fun vs H Q E h => ?_) (fun cdv A outer s H vs Q E hr h => ?_)
  · obtain ⟨i, rfl, _⟩ := h
    rfl
  · obtain ⟨i, rfl, k⟩ := h
    refine ⟨_, (pss_one (ps_ret (pe_and (pe_callB call_isi (by rfl) T.n_isinstance bt_isinstance (pa_cons (pv 0) (pa_cons (pe_bty T.n_int bt_int) pa_nil))) (pe_one (pe_not (pe_callB call_isi (by rfl) T.n_isinstance bt_isinstance (pa_cons (pv 0) (pa_cons (pe_bty T.n_bool bt_bool) pa_nil)))))))), ?_⟩
    refine ⟨_, rfl, _, _, _, _, _, rfl, rfl, .int i, T.k_tint_tint, _, rfl, iteT ?_⟩
    exact ⟨_, rfl, _, _, _, _, _, rfl, rfl, .int i, T.k_tint_tbool, _, rfl, k⟩
def spHands : Sp := fun vs H Q _ => ∃ (h : Addr) (hs : List Int), vs = [.ref h] ∧ H h = some (.lst (hs.map V.int)) ∧ Hs hs ∧ Q (.bl true) H
theorem ok_hands (T : Txt K mg a) : FnOk P w K mg base CX0 2 a.f_are_hands a.d_are_hands ["hands"] spHands := by
  have c_is_whole : Callee P w K mg base "is_whole" a.f_is_whole a.d_is_whole ["value"] 1 spWhole := ⟨ok_whole T, T.g_is_whole, T.F_is_whole.kp, T.b_is_whole⟩
  refine T.F_are_hands.ok sc_are_hands (fun vs H Q E h => ?_) (fun cdv A outer s H vs Q E hr h => ?_)
  · obtain ⟨h, hs, rfl, _⟩ := h
    rfl
  · obtain ⟨h, hs, rfl, hh, W, k⟩ := h
    have w1 := W.l1
    have w12 := W.l12
    refine ⟨_, (pss_cons (ps_if (PW.pt (pw_or (pt_not (pt_val (pe_callB call_isi (by rfl) T.n_isinstance bt_isinstance (pa_cons (pv 0) (pa_cons (pe_bty T.n_list bt_list) pa_nil))))) (pw_or (pt_cmpR op_lt (pe_callB call_len_seq (by rfl) T.n_len bt_len (pa_cons (pv 0) pa_nil)) pe_int (nomark _)) (pw_or1 (pt_cmpR op_gt (pe_callB call_len_seq (by rfl) T.n_len bt_len (pa_cons (pv 0) pa_nil)) (pe_glob (v := .int 12) rfl T.g_MOST_HANDS ⟨_, rfl⟩) (nomark _))))))
        (pss_one (ps_ret pe_bl))
        pss_nil)
      (pss_cons (ps_set (i := 1) sc_are_hands.nd rfl (Or.inl rfl) (pe_un un_neg pe_int))
      (pss_cons (ps_for PassesOwn.never rfl (pi_list (pv 0)) (pg_name (i := 2) sc_are_hands.nd rfl (Or.inl rfl))
        (pss_cons (ps_if (PW.pt (pw_or (pt_not (pt_val (pe_c c_is_whole (hr.mono (by omega)) (pa_cons (pv 2) pa_nil)))) (pw_or (pt_cmpR op_le (pv 2) (pv 1) (nomark _)) (pw_or1 (pt_cmpR op_gt (pv 2) (pe_glob (v := .int 99) rfl T.g_LAST_HAND ⟨_, rfl⟩) (nomark _))))))
          (pss_one (ps_ret pe_bl))
          pss_nil)
        (pss_one (ps_set (i := 1) sc_are_hands.nd rfl (Or.inl rfl) (pv 2)))))
      (pss_one (ps_ret pe_bl))))), ?_⟩
    refine ⟨_, rfl, _, _, _, _, _, rfl, rfl, .lst hh, T.k_tlist_tlist, _, rfl, iteN rfl ?_⟩
    refine ⟨_, rfl, h, _, rfl, .inl (SqL.of hh), _, _, rfl, rfl, _, rfl, iteN (decide_eq_false (by rw [List.length_map]; omega)) ?_⟩
    refine ⟨_, rfl, h, _, rfl, .inl (SqL.of hh), _, _, rfl, rfl, _, rfl, iteN (decide_eq_false (by rw [List.length_map]; omega)) ?_⟩
    refine ⟨1, rfl, _, rfl, h, rfl, ⟨_, SqL.of hh⟩, ?_⟩
    refine for_list (K := K) (a := h) (xs := hs.map V.int) (fun i σ H' => H' = H ∧ ∃ (m : Int) (o : Option V), σ = [some (.ref h), some (.int m), o] ∧ -1 ≤ m ∧ ∀ j x, i ≤ j → hs[j]? = some x → m < x) ?_ ?_ ?_ ?_
    · refine ⟨rfl, -1, none, rfl, Int.le_refl _, fun j x _ hx => ?_⟩
      have := W.lo x (List.mem_of_getElem? hx)
      omega
    · rintro i σ H' _ ⟨rfl, _⟩
      exact SqL.of hh
    · rintro i x σ H' hi ⟨rfl, m, o, rfl, hm, hall⟩
      rw [List.getElem?_map] at hi
      obtain ⟨y, hy, rfl⟩ := Option.map_eq_some_iff.mp hi
      have y1 := hall i y (Nat.le_refl _) hy
      have y2 := W.hi y (List.mem_of_getElem? hy)
      refine ⟨_, rfl, y, rfl, _, rfl, iteN rfl ?_⟩
      refine ⟨_, rfl, _, rfl, _, _, rfl, rfl, _, rfl, iteN (decide_eq_false (by omega)) ?_⟩
      refine ⟨_, rfl, _, _, rfl, rfl, _, rfl, iteN (decide_eq_false (by omega)) ?_⟩
      refine ⟨_, rfl, rfl, y, _, rfl, by omega, fun j z hj hz => ?_⟩
      have hlt : i < j := by omega
      obtain ⟨b1, e1⟩ := List.getElem?_eq_some_iff.mp hy
      obtain ⟨b2, e2⟩ := List.getElem?_eq_some_iff.mp hz
      rw [← e1, ← e2]
      exact List.pairwise_iff_getElem.mp W.up i j b1 b2 hlt
    · rintro σ H' ⟨rfl, _⟩
      exact k
def spLine : Sp := fun vs H Q _ => ∃ (q h : Addr) (hs : List Int) (p : Int × Int), vs = [.ref q, .ref h] ∧ H q = some (.tup [.int p.1, .int p.2]) ∧ H h = some (.lst (hs.map V.int)) ∧ (p.1 ∈ hs ∧ p.2 ∈ hs ∧ p.1 < p.2) ∧ Q (.bl true) H
theorem ok_line (T : Txt K mg a) : FnOk P w K mg base CX0 2 a.f_is_line a.d_is_line ["line", "hands"] spLine := by
  have c_is_whole : Callee P w K mg base "is_whole" a.f_is_whole a.d_is_whole ["value"] 1 spWhole := ⟨ok_whole T, T.g_is_whole, T.F_is_whole.kp, T.b_is_whole⟩
  refine T.F_is_line.ok sc_is_line (fun vs H Q E h => ?_) (fun cdv A outer s H vs Q E hr h => ?_)
  · obtain ⟨q, h, hs, p, rfl, _⟩ := h
    rfl
  · obtain ⟨q, h, hs, ⟨x, y⟩, rfl, hq, hh, ⟨h1, h2, h3⟩, k⟩ := h
    dsimp only at hq h1 h2 h3
    refine ⟨_, (pss_cons (ps_if (PW.pt (pw_or (pt_not (pt_val (pe_callB call_isi (by rfl) T.n_isinstance bt_isinstance (pa_cons (pv 0) (pa_cons (pe_bty T.n_tuple bt_tuple) pa_nil))))) (pw_or1 (pt_cmpR op_ne (pe_callB call_len_seq (by rfl) T.n_len bt_len (pa_cons (pv 0) pa_nil)) pe_int (nomark _)))))
        (pss_one (ps_ret pe_bl))
        pss_nil)
      (pss_cons (ps_if (PW.pt (pw_or (pt_not (pt_val (pe_c c_is_whole (hr.mono (by omega)) (pa_cons (pe_ix ix_tup (pv 0) pe_int (fun _ _ => rfl)) pa_nil)))) (pw_or1 (pt_not (pt_val (pe_c c_is_whole (hr.mono (by omega)) (pa_cons (pe_ix ix_tup (pv 0) pe_int (fun _ _ => rfl)) pa_nil)))))))
        (pss_one (ps_ret pe_bl))
        pss_nil)
      (pss_one (ps_ret (pe_and (pe_cmpR op_in_seq (pe_ix ix_tup (pv 0) pe_int (fun _ _ => rfl)) (pv 1) (by with_unfolding_all rfl)) (pe_and (pe_cmpR op_in_seq (pe_ix ix_tup (pv 0) pe_int (fun _ _ => rfl)) (pv 1) (by with_unfolding_all rfl)) (pe_one (pe_cmpR op_lt (pe_ix ix_tup (pv 0) pe_int (fun _ _ => rfl)) (pe_ix ix_tup (pv 0) pe_int (fun _ _ => rfl)) (nomark _))))))))), ?_⟩
    refine ⟨_, rfl, _, _, _, _, _, rfl, rfl, .tup hq, T.k_ttuple_ttuple, _, rfl, iteN rfl ?_⟩
    refine ⟨_, rfl, q, _, rfl, .inr (SqT.of hq), rfl, _, rfl, iteN rfl ?_⟩
    refine ⟨_, rfl, q, _, 0, _, rfl, rfl, SqT.of hq, rfl, x, rfl, _, rfl, iteN rfl ?_⟩
    refine ⟨_, rfl, q, _, 1, _, rfl, rfl, SqT.of hq, rfl, y, rfl, _, rfl, iteN rfl ?_⟩
    refine ⟨_, rfl, q, _, 0, _, rfl, rfl, SqT.of hq, rfl, _, rfl, h, _, rfl, .inl (SqL.of hh), rfl, flat_ints hs, _, rfl, iteB (by show inV (.int x) _ = true; rw [inV_int]; exact decide_eq_true h1) ?_⟩
    refine ⟨_, rfl, q, _, 1, _, rfl, rfl, SqT.of hq, rfl, _, rfl, h, _, rfl, .inl (SqL.of hh), rfl, flat_ints hs, _, rfl, iteB (by show inV (.int y) _ = true; rw [inV_int]; exact decide_eq_true h2) ?_⟩
    refine ⟨_, rfl, q, _, 0, _, rfl, rfl, SqT.of hq, rfl, _, rfl, q, _, 1, _, rfl, rfl, SqT.of hq, rfl, _, _, rfl, rfl, ?_⟩
    show Q (.bl (decide (x < y))) H
    rw [decide_eq_true h3]
    exact k
end
end K04

/-! K03d -/
set_option Elab.async false
set_option linter.all false
set_option maxRecDepth 100000
set_option maxHeartbeats 4000000
namespace K04
open PySem L2
/-! ### tables -/
section
variable {κ : Type} [DecidableEq κ]
theorem valV_some {kvs : List (κ × V)} {k : κ} : (valV kvs k).isSome = decide (k ∈ kvs.map (·.1)) := by
  rw [← valV_any]
  by_cases h : k ∈ kvs.map (·.1)
  · rw [decide_eq_true h, List.any_eq_true]
    obtain ⟨p, hp, rfl⟩ := List.mem_map.mp h
    exact ⟨p, hp, decide_eq_true rfl⟩
  · rw [decide_eq_false h, List.any_eq_false]
    intro p hp e
    exact h (List.mem_map.mpr ⟨p, hp, of_decide_eq_true e⟩)
theorem valV_yes {kvs : List (κ × V)} {k : κ} (h : k ∈ kvs.map (·.1)) : (valV kvs k).isSome = true := by rw [valV_some]; exact decide_eq_true h
theorem valV_no {kvs : List (κ × V)} {k : κ} (h : k ∉ kvs.map (·.1)) : (valV kvs k).isSome = false := by rw [valV_some]; exact decide_eq_false h
theorem putK_new {kvs : List (κ × V)} {k : κ} {v : V} (h : k ∉ kvs.map (·.1)) : putK kvs k v = kvs ++ [(k, v)] := by
  unfold putK
  rw [if_neg]
  rw [valV_any, valV_some, decide_eq_true_iff]
  exact h
theorem putK_keys {kvs : List (κ × V)} {k : κ} {v : V} (h : k ∈ kvs.map (·.1)) : (putK kvs k v).map (·.1) = kvs.map (·.1) := by
  unfold putK
  rw [if_pos (by rw [valV_any, valV_some, decide_eq_true_iff]; exact h), List.map_map]
  refine List.map_congr_left fun p _ => ?_
  show (if p.1 = k then (p.1, v) else p).1 = p.1
  split <;> rfl
end
theorem _root_.L2.Same.updF {p : Addr} {H H' : Hp} {o : HO} (x : Same H H') (h : H p = none) : Same H (L2.upd H' p o) := fun b u e => by
  rw [upd_ne (ne_of_none e h)]; exact x b u e
abbrev key2 (p : Int × Int) : List Key := [Sum.inl p.1, Sum.inl p.2]
theorem key2_inj {p q : Int × Int} (h : key2 p = key2 q) : p = q := by
  obtain ⟨a, b⟩ := p
  obtain ⟨c, d⟩ := q
  simp [key2] at h
  rw [h.1, h.2]
theorem nd_take {α : Type} {xs : List α} {i : Nat} {x : α} (h : xs.Nodup) (e : xs[i]? = some x) : x ∉ xs.take i := by
  intro m
  obtain ⟨j, hj, ej⟩ := List.getElem_of_mem m
  obtain ⟨hi, ei⟩ := List.getElem?_eq_some_iff.mp e
  rw [List.getElem_take] at ej
  rw [List.length_take] at hj
  have := (List.nodup_iff_pairwise_ne.mp h)
  exact List.pairwise_iff_getElem.mp this j i (by omega) hi (by omega) (ej.trans ei.symm)
section
variable {P : Program} {w : World} {K : PySem.W.Frag} {mg : Str → Option Value} {base : Heap} {a : Ad}
def spLines : Sp := fun vs H Q _ => ∃ (l h : Addr) (rs : List V) (hs : List Int) (ls : List (Int × Int)), vs = [.ref l, .ref h] ∧ H l = some (.lst rs) ∧ LnAt H rs ls ∧ H h = some (.lst (hs.map V.int)) ∧ Ls hs ls ∧ ∀ H', Same H H' → Q (.bl true) H'
theorem ok_lines (T : Txt K mg a) : FnOk P w K mg base CX0 3 a.f_are_lines a.d_are_lines ["lines", "hands"] spLines := by
  have c_is_line : Callee P w K mg base "is_line" a.f_is_line a.d_is_line ["line", "hands"] 2 spLine := ⟨ok_line T, T.g_is_line, T.F_is_line.kp, T.b_is_line⟩
  refine T.F_are_lines.ok sc_are_lines (fun vs H Q E h => ?_) (fun cdv A outer s H vs Q E hr h => ?_)
  · obtain ⟨l, h, rs, hs, ls, rfl, _⟩ := h
    rfl
  · obtain ⟨l, h, rs, hs, ls, rfl, hl, hrs, hh, L, k⟩ := h
    have l66 := L.le
    have hu := hu_of hr
    refine ⟨_, (pss_cons (ps_if (pt_not (pt_val (pe_callB call_isi (by rfl) T.n_isinstance bt_isinstance (pa_cons (pv 0) (pa_cons (pe_bty T.n_list bt_list) pa_nil)))))
        (pss_one (ps_ret pe_bl))
        pss_nil)
      (pss_cons (ps_set (i := 2) sc_are_lines.nd rfl (Or.inl rfl) pe_dnewT)
      (pss_cons (ps_for PassesOwn.never rfl (pi_list (pv 0)) (pg_name (i := 3) sc_are_lines.nd rfl (Or.inl rfl))
        (pss_cons (ps_if (PW.pt (pw_or (pt_not (pt_val (pe_c c_is_line (hr.mono (by omega)) (pa_cons (pv 3) (pa_cons (pv 1) pa_nil))))) (pw_or1 (pt_cmp (pc_din hu (pv 3) (pv 2))))))
          (pss_one (ps_ret pe_bl))
          pss_nil)
        (pss_one (ps_dput hu (pv 2) (pv 3) pe_bl rfl))))
      (pss_one (ps_ret pe_bl))))), ?_⟩
    refine ⟨_, rfl, _, _, _, _, _, rfl, rfl, .lst hl, T.k_tlist_tlist, _, rfl, iteN rfl ?_⟩
    refine fun d hd => ?_
    refine ⟨_, rfl, l, rfl, ⟨_, SqL.of (Same.new hd _ _ hl)⟩, ?_⟩
    refine for_list (K := K) (a := l) (xs := rs) (fun i σ H' => ∃ (kvs : List (List Key × V)) (o : Option V), σ = [some (.ref l), some (.ref h), some (.ref d), o] ∧ H' d = some (.dT kvs) ∧ kvs.map (·.1) = (ls.take i).map key2 ∧ Same H H') ?_ ?_ ?_ ?_
    · exact ⟨[], none, rfl, upd_same, by simp, Same.new hd⟩
    · rintro i σ H' _ ⟨kvs, o, _, _, _, sm⟩
      exact SqL.of (sm _ _ hl)
    · rintro i x σ H' hi ⟨kvs, o, rfl, hd', hk, sm⟩
      obtain ⟨p, q, hp, rfl, hq⟩ := (hrs.same sm).get hi
      have hm : p ∈ ls := List.mem_of_getElem? hp
      refine ⟨_, rfl, _, rfl, q, h, hs, p, rfl, hq, sm _ _ hh, L.ok p hm, _, rfl, iteN rfl ?_⟩
      have hnew : key2 p ∉ kvs.map (·.1) := by
        rw [hk]
        intro z
        obtain ⟨p', m', e'⟩ := List.mem_map.mp z
        rw [key2_inj e'] at m'
        exact nd_take L.nd hp m'
      have hz : kvs.length ≤ 1000 := by
        have := congrArg List.length hk
        rw [List.length_map, List.length_map, List.length_take] at this
        omega
      refine ⟨_, rfl, _, rfl, d, _, rfl, DGet.t (k := key2 p) hd' hq, _, rfl, iteN ?_ ?_⟩
      · exact valV_no hnew
      · refine ⟨_, rfl, _, rfl, d, _, rfl, DPut.t (k := key2 p) hd' hq (small1000 hz), ?_⟩
        refine ⟨_, _, rfl, upd_same, ?_, sm.updF hd⟩
        rw [putK_new hnew, List.map_append, hk, List.take_add_one, hp, List.map_append]
        rfl
    · rintro σ H' ⟨kvs, o, _, _, _, sm⟩
      exact k H' sm
end
end K04

/-! K03e -/
set_option Elab.async false
set_option linter.all false
set_option maxRecDepth 100000
set_option maxHeartbeats 4000000
namespace K04
open PySem L2
/-! ### near_by_hand -/
def tab (ad : Int → Addr) (us : List Int) : List (Key × V) := us.map fun h => (Sum.inl h, V.ref (ad h))
theorem tab_keys {ad : Int → Addr} {us : List Int} : (tab ad us).map (·.1) = us.map Sum.inl := by
  unfold tab; rw [List.map_map]; rfl
theorem tab_at {ad : Int → Addr} {x : Int} : ∀ {us : List Int}, x ∈ us → valV (tab ad us) (Sum.inl x : Key) = some (V.ref (ad x))
  | u :: us, h => by
    show valV ((Sum.inl u, V.ref (ad u)) :: tab ad us) _ = _
    by_cases e : u = x
    · subst e; rw [valV_pos rfl]
    · rw [valV_neg (fun z => e (by injection z)), tab_at]
      rcases List.mem_cons.mp h with z | z
      · exact absurd z.symm e
      · exact z
theorem tab_get {H : Hp} {d : Addr} {ad : Int → Addr} {us : List Int} {x : Int} (e : H d = some (.dK (tab ad us))) (h : x ∈ us) : DGet H d (V.int x) (some (V.ref (ad x))) := by
  have := DGet.k (k := Sum.inl x) e
  rw [tab_at h] at this
  exact this
theorem inl_mem {x : Int} {us : List Int} : (Sum.inl x : Key) ∈ us.map (Sum.inl : Int → Key) ↔ x ∈ us := by
  rw [List.mem_map]
  exact ⟨fun ⟨y, h, e⟩ => by injection e with e; exact e ▸ h, fun h => ⟨x, h, rfl⟩⟩
def putA (ad : Int → Addr) (y : Int) (p : Addr) : Int → Addr := fun x => if x = y then p else ad x
theorem putA_at {ad : Int → Addr} {x y : Int} {p : Addr} (e : x = y) : putA ad y p x = p := if_pos e
theorem putA_ne {ad : Int → Addr} {x y : Int} {p : Addr} (e : ¬ x = y) : putA ad y p x = ad x := if_neg e
/-- the lists of neighbours -/
structure Near (H : Hp) (d : Addr) (hs : List Int) (ls : List (Int × Int)) (ad : Int → Addr) : Prop where
  d : H d = some (.dK (tab ad hs))
  nb : ∀ h ∈ hs, H (ad h) = some (.lst ((nbs ls h).map V.int))
theorem Near.same {H H' : Hp} {d : Addr} {hs : List Int} {ls : List (Int × Int)} {ad : Int → Addr} (n : Near H d hs ls ad) (s : Same H H') : Near H' d hs ls ad := ⟨s _ _ n.d, fun h m => s _ _ (n.nb h m)⟩
section
variable {P : Program} {w : World} {K : PySem.W.Frag} {mg : Str → Option Value} {base : Heap} {a : Ad}
def spNear : Sp := fun vs H Q _ => ∃ (h l : Addr) (rs : List V) (hs : List Int) (ls : List (Int × Int)), vs = [.ref h, .ref l] ∧ H h = some (.lst (hs.map V.int)) ∧ H l = some (.lst rs) ∧ LnAt H rs ls ∧ Hs hs ∧ Ls hs ls ∧
  ∀ (d : Addr) (ad : Int → Addr) H', Same H H' → H d = none → Near H' d hs ls ad → Q (.ref d) H'
theorem ok_near (T : Txt K mg a) : FnOk P w K mg base CX0 1 a.f_near_by_hand a.d_near_by_hand ["hands", "lines"] spNear := by
  refine T.F_near_by_hand.ok sc_near_by_hand (fun vs H Q E h => ?_) (fun cdv A outer s H vs Q E hr h => ?_)
  · obtain ⟨h, l, rs, hs, ls, rfl, _⟩ := h
    rfl
  · obtain ⟨h, l, rs, hs, ls, rfl, hh, hl, hrs, W, L, k⟩ := h
    have l66 := L.le
    have l12 := W.l12
    have hu := hu_of hr
    refine ⟨_, (pss_cons (ps_set (i := 2) sc_near_by_hand.nd rfl (Or.inl rfl) pe_dnewK)
      (pss_cons (ps_for PassesOwn.never rfl (pi_list (pv 0)) (pg_name (i := 3) sc_near_by_hand.nd rfl (Or.inl rfl))
        (pss_one (ps_dput hu (pv 2) (pv 3) (pe_lst pa_nil) rfl)))
      (pss_cons (ps_for PassesOwn.never rfl (pi_list (pv 1)) (pg_tup rfl (pgs_cons (pg_name (i := 4) sc_near_by_hand.nd rfl (Or.inl rfl)) (pgs_cons (pg_name (i := 5) sc_near_by_hand.nd rfl (Or.inl rfl)) pgs_nil)))
        (pss_cons (ps_expr (pe_bm PySem.F.plainAttrs_list PySem.F.slot_list_append PySem.F.type_list_append mt_append (pe_dget hu (pv 2) (pv 4) (fun _ _ => rfl)) (pa_cons (pv 5) pa_nil)))
        (pss_one (ps_expr (pe_bm PySem.F.plainAttrs_list PySem.F.slot_list_append PySem.F.type_list_append mt_append (pe_dget hu (pv 2) (pv 5) (fun _ _ => rfl)) (pa_cons (pv 4) pa_nil))))))
      (pss_one (ps_ret (pv 2)))))), ?_⟩
    refine fun d hd => ?_
    refine ⟨_, rfl, h, rfl, ⟨_, SqL.of (Same.new hd _ _ hh)⟩, ?_⟩
    refine for_list (K := K) (a := h) (xs := hs.map V.int) (fun i σ H' => ∃ (ad : Int → Addr) (o : Option V), σ = [some (.ref h), some (.ref l), some (.ref d), o, none, none] ∧ H' d = some (.dK (tab ad (hs.take i))) ∧
      (∀ x ∈ hs.take i, H' (ad x) = some (.lst []) ∧ H (ad x) = none) ∧ (∀ x ∈ hs.take i, ∀ y ∈ hs.take i, ad x = ad y → x = y) ∧ Same H H') ?_ ?_ ?_ ?_
    · exact ⟨fun _ => 0, none, rfl, upd_same, fun x hx => by simp at hx, fun x hx => by simp at hx, Same.new hd⟩
    · rintro i σ H' _ ⟨ad, o, _, _, _, _, sm⟩
      exact SqL.of (sm _ _ hh)
    · rintro i x σ H' hi ⟨ad, o, rfl, hd', hat, hinj, sm⟩
      rw [List.getElem?_map] at hi
      obtain ⟨y, hy, rfl⟩ := Option.map_eq_some_iff.mp hi
      have hnew : y ∉ hs.take i := nd_take (up_nodup W.up) hy
      refine ⟨(by show 0 ≤ sizeLine; decide), fun p hp => ?_⟩
      have hpd : p ≠ d := fun z => by rw [z, hd'] at hp; cases hp
      have hd2 : (upd H' p (.lst [])) d = some (.dK (tab ad (hs.take i))) := by rw [upd_ne hpd.symm]; exact hd'
      refine ⟨_, rfl, _, rfl, d, _, rfl, DPut.k (k := Sum.inl y) hd2 (small1000 ?_), ?_⟩
      · unfold tab
        rw [List.length_map, List.length_take]; omega
      · have et : hs.take (i + 1) = hs.take i ++ [y] := by rw [List.take_add_one, hy]; rfl
        have hp0 : H p = none := sm.free hp
        have hne : ∀ x ∈ hs.take i, ad x ≠ p := fun x hx z => by
          have := (hat x hx).1
          rw [z, hp] at this; cases this
        have had : ∀ x ∈ hs.take i, ad x ≠ d := fun x hx z => by
          have := (hat x hx).1
          rw [z, hd'] at this; cases this
        refine ⟨putA ad y p, _, rfl, ?_, ?_, ?_, (sm.updF hp0).updF hd⟩
        · rw [upd_same, K04.putK_new (by rw [tab_keys, inl_mem]; exact hnew), et]
          unfold tab
          rw [List.map_append]
          congr 3
          · refine List.map_congr_left fun x hx => ?_
            rw [putA_ne (fun z => hnew (by rw [← z]; exact hx))]
          · show _ = [(Sum.inl y, V.ref (putA ad y p y))]
            rw [putA_at rfl]
        · intro x hx
          rw [et, List.mem_append, List.mem_singleton] at hx
          by_cases e : x = y
          · rw [putA_at e, upd_ne hpd, upd_same]
            exact ⟨rfl, hp0⟩
          · rw [putA_ne e]
            have hx := hx.resolve_right e
            rw [upd_ne (had x hx), upd_ne (hne x hx)]
            exact hat x hx
        · intro x hx z hz
          rw [et, List.mem_append, List.mem_singleton] at hx hz
          by_cases e1 : x = y
          · by_cases e2 : z = y
            · intro _; rw [e1, e2]
            · rw [putA_at e1, putA_ne e2]
              intro q; exact absurd q.symm (hne z (hz.resolve_right e2))
          · by_cases e2 : z = y
            · rw [putA_ne e1, putA_at e2]
              intro q; exact absurd q (hne x (hx.resolve_right e1))
            · rw [putA_ne e1, putA_ne e2]
              exact hinj x (hx.resolve_right e1) z (hz.resolve_right e2)
    · rintro σ H1 ⟨ad, o, rfl, hd', hat, hinj, sm⟩
      rw [List.length_map, List.take_length] at hd' hat hinj
      refine ⟨_, rfl, l, rfl, ⟨_, SqL.of (sm _ _ hl)⟩, ?_⟩
      refine for_list (K := K) (a := l) (xs := rs) (fun i σ H' => ∃ (o1 o2 : Option V), σ = [some (.ref h), some (.ref l), some (.ref d), o, o1, o2] ∧ Near H' d hs (ls.take i) ad ∧ Same H H') ?_ ?_ ?_ ?_
      · exact ⟨none, none, rfl, ⟨hd', fun x hx => by rw [List.take_zero]; exact (hat x hx).1⟩, sm⟩
      · rintro i σ H' _ ⟨o1, o2, _, _, sm'⟩
        exact SqL.of (sm' _ _ hl)
      · rintro i x σ H' hi ⟨o1, o2, rfl, N, sm'⟩
        obtain ⟨⟨x, y⟩, q, hp, rfl, hq⟩ := (hrs.same sm').get hi
        obtain ⟨hx, hy, hxy⟩ := L.ok _ (List.mem_of_getElem? hp)
        dsimp only at hq hx hy hxy
        refine ⟨q, _, rfl, SqT.of hq, rfl, _, _, rfl, _, _, rfl, rfl, ?_⟩
        have len : ∀ z, ((nbs (ls.take i) z).map V.int).length < sizeLine := fun z => by
          rw [List.length_map]
          have := nbs_len (h := z) (ls := ls.take i)
          rw [List.length_take] at this
          exact small1000 (by omega)
        have hdx : ad x ≠ d := fun z => by
          have := N.nb x hx
          rw [z, N.d] at this; cases this
        have hdy : ad y ≠ d := fun z => by
          have := N.nb y hy
          rw [z, N.d] at this; cases this
        have hne : ad y ≠ ad x := fun z => by have := hinj y hy x hx z; omega
        refine ⟨_, rfl, _, rfl, d, V.ref (ad x), rfl, tab_get N.d hx, .inl ⟨rfl, _, SqL.of (N.nb x hx)⟩, _, rfl, _, _, _, rfl, rfl, N.nb x hx, len x, ?_⟩
        have nd2 : (upd H' (ad x) (.lst ((nbs (ls.take i) x).map V.int ++ [V.int y]))) d = some (.dK (tab ad hs)) := by rw [upd_ne hdx.symm]; exact N.d
        have ny2 : (upd H' (ad x) (.lst ((nbs (ls.take i) x).map V.int ++ [V.int y]))) (ad y) = some (.lst ((nbs (ls.take i) y).map V.int)) := by rw [upd_ne hne]; exact N.nb y hy
        refine ⟨_, rfl, _, rfl, d, V.ref (ad y), rfl, tab_get nd2 hy, .inl ⟨rfl, _, SqL.of ny2⟩, _, rfl, _, _, _, rfl, rfl, ny2, len y, ?_⟩
        refine ⟨_, _, rfl, ⟨?_, fun z hz => ?_⟩, (sm'.updF (hat x hx).2).updF (hat y hy).2⟩
        · rw [upd_ne hdy.symm]; exact nd2
        · rw [nbs_take hp]
          by_cases e2 : z = y
          · subst e2
            rw [upd_same, if_neg (by show ¬ x = z; omega), if_pos rfl, List.map_append]
            rfl
          · rw [upd_ne (fun q => e2 (hinj z hz y hy q))]
            by_cases e1 : z = x
            · subst e1
              rw [upd_same, if_pos rfl, if_neg (by show ¬ y = z; omega), List.map_append]
              rfl
            · rw [upd_ne (fun q => e1 (hinj z hz x hx q)), if_neg (fun q => e1 q.symm), if_neg (fun q => e2 q.symm), List.append_nil, List.append_nil]
              exact N.nb z hz
      · rintro σ H' ⟨o1, o2, rfl, N, sm'⟩
        rw [hrs.1, List.take_length] at N
        exact ⟨_, rfl, k d ad H' sm' hd N⟩
end
end K04

/-! K03f -/
set_option Elab.async false
set_option linter.all false
set_option maxRecDepth 100000
set_option maxHeartbeats 4000000
namespace K04
open PySem L2
open L2.Srt (call_sortP)
/-! ### Web -/
theorem Near.ext {H H' : Hp} {d p dx C : Addr} {fs : List (Str × V)} {hs : List Int} {ls : List (Int × Int)} {ad : Int → Addr} (n : Near H d hs ls ad) (hp : H p = some (.ins C dx fs)) (s : Ext p H H') : Near H' d hs ls ad :=
  ⟨s _ _ n.d (fun z => by rw [← z, n.d] at hp; cases hp), fun h m => s _ _ (n.nb h m) (fun z => by rw [← z, n.nb h m] at hp; cases hp)⟩
theorem LnAt.ext {H H' : Hp} {p dx C : Addr} {fs : List (Str × V)} {rs : List V} {ls : List (Int × Int)} (h : LnAt H rs ls) (hp : H p = some (.ins C dx fs)) (s : Ext p H H') : LnAt H' rs ls := ⟨h.1, fun i r q h1 h2 => by
  obtain ⟨t, e, ht⟩ := h.2 i r q h1 h2
  exact ⟨t, e, s _ _ ht fun z => by rw [← z, ht] at hp; cases hp⟩⟩
theorem LnAt.mem {H : Hp} {rs : List V} {ls : List (Int × Int)} (h : LnAt H rs ls) {y : V} (hy : y ∈ rs) : ∃ q i j, y = .ref q ∧ H q = some (.tup [.int i, .int j]) := by
  obtain ⟨i, hi, e⟩ := List.getElem_of_mem hy
  obtain ⟨p, q, _, e1, e2⟩ := h.get (i := i) (r := y) (by rw [List.getElem?_eq_getElem hi, e])
  exact ⟨q, _, _, e1, e2⟩
section
variable {P : Program} {w : World} {K : PySem.W.Frag} {mg : Str → Option Value} {base : Heap} {a : Ad}
structure WebAt (a : Ad) (H : Hp) (p : Addr) (hs : List Int) (ls : List (Int × Int)) (dx oh ol d : Addr) (ad : Int → Addr) : Prop where
  p : H p = some (.ins a.c_Web dx [("own_hands", .ref oh), ("own_lines", .ref ol), ("near", .ref d)])
  oh : H oh = some (.lst (hs.map V.int))
  nr : Near H d hs ls ad
theorem WebAt.same {H H' : Hp} {p dx oh ol d : Addr} {hs : List Int} {ls : List (Int × Int)} {ad : Int → Addr} (w : WebAt a H p hs ls dx oh ol d ad) (s : Same H H') : WebAt a H' p hs ls dx oh ol d ad := ⟨s _ _ w.p, s _ _ w.oh, w.nr.same s⟩
def spWeb (a : Ad) : Sp := fun vs H Q _ => ∃ (p dx h l : Addr) (rs : List V) (hs : List Int) (ls : List (Int × Int)), vs = [.ref p, .ref h, .ref l] ∧ H p = some (.ins a.c_Web dx []) ∧ H h = some (.lst (hs.map V.int)) ∧ H l = some (.lst rs) ∧ LnAt H rs ls ∧ Hs hs ∧ Ls hs ls ∧
  ∀ (oh ol d : Addr) (ad : Int → Addr) H', Ext p H H' → WebAt a H' p hs ls dx oh ol d ad → Q .non H'
theorem ok_web (T : Txt K mg a) : FnOk P w K mg base CX0 4 a.f_Web___init__ a.d_Web___init__ ["self", "hands", "lines"] (spWeb a) := by
  have c_are_hands : Callee P w K mg base "are_hands" a.f_are_hands a.d_are_hands ["hands"] 2 spHands := ⟨ok_hands T, T.g_are_hands, T.F_are_hands.kp, T.b_are_hands⟩
  have c_are_lines : Callee P w K mg base "are_lines" a.f_are_lines a.d_are_lines ["lines", "hands"] 3 spLines := ⟨ok_lines T, T.g_are_lines, T.F_are_lines.kp, T.b_are_lines⟩
  have c_near_by_hand : Callee P w K mg base "near_by_hand" a.f_near_by_hand a.d_near_by_hand ["hands", "lines"] 1 spNear := ⟨ok_near T, T.g_near_by_hand, T.F_near_by_hand.kp, T.b_near_by_hand⟩
  refine T.F_Web___init__.ok sc_Web___init__ (fun vs H Q E h => ?_) (fun cdv A outer s H vs Q E hr h => ?_)
  · obtain ⟨p, dx, h, l, rs, hs, ls, rfl, _⟩ := h
    rfl
  · obtain ⟨p, dx, h, l, rs, hs, ls, rfl, hp, hh, hl, hrs, W, L, k⟩ := h
    have l66 := L.le
    have np : ∀ {b : Addr} {xs : List V}, H b = some (.lst xs) → b ≠ p := fun e z => by rw [z, hp] at e; cases e
    refine ⟨_, (pss_cons (ps_if (pt_not (pt_val (pe_c c_are_hands (hr.mono (by omega)) (pa_cons (pv 1) pa_nil))))
        (pss_one ps_never)
        pss_nil)
      (pss_cons (ps_if (pt_not (pt_val (pe_c c_are_lines (hr.mono (by omega)) (pa_cons (pv 2) (pa_cons (pv 1) pa_nil)))))
        (pss_one ps_never)
        pss_nil)
      (pss_cons (ps_fld (pv 0) (pe_callTy call_list_of (by rfl) T.n_list bt_list (pa_cons (pv 1) pa_nil)) rfl)
      (pss_cons (ps_fld (pv 0) (pe_callB call_sortP (by rfl) T.n_sorted bt_sorted (pa_cons (pv 2) pa_nil)) rfl)
      (pss_one (ps_fld (pv 0) (pe_c c_near_by_hand (hr.mono (by omega)) (pa_cons (pv 1) (pa_cons (pv 2) pa_nil))) rfl)))))), ?_⟩
    refine ⟨_, rfl, h, hs, rfl, hh, W, _, rfl, iteN rfl ?_⟩
    refine ⟨_, rfl, _, rfl, l, h, rs, hs, ls, rfl, hl, hrs, hh, L, fun H1 s1 => ⟨_, rfl, iteN rfl ?_⟩⟩
    refine ⟨_, rfl, h, _, rfl, .inl (SqL.of (s1 _ _ hh)), fun oh hoh => ?_⟩
    have ohp : oh ≠ p := fun z => by rw [z, s1 _ _ hp] at hoh; cases hoh
    refine ⟨_, rfl, p, a.c_Web, dx, _, rfl, (upd_ne ohp.symm).trans (s1 _ _ hp), T.cl_Web, T.na_Web_own_hands, (by show 0 < 1000; decide), ?_⟩
    have x3 := ((Ext.same (l := p) s1).trans (Ext.new (l := p) (o := .lst (hs.map V.int)) hoh)).trans (Ext.at (l := p) (o := .ins a.c_Web dx [("own_hands", .ref oh)]))
    refine ⟨_, rfl, l, rs, rfl, SqL.of (x3 _ _ hl (np hl)), by rw [hrs.1]; exact l66, fun y hy => (hrs.ext hp x3).mem hy, fun ol zs hol z1 z2 => ?_⟩
    have olp : ol ≠ p := fun z => by rw [z, upd_same] at hol; cases hol
    refine ⟨_, rfl, p, a.c_Web, dx, _, rfl, (upd_ne olp.symm).trans upd_same, T.cl_Web, T.na_Web_own_lines, (by show 1 < 1000; decide), ?_⟩
    have x35 := (Ext.new (l := p) (o := .lst zs) hol).trans (Ext.at (l := p) (o := .ins a.c_Web dx [("own_hands", .ref oh), ("own_lines", .ref ol)]))
    have x5 := x3.trans x35
    refine ⟨_, rfl, _, rfl, h, l, rs, hs, ls, rfl, x5 _ _ hh (np hh), x5 _ _ hl (np hl), hrs.ext hp x5, W, L, fun d ad H6 s6 hd N => ?_⟩
    have hp6 := s6 _ _ (upd_same (a := p))
    refine ⟨_, rfl, p, a.c_Web, dx, _, rfl, hp6, T.cl_Web, T.na_Web_near, (by show 2 < 1000; decide), ?_⟩
    refine k oh ol d ad _ ((x5.trans (Ext.same s6)).trans Ext.at) ⟨upd_same, ?_, N.ext hp6 Ext.at⟩
    rw [upd_ne ohp]
    exact s6 _ _ (x35 _ _ ((upd_ne ohp).trans upd_same) ohp)
end
end K04

/-! K03g -/
set_option Elab.async false
set_option linter.all false
set_option maxRecDepth 100000
set_option maxHeartbeats 4000000
namespace K04
open PySem L2
open L2.Srt (call_sortD)
/-! ### group_of -/
structure Reach (hs : List Int) (ls : List (Int × Int)) (h : Int) (rs : List Int) : Prop where
  nd : rs.Nodup
  sub : ∀ x ∈ rs, x ∈ hs ∧ Rch ls h x
  st : h ∈ rs
theorem Reach.le {hs : List Int} {ls : List (Int × Int)} {h : Int} {rs : List Int} (r : Reach hs ls h rs) : rs.length ≤ hs.length := nd_le r.nd fun x hx => (r.sub x hx).1
theorem Reach.more {hs : List Int} {ls : List (Int × Int)} {h x y : Int} {rs : List Int} (L : Ls hs ls) (r : Reach hs ls h rs) (hx : x ∈ rs) (a : Adj ls x y) (hy : y ∉ rs) : Reach hs ls h (rs ++ [y]) where
  nd := by
    rw [List.nodup_append]
    refine ⟨r.nd, by simp, fun u hu v hv => ?_⟩
    rw [List.mem_singleton] at hv
    subst hv
    rintro rfl
    exact hy hu
  sub := fun u hu => by
    rcases List.mem_append.mp hu with m | m
    · exact r.sub u m
    · rw [List.mem_singleton] at m
      subst m
      exact ⟨(a.mem L).2, .step (r.sub x hx).2 a⟩
  st := List.mem_append_left _ r.st
theorem Reach.done {hs : List Int} {ls : List (Int × Int)} {h : Int} {rs ms : List Int} (W : Hs hs) (r : Reach hs ls h rs) (hc : ∀ x ∈ rs, ∀ y, Adj ls x y → y ∈ rs) (p : ms.Perm rs) (s : ms.Pairwise (· ≤ ·)) : ms = comp hs ls h :=
  sort_is p s r.nd (comp_up W.up) fun x => ⟨fun m => mem_comp.mpr (r.sub x m), fun m => (mem_comp.mp m).2.closed r.st hc⟩
theorem keys_snoc {kvs : List (Key × V)} {rs : List Int} {y : Int} {v : V} (e : kvs.map (·.1) = rs.map Sum.inl) (hy : y ∉ rs) : (putK kvs (Sum.inl y) v).map (·.1) = (rs ++ [y]).map Sum.inl := by
  rw [K04.putK_new (by rw [e, inl_mem]; exact hy), List.map_append, List.map_append, e]
  rfl
theorem keys_in {kvs : List (Key × V)} {rs : List Int} {y : Int} (e : kvs.map (·.1) = rs.map Sum.inl) : (valV kvs (Sum.inl y : Key)).isSome = decide (y ∈ rs) := by
  have : (Sum.inl y : Key) ∈ kvs.map (·.1) ↔ y ∈ rs := by rw [e, inl_mem]
  by_cases h : y ∈ rs
  · rw [decide_eq_true h]; exact valV_yes (this.mpr h)
  · rw [decide_eq_false h]; exact valV_no (fun z => h (this.mp z))
section
variable {P : Program} {w : World} {K : PySem.W.Frag} {mg : Str → Option Value} {base : Heap} {a : Ad}
def spGroup (a : Ad) : Sp := fun vs H Q _ => ∃ (p dx oh ol d : Addr) (ad : Int → Addr) (hs : List Int) (ls : List (Int × Int)) (h : Int), vs = [.ref p, .int h] ∧ WebAt a H p hs ls dx oh ol d ad ∧ Hs hs ∧ Ls hs ls ∧ h ∈ hs ∧
  ∀ (g : Addr) H', Same H H' → H g = none → H' g = some (.lst ((comp hs ls h).map V.int)) → Q (.ref g) H'
theorem ok_group (T : Txt K mg a) : FnOk P w K mg base CX0 1 a.f_Web_group_of a.d_Web_group_of ["self", "hand"] (spGroup a) := by
  refine T.F_Web_group_of.ok sc_Web_group_of (fun vs H Q E h => ?_) (fun cdv A outer s H vs Q E hr h => ?_)
  · obtain ⟨p, dx, oh, ol, d, ad, hs, ls, h, rfl, _⟩ := h
    rfl
  · obtain ⟨p, dx, oh, ol, d, ad, hs, ls, h, rfl, B, W, L, hm, k⟩ := h
    have l66 := L.le
    have l12 := W.l12
    have hu := hu_of hr
    refine ⟨_, (pss_cons (ps_set (i := 2) sc_Web_group_of.nd rfl (Or.inl rfl) (pe_disp (pps_cons (pv 1) pe_bl pps_nil) rfl rfl (by intro z; cases z) (by decide)))
      (pss_cons (ps_set (i := 3) sc_Web_group_of.nd rfl (Or.inl rfl) (pe_lst (pa_cons (pv 1) pa_nil)))
      (pss_cons (ps_while PassesOwn.never (pt_truth (pv 3) (fun _ => rfl))
        (pss_cons (ps_set (i := 4) sc_Web_group_of.nd rfl (Or.inl rfl) (pe_bm0 PySem.F.plainAttrs_list PySem.F.slot_list_pop PySem.F.type_list_pop mt_pop (pv 3)))
        (pss_one (ps_for PassesOwn.never rfl (pi_list (pe_dget hu (pe_fld (pv 0) rfl) (pv 4) (fun _ _ => rfl))) (pg_name (i := 5) sc_Web_group_of.nd rfl (Or.inl rfl))
          (pss_one (ps_if (pt_cmp (pc_dnotin hu (pv 5) (pv 2)))
            (pss_cons (ps_dput hu (pv 2) (pv 5) pe_bl rfl)
            (pss_one (ps_expr (pe_bm PySem.F.plainAttrs_list PySem.F.slot_list_append PySem.F.type_list_append mt_append (pv 3) (pa_cons (pv 5) pa_nil)))))
            pss_nil))))))
      (pss_one (ps_ret (pe_callB call_sortD (by rfl) T.n_sorted bt_sorted (pa_cons (pv 2) pa_nil))))))), ?_⟩
    refine fun q hq => ⟨_, rfl, upd_same, [(Sum.inl h, .bl true)], rfl, (by show 1 ≤ 15; decide), ?_⟩
    refine ⟨_, rfl, (by show 1 ≤ sizeLine; decide), fun l hl => ?_⟩
    rw [upd_upd] at hl ⊢
    have hlq : l ≠ q := fun z => by rw [z, upd_same] at hl; cases hl
    have hl0 : H l = none := by rw [upd_ne hlq] at hl; exact hl
    refine ⟨fun m σ H' => ∃ (kvs : List (Key × V)) (rs lf : List Int) (o1 o2 : Option V), σ = [some (.ref p), some (.int h), some (.ref q), some (.ref l), o1, o2] ∧ Same H H' ∧ H' q = some (.dK kvs) ∧ kvs.map (·.1) = rs.map Sum.inl ∧ H' l = some (.lst (lf.map V.int)) ∧
      Reach hs ls h rs ∧ (∀ x ∈ lf, x ∈ rs) ∧ (∀ x ∈ rs, x ∉ lf → ∀ y, Adj ls x y → y ∈ rs) ∧ m = 2 * (hs.length - rs.length) + lf.length ∧ m ≤ 100, ⟨2 * (hs.length - 1) + 1, ?_⟩, ?_⟩
    · refine ⟨_, [h], [h], none, none, rfl, (Same.new hq).updF hl0, (upd_ne hlq.symm).trans upd_same, rfl, upd_same, ⟨by simp, fun x hx => ?_, List.mem_singleton.mpr rfl⟩, fun x hx => hx, fun x hx hn => absurd hx hn, rfl, ?_⟩
      · rw [List.mem_singleton] at hx
        subst hx
        exact ⟨hm, .start⟩
      · omega
    · rintro m σ H1 ⟨kvs, rs, lf, o1, o2, rfl, sm, hq1, hk, hl1, R, hsub, hcl, rfl, h100⟩
      refine ⟨_, rfl, _, .inl ⟨_, SqL.of hl1, rfl⟩, ?_⟩
      rcases List.eq_nil_or_concat lf with rfl | ⟨lf, here, rfl⟩
      · refine iteN rfl ?_
        refine ⟨_, rfl, q, kvs, rs, rfl, hq1, hk, by have := R.le; omega, fun g ms hg pm srt => ?_⟩
        refine k g _ (sm.updF (sm.free hg)) (sm.free hg) ?_
        rw [upd_same, R.done W (fun x hx y ay => hcl x hx (List.not_mem_nil) y ay) pm srt]
      · rw [List.concat_eq_append] at hl1 hsub hcl h100 ⊢
        refine iteB (by simp) ?_
        have hx : here ∈ rs := hsub here (List.mem_append_right _ (List.mem_singleton.mpr rfl))
        have hxs := (R.sub here hx).1
        rw [List.length_append, List.length_singleton] at h100
        refine ⟨fun σ' H' => ∃ m', m' < 2 * (hs.length - rs.length) + (lf ++ [here]).length ∧ ∃ (kvs : List (Key × V)) (rs lf : List Int) (o1 o2 : Option V), σ' = [some (.ref p), some (.int h), some (.ref q), some (.ref l), o1, o2] ∧ Same H H' ∧ H' q = some (.dK kvs) ∧ kvs.map (·.1) = rs.map Sum.inl ∧ H' l = some (.lst (lf.map V.int)) ∧
          Reach hs ls h rs ∧ (∀ x ∈ lf, x ∈ rs) ∧ (∀ x ∈ rs, x ∉ lf → ∀ y, Adj ls x y → y ∈ rs) ∧ m' = 2 * (hs.length - rs.length) + lf.length ∧ m' ≤ 100, fun σ' H' x => x, ?_⟩
        refine ⟨_, rfl, .inl ⟨rfl, _, SqL.of hl1⟩, l, _, V.int here, rfl, rfl, hl1, by simp, ?_⟩
        rw [show ((lf ++ [here]).map V.int).dropLast = lf.map V.int by simp]
        have sm2 : Same H (upd H1 l (.lst (lf.map V.int))) := sm.updF hl0
        have B2 := B.same sm2
        refine ⟨_, rfl, p, a.c_Web, dx, _, _, rfl, B2.p, T.cl_Web, T.na_Web_near, rfl, _, rfl, d, V.ref (ad here), rfl, tab_get B2.nr.d hxs, ad here, rfl, ⟨_, SqL.of (B2.nr.nb here hxs)⟩, ?_⟩
        refine for_list (K := K) (a := ad here) (xs := (nbs ls here).map V.int) (fun i σ' H' => ∃ (kvs : List (Key × V)) (rs' lf' : List Int) (o2 : Option V), σ' = [some (.ref p), some (.int h), some (.ref q), some (.ref l), some (.int here), o2] ∧ Same H H' ∧ H' q = some (.dK kvs) ∧ kvs.map (·.1) = rs'.map Sum.inl ∧ H' l = some (.lst (lf'.map V.int)) ∧
          Reach hs ls h rs' ∧ here ∈ rs' ∧ (∀ x ∈ lf', x ∈ rs') ∧ (∀ x ∈ rs', x ∉ lf' → x ≠ here → ∀ y, Adj ls x y → y ∈ rs') ∧ (∀ y ∈ (nbs ls here).take i, y ∈ rs') ∧ 2 * (hs.length - rs'.length) + lf'.length < 2 * (hs.length - rs.length) + (lf ++ [here]).length) ?_ ?_ ?_ ?_
        · refine ⟨kvs, rs, lf, _, rfl, sm2, (upd_ne hlq.symm).trans hq1, hk, upd_same, R, hx, fun x m => hsub x (List.mem_append_left _ m), fun x m n1 n2 y ay => hcl x m (fun z => ?_) y ay, fun y m => by simp at m, ?_⟩
          · rcases List.mem_append.mp z with z | z
            · exact n1 z
            · exact n2 (List.mem_singleton.mp z)
          · rw [List.length_append, List.length_singleton]; omega
        · rintro i σ' H' _ ⟨kvs, rs', lf', o2, _, sm', _⟩
          exact SqL.of ((B.same sm').nr.nb here hxs)
        · rintro i x σ' H' hi ⟨kvs, rs', lf', o2, rfl, sm', hq', hk', hl', R', hx', hsub', hcl', hnb, hμ⟩
          rw [List.getElem?_map] at hi
          obtain ⟨y, hy, rfl⟩ := Option.map_eq_some_iff.mp hi
          have ay : Adj ls here y := mem_nbs.mp (List.mem_of_getElem? hy)
          have et : (nbs ls here).take (i + 1) = (nbs ls here).take i ++ [y] := by rw [List.take_add_one, hy]; rfl
          have eg := DGet.k (k := Sum.inl y) hq'
          refine ⟨_, rfl, _, rfl, q, _, rfl, eg, _, rfl, ?_⟩
          rw [keys_in hk']
          by_cases hin : y ∈ rs'
          · refine iteN (by rw [decide_eq_true hin]; rfl) ?_
            refine ⟨kvs, rs', lf', _, rfl, sm', hq', hk', hl', R', hx', hsub', hcl', fun z hz => ?_, hμ⟩
            rw [et] at hz
            rcases List.mem_append.mp hz with hz | hz
            · exact hnb z hz
            · rw [List.mem_singleton.mp hz]; exact hin
          · refine iteB (by rw [decide_eq_false hin]; rfl) ?_
            have le1 := R'.le
            have len1 : kvs.length ≤ 1000 := by
              have := congrArg List.length hk'
              rw [List.length_map, List.length_map] at this
              omega
            have R2 := R'.more L hx' ay hin
            have le2 := R2.le
            rw [List.length_append, List.length_singleton] at le2
            rw [List.length_append, List.length_singleton] at hμ
            refine ⟨_, rfl, _, rfl, q, _, rfl, DPut.k (k := Sum.inl y) hq' (small1000 len1), ?_⟩
            have hl2 : (upd H' q (.dK (putK kvs (Sum.inl y) (.bl true)))) l = some (.lst (lf'.map V.int)) := (upd_ne hlq).trans hl'
            refine ⟨_, rfl, .inl ⟨rfl, _, SqL.of hl2⟩, _, rfl, l, _, _, rfl, rfl, hl2, small1000 (by rw [List.length_map]; omega), ?_⟩
            refine ⟨_, rs' ++ [y], lf' ++ [y], _, rfl, (sm'.updF hq).updF hl0, (upd_ne hlq.symm).trans upd_same, keys_snoc hk' hin, by rw [upd_same, List.map_append]; rfl, R2, List.mem_append_left _ hx', fun z hz => ?_, fun z hz n1 n2 u au => ?_, fun z hz => ?_, ?_⟩
            · rcases List.mem_append.mp hz with hz | hz
              · exact List.mem_append_left _ (hsub' z hz)
              · exact List.mem_append_right _ hz
            · rcases List.mem_append.mp hz with hz | hz
              · exact List.mem_append_left _ (hcl' z hz (fun m => n1 (List.mem_append_left _ m)) n2 u au)
              · exact absurd (List.mem_append_right _ hz) n1
            · rw [et] at hz
              rcases List.mem_append.mp hz with hz | hz
              · exact List.mem_append_left _ (hnb z hz)
              · exact List.mem_append_right _ hz
            · simp only [List.length_append, List.length_singleton]
              omega
        · rintro σ' H' ⟨kvs, rs', lf', o2, rfl, sm', hq', hk', hl', R', hx', hsub', hcl', hnb, hμ⟩
          rw [List.length_map, List.take_length] at hnb
          refine ⟨_, hμ, kvs, rs', lf', _, o2, rfl, sm', hq', hk', hl', R', hsub', fun x m n y ay => ?_, rfl, ?_⟩
          · by_cases e : x = here
            · subst e; exact hnb y (mem_nbs.mpr ay)
            · exact hcl' x m n e y ay
          · rw [List.length_append, List.length_singleton] at hμ
            omega
end
end K04

/-! K03h -/
set_option Elab.async false
set_option linter.all false
set_option maxRecDepth 100000
set_option maxHeartbeats 4000000
namespace K04
open PySem L2
/-! ### groups -/
/-- lists of lists of ints, at addresses that are all new -/
structure GsAt (H0 H : Hp) (gs : List Addr) (xss : List (List Int)) : Prop where
  len : gs.length = xss.length
  its : ∀ (i : Nat) g xs, gs[i]? = some g → xss[i]? = some xs → H g = some (.lst (xs.map V.int))
  fresh : ∀ g ∈ gs, H0 g = none
  nd : gs.Nodup
theorem take_pos {hs : List Int} {i : Nat} {h x : Int} (up : hs.Pairwise (· < ·)) (hi : hs[i]? = some h) (hx : x ∈ hs) (lt : x < h) : x ∈ hs.take i := by
  obtain ⟨j, hj, e⟩ := List.getElem_of_mem hx
  obtain ⟨hi', ei⟩ := List.getElem?_eq_some_iff.mp hi
  have : j < i := by
    rcases Nat.lt_trichotomy j i with l | l | l
    · exact l
    · subst l; rw [e] at ei; omega
    · have := List.pairwise_iff_getElem.mp up i j hi' hj l
      omega
  rw [List.mem_take_iff_getElem]
  exact ⟨j, by omega, e⟩
section
variable {P : Program} {w : World} {K : PySem.W.Frag} {mg : Str → Option Value} {base : Heap} {a : Ad}
def spGroups (a : Ad) : Sp := fun vs H Q _ => ∃ (p dx oh ol d : Addr) (ad : Int → Addr) (hs : List Int) (ls : List (Int × Int)), vs = [.ref p] ∧ WebAt a H p hs ls dx oh ol d ad ∧ Hs hs ∧ Ls hs ls ∧
  ∀ (f : Addr) (gs : List Addr) H', Same H H' → H f = none → H' f = some (.lst (gs.map V.ref)) → GsAt H H' gs (grs ls hs hs) → f ∉ gs → Q (.ref f) H'
theorem ok_groups (T : Txt K mg a) : FnOk P w K mg base CX0 2 a.f_Web_groups a.d_Web_groups ["self"] (spGroups a) := by
  refine T.F_Web_groups.ok sc_Web_groups (fun vs H Q E h => ?_) (fun cdv A outer s H vs Q E hr h => ?_)
  · obtain ⟨p, dx, oh, ol, d, ad, hs, ls, rfl, _⟩ := h
    rfl
  · obtain ⟨p, dx, oh, ol, d, ad, hs, ls, rfl, B, W, L, k⟩ := h
    have l66 := L.le
    have l12 := W.l12
    have hu := hu_of hr
    refine ⟨_, (pss_cons (ps_set (i := 1) sc_Web_groups.nd rfl (Or.inl rfl) (pe_lst pa_nil))
      (pss_cons (ps_set (i := 2) sc_Web_groups.nd rfl (Or.inl rfl) pe_dnewK)
      (pss_cons (ps_for PassesOwn.never rfl (pi_list (pe_fld (pv 0) rfl)) (pg_name (i := 3) sc_Web_groups.nd rfl (Or.inl rfl))
        (pss_one (ps_if (pt_cmp (pc_dnotin hu (pv 3) (pv 2)))
          (pss_cons (ps_set (i := 4) sc_Web_groups.nd rfl (Or.inl rfl) (pe_methD (pv 0) (pa_cons (pv 3) pa_nil)))
          (pss_cons (ps_expr (pe_bm PySem.F.plainAttrs_list PySem.F.slot_list_append PySem.F.type_list_append mt_append (pv 1) (pa_cons (pv 4) pa_nil)))
          (pss_one (ps_for PassesOwn.never rfl (pi_list (pv 4)) (pg_name (i := 5) sc_Web_groups.nd rfl (Or.inl rfl))
            (pss_one (ps_dput hu (pv 2) (pv 5) pe_bl rfl))))))
          pss_nil)))
      (pss_one (ps_ret (pv 1)))))), ?_⟩
    refine ⟨(by show 0 ≤ sizeLine; decide), fun f hf => fun q hq => ?_⟩
    have hfq : q ≠ f := fun z => by rw [z, upd_same] at hq; cases hq
    have hq0 : H q = none := by rw [upd_ne hfq] at hq; exact hq
    have B0 := B.same ((Same.new (o := .lst []) hf).updF (o := .dK []) hq0)
    refine ⟨_, rfl, p, a.c_Web, dx, _, _, rfl, B0.p, T.cl_Web, T.na_Web_own_hands, rfl, oh, rfl, ⟨_, SqL.of B0.oh⟩, ?_⟩
    refine for_list (K := K) (a := oh) (xs := hs.map V.int) (fun i σ H' => ∃ (gs : List Addr) (kvs : List (Key × V)) (us : List Int) (o1 o2 o3 : Option V), σ = [some (.ref p), some (.ref f), some (.ref q), o1, o2, o3] ∧ Same H H' ∧ H' f = some (.lst (gs.map V.ref)) ∧ H' q = some (.dK kvs) ∧ kvs.map (·.1) = us.map Sum.inl ∧ us.Nodup ∧
      (∀ x, x ∈ us ↔ x ∈ (grs ls hs (hs.take i)).flatten) ∧ GsAt H H' gs (grs ls hs (hs.take i)) ∧ f ∉ gs) ?_ ?_ ?_ ?_
    · refine ⟨[], [], [], none, none, none, rfl, (Same.new hf).updF hq0, (upd_ne hfq.symm).trans upd_same, upd_same, rfl, List.nodup_nil, fun x => ?_, ⟨?_, fun i g xs e => ?_, fun g m => ?_, List.nodup_nil⟩, List.not_mem_nil⟩
      · simp [grs, reps]
      · simp [grs, reps]
      · simp at e
      · cases m
    · rintro i σ H' _ ⟨gs, kvs, us, o1, o2, o3, _, sm, _⟩
      exact SqL.of (B.same sm).oh
    · rintro i x σ H' hi ⟨gs, kvs, us, o1, o2, o3, rfl, sm, hf', hq', hk, hus, hmem, G, hfg⟩
      rw [List.getElem?_map] at hi
      obtain ⟨h, hh, rfl⟩ := Option.map_eq_some_iff.mp hi
      have hm : h ∈ hs := List.mem_of_getElem? hh
      have et : hs.take (i + 1) = hs.take i ++ [h] := by rw [List.take_add_one, hh]; rfl
      have hsub : ∀ x ∈ us, x ∈ hs := fun x m => by
        obtain ⟨l, hl, hx⟩ := List.mem_flatten.mp ((hmem x).mp m)
        obtain ⟨g, _, rfl⟩ := List.mem_map.mp hl
        exact (mem_comp.mp hx).1
      have usl := nd_le hus hsub
      have eg := DGet.k (k := Sum.inl h) hq'
      refine ⟨_, rfl, _, rfl, q, _, rfl, eg, _, rfl, ?_⟩
      rw [keys_in hk]
      by_cases hin : h ∈ us
      · refine iteN (by rw [decide_eq_true hin]; rfl) ?_
        have nl : ¬ Least hs ls h := fun lh => by
          obtain ⟨l, hl, hx⟩ := List.mem_flatten.mp ((hmem h).mp hin)
          obtain ⟨g, mg', rfl⟩ := List.mem_map.mp hl
          obtain ⟨m1, lg⟩ := mem_reps.mp mg'
          have e := rep_one (List.mem_of_mem_take m1) hm lg lh (mem_comp.mp hx).2 .start
          subst e
          exact nd_take (up_nodup W.up) hh m1
        have eg : grs ls hs (hs.take (i + 1)) = grs ls hs (hs.take i) := by unfold grs; rw [et, reps_snoc_neg nl]
        refine ⟨gs, kvs, us, _, o2, o3, rfl, sm, hf', hq', hk, hus, ?_, ?_, hfg⟩
        · rw [eg]; exact hmem
        · rw [eg]; exact G
      · refine iteB (by rw [decide_eq_false hin]; rfl) ?_
        have lh : Least hs ls h := fun x mx r => by
          refine Int.not_lt.mp fun lt => hin ?_
          obtain ⟨g, mg', lg, rg, le⟩ := rep_of (ls := ls) W.up hm
          have gx := lg x mx (rg.trans r)
          have : g ∈ hs.take i := take_pos W.up hh mg' (by omega)
          rw [hmem h, List.mem_flatten]
          exact ⟨comp hs ls g, List.mem_map.mpr ⟨g, mem_reps.mpr ⟨this, lg⟩, rfl⟩, mem_comp.mpr ⟨hm, rg⟩⟩
        have eg : grs ls hs (hs.take (i + 1)) = grs ls hs (hs.take i) ++ [comp hs ls h] := by unfold grs; rw [et, reps_snoc_pos lh, List.map_append]; rfl
        refine ⟨_, rfl, p, a.c_Web, dx, _, _, _, _, 1, spGroup a, rfl, (B.same sm).p, rfl, T.cl_Web, T.mt_Web_group_of, ok_group T, hr.mono (by omega), T.b_Web_group_of, ?_⟩
        refine ⟨_, rfl, p, dx, oh, ol, d, ad, hs, ls, h, rfl, B.same sm, W, L, hm, fun g H1 s1 hg hg1 => ?_⟩
        have gl : gs.length ≤ 12 := by
          rw [G.len]
          unfold grs reps
          rw [List.length_map]
          exact Nat.le_trans (List.length_filter_le _ _) (by rw [List.length_take]; omega)
        have hf1 := s1 _ _ hf'
        have hqo := hq'
        have hg0 : H g = none := sm.free hg
        have gf : g ≠ f := fun z => by rw [z, hf'] at hg; cases hg
        have gq : g ≠ q := fun z => by rw [z, hq'] at hg; cases hg
        have gng : g ∉ gs := fun m => by
          obtain ⟨j, hj, e⟩ := List.getElem_of_mem m
          have hj' : j < (grs ls hs (hs.take i)).length := by rw [← G.len]; exact hj
          have := G.its j g _ (by rw [List.getElem?_eq_getElem hj, e]) (List.getElem?_eq_getElem hj')
          rw [hg] at this; cases this
        refine ⟨_, rfl, .inl ⟨rfl, _, SqL.of hf1⟩, _, rfl, f, _, _, rfl, rfl, hf1, small1000 (by rw [List.length_map]; omega), ?_⟩
        have hg2 : (upd H1 f (.lst (gs.map V.ref ++ [V.ref g]))) g = some (.lst ((comp hs ls h).map V.int)) := (upd_ne gf).trans hg1
        have hq2 : (upd H1 f (.lst (gs.map V.ref ++ [V.ref g]))) q = some (.dK kvs) := (upd_ne hfq).trans (s1 _ _ hq')
        refine ⟨_, rfl, g, rfl, ⟨_, SqL.of hg2⟩, ?_⟩
        have dis : ∀ x ∈ comp hs ls h, x ∉ us := fun x mx m => by
          obtain ⟨l, hl, hx⟩ := List.mem_flatten.mp ((hmem x).mp m)
          obtain ⟨c, mc, rfl⟩ := List.mem_map.mp hl
          obtain ⟨m1, lc⟩ := mem_reps.mp mc
          have e := rep_one (List.mem_of_mem_take m1) hm lc lh (mem_comp.mp hx).2 (mem_comp.mp mx).2
          subst e
          exact nd_take (up_nodup W.up) hh m1
        have cu := up_nodup (comp_up (ls := ls) (s := h) W.up)
        refine for_list (K := K) (a := g) (xs := (comp hs ls h).map V.int) (fun j σ H' => ∃ (kvs : List (Key × V)) (o3 : Option V), σ = [some (.ref p), some (.ref f), some (.ref q), some (.int h), some (.ref g), o3] ∧ Same H H' ∧ H' f = some (.lst ((gs ++ [g]).map V.ref)) ∧ H' q = some (.dK kvs) ∧ kvs.map (·.1) = (us ++ (comp hs ls h).take j).map Sum.inl ∧
          (∀ b o, H1 b = some o → b ≠ f → b ≠ q → H' b = some o)) ?_ ?_ ?_ ?_
        · refine ⟨kvs, _, rfl, (sm.trans s1).updF hf, ?_, hq2, ?_, fun b o e n1 n2 => (upd_ne n1).trans e⟩
          · rw [upd_same, List.map_append]; rfl
          · rw [hk, List.take_zero, List.append_nil]
        · rintro j σ H' _ ⟨kvs, o3, _, _, _, _, _, kp⟩
          exact SqL.of (kp _ _ hg1 gf gq)
        · rintro j x σ H' hj ⟨kvs, o3, rfl, sm', hf', hq', hk', kp⟩
          rw [List.getElem?_map] at hj
          obtain ⟨y, hy, rfl⟩ := Option.map_eq_some_iff.mp hj
          have len1 : kvs.length ≤ 1000 := by
            have := congrArg List.length hk'
            simp only [List.length_map, List.length_append, List.length_take] at this
            have := comp_le (hs := hs) (ls := ls) (s := h)
            omega
          have hnew : y ∉ us ++ (comp hs ls h).take j := fun m => by
            rcases List.mem_append.mp m with m | m
            · exact dis y (List.mem_of_getElem? hy) m
            · exact nd_take cu hy m
          refine ⟨_, rfl, _, rfl, q, _, rfl, DPut.k (k := Sum.inl y) hq' (small1000 len1), ?_⟩
          refine ⟨_, _, rfl, sm'.updF hq0, (upd_ne hfq.symm).trans hf', upd_same, ?_, fun b o e n1 n2 => (upd_ne n2).trans (kp b o e n1 n2)⟩
          rw [keys_snoc hk' hnew, List.take_add_one, hy, List.append_assoc]
          rfl
        · rintro σ H' ⟨kvs, o3, rfl, sm', hf', hq', hk', kp⟩
          rw [List.length_map, List.take_length] at hk'
          refine ⟨gs ++ [g], kvs, us ++ comp hs ls h, _, _, _, rfl, sm', hf', hq', hk', ?_, fun x => ?_, ⟨?_, fun j g' xs e1 e2 => ?_, fun g' m => ?_, ?_⟩, fun m => ?_⟩
          · rw [List.nodup_append]
            exact ⟨hus, cu, fun x mx y my z => dis y my (z ▸ mx)⟩
          · rw [eg, List.flatten_append, List.mem_append, List.mem_append, hmem x]
            simp
          · rw [eg, List.length_append, List.length_append, G.len]; rfl
          · rw [eg] at e2
            by_cases lt : j < gs.length
            · rw [List.getElem?_append_left lt] at e1
              rw [List.getElem?_append_left (by rw [← G.len]; exact lt)] at e2
              have z := s1 _ _ (G.its j g' xs e1 e2)
              have m := List.mem_of_getElem? e1
              exact kp _ _ z (fun q => hfg (q ▸ m)) (fun z' => by
                rw [z', s1 _ _ hqo] at z; cases z)
            · have ej : j = gs.length := by
                have := (List.getElem?_eq_some_iff.mp e1).1
                rw [List.length_append, List.length_singleton] at this
                omega
              subst ej
              rw [List.getElem?_append_right (Nat.le_refl _), Nat.sub_self] at e1
              rw [G.len, List.getElem?_append_right (Nat.le_refl _), Nat.sub_self] at e2
              obtain rfl : g = g' := by simpa using e1
              obtain rfl : comp hs ls h = xs := by simpa using e2
              exact kp _ _ hg1 gf gq
          · rcases List.mem_append.mp m with m | m
            · exact G.fresh g' m
            · rw [List.mem_singleton.mp m]; exact hg0
          · rw [List.nodup_append]
            refine ⟨G.nd, by simp, fun x mx y my z => ?_⟩
            rw [List.mem_singleton.mp my] at z
            exact gng (z ▸ mx)
          · rcases List.mem_append.mp m with m | m
            · exact hfg m
            · exact gf (List.mem_singleton.mp m).symm
    · rintro σ H' ⟨gs, kvs, us, o1, o2, o3, rfl, sm, hf', _, _, _, _, G, hfg⟩
      rw [List.length_map, List.take_length] at G
      exact ⟨_, rfl, k f gs H' sm hf hf' G hfg⟩
end
end K04

/-! K03i -/
set_option Elab.async false
set_option linter.all false
set_option maxRecDepth 100000
set_option maxHeartbeats 4000000
namespace K04
open PySem L2
/-! ### _law_reached -/
def Shut (ls : List (Int × Int)) (fs : List Int) : Prop := ∀ x ∈ fs, ∀ y, Adj ls x y → y ∈ fs
theorem Shut.of {ls : List (Int × Int)} {fs : List Int} (h : ∀ p ∈ ls, (p.1 ∈ fs → p.2 ∈ fs) ∧ (p.2 ∈ fs → p.1 ∈ fs)) : Shut ls fs := fun x hx y ay => by
  rcases ay with m | m
  · exact (h _ m).1 hx
  · exact (h _ m).2 hx
/-- a pass: longer, or as it was and shut so far -/
structure Pass (hs : List Int) (ls : List (Int × Int)) (h : Int) (i : Nat) (fs0 : List Int) (C : Prop) (fs : List Int) : Prop where
  r : Reach hs ls h fs
  c : i + 2 ≤ fs.length ∨ (fs = fs0 ∧ C)
theorem Pass.add {hs : List Int} {ls : List (Int × Int)} {h x y : Int} {i : Nat} {fs0 fs : List Int} {C C' : Prop} (L : Ls hs ls) (h0 : Shut ls fs0 ∨ i + 1 ≤ fs0.length) (p : Pass hs ls h i fs0 C fs) (a : Adj ls x y) (hx : x ∈ fs) (hy : y ∉ fs) : Pass hs ls h i fs0 C' (fs ++ [y]) where
  r := p.r.more L hx a hy
  c := .inl (by
    rw [List.length_append, List.length_singleton]
    rcases p.c with c | ⟨rfl, _⟩
    · omega
    · rcases h0 with h0 | h0
      · exact absurd (h0 x hx y a) hy
      · omega)
theorem Pass.keep {hs : List Int} {ls : List (Int × Int)} {h : Int} {i : Nat} {fs0 fs : List Int} {C C' : Prop} (p : Pass hs ls h i fs0 C fs) (k : C → C') : Pass hs ls h i fs0 C' fs := ⟨p.r, p.c.imp id fun ⟨e, c⟩ => ⟨e, k c⟩⟩
section
variable {P : Program} {w : World} {K : PySem.W.Frag} {mg : Str → Option Value} {base : Heap} {a : Ad}
def spReached : Sp := fun vs H Q _ => ∃ (g l : Addr) (rs : List V) (hs : List Int) (ls : List (Int × Int)) (h : Int), vs = [.ref g, .ref l] ∧ H g = some (.lst ((comp hs ls h).map V.int)) ∧ H l = some (.lst rs) ∧ LnAt H rs ls ∧ Hs hs ∧ Ls hs ls ∧ h ∈ hs ∧ Least hs ls h ∧
  ∀ (f : Addr) H', Same H H' → H f = none → H' f = some (.lst ((comp hs ls h).map V.int)) → Q (.ref f) H'
theorem ok_reached (T : Txt K mg a) : FnOk P w K mg base CX0 1 a.f__law_reached a.d__law_reached ["_law_group", "_law_lines"] spReached := by
  refine T.F__law_reached.ok sc__law_reached (fun vs H Q E h => ?_) (fun cdv A outer s H vs Q E hr h => ?_)
  · obtain ⟨g, l, rs, hs, ls, h, rfl, _⟩ := h
    rfl
  · obtain ⟨g, l, rs, hs, ls, h, rfl, hg, hl, hrs, W, L, hm, least, k⟩ := h
    have l66 := L.le
    have l12 := W.l12
    have cl := comp_le (hs := hs) (ls := ls) (s := h)
    refine ⟨_, (pss_cons (ps_set (i := 2) sc__law_reached.nd rfl (Or.inl rfl) (pe_lst (pa_cons (pe_ix ix_list (pv 0) pe_int (fun _ _ => rfl)) pa_nil)))
      (pss_cons (ps_for PassesOwn.never rfl (pi_range1 rfl T.n_range (pa_cons (pe_callB call_len_seq (by rfl) T.n_len bt_len (pa_cons (pv 0) pa_nil)) pa_nil)) (pg_name (i := 3) sc__law_reached.nd rfl (Or.inl rfl))
        (pss_one (ps_for PassesOwn.never rfl (pi_list (pv 1)) (pg_tup rfl (pgs_cons (pg_name (i := 4) sc__law_reached.nd rfl (Or.inl rfl)) (pgs_cons (pg_name (i := 5) sc__law_reached.nd rfl (Or.inl rfl)) pgs_nil)))
          (pss_cut (ps_if (PW.pt (pw_and (pt_cmpR op_in_seq (pv 4) (pv 2) (by with_unfolding_all rfl)) (pw_and1 (pt_cmpR op_notIn_seq (pv 5) (pv 2) (by with_unfolding_all rfl)))))
            (pss_one (ps_expr (pe_bm PySem.F.plainAttrs_list PySem.F.slot_list_append PySem.F.type_list_append mt_append (pv 2) (pa_cons (pv 5) pa_nil))))
            pss_nil)
          (pss_one (ps_if (PW.pt (pw_and (pt_cmpR op_in_seq (pv 5) (pv 2) (by with_unfolding_all rfl)) (pw_and1 (pt_cmpR op_notIn_seq (pv 4) (pv 2) (by with_unfolding_all rfl)))))
            (pss_one (ps_expr (pe_bm PySem.F.plainAttrs_list PySem.F.slot_list_append PySem.F.type_list_append mt_append (pv 2) (pa_cons (pv 4) pa_nil))))
            pss_nil))))))
      (pss_one (ps_ret (pe_callB call_sortI (by rfl) T.n_sorted bt_sorted (pa_cons (pv 2) pa_nil)))))), ?_⟩
    obtain ⟨t, et⟩ := comp_head W.up hm least
    have hg' : H g = some (.lst (V.int h :: t.map V.int)) := by rw [hg, et]; rfl
    refine ⟨_, rfl, g, _, 0, V.int h, rfl, rfl, SqL.of hg', atI_nat (j := 0) rfl, (by show 1 ≤ sizeLine; decide), fun f hf => ?_⟩
    refine ⟨_, rfl, g, _, rfl, .inl (SqL.of (Same.new hf _ _ hg)), _, rfl, ?_, ?_, ?_⟩
    · rw [List.length_map]; omega
    · rw [List.length_map]; omega
    refine for_range (lo := 0) (n := (((comp hs ls h).map V.int).length : Int).toNat) (fun i σ H' => ∃ (fs : List Int) (o3 o4 o5 : Option V), σ = [some (.ref g), some (.ref l), some (.ref f), o3, o4, o5] ∧ Same H H' ∧ H' f = some (.lst (fs.map V.int)) ∧ Reach hs ls h fs ∧ (Shut ls fs ∨ i + 1 ≤ fs.length)) ?_ ?_ ?_
    · refine ⟨[h], none, none, none, rfl, Same.new hf, upd_same, ⟨by simp, fun x hx => ?_, List.mem_singleton.mpr rfl⟩, .inr (Nat.le_refl _)⟩
      rw [List.mem_singleton.mp hx]
      exact ⟨hm, .start⟩
    · rintro i σ H1 hi ⟨fs0, o3, o4, o5, rfl, sm1, hf1, R0, h0⟩
      refine ⟨_, rfl, l, rfl, ⟨_, SqL.of (sm1 _ _ hl)⟩, ?_⟩
      refine for_list (K := K) (a := l) (xs := rs) (fun j σ H' => ∃ (fs : List Int) (o4 o5 : Option V), σ = [some (.ref g), some (.ref l), some (.ref f), some (.int (0 + i)), o4, o5] ∧ Same H H' ∧ H' f = some (.lst (fs.map V.int)) ∧
        Pass hs ls h i fs0 (∀ p ∈ ls.take j, (p.1 ∈ fs0 → p.2 ∈ fs0) ∧ (p.2 ∈ fs0 → p.1 ∈ fs0)) fs) ?_ ?_ ?_ ?_
      · exact ⟨fs0, o4, o5, rfl, sm1, hf1, R0, .inr ⟨rfl, fun p m => by simp at m⟩⟩
      · rintro j σ H' _ ⟨fs, o4, o5, _, sm, _⟩
        exact SqL.of (sm _ _ hl)
      · rintro j x σ H' hj ⟨fs, o4, o5, rfl, sm, hf', S⟩
        obtain ⟨⟨x, y⟩, q, hp, rfl, hq⟩ := (hrs.same sm).get hj
        dsimp only at hq
        have axy : Adj ls x y := .inl (List.mem_of_getElem? hp)
        have etk : ls.take (j + 1) = ls.take j ++ [(x, y)] := by rw [List.take_add_one, hp]; rfl
        refine ⟨q, _, rfl, SqT.of hq, rfl, _, _, rfl, _, _, rfl, rfl, ?_⟩
        refine ⟨fun σ' H'' => ∃ (fs : List Int), σ' = [some (.ref g), some (.ref l), some (.ref f), some (.int (0 + i)), some (.int x), some (.int y)] ∧ Same H H'' ∧ H'' f = some (.lst (fs.map V.int)) ∧
          Pass hs ls h i fs0 ((∀ p ∈ ls.take j, (p.1 ∈ fs0 → p.2 ∈ fs0) ∧ (p.2 ∈ fs0 → p.1 ∈ fs0)) ∧ (x ∈ fs0 → y ∈ fs0)) fs, ?_, ?_⟩
        · refine ⟨_, rfl, _, rfl, f, _, rfl, .inl (SqL.of hf'), rfl, flat_ints fs, _, rfl, ?_⟩
          rw [show (inV (.int x) (fs.map V.int)) = decide (x ∈ fs) from inV_int]
          by_cases hx : x ∈ fs
          · refine iteB (decide_eq_true hx) ?_
            refine ⟨_, rfl, _, rfl, f, _, rfl, .inl (SqL.of hf'), rfl, flat_ints fs, _, rfl, ?_⟩
            rw [show (inV (.int y) (fs.map V.int)) = decide (y ∈ fs) from inV_int]
            by_cases hy : y ∈ fs
            · refine iteN (by rw [decide_eq_true hy]; rfl) ?_
              refine ⟨fs, rfl, sm, hf', S.r, S.c.imp id fun ⟨e, c⟩ => ⟨e, c, fun _ => by rw [← e]; exact hy⟩⟩
            · refine iteB (by rw [decide_eq_false hy]; rfl) ?_
              have := S.r.le
              refine ⟨_, rfl, .inl ⟨rfl, _, SqL.of hf'⟩, _, rfl, f, _, _, rfl, rfl, hf', small1000 (by rw [List.length_map]; omega), ?_⟩
              exact ⟨fs ++ [y], rfl, sm.updF hf, by rw [upd_same, List.map_append]; rfl, S.add L h0 axy hx hy⟩
          · refine iteN (decide_eq_false hx) (iteN rfl ?_)
            refine ⟨fs, rfl, sm, hf', S.r, S.c.imp id fun ⟨e, c⟩ => ⟨e, c, fun z => absurd (by rw [e]; exact z) hx⟩⟩
        · rintro σ' H'' ⟨fs, rfl, sm, hf', S⟩
          have fin : ∀ {fs : List Int}, Pass hs ls h i fs0 (((∀ p ∈ ls.take j, (p.1 ∈ fs0 → p.2 ∈ fs0) ∧ (p.2 ∈ fs0 → p.1 ∈ fs0)) ∧ (x ∈ fs0 → y ∈ fs0)) ∧ (y ∈ fs0 → x ∈ fs0)) fs → Pass hs ls h i fs0 (∀ p ∈ ls.take (j + 1), (p.1 ∈ fs0 → p.2 ∈ fs0) ∧ (p.2 ∈ fs0 → p.1 ∈ fs0)) fs := fun S => S.keep fun ⟨⟨c1, c2⟩, c3⟩ p m => by
            rw [etk] at m
            rcases List.mem_append.mp m with m | m
            · exact c1 p m
            · rw [List.mem_singleton.mp m]; exact ⟨c2, c3⟩
          refine ⟨_, rfl, _, rfl, f, _, rfl, .inl (SqL.of hf'), rfl, flat_ints fs, _, rfl, ?_⟩
          rw [show (inV (.int y) (fs.map V.int)) = decide (y ∈ fs) from inV_int]
          by_cases hy : y ∈ fs
          · refine iteB (decide_eq_true hy) ?_
            refine ⟨_, rfl, _, rfl, f, _, rfl, .inl (SqL.of hf'), rfl, flat_ints fs, _, rfl, ?_⟩
            rw [show (inV (.int x) (fs.map V.int)) = decide (x ∈ fs) from inV_int]
            by_cases hx : x ∈ fs
            · refine iteN (by rw [decide_eq_true hx]; rfl) ?_
              exact ⟨fs, _, _, rfl, sm, hf', fin ⟨S.r, S.c.imp id fun ⟨e, c⟩ => ⟨e, c, fun _ => by rw [← e]; exact hx⟩⟩⟩
            · refine iteB (by rw [decide_eq_false hx]; rfl) ?_
              have := S.r.le
              refine ⟨_, rfl, .inl ⟨rfl, _, SqL.of hf'⟩, _, rfl, f, _, _, rfl, rfl, hf', small1000 (by rw [List.length_map]; omega), ?_⟩
              exact ⟨fs ++ [x], _, _, rfl, sm.updF hf, by rw [upd_same, List.map_append]; rfl, S.add L h0 axy.symm hy hx⟩
          · refine iteN (decide_eq_false hy) (iteN rfl ?_)
            exact ⟨fs, _, _, rfl, sm, hf', fin ⟨S.r, S.c.imp id fun ⟨e, c⟩ => ⟨e, c, fun z => absurd (by rw [e]; exact z) hy⟩⟩⟩
      · rintro σ H' ⟨fs, o4, o5, rfl, sm, hf', S⟩
        refine ⟨fs, _, o4, o5, rfl, sm, hf', S.r, ?_⟩
        rcases S.c with c | ⟨rfl, c⟩
        · exact .inr (by omega)
        · rw [hrs.1, List.take_length] at c
          exact .inl (Shut.of c)
    · rintro σ H' ⟨fs, o3, o4, o5, rfl, sm, hf', R, hc⟩
      have shut : Shut ls fs := by
        rcases hc with c | c
        · exact c
        · have := nd_le (bs := comp hs ls h) R.nd fun x hx => mem_comp.mpr (R.sub x hx)
          rw [List.length_map] at c
          omega
      have := R.le
      refine ⟨_, rfl, f, fs, rfl, SqL.of hf', by omega, fun r ms hr' pm srt => ?_⟩
      refine k r _ (sm.updF (sm.free hr')) (sm.free hr') ?_
      rw [upd_same, R.done W shut pm srt]
end
end K04

/-! K03j -/
set_option Elab.async false
set_option linter.all false
set_option maxRecDepth 100000
set_option maxHeartbeats 4000000
namespace K04
open PySem L2
/-! ### _law_web -/
theorem _root_.L2.Ext_upd {l p : Addr} {H H' : Hp} {o : HO} (x : Ext l H H') (h : H p = none) : Ext l H (L2.upd H' p o) := fun b u e n => by
  rw [upd_ne (ne_of_none e h)]; exact x b u e n
theorem Ext_free {l p : Addr} {H H' : Hp} (x : Ext l H H') (s : StAt H' l) (h : H' p = none) : H p = none := by
  cases e : H p with
  | none => rfl
  | some o =>
    have := x p o e (s.ne h)
    rw [h] at this; cases this
theorem LnAt.mono {H H' : Hp} {rs : List V} {ls : List (Int × Int)} (h : LnAt H rs ls) (k : ∀ b xs, H b = some (.tup xs) → H' b = some (.tup xs)) : LnAt H' rs ls := ⟨h.1, fun i r p h1 h2 => by
  obtain ⟨q, e, t⟩ := h.2 i r p h1 h2
  exact ⟨q, e, k _ _ t⟩⟩
theorem Ext_tup {l : Addr} {H H' : Hp} (s : StAt H l) (x : Ext l H H') : ∀ b xs, H b = some (.tup xs) → H' b = some (.tup xs) := fun b xs e => x b _ e fun z => by
  obtain ⟨st, h, _⟩ := s
  rw [z, h] at e; cases e
theorem LnAt.snoc {H : Hp} {rs : List V} {ls : List (Int × Int)} {q : Addr} {x y : Int} (h : LnAt H rs ls) (hq : H q = some (.tup [.int x, .int y])) : LnAt H (rs ++ [.ref q]) (ls ++ [(x, y)]) := by
  refine ⟨by rw [List.length_append, List.length_append, h.1]; rfl, fun i r p e1 e2 => ?_⟩
  by_cases lt : i < rs.length
  · rw [List.getElem?_append_left lt] at e1
    rw [List.getElem?_append_left (by rw [← h.1]; exact lt)] at e2
    exact h.2 i r p e1 e2
  · have ei : i = rs.length := by
      have := (List.getElem?_eq_some_iff.mp e1).1
      rw [List.length_append, List.length_singleton] at this
      omega
    subst ei
    rw [List.getElem?_append_right (Nat.le_refl _), Nat.sub_self] at e1
    rw [h.1, List.getElem?_append_right (Nat.le_refl _), Nat.sub_self] at e2
    obtain rfl : V.ref q = r := by simpa using e1
    obtain rfl : (x, y) = p := by simpa using e2
    exact ⟨q, rfl, hq⟩
theorem LnAt.turn {H : Hp} {rs : List V} {ls : List (Int × Int)} (h : LnAt H rs ls) (t : Nat) : LnAt H (rs.drop t ++ rs.take t) (ls.drop t ++ ls.take t) := by
  refine ⟨by rw [List.length_append, List.length_append, List.length_drop, List.length_drop, List.length_take, List.length_take, h.1], fun i r p e1 e2 => ?_⟩
  by_cases lt : i < (rs.drop t).length
  · rw [List.getElem?_append_left lt, List.getElem?_drop] at e1
    rw [List.getElem?_append_left (by rw [List.length_drop] at lt ⊢; rw [← h.1]; exact lt), List.getElem?_drop] at e2
    exact h.2 _ r p e1 e2
  · have e3 : (rs.drop t).length = (ls.drop t).length := by rw [List.length_drop, List.length_drop, h.1]
    rw [List.getElem?_append_right (by omega)] at e1
    rw [List.getElem?_append_right (by omega), ← e3] at e2
    have l1 := (List.getElem?_eq_some_iff.mp e1).1
    rw [List.length_take] at l1
    rw [List.getElem?_take_of_lt (by omega)] at e1 e2
    exact h.2 _ r p e1 e2
theorem pick4b {d : Int} (h0 : 0 ≤ d) (h4 : d < 4) : ∃ v : Int, atI [V.int 1, V.int 1, V.int 2, V.int 8] d = some (V.int v) ∧ 1 ≤ v := by
  obtain ⟨n, rfl⟩ : ∃ n : Nat, d = n := ⟨d.toNat, by omega⟩
  have : n = 0 ∨ n = 1 ∨ n = 2 ∨ n = 3 := by omega
  rcases this with rfl | rfl | rfl | rfl
  · exact ⟨1, atI_nat (j := 0) rfl, by omega⟩
  · exact ⟨1, atI_nat (j := 1) rfl, by omega⟩
  · exact ⟨2, atI_nat (j := 2) rfl, by omega⟩
  · exact ⟨8, atI_nat (j := 3) rfl, by omega⟩
section
variable {P : Program} {w : World} {K : PySem.W.Frag} {mg : Str → Option Value} {base : Heap} {a : Ad}
def spWebL : Sp := fun vs H Q _ => ∃ (l : Addr), vs = [.ref l] ∧ StAt H l ∧
  ∀ (t h r : Addr) (rs : List V) (hs : List Int) (ls : List (Int × Int)) H', H' t = some (.tup [.ref h, .ref r]) → H' h = some (.lst (hs.map V.int)) → H' r = some (.lst rs) → LnAt H' rs ls → Hs hs → Ls hs ls → StAt H' l → Ext l H H' → H t = none → H h = none → H r = none → Q (.ref t) H'
theorem ok_webl (T : Txt K mg a) : FnOk P w K mg base CX0 2 a.f__law_web a.d__law_web ["_law_state"] spWebL := by
  have c__law_digit : Callee P w K mg base "_law_digit" a.f__law_digit a.d__law_digit ["_law_state", "_law_base"] 1 spDigit := ⟨ok_digit T, T.g__law_digit, T.F__law_digit.kp, T.b__law_digit⟩
  refine T.F__law_web.ok sc__law_web (fun vs H Q E h => ?_) (fun cdv A outer s H vs Q E hr h => ?_)
  · obtain ⟨l, rfl, _⟩ := h
    rfl
  · obtain ⟨l, rfl, S0, k⟩ := h
    refine ⟨_, (pss_cons (ps_set (i := 1) sc__law_web.nd rfl (Or.inr rfl) (pe_lst pa_nil))
      (pss_cons (ps_set (i := 2) sc__law_web.nd rfl (Or.inl rfl) pe_int)
      (pss_cons (ps_for PassesOwn.never rfl (pi_range1 rfl T.n_range (pa_cons (pe_op op_add pe_int (pe_c c__law_digit (hr.mono (by omega)) (pa_cons (pv 0) (pa_cons pe_int pa_nil)))) pa_nil)) (pg_name (i := 3) sc__law_web.nd rfl (Or.inl rfl))
        (pss_cons (ps_set (i := 4) sc__law_web.nd rfl (Or.inl rfl) (pe_ix ix_list (pe_lst (pa_cons pe_int (pa_cons pe_int (pa_cons pe_int (pa_cons pe_int pa_nil))))) (pe_c c__law_digit (hr.mono (by omega)) (pa_cons (pv 0) (pa_cons pe_int pa_nil))) (fun _ _ => rfl)))
        (pss_cons (ps_set (i := 2) sc__law_web.nd rfl (Or.inl rfl) (pe_callB (call_min2 rfl) (by rfl) T.n_min bt_min (pa_cons (pe_op op_add (pv 2) (pv 4)) (pa_cons (pe_op op_add pe_int (pv 3)) pa_nil))))
        (pss_one (ps_expr (pe_bm PySem.F.plainAttrs_list PySem.F.slot_list_append PySem.F.type_list_append mt_append (pv 1) (pa_cons (pv 2) pa_nil)))))))
      (pss_cut (ps_if (pt_cmpR op_eq (pe_c c__law_digit (hr.mono (by omega)) (pa_cons (pv 0) (pa_cons pe_int pa_nil))) pe_int (nomark _))
        (pss_one (ps_set (i := 1) sc__law_web.nd rfl (Or.inr rfl) (pe_comp rfl (N' := ["_law_hand", "_law_hands"]) (t := 1) (caps := [1]) ⟨rfl, rfl, rfl⟩ (pi_list (pv 1)) (fun _ => (pg_name (i := 0) (show (["_law_hand", "_law_hands"] : List Str).Nodup by decide +kernel) rfl (Or.inl rfl))) (fun _ => pts_nil) (fun _ => (pe_op op_sub (pv 0) (pe_ix ix_list (pv 1) pe_int (fun _ _ => rfl)))))))
        pss_nil)
      (pss_cons (ps_set (i := 5) sc__law_web.nd rfl (Or.inl rfl) (pe_lst pa_nil))
      (pss_cons (ps_set (i := 6) sc__law_web.nd rfl (Or.inl rfl) (pe_op op_add pe_int (pe_c c__law_digit (hr.mono (by omega)) (pa_cons (pv 0) (pa_cons pe_int pa_nil)))))
      (pss_cons (ps_for PassesOwn.never rfl (pi_list (pv 1)) (pg_name (i := 7) sc__law_web.nd rfl (Or.inl rfl))
        (pss_one (ps_for PassesOwn.never rfl (pi_list (pv 1)) (pg_name (i := 8) sc__law_web.nd rfl (Or.inl rfl))
          (pss_one (ps_if (PW.pt (pw_and (pt_cmpR op_lt (pv 7) (pv 8) (nomark _)) (pw_and1 (pt_cmpR op_eq (pe_c c__law_digit (hr.mono (by omega)) (pa_cons (pv 0) (pa_cons (pv 6) pa_nil))) pe_int (nomark _)))))
            (pss_one (ps_expr (pe_bm PySem.F.plainAttrs_list PySem.F.slot_list_append PySem.F.type_list_append mt_append (pv 5) (pa_cons (pe_tup (pa_cons (pv 7) (pa_cons (pv 8) pa_nil))) pa_nil))))
            pss_nil)))))
      (pss_cons (ps_set (i := 9) sc__law_web.nd rfl (Or.inl rfl) (pe_c c__law_digit (hr.mono (by omega)) (pa_cons (pv 0) (pa_cons (pe_op op_add (pe_callB call_len_seq (by rfl) T.n_len bt_len (pa_cons (pv 5) pa_nil)) pe_int) pa_nil))))
      (pss_one (ps_ret (pe_tup (pa_cons (pv 1) (pa_cons (pe_op op_cat (pe_slice sl_list (pv 5) (po_some (pv 9)) po_none) (pe_slice sl_list (pv 5) po_none (po_some (pv 9)))) pa_nil))))))))))))), ?_⟩
    refine ⟨(by show 0 ≤ sizeLine; decide), fun p hp => ?_⟩
    have pl := S0.ne hp
    refine ⟨_, rfl, l, 12, rfl, S0.new hp, by decide, by decide, fun d H1 g1 g2 S1 x1 => ?_⟩
    refine ⟨_, _, rfl, rfl, _, rfl, by omega, by omega, ?_⟩
    refine for_range (lo := 0) (n := (1 + d).toNat) (fun i σ H' => ∃ (hs : List Int) (low : Int) (o3 o4 : Option V), σ = [some (.ref l), some (.ref p), some (.int low), o3, o4, none, none, none, none, none] ∧ StAt H' l ∧ Ext l H H' ∧ H' p = some (.lst (hs.map V.int)) ∧ hs.length = i ∧ hs.Pairwise (· < ·) ∧
      (∀ h ∈ hs, 0 ≤ h ∧ h ≤ low) ∧ 0 ≤ low ∧ low ≤ 87 + i) ?_ ?_ ?_
    · exact ⟨[], 0, none, none, rfl, S1, (Ext.new hp).trans x1, x1 _ _ upd_same pl, rfl, List.Pairwise.nil, fun h m => (by cases m), by omega, by omega⟩
    · rintro i σ H2 hi ⟨hs, low, o3, o4, rfl, S2, x2, hp2, hlen, up, hb, b1, b2⟩
      refine ⟨(by show 4 ≤ sizeLine; decide), fun q hq => ?_⟩
      refine ⟨_, rfl, l, 4, rfl, S2.new hq, by decide, by decide, fun d3 H3 g3 g4 S3 x3 => ?_⟩
      obtain ⟨v, av, v1⟩ := pick4b g3 g4
      have hq0 := Ext_free x2 S2 hq
      have X3 : Ext l H H3 := (x2.trans (Ext.new hq)).trans x3
      have hp3 : H3 p = some (.lst (hs.map V.int)) := x3 _ _ (Same.new hq _ _ hp2) pl
      refine ⟨q, _, d3, V.int v, rfl, rfl, SqL.of (x3 _ _ upd_same (S2.ne hq)), av, ?_⟩
      refine ⟨_, rfl, _, rfl, _, _, rfl, rfl, _, rfl, _, _, rfl, rfl, _, _, rfl, ?_⟩
      generalize hlow : (if 88 + (0 + (i : Int)) < low + v then 88 + (0 + (i : Int)) else low + v) = low'
      have c1 : low < low' ∧ low' ≤ 88 + i := by
        rw [← hlow]
        split <;> omega
      refine ⟨_, rfl, .inl ⟨rfl, _, SqL.of hp3⟩, _, rfl, p, _, _, rfl, rfl, hp3, small1000 (by rw [List.length_map]; omega), ?_⟩
      refine ⟨hs ++ [low'], low', _, _, rfl, ?_, Ext_upd X3 hp, by rw [upd_same, List.map_append]; rfl, by rw [List.length_append, hlen]; rfl, ?_, fun h m => ?_, by omega, by omega⟩
      · obtain ⟨st, e1, e2⟩ := S3
        exact ⟨st, (upd_ne pl.symm).trans e1, e2⟩
      · rw [List.pairwise_append]
        refine ⟨up, List.pairwise_singleton _ _, fun x mx y my => ?_⟩
        rw [List.mem_singleton.mp my]
        have := hb x mx
        omega
      · rcases List.mem_append.mp m with m | m
        · have := hb h m; omega
        · rw [List.mem_singleton.mp m]; omega
    · rintro σ H2 ⟨hs, low, o3, o4, rfl, S2, x2, hp2, hlen, up, hb, b1, b2⟩
      have W0 : Hs hs := ⟨by omega, by omega, up, fun h m => (hb h m).1, fun h m => by have := (hb h m).2; omega⟩
      refine ⟨fun σ' H' => ∃ (hs : List Int) (q : Addr), σ' = [some (.ref l), some (.ref q), some (.int low), o3, o4, none, none, none, none, none] ∧ StAt H' l ∧ Ext l H H' ∧ H' q = some (.lst (hs.map V.int)) ∧ Hs hs ∧ H q = none ∧ q ≠ l, ?_, ?_⟩
      · refine ⟨_, rfl, l, 3, rfl, S2, by decide, by decide, fun d3 H3 g3 g4 S3 x3 => ?_⟩
        have hp3 := x3 _ _ hp2 pl
        refine ⟨rfl, _, rfl, ?_⟩
        refine ite2 (fun _ => ?_) (fun _ => ?_)
        · refine ⟨_, rfl, p, rfl, ⟨_, SqL.of hp3⟩, fun D hD _ => ?_⟩
          have hDl := S3.ne hD
          have hD0 := Ext_free (x2.trans x3) S3 hD
          match he : hs, W0.l1 with
          | h0 :: tl, _ =>
          have pD : p ≠ D := fun z => by rw [z, hD] at hp3; cases hp3
          refine comp_list (K := K) (a := p) (xs := (h0 :: tl).map V.int) (fun i zs τ H' => ∃ o, τ = [o, some (.ref p)] ∧ i ≤ (h0 :: tl).length ∧ zs = (((h0 :: tl).map fun h => h - h0).take i).map V.int ∧ H' D = some (.lst zs) ∧ H' p = some (.lst ((h0 :: tl).map V.int)) ∧ StAt H' l ∧ Ext l H H') ?_ ?_ ?_ ?_
          · exact ⟨none, rfl, Nat.zero_le _, by simp, upd_same, Same.new hD _ _ hp3, S3.new hD, (x2.trans x3).trans (Ext.new hD)⟩
          · rintro i zs τ H' ⟨o, _, _, _, _, e, _⟩
            exact SqL.of e
          · rintro i x zs τ H' hi ⟨o, rfl, _, rfl, hD', hp', S', X'⟩
            rw [List.getElem?_map] at hi
            obtain ⟨y, hy, rfl⟩ := Option.map_eq_some_iff.mp hi
            have hi' := (List.getElem?_eq_some_iff.mp hy).1
            have l12 := W0.l12
            refine gn_if ?_
            refine ⟨_, rfl, _, rfl, p, _, 0, V.int h0, rfl, rfl, SqL.of hp', atI_nat (j := 0) rfl, _, _, rfl, rfl, hD', ?_, _, rfl, hi', ?_, upd_same, ?_, ?_, Ext_upd X' hD0⟩
            · rw [List.length_map, List.length_take]
              exact small1000 (by omega)
            · rw [List.take_add_one, List.getElem?_map, hy, List.map_append]
              rfl
            · rw [upd_ne pD]
              exact hp'
            · obtain ⟨st, e1, e2⟩ := S'
              exact ⟨st, (upd_ne hDl.symm).trans e1, e2⟩
          · rintro zs τ H' ⟨o, rfl, _, rfl, hD', hp', S', X'⟩
            rw [List.length_map, List.take_of_length_le (by rw [List.length_map]; exact Nat.le_refl _)] at hD'
            exact ⟨_, D, rfl, S', X', hD', W0.shift rfl, hD0, hDl⟩
        · exact ⟨hs, p, rfl, S3, x2.trans x3, hp3, W0, hp, pl⟩
      · rintro σ' H3 ⟨hs, q, rfl, S3, x3, hq3, W, hq0, ql⟩
        refine ⟨(by show 0 ≤ sizeLine; decide), fun r hr0 => ?_⟩
        have rl := S3.ne hr0
        have hr00 := Ext_free x3 S3 hr0
        have qr : q ≠ r := fun z => by rw [z, hr0] at hq3; cases hq3
        refine ⟨_, rfl, l, 6, rfl, S3.new hr0, by decide, by decide, fun d4 H4 g1 g2 S4 x4 => ?_⟩
        have X4 : Ext l H H4 := (x3.trans (Ext.new hr0)).trans x4
        have hq4 := x4 _ _ (Same.new hr0 _ _ hq3) ql
        refine ⟨_, _, rfl, rfl, _, rfl, q, rfl, ⟨_, SqL.of hq4⟩, ?_⟩
        refine for_list (K := K) (a := q) (xs := hs.map V.int) (fun i σ H' => ∃ (rs : List V) (ls : List (Int × Int)) (o7 o8 : Option V), σ = [some (.ref l), some (.ref q), some (.int low), o3, o4, some (.ref r), some (.int (1 + d4)), o7, o8, none] ∧ StAt H' l ∧ Ext l H H' ∧ H' q = some (.lst (hs.map V.int)) ∧ H' r = some (.lst rs) ∧ LnAt H' rs ls ∧ ls.Nodup ∧
          ∀ p ∈ ls, p.1 < p.2 ∧ p.2 ∈ hs ∧ p.1 ∈ hs.take i) ?_ ?_ ?_ ?_
        · exact ⟨[], [], none, none, rfl, S4, X4, hq4, x4 _ _ upd_same rl, ⟨rfl, fun i r p e => by simp at e⟩, List.nodup_nil, fun p m => by cases m⟩
        · rintro i σ H' _ ⟨rs, ls, o7, o8, _, _, _, e, _⟩
          exact SqL.of e
        · rintro i x σ H5 hi ⟨rs, ls, o7, o8, rfl, S5, X5, hq5, hr5, hls, nd, ok⟩
          rw [List.getElem?_map] at hi
          obtain ⟨x, hx, rfl⟩ := Option.map_eq_some_iff.mp hi
          have hxm : x ∈ hs := List.mem_of_getElem? hx
          have ei : hs.take (i + 1) = hs.take i ++ [x] := by rw [List.take_add_one, hx]; rfl
          refine ⟨_, rfl, q, rfl, ⟨_, SqL.of hq5⟩, ?_⟩
          refine for_list (K := K) (a := q) (xs := hs.map V.int) (fun j σ H' => ∃ (rs : List V) (ls : List (Int × Int)) (o8 : Option V), σ = [some (.ref l), some (.ref q), some (.int low), o3, o4, some (.ref r), some (.int (1 + d4)), some (.int x), o8, none] ∧ StAt H' l ∧ Ext l H H' ∧ H' q = some (.lst (hs.map V.int)) ∧ H' r = some (.lst rs) ∧ LnAt H' rs ls ∧ ls.Nodup ∧
            ∀ p ∈ ls, p.1 < p.2 ∧ p.2 ∈ hs ∧ (p.1 ∈ hs.take i ∨ (p.1 = x ∧ p.2 ∈ hs.take j))) ?_ ?_ ?_ ?_
          · exact ⟨rs, ls, o8, rfl, S5, X5, hq5, hr5, hls, nd, fun p m => ⟨(ok p m).1, (ok p m).2.1, .inl (ok p m).2.2⟩⟩
          · rintro j σ H' _ ⟨rs, ls, o8, _, _, _, e, _⟩
            exact SqL.of e
          · rintro j y σ H6 hj ⟨rs, ls, o8, rfl, S6, X6, hq6, hr6, hls, nd, ok⟩
            rw [List.getElem?_map] at hj
            obtain ⟨y, hy, rfl⟩ := Option.map_eq_some_iff.mp hj
            have hym : y ∈ hs := List.mem_of_getElem? hy
            have ej : hs.take (j + 1) = hs.take j ++ [y] := by rw [List.take_add_one, hy]; rfl
            have ok' : ∀ p ∈ ls, p.1 < p.2 ∧ p.2 ∈ hs ∧ (p.1 ∈ hs.take i ∨ (p.1 = x ∧ p.2 ∈ hs.take (j + 1))) := fun p m => ⟨(ok p m).1, (ok p m).2.1, (ok p m).2.2.imp id fun z => ⟨z.1, by rw [ej]; exact List.mem_append_left _ z.2⟩⟩
            refine ⟨_, rfl, _, rfl, _, _, rfl, rfl, _, rfl, ?_⟩
            refine ite2 (fun lt => ?_) (fun _ => ?_)
            · have lt : x < y := of_decide_eq_true lt
              refine ⟨_, rfl, _, rfl, l, 1 + d4, rfl, S6, by omega, log_small (by omega) (by omega), fun d7 H7 g5 g6 S7 x7 => ?_⟩
              have hq7 := x7 _ _ hq6 ql
              have hr7 := x7 _ _ hr6 rl
              have hls7 := hls.mono (Ext_tup S6 x7)
              refine ⟨rfl, _, rfl, ?_⟩
              refine ite2 (fun _ => ?_) (fun _ => ?_)
              · have L0 : Ls hs ls := Ls.of W nd fun p m => ⟨by
                  rcases (ok p m).2.2 with z | z
                  · exact List.mem_of_mem_take z
                  · rw [z.1]; exact hxm, (ok p m).2.1, (ok p m).1⟩
                have l66 := L0.le
                refine ⟨_, rfl, .inl ⟨rfl, _, SqL.of hr7⟩, _, rfl, _, rfl, (by show 2 ≤ sizeLine; decide), fun t ht => ?_⟩
                have tr : t ≠ r := fun z => by rw [z, hr7] at ht; cases ht
                have tl' := S7.ne ht
                refine ⟨r, _, _, rfl, rfl, Same.new ht _ _ hr7, small1000 (by rw [hls.1]; omega), ?_⟩
                refine ⟨rs ++ [.ref t], ls ++ [(x, y)], _, rfl, ?_, Ext_upd (Ext_upd (X6.trans x7) (Ext_free (X6.trans x7) S7 ht)) hr00, ?_, upd_same, ?_, ?_, fun p m => ?_⟩
                · obtain ⟨st, e1, e2⟩ := S7.new (o := .tup [.int x, .int y]) ht
                  exact ⟨st, (upd_ne rl.symm).trans e1, e2⟩
                · rw [upd_ne qr]; exact Same.new ht _ _ hq7
                · refine LnAt.snoc (hls7.mono fun b xs e => ?_) ((upd_ne tr).trans upd_same)
                  rw [upd_ne (fun z => by rw [z, hr7] at e; cases e)]
                  exact Same.new ht _ _ e
                · rw [List.nodup_append]
                  refine ⟨nd, by simp, fun p m p' m' => ?_⟩
                  rw [List.mem_singleton.mp m']
                  rintro rfl
                  rcases (ok _ m).2.2 with z | z
                  · exact nd_take (up_nodup W.up) hx z
                  · exact nd_take (up_nodup W.up) hy z.2
                · rcases List.mem_append.mp m with m | m
                  · exact ok' p m
                  · rw [List.mem_singleton.mp m]
                    exact ⟨lt, hym, .inr ⟨rfl, by rw [ej]; exact List.mem_append_right _ (List.mem_singleton.mpr rfl)⟩⟩
              · exact ⟨rs, ls, _, rfl, S7, X6.trans x7, hq7, hr7, hls7, nd, ok'⟩
            · exact iteN rfl ⟨rs, ls, _, rfl, S6, X6, hq6, hr6, hls, nd, ok'⟩
          · rintro σ H' ⟨rs, ls, o8, rfl, S', X', hq', hr', hls, nd, ok⟩
            refine ⟨rs, ls, _, o8, rfl, S', X', hq', hr', hls, nd, fun p m => ⟨(ok p m).1, (ok p m).2.1, ?_⟩⟩
            rw [ei]
            rcases (ok p m).2.2 with z | z
            · exact List.mem_append_left _ z
            · exact List.mem_append_right _ (List.mem_singleton.mpr z.1)
        · rintro σ H5 ⟨rs, ls, o7, o8, rfl, S5, X5, hq5, hr5, hls, nd, ok⟩
          have L0 : Ls hs ls := Ls.of W nd fun p m => ⟨List.mem_of_mem_take (ok p m).2.2, (ok p m).2.1, (ok p m).1⟩
          have l66 := L0.le
          have hz := hls.1
          refine ⟨_, rfl, _, rfl, r, _, rfl, .inl (SqL.of hr5), _, _, rfl, rfl, l, _, rfl, S5, by omega, log_small (by omega) (by omega), fun d6 H6 g5 g6 S6 x6 => ?_⟩
          have hq6 := x6 _ _ hq5 ql
          have hr6 := x6 _ _ hr5 rl
          have X6 := X5.trans x6
          obtain ⟨n, rfl⟩ : ∃ n : Nat, d6 = n := ⟨d6.toNat, by omega⟩
          have hn : n ≤ rs.length := by omega
          refine ⟨_, rfl, _, rfl, _, rfl, _, rfl, r, _, rfl, SqL.of hr6, fun p1 hp1 => ?_⟩
          refine ⟨_, rfl, _, rfl, _, rfl, r, _, rfl, SqL.of (Same.new hp1 _ _ hr6), fun p2 hp2 => ?_⟩
          rw [cut_lo hn] at hp2 ⊢
          rw [cut_hi hn]
          have n12 : p1 ≠ p2 := fun z => by rw [← z, upd_same] at hp2; cases hp2
          refine ⟨p1, p2, _, _, rfl, rfl, (upd_ne n12).trans upd_same, upd_same, ?_, fun p3 hp3 => ?_⟩
          · rw [List.length_drop, List.length_take]
            exact Nat.le_of_lt (small1000 (by omega))
          · refine ⟨(by show 2 ≤ sizeLine; decide), fun t ht => ?_⟩
            have s1 := Same.new (o := .lst (rs.drop n)) hp1
            have s2 := s1.trans (Same.new (o := .lst (rs.take n)) hp2)
            have s3 := s2.trans (Same.new (o := .lst (rs.drop n ++ rs.take n)) hp3)
            have s4 := s3.trans (Same.new (o := .tup [.ref q, .ref p3]) ht)
            have f3 := Ext_free X6 S6 (s2.free hp3)
            have f4 := Ext_free X6 S6 (s3.free ht)
            exact k t q p3 _ hs _ _ upd_same (s4 _ _ hq6) (Same.new ht _ _ upd_same) (((hls.mono (Ext_tup S5 x6)).same s4).turn n) W (L0.turn n) (S6.same s4) (X6.trans (Ext.same s4)) f4 hq0 f3
end
end K04

/-! K03k -/
set_option Elab.async false
set_option linter.all false
set_option maxRecDepth 100000
set_option maxHeartbeats 4000000
namespace K04
open PySem L2
/-! ### law -/
theorem lst_same {K : PySem.W.Frag} {H : Hp} {a b : Addr} {ns : List Int} {n : Nat} (ha : H a = some (.lst (ns.map V.int))) (hb : H b = some (.lst (ns.map V.int))) : EqD K H (.ref a) (.ref b) true (n + 1) := by
  by_cases hne : a = b
  · subst hne; exact .same
  · have := EqD.lst (K := K) (e := fun _ => true) (n := n) hne (SqL.of ha) (SqL.of hb) rfl fun j x y e1 e2 => by
      rw [e1] at e2; cases e2
      obtain ⟨z, _, rfl⟩ := List.mem_map.mp (List.mem_of_getElem? e1)
      exact flat_same rfl
    have e : ((List.range (ns.map V.int).length).all fun _ => true) = true := by simp
    rw [e] at this
    exact this
theorem ints_same {K : PySem.W.Frag} {H : Hp} {ns : List Int} {n : Nat} : ∀ (j : Nat) x y, (ns.map V.int)[j]? = some x → (ns.map V.int)[j]? = some y → EqD K H x y ((fun _ => true) j) n := fun j x y e1 e2 => by
  rw [e1] at e2; cases e2
  obtain ⟨z, _, rfl⟩ := List.mem_map.mp (List.mem_of_getElem? e1)
  exact flat_same rfl
theorem reps_up {hs us : List Int} {ls : List (Int × Int)} (h : us.Pairwise (· < ·)) : (reps ls hs us).Pairwise (· < ·) := h.filter _
theorem sort_self {ms ns : List Int} (p : ms.Perm ns) (h : ms.Pairwise (· ≤ ·)) (up : ns.Pairwise (· < ·)) : ms = ns := sort_is p h (up_nodup up) up fun _ => Iff.rfl
section
variable {P : Program} {w : World} {K : PySem.W.Frag} {mg : Str → Option Value} {base : Heap} {a : Ad}
def spLaw (K : PySem.W.Frag) : Sp := fun vs H Q _ => ∃ (a : Addr) (ns : List Int), vs = [.ref a] ∧ SqL K H a (ns.map V.int) ∧ ns.length ≤ 63 ∧ ∀ H', Q (.bl true) H'
theorem sp_law_of {K : PySem.W.Frag} {H : Hp} {a : Addr} {ns : List Int} (hl : ns.length ≤ 63) (hO : Only H) (hS : SqL K H a (ns.map V.int)) : spLaw K [.ref a] H (fun v _ => v = .bl true) fun _ _ _ => False := ⟨a, ns, rfl, hS, hl, fun _ => rfl⟩
theorem ok_law (T : Txt K mg a) : FnOk P w K mg base CX0 8 a.f_law a.d_law ["_law_script"] (spLaw K) := by
  have c__law_cell_at : Callee P w K mg base "_law_cell_at" a.f__law_cell_at a.d__law_cell_at ["_law_script", "_law_k"] 1 (spCell K) := ⟨ok_cell T, T.g__law_cell_at, T.F__law_cell_at.kp, T.b__law_cell_at⟩
  have c__law_web : Callee P w K mg base "_law_web" a.f__law_web a.d__law_web ["_law_state"] 2 spWebL := ⟨ok_webl T, T.g__law_web, T.F__law_web.kp, T.b__law_web⟩
  have c__law_reached : Callee P w K mg base "_law_reached" a.f__law_reached a.d__law_reached ["_law_group", "_law_lines"] 1 spReached := ⟨ok_reached T, T.g__law_reached, T.F__law_reached.kp, T.b__law_reached⟩
  have m_Web : Maker P w K mg base "Web" a.c_Web a.f_Web___init__ a.d_Web___init__ ["self", "hands", "lines"] 4 (spWeb a) := ⟨ok_web T, T.g_Web, T.mk_Web, T.b_Web___init__⟩
  refine T.F_law.ok sc_law (fun vs H Q E h => ?_) (fun cdv A outer s H vs Q E hr h => ?_)
  · obtain ⟨x, ns, rfl, _⟩ := h
    rfl
  · obtain ⟨sc, ns, rfl, hS, hlen, k⟩ := h
    have un : ∀ n : Nat, n ≤ 3 → (A.deeper (PyProof.Rows.envOfC "law" (defScope st_law) s.heap.objs.size a.f_law cdv)).units + n + 2 < cLine := fun n hn => by
      have := hr.units
      omega
    refine ⟨_, (pss_cons (ps_asg (pe_c c__law_web (hr.mono (by omega)) (pa_cons (pe_lst (pa_cons (pe_c c__law_cell_at (hr.mono (by omega)) (pa_cons (pv 0) (pa_cons pe_int pa_nil))) pa_nil)) pa_nil)) (pg_tup rfl (pgs_cons (pg_name (i := 1) sc_law.nd rfl (Or.inl rfl)) (pgs_cons (pg_name (i := 2) sc_law.nd rfl (Or.inl rfl)) pgs_nil))))
      (pss_cons (ps_set (i := 3) sc_law.nd rfl (Or.inl rfl) (pe_m m_Web (hr.mono (by omega)) (pa_cons (pv 1) (pa_cons (pv 2) pa_nil))))
      (pss_cons (ps_set (i := 4) sc_law.nd rfl (Or.inl rfl) (pe_meth0D (pv 3)))
      (pss_cons (ps_set (i := 5) sc_law.nd rfl (Or.inl rfl) (pe_lst pa_nil))
      (pss_cons (ps_for PassesOwn.never rfl (pi_list (pv 4)) (pg_name (i := 6) sc_law.nd rfl (Or.inl rfl))
        (pss_cons (ps_if (PW.pt (pw_or (pt_not (pt_val (pe_callB call_isi (by rfl) T.n_isinstance bt_isinstance (pa_cons (pv 6) (pa_cons (pe_bty T.n_list bt_list) pa_nil))))) (pw_or (pt_cmpR op_neS (pv 6) (pe_callB call_sortI (by rfl) T.n_sorted bt_sorted (pa_cons (pv 6) pa_nil)) (nomark _)) (pw_or1 (pt_cmpR op_neS (pe_c c__law_reached (hr.mono (by omega)) (pa_cons (pv 6) (pa_cons (pv 2) pa_nil))) (pv 6) (nomark _))))))
          (pss_one (ps_ret pe_bl))
          pss_nil)
        (pss_one (ps_set (i := 5) sc_law.nd rfl (Or.inl rfl) (pe_op op_cat (pv 5) (pv 6))))))
      (pss_cons (ps_setComp (i := 7) rfl sc_law.nd rfl (Or.inl rfl) (N' := ["_law_group"]) (t := 1) (caps := []) ⟨rfl, rfl, rfl⟩ (pi_list (pv 4)) (fun _ => (pg_name (i := 0) (show (["_law_group"] : List Str).Nodup by decide +kernel) rfl (Or.inl rfl))) (fun _ => pts_nil) (fun _ => (pe_ix ix_list (pv 0) pe_int (fun _ _ => rfl))))
      (pss_cons (ps_if (PW.pt (pw_or (pt_not (pt_val (pe_callB call_isi (by rfl) T.n_isinstance bt_isinstance (pa_cons (pv 4) (pa_cons (pe_bty T.n_list bt_list) pa_nil))))) (pw_or (pt_cmpR op_neS (pe_callB call_sortI (by rfl) T.n_sorted bt_sorted (pa_cons (pv 5) pa_nil)) (pv 1) (nomark _)) (pw_or1 (pt_cmpR op_neS (pv 7) (pe_callB call_sortI (by rfl) T.n_sorted bt_sorted (pa_cons (pv 7) pa_nil)) (nomark _))))))
        (pss_one (ps_ret pe_bl))
        pss_nil)
      (pss_cons (ps_setComp (i := 8) rfl sc_law.nd rfl (Or.inl rfl) (N' := ["_law_group"]) (t := 1) (caps := []) ⟨rfl, rfl, rfl⟩ (pi_list (pv 4)) (fun _ => (pg_name (i := 0) (show (["_law_group"] : List Str).Nodup by decide +kernel) rfl (Or.inl rfl))) (fun _ => pts_nil) (fun _ => (pe_callTy call_list_of (by rfl) T.n_list bt_list (pa_cons (pv 0) pa_nil))))
      (pss_cons (ps_expr (pe_bm PySem.F.plainAttrs_list PySem.F.slot_list_append PySem.F.type_list_append mt_append (pe_ix ix_list (pv 4) pe_int (fun _ _ => rfl)) (pa_cons pe_int pa_nil)))
      (pss_cons (ps_expr (pe_bm PySem.F.plainAttrs_list PySem.F.slot_list_append PySem.F.type_list_append mt_append (pv 4) (pa_cons (pe_lst (pa_cons pe_int pa_nil)) pa_nil)))
      (pss_one (ps_ret (pe_cmpR op_eqS (pe_meth0D (pv 3)) (pv 8) (nomark _)))))))))))))), ?_⟩
    refine ⟨_, rfl, sc, ns, 0, rfl, hS, by decide, fun c => ⟨by show 1 ≤ sizeLine; decide, fun l hl => ?_⟩⟩
    have S1 : StAt (L2.upd H l (.lst [V.int c])) l := ⟨_, upd_same, .inl ⟨c, rfl⟩⟩
    generalize L2.upd H l (.lst [V.int c]) = H0 at S1 ⊢
    refine ⟨l, rfl, S1, fun t h r rs hs ls H1 e1 hh1 hr1 hls1 W L _ _ _ _ _ => ?_⟩
    refine ⟨t, _, rfl, SqT.of e1, rfl, _, _, rfl, _, _, rfl, rfl, ?_⟩
    have l12 := W.l12
    have l66 := L.le
    refine ⟨_, rfl, _, rfl, fun x dx nx ndx nex => ?_⟩
    have s1 : Same H1 (upd (upd H1 dx (.own x)) x (.ins a.c_Web dx [])) := (Same.new ndx).updF nx
    refine ⟨x, dx, h, r, rs, hs, ls, rfl, upd_same, s1 _ _ hh1, s1 _ _ hr1, hls1.same s1, W, L, fun oh ol d ad H2 x2 B => ?_⟩
    have s2 : Same H1 H2 := fun b o e => x2 b o (s1 b o e) (ne_of_none e nx)
    refine ⟨rfl, ?_⟩
    have hh2 := s2 _ _ hh1
    have hr2 := s2 _ _ hr1
    have hls2 := hls1.same s2
    refine ⟨_, rfl, x, a.c_Web, dx, _, _, _, _, 2, spGroups a, rfl, B.p, rfl, T.cl_Web, T.mt_Web_groups, ok_groups T, hr.mono (by omega), T.b_Web_groups, ?_⟩
    refine ⟨x, dx, oh, ol, d, ad, hs, ls, rfl, B, W, L, fun f gs H3 s3 hf0 hf3 G hfg => ?_⟩
    refine ⟨(by show 0 ≤ sizeLine; decide), fun fl hfl => ?_⟩
    have gl : (grs ls hs hs).length ≤ 12 := by
      unfold grs reps
      rw [List.length_map]
      exact Nat.le_trans (List.length_filter_le _ _) l12
    have fnd := flat_nd (ls := ls) W.up (fun x m => m) (up_nodup W.up)
    have fle : (grs ls hs hs).flatten.length ≤ 12 := Nat.le_trans (nd_le fnd fun x m => (flat_mem W.up).mp m) l12
    refine ⟨_, rfl, f, rfl, ⟨_, SqL.of (Same.new hfl _ _ hf3)⟩, ?_⟩
    refine for_list (K := K) (a := f) (xs := gs.map V.ref) (fun i σ H' => ∃ (v : Addr) (o6 : Option V), σ = [some (.ref sc), some (.ref h), some (.ref r), some (.ref x), some (.ref f), some (.ref v), o6, none, none] ∧ Same H3 H' ∧ H' v = some (.lst ((((grs ls hs hs).take i).flatten).map V.int))) ?_ ?_ ?_ ?_
    · exact ⟨fl, none, rfl, Same.new hfl, upd_same⟩
    · rintro i σ H' _ ⟨v, o6, _, sm, _⟩
      exact SqL.of (sm _ _ hf3)
    · rintro i y σ H4 hi ⟨v, o6, rfl, s4, hv⟩
      rw [List.getElem?_map] at hi
      obtain ⟨g, hg, rfl⟩ := Option.map_eq_some_iff.mp hi
      have hi' : i < (grs ls hs hs).length := by rw [← G.len]; exact (List.getElem?_eq_some_iff.mp hg).1
      have hxi : (grs ls hs hs)[i]? = some (grs ls hs hs)[i] := List.getElem?_eq_getElem hi'
      obtain ⟨hd, mhd, ehd⟩ := List.mem_map.mp (List.getElem_mem hi')
      obtain ⟨mhd, lhd⟩ := mem_reps.mp mhd
      rw [← ehd] at hxi
      have hg3 := G.its i g _ hg hxi
      have hg4 := s4 _ _ hg3
      have cle := comp_le (hs := hs) (ls := ls) (s := hd)
      refine ⟨_, rfl, _, _, _, _, _, rfl, rfl, .lst hg4, T.k_tlist_tlist, _, rfl, iteN rfl ?_⟩
      refine ⟨_, rfl, _, rfl, g, comp hs ls hd, rfl, SqL.of hg4, by omega, fun q1 ms hq1 pm srt => ?_⟩
      rw [sort_self pm srt (comp_up W.up)]
      refine ⟨g, q1, _, _, fun _ => true, 0, rfl, rfl, .inl ⟨SqL.of (Same.new hq1 _ _ hg4), SqL.of upd_same⟩, rfl, un 0 (by omega), ints_same, _, rfl, iteN (by simp) ?_⟩
      have s5 := s4.trans (Same.new (o := .lst ((comp hs ls hd).map V.int)) hq1)
      have hv5 := (Same.new (o := .lst ((comp hs ls hd).map V.int)) hq1) _ _ hv
      generalize upd H4 q1 (.lst ((comp hs ls hd).map V.int)) = H5 at s5 hv5 ⊢
      refine ⟨_, rfl, _, rfl, g, r, rs, hs, ls, hd, rfl, s5 _ _ hg3, s5 _ _ (s3 _ _ hr2), (hls2.same s3).same s5, W, L, mhd, lhd, fun q2 H6 s6 hq2 hq26 => ?_⟩
      have s36 := s5.trans s6
      refine ⟨_, rfl, q2, g, _, _, fun _ => true, 0, rfl, rfl, .inl ⟨SqL.of hq26, SqL.of (s36 _ _ hg3)⟩, rfl, un 0 (by omega), ints_same, _, rfl, iteN (by simp) ?_⟩
      have tle : ((grs ls hs hs).take i).flatten.length ≤ 12 := by
        have e : (grs ls hs hs).flatten = ((grs ls hs hs).take i).flatten ++ ((grs ls hs hs).drop i).flatten := by rw [← List.flatten_append, List.take_append_drop]
        rw [e, List.length_append] at fle
        omega
      refine ⟨_, rfl, _, rfl, v, g, _, _, rfl, rfl, s6 _ _ hv5, s36 _ _ hg3, ?_, fun q3 hq3 => ?_⟩
      · rw [List.length_map, List.length_map]
        exact Nat.le_of_lt (small1000 (by omega))
      · refine ⟨q3, _, rfl, s36.trans (Same.new hq3), ?_⟩
        rw [upd_same, List.take_add_one, hxi, List.flatten_append, List.map_append]
        simp
    · rintro σ H4 ⟨v, o6, rfl, s4, hv⟩
      rw [List.length_map, G.len, List.take_length] at hv
      have hf4 := s4 _ _ hf3
      refine ⟨_, rfl, f, rfl, ⟨_, SqL.of hf4⟩, fun D hD _ => ?_⟩
      refine comp_list (K := K) (a := f) (xs := gs.map V.ref) (fun i zs τ H' => ∃ o, τ = [o] ∧ i ≤ gs.length ∧ zs = ((reps ls hs hs).take i).map V.int ∧ H' D = some (.lst zs) ∧ Same H4 H') ?_ ?_ ?_ ?_
      · exact ⟨none, rfl, Nat.zero_le _, by simp, upd_same, Same.new hD⟩
      · rintro i zs τ H' ⟨o, _, _, _, _, sm⟩
        exact SqL.of (sm _ _ hf4)
      · rintro i y zs τ H' hi ⟨o, rfl, _, rfl, hD', sm⟩
        rw [List.getElem?_map] at hi
        obtain ⟨g, hg, rfl⟩ := Option.map_eq_some_iff.mp hi
        have hi1 := (List.getElem?_eq_some_iff.mp hg).1
        have hi' : i < (reps ls hs hs).length := by
          have := G.len
          unfold grs at this
          rw [List.length_map] at this
          omega
        have hri : (reps ls hs hs)[i]? = some (reps ls hs hs)[i] := List.getElem?_eq_getElem hi'
        obtain ⟨mhd, lhd⟩ := mem_reps.mp (List.getElem_mem hi')
        generalize (reps ls hs hs)[i] = hd at hri mhd lhd
        have hxi : (grs ls hs hs)[i]? = some (comp hs ls hd) := by unfold grs; rw [List.getElem?_map, hri]; rfl
        have hg4 := sm _ _ (s4 _ _ (G.its i g _ hg hxi))
        obtain ⟨tl, etl⟩ := comp_head W.up mhd lhd
        rw [etl] at hg4
        refine gn_if ?_
        refine ⟨_, rfl, g, _, 0, V.int hd, rfl, rfl, SqL.of hg4, atI_nat (j := 0) rfl, hD', ?_, _, rfl, hi1, ?_, upd_same, sm.updF hD⟩
        · rw [List.length_map, List.length_take]
          have := G.len
          exact small1000 (by omega)
        · rw [List.take_add_one, hri, List.map_append]
          rfl
      · rintro zs τ H5 ⟨o, rfl, _, rfl, hD5, s45⟩
        have rl : (reps ls hs hs).length = gs.length := by
          have := G.len
          unfold grs at this
          rw [List.length_map] at this
          omega
        rw [List.length_map, List.take_of_length_le (by omega)] at hD5
        have s35 := s4.trans s45
        have hv5 := s45 _ _ hv
        refine ⟨_, rfl, _, _, _, _, _, rfl, rfl, .lst (s45 _ _ hf4), T.k_tlist_tlist, _, rfl, iteN rfl ?_⟩
        refine ⟨_, rfl, v, _, rfl, SqL.of hv5, by omega, fun q1 ms hq1 pm srt => ?_⟩
        rw [sort_is pm srt fnd W.up fun x => flat_mem W.up]
        have s6 := Same.new (o := .lst (hs.map V.int)) hq1
        refine ⟨_, rfl, q1, h, _, _, fun _ => true, 0, rfl, rfl, .inl ⟨SqL.of upd_same, SqL.of (s6 _ _ (s35 _ _ (s3 _ _ hh2)))⟩, rfl, un 0 (by omega), ints_same, _, rfl, iteN (by simp) ?_⟩
        have hD6 := s6 _ _ hD5
        have s36 := s35.trans s6
        generalize upd H5 q1 (.lst (hs.map V.int)) = H6 at hD6 s36 ⊢
        refine ⟨_, rfl, _, rfl, D, _, rfl, SqL.of hD6, by have := G.len; omega, fun q2 ms hq2 pm srt => ?_⟩
        rw [sort_self pm srt (reps_up W.up)]
        have s7 := Same.new (o := .lst ((reps ls hs hs).map V.int)) hq2
        refine ⟨D, q2, _, _, fun _ => true, 0, rfl, rfl, .inl ⟨SqL.of (s7 _ _ hD6), SqL.of upd_same⟩, rfl, un 0 (by omega), ints_same, _, rfl, iteN (by simp) ?_⟩
        have s37 := s36.trans s7
        generalize upd H6 q2 (.lst ((reps ls hs hs).map V.int)) = H7 at s37 ⊢
        have hf7 := s37 _ _ hf3
        refine ⟨_, rfl, f, rfl, ⟨_, SqL.of hf7⟩, fun D2 hD2 _ => ?_⟩
        refine comp_list (K := K) (a := f) (xs := gs.map V.ref) (fun i zs τ H' => ∃ (o : Option V) (ks : List Addr), τ = [o] ∧ i ≤ gs.length ∧ zs = ks.map V.ref ∧ ks.length = i ∧ H' D2 = some (.lst zs) ∧ Same H7 H' ∧ (∀ q ∈ ks, H7 q = none ∧ q ≠ D2) ∧ ∀ (j : Nat) q xs, ks[j]? = some q → (grs ls hs hs)[j]? = some xs → H' q = some (.lst (xs.map V.int))) ?_ ?_ ?_ ?_
        · exact ⟨none, [], rfl, Nat.zero_le _, rfl, rfl, upd_same, Same.new hD2, fun q m => (by cases m), fun j q xs e => by simp at e⟩
        · rintro i zs τ H' ⟨o, ks, _, _, _, _, _, sm, _⟩
          exact SqL.of (sm _ _ hf7)
        · rintro i y zs τ H' hi ⟨o, ks, rfl, _, rfl, kl, hD', sm, kf, kc⟩
          rw [List.getElem?_map] at hi
          obtain ⟨g, hg, rfl⟩ := Option.map_eq_some_iff.mp hi
          have hi1 := (List.getElem?_eq_some_iff.mp hg).1
          have hi' : i < (grs ls hs hs).length := by rw [← G.len]; exact hi1
          have hxi : (grs ls hs hs)[i]? = some (grs ls hs hs)[i] := List.getElem?_eq_getElem hi'
          have hg7 := sm _ _ (s37 _ _ (G.its i g _ hg hxi))
          have gle := G.len
          refine gn_if ?_
          refine ⟨_, rfl, g, _, rfl, .inl (SqL.of hg7), fun q hq => ?_⟩
          have qD : q ≠ D2 := fun z => by rw [z, hD'] at hq; cases hq
          refine ⟨Same.new hq _ _ hD', ?_, _, ks ++ [q], rfl, hi1, by rw [List.map_append]; rfl, by rw [List.length_append, kl]; rfl, upd_same, (sm.updF (sm.free hq)).updF hD2, fun q' m => ?_, fun j q' xs e1 e2 => ?_⟩
          · rw [List.length_map]
            exact small1000 (by omega)
          · rcases List.mem_append.mp m with m | m
            · exact kf q' m
            · rw [List.mem_singleton.mp m]; exact ⟨sm.free hq, qD⟩
          · by_cases lt : j < ks.length
            · rw [List.getElem?_append_left lt] at e1
              have z := kc j q' xs e1 e2
              rw [upd_ne (kf q' (List.mem_of_getElem? e1)).2]
              exact Same.new hq _ _ z
            · have ej : j = ks.length := by
                have := (List.getElem?_eq_some_iff.mp e1).1
                rw [List.length_append, List.length_singleton] at this
                omega
              subst ej
              rw [List.getElem?_append_right (Nat.le_refl _), Nat.sub_self] at e1
              obtain rfl : q = q' := by simpa using e1
              rw [kl, hxi] at e2
              cases e2
              rw [upd_ne qD, upd_same]
        · rintro zs τ H8 ⟨o, ks, rfl, _, rfl, kl, hD8, s78, kf, kc⟩
          rw [List.length_map] at kl
          have pos : 0 < gs.length := by
            have hz := List.getElem_mem (l := hs) (n := 0) W.l1
            obtain ⟨u, mu, lu, _, _⟩ := rep_of (ls := ls) W.up hz
            have := List.length_pos_of_mem (mem_reps.mpr ⟨mu, lu⟩)
            omega
          obtain ⟨g0, hg0⟩ : ∃ g0, gs[0]? = some g0 := ⟨_, List.getElem?_eq_getElem pos⟩
          have gle := G.len
          obtain ⟨xs0, hx0⟩ : ∃ xs0, (grs ls hs hs)[0]? = some xs0 := ⟨_, List.getElem?_eq_getElem (by rw [← gle]; exact pos)⟩
          have hg3 := G.its 0 g0 _ hg0 hx0
          have hg7 := s37 _ _ hg3
          have hg8 := s78 _ _ hg7
          have hf8 := s78 _ _ hf7
          have mg0 : g0 ∈ gs := List.mem_of_getElem? hg0
          have gf : g0 ≠ f := fun z => hfg (z ▸ mg0)
          have xl : xs0.length ≤ 12 := by
            obtain ⟨hd, _, e⟩ := List.mem_map.mp (List.mem_of_getElem? hx0)
            rw [← e]
            exact Nat.le_trans comp_le l12
          refine ⟨_, rfl, f, _, 0, V.ref g0, rfl, rfl, SqL.of hf8, atI_nat (j := 0) (by rw [List.getElem?_map, hg0]; rfl), .inl ⟨rfl, _, SqL.of hg8⟩, g0, _, _, rfl, rfl, hg8, small1000 (by rw [List.length_map]; omega), ?_⟩
          have hf9 : (upd H8 g0 (.lst (xs0.map V.int ++ [V.int 7]))) f = some (.lst (gs.map V.ref)) := (upd_ne gf.symm).trans hf8
          refine ⟨_, rfl, .inl ⟨rfl, _, SqL.of hf9⟩, (by show 1 ≤ sizeLine; decide), fun e8 he8 => ?_⟩
          refine ⟨f, _, _, rfl, rfl, Same.new he8 _ _ hf9, small1000 (by rw [List.length_map]; omega), ?_⟩
          have sX := (((s3.trans s37).trans s78).updF (o := .lst (xs0.map V.int ++ [V.int 7])) (G.fresh g0 mg0)).trans (Same.new (o := .lst [V.int 8]) he8)
          have sY := sX.updF (o := .lst (gs.map V.ref ++ [V.ref e8])) hf0
          have kp : ∀ b o, H8 b = some o → b ≠ g0 → b ≠ f → (upd (upd (upd H8 g0 (.lst (xs0.map V.int ++ [V.int 7]))) e8 (.lst [V.int 8])) f (.lst (gs.map V.ref ++ [V.ref e8]))) b = some o := fun b o e n1 n2 => by
            rw [upd_ne n2]
            exact Same.new he8 _ _ ((upd_ne n1).trans e)
          generalize upd (upd (upd H8 g0 (.lst (xs0.map V.int ++ [V.int 7]))) e8 (.lst [V.int 8])) f (.lst (gs.map V.ref ++ [V.ref e8])) = H9 at sY kp ⊢
          have Dg : D2 ≠ g0 := fun z => by rw [z, hg7] at hD2; cases hD2
          have Df : D2 ≠ f := fun z => by rw [z, hf7] at hD2; cases hD2
          refine ⟨_, rfl, x, a.c_Web, dx, _, _, _, _, 2, spGroups a, rfl, (B.same sY).p, rfl, T.cl_Web, T.mt_Web_groups, ok_groups T, hr.mono (by omega), T.b_Web_groups, ?_⟩
          refine ⟨x, dx, oh, ol, d, ad, hs, ls, rfl, B.same sY, W, L, fun f' gs' H10 s10 _ hf' G' _ => ?_⟩
          refine ⟨_, rfl, f', D2, _, _, fun _ => true, 1, rfl, rfl, .inl ⟨SqL.of hf', SqL.of (s10 _ _ (kp _ _ hD8 Dg Df))⟩, by rw [List.length_map, List.length_map, kl, G'.len, gle], un 1 (by omega), fun j u v eu ev => ?_, ?_⟩
          · rw [List.getElem?_map] at eu ev
            obtain ⟨p1, ep1, rfl⟩ := Option.map_eq_some_iff.mp eu
            obtain ⟨p2, ep2, rfl⟩ := Option.map_eq_some_iff.mp ev
            have hj : j < (grs ls hs hs).length := by rw [← G'.len]; exact (List.getElem?_eq_some_iff.mp ep1).1
            have hxj : (grs ls hs hs)[j]? = some (grs ls hs hs)[j] := List.getElem?_eq_getElem hj
            obtain ⟨f1, f2⟩ := kf p2 (List.mem_of_getElem? ep2)
            refine lst_same (G'.its j p1 _ ep1 hxj) (s10 _ _ (kp _ _ (kc j p2 _ ep2 hxj) ?_ ?_))
            · intro z; rw [z, hg7] at f1; cases f1
            · intro z; rw [z, hf7] at f1; cases f1
          · have e : ((List.range (gs'.map V.ref).length).all fun _ => true) = true := by simp
            show Q (.bl ((List.range (gs'.map V.ref).length).all fun _ => true)) _
            rw [e]
            exact k _
end
end K04

/-! K03l -/
set_option Elab.async false
set_option linter.all false
set_option maxRecDepth 100000
set_option maxHeartbeats 4000000
namespace K04
open PySem L2
theorem txt_mk {K : PySem.W.Frag} {h : Heap} {mg : Str → Option Value} (X : K.In h) (G : h.Ns mainGlobals mg)
    {f_is_whole : Addr} {od0 an0 : Option Addr} {sl0 : Array (Option Value)} {oc0 kV0 dc0 pm0 cd0 ct0 : Value} {f_are_hands : Addr} {od1 an1 : Option Addr} {sl1 : Array (Option Value)} {oc1 kV1 dc1 pm1 cd1 ct1 : Value} {f_is_line : Addr} {od2 an2 : Option Addr} {sl2 : Array (Option Value)} {oc2 kV2 dc2 pm2 cd2 ct2 : Value} {f_are_lines : Addr} {od3 an3 : Option Addr} {sl3 : Array (Option Value)} {oc3 kV3 dc3 pm3 cd3 ct3 : Value} {f_near_by_hand : Addr} {od4 an4 : Option Addr} {sl4 : Array (Option Value)} {oc4 kV4 dc4 pm4 cd4 ct4 : Value} {f__law_cell_at : Addr} {od5 an5 : Option Addr} {sl5 : Array (Option Value)} {oc5 kV5 dc5 pm5 cd5 ct5 : Value} {f__law_digit : Addr} {od6 an6 : Option Addr} {sl6 : Array (Option Value)} {oc6 kV6 dc6 pm6 cd6 ct6 : Value} {f__law_web : Addr} {od7 an7 : Option Addr} {sl7 : Array (Option Value)} {oc7 kV7 dc7 pm7 cd7 ct7 : Value} {f__law_reached : Addr} {od8 an8 : Option Addr} {sl8 : Array (Option Value)} {oc8 kV8 dc8 pm8 cd8 ct8 : Value} {f_law : Addr} {od9 an9 : Option Addr} {sl9 : Array (Option Value)} {oc9 kV9 dc9 pm9 cd9 ct9 : Value} {f_Web___init__ : Addr} {od10 an10 : Option Addr} {sl10 : Array (Option Value)} {oc10 kV10 dc10 pm10 cd10 ct10 : Value} {f_Web_hands : Addr} {od11 an11 : Option Addr} {sl11 : Array (Option Value)} {oc11 kV11 dc11 pm11 cd11 ct11 : Value} {f_Web_lines : Addr} {od12 an12 : Option Addr} {sl12 : Array (Option Value)} {oc12 kV12 dc12 pm12 cd12 ct12 : Value} {f_Web_groups : Addr} {od13 an13 : Option Addr} {sl13 : Array (Option Value)} {oc13 kV13 dc13 pm13 cd13 ct13 : Value} {f_Web_group_of : Addr} {od14 an14 : Option Addr} {sl14 : Array (Option Value)} {oc14 kV14 dc14 pm14 cd14 ct14 : Value} {c_Web : Addr} {t_MOST_HANDS : Tok} {t_LAST_HAND : Tok}
    (z_len : PySem.W.nsIn K mainGlobals "len" = some none)
    (z_int : PySem.W.nsIn K mainGlobals "int" = some none)
    (z_min : PySem.W.nsIn K mainGlobals "min" = some none)
    (z_range : PySem.W.nsIn K mainGlobals "range" = some none)
    (z_isinstance : PySem.W.nsIn K mainGlobals "isinstance" = some none)
    (z_list : PySem.W.nsIn K mainGlobals "list" = some none)
    (z_sorted : PySem.W.nsIn K mainGlobals "sorted" = some none)
    (z_bool : PySem.W.nsIn K mainGlobals "bool" = some none)
    (z_tuple : PySem.W.nsIn K mainGlobals "tuple" = some none)
    (z_ValueError : PySem.W.nsIn K mainGlobals "ValueError" = some none)
    (A_Web : PySem.W.nsIn K mainGlobals "Web" = some (some (.ref c_Web)))
    (a_0 : PySem.W.nsIn K mainGlobals "is_whole" = some (some (.ref f_is_whole)))
    (l_0 : K.lookup f_is_whole = some ⟨oc0, od0, .func (PySem.W.fnOf "is_whole" "is_whole" (defArgs st_is_whole) (defBody st_is_whole) (defScope st_is_whole) .none kV0 dc0 pm0 an0 cd0 ct0), sl0⟩)
    (cc_0 : PySem.W.codeIn K cd0 "is_whole" = true)
    (kk_0 : PySem.W.keepIn K (.ref f_is_whole) = true)
    (a_1 : PySem.W.nsIn K mainGlobals "are_hands" = some (some (.ref f_are_hands)))
    (l_1 : K.lookup f_are_hands = some ⟨oc1, od1, .func (PySem.W.fnOf "are_hands" "are_hands" (defArgs st_are_hands) (defBody st_are_hands) (defScope st_are_hands) .none kV1 dc1 pm1 an1 cd1 ct1), sl1⟩)
    (cc_1 : PySem.W.codeIn K cd1 "are_hands" = true)
    (kk_1 : PySem.W.keepIn K (.ref f_are_hands) = true)
    (a_2 : PySem.W.nsIn K mainGlobals "is_line" = some (some (.ref f_is_line)))
    (l_2 : K.lookup f_is_line = some ⟨oc2, od2, .func (PySem.W.fnOf "is_line" "is_line" (defArgs st_is_line) (defBody st_is_line) (defScope st_is_line) .none kV2 dc2 pm2 an2 cd2 ct2), sl2⟩)
    (cc_2 : PySem.W.codeIn K cd2 "is_line" = true)
    (kk_2 : PySem.W.keepIn K (.ref f_is_line) = true)
    (a_3 : PySem.W.nsIn K mainGlobals "are_lines" = some (some (.ref f_are_lines)))
    (l_3 : K.lookup f_are_lines = some ⟨oc3, od3, .func (PySem.W.fnOf "are_lines" "are_lines" (defArgs st_are_lines) (defBody st_are_lines) (defScope st_are_lines) .none kV3 dc3 pm3 an3 cd3 ct3), sl3⟩)
    (cc_3 : PySem.W.codeIn K cd3 "are_lines" = true)
    (kk_3 : PySem.W.keepIn K (.ref f_are_lines) = true)
    (a_4 : PySem.W.nsIn K mainGlobals "near_by_hand" = some (some (.ref f_near_by_hand)))
    (l_4 : K.lookup f_near_by_hand = some ⟨oc4, od4, .func (PySem.W.fnOf "near_by_hand" "near_by_hand" (defArgs st_near_by_hand) (defBody st_near_by_hand) (defScope st_near_by_hand) .none kV4 dc4 pm4 an4 cd4 ct4), sl4⟩)
    (cc_4 : PySem.W.codeIn K cd4 "near_by_hand" = true)
    (kk_4 : PySem.W.keepIn K (.ref f_near_by_hand) = true)
    (a_5 : PySem.W.nsIn K mainGlobals "_law_cell_at" = some (some (.ref f__law_cell_at)))
    (l_5 : K.lookup f__law_cell_at = some ⟨oc5, od5, .func (PySem.W.fnOf "_law_cell_at" "_law_cell_at" (defArgs st__law_cell_at) (defBody st__law_cell_at) (defScope st__law_cell_at) .none kV5 dc5 pm5 an5 cd5 ct5), sl5⟩)
    (cc_5 : PySem.W.codeIn K cd5 "_law_cell_at" = true)
    (kk_5 : PySem.W.keepIn K (.ref f__law_cell_at) = true)
    (a_6 : PySem.W.nsIn K mainGlobals "_law_digit" = some (some (.ref f__law_digit)))
    (l_6 : K.lookup f__law_digit = some ⟨oc6, od6, .func (PySem.W.fnOf "_law_digit" "_law_digit" (defArgs st__law_digit) (defBody st__law_digit) (defScope st__law_digit) .none kV6 dc6 pm6 an6 cd6 ct6), sl6⟩)
    (cc_6 : PySem.W.codeIn K cd6 "_law_digit" = true)
    (kk_6 : PySem.W.keepIn K (.ref f__law_digit) = true)
    (a_7 : PySem.W.nsIn K mainGlobals "_law_web" = some (some (.ref f__law_web)))
    (l_7 : K.lookup f__law_web = some ⟨oc7, od7, .func (PySem.W.fnOf "_law_web" "_law_web" (defArgs st__law_web) (defBody st__law_web) (defScope st__law_web) .none kV7 dc7 pm7 an7 cd7 ct7), sl7⟩)
    (cc_7 : PySem.W.codeIn K cd7 "_law_web" = true)
    (kk_7 : PySem.W.keepIn K (.ref f__law_web) = true)
    (a_8 : PySem.W.nsIn K mainGlobals "_law_reached" = some (some (.ref f__law_reached)))
    (l_8 : K.lookup f__law_reached = some ⟨oc8, od8, .func (PySem.W.fnOf "_law_reached" "_law_reached" (defArgs st__law_reached) (defBody st__law_reached) (defScope st__law_reached) .none kV8 dc8 pm8 an8 cd8 ct8), sl8⟩)
    (cc_8 : PySem.W.codeIn K cd8 "_law_reached" = true)
    (kk_8 : PySem.W.keepIn K (.ref f__law_reached) = true)
    (a_9 : PySem.W.nsIn K mainGlobals "law" = some (some (.ref f_law)))
    (l_9 : K.lookup f_law = some ⟨oc9, od9, .func (PySem.W.fnOf "law" "law" (defArgs st_law) (defBody st_law) (defScope st_law) .none kV9 dc9 pm9 an9 cd9 ct9), sl9⟩)
    (cc_9 : PySem.W.codeIn K cd9 "law" = true)
    (kk_9 : PySem.W.keepIn K (.ref f_law) = true)
    (a_10 : PySem.W.findIn K (.ref c_Web) "__init__" = some (some (.ref f_Web___init__)))
    (i_10 : PySem.W.isFn K (.ref f_Web___init__) = true)
    (l_10 : K.lookup f_Web___init__ = some ⟨oc10, od10, .func (PySem.W.fnOf "__init__" "Web.__init__" (defArgs st_Web___init__) (defBody st_Web___init__) (defScope st_Web___init__) .none kV10 dc10 pm10 an10 cd10 ct10), sl10⟩)
    (cc_10 : PySem.W.codeIn K cd10 "Web.__init__" = true)
    (kk_10 : PySem.W.keepIn K (.ref f_Web___init__) = true)
    (a_11 : PySem.W.findIn K (.ref c_Web) "hands" = some (some (.ref f_Web_hands)))
    (i_11 : PySem.W.isFn K (.ref f_Web_hands) = true)
    (l_11 : K.lookup f_Web_hands = some ⟨oc11, od11, .func (PySem.W.fnOf "hands" "Web.hands" (defArgs st_Web_hands) (defBody st_Web_hands) (defScope st_Web_hands) .none kV11 dc11 pm11 an11 cd11 ct11), sl11⟩)
    (cc_11 : PySem.W.codeIn K cd11 "Web.hands" = true)
    (kk_11 : PySem.W.keepIn K (.ref f_Web_hands) = true)
    (a_12 : PySem.W.findIn K (.ref c_Web) "lines" = some (some (.ref f_Web_lines)))
    (i_12 : PySem.W.isFn K (.ref f_Web_lines) = true)
    (l_12 : K.lookup f_Web_lines = some ⟨oc12, od12, .func (PySem.W.fnOf "lines" "Web.lines" (defArgs st_Web_lines) (defBody st_Web_lines) (defScope st_Web_lines) .none kV12 dc12 pm12 an12 cd12 ct12), sl12⟩)
    (cc_12 : PySem.W.codeIn K cd12 "Web.lines" = true)
    (kk_12 : PySem.W.keepIn K (.ref f_Web_lines) = true)
    (a_13 : PySem.W.findIn K (.ref c_Web) "groups" = some (some (.ref f_Web_groups)))
    (i_13 : PySem.W.isFn K (.ref f_Web_groups) = true)
    (l_13 : K.lookup f_Web_groups = some ⟨oc13, od13, .func (PySem.W.fnOf "groups" "Web.groups" (defArgs st_Web_groups) (defBody st_Web_groups) (defScope st_Web_groups) .none kV13 dc13 pm13 an13 cd13 ct13), sl13⟩)
    (cc_13 : PySem.W.codeIn K cd13 "Web.groups" = true)
    (kk_13 : PySem.W.keepIn K (.ref f_Web_groups) = true)
    (a_14 : PySem.W.findIn K (.ref c_Web) "group_of" = some (some (.ref f_Web_group_of)))
    (i_14 : PySem.W.isFn K (.ref f_Web_group_of) = true)
    (l_14 : K.lookup f_Web_group_of = some ⟨oc14, od14, .func (PySem.W.fnOf "group_of" "Web.group_of" (defArgs st_Web_group_of) (defBody st_Web_group_of) (defScope st_Web_group_of) .none kV14 dc14 pm14 an14 cd14 ct14), sl14⟩)
    (cc_14 : PySem.W.codeIn K cd14 "Web.group_of" = true)
    (kk_14 : PySem.W.keepIn K (.ref f_Web_group_of) = true)
    (pg_Web : PySem.W.plainGet K c_Web Str.empty = true)
    (hd_Web : PySem.W.hasDictIn K c_Web = true)
    (po_Web : PySem.W.plainOver K c_Web = true)
    (sa_Web : PySem.W.findIn K (.ref c_Web) "__setattr__" = some (some (.builtin "object.__setattr__")))
    (mk_Web : PySem.W.makesIn K c_Web = true)
    (kc_Web : PySem.W.keepIn K (.ref c_Web) = true)
    (ha_Web : PySem.W.findIn K (.ref c_Web) "__class__" = some (some (.builtin "object.__class__")))
    (hm_Web : PySem.W.mroIn K c_Web (.type "object") = some true)
    (na_Web_own_hands : PySem.W.findIn K (.ref c_Web) "own_hands" = some none)
    (na_Web_own_lines : PySem.W.findIn K (.ref c_Web) "own_lines" = some none)
    (na_Web_near : PySem.W.findIn K (.ref c_Web) "near" = some none)
    (hn : PySem.W.specialIn K (.builtin "object.__class__") "__get__" = some (some (.builtin "getset_descriptor.__get__")))
    (htk : PySem.W.takesIn K (.builtin "object.__class__") = some true)
    (k_tint_tint : PySem.W.kitOne K (.type "int") (.type "int") = some true)
    (k_tint_tbool : PySem.W.kitOne K (.type "int") (.type "bool") = some false)
    (k_tlist_tlist : PySem.W.kitOne K (.type "list") (.type "list") = some true)
    (k_ttuple_ttuple : PySem.W.kitOne K (.type "tuple") (.type "tuple") = some true)
    (G_MOST_HANDS : PySem.W.nsIn K mainGlobals "MOST_HANDS" = some (some (.int 12 t_MOST_HANDS)))
    (G_LAST_HAND : PySem.W.nsIn K mainGlobals "LAST_HAND" = some (some (.int 99 t_LAST_HAND))) :
    ∃ a : Ad, Txt K mg a := by
  have F0 := fun_mk (st := st_is_whole) l_0 cc_0 kk_0
  have F1 := fun_mk (st := st_are_hands) l_1 cc_1 kk_1
  have F2 := fun_mk (st := st_is_line) l_2 cc_2 kk_2
  have F3 := fun_mk (st := st_are_lines) l_3 cc_3 kk_3
  have F4 := fun_mk (st := st_near_by_hand) l_4 cc_4 kk_4
  have F5 := fun_mk (st := st__law_cell_at) l_5 cc_5 kk_5
  have F6 := fun_mk (st := st__law_digit) l_6 cc_6 kk_6
  have F7 := fun_mk (st := st__law_web) l_7 cc_7 kk_7
  have F8 := fun_mk (st := st__law_reached) l_8 cc_8 kk_8
  have F9 := fun_mk (st := st_law) l_9 cc_9 kk_9
  have F10 := fun_mk (st := st_Web___init__) l_10 cc_10 kk_10
  have F11 := fun_mk (st := st_Web_hands) l_11 cc_11 kk_11
  have F12 := fun_mk (st := st_Web_lines) l_12 cc_12 kk_12
  have F13 := fun_mk (st := st_Web_groups) l_13 cc_13 kk_13
  have F14 := fun_mk (st := st_Web_group_of) l_14 cc_14 kk_14
  refine ⟨⟨f_is_whole, PySem.W.fnOf "is_whole" "is_whole" (defArgs st_is_whole) (defBody st_is_whole) (defScope st_is_whole) .none kV0 dc0 pm0 an0 cd0 ct0, f_are_hands, PySem.W.fnOf "are_hands" "are_hands" (defArgs st_are_hands) (defBody st_are_hands) (defScope st_are_hands) .none kV1 dc1 pm1 an1 cd1 ct1, f_is_line, PySem.W.fnOf "is_line" "is_line" (defArgs st_is_line) (defBody st_is_line) (defScope st_is_line) .none kV2 dc2 pm2 an2 cd2 ct2, f_are_lines, PySem.W.fnOf "are_lines" "are_lines" (defArgs st_are_lines) (defBody st_are_lines) (defScope st_are_lines) .none kV3 dc3 pm3 an3 cd3 ct3, f_near_by_hand, PySem.W.fnOf "near_by_hand" "near_by_hand" (defArgs st_near_by_hand) (defBody st_near_by_hand) (defScope st_near_by_hand) .none kV4 dc4 pm4 an4 cd4 ct4, f__law_cell_at, PySem.W.fnOf "_law_cell_at" "_law_cell_at" (defArgs st__law_cell_at) (defBody st__law_cell_at) (defScope st__law_cell_at) .none kV5 dc5 pm5 an5 cd5 ct5, f__law_digit, PySem.W.fnOf "_law_digit" "_law_digit" (defArgs st__law_digit) (defBody st__law_digit) (defScope st__law_digit) .none kV6 dc6 pm6 an6 cd6 ct6, f__law_web, PySem.W.fnOf "_law_web" "_law_web" (defArgs st__law_web) (defBody st__law_web) (defScope st__law_web) .none kV7 dc7 pm7 an7 cd7 ct7, f__law_reached, PySem.W.fnOf "_law_reached" "_law_reached" (defArgs st__law_reached) (defBody st__law_reached) (defScope st__law_reached) .none kV8 dc8 pm8 an8 cd8 ct8, f_law, PySem.W.fnOf "law" "law" (defArgs st_law) (defBody st_law) (defScope st_law) .none kV9 dc9 pm9 an9 cd9 ct9, f_Web___init__, PySem.W.fnOf "__init__" "Web.__init__" (defArgs st_Web___init__) (defBody st_Web___init__) (defScope st_Web___init__) .none kV10 dc10 pm10 an10 cd10 ct10, f_Web_hands, PySem.W.fnOf "hands" "Web.hands" (defArgs st_Web_hands) (defBody st_Web_hands) (defScope st_Web_hands) .none kV11 dc11 pm11 an11 cd11 ct11, f_Web_lines, PySem.W.fnOf "lines" "Web.lines" (defArgs st_Web_lines) (defBody st_Web_lines) (defScope st_Web_lines) .none kV12 dc12 pm12 an12 cd12 ct12, f_Web_groups, PySem.W.fnOf "groups" "Web.groups" (defArgs st_Web_groups) (defBody st_Web_groups) (defScope st_Web_groups) .none kV13 dc13 pm13 an13 cd13 ct13, f_Web_group_of, PySem.W.fnOf "group_of" "Web.group_of" (defArgs st_Web_group_of) (defBody st_Web_group_of) (defScope st_Web_group_of) .none kV14 dc14 pm14 an14 cd14 ct14, c_Web, t_MOST_HANDS, t_LAST_HAND⟩, ?_⟩
  exact ⟨PySem.W.mg_none_of X G z_len,
    PySem.W.mg_none_of X G z_int,
    PySem.W.mg_none_of X G z_min,
    PySem.W.mg_none_of X G z_range,
    PySem.W.mg_none_of X G z_isinstance,
    PySem.W.mg_none_of X G z_list,
    PySem.W.mg_none_of X G z_sorted,
    PySem.W.mg_none_of X G z_bool,
    PySem.W.mg_none_of X G z_tuple,
    PySem.W.mg_none_of X G z_ValueError,
    F0,
    F0.binds (ps := ["value"]) fun _ _ _ _ _ _ us hl => match us, hl with | [_], _ => rfl,
    PySem.W.mg_of X G a_0,
    F1,
    F1.binds (ps := ["hands"]) fun _ _ _ _ _ _ us hl => match us, hl with | [_], _ => rfl,
    PySem.W.mg_of X G a_1,
    F2,
    F2.binds (ps := ["line", "hands"]) fun _ _ _ _ _ _ us hl => match us, hl with | [_, _], _ => rfl,
    PySem.W.mg_of X G a_2,
    F3,
    F3.binds (ps := ["lines", "hands"]) fun _ _ _ _ _ _ us hl => match us, hl with | [_, _], _ => rfl,
    PySem.W.mg_of X G a_3,
    F4,
    F4.binds (ps := ["hands", "lines"]) fun _ _ _ _ _ _ us hl => match us, hl with | [_, _], _ => rfl,
    PySem.W.mg_of X G a_4,
    F5,
    F5.binds (ps := ["_law_script", "_law_k"]) fun _ _ _ _ _ _ us hl => match us, hl with | [_, _], _ => rfl,
    PySem.W.mg_of X G a_5,
    F6,
    F6.binds (ps := ["_law_state", "_law_base"]) fun _ _ _ _ _ _ us hl => match us, hl with | [_, _], _ => rfl,
    PySem.W.mg_of X G a_6,
    F7,
    F7.binds (ps := ["_law_state"]) fun _ _ _ _ _ _ us hl => match us, hl with | [_], _ => rfl,
    PySem.W.mg_of X G a_7,
    F8,
    F8.binds (ps := ["_law_group", "_law_lines"]) fun _ _ _ _ _ _ us hl => match us, hl with | [_, _], _ => rfl,
    PySem.W.mg_of X G a_8,
    F9,
    F9.binds (ps := ["_law_script"]) fun _ _ _ _ _ _ us hl => match us, hl with | [_], _ => rfl,
    fun s v => .of_eq rfl,
    PySem.W.mg_of X G a_9,
    F10,
    F10.binds (ps := ["self", "hands", "lines"]) fun _ _ _ _ _ _ us hl => match us, hl with | [_, _, _], _ => rfl,
    F11,
    F11.binds (ps := ["self"]) fun _ _ _ _ _ _ us hl => match us, hl with | [_], _ => rfl,
    ⟨a_11, i_11, kk_11⟩,
    F12,
    F12.binds (ps := ["self"]) fun _ _ _ _ _ _ us hl => match us, hl with | [_], _ => rfl,
    ⟨a_12, i_12, kk_12⟩,
    F13,
    F13.binds (ps := ["self"]) fun _ _ _ _ _ _ us hl => match us, hl with | [_], _ => rfl,
    ⟨a_13, i_13, kk_13⟩,
    F14,
    F14.binds (ps := ["self", "hand"]) fun _ _ _ _ _ _ us hl => match us, hl with | [_, _], _ => rfl,
    ⟨a_14, i_14, kk_14⟩,
    PySem.W.mg_of X G A_Web,
    ⟨pg_Web, hd_Web, po_Web, sa_Web⟩,
    ⟨mk_Web, a_10, i_10, kc_Web⟩,
    fun H p dx fs e => .ins e ⟨pg_Web, hd_Web, po_Web, sa_Web⟩ ha_Web hn htk hm_Web,
    na_Web_own_hands,
    na_Web_own_lines,
    na_Web_near,
    k_tint_tint,
    k_tint_tbool,
    k_tlist_tlist,
    k_ttuple_ttuple,
    PySem.W.mg_of X G G_MOST_HANDS,
    PySem.W.mg_of X G G_LAST_HAND⟩
end K04
open PySem PySem.W PyProof.Rows
set_option maxRecDepth 100000 in
set_option maxHeartbeats 0 in
theorem PySem.Challenge.cw_beatless_k03_groups_holds : PySem.Challenge.rw_beatless_k03_groups.Holds := by
  w_on; o_law; k_head; (case hw => w_witness2)
  k_fill
  refine L2.walk_ofK (l := PySem.Challenge.rw_beatless_k03_groups) (n := 63) (k := 8) (x := "_law_script") (CX := L2.CX0) (sp := K04.spLaw) rfl (by decide) rfl ⟨rfl, by decide, by decide⟩ (fun w h Y => PySem.W.kIn_of Y) ?F ?S ?C
  case F =>
    intro w mg fa h KX G hmg
    have T : ∃ a, K04.Txt (L2.KOf KX) mg a := by
      dsimp only [L2.KOf]
      refine' K04.txt_mk KX G ?z_len ?z_int ?z_min ?z_range ?z_isinstance ?z_list ?z_sorted ?z_bool ?z_tuple ?z_ValueError ?A_Web ?a_0 ?l_0 ?cc_0 ?kk_0 ?a_1 ?l_1 ?cc_1 ?kk_1 ?a_2 ?l_2 ?cc_2 ?kk_2 ?a_3 ?l_3 ?cc_3 ?kk_3 ?a_4 ?l_4 ?cc_4 ?kk_4 ?a_5 ?l_5 ?cc_5 ?kk_5 ?a_6 ?l_6 ?cc_6 ?kk_6 ?a_7 ?l_7 ?cc_7 ?kk_7 ?a_8 ?l_8 ?cc_8 ?kk_8 ?a_9 ?l_9 ?cc_9 ?kk_9 ?a_10 ?i_10 ?l_10 ?cc_10 ?kk_10 ?a_11 ?i_11 ?l_11 ?cc_11 ?kk_11 ?a_12 ?i_12 ?l_12 ?cc_12 ?kk_12 ?a_13 ?i_13 ?l_13 ?cc_13 ?kk_13 ?a_14 ?i_14 ?l_14 ?cc_14 ?kk_14 ?pg_Web ?hd_Web ?po_Web ?sa_Web ?mk_Web ?kc_Web ?ha_Web ?hm_Web ?na_Web_own_hands ?na_Web_own_lines ?na_Web_near ?hn ?htk ?k_tint_tint ?k_tint_tbool ?k_tlist_tlist ?k_ttuple_ttuple ?G_MOST_HANDS ?G_LAST_HAND
      (case z_len => k_is)
      (case z_int => k_is)
      (case z_min => k_is)
      (case z_range => k_is)
      (case z_isinstance => k_is)
      (case z_list => k_is)
      (case z_sorted => k_is)
      (case z_bool => k_is)
      (case z_tuple => k_is)
      (case z_ValueError => k_is)
      (case A_Web => k_is)
      (case a_0 => k_is)
      (case l_0 => k_is)
      (case cc_0 => k_is)
      (case kk_0 => k_is)
      (case a_1 => k_is)
      (case l_1 => k_is)
      (case cc_1 => k_is)
      (case kk_1 => k_is)
      (case a_2 => k_is)
      (case l_2 => k_is)
      (case cc_2 => k_is)
      (case kk_2 => k_is)
      (case a_3 => k_is)
      (case l_3 => k_is)
      (case cc_3 => k_is)
      (case kk_3 => k_is)
      (case a_4 => k_is)
      (case l_4 => k_is)
      (case cc_4 => k_is)
      (case kk_4 => k_is)
      (case a_5 => k_is)
      (case l_5 => k_is)
      (case cc_5 => k_is)
      (case kk_5 => k_is)
      (case a_6 => k_is)
      (case l_6 => k_is)
      (case cc_6 => k_is)
      (case kk_6 => k_is)
      (case a_7 => k_is)
      (case l_7 => k_is)
      (case cc_7 => k_is)
      (case kk_7 => k_is)
      (case a_8 => k_is)
      (case l_8 => k_is)
      (case cc_8 => k_is)
      (case kk_8 => k_is)
      (case a_9 => k_is)
      (case l_9 => k_is)
      (case cc_9 => k_is)
      (case kk_9 => k_is)
      (case a_10 => k_is)
      (case i_10 => k_is)
      (case l_10 => k_is)
      (case cc_10 => k_is)
      (case kk_10 => k_is)
      (case a_11 => k_is)
      (case i_11 => k_is)
      (case l_11 => k_is)
      (case cc_11 => k_is)
      (case kk_11 => k_is)
      (case a_12 => k_is)
      (case i_12 => k_is)
      (case l_12 => k_is)
      (case cc_12 => k_is)
      (case kk_12 => k_is)
      (case a_13 => k_is)
      (case i_13 => k_is)
      (case l_13 => k_is)
      (case cc_13 => k_is)
      (case kk_13 => k_is)
      (case a_14 => k_is)
      (case i_14 => k_is)
      (case l_14 => k_is)
      (case cc_14 => k_is)
      (case kk_14 => k_is)
      (case pg_Web => k_is)
      (case hd_Web => k_is)
      (case po_Web => k_is)
      (case sa_Web => k_is)
      (case mk_Web => k_is)
      (case kc_Web => k_is)
      (case ha_Web => k_is)
      (case hm_Web => k_is)
      (case na_Web_own_hands => k_is)
      (case na_Web_own_lines => k_is)
      (case na_Web_near => k_is)
      (case hn => k_is)
      (case htk => k_is)
      (case k_tint_tint => kit_is)
      (case k_tint_tbool => kit_is)
      (case k_tlist_tlist => kit_is)
      (case k_ttuple_ttuple => kit_is)
      (case G_MOST_HANDS => k_is)
      (case G_LAST_HAND => k_is)
    obtain ⟨a, T⟩ := T
    have e0 := hmg.symm.trans T.g_law
    cases e0
    exact ⟨_, T.b0_law, fun base kb nb => K04.ok_law T⟩
  case S => exact fun K H a ns hl hO hS => K04.sp_law_of hl hO hS
  case C => exact fun _ _ _ _ z => z

