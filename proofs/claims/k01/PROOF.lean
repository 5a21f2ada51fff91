import PyProof.Rows.All
import Wide.All
import OpenK.AllK
import Wide.FinOn
import PySem.Challenge.RW_beatless_k01_webs_told
import Lean
import PyProof.EqAt
import PyProof.EqKinds
import PyProof.TupleCall
import PyProof.ZipIter
import PyProof.WalksMore
import KE.KRevSl
import KE.KIntText
import KE.KRevIter
import PyProof.Draws
import PyProof.EnumFor
import PyProof.EnumStmt
/-! BLayer -/
set_option Elab.async false
set_option linter.all false
set_option maxRecDepth 100000
namespace L2
open PySem PySem.Spec PyProof.Rows
abbrev Key := Sum Int Str
def keyIs : Key → Value → Bool
  | .inl k, v => Value.isInt k v
  | .inr x, v => Value.isStrOf x v
def keyH (w : World) : Key → Int
  | .inl k => hashInt k
  | .inr x => hashStr w x
theorem keyIs_shape : ∀ {k : Key} {v : Value}, keyIs k v = true → (∃ i t, k = Sum.inl i ∧ v = Value.int i t) ∨ (∃ x t, k = Sum.inr x ∧ v = Value.str x t)
  | .inl i, v, h => by
    obtain ⟨t, e⟩ := Value.isInt_shape (k := i) (v := v) h
    exact .inl ⟨i, t, rfl, e⟩
  | .inr x, v, h => by
    obtain ⟨t, e⟩ := Value.isStrOf_shape (x := x) (v := v) h
    exact .inr ⟨x, t, rfl, e⟩
theorem keyIs_int (i : Int) (t : Tok) : keyIs (.inl i) (.int i t) = true := by simp [keyIs, Value.isInt]
theorem keyIs_str (x : Str) (t : Tok) : keyIs (.inr x) (.str x t) = true := by simp [keyIs, Value.isStrOf]
theorem key_ll (a b : Int) : decide ((Sum.inl a : Key) = Sum.inl b) = (a == b) := by
  by_cases e : a = b
  · subst e; simp
  · have h : ¬ (Sum.inl a : Key) = Sum.inl b := fun q => e (Sum.inl.inj q)
    rw [decide_eq_false h]
    exact (beq_eq_false_iff_ne.mpr e).symm
theorem key_rr (a b : Str) : decide ((Sum.inr a : Key) = Sum.inr b) = decide (a = b) := by
  by_cases e : a = b
  · subst e; simp
  · have h : ¬ (Sum.inr a : Key) = Sum.inr b := fun q => e (Sum.inr.inj q)
    rw [decide_eq_false h, decide_eq_false e]
theorem key_lr (a : Int) (b : Str) : decide ((Sum.inl a : Key) = Sum.inr b) = false := decide_eq_false (fun q => nomatch q)
theorem key_rl (a : Str) (b : Int) : decide ((Sum.inr a : Key) = Sum.inl b) = false := decide_eq_false (fun q => nomatch q)
def mixKind (prog : Program) (w : World) : PySem.KeyKind prog w Key where
  is := keyIs
  hash := keyH w
  inj := fun v a b ha hb => by
    rcases keyIs_shape ha with ⟨i, t, rfl, rfl⟩ | ⟨x, t, rfl, rfl⟩
    · rcases keyIs_shape hb with ⟨j, u, rfl, e⟩ | ⟨y, u, rfl, e⟩
      · injection e with e1 _; rw [e1]
      · exact nomatch e
    · rcases keyIs_shape hb with ⟨j, u, rfl, e⟩ | ⟨y, u, rfl, e⟩
      · exact nomatch e
      · injection e with e1 _; rw [e1]
  byValue := fun k v h => by
    rcases keyIs_shape h with ⟨i, t, rfl, rfl⟩ | ⟨x, t, rfl, rfl⟩ <;> rfl
  pyHash := fun hv h => by
    rcases keyIs_shape hv with ⟨i, t, rfl, rfl⟩ | ⟨x, t, rfl, rfl⟩
    · exact wpAny_pyHash_int h
    · exact wpAny_pyHash_str h
  eqBool := fun hu hv h => by
    rcases keyIs_shape hu with ⟨i, t, rfl, rfl⟩ | ⟨x, t, rfl, rfl⟩
    · rcases keyIs_shape hv with ⟨j, u, rfl, rfl⟩ | ⟨y, u, rfl, rfl⟩
      · rw [key_ll] at h; exact wpAny_eqBool_int h
      · rw [key_lr] at h; exact SeqAt.EqAt.int_str i t y u _ _ _ _ h
    · rcases keyIs_shape hv with ⟨j, u, rfl, rfl⟩ | ⟨y, u, rfl, rfl⟩
      · rw [key_rl] at h; exact SeqAt.EqAt.str_int x t j u _ _ _ _ h
      · rw [key_rr] at h; exact wpAny_eqBool_str h
  «strs» := fun k x t v h => by
    rcases keyIs_shape h with ⟨i, u, rfl, e⟩ | ⟨y, u, rfl, e⟩
    · exact nomatch e
    · injection e with e1 _
      subst e1
      cases v <;> rfl
theorem mixKind_int (prog : Program) (w : World) (i : Int) (t : Tok) : (mixKind prog w).is (.inl i) (.int i t) = true := keyIs_int i t
theorem mixKind_str (prog : Program) (w : World) (x : Str) (t : Tok) : (mixKind prog w).is (.inr x) (.str x t) = true := keyIs_str x t
end L2
namespace L2
open PySem PySem.Spec PyProof.Rows
inductive V where
  | non | bl (b : Bool) | int (i : Int) | str (x : Str) | byt (b : Array UInt8) | flt (b : UInt64) | ref (a : Addr) | ty (n : String)
  deriving DecidableEq
def RelV : V → Value → Prop
  | .non, u => u = Value.none
  | .bl b, u => u = Value.bool b
  | .int i, u => ∃ t, u = Value.int i t
  | .str x, u => ∃ t, u = Value.str x t
  | .byt b, u => ∃ t, u = Value.bytes b t
  | .flt b, u => ∃ t, u = Value.float b t
  | .ref a, u => u = Value.ref a
  | .ty n, u => u = Value.type n
abbrev Vals : List V → List Value → Prop := Paired RelV
theorem Vals.length {xs : List V} {us : List Value} (r : Vals xs us) : xs.length = us.length := Paired.length r
theorem Vals.get : ∀ {xs : List V} {us : List Value} {i : Nat} {x : V}, Vals xs us → xs[i]? = some x → ∃ u, us[i]? = some u ∧ RelV x u
  | _, _, _, _, .nil, e => by simp at e
  | _, _, 0, _, .cons r _, e => by simp at e; subst e; exact ⟨_, rfl, r⟩
  | _, _, i + 1, x, .cons _ t, e => by
    obtain ⟨u, h1, h2⟩ := Vals.get (i := i) (x := x) t (by simpa using e)
    exact ⟨u, by simpa using h1, h2⟩
theorem Vals.set {x : V} {u : Value} (r : RelV x u) : ∀ {xs : List V} {us : List Value} (i : Nat), Vals xs us → Vals (xs.set i x) (us.set i u)
  | _, _, _, .nil => .nil
  | _, _, 0, .cons _ t => .cons r t
  | _, _, i + 1, .cons q t => .cons q (Vals.set r i t)
theorem Vals.append : ∀ {xs ys : List V} {us ws : List Value}, Vals xs us → Vals ys ws → Vals (xs ++ ys) (us ++ ws)
  | _, _, _, _, .nil, s => s
  | _, _, _, _, .cons r t, s => .cons r (Vals.append t s)
theorem Vals.take : ∀ {xs : List V} {us : List Value} (n : Nat), Vals xs us → Vals (xs.take n) (us.take n)
  | _, _, 0, _ => .nil
  | _, _, _ + 1, .nil => .nil
  | _, _, n + 1, .cons r t => .cons r (Vals.take n t)
theorem Vals.drop : ∀ {xs : List V} {us : List Value} (n : Nat), Vals xs us → Vals (xs.drop n) (us.drop n)
  | _, _, 0, r => r
  | _, _, _ + 1, .nil => .nil
  | _, _, n + 1, .cons _ t => Vals.drop n t
def RelO : Option V → Option Value → Prop
  | some v, some u => RelV v u
  | none, none => True
  | _, _ => False
def KV {κ : Type} : List (κ × V) → List (κ × Value) → Prop := Paired fun (p : κ × V) (q : κ × Value) => p.1 = q.1 ∧ RelV p.2 q.2
def kV : Key → V
  | .inl i => .int i
  | .inr x => .str x
inductive HO where
  /-- a list -/
  | lst (xs : List V)
  /-- a tuple (never changes) -/
  | tup (xs : List V)
  /-- a dict whose keys are ints and texts; one whose keys are tuples of ints and texts (the empty one is both) -/
  | dK (kvs : List (Key × V)) | dT (kvs : List (List Key × V))
  /-- a set of ints: its members, its size -/
  | set (S : Int → Bool) (n : Nat)
  /-- an instance of the class at C, its dict at dx, its attributes -/
  | ins (C dx : Addr) (fs : List (Str × V))
  /-- the dict of the instance at x -/
  | own (x : Addr)
  /-- the dict of an exception -/
  | xd (fs : List (Str × V))
  /-- a bound method, f of x -/
  | met (f x : Addr)
  /-- a range object lo, lo + 1, .. below hi -/
  | rng (lo hi : Int)
  /-- a thing that is known to the object (the script; a dict while a loop walks it): read, never written while it is so -/
  | frz (o : Obj) (u : HO)
  /-- a code object's table -/
  | tbl (ps : Array Value)
  /-- any other thing, by what is true of its one object (a def of one's own: SetO a S n := HO.ext fun h => ..) -/
  | ext (φ : Heap → Prop)
abbrev Hp := Addr → Option HO
def upd (H : Hp) (a : Addr) (o : HO) : Hp := fun b => if b = a then some o else H b
theorem upd_same {H : Hp} {a : Addr} {o : HO} : upd H a o a = some o := by unfold upd; rw [if_pos rfl]
theorem upd_ne {H : Hp} {a b : Addr} {o : HO} (h : b ≠ a) : upd H a o b = H b := by unfold upd; rw [if_neg h]
theorem ne_of {H : Hp} {a b : Addr} {o u : HO} (h : H a = some o) (h' : H b = some u) (d : o ≠ u) : a ≠ b := by
  intro e; subst e; rw [h] at h'; exact d (Option.some.inj h')
theorem ne_of_none {H : Hp} {a b : Addr} {o : HO} (h : H a = some o) (h' : H b = none) : a ≠ b := by
  intro e; subst e; rw [h] at h'; cases h'
section
variable (P : Program) (w : World)
def ObjOk (H : Hp) (h : Heap) (a : Addr) : HO → Prop
  | .lst xs => xs.length ≤ sizeLine ∧ ∃ (its : List Value) (n : Nat), Vals xs its ∧ h.get? a = some { cls := .type "list", data := .seq its.toArray n }
  | .tup xs => xs.length ≤ sizeLine ∧ ∃ its : List Value, Vals xs its ∧ IsTup h a its.toArray
  | .dK kvs => kvs.length ≤ sizeLine ∧ (a == sysModules) = false ∧ ∃ vs, KV kvs vs ∧ h.DictOf (mixKind P w) a vs
  | .dT kvs => kvs.length ≤ sizeLine ∧ (a == sysModules) = false ∧ ∃ xs : List (List Key × Addr × Value),
      Paired (fun (p : List Key × V) (q : List Key × Addr × Value) => p.1 = q.1 ∧ H q.2.1 = some (.tup (p.1.map kV)) ∧ RelV p.2 q.2.2) kvs xs ∧
      ∃ o es ep, h.get? a = some o ∧ o.ExactDict ∧ o.data = .dict es ep ∧ es.toList = xs.map (entryOfKey (tupleKind (mixKind P w))) ∧ (xs.map (·.1)).Nodup
  | .set S n => h.SetOf (intKind P w) a S n
  | .ins C dx fs => H dx = some (.own a) ∧ fs.length ≤ 1000 ∧ dx ≠ a ∧ h.get? a = some (PySem.W.instObj C dx) ∧
      ∃ mA, h.Ns1 dx mA ∧ (∀ f, RelO (fs.lookup f) (mA f)) ∧ PySem.Within mA (fs.map (·.1))
  | .own _ => ∃ o, h.get? a = some o
  | .xd fs => ∃ mA, h.Ns1 a mA ∧ ∀ f, RelO (fs.lookup f) (mA f)
  | .rng lo hi => ∃ t u v, h.get? a = some { cls := .type "range", data := .fields #[.int lo t, .int hi u, .int 1 v] }
  | .frz o u => h.get? a = some o ∧ ObjOk H h a u
  | .tbl ps => h.get? a = some { cls := .none, data := .fields ps }
  | .met f x => h.get? a = some (PySem.W.methodObj (.ref f) (.ref x))
  | .ext φ => φ h ∧ (∃ o, h.get? a = some o) ∧ ∀ h1 h2 : Heap, φ h1 → (∀ o, h1.get? a = some o → h2.get? a = some o) → φ h2
def HOk (H : Hp) (h : Heap) : Prop := ∀ a o, H a = some o → ObjOk P w H h a o
end
section
variable {P : Program} {w : World} {H H' : Hp} {h h' : Heap} {a : Addr} {o : HO}
theorem ObjOk.lt (x : ObjOk P w H h a o) : a < h.objs.size := by
  cases o with
  | lst xs => obtain ⟨_, _, _, _, e⟩ := x; exact Heap.lt_size e
  | tup xs => obtain ⟨_, _, _, p⟩ := x; exact p.lt
  | dK kvs => obtain ⟨_, _, _, _, o, _, _, e, _⟩ := x; exact Heap.lt_size e
  | dT kvs => obtain ⟨_, _, _, _, o, _, _, e, _⟩ := x; exact Heap.lt_size e
  | set S n => obtain ⟨o, _, _, _, e, _⟩ := x; exact Heap.lt_size e
  | ins C dx fs => obtain ⟨_, _, _, e, _⟩ := x; exact Heap.lt_size e
  | own y => obtain ⟨_, e⟩ := x; exact Heap.lt_size e
  | xd fs => obtain ⟨_, ⟨_, _, _, e, _⟩, _⟩ := x; exact Heap.lt_size e
  | rng lo hi => obtain ⟨_, _, _, e⟩ := x; exact Heap.lt_size e
  | frz ob u => obtain ⟨e, _⟩ := x; exact Heap.lt_size e
  | tbl ps => exact Heap.lt_size (show h.get? a = some _ from x)
  | met f y => exact Heap.lt_size (show h.get? a = some _ from x)
  | ext φ => obtain ⟨_, ⟨_, e⟩, _⟩ := x; exact Heap.lt_size e
theorem Paired.mapP {α β : Type} {F G : α → β → Prop} : ∀ {l₁ : List α} {l₂ : List β}, Paired F l₁ l₂ → (∀ a b, F a b → G a b) → Paired G l₁ l₂
  | _, _, .nil, _ => .nil
  | _, _, .cons r t, f => .cons (f _ _ r) (Paired.mapP t f)
theorem ObjOk.stay (x : ObjOk P w H h a o) (k : ∀ b u, (b = a ∨ H b = some (.own a)) → h.get? b = some u → h'.get? b = some u)
    (ho : ∀ b, H b = some (.own a) → H' b = some (.own a)) (ht : ∀ b xs, H b = some (.tup xs) → H' b = some (.tup xs)) : ObjOk P w H' h' a o := by
  induction o with
  | lst xs => obtain ⟨z, its, n, r, e⟩ := x; exact ⟨z, its, n, r, k _ _ (.inl rfl) e⟩
  | tup xs => obtain ⟨z, its, r, ob, e, c⟩ := x; exact ⟨z, its, r, ob, k _ _ (.inl rfl) e, c⟩
  | dK kvs => obtain ⟨z, y, vs, r, ob, es, ep, e, c⟩ := x; exact ⟨z, y, vs, r, ob, es, ep, k _ _ (.inl rfl) e, c⟩
  | dT kvs =>
    obtain ⟨z, y, xs, r, ob, es, ep, e, c⟩ := x
    exact ⟨z, y, xs, Paired.mapP r fun p q z => ⟨z.1, ht _ _ z.2.1, z.2.2⟩, ob, es, ep, k _ _ (.inl rfl) e, c⟩
  | set S n => obtain ⟨ob, es, ep, t, e, c⟩ := x; exact ⟨ob, es, ep, t, k _ _ (.inl rfl) e, c⟩
  | ins C dx fs =>
    obtain ⟨d, z, ne, e, mA, ⟨od, es, ep, e2, c⟩, r⟩ := x
    exact ⟨ho _ d, z, ne, k _ _ (.inl rfl) e, mA, ⟨od, es, ep, k _ _ (.inr d) e2, c⟩, r⟩
  | own y => obtain ⟨ob, e⟩ := x; exact ⟨ob, k _ _ (.inl rfl) e⟩
  | xd fs => obtain ⟨mA, ⟨od, es, ep, e, c⟩, r⟩ := x; exact ⟨mA, ⟨od, es, ep, k _ _ (.inl rfl) e, c⟩, r⟩
  | rng lo hi => obtain ⟨t, u, v, e⟩ := x; exact ⟨t, u, v, k _ _ (.inl rfl) e⟩
  | frz ob u ih => obtain ⟨e, q⟩ := x; exact ⟨k _ _ (.inl rfl) e, ih q⟩
  | tbl ps =>
    have e : h.get? a = some { cls := .none, data := .fields ps } := x
    show h'.get? a = some { cls := .none, data := .fields ps }
    exact k a _ (.inl rfl) e
  | met f y =>
    have e : h.get? a = some (PySem.W.methodObj (.ref f) (.ref y)) := x
    show h'.get? a = some (PySem.W.methodObj (.ref f) (.ref y))
    exact k a _ (.inl rfl) e
  | ext φ => obtain ⟨p, ⟨o, e⟩, st⟩ := x; exact ⟨st _ _ p fun o q => k _ _ (.inl rfl) q, ⟨o, k _ _ (.inl rfl) e⟩, st⟩
theorem HOk.lt (x : HOk P w H h) (e : H a = some o) : a < h.objs.size := (x a o e).lt
theorem HOk.fresh (x : HOk P w H h) (e : h.objs.size ≤ a) : H a = none := by
  cases q : H a with
  | none => rfl
  | some u => exact absurd (Nat.lt_of_lt_of_le (x.lt q) e) (Nat.lt_irrefl _)
theorem HOk.kept (x : HOk P w H h) (k : ∀ b u, h.get? b = some u → h'.get? b = some u) : HOk P w H h' := fun a o e =>
  (x a o e).stay (fun b u _ q => k b u q) (fun _ q => q) fun _ _ q => q
theorem HOk.laid (x : HOk P w H h) (k : ∀ b u, h.get? b = some u → h'.get? b = some u) (hp : h.objs.size ≤ a) (new : ObjOk P w (upd H a o) h' a o) : HOk P w (upd H a o) h' := fun b u e => by
  have hn := x.fresh hp
  by_cases hb : b = a
  · subst hb; rw [upd_same] at e; cases e; exact new
  · rw [upd_ne hb] at e
    exact (x b u e).stay (fun c v _ q => k c v q) (fun c q => by rw [upd_ne (ne_of_none q hn)]; exact q) fun c xs q => by rw [upd_ne (ne_of_none q hn)]; exact q
end
def Rd (H : Hp) (a : Addr) (u : HO) : Prop := H a = some u ∨ ∃ o, H a = some (.frz o u)
theorem Rd.ok {P : Program} {w : World} {H : Hp} {h : Heap} {a : Addr} {u : HO} (r : Rd H a u) (x : HOk P w H h) : ObjOk P w H h a u := by
  rcases r with r | ⟨o, r⟩
  · exact x a u r
  · obtain ⟨_, q⟩ := x a _ r
    exact q
def Mut : Option HO → Prop
  | some (.lst _) => True
  | some (.dK _) => True
  | some (.dT _) => True
  | some (.set _ _) => True
  | some (.ins _ _ _) => True
  | some (.ext _) => True
  | _ => False
section
variable {P : Program} {w : World} {H : Hp} {h h' : Heap} {x e : Addr} {o' : HO}
theorem HOk.write (ok : HOk P w H h) (mu : Mut (H x)) (he : e = x ∨ H e = some (.own x)) (k : ∀ b u, b ≠ e → h.get? b = some u → h'.get? b = some u) (heo : ∃ u, h'.get? e = some u)
    (new : ObjOk P w (upd H x o') h' x o') : HOk P w (upd H x o') h' := fun b u q => by
  have nown : ∀ c y, H c = some (.own y) → c ≠ x := fun c y r z => by subst z; rw [r] at mu; exact mu
  have ntup : ∀ c xs, H c = some (.tup xs) → c ≠ x := fun c xs r z => by subst z; rw [r] at mu; exact mu
  by_cases hb : b = x
  · subst hb; rw [upd_same] at q; cases q; exact new
  · rw [upd_ne hb] at q
    by_cases hbe : b = e
    · have q' : H b = some (.own x) := by
        rcases he with z | z
        · exact absurd (hbe.trans z) hb
        · rw [hbe]; exact z
      rw [q] at q'; cases q'
      obtain ⟨v, hv⟩ := heo
      exact ⟨v, by rw [hbe]; exact hv⟩
    · refine (ok b u q).stay (fun c v hc r => k c v ?_ r) (fun c r => by rw [upd_ne (nown c b r)]; exact r) fun c xs r => by rw [upd_ne (ntup c xs r)]; exact r
      rcases hc with rfl | hc
      · exact hbe
      · rintro rfl
        rcases he with z | z
        · exact nown c b hc z
        · rw [hc] at z; cases z; exact hb rfl
end
structure Un (fs ex : List Addr) (H H' : Hp) (h h' : Heap) : Prop where
  keep : ∀ b o, h.get? b = some o → H b = none → b ∉ fs → b ∉ ex → h'.get? b = some o
  slot : ∀ b o, h.get? b = some o → H b = none → b ∈ fs → b ∉ ex → ∃ sl, h'.get? b = some { o with slots := sl }
  free : ∀ b o, h.get? b = some o → H b = none → b ∉ ex → H' b = none
  there : ∀ b o, h.get? b = some o → b ∉ ex → ∃ o', h'.get? b = some o'
  tups : ∀ b xs, H b = some (.tup xs) → H' b = some (.tup xs)
  frzs : ∀ b o u, H b = some (.frz o u) → H' b = some (.frz o u)
  tbls : ∀ b ps, H b = some (.tbl ps) → ∃ more, H' b = some (.tbl (ps ++ more))
section
variable {fs fs' ex ex' : List Addr} {H H1 H2 : Hp} {h h1 h2 h' : Heap} {a x e : Addr} {o : HO}
theorem Un.any (u : Un fs ex H H1 h h1) {b : Addr} {ob : Obj} (q : h.get? b = some ob) (n : H b = none) (hx : b ∉ ex) : ∃ sl, h1.get? b = some { ob with slots := sl } := by
  by_cases hb : b ∈ fs
  · exact u.slot b ob q n hb hx
  · exact ⟨ob.slots, u.keep b ob q n hb hx⟩
theorem Un.kept (k : ∀ b u, h.get? b = some u → h'.get? b = some u) : Un fs ex H H h h' :=
  ⟨fun b ob q _ _ _ => k b ob q, fun b ob q _ _ _ => ⟨ob.slots, k b ob q⟩, fun _ _ _ n _ => n, fun b ob q _ => ⟨ob, k b ob q⟩, fun _ _ q => q, fun _ _ _ q => q, fun _ ps q => ⟨#[], by rw [q]; simp⟩⟩
theorem Un.refl : Un fs ex H H h h := Un.kept fun _ _ q => q
theorem Un.laid (k : ∀ b u, h.get? b = some u → h'.get? b = some u) (hp : h.objs.size ≤ a) (hn : H a = none) : Un fs ex H (upd H a o) h h' where
  keep := fun b u q _ _ _ => k b u q
  slot := fun b u q _ _ _ => ⟨u.slots, k b u q⟩
  free := fun b u q n _ => by rw [upd_ne (Nat.ne_of_lt (Nat.lt_of_lt_of_le (Heap.lt_size q) hp))]; exact n
  there := fun b u q _ => ⟨u, k b u q⟩
  tups := fun b xs q => by rw [upd_ne (ne_of_none q hn)]; exact q
  frzs := fun b u xs q => by rw [upd_ne (ne_of_none q hn)]; exact q
  tbls := fun b ps q => ⟨#[], by rw [upd_ne (ne_of_none q hn), q]; simp⟩
theorem Un.write (mu : Mut (H x)) (he : e = x ∨ H e = some (.own x)) (k : ∀ b u, b ≠ e → h.get? b = some u → h'.get? b = some u) (heo : ∃ u, h'.get? e = some u) : Un fs ex H (upd H x o) h h' := by
  have hx : ∀ b, H b = none → b ≠ x := fun b n z => by subst z; rw [n] at mu; exact mu
  have hb : ∀ b, H b = none → b ≠ e := fun b n z => by
    subst z
    rcases he with r | r
    · exact hx b n r
    · rw [n] at r; cases r
  have hm : ∀ b u, H b = some u → ¬ Mut (some u) → b ≠ x := fun b u q nm z => by subst z; rw [q] at mu; exact nm mu
  refine ⟨fun b u q n _ _ => k b u (hb b n) q, fun b u q n _ _ => ⟨u.slots, k b u (hb b n) q⟩, fun b u q n _ => by rw [upd_ne (hx b n)]; exact n, fun b u q _ => ?_,
    fun b xs q => by rw [upd_ne (hm b _ q fun z => z)]; exact q, fun b u xs q => by rw [upd_ne (hm b _ q fun z => z)]; exact q, fun b ps q => ⟨#[], by rw [upd_ne (hm b _ q fun z => z), q]; simp⟩⟩
  by_cases hbe : b = e
  · subst hbe; exact heo
  · exact ⟨u, k b u hbe q⟩
end
def trk (h : Heap) (H : Hp) : List Addr := (List.range h.objs.size).filter fun a => (H a).isSome
def hidT (h : Heap) (H : Hp) : Heap := PySem.W.hideAll h (trk h H)
theorem hidT_size (h : Heap) (H : Hp) : (hidT h H).objs.size = h.objs.size := PySem.W.hideAll_size _ _
theorem hidT_get {h : Heap} {H : Hp} {b : Addr} {o : Obj} (e : h.get? b = some o) (n : H b = none) : (hidT h H).get? b = some o :=
  PySem.W.hideAll_get _ e fun hm => by
    have q : (H b).isSome = true := (List.mem_filter.mp hm).2
    rw [n] at q; simp at q
theorem of_hidT {h : Heap} {H : Hp} {b : Addr} {o : Obj} (e : (hidT h H).get? b = some o) : h.get? b = some o ∧ H b = none := by
  have e' : h.get? b = some o := PySem.W.of_hideAll (trk h H) e
  refine ⟨e', ?_⟩
  cases q : H b with
  | none => rfl
  | some x =>
    have hm : b ∈ trk h H := List.mem_filter.mpr ⟨List.mem_range.mpr (Heap.lt_size e'), by simp [q]⟩
    have z : (hidT h H).get? b = none := PySem.W.hideAll_none (trk h H) hm
    rw [z] at e; cases e
end L2
namespace L2
open PySem PySem.Spec PyProof.Rows
structure Mod (K : PySem.W.Frag) (mg : Str → Option Value) (base : Heap) : Prop where
  kin : K.In base
  glob : base.Ns mainGlobals mg
  blt : ∃ mb, base.Ns builtinsNs mb ∧ ∀ x : Str, x ≠ "__name__" → mb x = bootBuiltins x
  nolimit : base.NoLimit
structure Cx where
  prog : Program
  w : World
  K : PySem.W.Frag
  mg : Str → Option Value
  base : Heap
  A : Around
  N : List Str
  s₀ : Shared
  H₀ : Hp
  env : Env
  outer : List Env
  stack : List Env
  ex : List Addr
  fn : Str → Bool
  calm : Bool
  pn : List (Addr × Obj)
  xe : Value → Shared → Prop
def frs (l : List Env) : List Addr := l.filterMap (·.frame)
abbrev Cx.fs (X : Cx) : List Addr := frs X.outer
def Vis (sc : Scope) (x : Str) : Prop := sc.names.lookup x = some .local ∨ sc.names.lookup x = some .cell ∨ sc.names.lookup x = some .free
def Loc (sc : Scope) (x : Str) : Prop := sc.names.lookup x = some .local ∨ sc.names.lookup x = some .cell
def Look (env : Env) (h : Heap) (m : Str → Option Value) (x : Str) (u : Value) : Prop :=
  (env.kindOf x = some .local ∧ m x = some u) ∨ ((env.kindOf x = some .cell ∨ env.kindOf x = some .free) ∧ ∃ c, env.cells.lookup x = some c ∧ h.IsCell c (some u))
structure Cx.Ok (X : Cx) : Prop where
  mod : Mod X.K X.mg X.base
  kind : X.env.scope.kind = .function
  glob : X.env.globals = mainGlobals
  blt : X.env.builtins = builtinsNs
  above : X.s₀.heap.objs.size ≤ X.env.locals
  inj : ∀ x y c, X.env.cells.lookup x = some c → X.env.cells.lookup y = some c → x = y
  has : ∀ x, (X.env.kindOf x = some .cell ∨ X.env.kindOf x = some .free) → ∃ c, X.env.cells.lookup x = some c
  cab : ∀ x c, X.fn x = true → X.env.cells.lookup x = some c → X.s₀.heap.objs.size ≤ c
  hd : X.calm = true → X.A.handled = none
  frames : X.A.frames = some X.stack
  stk : X.stack = X.outer ∨ (X.stack = X.env :: X.outer ∧ X.env.frame = some X.env.locals)
  exf : ∀ b ∈ X.ex, b ≠ X.env.locals ∧ ∀ x c, X.env.cells.lookup x = some c → c ≠ b
  bs : ∀ b o, X.base.get? b = some o → X.s₀.heap.get? b = some o ∧ X.H₀ b = none
  bsz : X.base.objs.size ≤ X.s₀.heap.objs.size
  noex : ∀ b o, X.base.get? b = some o → b ∉ X.ex
  exfs : ∀ b ∈ X.ex, b ∉ X.fs
  funs : X.s₀.heap.FunFrames X.base X.outer
  frf : ∀ b ∈ X.fs, X.H₀ b = none
structure Inv (X : Cx) (pins : List (Addr × Obj)) (σ : List (Option V)) (H : Hp) (s : Shared) : Prop where
  ok : X.Ok
  os : s.os = X.s₀.os
  bare : AllBare s.gens
  base : Un X.fs X.ex X.H₀ H X.s₀.heap s.heap
  loc : ∃ m, s.heap.Ns X.env.locals m ∧ ∀ (i : Nat) (x : Str) (v : V), X.N[i]? = some x → σ[i]? = some (some v) → Vis X.env.scope x → ∃ u, RelV v u ∧ Look X.env s.heap m x u
  cell : ∀ x c, X.env.cells.lookup x = some c → ∃ v, s.heap.IsCell c v
  free : H X.env.locals = none
  freeC : ∀ x c, X.env.cells.lookup x = some c → H c = none
  pin : ∀ p ∈ X.pn ++ pins, s.heap.get? p.1 = some p.2 ∧ H p.1 = none ∧ p.1 ≠ X.env.locals ∧ p.1 ∉ X.fs ∧ ∀ v, p.2.data ≠ .cell v
  hok : HOk X.prog X.w H s.heap
  len : σ.length = X.N.length
section
variable {X : Cx} {pins : List (Addr × Obj)} {σ : List (Option V)} {H H' : Hp} {s : Shared} {h' : Heap}
theorem Cx.Ok.nofr (ok : X.Ok) {b : Addr} {o : Obj} (e : X.base.get? b = some o) : b ∉ X.fs := fun hb => by
  have := (ok.funs.mem hb).1
  rw [e] at this; cases this
theorem Inv.bs (I : Inv X pins σ H s) : ∀ b o, X.base.get? b = some o → s.heap.get? b = some o ∧ H b = none := fun b o e =>
  ⟨I.base.keep b o (I.ok.bs b o e).1 (I.ok.bs b o e).2 (I.ok.nofr e) (I.ok.noex b o e), I.base.free b o (I.ok.bs b o e).1 (I.ok.bs b o e).2 (I.ok.noex b o e)⟩
theorem Inv.bk (I : Inv X pins σ H s) : ∀ b o, X.base.get? b = some o → s.heap.get? b = some o := fun b o e => (I.bs b o e).1
theorem Inv.mod (I : Inv X pins σ H s) : Mod X.K X.mg X.base := I.ok.mod
theorem Inv.kIn (I : Inv X pins σ H s) : X.K.In s.heap := I.ok.mod.kin.keeps I.bk
theorem Inv.lt (I : Inv X pins σ H s) : X.env.locals < s.heap.objs.size := let ⟨_, hn, _⟩ := I.loc; hn.lt
theorem Inv.sz (I : Inv X pins σ H s) : X.s₀.heap.objs.size ≤ s.heap.objs.size := Nat.le_trans I.ok.above (Nat.le_of_lt I.lt)
theorem Inv.nofs (I : Inv X pins σ H s) {a : Addr} (h : s.heap.objs.size ≤ a) : a ∉ X.fs := fun hb => by
  obtain ⟨_, o, ho, _⟩ := I.ok.funs.mem hb
  exact absurd (Nat.lt_of_lt_of_le (Heap.lt_size ho) (Nat.le_trans I.sz h)) (Nat.lt_irrefl _)
theorem Inv.cne (I : Inv X pins σ H s) : ∀ x c, X.env.cells.lookup x = some c → c ≠ X.env.locals := fun x c e z => by
  obtain ⟨v, o, ho, hd⟩ := I.cell x c e
  obtain ⟨m, ⟨o', es, ep, ho', hd', _⟩, _⟩ := I.loc
  rw [z, ho'] at ho; cases ho; rw [hd'] at hd; cases hd
theorem Inv.funs (I : Inv X pins σ H s) : s.heap.FunFrames X.base X.outer := by
  have all : ∀ (l : List Env), (∀ b ∈ frs l, b ∈ X.fs) → X.s₀.heap.FunFrames X.base l → s.heap.FunFrames X.base l := by
    intro l
    induction l with
    | nil => intro _ _; trivial
    | cons env r ih =>
      intro hs hl
      obtain ⟨hk, ⟨L, o, hf, hn, ho, hd⟩, hr⟩ := hl
      have hL : L ∈ X.fs := hs L (by unfold frs; rw [List.filterMap_cons, hf]; exact List.mem_cons_self)
      obtain ⟨sl, e⟩ := I.base.slot L o ho (I.ok.frf L hL) hL fun z => I.ok.exfs L z hL
      exact ⟨hk, ⟨L, _, hf, hn, e, hd⟩, ih (fun b hb => hs b (by unfold frs; rw [List.filterMap_cons, hf]; exact List.mem_cons_of_mem _ hb)) hr⟩
  exact all X.outer (fun _ hb => hb) I.ok.funs
theorem Inv.stack (I : Inv X pins σ H s) : s.heap.FunFrames X.base X.stack := by
  rcases I.ok.stk with e | ⟨e, hf⟩
  · rw [e]; exact I.funs
  · rw [e]
    obtain ⟨m, hn, _⟩ := I.loc
    refine .cons (by rw [I.ok.kind]; decide) hf hn ?_ I.funs
    exact Heap.get?_none_of_le (Nat.le_trans I.ok.bsz I.ok.above)
theorem Inv.stkSub (I : Inv X pins σ H s) : ∀ b ∈ frs X.stack, b ∈ X.env.locals :: X.fs := fun b hb => by
  rcases I.ok.stk with e | ⟨e, hf⟩
  · rw [e] at hb; exact List.mem_cons_of_mem _ hb
  · rw [e] at hb
    unfold frs at hb
    rw [List.filterMap_cons, hf] at hb
    exact hb
theorem Inv.stkFree (I : Inv X pins σ H s) : ∀ b ∈ frs X.stack, H b = none := fun b hb => by
  rcases List.mem_cons.mp (I.stkSub b hb) with e | hb
  · rw [e]; exact I.free
  · obtain ⟨_, o, ho, _⟩ := I.ok.funs.mem hb
    exact I.base.free b o ho (I.ok.frf b hb) fun z => I.ok.exfs b z hb
theorem Inv.step {g' : Array GenState} {t' : Nat} {d' : Drawn} {ch : List Addr} (I : Inv X pins σ H s)
    (hch : ∀ b ∈ ch, (b ∈ X.ex ∨ X.s₀.heap.objs.size ≤ b) ∧ b ≠ X.env.locals ∧ (∀ x c, X.env.cells.lookup x = some c → c ≠ b) ∧ ∀ p ∈ X.pn ++ pins, p.1 ≠ b)
    (keep : ∀ b o, b ≠ X.env.locals → b ∉ X.fs → b ∉ ch → s.heap.get? b = some o → H b = none → h'.get? b = some o)
    (slot : ∀ b o, b ≠ X.env.locals → b ∈ X.fs → b ∉ ch → s.heap.get? b = some o → H b = none → ∃ sl, h'.get? b = some { o with slots := sl }) (free : ∀ b o, b ∉ ch → s.heap.get? b = some o → H b = none → H' b = none)
    (there : ∀ b o, b ∉ ch → s.heap.get? b = some o → ∃ o', h'.get? b = some o')
    (tups : ∀ b xs, H b = some (.tup xs) → H' b = some (.tup xs)) (frzs : ∀ b o u, H b = some (.frz o u) → H' b = some (.frz o u)) (tbls : ∀ b ps, H b = some (.tbl ps) → ∃ more, H' b = some (.tbl (ps ++ more)))
    (ns : ∀ m, s.heap.Ns X.env.locals m → h'.Ns X.env.locals m) (hok : HOk X.prog X.w H' h') (hg : AllBare g') :
    Inv X pins σ H' { s with heap := h', gens := g', drawn := d', toks := t' } := by
  have neL : ∀ b o, X.s₀.heap.get? b = some o → b ≠ X.env.locals := fun b o e => Nat.ne_of_lt (Nat.lt_of_lt_of_le (Heap.lt_size e) I.ok.above)
  have neC : ∀ b o, X.s₀.heap.get? b = some o → b ∉ X.ex → b ∉ ch := fun b o e hx hb => by
    rcases (hch b hb).1 with z | z
    · exact hx z
    · exact absurd (Nat.lt_of_lt_of_le (Heap.lt_size e) z) (Nat.lt_irrefl _)
  have cellK : ∀ x c, X.env.cells.lookup x = some c → ∀ v, s.heap.IsCell c v → h'.IsCell c v := fun x c e v ⟨o, ho, hd⟩ => by
    have nch : c ∉ ch := fun z => (hch c z).2.2.1 x c e rfl
    by_cases hc : c ∈ X.fs
    · obtain ⟨sl, q⟩ := slot c o (I.cne x c e) hc nch ho (I.freeC x c e)
      exact ⟨_, q, hd⟩
    · exact ⟨o, keep c o (I.cne x c e) hc nch ho (I.freeC x c e), hd⟩
  refine ⟨I.ok, I.os, hg, ⟨fun b o e n hb hx => ?_, fun b o e n hb hx => ?_, fun b o e n hx => ?_, fun b o e hx => ?_, fun b xs e => tups b xs (I.base.tups b xs e), fun b o xs e => frzs b o xs (I.base.frzs b o xs e), fun b ps e => ?_⟩, ?_, fun x c e => ?_, ?_, fun x c e => ?_, fun p hp => ?_, hok, I.len⟩
  · exact keep b o (neL b o e) hb (neC b o e hx) (I.base.keep b o e n hb hx) (I.base.free b o e n hx)
  · obtain ⟨sl, e1⟩ := I.base.slot b o e n hb hx
    obtain ⟨sl', e2⟩ := slot b _ (neL b o e) hb (neC b o e hx) e1 (I.base.free b o e n hx)
    exact ⟨sl', e2⟩
  · obtain ⟨o', e1⟩ := I.base.there b o e hx
    exact free b o' (neC b o e hx) e1 (I.base.free b o e n hx)
  · obtain ⟨o', e1⟩ := I.base.there b o e hx
    exact there b o' (neC b o e hx) e1
  · obtain ⟨m1, e1⟩ := I.base.tbls b ps e
    obtain ⟨m2, e2⟩ := tbls b _ e1
    exact ⟨m1 ++ m2, by rw [e2, Array.append_assoc]⟩
  · obtain ⟨m, hn, hl⟩ := I.loc
    refine ⟨m, ns m hn, fun i x v e1 e2 e3 => ?_⟩
    obtain ⟨u, r, l⟩ := hl i x v e1 e2 e3
    refine ⟨u, r, ?_⟩
    rcases l with l | ⟨k, c, e, z⟩
    · exact .inl l
    · exact .inr ⟨k, c, e, cellK x c e _ z⟩
  · obtain ⟨v, z⟩ := I.cell x c e
    exact ⟨v, cellK x c e v z⟩
  · obtain ⟨m, ⟨o, _, _, ho, _⟩, _⟩ := I.loc
    exact free _ o (fun z => (hch _ z).2.1 rfl) ho I.free
  · obtain ⟨v, o, ho, hd⟩ := I.cell x c e
    exact free c o (fun z => (hch c z).2.2.1 x c e rfl) ho (I.freeC x c e)
  · obtain ⟨e, n, ne, nf, d⟩ := I.pin p hp
    have nch : p.1 ∉ ch := fun z => (hch p.1 z).2.2.2 p hp rfl
    exact ⟨keep p.1 p.2 ne nf nch e n, free p.1 p.2 nch e n, ne, nf, d⟩
theorem Inv.un {t' : Nat} (I : Inv X pins σ H s) (u : Un X.fs [] H H' s.heap h') (hok : HOk X.prog X.w H' h') : Inv X pins σ H' { s with heap := h', toks := t' } := by
  obtain ⟨m, ⟨o, es, ep, ho, r⟩, _⟩ := id I.loc
  obtain ⟨sl, hL⟩ := u.any ho I.free (by simp)
  exact I.step (g' := s.gens) (d' := s.drawn) (ch := []) (fun _ z => nomatch z) (fun b o _ hb _ e n => u.keep b o e n hb (by simp)) (fun b o _ hb _ e n => u.slot b o e n hb (by simp)) (fun b o _ e n => u.free b o e n (by simp)) (fun b o _ e => u.there b o e (by simp)) u.tups u.frzs u.tbls (fun m' hm => by
    obtain ⟨o', es', ep', ho', r'⟩ := hm
    rw [ho] at ho'; cases ho'
    exact ⟨_, es', ep', hL, r'⟩) hok I.bare
theorem Inv.call {g' : Array GenState} {t' : Nat} {d' : Drawn} {ch : List Addr} (I : Inv X pins σ H s) (u : Un (frs X.stack) ch H H' s.heap h') (hok : HOk X.prog X.w H' h') (hg : AllBare g')
    (hch : ∀ b ∈ ch, (b ∈ X.ex ∨ X.s₀.heap.objs.size ≤ b) ∧ b ≠ X.env.locals ∧ (∀ x c, X.env.cells.lookup x = some c → c ≠ b) ∧ ∀ p ∈ X.pn ++ pins, p.1 ≠ b) :
    Inv X pins σ H' { s with heap := h', gens := g', drawn := d', toks := t' } := by
  obtain ⟨m, ⟨o, es, ep, ho, r⟩, _⟩ := id I.loc
  obtain ⟨sl, hL⟩ := u.any ho I.free fun z => (hch _ z).2.1 rfl
  exact I.step (ch := ch) hch (fun b o hL hb hc e n => u.keep b o e n (fun z => (List.mem_cons.mp (I.stkSub b z)).elim hL hb) hc) (fun b o _ _ hc e n => u.any e n hc) (fun b o hc e n => u.free b o e n hc) (fun b o hc e => u.there b o e hc) u.tups u.frzs u.tbls (fun m' hm => by
    obtain ⟨o', es', ep', ho', r'⟩ := hm
    rw [ho] at ho'; cases ho'
    exact ⟨_, es', ep', hL, r'⟩) hok hg
theorem Inv.turned {t' : Nat} {it : Addr} (I : Inv X pins σ H s) (k : ∀ b o, b ≠ it → s.heap.get? b = some o → h'.get? b = some o) (hn : H it = none) (hL : it ≠ X.env.locals)
    (h1 : it ∈ X.ex ∨ X.s₀.heap.objs.size ≤ it) (h2 : ∀ x c, X.env.cells.lookup x = some c → c ≠ it) (h3 : ∀ p ∈ X.pn ++ pins, p.1 ≠ it) : Inv X pins σ H { s with heap := h', toks := t' } := by
  have nit : ∀ b u, H b = some u → b ≠ it := fun b u e z => by rw [z, hn] at e; cases e
  refine I.step (g' := s.gens) (d' := s.drawn) (ch := [it]) (fun b hb => ?_) (fun b o _ _ hc e _ => k b o (fun z => hc (by simp [z])) e) (fun b o _ _ hc e _ => ⟨o.slots, k b o (fun z => hc (by simp [z])) e⟩) (fun _ _ _ _ n => n)
    (fun b o hc e => ⟨o, k b o (fun z => hc (by simp [z])) e⟩) (fun _ _ e => e) (fun _ _ _ e => e) (fun b ps e => ⟨#[], by rw [e]; simp⟩) (fun m hm => ?_) (fun b u e => ?_) I.bare
  · have e : b = it := by simpa using hb
    subst e
    exact ⟨h1, hL, h2, h3⟩
  · obtain ⟨o, es, ep, ho, r⟩ := hm
    exact ⟨o, es, ep, k _ o (Ne.symm hL) ho, r⟩
  · refine (I.hok b u e).stay (fun c v hc q => k c v ?_ q) (fun _ q => q) fun _ _ q => q
    rcases hc with z | z
    · rw [z]; exact nit b u e
    · exact nit c _ z
theorem Inv.tok (I : Inv X pins σ H s) (t : Nat) : Inv X pins σ H { s with toks := t } := I.un (h' := s.heap) (t' := t) Un.refl I.hok
theorem Inv.kept {t' : Nat} (I : Inv X pins σ H s) (k : ∀ b u, s.heap.get? b = some u → h'.get? b = some u) : Inv X pins σ H { s with heap := h', toks := t' } := I.un (Un.kept k) (I.hok.kept k)
theorem Inv.laid {a : Addr} {o : HO} {t' : Nat} (I : Inv X pins σ H s) (k : ∀ b u, s.heap.get? b = some u → h'.get? b = some u) (hp : s.heap.objs.size ≤ a) (new : ObjOk X.prog X.w (upd H a o) h' a o) :
    Inv X pins σ (upd H a o) { s with heap := h', toks := t' } := I.un (Un.laid k hp (I.hok.fresh hp)) (I.hok.laid k hp new)
theorem Inv.write {x e : Addr} {o : HO} {t' : Nat} (I : Inv X pins σ H s) (mu : Mut (H x)) (he : e = x ∨ H e = some (.own x)) (k : ∀ b u, b ≠ e → s.heap.get? b = some u → h'.get? b = some u) (heo : ∃ u, h'.get? e = some u)
    (new : ObjOk X.prog X.w (upd H x o) h' x o) : Inv X pins σ (upd H x o) { s with heap := h', toks := t' } := I.un (Un.write mu he k heo) (I.hok.write mu he k heo new)
theorem Inv.pins_of {pins' : List (Addr × Obj)} (I : Inv X pins σ H s) (h : ∀ p ∈ pins', s.heap.get? p.1 = some p.2 ∧ H p.1 = none ∧ p.1 ≠ X.env.locals ∧ p.1 ∉ X.fs ∧ ∀ v, p.2.data ≠ .cell v) : Inv X pins' σ H s :=
  ⟨I.ok, I.os, I.bare, I.base, I.loc, I.cell, I.free, I.freeC, fun p hp => (List.mem_append.mp hp).elim (fun z => I.pin p (List.mem_append_left _ z)) (h p), I.hok, I.len⟩
theorem nodup_ix {N : List Str} (hN : N.Nodup) {i j : Nat} {x : Str} (a : N[i]? = some x) (b : N[j]? = some x) : i = j := by
  obtain ⟨h1, e1⟩ := List.getElem?_eq_some_iff.mp a
  obtain ⟨h2, e2⟩ := List.getElem?_eq_some_iff.mp b
  exact (List.getElem_inj hN).mp (e1.trans e2.symm)
theorem store_ok2 {M : Model} {A : Around} {E : Value → Shared → Prop} {i : Nat} {x : Str} {v : V} {u : Value} {Q : Unit → Shared → Prop} (I : Inv X pins σ H s) (hN : X.N.Nodup) (hi : X.N[i]? = some x) (hx : Loc X.env.scope x) (r : RelV v u)
    (h : ∀ s', Inv X pins (σ.set i (some v)) H s' → (∃ a, Heap.SameBut a s.heap s'.heap ∧ (a = X.env.locals ∨ X.env.cells.lookup x = some a)) → Q () s') (hf : X.fn x = true ∨ X.env.scope.names.lookup x = some .local := by first | exact .inl rfl | exact .inr rfl | assumption) : wpAny M A (storeName X.env x u) Q E s := by
  obtain ⟨m, hn, hl⟩ := id I.loc
  have hcls : (X.env.scope.kind == .class || (X.env.scope.kind == .module && X.env.locals != X.env.globals)) = false := by rw [I.ok.kind]; rfl
  have hiσ : i < σ.length := by rw [I.len]; exact (List.getElem?_eq_some_iff.mp hi).1
  have cne := I.cne
  have tracked : ∀ {a : Addr} {h' : Heap}, (∃ o, s.heap.get? a = some o ∧ H a = none) → Heap.SameBut a s.heap h' → HOk X.prog X.w H h' := fun {a h'} ha hs b ob e => by
    obtain ⟨_, _, hfree⟩ := ha
    refine (I.hok b ob e).stay (fun c w' hc q => (hs.2 c ?_).trans q) (fun _ q => q) fun _ _ q => q
    rintro rfl
    rcases hc with rfl | hc
    · rw [hfree] at e; cases e
    · rw [hfree] at hc; cases hc
  rcases hx with hk | hk
  · refine wpAny_storeName_local hk hn (fun h' hn' hs => ?_) hcls
    obtain ⟨oL, _, _, hoL, _⟩ := id hn
    refine h _ ⟨I.ok, I.os, I.bare, ⟨fun b o e n hb hx => ?_, fun b o e n hb hx => ?_, I.base.free, fun b o e hx => ?_, I.base.tups, I.base.frzs, I.base.tbls⟩, ⟨_, hn', fun j y v' e1 e2 e3 => ?_⟩, fun y c e => ?_, I.free, I.freeC, fun p hp => ?_, tracked ⟨oL, hoL, I.free⟩ hs, by simpa using I.len⟩ ⟨_, hs, .inl rfl⟩
    · exact (hs.2 b (Nat.ne_of_lt (Nat.lt_of_lt_of_le (Heap.lt_size e) I.ok.above))).trans (I.base.keep b o e n hb hx)
    · obtain ⟨sl, e1⟩ := I.base.slot b o e n hb hx
      exact ⟨sl, (hs.2 b (Nat.ne_of_lt (Nat.lt_of_lt_of_le (Heap.lt_size e) I.ok.above))).trans e1⟩
    · obtain ⟨o', e1⟩ := I.base.there b o e hx
      exact ⟨o', (hs.2 b (Nat.ne_of_lt (Nat.lt_of_lt_of_le (Heap.lt_size e) I.ok.above))).trans e1⟩
    · by_cases hj : j = i
      · subst hj
        rw [hi] at e1; cases e1
        rw [List.getElem?_set_self hiσ] at e2
        cases e2
        exact ⟨u, r, .inl ⟨hk, by simp⟩⟩
      · rw [List.getElem?_set_ne (Ne.symm hj)] at e2
        obtain ⟨u', r', q⟩ := hl j y v' e1 e2 e3
        refine ⟨u', r', ?_⟩
        rcases q with ⟨k, e⟩ | ⟨k, c, e, z⟩
        · refine .inl ⟨k, ?_⟩
          have : y ≠ x := fun e => hj (nodup_ix hN e1 (e ▸ hi))
          simp [this, e]
        · exact .inr ⟨k, c, e, z.sameBut hs (cne y c e)⟩
    · obtain ⟨w', z⟩ := I.cell y c e
      exact ⟨w', z.sameBut hs (cne y c e)⟩
    · obtain ⟨e, n, ne, nf, d⟩ := I.pin p hp
      exact ⟨(hs.2 p.1 ne).trans e, n, ne, nf, d⟩
  · have hfn : X.fn x = true := by
      rcases hf with z | z
      · exact z
      · rw [z] at hk; cases hk
    obtain ⟨c, hc⟩ := I.ok.has x (.inl hk)
    obtain ⟨w', z⟩ := I.cell x c hc
    refine wpAny_storeName_cell I.ok.kind hk hc z (fun h' hc' hs => ?_)
    obtain ⟨oc, hoc, hocd⟩ := id z
    refine h { s with heap := h' } ⟨I.ok, I.os, I.bare, ⟨fun b o e n hb hx => ?_, fun b o e n hb hx => ?_, I.base.free, fun b o e hx => ?_, I.base.tups, I.base.frzs, I.base.tbls⟩, ⟨m, hn.sameBut hs (Ne.symm (cne x c hc)), fun j y v' e1 e2 e3 => ?_⟩, fun y c' e => ?_, I.free, I.freeC, fun p hp => ?_, tracked ⟨oc, hoc, I.freeC x c hc⟩ hs, by simpa using I.len⟩ ⟨c, hs, .inr hc⟩
    · exact (hs.2 b (Nat.ne_of_lt (Nat.lt_of_lt_of_le (Heap.lt_size e) (I.ok.cab x c hfn hc)))).trans (I.base.keep b o e n hb hx)
    · obtain ⟨sl, e1⟩ := I.base.slot b o e n hb hx
      exact ⟨sl, (hs.2 b (Nat.ne_of_lt (Nat.lt_of_lt_of_le (Heap.lt_size e) (I.ok.cab x c hfn hc)))).trans e1⟩
    · obtain ⟨o', e1⟩ := I.base.there b o e hx
      exact ⟨o', (hs.2 b (Nat.ne_of_lt (Nat.lt_of_lt_of_le (Heap.lt_size e) (I.ok.cab x c hfn hc)))).trans e1⟩
    · by_cases hj : j = i
      · subst hj
        rw [hi] at e1; cases e1
        rw [List.getElem?_set_self hiσ] at e2
        cases e2
        exact ⟨u, r, .inr ⟨.inl hk, c, hc, hc'⟩⟩
      · rw [List.getElem?_set_ne (Ne.symm hj)] at e2
        obtain ⟨u', r', q⟩ := hl j y v' e1 e2 e3
        refine ⟨u', r', ?_⟩
        rcases q with q | ⟨k, c', e, z'⟩
        · exact .inl q
        · refine .inr ⟨k, c', e, z'.sameBut hs ?_⟩
          rintro rfl
          exact hj (nodup_ix hN e1 (I.ok.inj _ _ _ e hc ▸ hi))
    · by_cases hcc : c' = c
      · subst hcc; exact ⟨_, hc'⟩
      · obtain ⟨w2, z2⟩ := I.cell y c' e
        exact ⟨w2, z2.sameBut hs hcc⟩
    · obtain ⟨e, n, ne, nf, d⟩ := I.pin p hp
      refine ⟨(hs.2 p.1 ?_).trans e, n, ne, nf, d⟩
      intro q
      rw [q, hoc] at e
      have q' : oc = p.2 := Option.some.inj e
      exact d w' (by rw [← q']; exact hocd)
theorem store_ok {M : Model} {A : Around} {E : Value → Shared → Prop} {i : Nat} {x : Str} {v : V} {u : Value} {Q : Unit → Shared → Prop} (I : Inv X pins σ H s) (hN : X.N.Nodup) (hi : X.N[i]? = some x) (hx : Loc X.env.scope x) (r : RelV v u)
    (h : ∀ s', Inv X pins (σ.set i (some v)) H s' → Q () s') (hf : X.fn x = true ∨ X.env.scope.names.lookup x = some .local := by first | exact .inl rfl | exact .inr rfl | assumption) : wpAny M A (storeName X.env x u) Q E s :=
  store_ok2 I hN hi hx r (fun s' I' _ => h s' I') hf
theorem Inv.call' {s' : Shared} {ch : List Addr} (I : Inv X pins σ H s) (ho : s'.os = s.os) (u : Un (frs X.stack) ch H H' s.heap s'.heap) (hok : HOk X.prog X.w H' s'.heap) (hg : AllBare s'.gens)
    (hch : ∀ b ∈ ch, (b ∈ X.ex ∨ X.s₀.heap.objs.size ≤ b) ∧ b ≠ X.env.locals ∧ (∀ x c, X.env.cells.lookup x = some c → c ≠ b) ∧ ∀ p ∈ X.pn ++ pins, p.1 ≠ b) : Inv X pins σ H' s' := by
  obtain ⟨h', g', d', t', o'⟩ := s'
  have e : o' = s.os := ho
  subst e
  exact I.call (g' := g') (t' := t') (d' := d') u hok hg hch
end
abbrev XK := Value → Option Addr → Hp → Prop
abbrev St := List (Option V)
abbrev VK := V → Hp → Prop
abbrev TE := St → Hp → VK → Prop
abbrev TT := St → Hp → (Bool → Hp → Prop) → Prop
abbrev TA := St → Hp → (List V → Hp → Prop) → Prop
structure Ends where
  nx : St → Hp → Prop
  rt : VK
  bk : St → Hp → Prop := fun _ _ => False
  ct : St → Hp → Prop := fun _ _ => False
abbrev TS := Ends → St → Hp → Prop
def EP (X : Cx) (pins : List (Addr × Obj)) (σ : St) (Q : VK) (u : Value) (s' : Shared) : Prop := ∃ v H', Inv X pins σ H' s' ∧ RelV v u ∧ Q v H'
def TP (X : Cx) (pins : List (Addr × Obj)) (σ : St) (Q : Bool → Hp → Prop) (b : Bool) (s' : Shared) : Prop := ∃ H', Inv X pins σ H' s' ∧ Q b H'
def AP (X : Cx) (pins : List (Addr × Obj)) (σ : St) (Q : List V → Hp → Prop) (us : List Value) (s' : Shared) : Prop := ∃ vs H', Inv X pins σ H' s' ∧ Vals vs us ∧ Q vs H'
def SP (X : Cx) (pins : List (Addr × Obj)) (D : Ends) (f : Flow) (s' : Shared) : Prop :=
  match f with
  | .next => ∃ σ' H', Inv X pins σ' H' s' ∧ D.nx σ' H'
  | .brk => ∃ σ' H', Inv X pins σ' H' s' ∧ D.bk σ' H'
  | .cont => ∃ σ' H', Inv X pins σ' H' s' ∧ D.ct σ' H'
  | .ret u => ∃ v σ' H', Inv X pins σ' H' s' ∧ RelV v u ∧ D.rt v H'
def PE (X : Cx) (e : Expr) (t : TE) : Prop :=
  ∀ (pins : List (Addr × Obj)) (s : Shared) (σ : St) (H : Hp) (Q : VK), Inv X pins σ H s → t σ H Q → wpAny (model X.prog X.w) X.A (eval e X.env) (EP X pins σ Q) X.xe s
def PT (X : Cx) (e : Expr) (t : TT) : Prop :=
  ∀ (pins : List (Addr × Obj)) (s : Shared) (σ : St) (H : Hp) (Q : Bool → Hp → Prop), Inv X pins σ H s → t σ H Q → wpAny (model X.prog X.w) X.A (isTrue e X.env (eval e X.env)) (TP X pins σ Q) X.xe s
def PW (X : Cx) (e : Expr) (t : TT) : Prop :=
  ∀ (whole : Sem Value) (pins : List (Addr × Obj)) (s : Shared) (σ : St) (H : Hp) (Q : Bool → Hp → Prop), Inv X pins σ H s → t σ H Q → wpAny (model X.prog X.w) X.A (isTrue e X.env whole) (TP X pins σ Q) X.xe s
theorem PW.pt {X : Cx} {e : Expr} {t : TT} (h : PW X e t) : PT X e t := h _
def PA (X : Cx) (es : List Expr) (t : TA) : Prop :=
  ∀ (pos : Pos) (pins : List (Addr × Obj)) (s : Shared) (σ : St) (H : Hp) (Q : List V → Hp → Prop), Inv X pins σ H s → t σ H Q → wpAny (model X.prog X.w) X.A (spliced (backTo pos (starEach es X.env))) (AP X pins σ Q) X.xe s
def PS (X : Cx) (st : Stmt) (t : TS) : Prop :=
  ∀ (pins : List (Addr × Obj)) (s : Shared) (σ : St) (H : Hp) (D : Ends), Inv X pins σ H s → t D σ H → wpAny (model X.prog X.w) X.A (exec st X.env) (SP X pins D) X.xe s
def PSs (X : Cx) (st : List Stmt) (t : TS) : Prop :=
  ∀ (pins : List (Addr × Obj)) (s : Shared) (σ : St) (H : Hp) (D : Ends), Inv X pins σ H s → t D σ H → wpAny (model X.prog X.w) X.A (execs st X.env) (SP X pins D) X.xe s
theorem thn {α : Type} {t : Sem α} {Q Q' : α → Shared → Prop} {M : Model} {A : Around} {E : Value → Shared → Prop} {s : Shared} (h : wpAny M A t Q E s) (hQ : ∀ a s, Q a s → Q' a s) : wpAny M A t Q' E s := wpAny_mono h hQ fun _ _ x => x
end L2
namespace L2
open PySem PySem.Spec PyProof.Rows
section
variable {X : Cx}
theorem bin {a b : Expr} {ta tb : TE} (ha : PE X a ta) (hb : PE X b tb) {pins : List (Addr × Obj)} {s : Shared} {σ : St} {H : Hp} {R : V → V → Hp → Prop} (I : Inv X pins σ H s) (h : ta σ H fun x H1 => tb σ H1 fun y H2 => R x y H2)
    {α : Type} {Q : α → Shared → Prop} {f : Value → Value → Sem α}
    (hf : ∀ v u s2 x y H2, Inv X pins σ H2 s2 → RelV x v → RelV y u → R x y H2 → wpAny (model X.prog X.w) X.A (f v u) Q X.xe s2) :
    wpAny (model X.prog X.w) X.A (eval a X.env) (fun v s₁ => wpAny (model X.prog X.w) X.A (eval b X.env) (fun u s₂ => wpAny (model X.prog X.w) X.A (f v u) Q X.xe s₂) X.xe s₁) X.xe s := by
  refine thn (ha pins s σ H _ I h) fun v s1 ⟨x, H1, I1, r1, q1⟩ => ?_
  refine thn (hb pins s1 σ H1 _ I1 q1) fun u s2 ⟨y, H2, I2, r2, q2⟩ => ?_
  exact hf v u s2 x y H2 I2 r1 r2 q2
def tVar (i : Nat) : TE := fun σ H Q => ∃ v, σ[i]? = some (some v) ∧ Q v H
def tC (v : V) : TE := fun _ H Q => Q v H
theorem pe_var {i : Nat} {x : Str} {pos : Pos} (hN : X.N[i]? = some x) (hv : Vis X.env.scope x) (hd : (x == ("__debug__" : Str)) = false := by decide) (hcd : (x == ("__classdict__" : Str)) = false := by decide) : PE X (.Name x pos) (tVar i) := by
  intro pins s σ H Q I h
  obtain ⟨v, e, h⟩ := h
  obtain ⟨m, hn, hl⟩ := I.loc
  obtain ⟨u, r, l⟩ := hl i x v hN e hv
  have fin : EP X pins σ Q u s := ⟨v, H, I, r, h⟩
  rcases l with ⟨hk, hm⟩ | ⟨hk, c, hc, hcell⟩
  · exact wpAny_Name (wpAny_loadName_local I.ok.kind hk hn hm fin) hd
  · rcases hk with hk | hk
    · exact wpAny_Name (wpAny_loadName_cell I.ok.kind hk hc hcell fin) hd
    · exact wpAny_Name (wpAny_loadName_free I.ok.kind hk hc hcell fin hcd) hd
theorem pe_int {i j pos} : PE X (.Constant (.int i) j pos) (tC (.int i)) := fun _ _ _ H _ I h => wpAny_Constant_int ⟨.int i, H, I.tok _, ⟨_, rfl⟩, h⟩
theorem pe_bl {b j pos} : PE X (.Constant (.bool b) j pos) (tC (.bl b)) := fun _ _ _ H _ I h => Constant_bool ⟨.bl b, H, I, rfl, h⟩
theorem pe_non {j pos} : PE X (.Constant .none j pos) (tC .non) := fun _ _ _ H _ I h => Constant_none ⟨.non, H, I, rfl, h⟩
theorem pe_str {x j pos} : PE X (.Constant (.str x) j pos) (tC (.str x)) := fun _ _ _ H _ I h => Calls.Constant_str ⟨.str x, H, I.tok _, ⟨_, rfl⟩, h⟩
def Gl (X : Cx) (x : Str) : Prop := X.env.kindOf x = some .globalImplicit
theorem ld_glob {E : Value → Shared → Prop} {pins : List (Addr × Obj)} {s : Shared} {σ : St} {H : Hp} {x : Str} {u : Value} {pos : Pos} {Q : Value → Shared → Prop} (I : Inv X pins σ H s) (hg : Gl X x) (hm : X.mg x = some u) (h : Q u s)
    (hd : (x == ("__debug__" : Str)) = false := by decide) : wpAny (model X.prog X.w) X.A (eval (.Name x pos) X.env) Q E s :=
  Calls.Name_function_global I.ok.kind hg (Calls.loadGlobal_global (by rw [I.ok.glob]; exact I.mod.glob.keeps I.bk) hm h) hd
theorem ld_blt {E : Value → Shared → Prop} {pins : List (Addr × Obj)} {s : Shared} {σ : St} {H : Hp} {x : Str} {u : Value} {pos : Pos} {Q : Value → Shared → Prop} (I : Inv X pins σ H s) (hg : Gl X x) (hm : X.mg x = none) (hv : bootBuiltins x = some u) (h : Q u s)
    (hn : x ≠ "__name__" := by decide) (hd : (x == ("__debug__" : Str)) = false := by decide) : wpAny (model X.prog X.w) X.A (eval (.Name x pos) X.env) Q E s := by
  obtain ⟨mb, h1, h2⟩ := I.mod.blt
  exact Calls.Name_function_global I.ok.kind hg (Calls.loadGlobal_builtin (by rw [I.ok.glob]; exact I.mod.glob.keeps I.bk) hm (by rw [I.ok.blt]; exact h1.keeps I.bk) ((h2 x hn).trans hv) h) hd
theorem pe_glob {x : Str} {v : V} {u : Value} {pos : Pos} (hg : Gl X x) (hm : X.mg x = some u) (r : RelV v u) (hd : (x == ("__debug__" : Str)) = false := by decide) : PE X (.Name x pos) (tC v) :=
  fun _ _ _ H _ I h => ld_glob I hg hm ⟨v, H, I, r, h⟩ hd
theorem pe_bltn {x : Str} {v : V} {u : Value} {pos : Pos} (hg : Gl X x) (hm : X.mg x = none) (hv : bootBuiltins x = some u) (r : RelV v u) (hn : x ≠ "__name__" := by decide) (hd : (x == ("__debug__" : Str)) = false := by decide) : PE X (.Name x pos) (tC v) :=
  fun _ _ _ H _ I h => ld_blt I hg hm hv ⟨v, H, I, r, h⟩ hn hd
variable {a b : Expr} {ta tb : TE} {pos : Pos}
def PC (X : Cx) (op : CmpOp) (a b : Expr) (t : TE) : Prop :=
  ∀ (pins : List (Addr × Obj)) (s : Shared) (σ : St) (H : Hp) (Q : VK), Inv X pins σ H s → t σ H Q →
    wpAny (model X.prog X.w) X.A (eval a X.env) (fun v s₁ => wpAny (model X.prog X.w) X.A (eval b X.env) (fun u s₂ => wpAny (model X.prog X.w) X.A (compareOp op v u) (EP X pins σ Q) X.xe s₂) X.xe s₁) X.xe s
def tB (t : TE) : TT := fun σ H Q => t σ H fun x H1 => ∃ c, x = .bl c ∧ Q c H1
theorem pe_cmp {op : CmpOp} {t : TE} (h : PC X op a b t) (h1 : behindInMarks op b = false := by first | exact nobehind _ (by decide) (by decide) | rfl) : PE X (.Compare a [op] [b] pos) t := fun pins s σ H Q I hw => wpAny_Compare1 (h pins s σ H Q I hw) h1
theorem pt_cmp {op : CmpOp} {t : TE} (h : PC X op a b t) (h1 : behindInMarks op b = false := by first | exact nobehind _ (by decide) (by decide) | rfl) : PT X (.Compare a [op] [b] pos) (tB t) := by
  intro pins s σ H Q I hw
  refine wpAny_isTrue_Compare1 (thn (h pins s σ H _ I hw) fun v s1 h1 => thn h1 fun u s2 h2 => thn h2 fun c s3 ⟨x, H1, I1, r1, q1⟩ => ?_) h1
  obtain ⟨d, rfl, q⟩ := q1
  cases r1
  exact wpAny_truthy_bool ⟨H1, I1, q⟩
theorem pt_val {e : Expr} {t : TE} (h : PE X e t) (he : ∀ whole, isTrue e X.env whole = (do let v ← whole; standAt e.pos; holding [v] (truthy v)) := by intro _; rfl) : PT X e (tB t) := by
  intro pins s σ H Q I hw
  refine isTrue_plain (thn (h pins s σ H _ I hw) fun v s1 ⟨x, H1, I1, r1, q1⟩ => ?_) (he _)
  obtain ⟨d, rfl, q⟩ := q1
  cases r1
  exact wpAny_truthy_bool ⟨H1, I1, q⟩
variable {tA tB' : TT} {rest : List Expr}
def tAnd (t u : TT) : TT := fun σ H Q => t σ H fun c H1 => if c = true then u σ H1 Q else Q false H1
def tOr (t u : TT) : TT := fun σ H Q => t σ H fun c H1 => if c = true then Q true H1 else u σ H1 Q
def tNot (t : TT) : TT := fun σ H Q => t σ H fun c H1 => Q (!c) H1
theorem pw_and1 (ha : PT X a tA) : PW X (.BoolOp .And [a] pos) tA := by
  intro wh pins s σ H Q I h
  refine isTrue_and (thn (ha pins s σ H Q I h) fun c s1 e => ?_)
  cases c with
  | true => exact isTrue_and_nil e
  | false => exact e
theorem pw_or1 (ha : PT X a tA) : PW X (.BoolOp .Or [a] pos) tA := by
  intro wh pins s σ H Q I h
  refine isTrue_or (thn (ha pins s σ H Q I h) fun c s1 e => ?_)
  cases c with
  | false => exact isTrue_or_nil e
  | true => exact e
theorem pw_and (ha : PT X a tA) (hb : PW X (.BoolOp .And (b :: rest) pos) tB') : PW X (.BoolOp .And (a :: b :: rest) pos) (tAnd tA tB') := by
  intro wh pins s σ H Q I h
  refine isTrue_and (thn (ha pins s σ H _ I h) fun c s1 ⟨H1, I1, q1⟩ => ?_)
  cases c with
  | true => exact hb wh pins s1 σ H1 Q I1 q1
  | false => exact ⟨H1, I1, q1⟩
theorem pw_or (ha : PT X a tA) (hb : PW X (.BoolOp .Or (b :: rest) pos) tB') : PW X (.BoolOp .Or (a :: b :: rest) pos) (tOr tA tB') := by
  intro wh pins s σ H Q I h
  refine isTrue_or (thn (ha pins s σ H _ I h) fun c s1 ⟨H1, I1, q1⟩ => ?_)
  cases c with
  | true => exact ⟨H1, I1, q1⟩
  | false => exact hb wh pins s1 σ H1 Q I1 q1
theorem pt_not (ha : PT X a tA) : PT X (.UnaryOp .Not a pos) (tNot tA) := by
  intro pins s σ H Q I h
  exact isTrue_not (ha pins s σ H (fun c H1 => Q (!c) H1) I h)
def tAndV (ta tb : TE) : TE := fun σ H Q => ta σ H fun x H1 => ∃ c, x = .bl c ∧ if c = true then tb σ H1 Q else Q (.bl false) H1
def tOrV (ta tb : TE) : TE := fun σ H Q => ta σ H fun x H1 => ∃ c, x = .bl c ∧ if c = true then Q (.bl true) H1 else tb σ H1 Q
def tNotV (ta : TE) : TE := fun σ H Q => ta σ H fun x H1 => ∃ c, x = .bl c ∧ Q (.bl (!c)) H1
theorem pe_one {op} {t : TE} (h : PE X a t) : PE X (.BoolOp op [a] pos) t := fun pins s σ H Q I hw => BoolOp_one (h pins s σ H Q I hw)
theorem pe_and (ha : PE X a ta) (hb : PE X (.BoolOp .And (b :: rest) pos) tb) : PE X (.BoolOp .And (a :: b :: rest) pos) (tAndV ta tb) := by
  intro pins s σ H Q I h
  refine BoolOp_and (thn (ha pins s σ H _ I h) fun v s1 ⟨x, H1, I1, r1, q1⟩ => ?_)
  obtain ⟨c, rfl, q1⟩ := q1
  cases r1
  refine wpAny_truthy_bool ?_
  cases c with
  | true => exact hb pins s1 σ H1 Q I1 q1
  | false => exact ⟨.bl false, H1, I1, rfl, q1⟩
theorem pe_or (ha : PE X a ta) (hb : PE X (.BoolOp .Or (b :: rest) pos) tb) : PE X (.BoolOp .Or (a :: b :: rest) pos) (tOrV ta tb) := by
  intro pins s σ H Q I h
  refine BoolOp_or (thn (ha pins s σ H _ I h) fun v s1 ⟨x, H1, I1, r1, q1⟩ => ?_)
  obtain ⟨c, rfl, q1⟩ := q1
  cases r1
  refine wpAny_truthy_bool ?_
  cases c with
  | false => exact hb pins s1 σ H1 Q I1 q1
  | true => exact ⟨.bl true, H1, I1, rfl, q1⟩
theorem pe_not (ha : PE X a ta) : PE X (.UnaryOp .Not a pos) (tNotV ta) := by
  intro pins s σ H Q I h
  refine UnaryOp_ (thn (ha pins s σ H _ I h) fun v s1 ⟨x, H1, I1, r1, q1⟩ => ?_)
  obtain ⟨c, rfl, q1⟩ := q1
  cases r1
  exact not_of (wpAny_truthy_bool ⟨.bl (!c), H1, I1, rfl, q1⟩)
end
end L2
namespace L2
open PySem PySem.Spec PyProof.Rows
def SqL (K : PySem.W.Frag) (H : Hp) (a : Addr) (xs : List V) : Prop :=
  Rd H a (.lst xs) ∨
    ∃ (o : Obj) (its : Array Value) (n : Nat), K.lookup a = some o ∧ o.cls = .type "list" ∧ o.dict = none ∧ o.data = .seq its n ∧ its.size ≤ sizeLine ∧ Vals xs its.toList
def SqT (K : PySem.W.Frag) (H : Hp) (a : Addr) (xs : List V) : Prop :=
  Rd H a (.tup xs) ∨
    ∃ (o : Obj) (its : Array Value) (n : Nat), K.lookup a = some o ∧ o.cls = .type "tuple" ∧ o.data = .seq its n ∧ its.size ≤ sizeLine ∧ Vals xs its.toList
def absV : Value → Option V
  | .none => some .non
  | .bool b => some (.bl b)
  | .int i _ => some (.int i)
  | .str x _ => some (.str x)
  | .bytes b _ => some (.byt b)
  | .float b _ => some (.flt b)
  | .ref a => some (.ref a)
  | .type n => some (.ty n)
  | _ => none
theorem RelV.abs {x : V} {u : Value} (r : RelV x u) : absV u = some x := by
  cases x with
  | non => cases r; rfl
  | bl _ => cases r; rfl
  | int _ => obtain ⟨t, rfl⟩ := r; rfl
  | str _ => obtain ⟨t, rfl⟩ := r; rfl
  | byt _ => obtain ⟨t, rfl⟩ := r; rfl
  | flt _ => obtain ⟨t, rfl⟩ := r; rfl
  | ref _ => cases r; rfl
  | ty _ => cases r; rfl
theorem RelV.inj {x y : V} {u : Value} (r : RelV x u) (q : RelV y u) : x = y := Option.some.inj (r.abs.symm.trans q.abs)
theorem Vals.inj : ∀ {xs ys : List V} {us : List Value}, Vals xs us → Vals ys us → xs = ys
  | _, _, _, .nil, .nil => rfl
  | _, _, _, .cons r t, .cons r' t' => by rw [r.inj r', Vals.inj t t']
section
variable {X : Cx} {pins : List (Addr × Obj)} {σ : St} {H : Hp} {s : Shared} {a : Addr} {xs ys : List V}
theorem SqL.of {K : PySem.W.Frag} (h : H a = some (.lst xs)) : SqL K H a xs := .inl (.inl h)
theorem SqT.of {K : PySem.W.Frag} (h : H a = some (.tup xs)) : SqT K H a xs := .inl (.inl h)
theorem Inv.list (I : Inv X pins σ H s) (h : SqL X.K H a xs) : ∃ its : List Value, Vals xs its ∧ PlainL s.heap a its.toArray ∧ xs.length ≤ sizeLine := by
  rcases h with h | ⟨o, its, n, hk, hc, hd, hs, hz, r⟩
  · obtain ⟨z, its, n, r, e⟩ := h.ok I.hok
    exact ⟨its, r, ⟨_, n, e, rfl, rfl, rfl⟩, z⟩
  · refine ⟨its.toList, r, ⟨o, n, I.kIn a o hk, hc, hd, by simpa using hs⟩, ?_⟩
    have e := r.length
    simp only [Array.length_toList] at e
    omega
theorem Inv.tuple (I : Inv X pins σ H s) (h : SqT X.K H a xs) : ∃ its : List Value, Vals xs its ∧ IsTup s.heap a its.toArray ∧ xs.length ≤ sizeLine := by
  rcases h with h | ⟨o, its, n, hk, hc, hs, hz, r⟩
  · obtain ⟨z, its, r, p⟩ := h.ok I.hok
    exact ⟨its, r, p, z⟩
  · refine ⟨its.toList, r, ⟨o, I.kIn a o hk, hc, n, by simpa using hs⟩, ?_⟩
    have e := r.length
    simp only [Array.length_toList] at e
    omega
theorem Inv.list_inj (I : Inv X pins σ H s) (h : SqL X.K H a xs) (h' : SqL X.K H a ys) : xs = ys := by
  obtain ⟨its, r, ⟨o, n, e, _, _, d⟩, _⟩ := I.list h
  obtain ⟨its', r', ⟨o', n', e', _, _, d'⟩, _⟩ := I.list h'
  rw [e] at e'; cases e'
  rw [d] at d'
  injection d' with d1 _
  have : its = its' := by simpa using congrArg Array.toList d1
  subst this
  exact r.inj r'
end
abbrev Cx.wish (X : Cx) (E : Value → Shared → Prop) : Cx := { X with xe := E }
abbrev Cx.nox (X : Cx) : Cx := X.wish fun _ _ => False
theorem Cx.Ok.wish {X : Cx} (ok : X.Ok) (E : Value → Shared → Prop) : (X.wish E).Ok :=
  ⟨ok.mod, ok.kind, ok.glob, ok.blt, ok.above, ok.inj, ok.has, ok.cab, ok.hd, ok.frames, ok.stk, ok.exf, ok.bs, ok.bsz, ok.noex, ok.exfs, ok.funs, ok.frf⟩
theorem Cx.Ok.unwish {X : Cx} {E : Value → Shared → Prop} (ok : (X.wish E).Ok) : X.Ok :=
  ⟨ok.mod, ok.kind, ok.glob, ok.blt, ok.above, ok.inj, ok.has, ok.cab, ok.hd, ok.frames, ok.stk, ok.exf, ok.bs, ok.bsz, ok.noex, ok.exfs, ok.funs, ok.frf⟩
section
variable {X : Cx} {pins : List (Addr × Obj)} {σ : St} {H : Hp} {s : Shared} {E : Value → Shared → Prop}
theorem Inv.wish (I : Inv X pins σ H s) (E : Value → Shared → Prop) : Inv (X.wish E) pins σ H s := ⟨I.ok.wish E, I.os, I.bare, I.base, I.loc, I.cell, I.free, I.freeC, I.pin, I.hok, I.len⟩
theorem Inv.unwish (I : Inv (X.wish E) pins σ H s) : Inv X pins σ H s := ⟨I.ok.unwish, I.os, I.bare, I.base, I.loc, I.cell, I.free, I.freeC, I.pin, I.hok, I.len⟩
theorem SP.unwish {D : Ends} {f : Flow} {s' : Shared} (h : SP (X.wish E) pins D f s') : SP X pins D f s' := by
  cases f with
  | next => obtain ⟨σ', H', I, q⟩ := h; exact ⟨σ', H', I.unwish, q⟩
  | brk => obtain ⟨σ', H', I, q⟩ := h; exact ⟨σ', H', I.unwish, q⟩
  | cont => obtain ⟨σ', H', I, q⟩ := h; exact ⟨σ', H', I.unwish, q⟩
  | ret u => obtain ⟨v, σ', H', I, r, q⟩ := h; exact ⟨v, σ', H', I.unwish, r, q⟩
theorem PSs.nox {st : List Stmt} {t : TS} (h : PSs X.nox st t) : PSs X st t := fun pins s σ H D I hw =>
  wpAny_mono (h pins s σ H D (I.wish _) hw) (fun _ _ q => q.unwish) fun _ _ z => False.elim z
end
section
variable {X : Cx} {st : Stmt} {rest : List Stmt} {t u : TS} {e : Expr} {te : TE} {pos : Pos}
def tNext : TS := fun D σ H => D.nx σ H
def tSeq (t u : TS) : TS := fun D σ H => t { D with nx := u D } σ H
theorem pss_nil : PSs X [] tNext := fun _ _ σ H _ I h => wpAny_execs_nil ⟨σ, H, I, h⟩
theorem pss_cons (h1 : PS X st t) (h2 : PSs X rest u) : PSs X (st :: rest) (tSeq t u) := by
  intro pins s σ H D I h
  refine wpAny_execs_cons (thn (h1 pins s σ H { D with nx := u D } I h) fun f s1 q => ?_)
  cases f with
  | next =>
    obtain ⟨σ', H', I', q⟩ := q
    exact h2 pins s1 σ' H' D I' q
  | ret v => exact q
  | brk => exact q
  | cont => exact q
theorem pss_one (h1 : PS X st t) : PSs X [st] t := by
  intro pins s σ H D I h
  refine wpAny_execs_cons (thn (h1 pins s σ H D I h) fun f s1 q => ?_)
  cases f with
  | next => exact wpAny_execs_nil q
  | ret v => exact q
  | brk => exact q
  | cont => exact q
theorem Inv.quiet {pins : List (Addr × Obj)} {σ : St} {H : Hp} {s : Shared} (I : Inv X pins σ H s) : interactive X.env = false := by simp [interactive, I.ok.kind]
def tDrop (te : TE) : TS := fun D σ H => te σ H fun _ H1 => D.nx σ H1
theorem ps_expr (he : PE X e te) (hs : swapsWith e none pos.line X.env = pure false := by rfl) : PS X (.Expr e pos) (tDrop te) := by
  intro pins s σ H D I h
  exact wpAny_Expr_any (thn (he pins s σ H _ I h) fun v s1 ⟨x, H1, I1, r1, q1⟩ => ⟨σ, H1, I1, q1⟩) I.quiet hs
def tRet (te : TE) : TS := fun D σ H => te σ H D.rt
theorem ps_ret (he : PE X e te) : PS X (.Return (some e) pos) (tRet te) := by
  intro pins s σ H D I h
  exact wpAny_Return_some (thn (he pins s σ H _ I h) fun v s1 ⟨x, H1, I1, r1, q1⟩ => ⟨x, σ, H1, I1, r1, q1⟩)
def tIfS (c : TT) (t u : TS) : TS := fun D σ H => c σ H fun b H1 => if b = true then t D σ H1 else u D σ H1
theorem ps_if {c : Expr} {a b : List Stmt} {tc : TT} (hc : PT X c tc) (ha : PSs X a t) (hb : PSs X b u) : PS X (.If c a b pos) (tIfS tc t u) := by
  intro pins s σ H D I h
  refine wpAny_If (thn (hc pins s σ H _ I h) fun d s1 ⟨H1, I1, q1⟩ => ?_)
  cases d with
  | true => exact ha pins s1 σ H1 D I1 q1
  | false => exact hb pins s1 σ H1 D I1 q1
def tNever : TS := fun _ _ _ => False
theorem ps_never : PS X st tNever := fun _ _ _ _ _ _ h => h.elim
end
abbrev TG := V → St → Hp → (St → Hp → Prop) → Prop
abbrev TGs := List V → St → Hp → (St → Hp → Prop) → Prop
def PG (X : Cx) (target : Expr) (t : TG) : Prop :=
  ∀ (pins : List (Addr × Obj)) (s : Shared) (σ : St) (H : Hp) (v : V) (u : Value) (Q : St → Hp → Prop), Inv X pins σ H s → RelV v u → t v σ H Q →
    wpAny (model X.prog X.w) X.A (assign target X.env u) (fun _ s' => ∃ σ' H', Inv X pins σ' H' s' ∧ Q σ' H') X.xe s
def PGs (X : Cx) (ts : List Expr) (t : TGs) : Prop :=
  ∀ (pins : List (Addr × Obj)) (s : Shared) (σ : St) (H : Hp) (vs : List V) (us : List Value) (Q : St → Hp → Prop), Inv X pins σ H s → Vals vs us → t vs σ H Q →
    wpAny (model X.prog X.w) X.A (assignInOrder ((assignEach ts X.env).map (·.2)) us) (fun _ s' => ∃ σ' H', Inv X pins σ' H' s' ∧ Q σ' H') X.xe s
abbrev TSet := V → V → V → Hp → (Hp → Prop) → Prop
def PSet (X : Cx) (t : TSet) : Prop :=
  ∀ (pins : List (Addr × Obj)) (s : Shared) (σ : St) (H : Hp) (o i v : V) (ov iv u : Value) (Q : Hp → Prop), Inv X pins σ H s → RelV o ov → RelV i iv → RelV v u → t o i v H Q →
    wpAny (model X.prog X.w) X.A (setItem ov iv u) (fun _ s' => ∃ H', Inv X pins σ H' s' ∧ Q H') X.xe s
section
variable {X : Cx} {pos : Pos}
def gName (i : Nat) : TG := fun v σ H Q => Q (σ.set i (some v)) H
theorem pg_name {i : Nat} {x : Str} (hN : X.N.Nodup) (hi : X.N[i]? = some x) (hx : Loc X.env.scope x) (hf : X.fn x = true ∨ X.env.scope.names.lookup x = some .local := by first | exact .inl rfl | exact .inr rfl | assumption) : PG X (.Name x pos) (gName i) := by
  intro pins s σ H v u Q I r h
  exact wpAny_assign_Name (store_ok I hN hi hx r (fun s' I' => ⟨_, H, I', h⟩) hf)
def gNil : TGs := fun vs σ H Q => vs = [] ∧ Q σ H
def gCons (t : TG) (u : TGs) : TGs := fun vs σ H Q => ∃ v r, vs = v :: r ∧ t v σ H fun σ' H' => u r σ' H' Q
theorem pgs_nil : PGs X [] gNil := by
  intro pins s σ H vs us Q I r h
  obtain ⟨e, h⟩ := h
  subst e
  cases r
  exact assignInOrder_nil ⟨σ, H, I, h⟩
theorem pgs_cons {e : Expr} {es : List Expr} {t : TG} {u : TGs} (h1 : PG X e t) (h2 : PGs X es u)
    (hs : (assignEach (e :: es) X.env).map (·.2) = assign e X.env :: (assignEach es X.env).map (·.2) := by rfl) : PGs X (e :: es) (gCons t u) := by
  intro pins s σ H vs us Q I r h
  obtain ⟨v, vr, e1, h⟩ := h
  subst e1
  cases r with
  | cons r rr =>
    rw [hs]
    refine assignInOrder_cons (thn (h1 pins s σ H _ _ _ I r h) fun _ s1 ⟨σ1, H1, I1, q1⟩ => ?_)
    exact h2 pins s1 σ1 H1 _ _ Q I1 rr q1
def gTup (K : PySem.W.Frag) (n : Nat) (t : TGs) : TG := fun v σ H Q => ∃ a xs, v = .ref a ∧ SqT K H a xs ∧ xs.length = n ∧ t xs σ H Q
theorem pg_tup {es : List Expr} {k : Nat} {t : TGs} {n : Nat} (hc : X.calm = true) (h : PGs X es t)
    (hn : (assignEach es X.env).length = n := by rfl) (hst : (assignEach es X.env).findIdx? (·.1) = none := by rfl) : PG X (.Tuple es k pos) (gTup X.K n t) := by
  intro pins s σ H v u Q I r hw
  obtain ⟨a, xs, e1, hq, hl, hw⟩ := hw
  subst e1
  cases r
  obtain ⟨its, rv, ht, hz⟩ := I.tuple hq
  refine assign_Tuple_tuple (I.ok.hd hc) ht (by simp [hn, ← hl, rv.length]) hst fun h' hx => ?_
  have I1 : Inv X pins σ H { s with heap := h' } := I.kept (t' := s.toks) fun b o e => hx b o (Nat.ne_of_lt (Heap.lt_size e)) e
  exact h pins _ σ H xs _ Q I1 (by simpa using rv) hw
def gSub (to ti : TE) (t : TSet) : TG := fun v σ H Q => to σ H fun o H1 => ti σ H1 fun i H2 => t o i v H2 fun H3 => Q σ H3
theorem pg_sub {o i : Expr} {to ti : TE} {t : TSet} (ho : PE X o to) (hi : PE X i ti) (hs : PSet X t)
    (ha : ∀ v, assign (.Subscript o i pos) X.env v = (do
      let ov ← holding [v] (eval o X.env)
      let iv ← holding [v, ov] (eval i X.env)
      standAt pos
      holding [v, ov, iv] (setItem ov iv v)
      release [v, ov, iv] []) := by intro _; rfl) : PG X (.Subscript o i pos) (gSub to ti t) := by
  intro pins s σ H v u Q I r h
  rw [ha]
  refine wpAny_bind (wpAny_holding (thn (ho pins s σ H _ I h) fun ov s1 ⟨x, H1, I1, r1, q1⟩ => ?_))
  refine wpAny_bind (wpAny_holding (thn (hi pins s1 σ H1 _ I1 q1) fun iv s2 ⟨y, H2, I2, r2, q2⟩ => ?_))
  refine wpAny_bind (wpAny_standAt (wpAny_bind (wpAny_holding (thn (hs pins s2 σ H2 x y v ov iv u _ I2 r1 r2 r q2) fun _ s3 ⟨H3, I3, q3⟩ => ?_))))
  exact wpAny_release ⟨σ, H3, I3, q3⟩
def tAsg (te : TE) (g : TG) : TS := fun D σ H => te σ H fun x H1 => g x σ H1 D.nx
theorem ps_asg {tg e : Expr} {te : TE} {g : TG} (he : PE X e te) (hg : PG X tg g) (hs : swapsWithSole [tg] e pos.line X.env = pure false := by rfl) (hw : swappedStores [tg] e X.env = pure none := by rfl)
    (h1 : (assignEach [tg] X.env).map (·.2) = [assign tg X.env] := by rfl) : PS X (.Assign [tg] e pos) (tAsg te g) := by
  intro pins s σ H D I h
  refine wpAny_Assign_stores (thn (he pins s σ H _ I h) fun v s1 ⟨x, H1, I1, r1, q1⟩ => ?_) hs hw
  rw [h1]
  exact thn (hg pins s1 σ H1 x v _ I1 r1 q1) fun _ s2 q => q
theorem ps_set {i : Nat} {x : Str} {e : Expr} {te : TE} {pos' : Pos} (hN : X.N.Nodup) (hi : X.N[i]? = some x) (hx : Loc X.env.scope x) (he : PE X e te) (hs : swapsWith e (some (.Name x pos')) pos.line X.env = pure false := by rfl) (hf : X.fn x = true ∨ X.env.scope.names.lookup x = some .local := by first | exact .inl rfl | exact .inr rfl | assumption) :
    PS X (.Assign [.Name x pos'] e pos) (tAsg te (gName i)) := by
  intro pins s σ H D I h
  refine wpAny_Assign_Name (thn (he pins s σ H _ I h) fun v s1 ⟨y, H1, I1, r1, q1⟩ => ?_) hs
  exact store_ok I1 hN hi hx r1 (fun s2 I2 => ⟨_, H1, I2, q1⟩) hf
end
section
variable {X : Cx} {pos : Pos}
end
structure It where
  go : Nat → Hp → Prop
  yld : Nat → Hp → V → Hp → Prop
  stop : Nat → Hp → Prop
def FpOk (X : Cx) (pins : List (Addr × Obj)) (H : Hp) (b : Addr) : Prop :=
  H b = none ∧ b ≠ X.env.locals ∧ b ∉ X.fs ∧ (b ∈ X.ex ∨ X.s₀.heap.objs.size ≤ b) ∧ (∀ x c, X.env.cells.lookup x = some c → c ≠ b) ∧ ∀ p ∈ X.pn ++ pins, p.1 ≠ b
theorem Inv.fpOk {X : Cx} {pins : List (Addr × Obj)} {σ : St} {H H' : Hp} {s : Shared} {b : Addr} (I : Inv X pins σ H s) (hb : s.heap.objs.size ≤ b) (hn : H' b = none) : FpOk X pins H' b := by
  refine ⟨hn, Nat.ne_of_gt (Nat.lt_of_lt_of_le I.lt hb), I.nofs hb, .inr (Nat.le_trans I.sz hb), fun x c e z => ?_, fun p hp z => ?_⟩
  · obtain ⟨v, q⟩ := I.cell x c e
    exact absurd (Nat.lt_of_lt_of_le q.lt (by rw [z]; exact hb)) (Nat.lt_irrefl _)
  · exact absurd (Nat.lt_of_lt_of_le (Heap.lt_size (I.pin p hp).1) (by rw [z]; exact hb)) (Nat.lt_irrefl _)
structure Turn (P : Program) (w : World) (K : PySem.W.Frag) (tg : Expr) (J : It) (fp : List Addr) (it : Addr) (tn : Nat → Heap → Prop) : Prop where
  mem : it ∈ fp
  obj : ∀ i h, tn i h → ∀ b ∈ fp, ∃ o, h.get? b = some o ∧ ∀ v, o.data ≠ .cell v
  keep : ∀ i h h', tn i h → (∀ b ∈ fp, ∀ o, h.get? b = some o → h'.get? b = some o) → tn i h'
  item : ∀ (X : Cx), X.prog = P → X.w = w → X.K = K → X.calm = true → ∀ (i : Nat) (pins : List (Addr × Obj)) (s : Shared) (σ : St) (H : Hp) (E : Value → Shared → Prop), Inv X pins σ H s → (∀ b ∈ fp, FpOk X pins H b) → tn i s.heap → J.go i H →
    wpAny (model P w) X.A (pyNext (.ref it)) (fun r s1 => ∃ u, r = some u ∧
      wpAny (model P w) X.A (letOwnedTupleGo tg (.ref it) u) (fun _ s2 => ∃ x H', Inv X pins σ H' s2 ∧ RelV x u ∧ J.yld i H x H' ∧ tn (i + 1) s2.heap ∧ ∀ b ∈ fp, H' b = none) E s1) E s
  done : ∀ (X : Cx), X.prog = P → X.w = w → X.K = K → X.calm = true → ∀ (i : Nat) (pins : List (Addr × Obj)) (s : Shared) (σ : St) (H : Hp) (E : Value → Shared → Prop), Inv X pins σ H s → (∀ b ∈ fp, FpOk X pins H b) → tn i s.heap → J.stop i H →
    wpAny (model P w) X.A (pyNext (.ref it)) (fun r s1 => r = none ∧ Inv X pins σ H s1) E s
  self : ∀ (A : Around) (i : Nat) (s : Shared) (Q : Value → Shared → Prop) (E : Value → Shared → Prop), tn i s.heap → Q (.ref it) s → wpAny (model P w) A (pyIter (.ref it)) Q E s
abbrev TI := St → Hp → (It → Hp → Prop) → Prop
def PIE (X : Cx) (pins : List (Addr × Obj)) (σ : St) (tg : Expr) (R : It → Hp → Prop) (itv : Value) (s2 : Shared) : Prop :=
  ∃ (it : Addr) (fp : List Addr) (tn : Nat → Heap → Prop) (J : It) (H' : Hp), itv = .ref it ∧ Inv X pins σ H' s2 ∧ Turn X.prog X.w X.K tg J fp it tn ∧ tn 0 s2.heap ∧ (∀ b ∈ fp, FpOk X pins H' b) ∧ R J H'
def PI (X : Cx) (tg iter : Expr) (wi : TI) : Prop :=
  ∀ (pins : List (Addr × Obj)) (s : Shared) (σ : St) (H : Hp) (R : It → Hp → Prop), Inv X pins σ H s → wi σ H R →
    wpAny (model X.prog X.w) X.A (eval iter X.env) (fun v s1 => wpAny (model X.prog X.w) X.A (pyIter v) (PIE X pins σ tg R) X.xe s1) X.xe s
theorem go_of {M : Model} {A : Around} {E : Value → Shared → Prop} {s : Shared} {tg : Expr} {it : Addr} {u : Value} {o : Obj} {n : String} {vs : Array Value} {Q : Unit → Shared → Prop} (ho : s.heap.get? it = some o) (hc : o.cls = .type n) (hd : o.data = .fields vs)
    (hn : ["enumerate", "zip", "dict_itemiterator", "dict_reverseitemiterator", "odict_iterator", "itertools.zip_longest", "itertools.pairwise"].contains n = false) (hQ : Q () s) : wpAny M A (letOwnedTupleGo tg (.ref it) u) Q E s := by
  unfold letOwnedTupleGo
  cases tg <;> first
    | exact wpAny_pure hQ
    | (cases u <;> first
        | exact wpAny_pure hQ
        | (refine wpAny_bind (wpAny_load ho ?_)
           rw [hc, hd]
           show wpAny M A (if (["enumerate", "zip", "dict_itemiterator", "dict_reverseitemiterator", "odict_iterator", "itertools.zip_longest", "itertools.pairwise"].contains n && vs[0]? == some (rawInt _)) = true then _ else _) Q E s
           rw [if_neg (by intro h; rw [hn, Bool.false_and] at h; cases h)]
           exact wpAny_pure hQ))
def Itl (K : PySem.W.Frag) (a : Addr) : It :=
  ⟨fun i H => ∃ xs x, SqL K H a xs ∧ xs[i]? = some x, fun i H x H' => H' = H ∧ ∀ xs, SqL K H a xs → xs[i]? = some x, fun i H => ∃ xs, SqL K H a xs ∧ xs.length ≤ i⟩
def Itr (lo : Int) (n : Nat) : It := ⟨fun i _ => i < n, fun i H x H' => H' = H ∧ x = .int (lo + i), fun i _ => n ≤ i⟩
theorem turn_list {P : Program} {w : World} {K : PySem.W.Frag} {tg : Expr} (a it : Addr) : Turn P w K tg (Itl K a) [it] it (fun i h => h.IsListIter it a i) where
  mem := by simp
  obj := fun i h st b hb => by
    have e : b = it := by simpa using hb
    subst e
    obtain ⟨o, e, c, d⟩ := st
    exact ⟨o, e, fun v z => by rw [d] at z; cases z⟩
  keep := fun i h h' st k => st.at fun o e => k it (by simp) o e
  item := by
    intro X hP hw hK hc i pins s σ H E I hf st hg
    subst hP hw hK
    obtain ⟨xs, x, hq, hx⟩ := hg
    obtain ⟨its, rv, p, hz⟩ := I.list hq
    obtain ⟨u, hu, ru⟩ := rv.get hx
    obtain ⟨f0, f1, f2, f3, f4, f5⟩ := hf it (by simp)
    refine wpAny_pyNext_list_item st p.isList (x := u) (by simpa using hu) fun h' st' sb => ?_
    have I1 : Inv X pins σ H { s with heap := h' } := I.turned (t' := s.toks) (fun b o hb e => (sb.2 b hb).trans e) f0 f1 f3 f4 f5
    obtain ⟨o, e, c, d⟩ := id st'
    exact ⟨u, rfl, go_of (s := { s with heap := h' }) e c d (by decide) ⟨x, H, I1, ru, ⟨rfl, fun ys hy => by rw [I.list_inj hy hq]; exact hx⟩, st', fun b hb => (hf b hb).1⟩⟩
  done := by
    intro X hP hw hK hc i pins s σ H E I hf st hg
    subst hP hw hK
    obtain ⟨xs, hq, hx⟩ := hg
    obtain ⟨its, rv, p, hz⟩ := I.list hq
    obtain ⟨f0, f1, f2, f3, f4, f5⟩ := hf it (by simp)
    have hl := rv.length
    exact wpAny_pyNext_list_end (I.ok.hd hc) st p.isList (by simp; omega) fun h' eb => ⟨rfl, I.turned (t' := s.toks) (fun b o hb e => eb b o hb e) f0 f1 f3 f4 f5⟩
  self := fun _ _ _ _ _ st h => wpAny_pyIter_listiter st h
theorem turn_range {P : Program} {w : World} {K : PySem.W.Frag} {tg : Expr} (it : Addr) (lo : Int) (n : Nat) : Turn P w K tg (Itr lo n) [it] it (fun i h => IsRangeIter h it (lo + (i : Nat) * 1) ((n : Int) - (i : Nat)) 1) where
  mem := by simp
  obj := fun i h st b hb => by
    have e : b = it := by simpa using hb
    subst e
    exact ⟨_, st, fun v z => by
      have z' : Data.fields _ = Data.cell v := z
      cases z'⟩
  keep := fun i h h' st k => k it (by simp) _ st
  item := by
    intro X hP hw hK hc i pins s σ H E I hf st hg
    subst hP hw hK
    obtain ⟨f0, f1, f2, f3, f4, f5⟩ := hf it (by simp)
    have W := Walks.range (prog := X.prog) (w := X.w) (I.ok.hd hc) it lo 1 n
    refine W.item i s _ _ hg st fun v h' tk hv st' kk => ?_
    obtain ⟨t, rfl⟩ := hv
    have I1 : Inv X pins σ H { s with heap := h', toks := tk } := I.turned (fun b o hb e => kk b o (by simpa using hb) e) f0 f1 f3 f4 f5
    refine ⟨_, rfl, go_of (s := { s with heap := h', toks := tk }) (n := "range_iterator") st' rfl rfl (by decide) ⟨.int (lo + i), H, I1, ⟨t, ?_⟩, ⟨rfl, rfl⟩, st', fun b hb => (hf b hb).1⟩⟩
    rw [Int.mul_one]
  done := by
    intro X hP hw hK hc i pins s σ H E I hf st hg
    subst hP hw hK
    obtain ⟨f0, f1, f2, f3, f4, f5⟩ := hf it (by simp)
    exact wpAny_pyNext_range_end (I.ok.hd hc) st (by have : n ≤ i := hg; omega) fun h' eb => ⟨rfl, I.turned (t' := s.toks) (fun b o hb e => eb b o hb e) f0 f1 f3 f4 f5⟩
  self := fun _ _ _ _ _ st h => wpAny_pyIter_rangeiter st h
end L2
namespace L2
open PySem PySem.Spec PyProof.Rows
section
variable {X : Cx} {tg : Expr}
def iList (K : PySem.W.Frag) (tl : TE) : TI := fun σ H R => tl σ H fun x H1 => ∃ a, x = .ref a ∧ (∃ xs, SqL K H1 a xs) ∧ R (Itl K a) H1
theorem pi_list {l : Expr} {tl : TE} (hl : PE X l tl) : PI X tg l (iList X.K tl) := by
  intro pins s σ H R I h
  refine thn (hl pins s σ H _ I h) fun v s1 ⟨x, H1, I1, r1, q1⟩ => ?_
  obtain ⟨a, e, ⟨xs, hq⟩, q⟩ := q1
  subst e
  cases r1
  obtain ⟨its, rv, p, hz⟩ := I1.list hq
  refine wpAny_pyIter_list p.isList ?_
  refine ⟨s1.heap.objs.size, [s1.heap.objs.size], _, _, H1, rfl, I1.kept (t' := s1.toks) fun b o e => Heap.get?_push_of_some _ e, turn_list a _, ⟨_, Heap.get?_push_size _ rfl, rfl, rfl⟩, fun b hb => ?_, q⟩
  have e : b = s1.heap.objs.size := by simpa using hb
  subst e
  exact I1.fpOk (Nat.le_refl _) (I1.hok.fresh (Nat.le_refl _))
theorem range_it {pins : List (Addr × Obj)} {σ : St} {H : Hp} {s : Shared} {R : It → Hp → Prop} {E : Value → Shared → Prop} {lo hi : Int} {t u v : Tok} {tk : Nat} (I : Inv X pins σ H s) (h1 : -(2 ^ 62) ≤ lo) (h2 : lo < 2 ^ 62) (h3 : -(2 ^ 62) ≤ hi) (h4 : hi < 2 ^ 62)
    (q : R (Itr lo (hi - lo).toNat) H) : wpAny (model X.prog X.w) X.A (pyIter (.ref s.heap.objs.size)) (PIE X pins σ tg R) E { s with heap := s.heap.push { cls := .type "range", data := .fields #[.int lo t, .int hi u, .int 1 v] }, toks := tk } := by
  refine wpAny_pyIter_range (IsRange.new ..) (small_one h1 h2 h3 h4) ?_
  have I1 : Inv X pins σ H { s with heap := s.heap.push { cls := .type "range", data := .fields #[.int lo t, .int hi u, .int 1 v] }, toks := tk } := I.kept fun b o e => Heap.get?_push_of_some _ e
  refine ⟨(s.heap.push { cls := .type "range", data := .fields #[.int lo t, .int hi u, .int 1 v] }).objs.size, [(s.heap.push { cls := .type "range", data := .fields #[.int lo t, .int hi u, .int 1 v] }).objs.size], _, _, H, rfl,
    I1.kept (t' := tk) fun b o e => Heap.get?_push_of_some _ e, turn_range _ lo (hi - lo).toNat, ?_, fun b hb => ?_, q⟩
  · have e1 : lo + ((0 : Nat) : Int) * 1 = lo := by simp
    have e2 : (((hi - lo).toNat : Nat) : Int) - ((0 : Nat) : Int) = Builtin.Range.rangeSize lo hi 1 := by rw [rangeSize_one]; split <;> omega
    show IsRangeIter _ _ (lo + ((0 : Nat) : Int) * 1) ((((hi - lo).toNat : Nat) : Int) - ((0 : Nat) : Int)) 1
    rw [e1, e2]
    exact Heap.get?_push_size _ rfl
  · have e : b = (s.heap.push { cls := .type "range", data := .fields #[.int lo t, .int hi u, .int 1 v] }).objs.size := by simpa using hb
    subst e
    exact I1.fpOk (Nat.le_refl _) (I1.hok.fresh (Nat.le_refl _))
def iRng1 (ta : TA) : TI := fun σ H R => ta σ H fun vs H1 => ∃ j : Int, vs = [.int j] ∧ -(2 ^ 62) ≤ j ∧ j < 2 ^ 62 ∧ R (Itr 0 j.toNat) H1
def iRng2 (ta : TA) : TI := fun σ H R => ta σ H fun vs H1 => ∃ i j : Int, vs = [.int i, .int j] ∧ (-(2 ^ 62) ≤ i ∧ i < 2 ^ 62 ∧ -(2 ^ 62) ≤ j ∧ j < 2 ^ 62) ∧ R (Itr i (j - i).toNat) H1
theorem pi_range1 {a : Expr} {ta : TA} {p pos : Pos} (hg : Gl X "range") (hm : X.mg "range" = none) (ha : PA X [a] ta) (hs : starEach [a] X.env = [(false, eval a X.env)] := by rfl) : PI X tg (.Call (.Name "range" p) [a] [] pos) (iRng1 ta) := by
  intro pins s σ H R I h
  refine Call_ (ld_blt I hg hm boot_range (PyProof.Rows.callWith_type1 (thn (ha pos pins s σ H _ I h) fun us s1 ⟨vs, H1, I1, r1, q1⟩ => ?_) hs rfl))
  obtain ⟨j, e, q1, q2, q⟩ := q1
  subst e
  cases r1 with
  | cons r rr =>
    cases rr
    obtain ⟨t, rfl⟩ := r
    exact call_range_1 (range_it I1 (by omega) (by omega) q1 q2 (by simpa using q))
theorem pi_range2 {a b : Expr} {ta : TA} {p pos : Pos} (hg : Gl X "range") (hm : X.mg "range" = none) (ha : PA X [a, b] ta) (hs : starEach [a, b] X.env = [(false, eval a X.env), (false, eval b X.env)] := by rfl) (hs2 : starEach [b] X.env = [(false, eval b X.env)] := by rfl) :
    PI X tg (.Call (.Name "range" p) [a, b] [] pos) (iRng2 ta) := by
  intro pins s σ H R I h
  refine Call_ (ld_blt I hg hm boot_range (PyProof.Rows.callWith_type1 (thn (ha pos pins s σ H _ I h) fun us s1 ⟨vs, H1, I1, r1, q1⟩ => ?_) (by rw [hs, hs2]) (by rw [hs2]; rfl)))
  obtain ⟨i, j, e, ⟨q1, q2, q3, q4⟩, q⟩ := q1
  subst e
  cases r1 with
  | cons r rr =>
    cases rr with
    | cons r' rr =>
      cases rr
      obtain ⟨t, rfl⟩ := r
      obtain ⟨t', rfl⟩ := r'
      exact call_range_2 (range_it I1 q1 q2 q3 q4 q)
def tFor (wi : TI) (g : TG) (tb : TS) : TS := fun D σ H => wi σ H fun J H1 => ∃ W : Nat → Nat → St → Hp → Prop, (∃ m, W 0 m σ H1) ∧ ∀ i m σ H, W i m σ H →
  (J.stop i H ∧ D.nx σ H) ∨ (J.go i H ∧ ∃ N : St → Hp → Prop, (∀ σ' H', N σ' H' → ∃ m', m' < m ∧ W (i + 1) m' σ' H') ∧ ∀ x H', J.yld i H x H' → g x σ H' fun σ2 H2 => tb { D with nx := N, ct := N, bk := D.nx } σ2 H2)
def pinsAt (fp : List Addr) (h : Heap) : List (Addr × Obj) := fp.filterMap fun b => (h.get? b).map fun o => (b, o)
theorem mem_pinsAt {fp : List Addr} {h : Heap} {b : Addr} {o : Obj} (hb : b ∈ fp) (e : h.get? b = some o) : (b, o) ∈ pinsAt fp h := List.mem_filterMap.mpr ⟨b, hb, by rw [e]; rfl⟩
theorem of_pinsAt {fp : List Addr} {h : Heap} {p : Addr × Obj} (hp : p ∈ pinsAt fp h) : p.1 ∈ fp ∧ h.get? p.1 = some p.2 := by
  obtain ⟨b, hb, e⟩ := List.mem_filterMap.mp hp
  cases q : h.get? b with
  | none => rw [q] at e; cases e
  | some o =>
    rw [q] at e
    have e' : (b, o) = p := Option.some.inj e
    subst e'
    exact ⟨hb, q⟩
theorem Inv.pinned {pins : List (Addr × Obj)} {σ : St} {H : Hp} {s : Shared} {fp : List Addr} (I : Inv X pins σ H s) (hf : ∀ b ∈ fp, FpOk X pins H b) (ho : ∀ b ∈ fp, ∃ o, s.heap.get? b = some o ∧ ∀ v, o.data ≠ .cell v) : Inv X (pins ++ pinsAt fp s.heap) σ H s :=
  I.pins_of fun p hp => (List.mem_append.mp hp).elim (fun z => I.pin p (List.mem_append_right _ z)) fun z => by
    obtain ⟨hb, e⟩ := of_pinsAt z
    obtain ⟨f0, f1, f2, _⟩ := hf p.1 hb
    obtain ⟨o, e', d⟩ := ho p.1 hb
    rw [e] at e'; cases e'
    exact ⟨e, f0, f1, f2, d⟩
theorem Inv.unpinned {pins pl : List (Addr × Obj)} {σ : St} {H : Hp} {s : Shared} (I : Inv X (pins ++ pl) σ H s) : Inv X pins σ H s := I.pins_of fun p hp => I.pin p (List.mem_append_right _ (List.mem_append_left _ hp))
theorem ps_for {iter : Expr} {body : List Stmt} {wi : TI} {g : TG} {tb : TS} {pos : Pos} (hp : PassesOwn (model X.prog X.w) X.A X.env X.xe) (hc : X.calm = true) (hi : PI X tg iter wi) (hg : PG X tg g) (hb : PSs X body tb)
    (hs : ∀ x, foldedSetIterable iter X.env x = pure x := by intro _; rfl) : PS X (.For tg iter body [] pos) (tFor wi g tb) := by
  intro pins s σ H D I h
  refine wpAny_For (thn (hi pins s σ H _ I h) fun v s1 h1 => thn h1 fun itv s2 h2 => ?_) hs
  obtain ⟨it, fp, tn, J, H2, e, I2, T, st2, f2, W, ⟨m0, w0⟩, turn⟩ := h2
  subst e
  -- what stays true of the iterator's objects through the loop
  have stat : ∀ {H' : Hp}, (∀ b ∈ fp, H' b = none) → ∀ b ∈ fp, FpOk X pins H' b := fun hn b hb => ⟨hn b hb, (f2 b hb).2⟩
  refine codeAny_forLoop_any (fun n s' => ∃ i σ' H', Inv X pins σ' H' s' ∧ tn i s'.heap ∧ (∀ b ∈ fp, H' b = none) ∧ W i n σ' H') ?_ m0 ⟨0, σ, H2, I2, st2, fun b hb => (f2 b hb).1, w0⟩
  rintro n s3 ⟨i, σ3, H3, I3, st3, fr3, w3⟩
  rcases turn i n σ3 H3 w3 with ⟨stop, qn⟩ | ⟨go, N, hN, step⟩
  · refine wpAny_passesOwn hp (thn (T.done X rfl rfl rfl hc i pins s3 σ3 H3 X.xe I3 (stat fr3) st3 stop) fun r s4 ⟨hr, I4⟩ => ?_)
    subst hr
    exact wpAny_execs_nil ⟨σ3, H3, I4, qn⟩
  · refine wpAny_passesOwn hp (thn (T.item X rfl rfl rfl hc i pins s3 σ3 H3 X.xe I3 (stat fr3) st3 go) fun r s4 ⟨u, hr, h4⟩ => ?_)
    subst hr
    refine wpAny_passesOwn hp (thn h4 fun _ s5 ⟨x, H5, I5, r5, y5, st5, fr5⟩ => ?_)
    have I5' := I5.pinned (stat fr5) (T.obj _ _ st5)
    refine wpAny_passesOwn hp (thn (hg _ s5 σ3 H5 x u _ I5' r5 (step x H5 y5)) fun _ s6 ⟨σ6, H6, I6, q6⟩ => ?_)
    refine wpAny_passesOwn hp (thn (hb _ s6 σ6 H6 _ I6 q6) fun f s7 q7 => ?_)
    have again : ∀ {σ7 : St} {H7 : Hp}, Inv X (pins ++ pinsAt fp s5.heap) σ7 H7 s7 → N σ7 H7 → ∃ m, m < n ∧ ∃ i σ' H', Inv X pins σ' H' s7 ∧ tn i s7.heap ∧ (∀ b ∈ fp, H' b = none) ∧ W i m σ' H' := fun {σ7 H7} I7 n7 => by
      obtain ⟨m', hm, w7⟩ := hN σ7 H7 n7
      refine ⟨m', hm, i + 1, σ7, H7, I7.unpinned, T.keep _ _ _ st5 fun b hb o e => (I7.pin (b, o) (List.mem_append_right _ (List.mem_append_right _ (mem_pinsAt hb e)))).1, fun b hb => ?_, w7⟩
      obtain ⟨o, e, d⟩ := T.obj _ _ st5 b hb
      exact (I7.pin (b, o) (List.mem_append_right _ (List.mem_append_right _ (mem_pinsAt hb e)))).2.1
    cases f with
    | next => obtain ⟨σ7, H7, I7, n7⟩ := q7; exact again I7 n7
    | cont => obtain ⟨σ7, H7, I7, n7⟩ := q7; exact again I7 n7
    | brk => obtain ⟨σ7, H7, I7, q7⟩ := q7; exact ⟨σ7, H7, I7.unpinned, q7⟩
    | ret v => obtain ⟨x7, σ7, H7, I7, r7, q7⟩ := q7; exact ⟨x7, σ7, H7, I7.unpinned, r7, q7⟩
end
theorem for_list {K : PySem.W.Frag} {a : Addr} {xs : List V} {g : TG} {tb : TS} {D : Ends} {σ : St} {H : Hp} (Pv : Nat → St → Hp → Prop) (h0 : Pv 0 σ H) (hl : ∀ i σ H, i ≤ xs.length → Pv i σ H → SqL K H a xs)
    (hs : ∀ i x σ H, xs[i]? = some x → Pv i σ H → g x σ H fun σ2 H2 => tb { D with nx := Pv (i + 1), ct := Pv (i + 1), bk := D.nx } σ2 H2) (hd : ∀ σ H, Pv xs.length σ H → D.nx σ H) :
    ∃ W : Nat → Nat → St → Hp → Prop, (∃ m, W 0 m σ H) ∧ ∀ i m σ H, W i m σ H →
      ((Itl K a).stop i H ∧ D.nx σ H) ∨ ((Itl K a).go i H ∧ ∃ N : St → Hp → Prop, (∀ σ' H', N σ' H' → ∃ m', m' < m ∧ W (i + 1) m' σ' H') ∧ ∀ x H', (Itl K a).yld i H x H' → g x σ H' fun σ2 H2 => tb { D with nx := N, ct := N, bk := D.nx } σ2 H2) := by
  refine ⟨fun i m σ H => m = xs.length - i ∧ i ≤ xs.length ∧ Pv i σ H, ⟨xs.length, by simp, Nat.zero_le _, h0⟩, ?_⟩
  rintro i m σ H ⟨rfl, hi, p⟩
  have q := hl i σ H hi p
  by_cases hlt : i < xs.length
  · refine .inr ⟨⟨xs, xs[i], q, by simp [hlt]⟩, Pv (i + 1), fun σ' H' p' => ⟨xs.length - (i + 1), by omega, rfl, hlt, p'⟩, fun x H' y => ?_⟩
    obtain ⟨e, y⟩ := y
    subst e
    exact hs i x σ _ (y xs q) p
  · have e : i = xs.length := by omega
    subst e
    exact .inl ⟨⟨xs, q, Nat.le_refl _⟩, hd σ H p⟩
theorem for_range {lo : Int} {n : Nat} {g : TG} {tb : TS} {D : Ends} {σ : St} {H : Hp} (Pv : Nat → St → Hp → Prop) (h0 : Pv 0 σ H)
    (hs : ∀ i σ H, i < n → Pv i σ H → g (.int (lo + i)) σ H fun σ2 H2 => tb { D with nx := Pv (i + 1), ct := Pv (i + 1), bk := D.nx } σ2 H2) (hd : ∀ σ H, Pv n σ H → D.nx σ H) :
    ∃ W : Nat → Nat → St → Hp → Prop, (∃ m, W 0 m σ H) ∧ ∀ i m σ H, W i m σ H →
      ((Itr lo n).stop i H ∧ D.nx σ H) ∨ ((Itr lo n).go i H ∧ ∃ N : St → Hp → Prop, (∀ σ' H', N σ' H' → ∃ m', m' < m ∧ W (i + 1) m' σ' H') ∧ ∀ x H', (Itr lo n).yld i H x H' → g x σ H' fun σ2 H2 => tb { D with nx := N, ct := N, bk := D.nx } σ2 H2) := by
  refine ⟨fun i m σ H => m = n - i ∧ i ≤ n ∧ Pv i σ H, ⟨n, by simp, Nat.zero_le _, h0⟩, ?_⟩
  rintro i m σ H ⟨rfl, hi, p⟩
  by_cases hlt : i < n
  · refine .inr ⟨hlt, Pv (i + 1), fun σ' H' p' => ⟨n - (i + 1), by omega, rfl, hlt, p'⟩, fun x H' y => ?_⟩
    obtain ⟨e, y⟩ := y
    subst e y
    exact hs i σ _ hlt p
  · have e : i = n := by omega
    subst e
    exact .inl ⟨Nat.le_refl _, hd σ H p⟩
end L2
namespace L2
open PySem PySem.Spec PyProof.Rows
abbrev R2 := V → V → Hp → VK → Prop
def OpR (X : Cx) (f : Value → Value → Sem Value) (r : R2) : Prop :=
  ∀ (pins : List (Addr × Obj)) (s : Shared) (σ : St) (H : Hp) (x y : V) (v u : Value) (Q : VK), Inv X pins σ H s → RelV x v → RelV y u → r x y H Q →
    wpAny (model X.prog X.w) X.A (f v u) (EP X pins σ Q) X.xe s
def UnR (X : Cx) (f : Value → Sem Value) (r : V → Hp → VK → Prop) : Prop :=
  ∀ (pins : List (Addr × Obj)) (s : Shared) (σ : St) (H : Hp) (x : V) (v : Value) (Q : VK), Inv X pins σ H s → RelV x v → r x H Q →
    wpAny (model X.prog X.w) X.A (f v) (EP X pins σ Q) X.xe s
def CallR (X : Cx) (f : Value) (r : List V → Hp → VK → Prop) : Prop :=
  ∀ (pins : List (Addr × Obj)) (s : Shared) (σ : St) (H : Hp) (xs : List V) (us : List Value) (Q : VK), Inv X pins σ H s → Vals xs us → r xs H Q →
    wpAny (model X.prog X.w) X.A (call f us) (EP X pins σ Q) X.xe s
def tOp (r : R2) (ta tb : TE) : TE := fun σ H Q => ta σ H fun x H1 => tb σ H1 fun y H2 => r x y H2 Q
def tUn (r : V → Hp → VK → Prop) (ta : TE) : TE := fun σ H Q => ta σ H fun x H1 => r x H1 Q
def rI (C : Int → Int → Prop) (g : Int → Int → V) : R2 := fun x y H Q => ∃ i j, x = .int i ∧ y = .int j ∧ C i j ∧ Q (g i j) H
def rI0 (g : Int → Int → V) : R2 := fun x y H Q => ∃ i j, x = .int i ∧ y = .int j ∧ Q (g i j) H
def rU (g : Int → V) : V → Hp → VK → Prop := fun x H Q => ∃ i, x = .int i ∧ Q (g i) H
section
variable {X : Cx} {a b c : Expr} {ta tb tc : TE} {pos : Pos}
theorem binT (ha : PE X a ta) (hb : PE X b tb) {pins : List (Addr × Obj)} {s : Shared} {σ : St} {H : Hp} {R : V → V → Hp → Prop} (I : Inv X pins σ H s)
    (h : ta σ H fun x H1 => tb σ H1 fun y H2 => R x y H2) {Q : Value → Shared → Prop} {f : Value → Value → Sem Value}
    (hf : ∀ v u s2 x y H2, Inv X pins σ H2 s2 → RelV x v → RelV y u → R x y H2 → wpAny (model X.prog X.w) X.A (f v u) Q X.xe s2) :
    wpAny (model X.prog X.w) X.A (eval a X.env) (fun v s₁ => wpAny (model X.prog X.w) X.A (eval b X.env) (fun u s₂ => wpAny (model X.prog X.w) X.A (f v u) Q X.xe s₂) X.xe s₁) X.xe s := by
  refine thn (ha pins s σ H _ I h) fun v s1 ⟨x, H1, I1, r1, q1⟩ => ?_
  refine thn (hb pins s1 σ H1 _ I1 q1) fun u s2 ⟨y, H2, I2, r2, q2⟩ => ?_
  exact hf v u s2 x y H2 I2 r1 r2 q2
theorem pe_op {op : Operator} {r : R2} (ho : OpR X (binaryOp op) r) (ha : PE X a ta) (hb : PE X b tb) : PE X (.BinOp a op b pos) (tOp r ta tb) := by
  intro pins s σ H Q I h
  exact wpAny_BinOp (binT ha hb I h fun v u s2 x y H2 I2 rx ry q => ho pins s2 σ H2 x y v u Q I2 rx ry q)
theorem pe_un {op : UnaryOp} {r : V → Hp → VK → Prop} (ho : UnR X (unaryOp op) r) (ha : PE X a ta) : PE X (.UnaryOp op a pos) (tUn r ta) := by
  intro pins s σ H Q I h
  exact UnaryOp_ (thn (ha pins s σ H _ I h) fun v s1 ⟨x, H1, I1, r1, q1⟩ => ho pins s1 σ H1 x v Q I1 r1 q1)
theorem opI {f : Value → Value → Sem Value} {C : Int → Int → Prop} {g : Int → Int → Int}
    (rule : ∀ (i j : Int) (t u : Tok) (s : Shared) (Q : Value → Shared → Prop) (E : Value → Shared → Prop), C i j → Q (.int (g i j) s.toks) { s with toks := s.toks + 1 } → wpAny (model X.prog X.w) X.A (f (.int i t) (.int j u)) Q E s) :
    OpR X f (rI C fun i j => .int (g i j)) := by
  intro pins s σ H x y v u Q I rx ry h
  obtain ⟨i, j, rfl, rfl, hc, q⟩ := h
  obtain ⟨t, rfl⟩ := rx
  obtain ⟨t', rfl⟩ := ry
  exact rule i j t t' s _ _ hc ⟨.int (g i j), H, I.tok _, ⟨_, rfl⟩, q⟩
theorem opI0 {f : Value → Value → Sem Value} {g : Int → Int → Int}
    (rule : ∀ (i j : Int) (t u : Tok) (s : Shared) (Q : Value → Shared → Prop) (E : Value → Shared → Prop), Q (.int (g i j) s.toks) { s with toks := s.toks + 1 } → wpAny (model X.prog X.w) X.A (f (.int i t) (.int j u)) Q E s) :
    OpR X f (rI0 fun i j => .int (g i j)) := by
  intro pins s σ H x y v u Q I rx ry h
  obtain ⟨i, j, rfl, rfl, q⟩ := h
  obtain ⟨t, rfl⟩ := rx
  obtain ⟨t', rfl⟩ := ry
  exact rule i j t t' s _ _ ⟨.int (g i j), H, I.tok _, ⟨_, rfl⟩, q⟩
theorem opB0 {f : Value → Value → Sem Value} {g : Int → Int → Bool}
    (rule : ∀ (i j : Int) (t u : Tok) (s : Shared) (Q : Value → Shared → Prop) (E : Value → Shared → Prop), Q (.bool (g i j)) s → wpAny (model X.prog X.w) X.A (f (.int i t) (.int j u)) Q E s) :
    OpR X f (rI0 fun i j => .bl (g i j)) := by
  intro pins s σ H x y v u Q I rx ry h
  obtain ⟨i, j, rfl, rfl, q⟩ := h
  obtain ⟨t, rfl⟩ := rx
  obtain ⟨t', rfl⟩ := ry
  exact rule i j t t' s _ _ ⟨.bl (g i j), H, I, rfl, q⟩
def CPow (i j : Int) : Prop := 0 ≤ j ∧ j ≤ 1000000 ∧ i.natAbs < 2 ^ 64
def CMul (i j : Int) : Prop := (-(2 ^ 64) < i ∧ i < 2 ^ 64) ∨ (-(2 ^ 64) < j ∧ j < 2 ^ 64)
theorem CMul.ok {i j : Int} (h : CMul i j) : IntMulOk i j := by
  rcases h with ⟨h1, h2⟩ | ⟨h1, h2⟩
  · exact .of_left (intBits_le_64 h1 h2)
  · exact .of_right (intBits_le_64 h1 h2)
theorem op_add : OpR X (binaryOp .Add) (rI0 fun i j => .int (i + j)) := opI0 fun _ _ _ _ _ _ _ q => add_int q
theorem op_sub : OpR X (binaryOp .Sub) (rI0 fun i j => .int (i - j)) := opI0 fun _ _ _ _ _ _ _ q => sub_int q
theorem op_mul : OpR X (binaryOp .Mult) (rI CMul fun i j => .int (i * j)) := opI fun _ _ _ _ _ _ _ hc q => mul_int q hc.ok
theorem op_mod : OpR X (binaryOp .Mod) (rI (fun _ j => 0 < j) fun i j => .int (i % j)) := opI fun i j _ _ _ _ _ hc q => by
  have h1 : (0 : Int) < j := hc
  exact mod_int' (by omega) (by rw [Int.fmod_eq_emod_of_nonneg i (by omega)]; exact q)
theorem op_pow : OpR X (binaryOp .Pow) (rI CPow fun i j => .int (i ^ j.toNat)) := opI fun _ _ _ _ _ _ _ hc q => pow_int_small hc.1 hc.2.1 hc.2.2 q
theorem unI {f : Value → Sem Value} {g : Int → Int}
    (rule : ∀ (i : Int) (t : Tok) (s : Shared) (Q : Value → Shared → Prop) (E : Value → Shared → Prop), Q (.int (g i) s.toks) { s with toks := s.toks + 1 } → wpAny (model X.prog X.w) X.A (f (.int i t)) Q E s) :
    UnR X f (rU fun i => .int (g i)) := by
  intro pins s σ H x v Q I rx h
  obtain ⟨i, rfl, q⟩ := h
  obtain ⟨t, rfl⟩ := rx
  exact rule i t s _ _ ⟨.int (g i), H, I.tok _, ⟨_, rfl⟩, q⟩
theorem un_neg : UnR X (unaryOp .USub) (rU fun i => .int (-i)) := unI fun _ _ _ _ _ q => neg_int q
end
def scal : V → V → Bool
  | .non, .non => true | .non, .int _ => true | .int _, .non => true | .non, .bl _ => true | .bl _, .non => true | .non, .str _ => true | .str _, .non => true
  | .int _, .int _ => true | .bl _, .bl _ => true | .str _, .str _ => true | .byt _, .byt _ => true
  | .int _, .str _ => true | .str _, .int _ => true | .bl _, .str _ => true | .str _, .bl _ => true
  | _, _ => false
def rEq : R2 := fun x y H Q => scal x y = true ∧ Q (.bl (decide (x = y))) H
def rNe : R2 := fun x y H Q => scal x y = true ∧ Q (.bl (!decide (x = y))) H
theorem dec_int {i j : Int} : decide (V.int i = V.int j) = (i == j) := by
  rw [Bool.eq_iff_iff]
  simp
theorem dec_bl {i j : Bool} : decide (V.bl i = V.bl j) = (i == j) := by
  rw [Bool.eq_iff_iff]
  simp
theorem dec_str {i j : Str} : decide (V.str i = V.str j) = (i == j) := by
  rw [Bool.eq_iff_iff]
  simp
theorem dec_byt {i j : Array UInt8} : decide (V.byt i = V.byt j) = (i.toList == j.toList) := by
  rw [Bool.eq_iff_iff]
  cases i
  cases j
  simp
section
variable {X : Cx} {a b c : Expr} {ta tb tc : TE} {pos : Pos}
theorem fin_bl {pins : List (Addr × Obj)} {σ : St} {H : Hp} {s : Shared} {Q : VK} {k k' : Bool} (I : Inv X pins σ H s) (q : Q (.bl k) H) (e : k = k') : EP X pins σ Q (.bool k') s := by
  subst e
  exact ⟨.bl k, H, I, rfl, q⟩
theorem op_eq : OpR X (compareOp .Eq) rEq := by
  intro pins s σ H x y v u Q I rx ry h
  obtain ⟨hs, q⟩ := h
  cases x with
  | non =>
    cases rx
    cases y with
    | non => cases ry; exact PySem.EqNone.eq_none_none (fin_bl I q (by simp))
    | bl j => cases ry; exact PySem.EqNone.eq_none_bool (fin_bl I q (by simp))
    | int j => obtain ⟨t', rfl⟩ := ry; exact PySem.EqNone.eq_none_int (fin_bl I q (by simp))
    | str j => obtain ⟨t', rfl⟩ := ry; exact PySem.EqNone.eq_none_str (fin_bl I q (by simp))
    | _ => exact absurd (show false = true from hs) Bool.false_ne_true
  | bl i =>
    cases rx
    cases y with
    | non => cases ry; exact PySem.EqNone.eq_bool_none (fin_bl I q (by simp))
    | bl j => cases ry; exact eq_bool (fin_bl I q dec_bl)
    | str j => obtain ⟨t', rfl⟩ := ry; exact PySem.EqMixed.eq_bool_str (fin_bl I q (by simp))
    | _ => exact absurd (show false = true from hs) Bool.false_ne_true
  | int i =>
    obtain ⟨t, rfl⟩ := rx
    cases y with
    | non => cases ry; exact PySem.EqNone.eq_int_none (fin_bl I q (by simp))
    | int j => obtain ⟨t', rfl⟩ := ry; exact eq_int (fin_bl I q dec_int)
    | str j => obtain ⟨t', rfl⟩ := ry; exact PySem.EqMixed.eq_int_str (fin_bl I q (by simp))
    | _ => exact absurd (show false = true from hs) Bool.false_ne_true
  | str i =>
    obtain ⟨t, rfl⟩ := rx
    cases y with
    | non => cases ry; exact PySem.EqNone.eq_str_none (fin_bl I q (by simp))
    | bl j => cases ry; exact PySem.EqMixed.eq_str_bool (fin_bl I q (by simp))
    | int j => obtain ⟨t', rfl⟩ := ry; exact PySem.EqMixed.eq_str_int (fin_bl I q (by simp))
    | str j => obtain ⟨t', rfl⟩ := ry; exact eq_str (fin_bl I q dec_str)
    | _ => exact absurd (show false = true from hs) Bool.false_ne_true
  | byt i =>
    obtain ⟨t, rfl⟩ := rx
    cases y with
    | byt j => obtain ⟨t', rfl⟩ := ry; exact PySem.W.eq_bytes (fin_bl I q dec_byt)
    | _ => exact absurd (show false = true from hs) Bool.false_ne_true
  | _ => cases y <;> exact absurd (show false = true from hs) Bool.false_ne_true
theorem op_ne : OpR X (compareOp .NotEq) rNe := by
  intro pins s σ H x y v u Q I rx ry h
  obtain ⟨hs, q⟩ := h
  cases x with
  | non =>
    cases rx
    cases y with
    | non => cases ry; exact PySem.EqNone.ne_none_none (fin_bl I q (by simp))
    | bl j => cases ry; exact PySem.EqNone.ne_none_bool (fin_bl I q (by simp))
    | int j => obtain ⟨t', rfl⟩ := ry; exact PySem.EqNone.ne_none_int (fin_bl I q (by simp))
    | str j => obtain ⟨t', rfl⟩ := ry; exact PySem.EqNone.ne_none_str (fin_bl I q (by simp))
    | _ => exact absurd (show false = true from hs) Bool.false_ne_true
  | bl i =>
    cases rx
    cases y with
    | non => cases ry; exact PySem.EqNone.ne_bool_none (fin_bl I q (by simp))
    | bl j => cases ry; exact ne_bool (fin_bl I q (congrArg not dec_bl))
    | str j => obtain ⟨t', rfl⟩ := ry; exact PySem.EqMixed.ne_bool_str (fin_bl I q (by simp))
    | _ => exact absurd (show false = true from hs) Bool.false_ne_true
  | int i =>
    obtain ⟨t, rfl⟩ := rx
    cases y with
    | non => cases ry; exact PySem.EqNone.ne_int_none (fin_bl I q (by simp))
    | int j => obtain ⟨t', rfl⟩ := ry; exact ne_int (fin_bl I q (congrArg not dec_int))
    | str j => obtain ⟨t', rfl⟩ := ry; exact PySem.EqMixed.ne_int_str (fin_bl I q (by simp))
    | _ => exact absurd (show false = true from hs) Bool.false_ne_true
  | str i =>
    obtain ⟨t, rfl⟩ := rx
    cases y with
    | non => cases ry; exact PySem.EqNone.ne_str_none (fin_bl I q (by simp))
    | bl j => cases ry; exact PySem.EqMixed.ne_str_bool (fin_bl I q (by simp))
    | int j => obtain ⟨t', rfl⟩ := ry; exact PySem.EqMixed.ne_str_int (fin_bl I q (by simp))
    | str j => obtain ⟨t', rfl⟩ := ry; exact ne_str (fin_bl I q (congrArg not dec_str))
    | _ => exact absurd (show false = true from hs) Bool.false_ne_true
  | byt i =>
    obtain ⟨t, rfl⟩ := rx
    cases y with
    | byt j => obtain ⟨t', rfl⟩ := ry; exact PySem.W.ne_bytes (fin_bl I q (congrArg not dec_byt))
    | _ => exact absurd (show false = true from hs) Bool.false_ne_true
  | _ => cases y <;> exact absurd (show false = true from hs) Bool.false_ne_true
theorem op_lt : OpR X (compareOp .Lt) (rI0 fun i j => .bl (decide (i < j))) := opB0 fun _ _ _ _ _ _ _ q => lt_int q
theorem op_le : OpR X (compareOp .LtE) (rI0 fun i j => .bl (decide (i ≤ j))) := opB0 fun _ _ _ _ _ _ _ q => le_int q
theorem op_gt : OpR X (compareOp .Gt) (rI0 fun i j => .bl (decide (j < i))) := opB0 fun _ _ _ _ _ _ _ q => gt_int q
theorem op_ge : OpR X (compareOp .GtE) (rI0 fun i j => .bl (decide (j ≤ i))) := opB0 fun _ _ _ _ _ _ _ q => ge_int q
theorem nomark (b : Expr) {op : CmpOp} (h : op ≠ .In := by decide) (h2 : op ≠ .NotIn := by decide) : behindInMarks op b = false := by
  have e1 : (op == CmpOp.In) = false := by cases op <;> first | rfl | exact absurd rfl h
  have e2 : (op == CmpOp.NotIn) = false := by cases op <;> first | rfl | exact absurd rfl h2
  cases b <;> simp [behindInMarks, e1, e2]
theorem pe_cmpR {op : CmpOp} {r : R2} (ho : OpR X (compareOp op) r) (ha : PE X a ta) (hb : PE X b tb) (hm : behindInMarks op b = false) : PE X (.Compare a [op] [b] pos) (tOp r ta tb) := by
  intro pins s σ H Q I h
  exact wpAny_Compare1 (binT ha hb I h fun v u s2 x y H2 I2 rx ry q => ho pins s2 σ H2 x y v u Q I2 rx ry q) hm
def tTest (t : TE) : TT := fun σ H Q => t σ H fun x H' => ∃ k, x = .bl k ∧ Q k H'
theorem pt_cmpR {op : CmpOp} {r : R2} (ho : OpR X (compareOp op) r) (ha : PE X a ta) (hb : PE X b tb) (hm : behindInMarks op b = false) : PT X (.Compare a [op] [b] pos) (tTest (tOp r ta tb)) := by
  intro pins s σ H Q I h
  refine wpAny_isTrue_Compare1 (thn (ha pins s σ H _ I h) fun v s1 ⟨x, H1, I1, r1, q1⟩ => thn (hb pins s1 σ H1 _ I1 q1) fun u s2 ⟨y, H2, I2, r2, q2⟩ =>
    thn (ho pins s2 σ H2 x y v u _ I2 r1 r2 q2) fun c s3 ⟨z, H3, I3, r3, k, e, q3⟩ => ?_) hm
  subst e
  cases r3
  exact wpAny_truthy_bool ⟨H3, I3, q3⟩
theorem line63 : (sizeLine : Nat) < 2 ^ 63 := by rw [sizeLine_eq]; decide
theorem vals1 {x : V} {us : List Value} (r : Vals [x] us) : ∃ u, us = [u] ∧ RelV x u := by
  cases r with
  | cons r1 r2 => cases r2; exact ⟨_, rfl, r1⟩
theorem vals2 {x y : V} {us : List Value} (r : Vals [x, y] us) : ∃ u w', us = [u, w'] ∧ RelV x u ∧ RelV y w' := by
  cases r with
  | cons r1 r2 =>
    cases r2 with
    | cons r3 r4 => cases r4; exact ⟨_, _, rfl, r1, r3⟩
theorem call_min2 (hc : X.calm = true) : CallR X (.builtin "min") (fun xs H Q => ∃ i j, xs = [.int i, .int j] ∧ Q (.int (if j < i then j else i)) H) := by
  intro pins s σ H xs us Q I r h
  obtain ⟨i, j, rfl, q⟩ := h
  obtain ⟨u, w', rfl, ⟨t, rfl⟩, ⟨t', rfl⟩⟩ := vals2 r
  refine min_two_ints (I.ok.hd hc) fun h' tk k => ⟨_, H, I.kept k, ?_, q⟩
  by_cases hj : j < i
  · rw [if_pos hj, if_pos hj]; exact ⟨_, rfl⟩
  · rw [if_neg hj, if_neg hj]; exact ⟨_, rfl⟩
theorem call_int1 : CallR X (.type "int") (fun xs H Q => (∃ i, xs = [.int i] ∧ Q (.int i) H) ∨ ∃ k, xs = [.bl k] ∧ Q (.int (if k then 1 else 0)) H) := by
  intro pins s σ H xs us Q I r h
  rcases h with ⟨i, rfl, q⟩ | ⟨k, rfl, q⟩
  · obtain ⟨u, rfl, t, rfl⟩ := vals1 r
    exact call_int_int ⟨.int i, H, I, ⟨_, rfl⟩, q⟩
  · obtain ⟨u, rfl, r1⟩ := vals1 r
    cases r1
    exact call_int_bool ⟨.int (if k then 1 else 0), H, I.tok _, ⟨_, rfl⟩, q⟩
end
end L2
namespace L2
open PySem PySem.Spec PyProof.Rows
structure ObjM (h : Heap) (x dx C : Addr) (mA : Str → Option Value) : Prop where
  obj : h.get? x = some (PySem.W.instObj C dx)
  ns : h.Ns1 dx mA
  ne : dx ≠ x
theorem lookIn_ns {h : Heap} {dx : Addr} {mA : Str → Option Value} (n : h.Ns1 dx mA) : ∃ od, h.get? dx = some od ∧ ∀ name, PySem.W.lookIn name od = some (mA name) := by
  obtain ⟨o, es, ep, ho, hd, hk, _, hm⟩ := n
  refine ⟨o, ho, fun name => ?_⟩
  have e := hm name
  unfold nsFind findBy at e
  rw [← Array.find?_toList] at e
  unfold PySem.W.lookIn
  rw [hd]
  dsimp only
  split
  · rename_i y q
    rw [q] at e
    exact congrArg some e
  · rename_i q
    rw [q] at e
    have a : es.toList.any (·.refKey) = false := by
      rw [List.any_eq_false]
      intro y hy
      obtain ⟨z, t, hkey⟩ := hk y (Array.mem_toList_iff.mp hy)
      simp [DictEntry.refKey, hkey]
    have a' : ¬ es.toList.any (·.refKey) = true := by rw [a]; exact Bool.false_ne_true
    rw [if_neg a']
    exact congrArg some e
theorem ObjM.look {h : Heap} {x dx C : Addr} {mA : Str → Option Value} (I : ObjM h x dx C mA) : ∃ od, PySem.W.InstAt h x (PySem.W.instObj C dx) C (some od) ∧ ∀ name, PySem.W.lookIn name od = some (mA name) :=
  let ⟨od, ho, hl⟩ := lookIn_ns I.ns
  ⟨od, ⟨I.obj, rfl, rfl, ho⟩, hl⟩
section
variable {prog : Program} {w : World} {A : Around} {E : Value → Shared → Prop} {s : Shared} {K : PySem.W.Frag} {x dx C f : Addr} {mA : Str → Option Value} {name : Str} {v : Value}
theorem get_map {expr : Bool} {Q : Value → Shared → Prop} (X : K.In s.heap) (I : ObjM s.heap x dx C mA) (hg : PySem.W.plainGet K C name = true) (hh : PySem.W.hasDictIn K C = true)
    (ha : PySem.W.findIn K (.ref C) name = some none) (hv : mA name = some v) (hv' : PySem.W.handedIn v = true) (h : Q v { s with toks := s.toks + 1 }) :
    wpAny (model prog w) A (getAttr (.ref x) name expr) Q E s := by
  obtain ⟨od, J, hl⟩ := I.look
  exact PySem.W.get_value X J (PySem.W.plainGet_of hg).1 (PySem.W.findObj_own hh ha rfl (by rw [hl, hv])) hv' h
theorem get_meth {pl : Sem Bool} {Q : Value × List Value → Shared → Prop} (X : K.In s.heap) (I : ObjM s.heap x dx C mA) (hg : PySem.W.plainGet K C name = true)
    (hf : PySem.W.findIn K (.ref C) name = some (some (.ref f))) (ht : PySem.W.isFn K (.ref f) = true) (hv : mA name = none) (h : Q (.ref f, [.ref x]) s) :
    wpAny (model prog w) A (getMethod (.ref x) name pl) Q E s := by
  obtain ⟨od, J, hl⟩ := I.look
  exact PySem.W.method_fn X J (PySem.W.plainGet_of hg).1 (PySem.W.plainGet_of hg).2 hf (beq_iff_eq.mp ht) (by show (PySem.W.lookIn name od).map (·.isSome) = some false; rw [hl, hv]; rfl) h
theorem set_map {ns : List Str} {Q : Unit → Shared → Prop} (X : K.In s.heap) (I : ObjM s.heap x dx C mA)
    (hs : PySem.W.findIn K (.ref C) "__setattr__" = some (some (.builtin "object.__setattr__"))) (hp : PySem.W.plainOver K C = true) (ht : PySem.W.takerIn K C name = some none) (hh : PySem.W.hasDictIn K C = true)
    (hw : PySem.Within mA ns) (hsz : ns.length ≤ sizeLine)
    (h : ∀ h', ObjM h' x dx C (fun y => if y = name then some v else mA y) → Heap.SameBut dx s.heap h' → Q () { s with heap := h', toks := s.toks + 2 }) :
    wpAny (model prog w) A (setAttr (.ref x) name v) Q E s := by
  obtain ⟨od, J, hl⟩ := I.look
  refine PySem.W.set_plain X J hs (PySem.W.osa_open (s := { s with toks := s.toks + 1 }) (r := none) X J hp ht fun b => ?_)
  obtain ⟨cd, hc, hd'⟩ := PySem.W.any_some hh
  have hx : s.heap.get? x = some ⟨.ref C, some dx, .plain, #[]⟩ := I.obj
  refine wpAny_bind (wpAny_pure (wpAny_bind (wpAny_bind (wpAny_loadPart hx (wpAny_bind (PySem.W.Looks.here (s := { s with toks := s.toks + 1 }) (PySem.W.looks_clsIn X hc) ?_))))))
  rw [hd']
  refine wpAny_pure (a := some dx) (wpAny_bind (wpAny_pure (wpAny_bind ?_)))
  refine wpAny_nsSet1 (s := { s with toks := s.toks + 1 }) I.ns fun h' hn2 hs2 => ?_
  obtain ⟨oD, esD, epD, hoD, hdD, hcD⟩ := hn2.count (PySem.Within.cons name v hw)
  refine wpAny_bind (wpAny_lookBehind hoD (by rw [hdD]; exact pastItsLine_dict (Nat.le_trans hcD (by rw [List.length_cons]; omega))) ?_)
  exact wpAny_pure (h _ ⟨(hs2.2 _ (Ne.symm I.ne)).trans I.obj, hn2, I.ne⟩ hs2)
theorem make_map {R : Result → Shared → Prop} {vs : List Value} {kw : List (Str × Value)} (X : K.In s.heap) (hm : PySem.W.makesIn K C = true)
    (hi : PySem.W.findIn K (.ref C) "__init__" = some (some (.ref f))) (hf : PySem.W.typeIn K (.ref f) = some (.type "function"))
    (h : codeAny (model prog w) (A.under (.builtin "type.__call__" ⟨.ref C :: vs, kw⟩)) (.call (.ref f) ⟨.ref (s.heap.objs.size + 1) :: vs, kw⟩) (PySem.W.InitBack (s.heap.objs.size + 1) R)
      { s with heap := (s.heap.push PySem.W.emptyDict).push (PySem.W.instObj C s.heap.objs.size) }) :
    codeAny (model prog w) A (.call (.ref C) ⟨vs, kw⟩) R s := by
  obtain ⟨hh, g, d, t, os⟩ := s
  exact PySem.W.make_core (PySem.W.makes_of X hm) (PySem.W.looks_findIn X hi) (fun self => PySem.W.bind_fn X self hf) (.inl rfl) h
end
def putF (f : Str) (v : V) : List (Str × V) → List (Str × V)
  | [] => [(f, v)]
  | (g, x) :: r => if g = f then (g, v) :: r else (g, x) :: putF f v r
theorem lookup_putF (f g : Str) (v : V) : ∀ fs : List (Str × V), (putF f v fs).lookup g = if g = f then some v else fs.lookup g
  | [] => by
    show List.lookup g [(f, v)] = _
    by_cases h : g = f
    · have hb : (g == f) = true := beq_iff_eq.mpr h
      simp only [List.lookup, hb, if_pos h]
    · have hb : (g == f) = false := beq_eq_false_iff_ne.mpr h
      simp only [List.lookup, hb, if_neg h]
  | (k, x) :: r => by
    have ih := lookup_putF f g v r
    rw [show putF f v ((k, x) :: r) = (if k = f then (k, v) :: r else (k, x) :: putF f v r) from rfl]
    by_cases hk : k = f
    · rw [if_pos hk]
      by_cases h : g = k
      · have hb : (g == k) = true := beq_iff_eq.mpr h
        simp only [List.lookup, hb, if_pos (h.trans hk)]
      · have hb : (g == k) = false := beq_eq_false_iff_ne.mpr h
        simp only [List.lookup, hb, if_neg (fun e : g = f => h (e.trans hk.symm))]
    · rw [if_neg hk]
      by_cases h : g = k
      · have hb : (g == k) = true := beq_iff_eq.mpr h
        simp only [List.lookup, hb, if_neg (fun e : g = f => hk (h.symm.trans e))]
      · have hb : (g == k) = false := beq_eq_false_iff_ne.mpr h
        simp only [List.lookup, hb]
        exact ih
theorem keys_putF (f : Str) (v : V) : ∀ fs : List (Str × V), f ∈ (putF f v fs).map (·.1) ∧ ∀ g, g ∈ fs.map (·.1) → g ∈ (putF f v fs).map (·.1)
  | [] => ⟨by simp [putF], fun g h => by simp at h⟩
  | (k, x) :: r => by
    obtain ⟨i1, i2⟩ := keys_putF f v r
    rw [show putF f v ((k, x) :: r) = (if k = f then (k, v) :: r else (k, x) :: putF f v r) from rfl]
    by_cases hk : k = f
    · rw [if_pos hk]
      subst hk
      exact ⟨by simp, fun g h => by simpa using h⟩
    · rw [if_neg hk]
      refine ⟨?_, fun g h => ?_⟩
      · rw [List.map_cons]
        exact List.mem_cons_of_mem _ i1
      · rw [List.map_cons] at h ⊢
        rcases List.mem_cons.mp h with e | e
        · exact List.mem_cons.mpr (.inl e)
        · exact List.mem_cons_of_mem _ (i2 g e)
theorem length_putF (f : Str) (v : V) : ∀ fs : List (Str × V), (putF f v fs).length ≤ fs.length + 1
  | [] => by simp [putF]
  | (k, x) :: r => by
    have ih := length_putF f v r
    rw [show putF f v ((k, x) :: r) = (if k = f then (k, v) :: r else (k, x) :: putF f v r) from rfl]
    by_cases hk : k = f
    · rw [if_pos hk, List.length_cons, List.length_cons]; omega
    · rw [if_neg hk, List.length_cons, List.length_cons]; omega
theorem RelO.some_of {v : V} {o : Option Value} (r : RelO (some v) o) : ∃ u, o = some u ∧ RelV v u := by
  cases o with
  | none => exact (show False from r).elim
  | some u => exact ⟨u, rfl, r⟩
theorem RelO.none_of {o : Option Value} (r : RelO none o) : o = none := by
  cases o with
  | none => rfl
  | some u => exact (show False from r).elim
theorem handed_of {v : V} {u : Value} (r : RelV v u) : PySem.W.handedIn u = true := by
  cases v with
  | non => cases (show u = Value.none from r); rfl
  | bl b => cases (show u = Value.bool b from r); rfl
  | int i => obtain ⟨t, e⟩ := (show ∃ t, u = Value.int i t from r); cases e; rfl
  | str x => obtain ⟨t, e⟩ := (show ∃ t, u = Value.str x t from r); cases e; rfl
  | byt b => obtain ⟨t, e⟩ := (show ∃ t, u = Value.bytes b t from r); cases e; rfl
  | flt b => obtain ⟨t, e⟩ := (show ∃ t, u = Value.float b t from r); cases e; rfl
  | ref a => cases (show u = Value.ref a from r); rfl
  | ty n => cases (show u = Value.type n from r); rfl
section
variable {P : Program} {w : World} {H H' : Hp} {h h' : Heap} {a C dx : Addr} {fs fs' : List (Str × V)}
theorem ins_get (hok : HOk P w H h) (e : H a = some (.ins C dx fs)) : ∃ mA, ObjM h a dx C mA ∧ (∀ f, RelO (fs.lookup f) (mA f)) ∧ PySem.Within mA (fs.map (·.1)) ∧ fs.length ≤ 1000 ∧ H dx = some (.own a) := by
  obtain ⟨d, z, ne, ob, mA, n, r, q⟩ := (show ObjOk P w H h a (.ins C dx fs) from hok a _ e)
  exact ⟨mA, ⟨ob, n, ne⟩, r, q, z, d⟩
end
structure Cls (K : PySem.W.Frag) (C : Addr) : Prop where
  pg : PySem.W.plainGet K C Str.empty = true
  hd : PySem.W.hasDictIn K C = true
  po : PySem.W.plainOver K C = true
  sa : PySem.W.findIn K (.ref C) "__setattr__" = some (some (.builtin "object.__setattr__"))
theorem Cls.get {K : PySem.W.Frag} {C : Addr} (c : Cls K C) (f : Str) : PySem.W.plainGet K C f = true := c.pg
def NoAttr (K : PySem.W.Frag) (C : Addr) (f : Str) : Prop := PySem.W.findIn K (.ref C) f = some none
theorem NoAttr.taker {K : PySem.W.Frag} {C : Addr} {f : Str} (n : NoAttr K C f) : PySem.W.takerIn K C f = some none := by
  unfold PySem.W.takerIn
  rw [show PySem.W.findIn K (.ref C) f = some none from n]
  rfl
structure Meth (K : PySem.W.Frag) (C : Addr) (m : Str) (f : Addr) : Prop where
  at_ : PySem.W.findIn K (.ref C) m = some (some (.ref f))
  fn : PySem.W.isFn K (.ref f) = true
  kp : PySem.W.keepIn K (.ref f) = true
section
variable {X : Cx} {pins : List (Addr × Obj)} {σ : St} {H : Hp} {s : Shared} {a C dx : Addr} {fs : List (Str × V)} {f : Str} {v : V} {A : Around} {E : Value → Shared → Prop}
theorem getattr_ok {b : Bool} {Q : Value → Shared → Prop} (I : Inv X pins σ H s) (e : H a = some (.ins C dx fs)) (c : Cls X.K C) (n : NoAttr X.K C f) (l : fs.lookup f = some v)
    (h : ∀ u s', Inv X pins σ H s' → RelV v u → Q u s') : wpAny (model X.prog X.w) A (getAttr (.ref a) f b) Q E s := by
  obtain ⟨mA, O, r, _, _, _⟩ := ins_get I.hok e
  obtain ⟨u, hu, ru⟩ := RelO.some_of (v := v) (o := mA f) (by rw [← l]; exact r f)
  exact get_map I.kIn O (c.get f) c.hd n hu (handed_of ru) (h u _ (I.tok _) ru)
theorem getmeth_ok {m : Str} {g : Addr} {pl : Sem Bool} {Q : Value × List Value → Shared → Prop} (I : Inv X pins σ H s) (e : H a = some (.ins C dx fs)) (c : Cls X.K C) (k : Meth X.K C m g) (l : fs.lookup m = none)
    (h : Q (.ref g, [.ref a]) s) : wpAny (model X.prog X.w) A (getMethod (.ref a) m pl) Q E s := by
  obtain ⟨mA, O, r, _, _, _⟩ := ins_get I.hok e
  have hn : mA m = none := RelO.none_of (by rw [← l]; exact r m)
  exact get_meth I.kIn O (c.get m) k.at_ k.fn hn h
theorem setattr_ok {y : V} {u : Value} {Q : Unit → Shared → Prop} (I : Inv X pins σ H s) (e : H a = some (.ins C dx fs)) (c : Cls X.K C) (n : NoAttr X.K C f) (hl : fs.length < 1000) (ry : RelV y u)
    (h : ∀ s', Inv X pins σ (upd H a (.ins C dx (putF f y fs))) s' → Q () s') : wpAny (model X.prog X.w) A (setAttr (.ref a) f u) Q E s := by
  obtain ⟨mA, O, r, wi, _, ho⟩ := ins_get I.hok e
  have hz : (fs.map (·.1)).length ≤ sizeLine := by rw [List.length_map, sizeLine_eq]; omega
  refine set_map I.kIn O c.sa c.po n.taker c.hd wi hz fun h' O' sb => h _ ?_
  have hd : ∃ o, h'.get? dx = some o := let ⟨o, _, _, e', _⟩ := O'.ns; ⟨o, e'⟩
  refine I.write (x := a) (e := dx) (by rw [e]; exact True.intro) (.inr ho) (fun b q hb z => (sb.2 b hb).trans z) hd ?_
  refine ⟨by rw [upd_ne O.ne]; exact ho, ?_, O.ne, O'.obj, _, O'.ns, fun g => ?_, fun g hg => ?_⟩
  · have := length_putF f y fs; omega
  · show RelO ((putF f y fs).lookup g) (if g = f then some u else mA g)
    rw [lookup_putF]
    by_cases q : g = f
    · rw [if_pos q, if_pos q]; exact ry
    · rw [if_neg q, if_neg q]; exact r g
  · by_cases q : g = f
    · rw [q]; exact (keys_putF f y fs).1
    · refine (keys_putF f y fs).2 g (wi g fun z => hg ?_)
      show (if g = f then some u else mA g) = none
      rw [if_neg q]; exact z
theorem Inv.made (I : Inv X pins σ H s) : Inv X pins σ (upd (upd H s.heap.objs.size (.own (s.heap.objs.size + 1))) (s.heap.objs.size + 1) (.ins C s.heap.objs.size []))
    { s with heap := (s.heap.push PySem.W.emptyDict).push (PySem.W.instObj C s.heap.objs.size) } := by
  have e1 : (s.heap.push PySem.W.emptyDict).get? s.heap.objs.size = some PySem.W.emptyDict := Heap.get?_push_size s.heap rfl
  have e2 : ((s.heap.push PySem.W.emptyDict).push (PySem.W.instObj C s.heap.objs.size)).get? (s.heap.objs.size + 1) = some (PySem.W.instObj C s.heap.objs.size) := by
    have := Heap.get?_push_size (s.heap.push PySem.W.emptyDict) (o := PySem.W.instObj C s.heap.objs.size) rfl
    rwa [Heap.size_push] at this
  have e3 : (s.heap.push PySem.W.emptyDict).Ns s.heap.objs.size (fun _ => none) := ⟨PySem.W.emptyDict, #[], _, e1, rfl, (fun e he => absurd he (by simp)), fun _ => rfl⟩
  have I1 := I.laid (a := s.heap.objs.size) (o := .own (s.heap.objs.size + 1)) (h' := s.heap.push PySem.W.emptyDict) (t' := s.toks) (fun b u q => Heap.get?_push_of_some _ q) (Nat.le_refl _) ⟨_, e1⟩
  refine I1.laid (a := s.heap.objs.size + 1) (o := .ins C s.heap.objs.size []) (t' := s.toks) (fun b u q => Heap.get?_push_of_some _ q) (Nat.le_of_eq (Heap.size_push _ _)) ?_
  have ne : s.heap.objs.size ≠ s.heap.objs.size + 1 := Nat.ne_of_lt (Nat.lt_succ_self _)
  refine ⟨by rw [upd_ne ne, upd_same], Nat.zero_le _, ne, e2, fun _ => none, (Heap.Ns1.of_empty e3).at fun o q => Heap.get?_push_of_some _ q, fun _ => True.intro, fun y hy => absurd rfl hy⟩
theorem attr_of {prog : Program} {w : World} {env : Env} {e : Expr} {f : Str} {pos : Pos} {s : Shared} {Q : Value → Shared → Prop} (hb : attributeBase e f env (eval e env) = eval e env)
    (h : wpAny (model prog w) A (eval e env) (fun o s₁ => wpAny (model prog w) A (getAttr o f true) Q E s₁) E s) : wpAny (model prog w) A (eval (.Attribute e f pos) env) Q E s :=
  Attribute_any_ h (by rw [arm_eval_Attribute, hb])
end
def tFld (K : PySem.W.Frag) (ta : TE) (f : Str) : TE := fun σ H Q => ta σ H fun x H1 => ∃ a C dx fs v, x = .ref a ∧ H1 a = some (.ins C dx fs) ∧ Cls K C ∧ NoAttr K C f ∧ fs.lookup f = some v ∧ Q v H1
def sFld (K : PySem.W.Frag) (ta tv : TE) (f : Str) : TS := fun D σ H => tv σ H fun y H1 => ta σ H1 fun x H2 => ∃ a C dx fs, x = .ref a ∧ H2 a = some (.ins C dx fs) ∧ Cls K C ∧ NoAttr K C f ∧ fs.length < 1000 ∧
  D.nx σ (upd H2 a (.ins C dx (putF f y fs)))
section
variable {X : Cx} {o e value : Expr} {f : Str} {pos pos' tpos : Pos} {ta tv : TE}
theorem pe_fld (he : PE X e ta) (hb : attributeBase e f X.env (eval e X.env) = eval e X.env) : PE X (.Attribute e f pos) (tFld X.K ta f) := by
  intro pins s σ H Q I h
  refine attr_of hb (thn (he pins s σ H _ I h) fun u s1 ⟨x, H1, I1, rx, a, C, dx, fs, v, ex, ea, c, n, l, q⟩ => ?_)
  subst ex
  obtain rfl : u = Value.ref a := rx
  exact getattr_ok I1 ea c n l fun u' s2 I2 ru => ⟨v, H1, I2, ru, q⟩
theorem ps_fld (ha : PE X o ta) (hv : PE X value tv) (hs : swapsWith value (some (.Attribute o f pos')) pos.line X.env = pure false) : PS X (.Assign [.Attribute o f pos'] value pos) (sFld X.K ta tv f) := by
  intro pins s σ H D I h
  refine plainObj_wpAny_Assign_Attribute (thn (hv pins s σ H _ I h) fun u s1 ⟨y, H1, I1, ry, q⟩ => thn (ha pins s1 σ H1 _ I1 q) fun ov s2 ⟨x, H2, I2, rx, a, C, dx, fs, ex, ea, c, n, l, q2⟩ => ?_) hs
  subst ex
  obtain rfl : ov = Value.ref a := rx
  exact setattr_ok I2 ea c n l ry fun s3 I3 => ⟨σ, _, I3, q2⟩
theorem methcall_of {pl : Sem Bool} {m : Str} {apos : Pos} {args : List Expr} {pins : List (Addr × Obj)} {s : Shared} {σ : St} {H : Hp} {Q : Value → Shared → Prop} {te : TE} (he : PE X e te) (I : Inv X pins σ H s)
    (h : te σ H fun x H1 => ∃ a C dx fs g, x = .ref a ∧ H1 a = some (.ins C dx fs) ∧ Cls X.K C ∧ Meth X.K C m g ∧ fs.lookup m = none ∧
      ∀ s1, Inv X pins σ H1 s1 → wpAny (model X.prog X.w) X.A (callWith pos (.ref g) [.ref a] (backTo pos (starEach args X.env)) (backToKw pos (keywordEach [] X.env))) Q X.xe s1)
    (ht : eval (.Call (.Attribute e m apos) args [] pos) X.env = (do
      let ov ← eval e X.env
      standAt apos.atName
      let (f, first) ← holding [ov] (getMethod ov m pl)
      callWith pos f first (backTo pos (starEach args X.env)) (backToKw pos (keywordEach [] X.env)))) :
    wpAny (model X.prog X.w) X.A (eval (.Call (.Attribute e m apos) args [] pos) X.env) Q X.xe s := by
  refine PySem.W.methodCall_KW (pl := pl) (thn (he pins s σ H _ I h) fun u s1 ⟨x, H1, I1, rx, a, C, dx, fs, g, ex, ea, c, k, l, q⟩ => ?_) ht
  subst ex
  obtain rfl : u = Value.ref a := rx
  exact getmeth_ok I1 ea c k l (q s1 I1)
end
section
variable {X : Cx} {pins : List (Addr × Obj)} {σ : St} {H : Hp} {s : Shared} {A : Around} {E : Value → Shared → Prop} {Q : Value → Shared → Prop} {c : Value} {b : Bool}
inductive TyOf (K : PySem.W.Frag) (H : Hp) : V → Value → Prop where
  | non : TyOf K H .non (.type "NoneType")
  | bl (x : Bool) : TyOf K H (.bl x) (.type "bool")
  | int (i : Int) : TyOf K H (.int i) (.type "int")
  | str (x : Str) : TyOf K H (.str x) (.type "str")
  | flt (x : UInt64) : TyOf K H (.flt x) (.type "float")
  | lst {a : Addr} {xs : List V} (e : H a = some (.lst xs)) : TyOf K H (.ref a) (.type "list")
  | frz {a : Addr} {o : Obj} {xs : List V} (e : H a = some (.frz o (.lst xs))) : TyOf K H (.ref a) (.type "list")
  | tup {a : Addr} {xs : List V} (e : H a = some (.tup xs)) : TyOf K H (.ref a) (.type "tuple")
  | dK {a : Addr} {kvs : List (Key × V)} (e : H a = some (.dK kvs)) : TyOf K H (.ref a) (.type "dict")
  | dT {a : Addr} {kvs : List (List Key × V)} (e : H a = some (.dT kvs)) : TyOf K H (.ref a) (.type "dict")
  | ins {a C dx : Addr} {fs : List (Str × V)} (e : H a = some (.ins C dx fs)) (cl : Cls K C) (ha : PySem.W.findIn K (.ref C) "__class__" = some (some (.builtin "object.__class__")))
      (hn : PySem.W.specialIn K (.builtin "object.__class__") "__get__" = some (some (.builtin "getset_descriptor.__get__"))) (htk : PySem.W.takesIn K (.builtin "object.__class__") = some true)
      (hm : PySem.W.mroIn K C (.type "object") = some true) : TyOf K H (.ref a) (.ref C)
theorem isinst_ok {x : V} {u t : Value} (I : Inv X pins σ H s) (rx : RelV x u) (ty : TyOf X.K H x t) (e : PySem.W.kitOne X.K t c = some b) (h : ∀ tk, Q (.bool b) { s with toks := tk }) :
    wpAny (model X.prog X.w) A (call (.builtin "isinstance") [u, c]) Q E s := by
  cases ty with
  | non => cases (show u = Value.none from rx); exact PySem.W.kia_one PySem.W.kitx_none I.kIn True.intro e (fun z => nomatch z) h
  | bl y => cases (show u = Value.bool y from rx); exact PySem.W.kia_one PySem.W.kitx_bool I.kIn True.intro e (fun z => nomatch z) h
  | int i => obtain ⟨t, q⟩ := (show ∃ t, u = Value.int i t from rx); cases q; exact PySem.W.kia_one PySem.W.kitx_int I.kIn True.intro e (fun z => nomatch z) h
  | str y => obtain ⟨t, q⟩ := (show ∃ t, u = Value.str y t from rx); cases q; exact PySem.W.kia_one PySem.W.kitx_str I.kIn True.intro e (fun z => nomatch z) h
  | flt y => obtain ⟨t, q⟩ := (show ∃ t, u = Value.float y t from rx); cases q; exact PySem.W.kia_one PySem.W.kitx_float I.kIn True.intro e (fun z => nomatch z) h
  | @lst a xs ea =>
    cases (show u = Value.ref a from rx)
    obtain ⟨_, _, n, _, h1⟩ := (show ObjOk X.prog X.w H s.heap a (.lst xs) from I.hok a _ ea)
    exact PySem.W.kia_one PySem.W.kitx_list I.kIn ⟨_, h1, rfl⟩ e (fun z => nomatch z) h
  | @frz a ob xs ea =>
    cases (show u = Value.ref a from rx)
    obtain ⟨_, _, _, n, _, h1⟩ := (show ObjOk X.prog X.w H s.heap a (.frz ob (.lst xs)) from I.hok a _ ea)
    exact PySem.W.kia_one PySem.W.kitx_list I.kIn ⟨_, h1, rfl⟩ e (fun z => nomatch z) h
  | @tup a xs ea =>
    cases (show u = Value.ref a from rx)
    obtain ⟨_, _, _, p⟩ := (show ObjOk X.prog X.w H s.heap a (.tup xs) from I.hok a _ ea)
    obtain ⟨o, h1, h2, _⟩ := p
    exact PySem.W.kia_one PySem.W.kitx_tuple I.kIn ⟨o, h1, h2⟩ e (fun z => nomatch z) h
  | @dK a kvs ea =>
    cases (show u = Value.ref a from rx)
    obtain ⟨_, _, vs, _, p⟩ := (show ObjOk X.prog X.w H s.heap a (.dK kvs) from I.hok a _ ea)
    obtain ⟨o, es, ep, h1, h2, _⟩ := p
    exact PySem.W.kia_one PySem.W.kitx_dict I.kIn ⟨o, h1, h2.1⟩ e (fun z => nomatch z) h
  | @dT a kvs ea =>
    cases (show u = Value.ref a from rx)
    obtain ⟨_, _, xs, _, o, es, ep, h1, h2, _⟩ := (show ObjOk X.prog X.w H s.heap a (.dT kvs) from I.hok a _ ea)
    exact PySem.W.kia_one PySem.W.kitx_dict I.kIn ⟨o, h1, h2.1⟩ e (fun z => nomatch z) h
  | @ins a C dx fs ea cl ha hn htk hm =>
    cases (show u = Value.ref a from rx)
    obtain ⟨mA, O, _⟩ := ins_get I.hok ea
    obtain ⟨od, J, _⟩ := O.look
    exact PySem.W.kia_one (PySem.W.kitx_own (cl.get _) cl.hd ha hn htk hm) I.kIn J e (fun z => nomatch z) h
end
end L2
namespace L2
open PySem PySem.Spec PyProof.Rows
structure Room (k : Nat) (A : Around) : Prop where
  hd : A.handled = none
  dp : A.depth + 3 * k + 5 < recursionLimit
  un : A.units + 16 * k + 200 < cLine
theorem Room.mono {j k : Nat} {A : Around} (r : Room k A) (h : j ≤ k) : Room j A := ⟨r.hd, by have := r.dp; omega, by have := r.un; omega⟩
theorem Room.deeper {k : Nat} {A : Around} (r : Room (k + 1) A) (env : Env) : Room k (A.deeper env) :=
  ⟨r.hd, by have := r.dp; show A.depth + 1 + 3 * k + 5 < _; omega, by have := r.un; show A.units + 3 + 16 * k + 200 < _; omega⟩
theorem make_depth {A : Around} {C : Addr} {us : List Value} {kw : List (Str × Value)} : (A.under (.builtin "type.__call__" ⟨.ref C :: us, kw⟩)).depth = A.depth + 1 := by
  first | rfl | simp [Around.under, Code.weight, Code.isCreation, Code.isGuard, Code.isCaller, Code.frames, Code.isFrame, guardIds]
theorem make_units {A : Around} {C : Addr} {us : List Value} {kw : List (Str × Value)} : (A.under (.builtin "type.__call__" ⟨.ref C :: us, kw⟩)).units = A.units + 1 := by
  first | rfl | simp [Around.under, Code.cUnits, Code.frames, Code.isFrame]
theorem Room.make {k : Nat} {A : Around} (r : Room (k + 1) A) (C : Addr) (us : List Value) (kw : List (Str × Value)) : Room k (A.under (.builtin "type.__call__" ⟨.ref C :: us, kw⟩)) :=
  ⟨r.hd, by have := r.dp; rw [make_depth]; omega, by have := r.un; rw [make_units]; omega⟩
theorem Room.depth {k : Nat} {A : Around} (r : Room k A) : A.depth < recursionLimit := by have := r.dp; omega
theorem Room.units {k : Nat} {A : Around} (r : Room k A) : A.units + 64 < cLine := by have := r.un; omega
def tNil : TA := fun _ H Q => Q [] H
def tCons (ta : TE) (tr : TA) : TA := fun σ H Q => ta σ H fun x H1 => tr σ H1 fun xs H2 => Q (x :: xs) H2
section
variable {X : Cx} {e : Expr} {es : List Expr} {te : TE} {t : TA} {pos : Pos}
theorem pa_nil : PA X [] tNil := fun _ _ _ _ H Q I h => Calls.spliced_nil ⟨[], H, I, .nil, h⟩
theorem pa_cons (ha : PE X e te) (hr : PA X es t) (hs : starEach (e :: es) X.env = (false, eval e X.env) :: starEach es X.env := by rfl) : PA X (e :: es) (tCons te t) := by
  intro pos pins s σ H Q I h
  rw [hs]
  show wpAny _ _ (spliced ((false, eval e X.env) :: backTo pos (starEach es X.env))) _ _ s
  refine Calls.spliced_cons (thn (ha pins s σ H _ I h) fun u s1 ⟨x, H1, I1, r1, q1⟩ => ?_)
  exact thn (hr pos pins s1 σ H1 _ I1 q1) fun us s2 ⟨xs, H2, I2, r2, q2⟩ => ⟨x :: xs, H2, I2, .cons r1 r2, q2⟩
def tTup (t : TA) : TE := fun σ H Q => t σ H fun xs H1 => xs.length ≤ sizeLine ∧ ∀ p, H1 p = none → Q (.ref p) (upd H1 p (.tup xs))
def tLst (t : TA) : TE := fun σ H Q => t σ H fun xs H1 => xs.length ≤ sizeLine ∧ ∀ p, H1 p = none → Q (.ref p) (upd H1 p (.lst xs))
theorem pe_tup {x1} (h : PA X es t) : PE X (.Tuple es x1 pos) (tTup t) := by
  intro pins s σ H Q I hq
  refine wpAny_Tuple_spliced (thn (h pos pins s σ H _ I hq) fun us s1 ⟨xs, H1, I1, r, z, q⟩ => ⟨by rw [← r.length]; exact z, ?_⟩)
  have hf : H1 s1.heap.objs.size = none := I1.hok.fresh (Nat.le_refl _)
  refine ⟨.ref s1.heap.objs.size, upd H1 s1.heap.objs.size (.tup xs), I1.laid (t' := s1.toks) (fun b u e => Heap.get?_push_of_some _ e) (Nat.le_refl _) ?_, rfl, q _ hf⟩
  exact ⟨z, us, r, ⟨_, Heap.get?_push_size _ rfl, rfl, _, rfl⟩⟩
theorem pe_lst (h : PA X es t) : PE X (.List es pos) (tLst t) := by
  intro pins s σ H Q I hq
  refine wpAny_List_spliced (thn (h pos pins s σ H _ I hq) fun us s1 ⟨xs, H1, I1, r, z, q⟩ => ⟨by rw [← r.length]; exact z, ?_⟩)
  have hf : H1 s1.heap.objs.size = none := I1.hok.fresh (Nat.le_refl _)
  refine ⟨.ref s1.heap.objs.size, upd H1 s1.heap.objs.size (.lst xs), I1.laid (t' := s1.toks) (fun b u e => Heap.get?_push_of_some _ e) (Nat.le_refl _) ?_, rfl, q _ hf⟩
  exact ⟨z, us, 0, r, Heap.get?_push_size _ rfl⟩
end
abbrev Sp := List V → Hp → VK → XK → Prop
abbrev CXT := List Env → Hp → Shared → XK → Value → Shared → Prop
structure Env0 (P : Program) (w : World) (K : PySem.W.Frag) (mg : Str → Option Value) (base : Heap) (A : Around) (outer : List Env) (s : Shared) (H : Hp) : Prop where
  frames : A.frames = some outer
  mod : Mod K mg base
  bs : ∀ b o, base.get? b = some o → s.heap.get? b = some o ∧ H b = none
  bsz : base.objs.size ≤ s.heap.objs.size
  funs : s.heap.FunFrames base outer
  frf : ∀ b ∈ frs outer, H b = none
  hok : HOk P w H s.heap
  bare : AllBare s.gens
def CE (outer : List Env) (P : Program) (w : World) (H : Hp) (s : Shared) (Q : VK) (u : Value) (s' : Shared) : Prop :=
  ∃ v H', s'.os = s.os ∧ AllBare s'.gens ∧ Un (frs outer) [] H H' s.heap s'.heap ∧ HOk P w H' s'.heap ∧ RelV v u ∧ Q v H'
def CR (CX : CXT) (outer : List Env) (P : Program) (w : World) (H : Hp) (s : Shared) (Q : VK) (E : XK) (r : Result) (s' : Shared) : Prop :=
  match r with
  | .ok (.ret u) => CE outer P w H s Q u s'
  | .ok _ => False
  | .error e => CX outer H s E e s'
structure FnOk (P : Program) (w : World) (K : PySem.W.Frag) (mg : Str → Option Value) (base : Heap) (CX : CXT) (k : Nat) (f : Addr) (fd : FuncData) (ps : List Str) (sp : Sp) : Prop where
  len : ∀ vs H Q E, sp vs H Q E → vs.length = ps.length
  run : ∀ (A : Around) (outer : List Env) (s : Shared) (H : Hp) (args : Args) (us : List Value) (vs : List V) (Q : VK) (E : XK), Room k A → Env0 P w K mg base A outer s H → BindsTo s fd args (ps.zip us) → Vals vs us → sp vs H Q E →
    codeAny (model P w) A (.call (.ref f) args) (CR CX outer P w H s Q E) s
theorem Env0.make {P : Program} {w : World} {K : PySem.W.Frag} {mg : Str → Option Value} {base : Heap} {A : Around} {outer : List Env} {s : Shared} {H : Hp} (e : Env0 P w K mg base A outer s H) (C : Addr) (us : List Value) (kw : List (Str × Value)) :
    Env0 P w K mg base (A.under (.builtin "type.__call__" ⟨.ref C :: us, kw⟩)) outer s H := ⟨by first | exact e.frames | (simpa [Around.under, Code.envs, Code.isFrame, pushEnvs] using e.frames), e.mod, e.bs, e.bsz, e.funs, e.frf, e.hok, e.bare⟩
section
variable {X : Cx} {pins : List (Addr × Obj)} {σ : St} {H : Hp} {s s' : Shared}
theorem Inv.env0 (I : Inv X pins σ H s) : Env0 X.prog X.w X.K X.mg X.base X.A X.stack s H :=
  ⟨I.ok.frames, I.ok.mod, I.bs, Nat.le_trans I.ok.bsz I.sz, I.stack, I.stkFree, I.hok, I.bare⟩
theorem Inv.after {Q : VK} {u : Value} (I : Inv X pins σ H s) (h : CE X.stack X.prog X.w H s Q u s') : EP X pins σ Q u s' := by
  obtain ⟨v, H', os, bare, un, hok, r, q⟩ := h
  obtain ⟨hh, g, d, t, os'⟩ := s'
  obtain rfl : os' = s.os := os
  exact ⟨v, H', I.call (h' := hh) (g' := g) (d' := d) (t' := t) (ch := []) un hok bare (fun b z => absurd z (by simp)), r, q⟩
end
def tCall (sp : Sp) (dvs : List V) (E : XK) (t : TA) : TE := fun σ H Q => t σ H fun vs H1 => sp (vs ++ dvs) H1 Q E
def tMeth (C : Addr) (m : Str) (sp : Sp) (dvs : List V) (E : XK) (ta : TE) (t : TA) : TE := fun σ H Q => ta σ H fun x H1 => ∃ a dx fs, x = .ref a ∧ H1 a = some (.ins C dx fs) ∧ fs.lookup m = none ∧
  t σ H1 fun vs H2 => sp (x :: (vs ++ dvs)) H2 Q E
def tMake (C : Addr) (sp : Sp) (dvs : List V) (E : XK) (t : TA) : TE := fun σ H Q => t σ H fun vs H1 => ∀ x dx, H1 x = none → H1 dx = none → dx ≠ x →
  sp (.ref x :: (vs ++ dvs)) (upd (upd H1 dx (.own x)) x (.ins C dx [])) (fun v H2 => v = .non ∧ Q (.ref x) H2) E
def Binds (K : PySem.W.Frag) (fd : FuncData) (ps : List Str) (ds : List Value) : Prop :=
  ∀ (s : Shared) (us : List Value), K.In s.heap → (us ++ ds).length = ps.length → BindsTo s fd ⟨us, []⟩ (ps.zip (us ++ ds))
theorem Binds.all {K : PySem.W.Frag} {fd : FuncData} {ps : List Str} (h : ∀ us : List Value, us.length = ps.length → bindArgs fd ⟨us, []⟩ = pure (ps.zip us)) : Binds K fd ps [] := fun s us _ hl => by
  rw [List.append_nil] at hl ⊢
  exact .of_eq (h us hl)
def Passes (CX : CXT) (X : Cx) (E : XK) : Prop := ∀ (pins : List (Addr × Obj)) (σ : St) (H : Hp) (s : Shared) (e : Value) (s' : Shared), Inv X pins σ H s → CX X.stack H s E e s' → X.xe e s'
section
variable {X : Cx} {CX : CXT} {k : Nat} {f C : Addr} {fd : FuncData} {ps : List Str} {sp : Sp} {dvs : List V} {ds : List Value} {E : XK} {x m : Str} {p pos apos : Pos} {e o : Expr} {es : List Expr} {ta : TE} {t : TA}
theorem run_fn {pins : List (Addr × Obj)} {σ : St} {H : Hp} {s : Shared} {Q : VK} {us : List Value} {vs : List V} (F : FnOk X.prog X.w X.K X.mg X.base CX k f fd ps sp) (hr : Room k X.A) (hb : Binds X.K fd ps ds) (hd : Vals dvs ds) (hx : Passes CX X E)
    (I : Inv X pins σ H s) (r : Vals vs us) (h : sp (vs ++ dvs) H Q E) : wpAny (model X.prog X.w) X.A (call (.ref f) us) (EP X pins σ Q) X.xe s := by
  have r2 : Vals (vs ++ dvs) (us ++ ds) := r.append hd
  have hl : (us ++ ds).length = ps.length := by rw [← r2.length]; exact F.len _ _ _ _ h
  refine wpAny_call (codeAny_mono (F.run X.A X.stack s H ⟨us, []⟩ (us ++ ds) (vs ++ dvs) Q E hr I.env0 (hb s us I.kIn hl) r2 h) fun r s' hq => ?_)
  cases r with
  | error e => exact hx pins σ H s e s' I hq
  | ok fl =>
    cases fl with
    | ret u => exact I.after hq
    | next => exact False.elim hq
    | brk => exact False.elim hq
    | cont => exact False.elim hq
theorem pe_call (F : FnOk X.prog X.w X.K X.mg X.base CX k f fd ps sp) (hr : Room k X.A) (hg : Gl X x) (hm : X.mg x = some (.ref f)) (hk : PySem.W.keepIn X.K (.ref f) = true) (hb : Binds X.K fd ps ds) (hd : Vals dvs ds) (hx : Passes CX X E)
    (ha : PA X (e :: es) t) (hdb : (x == ("__debug__" : Str)) = false := by decide) (he : starEach (e :: es) X.env = (false, eval e X.env) :: starEach es X.env := by rfl) (hpl : (backTo pos (starEach es X.env)).any (·.1) = false := by rfl) :
    PE X (.Call (.Name x p) (e :: es) [] pos) (tCall sp dvs E t) := by
  intro pins s σ H Q I h
  refine wpAny_Call_Name_kw (ld_glob I hg hm ?_ hdb)
  refine PySem.W.callWith_K (h₀ := X.base) I.ok.mod.kin hk (thn (ha pos pins s σ H _ I h) fun us s1 ⟨vs, H1, I1, r, q⟩ => ⟨I1.kIn, ?_⟩) he hpl
  exact run_fn F hr hb hd hx I1 r q
theorem pe_meth {pl : Sem Bool} (he : PE X o ta) (c : Cls X.K C) (hm : Meth X.K C m f) (F : FnOk X.prog X.w X.K X.mg X.base CX k f fd ps sp) (hr : Room k X.A) (hb : Binds X.K fd ps ds) (hd : Vals dvs ds) (hx : Passes CX X E) (ha : PA X (e :: es) t)
    (hst : starEach (e :: es) X.env = (false, eval e X.env) :: starEach es X.env := by rfl) (hpl : (backTo pos (starEach es X.env)).any (·.1) = false := by rfl)
    (ht : eval (.Call (.Attribute o m apos) (e :: es) [] pos) X.env = (do
      let ov ← eval o X.env
      standAt apos.atName
      let (f, first) ← holding [ov] (getMethod ov m pl)
      callWith pos f first (backTo pos (starEach (e :: es) X.env)) (backToKw pos (keywordEach [] X.env))) := by rfl) :
    PE X (.Call (.Attribute o m apos) (e :: es) [] pos) (tMeth C m sp dvs E ta t) := by
  intro pins s σ H Q I h
  refine PySem.W.methodCall_KW (pl := pl) (thn (he pins s σ H _ I h) fun u s1 ⟨x, H1, I1, rx, a, dx, fs, ex, ea, l, q⟩ => ?_) ht
  subst ex
  obtain rfl : u = Value.ref a := rx
  refine getmeth_ok I1 ea c hm l ?_
  refine PySem.W.callWith_K (first := [.ref a]) (h₀ := X.base) I.ok.mod.kin hm.kp (thn (ha pos pins s1 σ H1 _ I1 q) fun us s2 ⟨vs, H2, I2, r, q2⟩ => ⟨I2.kIn, ?_⟩) hst hpl
  exact run_fn (us := .ref a :: us) (vs := .ref a :: vs) F hr hb hd hx I2 (.cons rfl r) q2
structure Mk (K : PySem.W.Frag) (C f : Addr) : Prop where
  makes : PySem.W.makesIn K C = true
  init : PySem.W.findIn K (.ref C) "__init__" = some (some (.ref f))
  fn : PySem.W.isFn K (.ref f) = true
  kp : PySem.W.keepIn K (.ref C) = true
theorem run_make {pins : List (Addr × Obj)} {σ : St} {H : Hp} {s : Shared} {Q : VK} {us : List Value} {vs : List V} (M : Mk X.K C f) (F : FnOk X.prog X.w X.K X.mg X.base CX k f fd ps sp) (hr : Room (k + 1) X.A) (hb : Binds X.K fd ps ds) (hd : Vals dvs ds)
    (hx : Passes CX X E) (I : Inv X pins σ H s) (r : Vals vs us)
    (h : ∀ x dx, H x = none → H dx = none → dx ≠ x → sp (.ref x :: (vs ++ dvs)) (upd (upd H dx (.own x)) x (.ins C dx [])) (fun v H2 => v = .non ∧ Q (.ref x) H2) E) :
    wpAny (model X.prog X.w) X.A (call (.ref C) us) (EP X pins σ Q) X.xe s := by
  have hq := h (s.heap.objs.size + 1) s.heap.objs.size (I.hok.fresh (Nat.le_succ _)) (I.hok.fresh (Nat.le_refl _)) (Nat.ne_of_lt (Nat.lt_succ_self _))
  have I2 := Inv.made (C := C) I
  have r2 : Vals (V.ref (s.heap.objs.size + 1) :: (vs ++ dvs)) (Value.ref (s.heap.objs.size + 1) :: (us ++ ds)) := .cons rfl (r.append hd)
  have hl : (Value.ref (s.heap.objs.size + 1) :: us ++ ds).length = ps.length := by
    have e := r2.length
    rw [F.len _ _ _ _ hq] at e
    exact e.symm
  refine wpAny_call (make_map (f := f) I.kIn M.makes M.init (beq_iff_eq.mp M.fn) (codeAny_mono (F.run _ X.stack _ _ ⟨Value.ref (s.heap.objs.size + 1) :: us, []⟩ (Value.ref (s.heap.objs.size + 1) :: (us ++ ds)) _ _ E (hr.make C us [])
    (I2.env0.make C us []) (hb _ (Value.ref (s.heap.objs.size + 1) :: us) I2.kIn hl) r2 hq) fun r s' hq' => ?_))
  cases r with
  | error e => exact hx pins σ _ _ e s' I2 hq'
  | ok fl =>
    cases fl with
    | ret u =>
      obtain ⟨v, H', I3, rv, ev, q3⟩ := I2.after hq'
      subst ev
      exact ⟨rv, ⟨V.ref (s.heap.objs.size + 1), H', I3, rfl, q3⟩⟩
    | next => exact False.elim hq'
    | brk => exact False.elim hq'
    | cont => exact False.elim hq'
theorem pe_make (M : Mk X.K C f) (F : FnOk X.prog X.w X.K X.mg X.base CX k f fd ps sp) (hr : Room (k + 1) X.A) (hg : Gl X x) (hm : X.mg x = some (.ref C)) (hb : Binds X.K fd ps ds) (hd : Vals dvs ds) (hx : Passes CX X E)
    (ha : PA X (e :: es) t) (hdb : (x == ("__debug__" : Str)) = false := by decide) (he : starEach (e :: es) X.env = (false, eval e X.env) :: starEach es X.env := by rfl) (hpl : (backTo pos (starEach es X.env)).any (·.1) = false := by rfl) :
    PE X (.Call (.Name x p) (e :: es) [] pos) (tMake C sp dvs E t) := by
  intro pins s σ H Q I h
  refine wpAny_Call_Name_kw (ld_glob I hg hm ?_ hdb)
  refine PySem.W.callWith_K (h₀ := X.base) I.ok.mod.kin M.kp (thn (ha pos pins s σ H _ I h) fun us s1 ⟨vs, H1, I1, r, q⟩ => ⟨I1.kIn, ?_⟩) he hpl
  exact run_make M F hr hb hd hx I1 r q
end
section
variable {X : Cx} {CX : CXT} {k : Nat} {f C : Addr} {fd : FuncData} {ps ks : List Str} {sp : Sp} {E : XK} {x m : Str} {p pos apos kpos : Pos} {e o : Expr} {es : List Expr} {kws : List Keyword} {te ta : TE} {t tk : TA} {nm : Option Str}
variable {g : List Value → List Value → List Value} {gV : List V → List V → List V}
end
structure FnScope (N P : List Str) (sc : Scope) : Prop where
  kind : sc.kind = .function
  co : sc.isCoroutine = false
  gen : sc.isGenerator = false
  nd : N.Nodup
  pre : N.take P.length = P
  par : ∀ x ∈ P, sc.names.lookup x = some .local ∨ sc.names.lookup x = some .cell
  nofree : ∀ y ∈ sc.names, y.2 ≠ .free
theorem bindL_out {kindOf : Str → Option NameKind} {x : Str} : ∀ {binds : List (Str × Value)} {m : Str → Option Value}, (∀ v, (x, v) ∉ binds) → bindL kindOf binds m x = m x
  | [], _, _ => rfl
  | (n, v) :: r, m, h => by
    unfold bindL
    rw [bindL_out fun w hw => h w (List.mem_cons_of_mem _ hw)]
    split
    · have : x ≠ n := by rintro rfl; exact h v List.mem_cons_self
      simp [this]
    · rfl
theorem bindC_out {kindOf : Str → Option NameKind} {x : Str} : ∀ {binds : List (Str × Value)} {m : Str → Option Value}, (∀ v, (x, v) ∉ binds) → bindC kindOf binds m x = m x
  | [], _, _ => rfl
  | (n, v) :: r, m, h => by
    unfold bindC
    rw [bindC_out fun w hw => h w (List.mem_cons_of_mem _ hw)]
    split
    · rfl
    · have : x ≠ n := by rintro rfl; exact h v List.mem_cons_self
      simp [this]
theorem bindL_get {kindOf : Str → Option NameKind} {x : Str} {v : Value} : ∀ {P : List Str} {vs : List Value} {i : Nat} {m : Str → Option Value}, P.Nodup → P[i]? = some x → vs[i]? = some v → kindOf x = some .local →
    bindL kindOf (P.zip vs) m x = some v
  | [], _, _, _, _, h, _, _ => by simp at h
  | _ :: _, [], _, _, _, _, h, _ => by simp at h
  | p :: P, w :: vs, 0, m, nd, h1, h2, hk => by
    simp at h1 h2; subst h1; subst h2
    show bindL kindOf ((p, w) :: P.zip vs) m p = _
    unfold bindL
    rw [bindL_out fun v hv => (List.nodup_cons.mp nd).1 (List.of_mem_zip hv).1, if_pos hk]
    simp
  | p :: P, w :: vs, i + 1, m, nd, h1, h2, hk => by
    show bindL kindOf ((p, w) :: P.zip vs) m x = _
    unfold bindL
    exact bindL_get (i := i) (List.nodup_cons.mp nd).2 (by simpa using h1) (by simpa using h2) hk
theorem bindC_get {kindOf : Str → Option NameKind} {x : Str} {v : Value} : ∀ {P : List Str} {vs : List Value} {i : Nat} {m : Str → Option Value}, P.Nodup → P[i]? = some x → vs[i]? = some v → kindOf x ≠ some .local →
    bindC kindOf (P.zip vs) m x = some v
  | [], _, _, _, _, h, _, _ => by simp at h
  | _ :: _, [], _, _, _, _, h, _ => by simp at h
  | p :: P, w :: vs, 0, m, nd, h1, h2, hk => by
    simp at h1 h2; subst h1; subst h2
    show bindC kindOf ((p, w) :: P.zip vs) m p = _
    unfold bindC
    rw [bindC_out fun v hv => (List.nodup_cons.mp nd).1 (List.of_mem_zip hv).1, if_neg hk]
    simp
  | p :: P, w :: vs, i + 1, m, nd, h1, h2, hk => by
    show bindC kindOf ((p, w) :: P.zip vs) m x = _
    unfold bindC
    exact bindC_get (i := i) (List.nodup_cons.mp nd).2 (by simpa using h1) (by simpa using h2) hk
def start (N : List Str) (vs : List V) : St := vs.map some ++ List.replicate (N.length - vs.length) none
def cxOf (CX : CXT) (P : Program) (w : World) (K : PySem.W.Frag) (mg : Str → Option Value) (base : Heap) (N : List Str) (qual : Str) (scope : Scope) (f : Addr) (cd : Value) (A : Around) (outer : List Env) (s : Shared) (H : Hp) (E : XK) : Cx where
  prog := P
  w := w
  K := K
  mg := mg
  base := base
  A := A.deeper (envOfC qual scope s.heap.objs.size f cd)
  N := N
  s₀ := s
  H₀ := H
  env := envOfC qual scope s.heap.objs.size f cd
  outer := outer
  stack := envOfC qual scope s.heap.objs.size f cd :: outer
  ex := []
  calm := true
  fn := fun _ => true
  pn := []
  xe := fun e s' => wpAny (model P w) (A.deeper (envOfC qual scope s.heap.objs.size f cd)) (leaving (envOfC qual scope s.heap.objs.size f cd) e) (fun _ s'' => CX outer H s E e s'') (fun e' s'' => CX outer H s E e' s'') s'
theorem cell_has {sc : Scope} {n : Nat} {x : Str} (h : sc.names.lookup x = some .cell) : ∃ c, (cellsFrom n sc.names []).lookup x = some c := by
  have q := PySem.W.cellsFrom_some sc.names n [] (.inl h)
  exact Option.isSome_iff_exists.mp q
theorem inv_start {CX : CXT} {P : Program} {w : World} {K : PySem.W.Frag} {mg : Str → Option Value} {base : Heap} {N ps : List Str} {qual : Str} {scope : Scope} {f : Addr} {cd : Value} {A : Around} {outer : List Env} {s s1 : Shared} {H : Hp} {E : XK} {us : List Value} {vs : List V}
    (S : FnScope N ps scope) (hd : A.handled = none) (e0 : Env0 P w K mg base A outer s H) (hl : vs.length = ps.length) (r : Vals vs us)
    (x : InCallC s s.heap.objs.size (bindL (envOfC qual scope s.heap.objs.size f cd).kindOf (ps.zip us) fun _ => none) (cellsFrom (s.heap.objs.size + 1) scope.names []) (bindC (envOfC qual scope s.heap.objs.size f cd).kindOf (ps.zip us) fun _ => none) s1) :
    Inv (cxOf CX P w K mg base N qual scope f cd A outer s H E) [] (start N vs) H s1 := by
  have hpl : ps.length ≤ N.length := by have := congrArg List.length S.pre; rw [List.length_take] at this; omega
  obtain ⟨h1, tk, rfl, hk⟩ := x.done
  have noA : ∀ b : Addr, b ∉ (cxOf CX P w K mg base N qual scope f cd A outer s H E).ex := fun b z => absurd (show b ∈ ([] : List Addr) from z) (by simp)
  refine ⟨⟨e0.mod, S.kind, rfl, rfl, Nat.le_refl _, fun y z c h1 h2 => ?_, fun y hy => ?_, fun y c _ h => ?_, fun _ => hd, Around.frames_deeper e0.frames, .inr ⟨rfl, rfl⟩, fun b z => absurd z (noA b), e0.bs, e0.bsz, fun b _ _ => noA b, fun b z => absurd z (noA b), e0.funs, e0.frf⟩,
    rfl, e0.bare, Un.kept hk, ⟨_, x.toInCall.ns, fun i y v h1 h2 h3 => ?_⟩, fun y c h => ⟨_, x.cell y c h⟩, e0.hok.fresh (Nat.le_refl _), fun y c h => ?_, fun p hp => absurd (show p ∈ ([] : List (Addr × Obj)) from hp) (by simp), e0.hok.kept hk, ?_⟩
  · exact name_of_addr x.apart (PySem.mem_of_lookup h1) (PySem.mem_of_lookup h2)
  · have hy : scope.names.lookup y = some .cell ∨ scope.names.lookup y = some .free := hy
    rcases hy with hy | hy
    · exact cell_has hy
    · exact absurd rfl (S.nofree _ (PySem.mem_of_lookup hy))
  · exact Nat.le_of_lt (x.above y c (PySem.mem_of_lookup h))
  · have hi : i < vs.length := by
      unfold start at h2
      by_cases hi : i < vs.length
      · exact hi
      · rw [List.getElem?_append_right (by simpa using hi)] at h2
        rw [List.getElem?_replicate] at h2
        split at h2 <;> cases h2
    have ha : vs[i]? = some v := by
      unfold start at h2
      rw [List.getElem?_append_left (by simpa using hi), List.getElem?_map] at h2
      cases e : vs[i]? with
      | none => rw [e] at h2; cases h2
      | some a => rw [e] at h2; cases h2; rfl
    obtain ⟨u, hu, rv⟩ := r.get ha
    have hp : ps[i]? = some y := by
      rw [← S.pre, List.getElem?_take_of_lt (by omega)]; exact h1
    have ndP : ps.Nodup := by rw [← S.pre]; exact S.nd.sublist (List.take_sublist _ _)
    refine ⟨u, rv, ?_⟩
    rcases S.par y (List.mem_of_getElem? hp) with k | k
    · exact .inl ⟨k, bindL_get ndP hp hu k⟩
    · obtain ⟨c, e⟩ := cell_has (n := s.heap.objs.size + 1) k
      refine .inr ⟨.inl k, c, e, ?_⟩
      have q := x.cell y c e
      rw [bindC_get ndP hp hu (by show scope.names.lookup y ≠ _; rw [k]; decide)] at q
      exact q
  · exact e0.hok.fresh (Nat.le_of_lt (x.above y c (PySem.mem_of_lookup h)))
  · unfold start
    show _ = N.length
    rw [List.length_append, List.length_map, List.length_replicate]
    omega
theorem fn_of {CX : CXT} {P : Program} {w : World} {K : PySem.W.Frag} {mg : Str → Option Value} {base : Heap} {k : Nat} {f : Addr} {name qual : Str} {params : Arguments} {body : List Stmt} {scope : Scope} {dV kV doc pm cdv ct oc : Value} {an od : Option Addr}
    {osl : Array (Option Value)} {N ps : List Str} {sp : Sp} (lk : K.lookup f = some ⟨oc, od, .func (PySem.W.fnOf name qual params body scope dV kV doc pm an cdv ct), osl⟩) (hcd : PySem.W.codeIn K cdv qual = true) (S : FnScope N ps scope)
    (len : ∀ vs H Q E, sp vs H Q E → vs.length = ps.length)
    (hbody : ∀ (A : Around) (outer : List Env) (s : Shared) (H : Hp) (vs : List V) (Q : VK) (E : XK), Room k (A.deeper (envOfC qual scope s.heap.objs.size f cdv)) → sp vs H Q E →
      ∃ t, PSs (cxOf CX P w K mg base N qual scope f cdv A outer s H E) body t ∧ t { nx := fun _ H' => Q .non H', rt := Q } (start N vs) H) :
    FnOk P w K mg base CX (k + 1) f (PySem.W.fnOf name qual params body scope dV kV doc pm an cdv ct) ps sp := by
  refine ⟨len, fun A outer s H args us vs Q E hr e0 hb r hsp => ?_⟩
  have hl := len _ _ _ _ hsp
  have KX : K.In s.heap := e0.mod.kin.keeps fun b o e => (e0.bs b o e).1
  have lim : s.heap.NoLimit := e0.mod.nolimit.keeps fun b o e => (e0.bs b o e).1
  have hkind : ∀ y ∈ ps.zip us, scope.names.lookup y.1 = some .local ∨ (scope.names.lookup y.1 = some .cell ∧ ((cellsFrom (s.heap.objs.size + 1) scope.names []).lookup y.1).isSome = true) := fun ⟨n, v⟩ hy => by
    rcases S.par n (List.of_mem_zip hy).1 with q | q
    · exact .inl q
    · exact .inr ⟨q, PySem.W.cellsFrom_some _ _ _ (.inl q)⟩
  refine codeAny_call_function hr.depth (KX _ _ lk) rfl S.co S.gen rfl (PySem.W.codeRec_of KX hcd) (hb _ _ _ _ ?_)
  refine wpAny_newFunctionEnv_cells S.kind hkind fun env he s1 x => ?_
  subst he
  refine ⟨lim.keeps x.toInCall.keep, codeAny_func ?_⟩
  obtain ⟨t, ht, hq⟩ := hbody A outer s H vs Q E (hr.deeper _) hsp
  have I : Inv (cxOf CX P w K mg base N qual scope f cdv A outer s H E) [] (start N vs) H s1 := inv_start S hr.hd e0 hl r x
  refine wpAny_mono (ht [] s1 (start N vs) H _ I hq) (fun fl s' hs => ?_) fun e s' hs => hs
  have fin : ∀ {σ' : St} {H' : Hp} {v : V} {u : Value}, Inv (cxOf CX P w K mg base N qual scope f cdv A outer s H E) [] σ' H' s' → RelV v u → Q v H' → CE outer P w H s Q u s' :=
    fun {σ' H' v u} J rv q => ⟨v, H', J.os, J.bare, J.base, J.hok, rv, q⟩
  cases fl with
  | ret u =>
    obtain ⟨v, σ', H', J, rv, q⟩ := hs
    exact fin J rv q
  | next =>
    obtain ⟨σ', H', J, q⟩ := hs
    exact fin (v := V.non) (u := Value.none) J rfl q
  | brk =>
    obtain ⟨_, _, _, q⟩ := hs
    exact False.elim q
  | cont =>
    obtain ⟨_, _, _, q⟩ := hs
    exact False.elim q
end L2
namespace L2
open PySem PySem.Spec PyProof.Rows
section
variable {X : Cx} {x : Str} {p pos : Pos} {e : Expr} {es : List Expr} {t : TA} {id T : String} {r : List V → Hp → VK → Prop}
def tCB (r : List V → Hp → VK → Prop) (t : TA) : TE := fun σ H Q => t σ H fun vs H1 => r vs H1 Q
theorem pe_callB (hc : CallR X (.builtin id) r) (hg : Gl X x) (hm : X.mg x = none) (hv : bootBuiltins x = some (.builtin id)) (ha : PA X (e :: es) t) (hn : x ≠ "__name__" := by decide) (hdb : (x == ("__debug__" : Str)) = false := by decide)
    (he : starEach (e :: es) X.env = (false, eval e X.env) :: starEach es X.env := by rfl) (hpl : (backTo pos (starEach es X.env)).any (·.1) = false := by rfl) : PE X (.Call (.Name x p) (e :: es) [] pos) (tCB r t) := by
  intro pins s σ H Q I h
  refine wpAny_Call_Name_kw (ld_blt I hg hm hv ?_ hn hdb)
  exact PyProof.Rows.callWith_builtin1 (thn (ha pos pins s σ H _ I h) fun us s1 ⟨vs, H1, I1, r1, q1⟩ => hc pins s1 σ H1 vs us Q I1 r1 q1) he hpl
theorem pe_callTy (hc : CallR X (.type T) r) (hg : Gl X x) (hm : X.mg x = none) (hv : bootBuiltins x = some (.type T)) (ha : PA X (e :: es) t) (hn : x ≠ "__name__" := by decide) (hdb : (x == ("__debug__" : Str)) = false := by decide)
    (he : starEach (e :: es) X.env = (false, eval e X.env) :: starEach es X.env := by rfl) (hpl : (backTo pos (starEach es X.env)).any (·.1) = false := by rfl) : PE X (.Call (.Name x p) (e :: es) [] pos) (tCB r t) := by
  intro pins s σ H Q I h
  refine wpAny_Call_Name_kw (ld_blt I hg hm hv ?_ hn hdb)
  exact PyProof.Rows.callWith_type1 (thn (ha pos pins s σ H _ I h) fun us s1 ⟨vs, H1, I1, r1, q1⟩ => hc pins s1 σ H1 vs us Q I1 r1 q1) he hpl
end
end L2
namespace HT
open PySem PyProof.Rows
section
open PySem.SeqAt
open PySem.AutoSeq1 (wpAny_loadPart')
open PySem.MeetsSeq PySem.MeetsSeq2 PySem.MeetsSeq3
end
section
variable {prog : Program} {w : World} {A : Around} {E : Value → Shared → Prop} {s : Shared}
def sIx (n d : Nat) : Option Int → Nat
  | none => d
  | some v => if v < 0 then (v + (n : Int)).toNat else min v.toNat n
theorem sIx_none (n d : Nat) : sIx n d none = d := rfl
theorem sIx_nat (n d k : Nat) : sIx n d (some (k : Int)) = min k n := by
  show (if (k : Int) < 0 then ((k : Int) + (n : Int)).toNat else min (k : Int).toNat n) = min k n
  rw [if_neg (by omega), Int.toNat_natCast]
end
end HT
namespace L2
open PySem PySem.Spec PyProof.Rows
abbrev TO := St → Hp → (Option Int → Hp → Prop) → Prop
def PO (X : Cx) (e : Option Expr) (t : TO) : Prop :=
  ∀ (pins : List (Addr × Obj)) (s : Shared) (σ : St) (H : Hp) (Q : Option Int → Hp → Prop), Inv X pins σ H s → t σ H Q →
    wpAny (model X.prog X.w) X.A (evalPart e X.env) (fun u s' => ∃ o H', Inv X pins σ H' s' ∧ IsPart u o ∧ Q o H') X.xe s
def tNoPart : TO := fun _ H Q => Q none H
def tPart (t : TE) : TO := fun σ H Q => t σ H fun x H1 => ∃ i, x = .int i ∧ Q (some i) H1
section
variable {X : Cx} {e : Expr} {te : TE} {lo hi : Option Expr} {tl th : TO} {pos p2 : Pos}
theorem po_none : PO X none tNoPart := by
  intro pins s σ H Q I h
  rw [evalPart_none]
  exact wpAny_pure ⟨none, H, I, .none, h⟩
theorem po_some (h : PE X e te) : PO X (some e) (tPart te) := by
  intro pins s σ H Q I hw
  rw [evalPart_some]
  refine thn (h pins s σ H _ I hw) fun u s1 ⟨x, H1, I1, r1, q1⟩ => ?_
  obtain ⟨i, rfl, q⟩ := q1
  obtain ⟨t, rfl⟩ := r1
  exact ⟨some i, H1, I1, .int i t, q⟩
def SlR (X : Cx) (r : V → Option Int → Option Int → Hp → VK → Prop) : Prop :=
  ∀ (pins : List (Addr × Obj)) (s : Shared) (σ : St) (H : Hp) (x : V) (v vl vu : Value) (lo hi : Option Int) (sl : Addr) (Q : VK), Inv X pins σ H s → RelV x v → s.heap.IsSliceOf sl vl vu .none → IsPart vl lo → IsPart vu hi → r x lo hi H Q →
    ∃ T id, typeLookup (.type T) "__getitem__" = pure (some (.builtin id)) ∧ s.TypeIs v T ∧ wpAny (model X.prog X.w) X.A (getItem v (.ref sl)) (EP X pins σ Q) X.xe s
def tSl (r : V → Option Int → Option Int → Hp → VK → Prop) (te : TE) (tl th : TO) : TE := fun σ H Q => te σ H fun x H1 => tl σ H1 fun l H2 => th σ H2 fun u H3 => r x l u H3 Q
theorem pe_slice {r : V → Option Int → Option Int → Hp → VK → Prop} (hr : SlR X r) (he : PE X e te) (hl : PO X lo tl) (hu : PO X hi th) : PE X (.Subscript e (.Slice lo hi none p2) pos) (tSl r te tl th) := by
  intro pins s σ H Q I h
  refine Subscript_ (thn (he pins s σ H _ I h) fun v s1 ⟨x, H1, I1, r1, q1⟩ => ?_)
  refine wpAny_Slice (thn (hl pins s1 σ H1 _ I1 q1) fun vl s2 ⟨l, H2, I2, pl, q2⟩ => thn (hu pins s2 σ H2 _ I2 q2) fun vu s3 ⟨u, H3, I3, pu, q3⟩ => ?_)
  rw [evalPart_none]
  refine wpAny_pure ?_
  have I4 : Inv X pins σ H3 { s3 with heap := s3.heap.push { cls := .type "slice", data := .fields #[vl, vu, .none] } } := I3.kept (t' := s3.toks) fun b ob q => Heap.get?_push_of_some _ q
  obtain ⟨T, id, hT, ht, hg⟩ := hr pins { s3 with heap := s3.heap.push { cls := .type "slice", data := .fields #[vl, vu, .none] } } σ H3 x v vl vu l u s3.heap.objs.size Q I4 r1 (Heap.IsSliceOf.new ..) pl pu q3
  show wpAny (model X.prog X.w) X.A (subscriptTail e (.Slice lo hi none p2) v (.ref s3.heap.objs.size)) (EP X pins σ Q) X.xe { s3 with heap := s3.heap.push { cls := .type "slice", data := .fields #[vl, vu, .none] } }
  exact tail_any (ops := [.ref s3.heap.objs.size, v]) ht hT hg (by with_unfolding_all rfl)
def cutV (xs : List V) (lo hi : Option Int) : List V := (xs.drop (HT.sIx xs.length 0 lo)).take (HT.sIx xs.length xs.length hi - HT.sIx xs.length 0 lo)
theorem cutV_length (xs : List V) (lo hi : Option Int) : (cutV xs lo hi).length ≤ xs.length := by
  unfold cutV
  rw [List.length_take, List.length_drop]
  omega
end
end L2
namespace L2
open PySem PySem.Spec PyProof.Rows
def ixN (n : Nat) (i : Int) : Option Nat := if 0 ≤ i then (if i < n then some i.toNat else none) else if -(n : Int) ≤ i then some (i + n).toNat else none
def atI {α : Type} (xs : List α) (i : Int) : Option α := (ixN xs.length i).bind fun j => xs[j]?
theorem ixN_seq {n : Nat} {i : Int} {j : Nat} (h : ixN n i = some j) : seqIndex? i n = some j ∧ j < n ∧ -(n : Int) ≤ i ∧ i < n := by
  unfold ixN at h
  by_cases h0 : 0 ≤ i
  · rw [if_pos h0] at h
    by_cases h1 : i < n
    · rw [if_pos h1] at h
      have e : i.toNat = j := Option.some.inj h
      exact ⟨by rw [seqIndex_of h0 h1, e], by omega, by omega, h1⟩
    · rw [if_neg h1] at h; cases h
  · rw [if_neg h0] at h
    by_cases h1 : -(n : Int) ≤ i
    · rw [if_pos h1] at h
      have e : (i + n).toNat = j := Option.some.inj h
      exact ⟨by rw [seqIndex_neg (by omega) h1, e], by omega, h1, by omega⟩
    · rw [if_neg h1] at h; cases h
theorem atI_get {α : Type} {xs : List α} {i : Int} {v : α} (h : atI xs i = some v) : ∃ j, seqIndex? i xs.length = some j ∧ xs[j]? = some v ∧ j < xs.length ∧ -(xs.length : Int) ≤ i ∧ i < xs.length := by
  unfold atI at h
  cases e : ixN xs.length i with
  | none => rw [e] at h; cases h
  | some j =>
    rw [e] at h
    obtain ⟨h1, h2, h3, h4⟩ := ixN_seq e
    exact ⟨j, h1, h, h2, h3, h4⟩
theorem atI_nat {α : Type} {xs : List α} {j : Nat} {v : α} (h : xs[j]? = some v) : atI xs (j : Int) = some v := by
  have hj : j < xs.length := (List.getElem?_eq_some_iff.mp h).1
  have e : ixN xs.length (j : Int) = some j := by
    unfold ixN
    rw [if_pos (by omega), if_pos (by omega)]; simp
  unfold atI; rw [e]; exact h
theorem atI_last {α : Type} (xs : List α) (v : α) : atI (xs ++ [v]) (-1) = some v := by
  have hl : (xs ++ [v]).length = xs.length + 1 := by simp
  have e : ixN (xs ++ [v]).length (-1) = some xs.length := by
    unfold ixN
    rw [hl, if_neg (by decide), if_pos (by omega)]
    congr 1
    omega
  unfold atI
  rw [e]
  show (xs ++ [v])[xs.length]? = some v
  simp
def PlainIx (b : Expr) : Prop := ∀ o i, subscripted b false o i = operate [o, i] (getItem o i)
def IxR (X : Cx) (r : R2) : Prop :=
  ∀ (value slice : Expr) (pins : List (Addr × Obj)) (s : Shared) (σ : St) (H : Hp) (x y : V) (v u : Value) (Q : VK), Inv X pins σ H s → RelV x v → RelV y u → r x y H Q →
    subscripted slice false v u = operate [v, u] (getItem v u) → wpAny (model X.prog X.w) X.A (subscriptTail value slice v u) (EP X pins σ Q) X.xe s
def MtR (X : Cx) (id : String) (r : V → List V → Hp → VK → Prop) : Prop :=
  ∀ (pins : List (Addr × Obj)) (s : Shared) (σ : St) (H : Hp) (x : V) (xs : List V) (v : Value) (us : List Value) (Q : VK), Inv X pins σ H s → RelV x v → Vals xs us → r x xs H Q →
    wpAny (model X.prog X.w) X.A (call (.builtin id) (v :: us)) (EP X pins σ Q) X.xe s
section
variable {X : Cx} {a b : Expr} {ta tb : TE} {pos : Pos}
theorem pe_ix {r : R2} (hr : IxR X r) (ha : PE X a ta) (hb : PE X b tb) (hs : PlainIx b) : PE X (.Subscript a b pos) (tOp r ta tb) := by
  intro pins s σ H Q I h
  exact Subscript_ (binT ha hb I h fun v u s2 x y H2 I2 rx ry q => hr a b pins s2 σ H2 x y v u Q I2 rx ry q (hs _ _))
def rIxL (K : PySem.W.Frag) : R2 := fun x y H Q => ∃ p xs i v, x = .ref p ∧ y = .int i ∧ SqL K H p xs ∧ atI xs i = some v ∧ Q v H
def rIxT (K : PySem.W.Frag) : R2 := fun x y H Q => ∃ p xs i v, x = .ref p ∧ y = .int i ∧ SqT K H p xs ∧ atI xs i = some v ∧ Q v H
theorem ix_list : IxR X (rIxL X.K) := by
  intro value slice pins s σ H x y v u Q I rx ry h hs
  obtain ⟨p, xs, i, z, rfl, rfl, hq, he, q⟩ := h
  cases rx
  obtain ⟨t, rfl⟩ := ry
  obtain ⟨its, r, pl, hz⟩ := I.list hq
  obtain ⟨j, h1, h2, h3, h4, h5⟩ := atI_get he
  obtain ⟨w, ew, rw'⟩ := r.get h2
  have hl := r.length
  have hn := line63
  have fin : EP X pins σ Q w s := ⟨z, H, I, rw', q⟩
  by_cases h0 : 0 ≤ i
  · have hj : i.toNat = j := by
      rw [seqIndex_of h0 h5] at h1
      exact Option.some.inj h1
    exact item_listR pl.isList h0 (by omega) (by rw [hj]; simpa using ew) fin hs
  · have hj : (i + (its.toArray.size : Int)).toNat = j := by
      rw [seqIndex_neg (by omega) h4] at h1
      rw [List.size_toArray, ← hl]
      exact Option.some.inj h1
    exact subscriptTail_builtinR (x := w) pl.isList.typeIs slot_list_getitem.lookup
      (wpAny_getItem_list_neg (Q := fun r s' => r = w ∧ EP X pins σ Q r s') pl.isList (by omega) (by rw [List.size_toArray] <;> omega) (by omega) (by rw [hj]; simpa using ew) ⟨rfl, fin⟩) hs
theorem ix_tup : IxR X (rIxT X.K) := by
  intro value slice pins s σ H x y v u Q I rx ry h hs
  obtain ⟨p, xs, i, z, rfl, rfl, hq, he, q⟩ := h
  cases rx
  obtain ⟨t, rfl⟩ := ry
  obtain ⟨its, r, pl, hz⟩ := I.tuple hq
  obtain ⟨j, h1, h2, h3, h4, h5⟩ := atI_get he
  obtain ⟨w, ew, rw'⟩ := r.get h2
  have hl := r.length
  have hn := line63
  have fin : EP X pins σ Q w s := ⟨z, H, I, rw', q⟩
  exact subscriptTail_builtinR (x := w) pl.typeIs slot_tuple_getitem.lookup
    (getItem_tuple (j := j) (Q := fun r s' => r = w ∧ EP X pins σ Q r s') pl (by omega) (by omega) (by rw [List.size_toArray, ← hl]; exact h1) (by simpa using ew) ⟨rfl, fin⟩) hs
theorem mapSeq_set (its : List Value) (n j : Nat) (u : Value) : Obj.mapSeq (·.setIfInBounds j u) { cls := .type "list", data := .seq its.toArray n } = { cls := .type "list", data := .seq (its.set j u).toArray n } := by
  simp [Obj.mapSeq]
theorem Inv.lst {pins : List (Addr × Obj)} {σ : St} {H : Hp} {s : Shared} {p : Addr} {xs : List V} (I : Inv X pins σ H s) (h : H p = some (.lst xs)) :
    ∃ (its : List Value) (n : Nat), Vals xs its ∧ s.heap.get? p = some { cls := .type "list", data := .seq its.toArray n } ∧ xs.length ≤ sizeLine := by
  obtain ⟨z, its, n, r, e⟩ := I.hok p _ h
  exact ⟨its, n, r, e, z⟩
theorem Inv.lstUpd {pins : List (Addr × Obj)} {σ : St} {H : Hp} {s : Shared} {p : Addr} {xs ys : List V} {its its' : List Value} {n n' : Nat} {f : Obj → Obj} (I : Inv X pins σ H s) (h : H p = some (.lst xs))
    (ho : s.heap.get? p = some { cls := .type "list", data := .seq its.toArray n }) (hf : f { cls := .type "list", data := .seq its.toArray n } = { cls := .type "list", data := .seq its'.toArray n' }) (r : Vals ys its') (hz : ys.length ≤ sizeLine) (t : Nat) :
    Inv X pins σ (upd H p (.lst ys)) { s with heap := s.heap.update p f, toks := t } := by
  have e : (s.heap.update p f).get? p = some { cls := .type "list", data := .seq its'.toArray n' } := by
    rw [Heap.get?_update_self f ho (by rw [hf] <;> rfl), hf]
  refine I.write (x := p) (e := p) (by rw [h]; trivial) (.inl rfl) (fun b u hb q => (Heap.get?_update_other _ _ (Ne.symm hb)).trans q) ⟨_, e⟩ ?_
  exact ⟨hz, its', n', r, e⟩
def rSetL : V → V → V → Hp → (Hp → Prop) → Prop := fun o i v H Q => ∃ p xs k j, o = .ref p ∧ i = .int k ∧ H p = some (.lst xs) ∧ ixN xs.length k = some j ∧ Q (upd H p (.lst (xs.set j v)))
theorem set_list : PSet X rSetL := by
  intro pins s σ H o i v ov iv u Q I ro ri rv h
  obtain ⟨p, xs, k, j, rfl, rfl, hp, hj, q⟩ := h
  cases ro
  obtain ⟨t, rfl⟩ := ri
  obtain ⟨its, n, r, ho, hz⟩ := I.lst hp
  obtain ⟨h1, h2, h3, h4⟩ := ixN_seq hj
  have hl := r.length
  have hn := line63
  have I' : Inv X pins σ (upd H p (.lst (xs.set j v))) { s with heap := s.heap.update p (Obj.mapSeq (·.setIfInBounds j u)) } :=
    I.lstUpd hp ho (mapSeq_set its n j u) (r.set rv j) (by rw [List.length_set]; exact hz) s.toks
  by_cases h0 : 0 ≤ k
  · have hk : k.toNat = j := by
      rw [seqIndex_of h0 h4] at h1
      exact Option.some.inj h1
    exact PySem.W.ki_setAt ho h0 (by omega) (by rw [List.size_toArray, ← hl]; exact h4) (by rw [hk]; exact ⟨_, I', q⟩)
  · have hk : (k + (its.toArray.size : Int)).toNat = j := by
      rw [seqIndex_neg (by omega) h3] at h1
      rw [List.size_toArray, ← hl]
      exact Option.some.inj h1
    exact PySem.W.ki_setBack ho (by omega) (by rw [List.size_toArray, ← hl]; exact h3) (by omega) (by rw [hk]; exact ⟨_, I', q⟩)
theorem slice_bounds (lo hi : Option Int) (n : Nat) : (sliceBounds lo hi none n).1 = ((HT.sIx n 0 lo : Nat) : Int) ∧ (sliceBounds lo hi none n).2.1 = ((HT.sIx n n hi : Nat) : Int) ∧ (sliceBounds lo hi none n).2.2 = 1 := by
  refine ⟨?_, ?_, rfl⟩
  · cases lo with
    | none => simp [sliceBounds, HT.sIx]
    | some i =>
      simp only [sliceBounds, HT.sIx, Option.getD_none, show (1 : Int) > 0 by decide, if_true]
      by_cases h : i < 0
      · simp only [h, if_true] <;> omega
      · simp only [h, if_false] <;> omega
  · cases hi with
    | none => simp [sliceBounds, HT.sIx]
    | some i =>
      simp only [sliceBounds, HT.sIx, Option.getD_none, show (1 : Int) > 0 by decide, if_true]
      by_cases h : i < 0
      · simp only [h, if_true] <;> omega
      · simp only [h, if_false] <;> omega
theorem slicePick_cut (its : List Value) (lo hi : Option Int) : slicePick its.toArray lo hi none = ((its.drop (HT.sIx its.length 0 lo)).take (HT.sIx its.length its.length hi - HT.sIx its.length 0 lo)).toArray := by
  obtain ⟨h1, h2, h3⟩ := slice_bounds lo hi its.toArray.size
  unfold slicePick
  rw [h1, h2, h3]
  simp only [sliceRange_one, pick_run, List.size_toArray] <;> rfl
def rSlL (K : PySem.W.Frag) : V → Option Int → Option Int → Hp → VK → Prop := fun x lo hi H Q => ∃ a xs, x = .ref a ∧ SqL K H a xs ∧ ∀ p, H p = none → Q (.ref p) (upd H p (.lst (cutV xs lo hi)))
theorem sl_list : SlR X (rSlL X.K) := by
  intro pins s σ H x v vl vu lo hi sl Q I rx hs pl pu h
  obtain ⟨a, xs, rfl, hx, q⟩ := h
  cases rx
  obtain ⟨its, r, ht, hz⟩ := I.list hx
  have hlen := r.length
  refine ⟨"list", _, slot_list_getitem.lookup, ht.isList.typeIs, ?_⟩
  refine wpAny_getItem_list_slice ht.isList hs pl pu .none (by simp) ?_ (by rw [List.size_toArray] <;> omega)
  rw [slicePick_cut, ← hlen]
  refine ⟨.ref s.heap.objs.size, _, I.laid (t' := s.toks) (o := .lst (cutV xs lo hi)) (fun b ob q => Heap.get?_push_of_some _ q) (Nat.le_refl _) ?_, rfl, q _ (I.hok.fresh (Nat.le_refl _))⟩
  exact ⟨Nat.le_trans (cutV_length xs lo hi) hz, _, 0, (r.drop (HT.sIx xs.length 0 lo)).take (HT.sIx xs.length xs.length hi - HT.sIx xs.length 0 lo), Heap.get?_push_size _ rfl⟩
def flatV : V → Bool
  | .non => true
  | .bl _ => true
  | .int _ => true
  | .str _ => true
  | _ => false
def eqV : V → V → Bool
  | .non, .non => true
  | .bl a, .bl b => a == b
  | .bl a, .int b => (if a then 1 else 0) == b
  | .int a, .bl b => a == (if b then 1 else 0)
  | .int a, .int b => a == b
  | .str a, .str b => a == b
  | _, _ => false
theorem eqAt_V {A : Around} {s : Shared} {y x : V} {u v : Value} (ry : RelV y u) (rx : RelV x v) (fy : flatV y = true) (fx : flatV x = true) : SeqAt.EqAt A s u v (eqV y x) := by
  cases y with
  | non =>
    cases ry
    cases x with
    | non => cases rx; exact SeqAt.EqAt.same _
    | bl b => cases rx; exact SeqAt.EqAt.none_bool b
    | int b => obtain ⟨t, rfl⟩ := rx; exact SeqAt.EqAt.none_int b t
    | str b => obtain ⟨t, rfl⟩ := rx; exact SeqAt.EqAt.none_str b t
    | _ => exact absurd (show false = true from fx) Bool.false_ne_true
  | bl a =>
    cases ry
    cases x with
    | non => cases rx; exact SeqAt.EqAt.bool_none a
    | bl b => cases rx; exact SeqAt.EqAt.bool_bool a b
    | int b => obtain ⟨t, rfl⟩ := rx; exact SeqAt.EqAt.bool_int a b t
    | str b => obtain ⟨t, rfl⟩ := rx; exact SeqAt.EqAt.bool_str a b t
    | _ => exact absurd (show false = true from fx) Bool.false_ne_true
  | int a =>
    obtain ⟨t', rfl⟩ := ry
    cases x with
    | non => cases rx; exact SeqAt.EqAt.int_none a t'
    | bl b => cases rx; exact SeqAt.EqAt.int_bool a t' b
    | int b => obtain ⟨t, rfl⟩ := rx; exact SeqAt.EqAt.int_int a t' b t
    | str b => obtain ⟨t, rfl⟩ := rx; exact SeqAt.EqAt.int_str a t' b t
    | _ => exact absurd (show false = true from fx) Bool.false_ne_true
  | str a =>
    obtain ⟨t', rfl⟩ := ry
    cases x with
    | non => cases rx; exact SeqAt.EqAt.str_none a t'
    | bl b => cases rx; exact SeqAt.EqAt.str_bool a t' b
    | int b => obtain ⟨t, rfl⟩ := rx; exact SeqAt.EqAt.str_int a t' b t
    | str b => obtain ⟨t, rfl⟩ := rx; exact SeqAt.EqAt.str_str a t' b t
    | _ => exact absurd (show false = true from fx) Bool.false_ne_true
  | _ => exact absurd (show false = true from fy) Bool.false_ne_true
def eqU (x : V) (u : Value) : Bool := match u with
  | .none => eqV .non x
  | .bool b => eqV (.bl b) x
  | .int i _ => eqV (.int i) x
  | .str z _ => eqV (.str z) x
  | _ => false
theorem eqU_of {x y : V} {u : Value} (r : RelV y u) (f : flatV y = true) : eqU x u = eqV y x := by
  cases y with
  | non => cases r; rfl
  | bl b => cases r; rfl
  | int i => obtain ⟨t, rfl⟩ := r; rfl
  | str z => obtain ⟨t, rfl⟩ := r; rfl
  | _ => exact absurd (show false = true from f) Bool.false_ne_true
theorem any_eqU {x : V} : ∀ {xs : List V} {us : List Value}, Vals xs us → xs.all flatV = true → us.any (eqU x) = xs.any fun y => eqV y x
  | _, _, .nil, _ => rfl
  | y :: xs, u :: us, .cons r t, f => by
    rw [List.all_cons, Bool.and_eq_true] at f
    rw [List.any_cons, List.any_cons, eqU_of r f.1, any_eqU t f.2]
theorem mem_eqAt {A : Around} {s : Shared} {x : V} {v : Value} (rx : RelV x v) (fx : flatV x = true) : ∀ {xs : List V} {us : List Value}, Vals xs us → xs.all flatV = true → ∀ u ∈ us, SeqAt.EqAt A s u v (eqU x u)
  | _, _, .nil, _ => fun u hu => by cases hu
  | y :: xs, u :: us, .cons r t, f => fun u' hu => by
    rw [List.all_cons, Bool.and_eq_true] at f
    rcases List.mem_cons.mp hu with rfl | hu
    · rw [eqU_of r f.1]; exact eqAt_V r rx f.1 fx
    · exact mem_eqAt rx fx t f.2 u' hu
def inV (x : V) (xs : List V) : Bool := xs.any fun y => eqV y x
def rIn (K : PySem.W.Frag) (neg : Bool) : R2 := fun x y H Q => ∃ p xs, y = .ref p ∧ (SqL K H p xs ∨ SqT K H p xs) ∧ flatV x = true ∧ xs.all flatV = true ∧ Q (.bl (if neg then !inV x xs else inV x xs)) H
theorem op_in_seq : OpR X (compareOp .In) (rIn X.K false) := by
  intro pins s σ H x y v u Q I rx ry h
  obtain ⟨p, xs, rfl, hq, fx, fs, q⟩ := h
  cases ry
  rcases hq with hq | hq
  · obtain ⟨its, r, pl, hz⟩ := I.list hq
    refine SeqAt.in_listAt (eqU x) pl.isList (fun w hw => mem_eqAt rx fx r fs w (by simpa using hw)) ⟨.bl _, H, I, rfl, ?_⟩
    rw [show its.toArray.any (eqU x) = its.any (eqU x) by simp, any_eqU r fs]
    exact q
  · obtain ⟨its, r, pl, hz⟩ := I.tuple hq
    refine SeqAt.in_tupleAt (eqU x) pl (fun w hw => mem_eqAt rx fx r fs w (by simpa using hw)) ⟨.bl _, H, I, rfl, ?_⟩
    rw [show its.toArray.any (eqU x) = its.any (eqU x) by simp, any_eqU r fs]
    exact q
theorem call_len_seq : CallR X (.builtin "len") (fun xs H Q => ∃ p ys, xs = [.ref p] ∧ (SqL X.K H p ys ∨ SqT X.K H p ys) ∧ Q (.int ys.length) H) := by
  intro pins s σ H xs us Q I r h
  obtain ⟨p, ys, rfl, hq, q⟩ := h
  obtain ⟨u, rfl, rx⟩ := vals1 r
  cases rx
  have hn := line63
  rcases hq with hq | hq
  · obtain ⟨its, r', pl, hz⟩ := I.list hq
    have hlen := r'.length
    exact Calls.call_len_list pl.isList (by simp only [List.size_toArray] <;> omega) ⟨.int ys.length, H, I.tok _, ⟨s.toks + 1, by rw [List.size_toArray, hlen]⟩, q⟩
  · obtain ⟨its, r', pl, hz⟩ := I.tuple hq
    have hlen := r'.length
    exact len_tuple pl (by simp only [List.size_toArray] <;> omega) ⟨.int ys.length, H, I.tok _, ⟨s.toks + 1, by rw [List.size_toArray, hlen]⟩, q⟩
theorem call_list_of : CallR X (.type "list") (fun xs H Q => ∃ p ys, xs = [.ref p] ∧ (SqL X.K H p ys ∨ SqT X.K H p ys) ∧ ∀ l, H l = none → Q (.ref l) (upd H l (.lst ys))) := by
  intro pins s σ H xs us Q I r h
  obtain ⟨p, ys, rfl, hq, q⟩ := h
  obtain ⟨u, rfl, rx⟩ := vals1 r
  cases rx
  have fin : ∀ (its : List Value), Vals ys its → ys.length ≤ sizeLine → ∀ (h' : Heap) (c' : Nat), (∀ b o', s.heap.get? b = some o' → h'.get? b = some o') →
      h'.get? s.heap.objs.size = some { cls := .type "list", dict := none, data := .seq its.toArray c', slots := #[] } → EP X pins σ Q (.ref s.heap.objs.size) { s with heap := h' } := fun its r' hz h' c' kp e =>
    ⟨.ref s.heap.objs.size, _, I.laid (t' := s.toks) kp (Nat.le_refl _) (show ObjOk X.prog X.w _ h' _ (.lst ys) from ⟨hz, its, c', r', e⟩), rfl, q _ (I.hok.fresh (Nat.le_refl _))⟩
  rcases hq with hq | hq
  · obtain ⟨its, r', pl, hz⟩ := I.list hq
    have hlen := r'.length
    obtain ⟨o, ho, hc, n, hd⟩ := pl.isList
    exact call_list_seq p (.inl rfl) ho hc hd (fun h' c' kp e => fin its r' hz h' c' kp e) (by simp only [List.size_toArray] <;> omega)
  · obtain ⟨its, r', pl, hz⟩ := I.tuple hq
    have hlen := r'.length
    obtain ⟨o, ho, hc, n, hd⟩ := pl
    exact call_list_seq p (.inr rfl) ho hc hd (fun h' c' kp e => fin its r' hz h' c' kp e) (by simp only [List.size_toArray] <;> omega)
def tyV (K : PySem.W.Frag) (T : String) (x : V) (H : Hp) : Prop := match x with
  | .str _ => T = "str"
  | .int _ => T = "int"
  | .ref p => (T = "list" ∧ ∃ xs, SqL K H p xs) ∨ (T = "tuple" ∧ ∃ o, K.lookup p = some o ∧ o.cls = .type "tuple" ∧ o.dict = none) ∨
      (T = "dict" ∧ ((∃ kvs, H p = some (.dK kvs)) ∨ ∃ kvs, H p = some (.dT kvs))) ∨ (T = "set" ∧ ∃ S n, H p = some (.set S n))
  | _ => False
theorem tyV_is {pins : List (Addr × Obj)} {σ : St} {H : Hp} {s : Shared} {T : String} {x : V} {v : Value} (I : Inv X pins σ H s) (r : RelV x v) (ty : tyV X.K T x H) :
    s.TypeIs v T ∧ ∀ a, v = .ref a → ∃ ob, s.heap.get? a = some ob ∧ ob.dict = none := by
  cases x with
  | str z =>
    obtain ⟨t, rfl⟩ := r
    cases (show T = "str" from ty)
    exact ⟨typeIs_str s z t, fun _ e => nomatch e⟩
  | int i =>
    obtain ⟨t, rfl⟩ := r
    cases (show T = "int" from ty)
    exact ⟨typeIs_int s i t, fun _ e => nomatch e⟩
  | ref p =>
    cases r
    rcases ty with ⟨rfl, xs, hq⟩ | ⟨rfl, o, hk, hc, hd⟩ | ⟨rfl, hk⟩ | ⟨rfl, S, n, hk⟩
    · obtain ⟨its, _, pl, _⟩ := I.list hq
      refine ⟨pl.isList.typeIs, fun a e => ?_⟩
      cases e
      obtain ⟨o, n, e, c, hd, _⟩ := pl
      exact ⟨o, e, hd⟩
    · refine ⟨⟨o, I.kIn p o hk, hc⟩, fun a e => ?_⟩
      cases e
      exact ⟨o, I.kIn _ o hk, hd⟩
    · have z : ∃ o, s.heap.get? p = some o ∧ o.ExactDict := by
        rcases hk with ⟨kvs, hk⟩ | ⟨kvs, hk⟩
        · obtain ⟨_, _, _, _, o, _, _, e, ex, _⟩ := I.hok p _ hk
          exact ⟨o, e, ex⟩
        · obtain ⟨_, _, _, _, o, _, _, e, ex, _⟩ := I.hok p _ hk
          exact ⟨o, e, ex⟩
      obtain ⟨o, e, ex⟩ := z
      refine ⟨⟨o, e, ex.1⟩, fun a e2 => ?_⟩
      cases e2
      exact ⟨o, e, ex.2.1⟩
    · obtain ⟨o, _, _, _, e, ex, _⟩ := I.hok p _ hk
      refine ⟨⟨o, e, ex.1⟩, fun a e2 => ?_⟩
      cases e2
      exact ⟨o, e, ex.2.1⟩
  | _ => exact False.elim ty
def tBM0 (K : PySem.W.Frag) (T : String) (r : V → List V → Hp → VK → Prop) (to : TE) : TE := fun σ H Q => to σ H fun x H1 => tyV K T x H1 ∧ r x [] H1 Q
def tBM (K : PySem.W.Frag) (T : String) (r : V → List V → Hp → VK → Prop) (to : TE) (t : TA) : TE := fun σ H Q => to σ H fun x H1 => tyV K T x H1 ∧ t σ H1 fun xs H2 => r x xs H2 Q
variable {o e : Expr} {es : List Expr} {to : TE} {t : TA} {name : Str} {apos cpos : Pos} {T id : String} {r : V → List V → Hp → VK → Prop}
theorem pe_bm0 (pa : PlainAttrs T) (slot : Slot T name id) (hty : typeOf (.builtin id) = pure (.type "method_descriptor")) (hm : MtR X id r) (ho : PE X o to)
    (hbase : attributeBase o name X.env (eval o X.env) = eval o X.env := by rfl) (hline : (apos.endLine == cpos.line) = true := by rfl) : PE X (.Call (.Attribute o name apos) [] [] cpos) (tBM0 X.K T r to) := by
  intro pins s σ H Q I h
  refine wpAny_Call_method0_late hbase hline (thn (ho pins s σ H _ I h) fun v s1 ⟨x, H1, I1, r1, ty, q1⟩ => ?_)
  obtain ⟨h1, h2⟩ := tyV_is I1 r1 ty
  exact ⟨T, id, pa, slot, hty, h1, h2, Calls.callWith_builtin rfl (PySem.evalArgs_none (hm pins s1 σ H1 x [] v [] Q I1 r1 .nil q1))⟩
theorem pe_bm (pa : PlainAttrs T) (slot : Slot T name id) (hty : typeOf (.builtin id) = pure (.type "method_descriptor")) (hm : MtR X id r) (ho : PE X o to) (ha : PA X (e :: es) t)
    (hbase : attributeBase o name X.env (eval o X.env) = eval o X.env := by rfl)
    (hfew : ((backTo cpos (starEach (e :: es) X.env)).all (fun x => !x.1) && (backToKw cpos (keywordEach [] X.env)).all (fun x => x.1.isSome)
      && decide ((e :: es).length + ([] : List Keyword).length + (if ([] : List Keyword).isEmpty then 0 else 1) < 30)) = true := by rfl)
    (hline : (apos.endLine == cpos.line) = true := by rfl) (hs : starEach (e :: es) X.env = (false, eval e X.env) :: starEach es X.env := by rfl) (hplain : (backTo cpos (starEach es X.env)).any (·.1) = false := by rfl) :
    PE X (.Call (.Attribute o name apos) (e :: es) [] cpos) (tBM X.K T r to t) := by
  intro pins s σ H Q I h
  refine wpAny_Call_method_late hbase hfew hline rfl (thn (ho pins s σ H _ I h) fun v s1 ⟨x, H1, I1, r1, ty, q1⟩ => ?_)
  obtain ⟨h1, h2⟩ := tyV_is I1 r1 ty
  refine ⟨T, id, pa, slot, hty, h1, h2, ?_⟩
  have hA := ha cpos pins s1 σ H1 _ I1 q1
  rw [hs] at hA ⊢
  refine Calls.callWith_builtin (by show (false || (backTo cpos (starEach es X.env)).any (·.1)) = false; rw [hplain] <;> rfl) (Calls.evalArgs_plain ?_)
  exact thn hA fun us s2 ⟨vs, H2, I2, r2, q2⟩ => hm pins s2 σ H2 x vs v us Q I2 r1 r2 q2
end
end L2
namespace L2
open PySem PySem.Spec PyProof.Rows
def MtM (X : Cx) (id : String) (r : V → List V → Hp → VK → Prop) : Prop :=
  ∀ (pins : List (Addr × Obj)) (s : Shared) (σ : St) (H : Hp) (x : V) (xs : List V) (v : Value) (us : List Value) (Q : VK), Inv X pins σ H s → RelV x v → Vals xs us → r x xs H Q →
    wpAny (model X.prog X.w) X.A (call (.builtin id) (v :: us)) (EP X pins σ Q) X.xe s
theorem Vals.one : ∀ {x : V} {us : List Value}, Vals [x] us → ∃ u, us = [u] ∧ RelV x u
  | _, _, .cons r .nil => ⟨_, rfl, r⟩
theorem Vals.two : ∀ {x y : V} {us : List Value}, Vals [x, y] us → ∃ u v, us = [u, v] ∧ RelV x u ∧ RelV y v
  | _, _, _, .cons r (.cons q .nil) => ⟨_, _, rfl, r, q⟩
theorem Vals.zero : ∀ {us : List Value}, Vals [] us → us = []
  | _, .nil => rfl
theorem Vals.dropLast {xs : List V} {us : List Value} (h : Vals xs us) : Vals xs.dropLast us.dropLast := by
  induction h with
  | nil => exact .nil
  | cons r t ih =>
    cases t with
    | nil => exact .nil
    | cons q t' => exact .cons r ih
theorem erase_last {α : Type} (l : List α) : l.eraseIdx (l.length - 1) = l.dropLast := by
  induction l with
  | nil => rfl
  | cons a r ih =>
    cases r with
    | nil => rfl
    | cons b r =>
      have e : (a :: b :: r).length - 1 = ((b :: r).length - 1) + 1 := by
        have h1 : (a :: b :: r).length = r.length + 2 := rfl
        have h2 : (b :: r).length = r.length + 1 := rfl
        omega
      rw [e, List.eraseIdx_cons_succ, ih]
      all_goals rfl
section
variable {X : Cx} {pins : List (Addr × Obj)} {σ : St} {H : Hp} {s : Shared} {l b : Addr} {xs ys zs : List V}
theorem Inv.lset {its its' : List Value} {n : Nat} {f : Array Value → Array Value} {t' : Nat} (I : Inv X pins σ H s) (hH : H l = some (.lst xs))
    (e : s.heap.get? l = some { cls := .type "list", data := .seq its.toArray n }) (hf : f its.toArray = its'.toArray) (hv : Vals ys its') (hz : ys.length ≤ sizeLine) :
    Inv X pins σ (upd H l (.lst ys)) { s with heap := s.heap.update l (Obj.mapSeq f), toks := t' } := by
  have q := PySem.IsL.update e f
  rw [hf] at q
  refine I.write (x := l) (e := l) (by rw [hH]; exact trivial) (.inl rfl) (fun b' u hb hu => (Heap.get?_update_other s.heap (Obj.mapSeq f) (Ne.symm hb)).trans hu) ⟨_, q⟩ ?_
  exact ⟨hz, its', _, hv, q⟩
theorem Inv.lnew {its : List Value} {t' : Nat} (I : Inv X pins σ H s) (hv : Vals ys its) (hz : ys.length ≤ sizeLine) :
    Inv X pins σ (upd H s.heap.objs.size (.lst ys)) { s with heap := s.heap.push { cls := .type "list", data := .seq its.toArray }, toks := t' } :=
  I.laid (fun _ _ q => Heap.get?_push_of_some _ q) (Nat.le_refl _) ⟨hz, its, 0, hv, Heap.get?_push_size _ rfl⟩
theorem Inv.fresh (I : Inv X pins σ H s) : H s.heap.objs.size = none := I.hok.fresh (Nat.le_refl _)
theorem Inv.lstM (I : Inv X pins σ H s) (hH : H l = some (.lst xs)) : xs.length ≤ sizeLine ∧ ∃ (its : List Value) (n : Nat), Vals xs its ∧ xs.length = its.length ∧ s.heap.get? l = some { cls := .type "list", data := .seq its.toArray n } := by
  obtain ⟨z, its, n, r, e⟩ := I.hok l _ hH
  exact ⟨z, its, n, r, r.length, e⟩
theorem notLongL {n : Nat} (h : n ≤ sizeLine) : Builtin.List.listTooLong n = false := by
  unfold Builtin.List.listTooLong
  exact decide_eq_false (by omega)
end
section
variable {X : Cx}
def rAppend : V → List V → Hp → VK → Prop := fun x vs H Q => ∃ l xs y, x = .ref l ∧ vs = [y] ∧ H l = some (.lst xs) ∧ xs.length < sizeLine ∧ Q .non (upd H l (.lst (xs ++ [y])))
theorem mt_append : MtM X "list.append" rAppend := by
  intro pins s σ H x vs v us Q I rx rv h
  obtain ⟨l, xs, y, rfl, rfl, hH, hz, q⟩ := h
  cases rx
  obtain ⟨u, rfl, ru⟩ := rv.one
  obtain ⟨z, its, n, r, hl, e⟩ := I.lstM hH
  refine call_meets F.slot_list_append ⟨_, e, rfl⟩ F.entry_list_append (F.args_list_append_2 _ _) (PySem.list_append l its.toArray n u (by rw [List.size_toArray]; omega)) ⟨e, ?_⟩
  refine ⟨.non, _, I.lset (its' := its ++ [u]) hH e (by simp) (r.append (.cons ru .nil)) ?_, rfl, q⟩
  rw [List.length_append, List.length_singleton]
  omega
def rExtend : V → List V → Hp → VK → Prop := fun x vs H Q => ∃ l b xs zs, x = .ref l ∧ vs = [.ref b] ∧ H l = some (.lst xs) ∧ H b = some (.lst zs) ∧ xs.length + zs.length ≤ sizeLine ∧ Q .non (upd H l (.lst (xs ++ zs)))
theorem mt_extend : MtM X "list.extend" rExtend := by
  intro pins s σ H x vs v us Q I rx rv h
  obtain ⟨l, b, xs, zs, rfl, rfl, hH, hB, hz, q⟩ := h
  cases rx
  obtain ⟨u, rfl, ru⟩ := rv.one
  cases ru
  obtain ⟨z, its, n, r, hl, e⟩ := I.lstM hH
  obtain ⟨z2, its2, n2, r2, hl2, e2⟩ := I.lstM hB
  have hsz : its.toArray.size + its2.toArray.size ≤ sizeLine := by rw [List.size_toArray, List.size_toArray]; omega
  have hlong : ¬ (!its.toArray.isEmpty && Builtin.List.listTooLong (its.toArray.size + its2.toArray.size)) = true := by
    rw [notLongL hsz, Bool.and_false]
    exact Bool.false_ne_true
  refine call_meets F.slot_list_extend ⟨_, e, rfl⟩ F.entry_list_extend (F.args_list_extend_2 _ _)
    (AutoSeq1.list_extend_list_list_0 l its.toArray n b its2.toArray n2 hlong (by rw [List.size_toArray]; omega) (by omega)) ⟨e, e2, ?_⟩
  refine ⟨.non, _, I.lset (its' := its ++ its2) hH e (by simp) (r.append r2) ?_, rfl, q⟩
  rw [List.length_append]
  omega
def rPop : V → List V → Hp → VK → Prop := fun x vs H Q => ∃ l xs y, x = .ref l ∧ vs = [] ∧ H l = some (.lst xs) ∧ xs[xs.length - 1]? = some y ∧ Q y (upd H l (.lst xs.dropLast))
theorem mt_pop : MtM X "list.pop" rPop := by
  intro pins s σ H x vs v us Q I rx rv h
  obtain ⟨l, xs, y, rfl, rfl, hH, hy, q⟩ := h
  cases rx
  have hus := rv.zero
  subst hus
  obtain ⟨z, its, n, r, hl, e⟩ := I.lstM hH
  obtain ⟨u, hu, ru⟩ := r.get hy
  have hy' : its.toArray[its.toArray.size - 1]? = some u := by
    show its.toArray[its.length - 1]? = some u
    rw [← Array.getElem?_toList, ← hl]
    exact hu
  refine call_meets F.slot_list_pop ⟨_, e, rfl⟩ F.entry_list_pop (F.args_list_pop_1 _) (MeetsSeq.list_pop_last l its.toArray n u hy' (by rw [List.size_toArray]; omega)) ⟨e, ?_⟩
  refine ⟨y, _, I.lset (its' := its.dropLast) hH e ?_ r.dropLast ?_, ru, q⟩
  · show its.toArray.eraseIdxIfInBounds (its.toArray.size - 1) = its.dropLast.toArray
    rw [List.size_toArray, List.eraseIdxIfInBounds_toArray, erase_last]
  · rw [List.length_dropLast]
    omega
def rClear : V → List V → Hp → VK → Prop := fun x vs H Q => ∃ l xs, x = .ref l ∧ vs = [] ∧ H l = some (.lst xs) ∧ Q .non (upd H l (.lst []))
theorem mt_clear : MtM X "list.clear" rClear := by
  intro pins s σ H x vs v us Q I rx rv h
  obtain ⟨l, xs, rfl, rfl, hH, q⟩ := h
  cases rx
  have hus := rv.zero
  subst hus
  obtain ⟨z, its, n, r, hl, e⟩ := I.lstM hH
  refine call_meets F.slot_list_clear ⟨_, e, rfl⟩ F.entry_list_clear (F.args_list_clear_1 _) (AutoSeq1.list_clear_list_0 l its.toArray n (by rw [List.size_toArray]; omega)) ⟨e, ?_⟩
  exact ⟨.non, _, I.lset (its' := []) (ys := []) hH e rfl .nil (Nat.zero_le _), rfl, q⟩
def rCat : R2 := fun x y H Q => ∃ l b xs zs, x = .ref l ∧ y = .ref b ∧ H l = some (.lst xs) ∧ H b = some (.lst zs) ∧ xs.length + zs.length ≤ sizeLine ∧ ∀ p, H p = none → Q (.ref p) (upd H p (.lst (xs ++ zs)))
theorem op_cat : OpR X (binaryOp .Add) rCat := by
  intro pins s σ H x y v u Q I rx ry h
  obtain ⟨l, b, xs, zs, rfl, rfl, hH, hB, hz, q⟩ := h
  cases rx
  cases ry
  obtain ⟨z, its, n, r, hl, e⟩ := I.lstM hH
  obtain ⟨z2, its2, n2, r2, hl2, e2⟩ := I.lstM hB
  refine PySem.P.add_list e e2 ?_ (by rw [List.size_toArray, List.size_toArray]; omega)
  have ea : its.toArray ++ its2.toArray = (its ++ its2).toArray := by simp
  rw [ea]
  exact ⟨.ref _, _, I.lnew (t' := s.toks) (r.append r2) (by rw [List.length_append]; omega), rfl, q _ I.fresh⟩
end
section
variable {prog : Program} {w : World} {A : Around} {E : Value → Shared → Prop} {s : Shared}
end
section
variable {X : Cx}
end
end L2
namespace L2
open PySem PySem.Spec PyProof.Rows
section
variable {κ : Type} [DecidableEq κ]
def valV (kvs : List (κ × V)) (k : κ) : Option V := (kvs.find? fun kv => decide (kv.1 = k)).map (·.2)
def putK (kvs : List (κ × V)) (k : κ) (v : V) : List (κ × V) :=
  if (kvs.any fun kv => decide (kv.1 = k)) = true then kvs.map (fun kv => if kv.1 = k then (kv.1, v) else kv) else kvs ++ [(k, v)]
theorem valV_pos {p : κ × V} {r : List (κ × V)} {k : κ} (e : p.1 = k) : valV (p :: r) k = some p.2 := by simp [valV, List.find?_cons, e]
theorem valV_neg {p : κ × V} {r : List (κ × V)} {k : κ} (e : ¬ p.1 = k) : valV (p :: r) k = valV r k := by simp [valV, List.find?_cons, e]
theorem valV_any (k : κ) : ∀ kvs : List (κ × V), (kvs.any fun kv => decide (kv.1 = k)) = (valV kvs k).isSome
  | [] => rfl
  | p :: r => by
    rw [List.any_cons]
    by_cases e : p.1 = k
    · simp only [valV_pos e, decide_eq_true e, Bool.true_or, Option.isSome_some]
    · rw [valV_neg e, decide_eq_false e, Bool.false_or]; exact valV_any k r
theorem length_putK (kvs : List (κ × V)) (k : κ) (v : V) : (putK kvs k v).length ≤ kvs.length + 1 := by
  unfold putK
  split
  · rw [List.length_map]; omega
  · rw [List.length_append, List.length_cons, List.length_nil]; omega
theorem RelO.isSome_eq {o : Option V} {u : Option Value} (r : RelO o u) : o.isSome = u.isSome := by
  cases o with
  | none => cases u with
    | none => rfl
    | some _ => exact (show False from r).elim
  | some _ => cases u with
    | none => exact (show False from r).elim
    | some _ => rfl
theorem KV.val {kvs : List (κ × V)} {vs : List (κ × Value)} (r : KV kvs vs) (k : κ) : RelO (valV kvs k) (valueAt vs k) := by
  unfold KV at r
  induction r with
  | nil => exact True.intro
  | @cons p q ps qs h t ih =>
    obtain ⟨h1, h2⟩ := h
    by_cases e : p.1 = k
    · have e' : q.1 = k := h1.symm.trans e
      have b : valueAt (q :: qs) k = some q.2 := by simp [valueAt, List.find?_cons, e']
      rw [valV_pos e, b]; exact h2
    · have e' : ¬ q.1 = k := fun z => e (h1.trans z)
      have b : valueAt (q :: qs) k = valueAt qs k := by simp [valueAt, List.find?_cons, e']
      rw [valV_neg e, b]; exact ih
theorem KV.any {kvs : List (κ × V)} {vs : List (κ × Value)} (r : KV kvs vs) (k : κ) : (kvs.any fun kv => decide (kv.1 = k)) = vs.any fun kv => decide (kv.1 = k) := by
  unfold KV at r
  induction r with
  | nil => rfl
  | cons h t ih => rw [List.any_cons, List.any_cons, ih, h.1]
theorem KV.repl {kvs : List (κ × V)} {vs : List (κ × Value)} (r : KV kvs vs) (k : κ) {y : V} {u : Value} (ry : RelV y u) :
    KV (kvs.map fun kv => if kv.1 = k then (kv.1, y) else kv) (vs.map fun kv => if kv.1 = k then (kv.1, u) else kv) := by
  unfold KV at r ⊢
  induction r with
  | nil => exact .nil
  | @cons p q ps qs h t ih =>
    rw [List.map_cons, List.map_cons]
    refine .cons ?_ ih
    obtain ⟨h1, h2⟩ := h
    by_cases e : p.1 = k
    · rw [if_pos e, if_pos (h1.symm.trans e)]; exact ⟨h1, ry⟩
    · rw [if_neg e, if_neg (fun z => e (h1.trans z))]; exact ⟨h1, h2⟩
theorem KV.put {kvs : List (κ × V)} {vs : List (κ × Value)} (r : KV kvs vs) (k : κ) {y : V} {u : Value} (ry : RelV y u) : KV (putK kvs k y) (stored vs k u) := by
  unfold putK stored
  rw [r.any k]
  by_cases e : (vs.any fun kv => decide (kv.1 = k)) = true
  · rw [if_pos e, if_pos e]; exact r.repl k ry
  · rw [if_neg e, if_neg e]; exact Paired.snoc r ⟨rfl, ry⟩
theorem KV.length {kvs : List (κ × V)} {vs : List (κ × Value)} (r : KV kvs vs) : kvs.length = vs.length := Paired.length r
end
theorem kV_is {P : Program} {w : World} {k : Key} {u : Value} (r : RelV (kV k) u) : (mixKind P w).is k u = true := by
  cases k with
  | inl i => obtain ⟨t, e⟩ := (show ∃ t, u = Value.int i t from r); subst e; exact mixKind_int P w i t
  | inr x => obtain ⟨t, e⟩ := (show ∃ t, u = Value.str x t from r); subst e; exact mixKind_str P w x t
theorem items_are {P : Program} {w : World} : ∀ {ks : List Key} {us : List Value}, Vals (ks.map kV) us → ItemsAre (mixKind P w) ks us
  | [], _, r => by rw [List.map_nil] at r; cases r; exact .nil
  | k :: ks, _, r => by
    rw [List.map_cons] at r
    cases r with
    | cons h t => exact .cons (kV_is h) (items_are t)
abbrev KT (H : Hp) : List (List Key × V) → List (List Key × Addr × Value) → Prop := Paired fun p q => p.1 = q.1 ∧ H q.2.1 = some (.tup (p.1.map kV)) ∧ RelV p.2 q.2.2
theorem KT.val {H : Hp} {kvs : List (List Key × V)} {xs : List (List Key × Addr × Value)} (r : KT H kvs xs) (k : List Key) : RelO (valV kvs k) ((atKey xs k).map (·.2)) := by
  induction r with
  | nil => exact True.intro
  | @cons p q ps qs h t ih =>
    obtain ⟨h1, _, h2⟩ := h
    by_cases e : p.1 = k
    · have e' : q.1 = k := h1.symm.trans e
      have b : atKey (q :: qs) k = some q.2 := by simp [atKey, List.find?_cons, e']
      rw [valV_pos e, b]; exact h2
    · have e' : ¬ q.1 = k := fun z => e (h1.trans z)
      have b : atKey (q :: qs) k = atKey qs k := by simp [atKey, List.find?_cons, e']
      rw [valV_neg e, b]; exact ih
theorem KT.repl {H : Hp} {kvs : List (List Key × V)} {xs : List (List Key × Addr × Value)} (r : KT H kvs xs) (k : List Key) {y : V} {u : Value} (ry : RelV y u) :
    KT H (kvs.map fun kv => if kv.1 = k then (kv.1, y) else kv) (xs.map (putAt k u)) := by
  induction r with
  | nil => exact .nil
  | @cons p q ps qs h t ih =>
    rw [List.map_cons, List.map_cons]
    refine .cons ?_ ih
    obtain ⟨h1, h2, h3⟩ := h
    unfold putAt
    by_cases e : p.1 = k
    · rw [if_pos e, if_pos (h1.symm.trans e)]; exact ⟨h1, h2, ry⟩
    · rw [if_neg e, if_neg (fun z => e (h1.trans z))]; exact ⟨h1, h2, h3⟩
theorem KT.put {H : Hp} {kvs : List (List Key × V)} {xs : List (List Key × Addr × Value)} (r : KT H kvs xs) (k : List Key) {b : Addr} {y : V} {u : Value} (hb : H b = some (.tup (k.map kV))) (ry : RelV y u) :
    KT H (putK kvs k y) (storedH xs k b u) := by
  have e : (kvs.any fun kv => decide (kv.1 = k)) = (atKey xs k).isSome := by
    rw [valV_any, (r.val k).isSome_eq, Option.isSome_map]
  unfold putK storedH
  rw [e]
  by_cases q : (atKey xs k).isSome = true
  · rw [if_pos q, if_pos q]; exact r.repl k ry
  · rw [if_neg q, if_neg q]; exact Paired.snoc r ⟨rfl, hb, ry⟩
theorem KT.keeps {H H' : Hp} {kvs : List (List Key × V)} {xs : List (List Key × Addr × Value)} (r : KT H kvs xs) (ht : ∀ b ys, H b = some (.tup ys) → H' b = some (.tup ys)) : KT H' kvs xs :=
  Paired.mapP r fun _ _ z => ⟨z.1, ht _ _ z.2.1, z.2.2⟩
section
variable {P : Program} {w : World} {H : Hp} {h : Heap} {a : Addr}
theorem rd_of {u : HO} (ok : HOk P w H h) (e : Rd H a u) : ObjOk P w H h a u := e.ok ok
theorem dk_rd {kvs : List (Key × V)} (ok : HOk P w H h) (e : Rd H a (.dK kvs)) : kvs.length ≤ sizeLine ∧ (a == sysModules) = false ∧ ∃ vs, KV kvs vs ∧ h.DictOf (mixKind P w) a vs :=
  show ObjOk P w H h a (.dK kvs) from rd_of ok e
theorem dk_of {kvs : List (Key × V)} (ok : HOk P w H h) (e : H a = some (.dK kvs)) : kvs.length ≤ sizeLine ∧ (a == sysModules) = false ∧ ∃ vs, KV kvs vs ∧ h.DictOf (mixKind P w) a vs := dk_rd ok (.inl e)
theorem key_of {ks : List Key} (ok : HOk P w H h) (e : H a = some (.tup (ks.map kV))) : (tupleKind (mixKind P w)).is h ks a := by
  obtain ⟨_, its, r, o, h1, h2, n, h3⟩ := (show ObjOk P w H h a (.tup (ks.map kV)) from ok a _ e)
  exact ⟨o, its.toArray, n, h1, h2, h3, by simpa using items_are r⟩
theorem dt_rd {kvs : List (List Key × V)} (ok : HOk P w H h) (e : Rd H a (.dT kvs)) : kvs.length ≤ sizeLine ∧ (a == sysModules) = false ∧
    ∃ xs, KT H kvs xs ∧ h.DictOfH (tupleKind (mixKind P w)) a xs := by
  obtain ⟨z, y, xs, r, o, es, ep, h1, h2, h3, h4, h5⟩ := (show ObjOk P w H h a (.dT kvs) from rd_of ok e)
  refine ⟨z, y, xs, r, o, es, ep, h1, h2, h3, h4, fun x hx => ?_, h5⟩
  have all : ∀ {l : List (List Key × V)} {m : List (List Key × Addr × Value)}, KT H l m → ∀ x ∈ m, (tupleKind (mixKind P w)).is h x.1 x.2.1 := by
    intro l m q
    induction q with
    | nil => intro x hx; exact nomatch hx
    | @cons p q ps qs hq t ih =>
      intro x hx
      rcases List.mem_cons.mp hx with e | hx
      · subst e
        exact key_of ok (by rw [← hq.1]; exact hq.2.1)
      · exact ih x hx
  exact all r x hx
theorem dt_of {kvs : List (List Key × V)} (ok : HOk P w H h) (e : H a = some (.dT kvs)) : kvs.length ≤ sizeLine ∧ (a == sysModules) = false ∧
    ∃ xs, KT H kvs xs ∧ h.DictOfH (tupleKind (mixKind P w)) a xs := dt_rd ok (.inl e)
end
def DGet (H : Hp) (a : Addr) (y : V) (r : Option V) : Prop :=
  (∃ kvs k, Rd H a (.dK kvs) ∧ y = kV k ∧ r = valV kvs k) ∨ ∃ kvs k b, Rd H a (.dT kvs) ∧ y = .ref b ∧ H b = some (.tup (k.map kV)) ∧ r = valV kvs k
def DPut (H : Hp) (a : Addr) (y v : V) (H' : Hp) : Prop :=
  (∃ kvs k, H a = some (.dK kvs) ∧ y = kV k ∧ kvs.length < sizeLine ∧ H' = upd H a (.dK (putK kvs k v))) ∨
  ∃ kvs k b, H a = some (.dT kvs) ∧ y = .ref b ∧ H b = some (.tup (k.map kV)) ∧ kvs.length < sizeLine ∧ H' = upd H a (.dT (putK kvs k v))
theorem DGet.k {H : Hp} {a : Addr} {kvs : List (Key × V)} {k : Key} (e : H a = some (.dK kvs)) : DGet H a (kV k) (valV kvs k) := .inl ⟨kvs, k, .inl e, rfl, rfl⟩
theorem DGet.t {H : Hp} {a b : Addr} {kvs : List (List Key × V)} {k : List Key} (e : H a = some (.dT kvs)) (eb : H b = some (.tup (k.map kV))) : DGet H a (.ref b) (valV kvs k) := .inr ⟨kvs, k, b, .inl e, rfl, eb, rfl⟩
theorem DPut.k {H : Hp} {a : Addr} {kvs : List (Key × V)} {k : Key} {v : V} (e : H a = some (.dK kvs)) (hl : kvs.length < sizeLine) : DPut H a (kV k) v (upd H a (.dK (putK kvs k v))) := .inl ⟨kvs, k, e, rfl, hl, rfl⟩
theorem DPut.t {H : Hp} {a b : Addr} {kvs : List (List Key × V)} {k : List Key} {v : V} (e : H a = some (.dT kvs)) (eb : H b = some (.tup (k.map kV))) (hl : kvs.length < sizeLine) :
    DPut H a (.ref b) v (upd H a (.dT (putK kvs k v))) := .inr ⟨kvs, k, b, e, rfl, eb, hl, rfl⟩
section
variable {X : Cx} {pins : List (Addr × Obj)} {σ : St} {H : Hp} {s : Shared} {a : Addr} {y v : V} {u r : Value} {o : Option V} {A : Around} {E : Value → Shared → Prop}
theorem Inv.big (I : Inv X pins σ H s) : sysModules < s.heap.objs.size := by
  have h : mainGlobals < s.heap.objs.size := (I.mod.glob.keeps I.bk).lt
  exact Nat.lt_trans (by decide) h
theorem d_getItem {Q : Value → Shared → Prop} (hu : A.units + 1 < cLine) (I : Inv X pins σ H s) (g : DGet H a y (some v)) (ry : RelV y u) (h : ∀ w' s', Inv X pins σ H s' → RelV v w' → Q w' s') :
    wpAny (model X.prog X.w) A (getItem (.ref a) u) Q E s := by
  rcases g with ⟨kvs, k, e, ey, l⟩ | ⟨kvs, k, b, e, ey, eb, l⟩
  · subst ey
    obtain ⟨z, hd, vs, rel, dd⟩ := dk_rd I.hok e
    obtain ⟨w', hw, rw'⟩ := RelO.some_of (v := v) (o := valueAt vs k) (by rw [l]; exact rel.val k)
    exact wpAny_getItem_of (kV_is ry) dd.mapOf hw (h w' _ (I.tok _) rw')
  · subst ey
    cases (show u = Value.ref b from ry)
    obtain ⟨z, hd, xs, rel, dd⟩ := dt_rd I.hok e
    obtain ⟨w', hw, rw'⟩ := RelO.some_of (v := v) (o := (atKey xs k).map (·.2)) (by rw [l]; exact rel.val k)
    obtain ⟨p, hp, hp2⟩ := Option.map_eq_some_iff.mp hw
    refine wpAny_getItem_heap (tupleKind_room_in1 hu) (key_of I.hok eb) dd hp ?_
    rw [hp2]
    exact h w' _ (I.tok _) rw'
theorem d_in {Q : Value → Shared → Prop} (hu : A.units + 1 < cLine) (I : Inv X pins σ H s) (g : DGet H a y o) (ry : RelV y u) (h : ∀ s', Inv X pins σ H s' → Q (.bool o.isSome) s') :
    wpAny (model X.prog X.w) A (compareOp .In u (.ref a)) Q E s := by
  rcases g with ⟨kvs, k, e, ey, l⟩ | ⟨kvs, k, b, e, ey, eb, l⟩
  · subst ey
    obtain ⟨z, hd, vs, rel, dd⟩ := dk_rd I.hok e
    refine wpAny_in_of (kV_is ry) hd dd.mapOf ?_
    rw [← (rel.val k).isSome_eq, ← l]
    exact h _ (I.tok _)
  · subst ey
    cases (show u = Value.ref b from ry)
    obtain ⟨z, hd, xs, rel, dd⟩ := dt_rd I.hok e
    refine wpAny_in_heap (tupleKind_room_in1 hu) (key_of I.hok eb) hd dd ?_
    have q := (rel.val k).isSome_eq
    rw [Option.isSome_map] at q
    rw [← q, ← l]
    exact h _ (I.tok _)
theorem d_write {h' : Heap} {t' : Nat} {ob : HO} (I : Inv X pins σ H s) (mu : Mut (H a)) (hs : Heap.SameBut a s.heap h') (he : ∃ q, h'.get? a = some q) (new : ObjOk X.prog X.w (upd H a ob) h' a ob) :
    Inv X pins σ (upd H a ob) { s with heap := h', toks := t' } :=
  I.write (x := a) (e := a) mu (.inl rfl) (fun b q hb z => (hs.2 b hb).trans z) he new
theorem dk_new {P : Program} {w : World} {H' : Hp} {h' : Heap} {kvs : List (Key × V)} {vs : List (Key × Value)} (z : kvs.length ≤ sizeLine) (hd : (a == sysModules) = false) (rel : KV kvs vs) (dd : h'.DictOf (mixKind P w) a vs) :
    ObjOk P w H' h' a (.dK kvs) := ⟨z, hd, vs, rel, dd⟩
theorem d_setItem {H' : Hp} {Q : Unit → Shared → Prop} (hu : A.units + 1 < cLine) (I : Inv X pins σ H s) (g : DPut H a y v H') (ry : RelV y u) (rv : RelV v r) (h : ∀ s', Inv X pins σ H' s' → Q () s') :
    wpAny (model X.prog X.w) A (setItem (.ref a) u r) Q E s := by
  rcases g with ⟨kvs, k, e, ey, l, eH⟩ | ⟨kvs, k, b, e, ey, eb, l, eH⟩
  · subst ey eH
    obtain ⟨z, hd, vs, rel, dd⟩ := dk_of I.hok e
    have hz : vs.length ≤ sizeLine := by rw [← rel.length]; exact z
    have hl : (putK kvs k v).length ≤ sizeLine := by have := length_putK kvs k v; omega
    refine wpAny_setItem_pairs (hsz := hz) (kV_is ry) dd fun h' dd' hs => h _ ?_
    have he : ∃ q, h'.get? a = some q := let ⟨q, _, _, hq, _⟩ := dd'; ⟨q, hq⟩
    exact d_write I (by rw [e]; exact True.intro) hs he (dk_new hl hd (rel.put k rv) dd')
  · subst ey eH
    cases (show u = Value.ref b from ry)
    obtain ⟨z, hd, xs, rel, dd⟩ := dt_of I.hok e
    have hz : xs.length ≤ sizeLine := by rw [← Paired.length rel]; exact z
    have hl : (putK kvs k v).length ≤ sizeLine := by have := length_putK kvs k v; omega
    refine wpAny_setItem_heap (hsz := hz) (tupleKind_room_in1 hu) (key_of I.hok eb) dd fun h' dd' hs => h _ ?_
    obtain ⟨q, es, ep, hq, h2, h3, h4, _, h5⟩ := dd'
    refine d_write I (by rw [e]; exact True.intro) hs ⟨q, hq⟩ ⟨hl, hd, _, (rel.put k eb rv).keeps fun c ys ec => ?_, q, es, ep, hq, h2, h3, h4, h5⟩
    rw [upd_ne (ne_of ec e (fun z => nomatch z))]
    exact ec
end
section
variable {X : Cx} {pins : List (Addr × Obj)} {σ : St} {H : Hp} {s : Shared} {a : Addr} {kvs : List (Key × V)} {k : Key} {u : Value} {A : Around} {E : Value → Shared → Prop}
end
def NoSl (i : Expr) : Prop := ∀ ov iv, subscripted i false ov iv = operate [ov, iv] (getItem ov iv)
theorem subD_of {prog : Program} {w : World} {A : Around} {E : Value → Shared → Prop} {s : Shared} {env : Env} {value slice : Expr} {pos : Pos} {T id : String} {Q : Value → Shared → Prop}
    (hl : typeLookup (.type T) "__getitem__" = pure (some (.builtin id))) (hs : NoSl slice)
    (h : wpAny (model prog w) A (eval value env) (fun o s₁ => wpAny (model prog w) A (eval slice env) (fun i s₂ => s₂.TypeIs o T ∧ wpAny (model prog w) A (getItem o i) Q E s₂) E s₁) E s) :
    wpAny (model prog w) A (eval (.Subscript value slice pos) env) Q E s := by
  refine Subscript_ (wpAny_mono h (fun o s₁ h₁ => wpAny_mono h₁ (fun i s₂ h₂ => ?_) fun _ _ x => x) fun _ _ x => x)
  obtain ⟨hT, h₂⟩ := h₂
  unfold subscriptTail
  refine wpAny_bind ?_
  rw [getitemInPython_of_ne hT.not_modules]
  refine wpAny_bind (wpAny_specialOf hT hl ?_)
  have fin : wpAny (model prog w) A (subscripted slice false o i) (fun r s₃ => wpAny (model prog w) A (letTemporaryGo value o r >>= fun _ => pure r) Q E s₃) E s₂ := by
    rw [hs o i]
    exact wpAny_operating (wpAny_mono h₂ (fun r s₃ h₃ => wpAny_bind (wpAny_letTemporaryGo (wpAny_pure h₃))) fun _ _ x => x)
  first
    | exact wpAny_pure (wpAny_bind fin)
    | exact wpAny_bind (wpAny_pure (wpAny_bind fin))
    | exact wpAny_bind fin
theorem dict_typeIs {X : Cx} {pins : List (Addr × Obj)} {σ : St} {H : Hp} {s : Shared} {a : Addr} {y : V} {o : Option V} (I : Inv X pins σ H s) (g : DGet H a y o) : s.TypeIs (.ref a) "dict" := by
  rcases g with ⟨kvs, k, e, _, _⟩ | ⟨kvs, k, b, e, _, _, _⟩
  · obtain ⟨_, _, vs, _, dd⟩ := dk_rd I.hok e
    exact dd.typeIs
  · obtain ⟨_, _, xs, _, dd⟩ := dt_rd I.hok e
    exact dd.typeIs
def tDGet (td ty : TE) : TE := fun σ H Q => td σ H fun x H1 => ty σ H1 fun y H2 => ∃ a v, x = .ref a ∧ DGet H2 a y (some v) ∧ Q v H2
def tDIn (ty td : TE) : TE := fun σ H Q => ty σ H fun y H1 => td σ H1 fun x H2 => ∃ a o, x = .ref a ∧ DGet H2 a y o ∧ Q (.bl o.isSome) H2
def sDPut (td ty tv : TE) : TS := fun D σ H => tv σ H fun v H1 => td σ H1 fun x H2 => ty σ H2 fun y H3 => ∃ a H4, x = .ref a ∧ DPut H3 a y v H4 ∧ D.nx σ H4
section
variable {X : Cx} {o i e value : Expr} {pos pos' tpos : Pos} {td ty tv : TE}
theorem pe_dget (hu : X.A.units + 1 < cLine) (ho : PE X o td) (hi : PE X i ty) (hs : NoSl i) : PE X (.Subscript o i pos) (tDGet td ty) := by
  intro pins s σ H Q I h
  refine subD_of PySem.F.slot_dict_getitem.lookup hs (thn (ho pins s σ H _ I h) fun u s1 ⟨x, H1, I1, rx, q1⟩ => thn (hi pins s1 σ H1 _ I1 q1) fun iv s2 ⟨y, H2, I2, ry, a, v, ex, g, q2⟩ => ?_)
  subst ex
  obtain rfl : u = Value.ref a := rx
  exact ⟨dict_typeIs I2 g, d_getItem hu I2 g ry fun w' s3 I3 rw' => ⟨v, H2, I3, rw', q2⟩⟩
theorem pc_din (hu : X.A.units + 1 < cLine) (hi : PE X i ty) (ho : PE X o td) : PC X .In i o (tDIn ty td) := by
  intro pins s σ H Q I h
  refine thn (hi pins s σ H _ I h) fun iv s1 ⟨y, H1, I1, ry, q1⟩ => thn (ho pins s1 σ H1 _ I1 q1) fun u s2 ⟨x, H2, I2, rx, a, ov, ex, g, q2⟩ => ?_
  subst ex
  obtain rfl : u = Value.ref a := rx
  exact d_in hu I2 g ry fun s3 I3 => ⟨.bl ov.isSome, H2, I3, rfl, q2⟩
theorem ps_dput (hu : X.A.units + 1 < cLine) (ho : PE X o td) (hi : PE X i ty) (hv : PE X value tv) (hs : swapsWith value (some (.Subscript o i pos')) pos.line X.env = pure false) :
    PS X (.Assign [.Subscript o i pos'] value pos) (sDPut td ty tv) := by
  intro pins s σ H D I h
  refine wpAny_Assign_Subscript (thn (hv pins s σ H _ I h) fun r s1 ⟨v, H1, I1, rv, q1⟩ => thn (ho pins s1 σ H1 _ I1 q1) fun u s2 ⟨x, H2, I2, rx, q2⟩ => thn (hi pins s2 σ H2 _ I2 q2) fun iv s3 ⟨y, H3, I3, ry, a, H4, ex, g, q3⟩ => ?_) hs
  subst ex
  obtain rfl : u = Value.ref a := rx
  exact d_setItem hu I3 g ry rv fun s4 I4 => ⟨σ, H4, I4, q3⟩
end
theorem dk_empty {P : Program} {w : World} {H : Hp} (h : Heap) (hb : sysModules < h.objs.size) : ObjOk P w H (h.push { cls := .type "dict", data := .dict #[] }) h.objs.size (.dK []) :=
  ⟨Nat.zero_le _, beq_eq_false_iff_ne.mpr (Ne.symm (Nat.ne_of_lt hb)), [], .nil, Heap.DictOf.new h⟩
theorem dt_empty {P : Program} {w : World} {H : Hp} (h : Heap) (hb : sysModules < h.objs.size) : ObjOk P w H (h.push { cls := .type "dict", data := .dict #[] }) h.objs.size (.dT []) :=
  ⟨Nat.zero_le _, beq_eq_false_iff_ne.mpr (Ne.symm (Nat.ne_of_lt hb)), [], .nil, _, #[], 0, Heap.get?_push_size _ rfl, ⟨rfl, rfl, rfl⟩, rfl, rfl, List.nodup_nil⟩
def tDNewK : TE := fun _ H Q => ∀ p, H p = none → Q (.ref p) (upd H p (.dK []))
def tDNewT : TE := fun _ H Q => ∀ p, H p = none → Q (.ref p) (upd H p (.dT []))
section
variable {X : Cx} {pos : Pos}
theorem pe_dnewK : PE X (.Dict [] [] pos) tDNewK := fun pins s σ H Q I h =>
  wpAny_Dict_empty ⟨.ref s.heap.objs.size, _, I.laid (a := s.heap.objs.size) (o := .dK []) (t' := s.toks) (fun _ _ q => Heap.get?_push_of_some _ q) (Nat.le_refl _) (dk_empty s.heap I.big), rfl, h _ (I.hok.fresh (Nat.le_refl _))⟩
theorem pe_dnewT : PE X (.Dict [] [] pos) tDNewT := fun pins s σ H Q I h =>
  wpAny_Dict_empty ⟨.ref s.heap.objs.size, _, I.laid (a := s.heap.objs.size) (o := .dT []) (t' := s.toks) (fun _ _ q => Heap.get?_push_of_some _ q) (Nat.le_refl _) (dt_empty s.heap I.big), rfl, h _ (I.hok.fresh (Nat.le_refl _))⟩
end
section
variable {X : Cx} {pins : List (Addr × Obj)} {σ : St} {H : Hp} {s : Shared} {a : Addr} {y d : V} {u r : Value} {o : Option V} {A : Around} {E : Value → Shared → Prop}
end
section
variable {X : Cx} {o e f : Expr} {apos cpos : Pos} {td ty tx : TE}
end
section
variable {X : Cx} {pins : List (Addr × Obj)} {σ : St} {H : Hp} {s : Shared} {a : Addr} {kvs : List (Key × V)} {A : Around} {E : Value → Shared → Prop}
end
section
variable {X : Cx} {pins : List (Addr × Obj)} {σ : St} {H : Hp} {s : Shared} {a : Addr} {y : V} {u : Value} {A : Around} {E : Value → Shared → Prop}
end
end L2
namespace Att
open PySem PySem.W PySem.Calls PyProof.Rows
theorem ints_of_wellAll {P : Params} {h : Heap} : ∀ (ns : List Int) (vs : List Value), WellAll P h vs (ns.map WData.int) → IntsAre vs ns := by
  intro ns
  induction ns with
  | nil =>
    intro vs w
    rw [List.map_nil] at w
    cases w
    exact .nil
  | cons n ns ih =>
    intro vs w
    rw [List.map_cons] at w
    cases w with
    | cons a b =>
      cases a
      exact .cons _ _ (ih _ b)
theorem script_of {l : OpenLaw} {n : Nat} (hn : l.most = some n) {P : Params} {h : Heap} {args : List WData} {vals : List Value}
    (hpre : l.row.toRowW.claim.pre args = true) (hwl : WellAll P h vals args) :
    ∃ a vs ns, vals = [Value.ref a] ∧ args = [WData.list (ns.map WData.int)] ∧ h.get? a = some { cls := .type "list", data := .seq vs.toArray } ∧ IntsAre vs ns ∧ ns.length ≤ n := by
  have hsh : WShape.hasAll [] args [.list .int] = true := (pre_splitW hpre).1
  have hc : l.pre.holds [] { args := args } = true := (pre_splitW hpre).2
  obtain ⟨d, r, rfl, h1, h2⟩ := hasAllW_cons hsh
  obtain rfl := hasAllW_nil h2
  obtain ⟨xs, rfl, h3⟩ := hasW_list h1
  obtain ⟨ns, rfl⟩ := items_int h3
  have hlen : ns.length ≤ n := by
    unfold OpenLaw.pre at hc
    have h4 : (WTm.not (.lt (.lit (.int (n : Int))) (.len (.arg 0)))).holds [] { args := [.list (ns.map .int)] } = true := by
      have h4 := (holds_andW hc).1
      rw [hn] at h4
      exact h4
    have h5 := condW_of h4 (w_not (w_lt w_lit (w_len_list (w_arg rfl))))
    rw [List.length_map] at h5
    refine Nat.le_of_not_lt fun q => ?_
    have q' : (n : Int) < ((ns.length : Nat) : Int) := by omega
    first
      | (rw [decide_eq_true q'] at h5; exact absurd h5 (by decide))
      | (simp at h5; omega)
  cases hwl with
  | cons w1 w2 =>
    cases w2
    cases w1 with
    | list ho hall => exact ⟨_, _, ns, rfl, rfl, ho, ints_of_wellAll ns _ hall, hlen⟩
theorem post_true (l : OpenLaw) (args : List WData) : l.row.toRowW.claim.post args (.bool true) args = true :=
  postW_of (r := l.row.toRowW) (X := (true == true))
    (show WShape.has [] (.bool true) .bool = true by first | rfl | decide | simp [WShape.has, WShape.arms, WShape.armsAll])
    (show (WTm.eq .res (.lit (.bool true))).value [] { args := args, res := some (.bool true), after := args } = some (.bool (true == true)) from w_eq_bool (w_res rfl) w_lit) rfl
theorem attach_call {l : OpenLaw} {n : Nat} {q : Program} {loose : List Str} {XP : (Str → Option Value) → Heap → Prop} {YP : World → Heap → Prop} {d : DefRec}
    (hn : l.most = some n) (hdf : d.params.defaults = [])
    (call : ∀ (w : World) (s₀ s₁ : Shared) (mg mb : Str → Option Value) (fa : Addr) (o : Obj) (pm cd doc : Value) (a : Addr) (vs : List Value) (ns : List Int),
      Ground q loose [] XP w s₀ mg mb s₁.heap → YP w s₁.heap →
      s₁.heap.get? fa = some o → o.data = .func (docDef d.name d.params d.body d.scope pm cd doc) → s₁.heap.CodeRec cd d.name → mg d.name = some (.ref fa) →
      s₁.heap.get? a = some { cls := .type "list", data := .seq vs.toArray } → IntsAre vs ns → ns.length ≤ n → s₁.gens = #[] →
      codeAny (model l.prog w) callerA (.call (.ref fa) ⟨[.ref a], []⟩) (fun r s' => r = .ok (.ret (.bool true)) ∧ OldK s₁.heap s'.heap ∧ s'.os = s₁.os ∧ AllBare s'.gens) s₁) :
    WalkO q loose XP YP l.row.toRowW d [] (fun f vs => PySem.call f vs) := by
  intro w s₀ s₁ mg mb G Y fa o pm cd doc dV kV ho hd hcd hD hmg hg args vals as hpre hlay hrd hwl hlo
  obtain rfl : dV = .none := Dflts.none hD hdf
  obtain rfl : kV = .none := Dflts.noKw hD
  obtain ⟨a, vs, ns, rfl, rfl, hobj, hints, hlen⟩ := script_of hn hpre hwl
  refine enter_call (codeAny_mono (call w s₀ s₁ mg mb fa o pm cd doc a vs ns G Y ho (fd_plain hd) hcd hmg hobj hints hlen hg) fun r s' hq => ?_)
  obtain ⟨rfl, h2, h3, h4⟩ := hq
  exact ⟨.inl ⟨.bool true, .bool true, [], rfl, fun _ => rfl, .bool true, post_true l _, fun _ => ⟨List.Pairwise.nil, fun _ hm => (nomatch hm)⟩⟩, h2, h3, h4⟩
section
variable {prog : Program} {w : World} {A : Around} {E : Value → Shared → Prop} {s : Shared} {K : Frag}
end
end Att
namespace L2
open PySem PySem.Spec PyProof.Rows
theorem vals_ints : ∀ {vs : List Value} {ns : List Int}, IntsAre vs ns → Vals (ns.map V.int) vs
  | _, _, .nil => .nil
  | _, _, .cons n t h => .cons ⟨t, rfl⟩ (vals_ints h)
def Only (H : Hp) : Prop := ∀ b, H b = none ∨ ∃ o xs, H b = some (.frz o (.lst xs))
theorem law_call {P : Program} {w : World} {K : PySem.W.Frag} {mg mb : Str → Option Value} {CX : CXT} {k : Nat} {fa a : Addr} {fd : FuncData} {x : Str} {sp : Sp} {s₁ : Shared} {vs : List Value} {ns : List Int}
    (KX : K.In s₁.heap) (hns : s₁.heap.Ns mainGlobals mg) (hb : s₁.heap.Ns builtinsNs mb) (hbb : ∀ x : Str, x ≠ "__name__" → mb x = bootBuiltins x) (hlim : s₁.heap.NoLimit) (hg : s₁.gens = #[])
    (ha : s₁.heap.get? a = some { cls := .type "list", data := .seq vs.toArray }) (hi : IntsAre vs ns) (hl : ns.length ≤ sizeLine) (hr : Room k callerA)
    (F : ∀ base : Heap, K.In base → base.Ns mainGlobals mg → FnOk P w K mg base CX k fa fd [x] sp) (hbind : ∀ (s : Shared) (u : Value), BindsTo s fd ⟨[u], []⟩ [(x, u)])
    (hsp : ∀ H : Hp, Only H → SqL K H a (ns.map V.int) → sp [.ref a] H (fun v _ => v = .bl true) fun _ _ _ => False)
    (hCX : ∀ H e s', CX [] H s₁ (fun _ _ _ => False) e s' → False) :
    codeAny (model P w) callerA (.call (.ref fa) ⟨[.ref a], []⟩) (fun r s' => r = .ok (.ret (.bool true)) ∧ OldK s₁.heap s'.heap ∧ s'.os = s₁.os ∧ AllBare s'.gens) s₁ := by
  have rv := vals_ints hi
  have lenV := hi.length
  -- from an abstract heap in which nothing but the script may be tracked
  have core : ∀ H : Hp, Only H → SqL K H a (ns.map V.int) → HOk P w H s₁.heap → (∀ b, H b ≠ none → b = a) → (H a ≠ none → K.lookup a = none) →
      codeAny (model P w) callerA (.call (.ref fa) ⟨[.ref a], []⟩) (fun r s' => r = .ok (.ret (.bool true)) ∧ OldK s₁.heap s'.heap ∧ s'.os = s₁.os ∧ AllBare s'.gens) s₁ := by
    intro H hO hS hok hA hK
    have base_of : ∀ {b : Addr} {o : Obj}, s₁.heap.get? b = some o → H b = none → (hidT s₁.heap H).get? b = some o := fun e n => hidT_get e n
    have noA : ∀ {b : Addr} {o : Obj} {es : Array DictEntry} {ep : Nat}, s₁.heap.get? b = some o → o.data = .dict es ep → H b = none := fun {b o es ep} e d => by
      cases q : H b with
      | none => rfl
      | some u =>
        have e' : b = a := hA b (by rw [q]; simp)
        subst e'
        rw [ha] at e; cases e
        have d' : Data.seq vs.toArray _ = Data.dict es ep := d
        cases d'
    have nsK : ∀ {b : Addr} {m : Str → Option Value}, s₁.heap.Ns b m → (hidT s₁.heap H).Ns b m := fun {b m} ⟨o, es, ep, e, d, r⟩ => ⟨o, es, ep, base_of e (noA e d), d, r⟩
    have hKb : K.In (hidT s₁.heap H) := fun b o e => base_of (KX b o e) (by
      cases q : H b with
      | none => rfl
      | some u =>
        have e' : b = a := hA b (by rw [q]; simp)
        subst e'
        rw [hK (by rw [q]; simp)] at e; cases e)
    have hM : Mod K mg (hidT s₁.heap H) := ⟨hKb, nsK hns, ⟨mb, nsK hb, hbb⟩, let ⟨mc, h1, h2⟩ := hlim; ⟨mc, nsK h1, h2⟩⟩
    have e0 : Env0 P w K mg (hidT s₁.heap H) callerA [] s₁ H := ⟨rfl, hM, fun b o e => of_hidT e, Nat.le_of_eq (hidT_size _ _), trivial, fun b hb => absurd (show b ∈ ([] : List Addr) from hb) (by simp), hok, .of_eq hg⟩
    refine codeAny_mono ((F _ hKb (nsK hns)).run callerA [] s₁ H ⟨[.ref a], []⟩ [.ref a] [.ref a] _ _ hr e0 (hbind s₁ (.ref a)) (.cons rfl .nil) (hsp H hO hS)) fun r s' h => ?_
    cases r with
    | error e => exact (hCX H e s' h).elim
    | ok fl =>
      cases fl with
      | next => exact False.elim h
      | brk => exact False.elim h
      | cont => exact False.elim h
      | ret u =>
        obtain ⟨v, H', os, bare, un, hok', r', q⟩ := h
        have q' : v = .bl true := q
        subst q'
        obtain rfl : u = Value.bool true := r'
        refine ⟨rfl, OldK.of_keep fun b o e => ?_, os, bare⟩
        cases q : H b with
        | none => exact un.keep b o e q (by intro z; exact absurd (show b ∈ ([] : List Addr) from z) (by simp)) (by simp)
        | some u =>
          rcases hO b with z | ⟨ob, xs, z⟩
          · rw [q] at z; cases z
          · have z2 := un.frzs b ob _ z
            obtain ⟨e1, _⟩ := hok b _ z
            obtain ⟨e2, _⟩ := hok' b _ z2
            rw [e] at e1; cases e1
            exact e2
  cases hk : K.lookup a with
  | some o =>
    -- the script is one of the module's own objects
    have e := KX a o hk
    rw [ha] at e
    cases e
    refine core (fun _ => none) (fun _ => .inl rfl) (.inr ⟨_, vs.toArray, _, hk, rfl, rfl, rfl, by rw [List.size_toArray, lenV]; exact hl, by simpa using rv⟩) (fun b u z => by have z' : (none : Option HO) = some u := z; cases z') (fun b z => absurd rfl z) fun z => absurd rfl z
  | none =>
    refine core (fun b => if b = a then some (.frz { cls := .type "list", data := .seq vs.toArray } (.lst (ns.map V.int))) else none) (fun b => ?_) (.inl (.inr ⟨{ cls := .type "list", data := .seq vs.toArray }, if_pos rfl⟩)) (fun b u z => ?_) (fun b z => ?_) fun _ => hk
    · by_cases hb : b = a
      · exact .inr ⟨_, _, if_pos hb⟩
      · exact .inl (if_neg hb)
    · by_cases hb : b = a
      · have z' := (if_pos hb).symm.trans z
        cases z'
        subst hb
        exact ⟨ha, by rw [List.length_map]; exact hl, vs, _, rv, ha⟩
      · have z' := (if_neg hb).symm.trans z
        cases z'
    · by_cases hb : b = a
      · exact hb
      · exact absurd (if_neg hb) z
end L2
namespace L2
open PySem PySem.Spec PyProof.Rows
abbrev KOf {K : PySem.W.Frag} {h : Heap} (_ : K.In h) : PySem.W.Frag := K
theorem walk_of {l : PySem.W.OpenLaw} {n k : Nat} {q : Program} {loose : List Str} {XP : (Str → Option Value) → Heap → Prop} {YP : World → Heap → Prop} {d : DefRec} {K : Params → PySem.W.Frag} {CX : World → CXT} {sp : World → Sp} {x : Str}
    (hn : l.most = some n) (hn2 : n ≤ sizeLine) (hdf : d.params.defaults = []) (hr : Room k callerA)
    (hY : ∀ (w : World) (h : Heap), YP w h → (K w.params).In h)
    (F : ∀ (w : World) (mg : Str → Option Value) (fa : Addr) (h : Heap), (K w.params).In h → h.Ns mainGlobals mg → mg d.name = some (.ref fa) →
      ∃ fd : FuncData, (∀ (s : Shared) (u : Value), BindsTo s fd ⟨[u], []⟩ [(x, u)]) ∧
        ∀ base : Heap, (K w.params).In base → base.Ns mainGlobals mg → FnOk l.prog w (K w.params) mg base (CX w) k fa fd [x] (sp w))
    (hsp : ∀ (w : World) (H : Hp) (a : Addr) (ns : List Int), ns.length ≤ n → Only H → SqL (K w.params) H a (ns.map V.int) → sp w [.ref a] H (fun v _ => v = .bl true) fun _ _ _ => False)
    (hCX : ∀ (w : World) (H : Hp) (s : Shared) (e : Value) (s' : Shared), CX w [] H s (fun _ _ _ => False) e s' → False) :
    PySem.W.WalkO q loose XP YP l.row.toRowW d [] (fun f vs => PySem.call f vs) := by
  refine Att.attach_call hn hdf fun w s₀ s₁ mg mb fa o pm cd doc a vs ns G Y ho hd hcd hmg hobj hints hlen hg => ?_
  have KX := hY w _ Y
  obtain ⟨fd, hb, hF⟩ := F w mg fa _ KX G.T.g hmg
  exact law_call KX G.T.g G.T.b G.T.builtins G.T.nolimit hg hobj hints (Nat.le_trans hlen hn2) hr hF hb (fun H hO hS => hsp w H a ns hlen hO hS) fun H e s' => hCX w H s₁ e s'
theorem walk_ofK {l : PySem.W.OpenLaw} {n k : Nat} {q : Program} {loose : List Str} {XP : (Str → Option Value) → Heap → Prop} {YP : World → Heap → Prop} {d : DefRec} {K : Params → PySem.W.Frag} {CX : CXT} {sp : PySem.W.Frag → Sp} {x : Str}
    (hn : l.most = some n) (hn2 : n ≤ sizeLine) (hdf : d.params.defaults = []) (hr : Room k callerA)
    (hY : ∀ (w : World) (h : Heap), YP w h → (K w.params).In h)
    (F : ∀ (w : World) (mg : Str → Option Value) (fa : Addr) (h : Heap), (K w.params).In h → h.Ns mainGlobals mg → mg d.name = some (.ref fa) →
      ∃ fd : FuncData, (∀ (s : Shared) (u : Value), BindsTo s fd ⟨[u], []⟩ [(x, u)]) ∧
        ∀ base : Heap, (K w.params).In base → base.Ns mainGlobals mg → FnOk l.prog w (K w.params) mg base CX k fa fd [x] (sp (K w.params)))
    (hsp : ∀ (K : PySem.W.Frag) (H : Hp) (a : Addr) (ns : List Int), ns.length ≤ n → Only H → SqL K H a (ns.map V.int) → sp K [.ref a] H (fun v _ => v = .bl true) fun _ _ _ => False)
    (hCX : ∀ (H : Hp) (s : Shared) (e : Value) (s' : Shared), CX [] H s (fun _ _ _ => False) e s' → False) :
    PySem.W.WalkO q loose XP YP l.row.toRowW d [] (fun f vs => PySem.call f vs) :=
  walk_of (K := K) (CX := fun _ => CX) (sp := fun w => sp (K w.params)) hn hn2 hdf hr hY F (fun w H a ns h1 h2 h3 => hsp (K w.params) H a ns h1 h2 h3) fun _ H s e s' => hCX H s e s'
end L2
namespace L2
open PySem PySem.Spec PyProof.Rows
def inClass (s : Stmt) (j : Nat) : Stmt := match s with
  | .ClassDef _ _ _ body _ _ _ _ _ _ _ => body.getD j (.Pass ⟨0, 0, 0, 0⟩)
  | _ => .Pass ⟨0, 0, 0, 0⟩
def defArgs (s : Stmt) : Arguments := match s with
  | .FunctionDef _ a _ _ _ _ _ _ _ _ => a
  | _ => { posonlyargs := [], args := [], vararg := none, kwonlyargs := [], kw_defaults := [], kwarg := none, defaults := [] }
def defBody (s : Stmt) : List Stmt := match s with
  | .FunctionDef _ _ b _ _ _ _ _ _ _ => b
  | _ => []
def defScope (s : Stmt) : Scope := match s with
  | .FunctionDef _ _ _ _ _ _ sc _ _ _ => sc
  | _ => { kind := .function, names := [], isGenerator := false, isCoroutine := false }
abbrev CX0 : CXT := fun _ _ _ _ _ _ => False
abbrev E0 : XK := fun _ _ _ => False
theorem pass0 {X : Cx} : Passes CX0 X E0 := fun _ _ _ _ _ _ _ h => h.elim
structure Fun (K : PySem.W.Frag) (x qual : Str) (st : Stmt) (f : Addr) (fd : FuncData) : Prop where
  ex : ∃ (oc : Value) (od : Option Addr) (kV doc pm : Value) (an : Option Addr) (cdv ct : Value) (osl : Array (Option Value)),
    fd = PySem.W.fnOf x qual (defArgs st) (defBody st) (defScope st) .none kV doc pm an cdv ct ∧ K.lookup f = some ⟨oc, od, .func fd, osl⟩ ∧ PySem.W.codeIn K cdv qual = true
  kp : PySem.W.keepIn K (.ref f) = true
section
variable {P : Program} {w : World} {K : PySem.W.Frag} {mg : Str → Option Value} {base : Heap}
theorem Fun.ok {x qual : Str} {st : Stmt} {f : Addr} {fd : FuncData} {N ps : List Str} {k : Nat} {sp : Sp} (F : Fun K x qual st f fd) (S : FnScope N ps (defScope st)) (len : ∀ vs H Q E, sp vs H Q E → vs.length = ps.length)
    (hbody : ∀ (cdv : Value) (A : Around) (outer : List Env) (s : Shared) (H : Hp) (vs : List V) (Q : VK) (E : XK), Room k (A.deeper (envOfC qual (defScope st) s.heap.objs.size f cdv)) → sp vs H Q E →
      ∃ t, PSs (cxOf CX0 P w K mg base N qual (defScope st) f cdv A outer s H E).nox (defBody st) t ∧ t { nx := fun _ H' => Q .non H', rt := Q } (start N vs) H) : FnOk P w K mg base CX0 (k + 1) f fd ps sp := by
  obtain ⟨oc, od, kV, doc, pm, an, cdv, ct, osl, rfl, lk, hcd⟩ := F.ex
  refine fn_of lk hcd S len fun A outer s H vs Q E hr hsp => ?_
  obtain ⟨t, h, q⟩ := hbody cdv A outer s H vs Q E hr hsp
  exact ⟨t, h.nox, q⟩
theorem Fun.binds {x qual : Str} {st : Stmt} {f : Addr} {fd : FuncData} {ps : List Str} (F : Fun K x qual st f fd)
    (h : ∀ (kV doc pm : Value) (an : Option Addr) (cdv ct : Value) (us : List Value), us.length = ps.length → bindArgs (PySem.W.fnOf x qual (defArgs st) (defBody st) (defScope st) .none kV doc pm an cdv ct) ⟨us, []⟩ = pure (ps.zip us)) : Binds K fd ps [] := by
  obtain ⟨oc, od, kV, doc, pm, an, cdv, ct, osl, rfl, lk, hcd⟩ := F.ex
  exact .all (h kV doc pm an cdv ct)
theorem fun_mk {x qual : Str} {st : Stmt} {f : Addr} {oc : Value} {od an : Option Addr} {osl : Array (Option Value)} {kV doc pm cdv ct : Value} (l : K.lookup f = some ⟨oc, od, .func (PySem.W.fnOf x qual (defArgs st) (defBody st) (defScope st) .none kV doc pm an cdv ct), osl⟩)
    (c : PySem.W.codeIn K cdv qual = true) (k : PySem.W.keepIn K (.ref f) = true) : Fun K x qual st f (PySem.W.fnOf x qual (defArgs st) (defBody st) (defScope st) .none kV doc pm an cdv ct) := ⟨⟨oc, od, kV, doc, pm, an, cdv, ct, osl, rfl, l, c⟩, k⟩
end
theorem hu_of {A : Around} {k : Nat} (hr : Room k A) : A.units + 1 < cLine := Nat.lt_of_le_of_lt (Nat.add_le_add_left (by decide : 1 ≤ 64) _) hr.units
theorem small1000 {n : Nat} (h : n ≤ 1000) : n < sizeLine := Nat.lt_of_le_of_lt h (by decide)
section
variable {X : Cx}
theorem pv (i : Nat) {x : Str} {pos : Pos} (hN : X.N[i]? = some x := by rfl) (hv : Vis X.env.scope x := by first | exact Or.inl rfl | exact Or.inr (Or.inl rfl) | exact Or.inr (Or.inr rfl)) (hd : (x == ("__debug__" : Str)) = false := by decide)
    (hcd : (x == ("__classdict__" : Str)) = false := by decide) : PE X (.Name x pos) (tVar i) := pe_var hN hv hd hcd
end
theorem iteF {A B : Prop} (h : B) : if false = true then A else B := by
  rw [if_neg Bool.false_ne_true]
  exact h
theorem iteT {A B : Prop} (h : A) : if true = true then A else B := by
  rw [if_pos rfl]
  exact h
theorem ite2 {c A B : Prop} [Decidable c] (h1 : c → A) (h2 : ¬ c → B) : if c then A else B := by
  by_cases h : c
  · rw [if_pos h]
    exact h1 h
  · rw [if_neg h]
    exact h2 h
def Same (H H' : Hp) : Prop := ∀ b o, H b = some o → H' b = some o
theorem Same.refl (H : Hp) : Same H H := fun _ _ h => h
theorem Same.trans {H H1 H2 : Hp} (a : Same H H1) (b : Same H1 H2) : Same H H2 := fun c o h => b c o (a c o h)
theorem Same.free {H H' : Hp} (e : Same H H') {l : Addr} (h : H' l = Option.none) : H l = Option.none := by
  cases q : H l with
  | none => rfl
  | some o =>
    rw [e l o q] at h
    cases h
section
variable {κ : Type} [DecidableEq κ]
end
end L2

/-! BExt1 -/
set_option Elab.async false
set_option linter.all false
set_option maxRecDepth 100000
set_option maxHeartbeats 4000000
namespace L2
open PySem PySem.Spec PyProof.Rows
def tSeqM (t u : TS) : TS := fun D σ H => ∃ M : St → Hp → Prop, t { D with nx := M } σ H ∧ ∀ σ' H', M σ' H' → u D σ' H'
theorem pss_cut {X : Cx} {st : Stmt} {rest : List Stmt} {t u : TS} (h1 : PS X st t) (h2 : PSs X rest u) : PSs X (st :: rest) (tSeqM t u) := by
  intro pins s σ H D I h
  obtain ⟨M, h, hM⟩ := h
  refine wpAny_execs_cons (thn (h1 pins s σ H { D with nx := M } I h) fun f s1 q => ?_)
  cases f with
  | next =>
    obtain ⟨σ', H', I', q⟩ := q
    exact h2 pins s1 σ' H' D I' (hM σ' H' q)
  | brk => exact q
  | cont => exact q
  | ret u => exact q
theorem iteB {c : Bool} {A B : Prop} (hc : c = true) (h : A) : if c = true then A else B := by rw [if_pos hc]; exact h
theorem iteN {c : Bool} {A B : Prop} (hc : c = false) (h : B) : if c = true then A else B := by rw [hc]; exact iteF h
def PTs (X : Cx) (ifs : List Expr) (t : TT) : Prop :=
  ∀ (pins : List (Addr × Obj)) (s : Shared) (σ : St) (H : Hp) (Q : Bool → Hp → Prop), Inv X pins σ H s → t σ H Q →
    wpAny (model X.prog X.w) X.A (forIn ifs true fun c r => if r = true then do let ok ← isTrue c X.env (eval c X.env); pure (ForInStep.yield ok) else pure (ForInStep.yield r)) (TP X pins σ Q) X.xe s
def tYes : TT := fun _ H Q => Q true H
theorem pts_nil {X : Cx} : PTs X [] tYes := fun _ _ _ H _ I h => wpAny_tests_nil ⟨H, I, h⟩
section
variable {prog : Program} {w : World} {A : Around} {R : Result → Shared → Prop} {s : Shared}
abbrev NoE : Value → Shared → Prop := fun _ _ => False
theorem ofNoE {α : Type} {m : Sem α} {Q : α → Shared → Prop} {E : Value → Shared → Prop} {s : Shared} (h : wpAny (model prog w) A m Q NoE s) : wpAny (model prog w) A m Q E s :=
  wpAny_mono h (fun _ _ q => q) fun _ _ z => z.elim
def afterItem (prog : Program) (w : World) (A : Around) (env : Env) (tg : Expr) (ifs : List Expr) (elt : Expr) (it acc : Value) (again : Shared → Prop) (v : Value) (s1 : Shared) : Prop :=
  wpAny (model prog w) A (letOwnedTupleGo tg it v) (fun _ s2 => wpAny (model prog w) A (assign tg env v) (fun _ s3 =>
    wpAny (model prog w) A (forIn ifs true fun c r => if r = true then do let ok ← isTrue c env (eval c env); pure (ForInStep.yield ok) else pure (ForInStep.yield r)) (fun ok s4 =>
      if ok = true then wpAny (model prog w) A (eval elt env) (fun x s5 => wpAny (model prog w) A (call (.builtin "list.append") [acc, x]) (fun _ s6 => again s6) NoE s5) NoE s4
      else again s4) NoE s3) NoE s2) NoE s1
theorem block_loop {elt tg iter : Expr} {ifs : List Expr} {scope : Scope} {pos : Pos} {it acc : Value} {env : Env} (J : Nat → Shared → Prop)
    (turn : ∀ n s, J n s → wpAny (model prog w) A (pyNext it) (fun r s1 => match r with
      | none => R (.ok .next) s1
      | some v => afterItem prog w A env tg ifs elt it acc (fun s6 => ∃ m, m < n ∧ J m s6) v s1) NoE s)
    (n : Nat) (h : J n s) : codeAny (model prog w) A (.compLoop (.ListComp elt [⟨tg, iter, ifs, 0⟩] scope pos) 0 it acc env) R s := by
  refine codeAny_loop rfl J (fun n s hJ => ?_) n h
  show wpAny _ A ((compTurn (.ListComp elt [⟨tg, iter, ifs, 0⟩] scope pos) 0 it acc env).onRaise (fun x => do noteFrame x env; theTreesLotGoes x)) _ _ s
  refine wpAny_noted (ofNoE ?_)
  rw [compTurn_list]
  refine wpAny_bind (wpAny_standAt (wpAny_bind (thn (turn n s hJ) fun r s1 h1 => ?_)))
  cases r with
  | none => exact wpAny_pure h1
  | some v =>
    refine wpAny_bind (thn h1 fun _ s2 h2 => wpAny_bind (thn h2 fun _ s3 h3 => wpAny_bind (thn h3 fun ok s4 h4 => ?_)))
    cases ok with
    | false => exact wpAny_pure ⟨rfl, h4⟩
    | true => exact wpAny_bind (wpAny_bind (thn h4 fun x s5 h5 => wpAny_bind (thn h5 fun _ s6 h6 => wpAny_pure (wpAny_pure ⟨rfl, h6⟩))))
end
theorem clos_go {env : Env} : ∀ (names : List (Str × NameKind)) (acc : List (Str × Addr)), (∀ y ∈ names, y.2 = .free → ∃ c, env.cells.lookup y.1 = some c) → (∀ x c, acc.lookup x = some c → env.cells.lookup x = some c) →
    ∃ cl, (forIn names acc (fun (y : Str × NameKind) (cs : List (Str × Addr)) => (if (y.2 == NameKind.free) = true then (do let c ← cellOf env y.1; pure (ForInStep.yield ((y.1, c) :: cs))) else pure (ForInStep.yield cs) : Sem (ForInStep (List (Str × Addr)))))) = (pure cl : Sem (List (Str × Addr))) ∧
      (∀ x c, cl.lookup x = some c → env.cells.lookup x = some c) ∧ (∀ x, (acc.lookup x).isSome = true → (cl.lookup x).isSome = true) ∧ (∀ y ∈ names, y.2 = .free → (cl.lookup y.1).isSome = true)
  | [], acc, _, h2 => ⟨acc, rfl, h2, fun _ h => h, fun y hy => by cases hy⟩
  | (n, k) :: r, acc, h1, h2 => by
    have h1' : ∀ y ∈ r, y.2 = .free → ∃ c, env.cells.lookup y.1 = some c := fun y hy => h1 y (List.mem_cons_of_mem _ hy)
    by_cases hk : k = .free
    · subst hk
      obtain ⟨c, hc⟩ := h1 (n, .free) List.mem_cons_self rfl
      have h2' : ∀ x c', (((n, c) :: acc : List (Str × Addr)).lookup x) = some c' → env.cells.lookup x = some c' := fun x c' e => by
        rw [List.lookup_cons] at e
        by_cases hx : (x == n) = true
        · rw [hx] at e
          cases e
          rw [beq_iff_eq.mp hx]
          exact hc
        · rw [Bool.not_eq_true] at hx
          rw [hx] at e
          exact h2 x c' e
      obtain ⟨cl, e, p1, p2, p3⟩ := clos_go r ((n, c) :: acc) h1' h2'
      refine ⟨cl, ?_, p1, fun x hx => p2 x ?_, fun y hy hf => ?_⟩
      · rw [List.forIn_cons]
        have q : cellOf env n = pure c := by unfold cellOf; rw [hc]
        simp only [beq_self_eq_true, if_true, q, pure_bind]
        exact e
      · rw [List.lookup_cons]
        cases q : x == n with
        | true => rfl
        | false => exact hx
      · rcases List.mem_cons.mp hy with rfl | hy
        · exact p2 n (by rw [List.lookup_cons, beq_self_eq_true]; rfl)
        · exact p3 y hy hf
    · obtain ⟨cl, e, p1, p2, p3⟩ := clos_go r acc h1' h2
      have hb : (k == NameKind.free) = false := by simpa using hk
      refine ⟨cl, ?_, p1, p2, fun y hy hf => ?_⟩
      · rw [List.forIn_cons]
        simp only [hb, Bool.false_eq_true, if_false, pure_bind]
        exact e
      · rcases List.mem_cons.mp hy with rfl | hy
        · exact absurd hf hk
        · exact p3 y hy hf
structure Clos (env : Env) (scope : Scope) (cl : List (Str × Addr)) : Prop where
  eq : closureFor scope env = pure cl
  sub : ∀ x c, cl.lookup x = some c → env.cells.lookup x = some c
  all : ∀ y ∈ scope.names, y.2 = .free → (cl.lookup y.1).isSome = true
theorem clos_of {env : Env} {scope : Scope} (h : ∀ y ∈ scope.names, y.2 = .free → ∃ c, env.cells.lookup y.1 = some c) : ∃ cl, Clos env scope cl := by
  obtain ⟨cl, e, p1, p2, p3⟩ := clos_go (env := env) scope.names [] h (fun x c z => by simp at z)
  refine ⟨cl, ⟨?_, p1, p3⟩⟩
  have q : closureFor scope env = (forIn scope.names [] (fun (y : Str × NameKind) (cs : List (Str × Addr)) => (if (y.2 == NameKind.free) = true then (do let c ← cellOf env y.1; pure (ForInStep.yield ((y.1, c) :: cs))) else pure (ForInStep.yield cs) : Sem (ForInStep (List (Str × Addr))))) >>= fun s => pure s) := rfl
  rw [q, e, pure_bind]
abbrev cxComp (X : Cx) (scope : Scope) (N' : List Str) (cl : List (Str × Addr)) (C : Addr) (s₀ : Shared) (H₀ : Hp) (fp : List Addr) : Cx :=
  { X with N := N', s₀ := s₀, H₀ := H₀, env := compEnvC scope cl C X.env, outer := X.stack, ex := fp, fn := fun _ => false, pn := [], xe := NoE }
structure Blk where
  cl : List (Str × Addr)
  C : Addr
  s₀ : Shared
  H₀ : Hp
  fp : List Addr
abbrev cxB (X : Cx) (scope : Scope) (N' : List Str) (b : Blk) : Cx := cxComp X scope N' b.cl b.C b.s₀ b.H₀ b.fp
def isCF : Option NameKind → Bool
  | some .cell => true
  | some .free => true
  | _ => false
theorem isCF_iff {k : Option NameKind} (h : isCF k = true) : k = some .cell ∨ k = some .free := by
  cases k with
  | none => cases h
  | some k => cases k <;> first | exact .inl rfl | exact .inr rfl | cases h
def capOk (N : List Str) (kd kd' : Str → Option NameKind) (N' : List Str) (t : Nat) : List Nat → Nat → Bool
  | [], k => N'.length == t + k
  | j :: r, k => (match N[j]?, N'[t + k]? with
    | some x, some y => (x == y) && isCF (kd x) && isCF (kd' x)
    | _, _ => false) && capOk N kd kd' N' t r (k + 1)
theorem capOk_len {N : List Str} {kd kd' : Str → Option NameKind} {N' : List Str} {t : Nat} : ∀ {caps : List Nat} {k : Nat}, capOk N kd kd' N' t caps k = true → N'.length = t + k + caps.length
  | [], k, h => by
    have := beq_iff_eq.mp h
    simpa using this
  | j :: r, k, h => by
    have := capOk_len (Bool.and_eq_true_iff.mp h).2
    rw [List.length_cons]
    omega
theorem capOk_at {N : List Str} {kd kd' : Str → Option NameKind} {N' : List Str} {t : Nat} : ∀ {caps : List Nat} {k i j : Nat}, capOk N kd kd' N' t caps k = true → caps[i]? = some j →
    ∃ x, N[j]? = some x ∧ N'[t + k + i]? = some x ∧ isCF (kd x) = true ∧ isCF (kd' x) = true
  | [], _, _, _, _, e => by simp at e
  | j :: r, k, 0, j', h, e => by
    simp at e
    subst e
    have h1 := (Bool.and_eq_true_iff.mp h).1
    cases q : N[j]? with
    | none => rw [q] at h1; cases h1
    | some x =>
      cases q' : N'[t + k]? with
      | none => rw [q, q'] at h1; cases h1
      | some y =>
        rw [q, q'] at h1
        obtain ⟨h2, h3⟩ := Bool.and_eq_true_iff.mp h1
        obtain ⟨h4, h5⟩ := Bool.and_eq_true_iff.mp h2
        obtain rfl : x = y := beq_iff_eq.mp h4
        exact ⟨x, rfl, rfl, h5, h3⟩
  | j :: r, k, i + 1, j', h, e => by
    obtain ⟨x, a, b, c, d⟩ := capOk_at (i := i) (Bool.and_eq_true_iff.mp h).2 (by simpa using e)
    refine ⟨x, a, ?_, c, d⟩
    have q : t + (k + 1) + i = t + k + (i + 1) := by omega
    rw [← q]
    exact b
structure CompOk (X : Cx) (scope : Scope) (N' : List Str) (t : Nat) (caps : List Nat) : Prop where
  kind : scope.kind = .function
  shape : (scope.names.all fun y => (y.2 == .local && scope.names.lookup y.1 == some .local) || (y.2 == .free && isCF (X.env.kindOf y.1)) || (y.2 == .globalImplicit)) = true
  cap : capOk X.N X.env.kindOf (compEnvC scope [] 0 X.env).kindOf N' t caps 0 = true
theorem CompOk.at {X : Cx} {scope : Scope} {N' : List Str} {t : Nat} {caps : List Nat} (S : CompOk X scope N' t caps) {y : Str × NameKind} (hy : y ∈ scope.names) :
    y.2 ≠ .cell ∧ (y.2 = .local → scope.names.lookup y.1 = some .local) ∧ (y.2 = .free → isCF (X.env.kindOf y.1) = true) := by
  have h := List.all_eq_true.mp S.shape y hy
  obtain ⟨n, k⟩ := y
  cases k <;> simp at h <;> simp [h]
def capS (t : Nat) (caps : List Nat) (σ : St) : St := List.replicate t none ++ caps.map fun j => (σ[j]?).join
theorem relabel_cf {scope : Scope} {env : Env} {x : Str} : ∀ {names : List (Str × NameKind)}, (∀ y ∈ names, y.2 ≠ .cell) → isCF ((names.map fun (y : Str × NameKind) => if (y.2 == NameKind.free && env.scope.kind == .function && env.kindOf y.1 == some .cell) = true then (y.1, NameKind.cell) else (y.1, y.2)).lookup x) = true →
    (x, NameKind.free) ∈ names
  | [], _, h => by simp [isCF] at h
  | (n, k) :: r, hn, h => by
    have hr : ∀ y ∈ r, y.2 ≠ .cell := fun y hy => hn y (List.mem_cons_of_mem _ hy)
    have hk : k ≠ .cell := hn (n, k) List.mem_cons_self
    rw [List.map_cons] at h
    by_cases hx : (x == n) = true
    · obtain rfl : x = n := beq_iff_eq.mp hx
      have q : k = .free := by
        by_cases hf : k = .free
        · exact hf
        · exfalso
          have hb : (k == NameKind.free) = false := by simpa using hf
          simp only [hb, Bool.false_and, Bool.false_eq_true, if_false, List.lookup_cons, beq_self_eq_true] at h
          cases k <;> simp [isCF] at h hk hf
      subst q
      exact List.mem_cons_self
    · rw [Bool.not_eq_true] at hx
      refine List.mem_cons_of_mem _ (relabel_cf (scope := scope) (env := env) hr ?_)
      by_cases hc : (k == NameKind.free && env.scope.kind == .function && env.kindOf n == some .cell) = true
      · simp only [hc, if_true, List.lookup_cons, hx] at h
        exact h
      · rw [Bool.not_eq_true] at hc
        simp only [hc, Bool.false_eq_true, if_false, List.lookup_cons, hx] at h
        exact h
def CompR (J : It) (g : TG) (tc : TT) (te : TE) (Q : VK) (D : Addr) (τ0 : St) (H0 : Hp) : Prop :=
  ∃ W : Nat → Nat → List V → St → Hp → Prop, (∃ m, W 0 m [] τ0 H0) ∧ ∀ i m ys τ H, W i m ys τ H →
    (J.stop i H ∧ Q (.ref D) H) ∨ (J.go i H ∧ ∃ N : List V → St → Hp → Prop, (∀ zs τ' H', N zs τ' H' → ∃ m', m' < m ∧ W (i + 1) m' zs τ' H') ∧ ∀ x H3, J.yld i H x H3 → g x τ H3 fun τ2 H4 => tc τ2 H4 fun b H5 =>
      if b = true then te τ2 H5 fun y H6 => H6 D = some (.lst ys) ∧ ys.length < sizeLine ∧ N (ys ++ [y]) τ2 (upd H6 D (.lst (ys ++ [y]))) else N ys τ2 H5)
def tComp (wi : TI) (g : Blk → TG) (tc : Blk → TT) (te : Blk → TE) (t : Nat) (caps : List Nat) : TE := fun σ H Q =>
  wi σ H fun J H1 => ∀ D, H1 D = none → ∀ b : Blk, CompR J (g b) (tc b) (te b) Q D (capS t caps σ) (upd H1 D (.lst []))
theorem comp_by {J : It} {g : TG} {tc : TT} {te : TE} {Q : VK} {D : Addr} {τ0 : St} {H0 : Hp} (n : Nat) (Pv : Nat → List V → St → Hp → Prop) (h0 : Pv 0 [] τ0 H0)
    (hst : ∀ zs τ H, Pv n zs τ H → J.stop n H ∧ Q (.ref D) H)
    (hgo : ∀ i zs τ H, i < n → Pv i zs τ H → J.go i H ∧ ∀ x H3, J.yld i H x H3 → g x τ H3 fun τ2 H4 => tc τ2 H4 fun b H5 =>
      if b = true then te τ2 H5 fun y H6 => H6 D = some (.lst zs) ∧ zs.length < sizeLine ∧ Pv (i + 1) (zs ++ [y]) τ2 (upd H6 D (.lst (zs ++ [y]))) else Pv (i + 1) zs τ2 H5) : CompR J g tc te Q D τ0 H0 := by
  refine ⟨fun i m zs τ H => m = n - i ∧ i ≤ n ∧ Pv i zs τ H, ⟨n, by simp, Nat.zero_le _, h0⟩, ?_⟩
  rintro i m zs τ H ⟨rfl, hi, p⟩
  by_cases hlt : i < n
  · obtain ⟨go, step⟩ := hgo i zs τ H hlt p
    exact .inr ⟨go, Pv (i + 1), fun zs' τ' H' p' => ⟨n - (i + 1), by omega, rfl, hlt, p'⟩, step⟩
  · have e : i = n := by omega
    subst e
    exact .inl (hst zs τ H p)
theorem comp_list {K : PySem.W.Frag} {a : Addr} {xs : List V} {g : TG} {tc : TT} {te : TE} {Q : VK} {D : Addr} {τ0 : St} {H0 : Hp} (Pv : Nat → List V → St → Hp → Prop) (h0 : Pv 0 [] τ0 H0) (hl : ∀ i zs τ H, Pv i zs τ H → SqL K H a xs)
    (hs : ∀ i x zs τ H, xs[i]? = some x → Pv i zs τ H → g x τ H fun τ2 H4 => tc τ2 H4 fun b H5 =>
      if b = true then te τ2 H5 fun y H6 => H6 D = some (.lst zs) ∧ zs.length < sizeLine ∧ Pv (i + 1) (zs ++ [y]) τ2 (upd H6 D (.lst (zs ++ [y]))) else Pv (i + 1) zs τ2 H5)
    (hd : ∀ zs τ H, Pv xs.length zs τ H → Q (.ref D) H) : CompR (Itl K a) g tc te Q D τ0 H0 :=
  comp_by xs.length Pv h0 (fun zs τ H p => ⟨⟨xs, hl _ _ _ _ p, Nat.le_refl _⟩, hd zs τ H p⟩) fun i zs τ H hi p => ⟨⟨xs, xs[i], hl _ _ _ _ p, by simp [hi]⟩, fun x H3 y => by
    obtain ⟨e, y⟩ := y
    subst e
    exact hs i x zs τ _ (y xs (hl _ _ _ _ p)) p⟩
section
variable {X : Cx} {tg iter elt : Expr} {ifs : List Expr} {scope : Scope} {pos : Pos} {N' : List Str} {t : Nat} {caps : List Nat} {g : Blk → TG} {tc : Blk → TT} {te : Blk → TE} {wi : TI}
theorem FpOk.heap {pins : List (Addr × Obj)} {H H' : Hp} {b : Addr} (f : FpOk X pins H b) (h : H' b = none) : FpOk X pins H' b := ⟨h, f.2⟩
theorem comp_core {cl : List (Str × Addr)} {J : It} {fp : List Addr} {it : Addr} {tn : Nat → Heap → Prop} {pins : List (Addr × Obj)} {σ : St} {H2 : Hp} {s2 : Shared} {Q : VK} {E : Value → Shared → Prop}
    (hc : X.calm = true) (S : CompOk X scope N' t caps) (L : Clos X.env scope cl)
    (hg : ∀ b, PG (cxB X scope N' b) tg (g b)) (ht : ∀ b, PTs (cxB X scope N' b) ifs (tc b)) (he : ∀ b, PE (cxB X scope N' b) elt (te b))
    (I2 : Inv X pins σ H2 s2) (T : Turn X.prog X.w X.K tg J fp it tn) (st2 : tn 0 s2.heap) (f2 : ∀ b ∈ fp, FpOk X pins H2 b)
    (R : ∀ D, H2 D = none → ∀ b, CompR J (g b) (tc b) (te b) Q D (capS t caps σ) (upd H2 D (.lst []))) :
    wpAny (model X.prog X.w) X.A (newList []) (fun acc s3 => wpAny (model X.prog X.w) X.A (newFunctionEnv scope X.env.globals cl [] X.env.qual none .none (some X.env)) (fun cenv s4 =>
      codeAny (model X.prog X.w) X.A (.compStart (.ListComp elt [⟨tg, iter, ifs, 0⟩] scope pos) 0 (.ref it) acc { cenv with scope := relabel scope X.env })
        (fun r s' => ∃ (D : Addr) (H' : Hp) (m : Str → Option Value), acc = .ref D ∧ r = .ok .next ∧ Inv X pins σ H' s' ∧ s'.heap.Ns cenv.locals m ∧ FpOk X pins H' cenv.locals ∧ Q (.ref D) H') s4) E s3) E s2 := by
  refine wpAny_newObj_type ?_
  have I3 : Inv X pins σ (upd H2 s2.heap.objs.size (.lst [])) { s2 with heap := s2.heap.push { cls := .type "list", data := .seq ([] : List Value).toArray } } := I2.lnew (t' := s2.toks) .nil (Nat.zero_le _)
  have hD : H2 s2.heap.objs.size = none := I2.fresh
  have R := R _ hD
  generalize hs3 : ({ s2 with heap := s2.heap.push { cls := .type "list", data := .seq ([] : List Value).toArray } } : Shared) = s3 at I3 ⊢
  generalize hH3 : upd H2 s2.heap.objs.size (.lst []) = H3 at I3 R
  generalize hDD : s2.heap.objs.size = D at R ⊢
  have k3 : ∀ b o, s2.heap.get? b = some o → s3.heap.get? b = some o := fun b o e => by rw [← hs3]; exact Heap.get?_push_of_some _ e
  have st3 : tn 0 s3.heap := T.keep 0 _ _ st2 fun b _ o e => k3 b o e
  have fpn : ∀ b ∈ fp, H3 b = none := fun b hb => by
    obtain ⟨o, e, _⟩ := T.obj 0 _ st2 b hb
    rw [← hH3, upd_ne (Nat.ne_of_lt (Heap.lt_size e))]
    exact (f2 b hb).1
  have f3 : ∀ b ∈ fp, FpOk X pins H3 b := fun b hb => (f2 b hb).heap (fpn b hb)
  refine wpAny_newFunctionEnv (fun y hy => (S.at hy).1) (by intro y hy; simp at hy) (fun h4 hns hsb => ?_) S.kind
  generalize hC : s3.heap.objs.size = C at hns hsb ⊢
  have k4 : ∀ b o, s3.heap.get? b = some o → h4.get? b = some o := fun b o e => hsb.extBut b o (by rw [← hC]; exact Nat.ne_of_lt (Heap.lt_size e)) (Heap.get?_push_of_some _ e)
  have cellsub : ∀ x c, (cxComp X scope N' cl C s3 H3 fp).env.cells.lookup x = some c → X.env.cells.lookup x = some c := L.sub
  have hnc : ∀ y ∈ scope.names, y.2 ≠ .cell := fun y hy => (S.at hy).1
  have fC : ∀ {H' : Hp}, H' C = none → FpOk X pins H' C := fun h => by rw [← hC] at h ⊢; exact I3.fpOk (Nat.le_refl _) h
  have I4 : Inv (cxComp X scope N' cl C s3 H3 fp) [] (capS t caps σ) H3 { s3 with heap := h4, toks := s3.toks + ([] : List (Str × Value)).length } := by
    refine ⟨⟨I3.ok.mod, S.kind, I3.ok.glob, I3.ok.blt, Nat.le_of_eq hC, fun x y c h1 h2 => I3.ok.inj x y c (L.sub _ _ h1) (L.sub _ _ h2), fun x hx => ?_, fun x c h _ => absurd (show false = true from h) Bool.false_ne_true, I3.ok.hd, I3.ok.frames, .inl rfl, fun b hb => ⟨?_, fun x c e => (f3 b hb).2.2.2.2.1 x c (L.sub x c e)⟩,
        I3.bs, Nat.le_trans I3.ok.bsz I3.sz, fun b o e hb => ?_, fun b hb z => ?_, I3.stack, I3.stkFree⟩,
      rfl, I3.bare, Un.kept k4, ⟨_, hns, fun i x v e1 e2 e3 => ?_⟩, fun x c e => ?_, (by rw [← hC]; exact I3.fresh), fun x c e => I3.freeC x c (L.sub x c e), fun p hp => ?_, I3.hok.kept k4, ?_⟩
    · have hx' : isCF ((relabel scope X.env).names.lookup x) = true := by
        rcases hx with q | q
        · rw [show (relabel scope X.env).names.lookup x = some .cell from q]; rfl
        · rw [show (relabel scope X.env).names.lookup x = some .free from q]; rfl
      exact Option.isSome_iff_exists.mp (L.all _ (relabel_cf (scope := scope) hnc hx') rfl)
    · obtain ⟨o, e, _⟩ := T.obj 0 _ st3 b hb
      rw [← hC]
      exact Nat.ne_of_lt (Heap.lt_size e)
    · rcases (f3 b hb).2.2.2.1 with z | z
      · exact I3.ok.noex b o e z
      · exact absurd (Nat.lt_of_lt_of_le (Nat.lt_of_lt_of_le (Heap.lt_size e) I3.ok.bsz) z) (Nat.lt_irrefl _)
    · rcases List.mem_cons.mp (I3.stkSub b z) with q | q
      · exact (f3 b hb).2.1 q
      · exact (f3 b hb).2.2.1 q
    · -- a name that was taken over
      unfold capS at e2
      by_cases hi : i < t
      · rw [List.getElem?_append_left (by simpa using hi), List.getElem?_replicate] at e2
        simp [hi] at e2
      · rw [List.getElem?_append_right (by simpa using hi), List.length_replicate, List.getElem?_map] at e2
        cases q : caps[i - t]? with
        | none => rw [q] at e2; simp at e2
        | some j =>
          rw [q] at e2
          obtain ⟨y, c1, c2, c3, c4⟩ := capOk_at S.cap q
          have ei : t + 0 + (i - t) = i := by omega
          rw [ei] at c2
          have exy : x = y := Option.some.inj ((show N'[i]? = some x from e1).symm.trans c2)
          subst exy
          have e2' : σ[j]? = some (some v) := by
            have e2 : (σ[j]?).join = some v := Option.some.inj e2
            cases r : σ[j]? with
            | none => rw [r] at e2; cases e2
            | some z =>
              rw [r] at e2
              have e2 : z = some v := e2
              rw [e2]
          obtain ⟨m, hn, hl⟩ := I3.loc
          have cf := isCF_iff c3
          obtain ⟨u, ru, lk⟩ := hl j x v c1 e2' (.inr (by
            rcases cf with z | z
            · exact .inl z
            · exact .inr z))
          refine ⟨u, ru, .inr ⟨isCF_iff c4, ?_⟩⟩
          rcases lk with ⟨z, _⟩ | ⟨_, c, ec, zc⟩
          · rcases cf with w | w <;> (rw [z] at w; cases w)
          · have hfree := relabel_cf (scope := scope) (env := X.env) (x := x) hnc c4
            obtain ⟨c', ec'⟩ := Option.isSome_iff_exists.mp (L.all _ hfree rfl)
            have := L.sub _ _ ec'
            rw [show X.env.cells.lookup x = some c from ec] at this
            cases this
            obtain ⟨o, ho, hd⟩ := zc
            exact ⟨c, ec', o, k4 _ _ ho, hd⟩
    · obtain ⟨v, o, ho, hd⟩ := I3.cell x c (L.sub x c e)
      exact ⟨v, o, k4 _ _ ho, hd⟩
    · exact absurd (show p ∈ ([] : List (Addr × Obj)) from hp) (by simp)
    · unfold capS
      rw [List.length_append, List.length_replicate, List.length_map, capOk_len S.cap]
      omega
  obtain ⟨W, ⟨m0, w0⟩, turn⟩ := R ⟨cl, C, s3, H3, fp⟩
  -- back to the frame outside
  have back : ∀ {τ : St} {H' : Hp} {s' : Shared}, Inv (cxComp X scope N' cl C s3 H3 fp) [] τ H' s' → Inv X pins σ H' s' := fun {τ H' s'} J => by
    refine I3.call' (ch := fp) (J.os.trans ?_) J.base J.hok J.bare fun b hb => ⟨(f3 b hb).2.2.2.1, (f3 b hb).2.1, (f3 b hb).2.2.2.2.1, (f3 b hb).2.2.2.2.2⟩
    rfl
  have stat : ∀ {H' : Hp}, (∀ b ∈ fp, H' b = none) → ∀ b ∈ fp, FpOk (cxComp X scope N' cl C s3 H3 fp) [] H' b := fun {H'} hn b hb => by
    refine ⟨hn b hb, (I4.ok.exf b hb).1, I4.ok.exfs b hb, .inl hb, (I4.ok.exf b hb).2, fun p hp => ?_⟩
    exact absurd (show p ∈ ([] : List (Addr × Obj)) from hp) (by simp)
  have loop : codeAny (model X.prog X.w) X.A (.compLoop (.ListComp elt [⟨tg, iter, ifs, 0⟩] scope pos) 0 (.ref it) (.ref D) (compEnvC scope cl C X.env))
      (fun r s' => ∃ (D' : Addr) (H' : Hp) (m : Str → Option Value), Value.ref D = .ref D' ∧ r = .ok .next ∧ Inv X pins σ H' s' ∧ s'.heap.Ns C m ∧ FpOk X pins H' C ∧ Q (.ref D') H') { s3 with heap := h4, toks := s3.toks + ([] : List (Str × Value)).length } := by
    refine block_loop (fun n s' => ∃ i ys τ H', Inv (cxComp X scope N' cl C s3 H3 fp) [] τ H' s' ∧ tn i s'.heap ∧ (∀ b ∈ fp, H' b = none) ∧ W i n ys τ H') ?_ m0 ⟨0, [], _, H3, I4, T.keep 0 _ _ st3 fun b _ o e => k4 b o e, fpn, w0⟩
    rintro n s5 ⟨i, ys, τ, H5, I5, st5, fr5, w5⟩
    rcases turn i n ys τ H5 w5 with ⟨stop, q⟩ | ⟨go, N, hN, step⟩
    · refine thn (T.done (cxComp X scope N' cl C s3 H3 fp) rfl rfl rfl hc i [] s5 τ H5 NoE I5 (stat fr5) st5 stop) fun r s6 ⟨hr, I6⟩ => ?_
      subst hr
      obtain ⟨m, hm, _⟩ := id I6.loc
      exact ⟨D, H5, m, rfl, rfl, back I6, hm, fC I6.free, q⟩
    · refine thn (T.item (cxComp X scope N' cl C s3 H3 fp) rfl rfl rfl hc i [] s5 τ H5 NoE I5 (stat fr5) st5 go) fun r s6 ⟨u, hr, h6⟩ => ?_
      subst hr
      refine thn h6 fun _ s7 ⟨x, H7, I7, r7, y7, st7, fr7⟩ => ?_
      have I7' := I7.pinned (stat fr7) (T.obj _ _ st7)
      have again : ∀ {τ9 : St} {H9 : Hp} {s9 : Shared} {ys9 : List V} {m' : Nat}, Inv (cxComp X scope N' cl C s3 H3 fp) ([] ++ pinsAt fp s7.heap) τ9 H9 s9 → m' < n → W (i + 1) m' ys9 τ9 H9 →
          ∃ m, m < n ∧ ∃ i ys τ H', Inv (cxComp X scope N' cl C s3 H3 fp) [] τ H' s9 ∧ tn i s9.heap ∧ (∀ b ∈ fp, H' b = none) ∧ W i m ys τ H' := fun {τ9 H9 s9 ys9 m'} I9 hm w9 => by
        refine ⟨m', hm, i + 1, ys9, τ9, H9, I9.unpinned, T.keep _ _ _ st7 fun b hb o e => (I9.pin (b, o) (List.mem_append_right _ (List.mem_append_right _ (mem_pinsAt hb e)))).1, fun b hb => ?_, w9⟩
        obtain ⟨o, e, _⟩ := T.obj _ _ st7 b hb
        exact (I9.pin (b, o) (List.mem_append_right _ (List.mem_append_right _ (mem_pinsAt hb e)))).2.1
      refine thn (hg ⟨cl, C, s3, H3, fp⟩ _ s7 τ H7 x u _ I7' r7 (step x H7 y7)) fun _ s8 ⟨τ8, H8, I8, q8⟩ => ?_
      refine thn (ht ⟨cl, C, s3, H3, fp⟩ _ s8 τ8 H8 _ I8 q8) fun ok s9 ⟨H9, I9, q9⟩ => ?_
      cases ok with
      | false =>
        obtain ⟨m', hm, w9⟩ := hN _ _ _ (show N ys τ8 H9 from q9)
        exact again I9 hm w9
      | true =>
        refine thn (he ⟨cl, C, s3, H3, fp⟩ _ s9 τ8 H9 _ I9 q9) fun y s10 ⟨z, H10, I10, r10, hl, hz, q10⟩ => ?_
        refine thn (mt_append _ s10 τ8 H10 (.ref D) [z] (.ref D) [y] (fun v H11 => v = .non ∧ H11 = upd H10 D (.lst (ys ++ [z]))) I10 rfl (.cons r10 .nil) ⟨D, ys, z, rfl, rfl, hl, hz, rfl, rfl⟩) fun _ s11 ⟨v, H11, I11, _, _, e11⟩ => ?_
        subst e11
        obtain ⟨m', hm, w10⟩ := hN _ _ _ q10
        exact again I11 hm w10
  exact codeAny_compStart_list loop (T.self _ 0 _ _ _ (T.keep 0 _ _ st3 fun b _ o e => k4 b o e) loop)
theorem pe_comp (hc : X.calm = true) (S : CompOk X scope N' t caps) (hi : PI X tg iter wi)
    (hg : ∀ b, PG (cxB X scope N' b) tg (g b)) (ht : ∀ b, PTs (cxB X scope N' b) ifs (tc b)) (he : ∀ b, PE (cxB X scope N' b) elt (te b))
    (hs : ∀ x, foldedSetIterable iter X.env x = pure x := by intro _; rfl) : PE X (.ListComp elt [⟨tg, iter, ifs, 0⟩] scope pos) (tComp wi g tc te t caps) := by
  intro pins s σ H Q I h
  obtain ⟨cl, L⟩ := clos_of (env := X.env) (scope := scope) fun y hy hf => I.ok.has y.1 (isCF_iff ((S.at hy).2.2 hf))
  rw [eval_ListComp]
  refine wpAny_comprehension_free (use := none) rfl hs L.eq S.kind (fun y hy => (S.at hy).2.1) (thn (hi pins s σ H _ I h) fun x s1 h1 => thn h1 fun itv s2 h2 => ?_)
  obtain ⟨it, fp, tn, J, H2, rfl, I2, T, st2, f2, R⟩ := h2
  refine thn (comp_core hc S L hg ht he I2 T st2 f2 R) fun acc s3 h3 => thn h3 fun cenv s4 h4 => codeAny_mono h4 fun r s' hr => ?_
  obtain ⟨D, H', m, rfl, rfl, I', hm, fC, q⟩ := hr
  obtain ⟨c0, c1, c2, c3, c4, c5⟩ := fC
  exact ⟨m, hm, fun h' sb => ⟨.ref D, H', I'.turned (t' := s'.toks) (fun b o hb e => sb.extBut b o hb e) c0 c1 c3 c4 c5, rfl, q⟩⟩
end
end L2

/-! BExt2 -/
set_option Elab.async false
set_option linter.all false
set_option maxRecDepth 100000
set_option maxHeartbeats 4000000
namespace L2
open PySem PySem.Spec PyProof.Rows
def CDivG (i j : Int) : Prop := 0 < j ∧ j.natAbs.log2 < 9000
section
variable {X : Cx}
theorem op_fdivG : OpR X (binaryOp .FloorDiv) (rI CDivG fun i j => .int (i / j)) := opI fun i j _ _ _ _ _ hc q => by
  have e : i.fdiv j = i / j := Int.fdiv_eq_ediv_of_nonneg i (Int.le_of_lt hc.1)
  exact floordiv_int (Ne.symm (Int.ne_of_lt hc.1)) (by rw [e]; exact q) (.inl (PyProof.noPylong_of_log2 hc.2))
def clsV : V → Option Value
  | .ty n => some (.type n)
  | .ref a => some (.ref a)
  | _ => none
theorem clsV_rel {c : V} {cv u : Value} (h : clsV c = some cv) (r : RelV c u) : u = cv := by
  cases c <;> simp [clsV] at h
  · exact (show u = Value.ref _ from r).trans h
  · exact (show u = Value.type _ from r).trans h
def rIsi (K : PySem.W.Frag) : List V → Hp → VK → Prop := fun xs H Q => ∃ x c t cv b, xs = [x, c] ∧ clsV c = some cv ∧ TyOf K H x t ∧ PySem.W.kitOne K t cv = some b ∧ Q (.bl b) H
theorem call_isi : CallR X (.builtin "isinstance") (rIsi X.K) := by
  intro pins s σ H xs us Q I r h
  obtain ⟨x, c, t, cv, b, rfl, hc, ty, e, q⟩ := h
  obtain ⟨u, v, rfl, r1, r2⟩ := r.two
  obtain rfl := clsV_rel hc r2
  exact isinst_ok I r1 ty e fun tk => ⟨.bl b, H, I.tok tk, rfl, q⟩
inductive EqD (K : PySem.W.Frag) (H : Hp) : V → V → Bool → Nat → Prop where
  | flat {x y : V} {n : Nat} (fx : flatV x = true) (fy : flatV y = true) : EqD K H x y (eqV x y) n
  | same {a : Addr} {n : Nat} : EqD K H (.ref a) (.ref a) true n
  | lst {a b : Addr} {xs ys : List V} {e : Nat → Bool} {n : Nat} (hne : a ≠ b) (ha : SqL K H a xs) (hb : SqL K H b ys) (hl : xs.length = ys.length) (h : ∀ (j : Nat) x y, xs[j]? = some x → ys[j]? = some y → EqD K H x y (e j) n) :
      EqD K H (.ref a) (.ref b) ((List.range xs.length).all e) (n + 1)
  | tup {a b : Addr} {xs ys : List V} {e : Nat → Bool} {n : Nat} (hne : a ≠ b) (ha : SqT K H a xs) (hb : SqT K H b ys) (hl : xs.length = ys.length) (h : ∀ (j : Nat) x y, xs[j]? = some x → ys[j]? = some y → EqD K H x y (e j) n) :
      EqD K H (.ref a) (.ref b) ((List.range xs.length).all e) (n + 1)
theorem in1_units (A : Around) : A.in1.units = A.units + 1 := rfl
theorem EqD.at {pins : List (Addr × Obj)} {σ : St} {H : Hp} {s : Shared} {x y : V} {b : Bool} {n : Nat} (I : Inv X pins σ H s) (h : EqD X.K H x y b n) :
    ∀ (A : Around) (u v : Value), A.units + n < cLine → RelV x u → RelV y v → SeqAt.EqAt A s u v b := by
  induction h with
  | flat fx fy => intro A u v _ rx ry; exact eqAt_V rx ry fx fy
  | same => intro A u v _ rx ry; cases rx; cases ry; exact SeqAt.EqAt.same _
  | @lst a b xs ys e n hne ha hb hl h ih =>
    intro A u v hu rx ry
    cases rx; cases ry
    obtain ⟨i1, r1, p1, _⟩ := I.list ha
    obtain ⟨i2, r2, p2, _⟩ := I.list hb
    have l1 := r1.length
    have l2 := r2.length
    refine SeqAt.EqAt.of_refs hne ?_
    have q := SeqAt.RcAt.lists (A := A) (s := s) (e := e) p1.isList p2.isList (by simp; omega) (by omega) (fun j h1 h2 => ?_)
    · rw [List.size_toArray, ← l1] at q
      exact q
    · have g1 : j < xs.length := by rw [l1]; simpa using h1
      have g2 : j < ys.length := by rw [l2]; simpa using h2
      obtain ⟨u1, e1, q1⟩ := r1.get (i := j) (x := xs[j]) (by simp [g1])
      obtain ⟨u2, e2, q2⟩ := r2.get (i := j) (x := ys[j]) (by simp [g2])
      have f1 : i1.toArray[j] = u1 := by
        have := List.getElem?_eq_some_iff.mp e1
        obtain ⟨_, z⟩ := this
        simpa using z
      have f2 : i2.toArray[j] = u2 := by
        have := List.getElem?_eq_some_iff.mp e2
        obtain ⟨_, z⟩ := this
        simpa using z
      rw [f1, f2]
      exact ih j _ _ (by simp [g1]) (by simp [g2]) A.in1 u1 u2 (by rw [in1_units]; omega) q1 q2
  | @tup a b xs ys e n hne ha hb hl h ih =>
    intro A u v hu rx ry
    cases rx; cases ry
    obtain ⟨i1, r1, p1, _⟩ := I.tuple ha
    obtain ⟨i2, r2, p2, _⟩ := I.tuple hb
    have l1 := r1.length
    have l2 := r2.length
    refine SeqAt.EqAt.of_refs hne ?_
    have q := SeqAt.RcAt.tuples (A := A) (s := s) (e := e) (show s.heap.IsTuple a i1.toArray from p1) (show s.heap.IsTuple b i2.toArray from p2) (by omega) (fun j h1 h2 => ?_)
    · have z : i1.toArray.size = i2.toArray.size := by simp; omega
      rw [← z, Nat.min_self, beq_self_eq_true, Bool.and_true, List.size_toArray, ← l1] at q
      exact q
    · have g1 : j < xs.length := by rw [l1]; simpa using h1
      have g2 : j < ys.length := by rw [l2]; simpa using h2
      obtain ⟨u1, e1, q1⟩ := r1.get (i := j) (x := xs[j]) (by simp [g1])
      obtain ⟨u2, e2, q2⟩ := r2.get (i := j) (x := ys[j]) (by simp [g2])
      have f1 : i1.toArray[j] = u1 := by
        have := List.getElem?_eq_some_iff.mp e1
        obtain ⟨_, z⟩ := this
        simpa using z
      have f2 : i2.toArray[j] = u2 := by
        have := List.getElem?_eq_some_iff.mp e2
        obtain ⟨_, z⟩ := this
        simpa using z
      rw [f1, f2]
      exact ih j _ _ (by simp [g1]) (by simp [g2]) A.in1 u1 u2 (by rw [in1_units]; omega) q1 q2
def rEqS (K : PySem.W.Frag) (A : Around) (neg : Bool) : R2 := fun x y H Q => ∃ (a b : Addr) (xs ys : List V) (e : Nat → Bool) (n : Nat), x = .ref a ∧ y = .ref b ∧ ((SqL K H a xs ∧ SqL K H b ys) ∨ (SqT K H a xs ∧ SqT K H b ys)) ∧ xs.length = ys.length ∧
  A.units + n + 2 < cLine ∧ (∀ (j : Nat) x y, xs[j]? = some x → ys[j]? = some y → EqD K H x y (e j) n) ∧ Q (.bl (if neg then !(List.range xs.length).all e else (List.range xs.length).all e)) H
theorem items_at {pins : List (Addr × Obj)} {σ : St} {H : Hp} {s : Shared} {A : Around} {xs ys : List V} {i1 i2 : List Value} {e : Nat → Bool} {n : Nat} (I : Inv X pins σ H s) (r1 : Vals xs i1) (r2 : Vals ys i2) (hu : A.units + n + 2 < cLine)
    (h : ∀ (j : Nat) x y, xs[j]? = some x → ys[j]? = some y → EqD X.K H x y (e j) n) : ∀ (j : Nat) (h1 : j < i1.toArray.size) (h2 : j < i2.toArray.size), SeqAt.EqAt A.in1 s i1.toArray[j] i2.toArray[j] (e j) := fun j h1 h2 => by
  have g1 : j < xs.length := by rw [r1.length]; simpa using h1
  have g2 : j < ys.length := by rw [r2.length]; simpa using h2
  obtain ⟨u1, e1, q1⟩ := r1.get (i := j) (x := xs[j]) (by simp [g1])
  obtain ⟨u2, e2, q2⟩ := r2.get (i := j) (x := ys[j]) (by simp [g2])
  have f1 : i1.toArray[j] = u1 := by
    obtain ⟨_, z⟩ := List.getElem?_eq_some_iff.mp e1
    simpa using z
  have f2 : i2.toArray[j] = u2 := by
    obtain ⟨_, z⟩ := List.getElem?_eq_some_iff.mp e2
    simpa using z
  rw [f1, f2]
  exact (h j _ _ (by simp [g1]) (by simp [g2])).at I A.in1 u1 u2 (by rw [in1_units]; omega) q1 q2
theorem op_eqS : OpR X (compareOp .Eq) (rEqS X.K X.A false) := by
  intro pins s σ H x y v u Q I rx ry h
  obtain ⟨a, b, xs, ys, e, n, rfl, rfl, hq, hl, hu, hi, q⟩ := h
  cases rx; cases ry
  rcases hq with ⟨h1, h2⟩ | ⟨h1, h2⟩
  · obtain ⟨i1, r1, p1, _⟩ := I.list h1
    obtain ⟨i2, r2, p2, _⟩ := I.list h2
    refine SeqAt.eq_listAt p1.isList p2.isList (by simp; rw [← r1.length, ← r2.length, hl]) (by omega) (items_at I r1 r2 hu hi) ⟨.bl _, H, I, rfl, ?_⟩
    rw [List.size_toArray, ← r1.length]
    exact q
  · obtain ⟨i1, r1, p1, _⟩ := I.tuple h1
    obtain ⟨i2, r2, p2, _⟩ := I.tuple h2
    have z : i1.toArray.size = i2.toArray.size := by simp; rw [← r1.length, ← r2.length, hl]
    refine SeqAt.eq_tupleAt (show s.heap.IsTuple a i1.toArray from p1) (show s.heap.IsTuple b i2.toArray from p2) (by omega) (items_at I r1 r2 hu hi) ⟨.bl _, H, I, rfl, ?_⟩
    rw [← z, Nat.min_self, beq_self_eq_true, Bool.and_true, List.size_toArray, ← r1.length]
    exact q
theorem op_neS : OpR X (compareOp .NotEq) (rEqS X.K X.A true) := by
  intro pins s σ H x y v u Q I rx ry h
  obtain ⟨a, b, xs, ys, e, n, rfl, rfl, hq, hl, hu, hi, q⟩ := h
  cases rx; cases ry
  rcases hq with ⟨h1, h2⟩ | ⟨h1, h2⟩
  · obtain ⟨i1, r1, p1, _⟩ := I.list h1
    obtain ⟨i2, r2, p2, _⟩ := I.list h2
    refine SeqAt.RcNeAt.lists p1.isList p2.isList (by simp; rw [← r1.length, ← r2.length, hl]) (by omega) (items_at I r1 r2 hu hi) _ _ _ _ ⟨.bl _, H, I, rfl, ?_⟩
    rw [List.size_toArray, ← r1.length]
    exact q
  · obtain ⟨i1, r1, p1, _⟩ := I.tuple h1
    obtain ⟨i2, r2, p2, _⟩ := I.tuple h2
    have z : i1.toArray.size = i2.toArray.size := by simp; rw [← r1.length, ← r2.length, hl]
    refine SeqAt.RcNeAt.tuples (show s.heap.IsTuple a i1.toArray from p1) (show s.heap.IsTuple b i2.toArray from p2) (by omega) (items_at I r1 r2 hu hi) _ _ _ _ ⟨.bl _, H, I, rfl, ?_⟩
    rw [← z, Nat.min_self, beq_self_eq_true, Bool.and_true, List.size_toArray, ← r1.length]
    exact q
end
structure Callee (P : Program) (w : World) (K : PySem.W.Frag) (mg : Str → Option Value) (base : Heap) (x : Str) (f : Addr) (fd : FuncData) (ps : List Str) (k : Nat) (sp : Sp) : Prop where
  ok : FnOk P w K mg base CX0 k f fd ps sp
  g : mg x = some (.ref f)
  kp : PySem.W.keepIn K (.ref f) = true
  b : Binds K fd ps []
structure Maker (P : Program) (w : World) (K : PySem.W.Frag) (mg : Str → Option Value) (base : Heap) (x : Str) (C f : Addr) (fd : FuncData) (ps : List Str) (k : Nat) (sp : Sp) : Prop where
  ok : FnOk P w K mg base CX0 k f fd ps sp
  g : mg x = some (.ref C)
  mm : Mk K C f
  b : Binds K fd ps []
section
variable {X : Cx} {k : Nat} {f C : Addr} {fd : FuncData} {ps : List Str} {sp : Sp} {x m : Str} {p pos apos : Pos} {e o : Expr} {es : List Expr} {ta : TE} {t : TA}
theorem pe_c (c : Callee X.prog X.w X.K X.mg X.base x f fd ps k sp) (hr : Room k X.A) (ha : PA X (e :: es) t) (hg : Gl X x := by rfl) (hdb : (x == ("__debug__" : Str)) = false := by decide)
    (he : starEach (e :: es) X.env = (false, eval e X.env) :: starEach es X.env := by rfl) (hpl : (backTo pos (starEach es X.env)).any (·.1) = false := by rfl) : PE X (.Call (.Name x p) (e :: es) [] pos) (tCall sp [] E0 t) :=
  pe_call c.ok hr hg c.g c.kp c.b .nil pass0 ha hdb he hpl
theorem pe_m (c : Maker X.prog X.w X.K X.mg X.base x C f fd ps k sp) (hr : Room (k + 1) X.A) (ha : PA X (e :: es) t) (hg : Gl X x := by rfl) (hdb : (x == ("__debug__" : Str)) = false := by decide)
    (he : starEach (e :: es) X.env = (false, eval e X.env) :: starEach es X.env := by rfl) (hpl : (backTo pos (starEach es X.env)).any (·.1) = false := by rfl) : PE X (.Call (.Name x p) (e :: es) [] pos) (tMake C sp [] E0 t) :=
  pe_make c.mm c.ok hr hg c.g c.b .nil pass0 ha hdb he hpl
def tMethD (X : Cx) (m : Str) (ta : TE) (t : TA) : TE := fun σ H Q => ta σ H fun x H1 => ∃ (a C dx : Addr) (fs : List (Str × V)) (f : Addr) (fd : FuncData) (ps : List Str) (k : Nat) (sp : Sp), x = .ref a ∧ H1 a = some (.ins C dx fs) ∧ fs.lookup m = none ∧ Cls X.K C ∧ Meth X.K C m f ∧
  FnOk X.prog X.w X.K X.mg X.base CX0 k f fd ps sp ∧ Room k X.A ∧ Binds X.K fd ps [] ∧ t σ H1 fun vs H2 => sp (x :: (vs ++ [])) H2 Q E0
theorem pe_methD {pl : Sem Bool} (he : PE X o ta) (ha : PA X (e :: es) t)
    (hst : starEach (e :: es) X.env = (false, eval e X.env) :: starEach es X.env := by rfl) (hpl : (backTo pos (starEach es X.env)).any (·.1) = false := by rfl)
    (ht : eval (.Call (.Attribute o m apos) (e :: es) [] pos) X.env = (do
      let ov ← eval o X.env
      standAt apos.atName
      let (f, first) ← holding [ov] (getMethod ov m pl)
      callWith pos f first (backTo pos (starEach (e :: es) X.env)) (backToKw pos (keywordEach [] X.env))) := by rfl) :
    PE X (.Call (.Attribute o m apos) (e :: es) [] pos) (tMethD X m ta t) := by
  intro pins s σ H Q I h
  refine PySem.W.methodCall_KW (pl := pl) (thn (he pins s σ H _ I h) fun u s1 ⟨x, H1, I1, rx, a, C, dx, fs, f, fd, ps, k, sp, ex, ea, l, cl, hm, F, hr, hb, q⟩ => ?_) ht
  subst ex
  obtain rfl : u = Value.ref a := rx
  refine getmeth_ok I1 ea cl hm l ?_
  refine PySem.W.callWith_K (first := [.ref a]) (h₀ := X.base) I.ok.mod.kin hm.kp (thn (ha pos pins s1 σ H1 _ I1 q) fun us s2 ⟨vs, H2, I2, r, q2⟩ => ⟨I2.kIn, ?_⟩) hst hpl
  exact run_fn (us := .ref a :: us) (vs := .ref a :: vs) F hr hb .nil pass0 I2 (.cons rfl r) q2
theorem pe_meth0D {pl : Sem Bool} (he : PE X o ta)
    (ht : eval (.Call (.Attribute o m apos) [] [] pos) X.env = (do
      let ov ← eval o X.env
      standAt apos.atName
      let (f, first) ← holding [ov] (getMethod ov m pl)
      callWith pos f first (backTo pos (starEach [] X.env)) (backToKw pos (keywordEach [] X.env))) := by rfl) :
    PE X (.Call (.Attribute o m apos) [] [] pos) (tMethD X m ta tNil) := by
  intro pins s σ H Q I h
  refine PySem.W.methodCall_KW (pl := pl) (thn (he pins s σ H _ I h) fun u s1 ⟨x, H1, I1, rx, a, C, dx, fs, f, fd, ps, k, sp, ex, ea, l, cl, hm, F, hr, hb, q⟩ => ?_) ht
  subst ex
  obtain rfl : u = Value.ref a := rx
  refine getmeth_ok I1 ea cl hm l ?_
  exact PySem.W.callWith_K0 (first := [.ref a]) I1.kIn hm.kp (run_fn (us := [.ref a]) (vs := [.ref a]) F hr hb .nil pass0 I1 (.cons rfl .nil) q)
end
end L2

/-! ZipT -/
set_option Elab.async false
set_option linter.all false
set_option maxHeartbeats 4000000
namespace PySem
namespace Zt
section
variable {prog : Program} {w : World} {A : Around} {E : Value → Shared → Prop} {s : Shared}
end
end Zt
end PySem

/-! ZipN -/
set_option Elab.async false
set_option linter.all false
set_option maxHeartbeats 4000000
namespace PySem
namespace Zt
section
variable {prog : Program} {w : World} {A : Around} {E : Value → Shared → Prop} {s : Shared}
end
end Zt
end PySem

/-! BExt3 -/
set_option Elab.async false
set_option linter.all false
set_option maxRecDepth 100000
set_option maxHeartbeats 4000000
namespace L2
open PySem PySem.Spec PyProof.Rows PySem.Zt
section
variable {X : Cx} {pins : List (Addr × Obj)} {σ : St} {H : Hp} {s : Shared} {a b : Addr} {xs ys : List V}
end
theorem pe_cls {X : Cx} {x : Str} {C : Addr} {pos : Pos} (hm : X.mg x = some (.ref C)) (hg : Gl X x := by rfl) (hd : (x == ("__debug__" : Str)) = false := by decide) : PE X (.Name x pos) (tC (.ref C)) := pe_glob hg hm rfl hd
theorem pe_bty {X : Cx} {x : Str} {n : String} {pos : Pos} (hm : X.mg x = none) (hv : bootBuiltins x = some (.type n)) (hg : Gl X x := by rfl) (hn : x ≠ "__name__" := by decide) (hd : (x == ("__debug__" : Str)) = false := by decide) : PE X (.Name x pos) (tC (.ty n)) := pe_bltn hg hm hv rfl hn hd
theorem bt_len : bootBuiltins "len" = some (.builtin "len") := by decide +kernel
theorem bt_int : bootBuiltins "int" = some (.type "int") := by decide +kernel
theorem bt_min : bootBuiltins "min" = some (.builtin "min") := by decide +kernel
theorem bt_isinstance : bootBuiltins "isinstance" = some (.builtin "isinstance") := by decide +kernel
theorem bt_list : bootBuiltins "list" = some (.type "list") := by decide +kernel
theorem bt_sorted : bootBuiltins "sorted" = some (.builtin "sorted") := by decide +kernel
theorem bt_bool : bootBuiltins "bool" = some (.type "bool") := by decide +kernel
theorem bt_tuple : bootBuiltins "tuple" = some (.type "tuple") := by decide +kernel
theorem bt_ValueError : bootBuiltins "ValueError" = some (.type "ValueError") := by decide +kernel
theorem b01 (k : Bool) : -(2 ^ 64) < (if k = true then (1 : Int) else 0) ∧ (if k = true then (1 : Int) else 0) < 2 ^ 64 := by cases k <;> decide
end L2

/-! BExt4 -/
set_option Elab.async false
set_option linter.all false
set_option maxRecDepth 100000
set_option maxHeartbeats 4000000
namespace L2
open PySem PySem.Spec PyProof.Rows
section
variable {P : Program} {w : World} {A : Around} {R : Result → Shared → Prop} {I S : Addr} {fp wr : List Addr} {n : Nat} {Is : Nat → Value → Prop} {St : Nat → Heap → Prop} {kw : List (Str × Value)}
end
section
variable {X : Cx}
theorem ints_of : ∀ {ns : List Int} {its : List Value}, Vals (ns.map V.int) its → IntsAre its ns
  | [], _, r => by cases r; exact .nil
  | n :: ns, _, r => by
    cases r with
    | cons h t =>
      obtain ⟨k, rfl⟩ := h
      exact .cons _ _ (ints_of t)
theorem of_ints : ∀ {ns : List Int} {its : List Value}, IntsAre its ns → Vals (ns.map V.int) its
  | _, _, .nil => .nil
  | _, _, .cons _ _ t => .cons ⟨_, rfl⟩ (of_ints t)
def rSortI (K : PySem.W.Frag) : List V → Hp → VK → Prop := fun xs H Q => ∃ (a : Addr) (ns : List Int), xs = [V.ref a] ∧ SqL K H a (ns.map V.int) ∧ ns.length < 64 ∧ ∀ (p : Addr) (ms : List Int), H p = none → ms.Perm ns → ms.Pairwise (· ≤ ·) → Q (.ref p) (upd H p (.lst (ms.map V.int)))
theorem call_sortI : CallR X (.builtin "sorted") (rSortI X.K) := by
  intro pins s σ H xs us Q I r h
  obtain ⟨a, ns, rfl, ha, h64, q⟩ := h
  obtain ⟨u, rfl, ru⟩ := r.one
  cases ru
  obtain ⟨its, rv, p, hz⟩ := I.list ha
  have hl := rv.length
  rw [List.length_map] at hl hz
  refine sorted_ints p.isList (ints_of rv) (by omega) fun out ms a1 a2 a3 => ?_
  have hn : H (s.heap.objs.size + 1) = none := I.hok.fresh (Nat.le_succ _)
  obtain ⟨c, hc⟩ := sortedAll_at s.heap its out
  refine ⟨.ref _, _, I.laid (a := s.heap.objs.size + 1) (o := .lst (ms.map V.int)) (t' := s.toks) (fun _ _ e => sortedAll_old e) (Nat.le_succ _) ⟨?_, out.toList, c, of_ints a1, ?_⟩, rfl, q _ ms hn a2 a3⟩
  · rw [List.length_map, a2.length_eq]; exact hz
  · exact hc
end
end L2

/-! BExt5 -/
set_option Elab.async false
set_option linter.all false
set_option maxRecDepth 100000
set_option maxHeartbeats 4000000
namespace L2
open PySem PySem.Spec PyProof.Rows
section
variable {P : Program} {w : World} {A : Around} {E : Value → Shared → Prop}
end
end L2

/-! Em -/
set_option Elab.async false
set_option linter.all false
set_option maxRecDepth 100000
set_option maxHeartbeats 4000000
namespace K04
open PySem L2
def Ext (l : Addr) (H H' : Hp) : Prop := ∀ b o, H b = some o → b ≠ l → H' b = some o
theorem Ext.refl {l : Addr} {H : Hp} : Ext l H H := fun _ _ e _ => e
theorem Ext.trans {l : Addr} {H H1 H2 : Hp} (a : Ext l H H1) (b : Ext l H1 H2) : Ext l H H2 := fun c o e n => b c o (a c o e n) n
theorem Ext.same {l : Addr} {H H' : Hp} (a : Same H H') : Ext l H H' := fun c o e _ => a c o e
theorem Ext.new {l p : Addr} {H : Hp} {o : HO} (h : H p = none) : Ext l H (upd H p o) := fun c u e _ => by rw [upd_ne (ne_of_none e h)]; exact e
theorem Ext.at {l : Addr} {H : Hp} {o : HO} : Ext l H (upd H l o) := fun c u e n => by rw [upd_ne n]; exact e
theorem Same.new {p : Addr} {H : Hp} {o : HO} (h : H p = none) : Same H (upd H p o) := fun c u e => by rw [upd_ne (ne_of_none e h)]; exact e
def StOk (st : List V) : Prop := (∃ a : Int, st = [V.int a]) ∨ ∃ a b c : Int, st = [V.int a, V.int b, V.int c]
def StAt (H : Hp) (l : Addr) : Prop := ∃ st, H l = some (.lst st) ∧ StOk st
theorem StAt.new {H : Hp} {l p : Addr} {o : HO} (s : StAt H l) (h : H p = none) : StAt (upd H p o) l := by
  obtain ⟨st, e, k⟩ := s
  exact ⟨st, by rw [upd_ne (ne_of_none e h)]; exact e, k⟩
theorem StAt.same {H H' : Hp} {l : Addr} (s : StAt H l) (h : Same H H') : StAt H' l := by
  obtain ⟨st, e, k⟩ := s
  exact ⟨st, h _ _ e, k⟩
theorem eqV_refl {x : V} (h : flatV x = true) : eqV x x = true := by
  cases x <;> simp [flatV] at h <;> simp [eqV]
theorem flat_same {K : PySem.W.Frag} {H : Hp} {x : V} {n : Nat} (h : flatV x = true) : EqD K H x x true n := by
  have := EqD.flat (K := K) (H := H) (n := n) h h
  rw [eqV_refl h] at this
  exact this
theorem log_small {n : Int} (h1 : 1 ≤ n) (h2 : n ≤ 1000000000) : n.natAbs.log2 < 9000 := by
  have h0 : n.natAbs ≠ 0 := by omega
  have := (Nat.log2_lt h0 (k := 30)).mpr (Nat.lt_of_le_of_lt (show n.natAbs ≤ 1000000000 by omega) (by decide))
  omega
theorem StAt.ne {H : Hp} {l p : Addr} (s : StAt H l) (h : H p = none) : p ≠ l := by
  obtain ⟨st, e, _⟩ := s
  exact (ne_of_none e h).symm
theorem gn_if {i : Nat} {v : V} {τ : St} {H : Hp} {A B : St → Hp → Prop} (h : A (τ.set i (some v)) H) : gName i v τ H fun τ2 H4 => tYes τ2 H4 fun b H5 => if b = true then A τ2 H5 else B τ2 H5 := by
  show if true = true then A (τ.set i (some v)) H else B (τ.set i (some v)) H
  exact iteT h
theorem log_1009 : ((1009 : Int).natAbs.log2 < 9000) := by decide
theorem log_2003 : ((2003 : Int).natAbs.log2 < 9000) := by decide
end K04

/-! Gm -/
set_option Elab.async false
set_option linter.all false
set_option maxRecDepth 100000
set_option maxHeartbeats 4000000
namespace K04
open PySem L2
end K04

/-! BExc -/
set_option Elab.async false
set_option linter.all false
set_option maxRecDepth 100000
set_option maxHeartbeats 4000000
namespace L2
open PySem PySem.Spec PyProof.Rows
section
variable {P : Program} {w : World} {H H' : Hp} {h h' : Heap} {a : Addr} {o : HO}
theorem ObjOk.thr (x : ObjOk P w H h a o) : ∃ u, h.get? a = some u := by
  cases o with
  | lst xs => obtain ⟨_, _, _, _, e⟩ := x; exact ⟨_, e⟩
  | tup xs => obtain ⟨_, _, _, _, e, _⟩ := x; exact ⟨_, e⟩
  | dK kvs => obtain ⟨_, _, _, _, o, _, _, e, _⟩ := x; exact ⟨_, e⟩
  | dT kvs => obtain ⟨_, _, _, _, o, _, _, e, _⟩ := x; exact ⟨_, e⟩
  | set S n => obtain ⟨o, _, _, _, e, _⟩ := x; exact ⟨_, e⟩
  | ins C dx fs => obtain ⟨_, _, _, e, _⟩ := x; exact ⟨_, e⟩
  | own y => obtain ⟨_, e⟩ := x; exact ⟨_, e⟩
  | xd fs => obtain ⟨_, ⟨_, _, _, e, _⟩, _⟩ := x; exact ⟨_, e⟩
  | rng lo hi => obtain ⟨_, _, _, e⟩ := x; exact ⟨_, e⟩
  | frz ob u => obtain ⟨e, _⟩ := x; exact ⟨_, e⟩
  | tbl ps => exact ⟨_, show h.get? a = some _ from x⟩
  | met f y => exact ⟨_, show h.get? a = some _ from x⟩
  | ext φ => obtain ⟨_, ⟨_, e⟩, _⟩ := x; exact ⟨_, e⟩
theorem HOk.thr (x : HOk P w H h) (e : H a = some o) : ∃ u, h.get? a = some u := (x a o e).thr
theorem HOk.keptT (x : HOk P w H h) (k : ∀ b u, H b ≠ none → h.get? b = some u → h'.get? b = some u) : HOk P w H h' := fun a o e =>
  (x a o e).stay (fun b u hb q => k b u (by rcases hb with rfl | hb <;> simp_all) q) (fun _ q => q) fun _ _ q => q
end
structure Lies (P : Program) (w : World) (l : List Env) (H : Hp) (s : Shared) (H' : Hp) (s' : Shared) (B : Heap) : Prop where
  os : s'.os = s.os
  bare : AllBare s'.gens
  un : Un (frs l) [] H H' s.heap s'.heap
  hok : HOk P w H' s'.heap
  c1 : ∀ b o, s.heap.get? b = some o → H b = none → b ∉ frs l → B.get? b = some o
  c2 : ∀ b o, H' b ≠ none → s'.heap.get? b = some o → B.get? b = some o
  c3 : ∀ b o, s.heap.get? b = some o → b ∉ frs l → ∃ o', B.get? b = some o'
abbrev CX1 (P : Program) (w : World) : CXT := fun l H s E e s' => ∃ (a : Addr) (cls a0 : Value) (H' : Hp) (B : Heap), e = .ref a ∧ Lies P w l H s H' s' B ∧ Heap.FlyingW B l a cls a0 s'.heap ∧ E cls none H'
section
variable {X : Cx} {pins : List (Addr × Obj)} {σ : St} {H H' : Hp} {s s' : Shared} {B h2 : Heap} {t2 : Nat}
theorem Lies.un2 (I : Inv X pins σ H s) (L : Lies X.prog X.w X.stack H s H' s' B) (st : B.StaysIn h2) (up : s'.heap.UpToSlots h2) : Un (frs X.stack) [] H H' s.heap h2 := by
  have sl : ∀ b o, s.heap.get? b = some o → b ∈ frs X.stack → ∃ z, h2.get? b = some { o with slots := z } := fun b o q hb => by
    obtain ⟨z, e1⟩ := L.un.slot b o q (I.stkFree b hb) hb (by simp)
    obtain ⟨_, o', ho', hd⟩ := I.stack.mem hb
    rw [q] at ho'
    cases ho'
    obtain ⟨z2, e2⟩ := up b _ e1 (fun vs z => hd vs z)
    exact ⟨z2, e2⟩
  refine ⟨fun b o q n hb _ => st b o (L.c1 b o q n hb), fun b o q _ hb _ => sl b o q hb, fun b o q n hx => L.un.free b o q n hx, fun b o q _ => ?_, L.un.tups, L.un.frzs, L.un.tbls⟩
  by_cases hb : b ∈ frs X.stack
  · obtain ⟨z, e⟩ := sl b o q hb
    exact ⟨_, e⟩
  · obtain ⟨o', e⟩ := L.c3 b o q hb
    exact ⟨o', st b o' e⟩
theorem Lies.ok2 {l : List Env} {P : Program} {w : World} (L : Lies P w l H s H' s' B) (st : B.StaysIn h2) : HOk P w H' h2 := L.hok.keptT fun b u hb q => st b u (L.c2 b u hb q)
theorem Lies.inv (I : Inv X pins σ H s) (L : Lies X.prog X.w X.stack H s H' s' B) (st : B.StaysIn h2) (up : s'.heap.UpToSlots h2) : Inv X pins σ H' { s' with heap := h2, toks := t2 } := by
  refine I.call' (s' := { s' with heap := h2, toks := t2 }) (ch := []) L.os (L.un2 I st up) (L.ok2 st) L.bare (fun b z => absurd z (by simp))
theorem Lies.out (I : Inv X pins σ H s) (L : Lies X.prog X.w X.stack H s H' s' B) (st : B.StaysIn h2) (up : s'.heap.UpToSlots h2) (hx : X.ex = []) : Lies X.prog X.w X.outer X.H₀ X.s₀ H' { s' with heap := h2 } B := by
  have J := Lies.inv (t2 := s'.toks) I L st up
  have ns : ∀ b o, X.s₀.heap.get? b = some o → b ∉ frs X.outer → b ∉ frs X.stack := fun b o q hb z => by
    rcases List.mem_cons.mp (I.stkSub b z) with e | e
    · exact absurd (Nat.lt_of_lt_of_le (Heap.lt_size q) I.ok.above) (by rw [e]; exact Nat.lt_irrefl _)
    · exact hb e
  have hn : ∀ b : Addr, b ∉ X.ex := fun b => by rw [hx]; simp
  refine ⟨J.os, J.bare, ?_, J.hok, fun b o q n hb => ?_, fun b o hb q => ?_, fun b o q hb => ?_⟩
  · have := J.base
    rw [hx] at this
    exact this
  · exact L.c1 b o (I.base.keep b o q n hb (hn b)) (I.base.free b o q n (hn b)) (ns b o q hb)
  · cases e : H' b with
    | none => exact absurd e hb
    | some u =>
      obtain ⟨v, hv⟩ := L.hok.thr e
      have z := L.c2 b v hb hv
      have q' : h2.get? b = some o := q
      rw [st b v z] at q'
      cases q'
      exact z
  · obtain ⟨o', e⟩ := I.base.there b o q (hn b)
    exact L.c3 b o' e (ns b o q hb)
theorem lies_new (I : Inv X pins σ H s) (k : ∀ b u, s.heap.get? b = some u → h2.get? b = some u) : Lies X.prog X.w X.stack H s H { s with heap := h2 } (PySem.W.hideAll s.heap (frs X.stack)) := by
  refine ⟨rfl, I.bare, Un.kept k, I.hok.kept k, fun b o q _ hb => PySem.W.hideAll_get _ q hb, fun b o hb q => ?_, fun b o q hb => ⟨o, PySem.W.hideAll_get _ q hb⟩⟩
  cases e : H b with
  | none => exact absurd e hb
  | some u =>
    obtain ⟨v, hv⟩ := I.hok.thr e
    have q' : h2.get? b = some o := q
    rw [k b v hv] at q'
    cases q'
    exact PySem.W.hideAll_get _ hv fun z => hb (I.stkFree b z)
end
section
variable {P : Program} {w : World} {K : PySem.W.Frag} {mg : Str → Option Value} {base : Heap} {N : List Str} {qual : Str} {scope : Scope} {f : Addr} {cd : Value} {A : Around} {outer : List Env} {s0 : Shared} {H0 : Hp} {E : XK}
theorem leave1 {pins : List (Addr × Obj)} {σ : St} {H : Hp} {s : Shared} {h' : Heap} {e : Addr} {cls : Value} {args : List Value} (I : Inv (cxOf (CX1 P w) P w K mg base N qual scope f cd A outer s0 H0 E) pins σ H s)
    (hx : Heap.MadeExcOf s.heap h' e cls args) (q : E cls none H) : (cxOf (CX1 P w) P w K mg base N qual scope f cd A outer s0 H0 E).xe (.ref e) { s with heap := h' } := by
  have hfr := I.ok.frames
  have L := lies_new I hx.keeps
  refine wpAny_leaves_madeW (M := model P w) (A := A.deeper (envOfC qual scope s0.heap.objs.size f cd)) (s := { s with heap := h' }) (outer := outer) (L := s0.heap.objs.size) (base := PySem.W.hideAll s.heap (frs (envOfC qual scope s0.heap.objs.size f cd :: outer))) hfr rfl (fun b o q => PySem.W.of_hideAll _ q)
    (PySem.W.funFrames_hide I.stack fun env he b hb => List.mem_filterMap.mpr ⟨env, he, hb⟩) hx fun h2 t F2 _ _ up => ?_
  exact ⟨e, cls, .ref t, H, _, rfl, L.out I F2.1 up rfl, F2, q⟩
end
end L2

/-! BExc2 -/
set_option Elab.async false
set_option linter.all false
set_option maxRecDepth 100000
set_option maxHeartbeats 4000000
namespace L2
open PySem PySem.Spec PyProof.Rows
abbrev bmVal : List Value := [.type "ValueError", .type "Exception", .type "BaseException", .type "object"]
def XCls (K : PySem.W.Frag) (C : Addr) : Prop := PySem.W.excIn K C bmVal "ValueError.__new__" = true
def XObj (h : Heap) (C : Addr) : Prop := ∃ bm N nm qn bs hd sn sub ab col dd k0 k1 k2 k3 k5 mN, h.get? C = some (excClassObj nm qn C N bs bm hd sn sub ab col dd k0 k1 k2 k3 k5 "ValueError.__new__") ∧ h.Ns N mN ∧ mN "__init__" = none ∧ OwnTail h bmVal bm
theorem XCls.obj {K : PySem.W.Frag} {C : Addr} (x : XCls K C) {h : Heap} (I : K.In h) : XObj h C := by
  unfold XCls PySem.W.excIn at x
  split at x
  case h_2 => cases x
  case h_1 dd cd sl lk =>
    split at x
    case h_2 => cases x
    case h_1 C2 bm k0 k1 k2 k3 nid k5 em es =>
      rw [Bool.and_eq_true, Bool.and_eq_true, Bool.and_eq_true, Bool.and_eq_true, Bool.and_eq_true] at x
      obtain ⟨⟨⟨⟨⟨x1, x2⟩, x3⟩, x4⟩, x5⟩, x6⟩ := x
      cases (beq_iff_eq.mp x1)
      cases (beq_iff_eq.mp x2)
      cases cd with
      | mk nm bs mro ns qn hd sn sub ab col del =>
        have e1 : mro = .ref C :: bm := em
        have e2 : del = false := by
          cases del with
          | false => rfl
          | true => cases x3
        have e3 : sl = #[k0, k1, k2, k3, some (.builtin "ValueError.__new__"), k5] := by
          cases sl with
          | mk l =>
            have e : l = _ := es
            rw [e]
        rw [e1, e2, e3] at lk
        exact ⟨bm, ns, nm, qn, bs, hd, sn, sub, ab, col, dd, k0, k1, k2, k3, k5, _, I _ _ lk, .of_isNs (PySem.W.isNs_of_in I x5), PySem.W.nsMap_none_of_in I x5 (beq_iff_eq.mp x6), PySem.W.tail_of_in I x4⟩
theorem XObj.keeps {h h' : Heap} {C : Addr} (x : XObj h C) (k : ∀ b o, h.get? b = some o → h'.get? b = some o) : XObj h' C := by
  obtain ⟨bm, N, nm, qn, bs, hd, sn, sub, ab, col, dd, k0, k1, k2, k3, k5, mN, h1, h2, h3, h4⟩ := x
  exact ⟨bm, N, nm, qn, bs, hd, sn, sub, ab, col, dd, k0, k1, k2, k3, k5, mN, k _ _ h1, h2.keeps k, h3, h4.keeps k⟩
section
variable {P : Program} {w : World} {K : PySem.W.Frag} {mg : Str → Option Value} {base : Heap} {N : List Str} {qual : Str} {scope : Scope} {f : Addr} {cd : Value} {A : Around} {outer : List Env} {s0 : Shared} {H0 : Hp} {E : XK}
  {x : Str} {C : Addr} {e : Expr} {es : List Expr} {t : TA} {np cpos pos : Pos}
def tRz (C : Addr) (E : XK) (t : TA) : TS := fun _ σ H => t σ H fun vs H1 => vs.length ≤ 1000 ∧ E (.ref C) none H1
theorem ps_raise (hc : (A.deeper (envOfC qual scope s0.heap.objs.size f cd)).handled = none) (c : XCls K C) (hm : mg x = some (.ref C)) (ha : PA (cxOf (CX1 P w) P w K mg base N qual scope f cd A outer s0 H0 E) (e :: es) t)
    (hg : Gl (cxOf (CX1 P w) P w K mg base N qual scope f cd A outer s0 H0 E) x := by rfl)
    (he : starEach (e :: es) (cxOf (CX1 P w) P w K mg base N qual scope f cd A outer s0 H0 E).env = (false, eval e (cxOf (CX1 P w) P w K mg base N qual scope f cd A outer s0 H0 E).env) :: starEach es (cxOf (CX1 P w) P w K mg base N qual scope f cd A outer s0 H0 E).env := by rfl)
    (hpl : (backTo cpos (starEach es (cxOf (CX1 P w) P w K mg base N qual scope f cd A outer s0 H0 E).env)).any (·.1) = false := by rfl) (hdb : (x == ("__debug__" : Str)) = false := by decide) :
    PS (cxOf (CX1 P w) P w K mg base N qual scope f cd A outer s0 H0 E) (.Raise (some (.Call (.Name x np) (e :: es) [] cpos)) none pos) (tRz C E t) := by
  intro pins s σ H D I h
  obtain ⟨bm, Nn, nm, qn, bs, hd, sn, sub, ab, col, dd, k0, k1, k2, k3, k5, mN, h1, h2, h3, h4⟩ := c.obj I.mod.kin
  refine wpAny_Raise_call_subT (C := C) (nm := nm) (q := qn) (N := Nn) (bs := bs) (bm := bm) (hdct := hd) (sn := sn) (sub := sub) (ab := ab) (col := col) (dd := dd) (k0 := k0) (k1 := k1) (k2 := k2) (k3 := k3) (k5 := k5) PySem.F.excBase_ValueError (mN := mN)
    (h4.hasType rfl) hc (by rw [he]; exact hpl) h3 (ld_glob I hg hm ⟨rfl, ?_⟩ hdb)
  have hA := ha cpos pins s σ H _ I h
  rw [he] at hA ⊢
  refine Calls.evalArgs_plain (wpAny_mono hA (fun us s2 hq => ?_) fun _ _ z => z)
  obtain ⟨vs, H1, I1, r1, hl, q⟩ := hq
  refine ⟨rfl, ?_, I1.bk _ _ h1, h2.keeps I1.bk, h4.keeps I1.bk, fun h' e' hx => leave1 I1 hx q⟩
  show us.length ≤ sizeLine
  rw [← r1.length]
  exact Nat.le_of_lt (small1000 hl)
end
end L2

/-! BExc3 -/
set_option Elab.async false
set_option linter.all false
set_option maxRecDepth 100000
set_option maxHeartbeats 4000000
namespace L2
open PySem PySem.Spec PyProof.Rows
def XP (X : Cx) (pins : List (Addr × Obj)) (σ : St) (E : XK) (e : Value) (s' : Shared) : Prop := ∃ H1 s1, Inv X pins σ H1 s1 ∧ CX1 X.prog X.w X.stack H1 s1 E e s'
def PV (X : Cx) (e : Expr) (t : XK → TE) : Prop := ∀ (pins : List (Addr × Obj)) (s : Shared) (σ : St) (H : Hp) (Q : VK) (E : XK), Inv X pins σ H s → t E σ H Q → wpAny (model X.prog X.w) X.A (eval e X.env) (EP X pins σ Q) (XP X pins σ E) s
def PX (X : Cx) (b : List Stmt) (t : XK → TS) : Prop := ∀ (pins : List (Addr × Obj)) (s : Shared) (σ : St) (H : Hp) (D : Ends) (E : XK), Inv X pins σ H s → t E D σ H → wpAny (model X.prog X.w) X.A (execs b X.env) (SP X pins D) (XP X pins σ E) s
section
variable {X : Cx} {k : Nat} {f C : Addr} {fd : FuncData} {ps : List Str} {sp : Sp} {dvs : List V} {ds : List Value} {x : Str} {p pos : Pos} {e : Expr} {es : List Expr} {t : TA}
theorem run_fn1 {E : XK} {pins : List (Addr × Obj)} {σ : St} {H : Hp} {s : Shared} {Q : VK} {us : List Value} {vs : List V} (F : FnOk X.prog X.w X.K X.mg X.base (CX1 X.prog X.w) k f fd ps sp) (hr : Room k X.A) (hb : Binds X.K fd ps ds) (hd : Vals dvs ds)
    (I : Inv X pins σ H s) (r : Vals vs us) (h : sp (vs ++ dvs) H Q E) : wpAny (model X.prog X.w) X.A (call (.ref f) us) (EP X pins σ Q) (XP X pins σ E) s := by
  have r2 : Vals (vs ++ dvs) (us ++ ds) := r.append hd
  have hl : (us ++ ds).length = ps.length := by rw [← r2.length]; exact F.len _ _ _ _ h
  refine wpAny_call (codeAny_mono (F.run X.A X.stack s H ⟨us, []⟩ (us ++ ds) (vs ++ dvs) Q E hr I.env0 (hb s us I.kIn hl) r2 h) fun r s' hq => ?_)
  cases r with
  | error e => exact ⟨H, s, I, hq⟩
  | ok fl =>
    cases fl with
    | ret u => exact I.after hq
    | next => exact False.elim hq
    | brk => exact False.elim hq
    | cont => exact False.elim hq
theorem px_expr {te : XK → TE} (h : PV X e te) (hs : swapsWith e none pos.line X.env = pure false := by rfl) : PX X [.Expr e pos] (fun E => tDrop (te E)) := by
  intro pins s σ H D E I q
  refine wpAny_execs_cons (wpAny_Expr_any (wpAny_mono (h pins s σ H _ E I q) (fun v s1 hq => ?_) fun _ _ z => z) I.quiet hs)
  obtain ⟨y, H1, I1, r1, q1⟩ := hq
  exact wpAny_execs_nil ⟨σ, H1, I1, q1⟩
end
abbrev Cx.inH (X : Cx) (a : Addr) : Cx := { X with A := X.A.mark (some (.ref a)), calm := false, xe := fun _ _ => False }
section
variable {X : Cx} {pins : List (Addr × Obj)} {σ : St} {H : Hp} {s : Shared} {a : Addr}
theorem Inv.inH (I : Inv X pins σ H s) (a : Addr) : Inv (X.inH a) pins σ H s :=
  ⟨⟨I.ok.mod, I.ok.kind, I.ok.glob, I.ok.blt, I.ok.above, I.ok.inj, I.ok.has, I.ok.cab, (fun z => nomatch z), I.ok.frames, I.ok.stk, I.ok.exf, I.ok.bs, I.ok.bsz, I.ok.noex, I.ok.exfs, I.ok.funs, I.ok.frf⟩, I.os, I.bare, I.base, I.loc, I.cell, I.free, I.freeC, I.pin, I.hok, I.len⟩
theorem Inv.unH (ok : X.Ok) (I : Inv (X.inH a) pins σ H s) : Inv X pins σ H s := ⟨ok, I.os, I.bare, I.base, I.loc, I.cell, I.free, I.freeC, I.pin, I.hok, I.len⟩
theorem SP.unH {D : Ends} {f : Flow} {s' : Shared} (ok : X.Ok) (h : SP (X.inH a) pins D f s') : SP X pins D f s' := by
  cases f with
  | next => obtain ⟨σ', H', I, q⟩ := h; exact ⟨σ', H', I.unH ok, q⟩
  | brk => obtain ⟨σ', H', I, q⟩ := h; exact ⟨σ', H', I.unH ok, q⟩
  | cont => obtain ⟨σ', H', I, q⟩ := h; exact ⟨σ', H', I.unH ok, q⟩
  | ret u => obtain ⟨v, σ', H', I, r, q⟩ := h; exact ⟨v, σ', H', I.unH ok, r, q⟩
end
end L2
namespace L2
open PySem PySem.Spec PyProof.Rows
section
variable {X : Cx} {k : Nat} {f C : Addr} {fd : FuncData} {ps : List Str} {sp : Sp} {x : Str} {p pos : Pos} {e : Expr} {es : List Expr} {t : TA}
end
section
variable {P : Program} {w : World} {K : PySem.W.Frag} {mg : Str → Option Value} {base : Heap}
theorem Fun.ok1 {x qual : Str} {st : Stmt} {f : Addr} {fd : FuncData} {N ps : List Str} {k : Nat} {sp : Sp} (F : Fun K x qual st f fd) (S : FnScope N ps (defScope st)) (len : ∀ vs H Q E, sp vs H Q E → vs.length = ps.length)
    (hbody : ∀ (cdv : Value) (A : Around) (outer : List Env) (s : Shared) (H : Hp) (vs : List V) (Q : VK) (E : XK), Room k (A.deeper (envOfC qual (defScope st) s.heap.objs.size f cdv)) → sp vs H Q E →
      ∃ t, PSs (cxOf (CX1 P w) P w K mg base N qual (defScope st) f cdv A outer s H E) (defBody st) t ∧ t { nx := fun _ H' => Q .non H', rt := Q } (start N vs) H) : FnOk P w K mg base (CX1 P w) (k + 1) f fd ps sp := by
  obtain ⟨oc, od, kV, doc, pm, an, cdv, ct, osl, rfl, lk, hcd⟩ := F.ex
  exact fn_of lk hcd S len fun A outer s H vs Q E hr hsp => hbody cdv A outer s H vs Q E hr hsp
end
end L2

/-! BExc4 -/
set_option Elab.async false
set_option linter.all false
set_option maxRecDepth 100000
set_option maxHeartbeats 4000000
namespace L2
open PySem PySem.W PySem.Spec PySem.Calls PyProof.Rows PySem.Builtin PySem.Builtin.ObjectAttr PySem.Builtin.Getset_descriptor
def ObC (x C : Addr) (h : Heap) : Prop := ∃ o, h.get? x = some o ∧ o.cls = .ref C
structure XIs (K : Frag) (C : Addr) : Prop where
  ga : findIn K (.ref C) "__getattribute__" = some (some (.builtin "BaseException.__getattribute__"))
  gt : findIn K (.ref C) "__getattr__" = some none
  ha : findIn K (.ref C) "__class__" = some (some (.builtin "object.__class__"))
  hn : specialIn K (.builtin "object.__class__") "__get__" = some (some (.builtin "getset_descriptor.__get__"))
  htk : takesIn K (.builtin "object.__class__") = some true
  hm : mroIn K C (.type "object") = some true
  hb : mroIn K C (.type "BaseException") = some true
  hd : hasDictIn K C = true
section
variable {K : Frag} {M : Model} {h : Heap} {x C : Addr} {name : Str}
theorem ObC.type (I : ObC x C h) : Looks M h (typeOf (.ref x)) (.ref C) := by
  obtain ⟨o, h1, h2⟩ := I
  rw [← h2]
  exact (Looks.ld h1).andThen .now
theorem find_data {a g : Value} (X : K.In h) (ha : findIn K (.ref C) name = some (some a)) (hg : specialIn K a "__get__" = some (some g)) (hd : takesIn K a = some true) :
    Looks M h (find (.ref x) (.ref C) name) (.bind g a) := by
  have L2 : Looks M h (getOf (some a)) (some g) := looks_specialIn X hg
  have L3 : Looks M h (dataDescriptor? (some a) (some g)) (some (g, a)) := (looks_takesIn X hd).andThen .now
  exact (looks_findIn X ha).andThen (L2.andThen (L3.andThen (Looks.tag .now)))
end
section
variable {prog : Program} {w : World} {A : Around} {E : Value → Shared → Prop} {K : Frag} {x C : Addr} {s : Shared}
theorem cls_got {R : Result → Shared → Prop} {tp : Value} (X : K.In s.heap) (I : ObC x C s.heap) (hm : mroIn K C (.type "object") = some true) (k : R (.ok (.ret (.ref C))) s) :
    codeAny (model prog w) A (.call (.builtin "getset_descriptor.__get__") ⟨[.builtin "object.__class__", .ref x, tp], []⟩) R s := by
  obtain ⟨hh, gg, dr, tt, ss⟩ := s
  have T0 := I.type (M := model prog w)
  have T1 := looks_mroIn (M := model prog w) X hm
  refine codeAny_call_builtin KF.slot_gs.plain KF.entry_gs ?_
  refine KF.slot_gs.check _ _ _ _ _ _ _ _ KF.type_class (KF.args_gs _ _ _) ?_
  unfold Builtin.«getset_descriptor.__get__»
  unfold descrGet
  rw [dga_obj]
  refine wpAny_bind (wpAny_pure ?_)
  unfold descrGetter descrCheckInstance
  unfold descrNameAndClass isInstance
  simp only [KF.owner_class]
  repeat lk
  refine ⟨Code.quiet_builtin _ (by decide +kernel), ?_⟩
  refine codeAny_builtin KF.entry_class ?_
  unfold Builtin.«object.__class__»
  unfold shownTypeOf
  repeat lk
  exact k
theorem ga_check {nameV : Value} {Q : Unit → Shared → Prop} (X : K.In s.heap) (I : ObC x C s.heap) (hb : mroIn K C (.type "BaseException") = some true) (k : Q () s) :
    wpAny (model prog w) A (checkBuiltinCall "BaseException.__getattribute__" ⟨[.ref x, nameV], []⟩) Q E s := by
  have T0 := I.type (M := model prog w)
  have T1 := looks_mroIn (M := model prog w) X hb
  have hk : builtinKind "BaseException.__getattribute__" = some .slot := by decide +kernel
  have hsplit : splitId "BaseException.__getattribute__" = some ("BaseException", "__getattribute__") := by decide +kernel
  have ha := F.args_bexc_ga (.ref x) nameV
  obtain ⟨hh, gg, dr, tt, ss⟩ := s
  simp only [checkBuiltinCall, hk, hsplit]
  refine wpAny_bind ?_
  unfold isInstance
  repeat lk
  exact k
theorem cls_entry {tk : Tok} {Q : Fin → Shared → Prop} (X : K.In s.heap) (I : ObC x C s.heap) (c : XIs K C) (k : Q (.done (.ret (.ref C))) s) :
    wpAny (model prog w) A (Builtin.«object.__getattribute__» ⟨[.ref x, .str "__class__" tk], []⟩) Q E s := by
  have T0 := I.type (M := model prog w)
  have T1 := find_data (M := model prog w) (x := x) X c.ha c.hn c.htk
  obtain ⟨hh, gg, dr, tt, ss⟩ := s
  unfold Builtin.«object.__getattribute__»
  repeat lk
  refine wpAny_run (h := none) ?_
  exact cls_got X I c.hm (wpAny_pure (wpAny_pure k))
theorem cls_by {tk : Tok} {Q : Value → Shared → Prop} (X : K.In s.heap) (I : ObC x C s.heap) (c : XIs K C) (k : Q (.ref C) s) :
    wpAny (model prog w) A (getAttrBy (.ref x) (.str "__class__" tk) false) Q E s := by
  have T0 := I.type (M := model prog w)
  have T1 := looks_findIn (M := model prog w) X c.ga
  have T2 := looks_findIn (M := model prog w) X c.gt
  have f3 := F.attr_ValueError.ga.bind (.ref x)
  obtain ⟨hh, gg, dr, tt, ss⟩ := s
  unfold getAttrBy
  refine wpAny_holding (wpAny_bind (T0.at (wpAny_bind (T1.at ?_))))
  show wpAny _ _ (if (onTheHeap (Value.ref C) && Value.builtin "BaseException.__getattribute__" == Value.builtin "object.__getattribute__") = true then _ else _) _ _ _
  have z : (Value.builtin "BaseException.__getattribute__" == Value.builtin "object.__getattribute__") = false := by decide +kernel
  rw [z, Bool.and_false, if_neg Bool.false_ne_true]
  unfold getAttrByItsOwn
  refine wpAny_bind (T2.at ?_)
  refine wpAny_bind (wpAny_attempt (wpAny_holding ?_))
  show wpAny _ _ (boundAndCalled _ _ _) _ _ _
  unfold boundAndCalled
  rw [f3]
  refine wpAny_bind (wpAny_pure (wpAny_call ?_))
  refine codeAny_call_builtin F.attr_ValueError.ga.plain F.entry_bexc_ga ?_
  exact ga_check X I c.hb (cls_entry X I c (wpAny_pure k))
theorem cls_attr {Q : Option Value → Shared → Prop} (X : K.In s.heap) (I : ObC x C s.heap) (c : XIs K C) (k : Q (some (.ref C)) { s with toks := s.toks + 1 }) :
    wpAny (model prog w) A (getAttr? (.ref x) "__class__") Q E s := by
  obtain ⟨hh, gg, dr, tt, ss⟩ := s
  unfold getAttr? getAttrBy?
  refine wpAny_bind (wpAny_mkText (wpAny_bind (wpAny_attempt ?_)))
  exact cls_by (s := ⟨hh, gg, dr, tt + 1, ss⟩) X I c (wpAny_pure k)
theorem kitx_exc (c : XIs K C) : KitX K (.ref x) (.ref C) (ObC x C) where
  ty := fun _ _ _ I => I.type
  it := fun _ _ X _ => by
    obtain ⟨cd, hc, _⟩ := any_some c.hd
    unfold clsIn at hc
    split at hc
    · rename_i ho
      intro A' Q' E' s' k q
      unfold isType loadHead
      exact wpAny_bind (wpAny_loadPart (k _ _ (X _ _ ho)) (wpAny_pure q))
    · cases hc
  ne := fun h tp dd its n sl X htp => by
    obtain ⟨cd, hc, _⟩ := any_some c.hd
    refine Bool.eq_false_iff.mpr fun q => ?_
    cases Value.ref.inj (beq_iff_eq.mp q)
    unfold clsIn at hc
    split at hc
    · rename_i ho
      cases (X _ _ ho).symm.trans htp
    · cases hc
  ca := fun X I k => cls_attr X I c k
end
section
variable {X : Cx}
def rIsiX (K : Frag) : List V → Hp → VK → Prop := fun xs H Q => ∃ (x C : Addr) (c : V) (cv : Value) (b : Bool), xs = [.ref x, c] ∧ clsV c = some cv ∧ H x = some (.ext (ObC x C)) ∧ XIs K C ∧ kitOne K (.ref C) cv = some b ∧ Q (.bl b) H
theorem call_isiX : CallR X (.builtin "isinstance") (rIsiX X.K) := by
  intro pins s σ H xs us Q I r h
  obtain ⟨x, C, c, cv, b, rfl, hc, hx, xi, e, q⟩ := h
  obtain ⟨u, v, rfl, r1, r2⟩ := r.two
  obtain rfl := clsV_rel hc r2
  cases (show u = Value.ref x from r1)
  obtain ⟨p, _, _⟩ := (show ObjOk X.prog X.w H s.heap x (.ext (ObC x C)) from I.hok x _ hx)
  exact kia_one (kitx_exc xi) I.kIn p e (fun z => nomatch z) fun tk => ⟨.bl b, H, I.tok tk, rfl, q⟩
theorem call_isiK {K : Frag} (h : X.K = K) : CallR X (.builtin "isinstance") (rIsiX K) := by
  subst h
  exact call_isiX
end
end L2

/-! BExc5 -/
set_option Elab.async false
set_option linter.all false
set_option maxRecDepth 100000
set_option maxHeartbeats 4000000
namespace L2
open PySem PySem.Spec PyProof.Rows
section
variable {X : Cx} {pins : List (Addr × Obj)} {σ : St} {H : Hp} {s : Shared}
theorem Inv.addX {a C : Addr} (I : Inv X pins σ H s) (h0 : ∀ b o, X.s₀.heap.get? b = some o → b ∉ X.ex → b ≠ a) (hn : H a = none) (hl : X.env.locals ≠ a) (hc : ∀ x c, X.env.cells.lookup x = some c → c ≠ a) (hp : ∀ p ∈ X.pn ++ pins, p.1 ≠ a) (ob : ObC a C s.heap) :
    Inv X pins σ (upd H a (.ext (ObC a C))) s := by
  have ne : ∀ {b : Addr} {u : HO}, H b = some u → b ≠ a := fun e => ne_of_none e hn
  refine ⟨I.ok, I.os, I.bare, ⟨I.base.keep, I.base.slot, fun b o q n hx => ?_, I.base.there, fun b xs q => ?_, fun b o u q => ?_, fun b ps q => ?_⟩, I.loc, I.cell, ?_, fun x c e => ?_, fun p hq => ?_, fun b u e => ?_, I.len⟩
  · rw [upd_ne (h0 b o q hx)]
    exact I.base.free b o q n hx
  · have := I.base.tups b xs q
    rw [upd_ne (ne this)]
    exact this
  · have := I.base.frzs b o u q
    rw [upd_ne (ne this)]
    exact this
  · obtain ⟨more, this⟩ := I.base.tbls b ps q
    exact ⟨more, by rw [upd_ne (ne this)]; exact this⟩
  · rw [upd_ne hl]
    exact I.free
  · rw [upd_ne (hc x c e)]
    exact I.freeC x c e
  · obtain ⟨e, n, n1, n2, d⟩ := I.pin p hq
    exact ⟨e, by rw [upd_ne (hp p hq)]; exact n, n1, n2, d⟩
  · by_cases hb : b = a
    · subst hb
      rw [upd_same] at e
      cases e
      refine ⟨ob, ?_, fun h1 h2 p q => ?_⟩
      · obtain ⟨o, e, _⟩ := ob
        exact ⟨o, e⟩
      · obtain ⟨o, e, c⟩ := p
        exact ⟨o, q o e, c⟩
    · rw [upd_ne hb] at e
      exact (I.hok b u e).stay (fun c v _ q => q) (fun c q => by rw [upd_ne (ne_of_none q hn)]; exact q) fun c xs q => by rw [upd_ne (ne_of_none q hn)]; exact q
theorem unbind_ok {M : Model} {A : Around} {E : Value → Shared → Prop} {i : Nat} {x : Str} {Q : Unit → Shared → Prop} (I : Inv X pins σ H s) (hN : X.N.Nodup) (hi : X.N[i]? = some x) (hk : X.env.scope.names.lookup x = some .local) {v : V} (hv : σ[i]? = some (some v))
    (h : ∀ s', Inv X pins (σ.set i none) H s' → Q () s') : wpAny M A (unbindName X.env x) Q E s := by
  obtain ⟨m, hn, hl⟩ := id I.loc
  have hcls : (X.env.scope.kind == .class || (X.env.scope.kind == .module && X.env.locals != X.env.globals)) = false := by rw [I.ok.kind]; rfl
  have cne := I.cne
  have hm : ∃ u, m x = some u := by
    obtain ⟨u, _, q⟩ := hl i x v hi hv (.inl hk)
    rcases q with ⟨_, e⟩ | ⟨k, _⟩
    · exact ⟨u, e⟩
    · have hk' : X.env.kindOf x = some .local := hk
      rw [hk'] at k
      rcases k with k | k <;> cases k
  obtain ⟨u0, hm⟩ := hm
  obtain ⟨oL, _, _, hoL, _⟩ := id hn
  refine wpAny_unbindName_local hk hn hm hcls fun h' u' hn' hs => ?_
  have tracked : HOk X.prog X.w H h' := fun b ob e => by
    refine (I.hok b ob e).stay (fun c w' hc q => (hs.2 c ?_).trans q) (fun _ q => q) fun _ _ q => q
    rintro rfl
    have hfree := I.free
    rcases hc with rfl | hc
    · rw [hfree] at e; cases e
    · rw [hfree] at hc; cases hc
  refine h _ ⟨I.ok, I.os, I.bare, ⟨fun b o e n hb hx => ?_, fun b o e n hb hx => ?_, I.base.free, fun b o e hx => ?_, I.base.tups, I.base.frzs, I.base.tbls⟩, ⟨_, hn', fun j y v' e1 e2 e3 => ?_⟩, fun y c e => ?_, I.free, I.freeC, fun p hp => ?_, tracked, by simpa using I.len⟩
  · exact (hs.2 b (Nat.ne_of_lt (Nat.lt_of_lt_of_le (Heap.lt_size e) I.ok.above))).trans (I.base.keep b o e n hb hx)
  · obtain ⟨sl, e1⟩ := I.base.slot b o e n hb hx
    exact ⟨sl, (hs.2 b (Nat.ne_of_lt (Nat.lt_of_lt_of_le (Heap.lt_size e) I.ok.above))).trans e1⟩
  · obtain ⟨o', e1⟩ := I.base.there b o e hx
    exact ⟨o', (hs.2 b (Nat.ne_of_lt (Nat.lt_of_lt_of_le (Heap.lt_size e) I.ok.above))).trans e1⟩
  · by_cases hj : j = i
    · subst hj
      rw [List.getElem?_set] at e2
      simp at e2
    · rw [List.getElem?_set_ne (Ne.symm hj)] at e2
      obtain ⟨u', r', q⟩ := hl j y v' e1 e2 e3
      refine ⟨u', r', ?_⟩
      rcases q with ⟨k, e⟩ | ⟨k, c, e, z⟩
      · refine .inl ⟨k, ?_⟩
        have : y ≠ x := fun e => hj (nodup_ix hN e1 (e ▸ hi))
        simp [this, e]
      · exact .inr ⟨k, c, e, z.sameBut hs (cne y c e)⟩
  · obtain ⟨w', z⟩ := I.cell y c e
    exact ⟨w', z.sameBut hs (cne y c e)⟩
  · obtain ⟨e, n, ne, nf, d⟩ := I.pin p hp
    exact ⟨(hs.2 p.1 ne).trans e, n, ne, nf, d⟩
theorem goes_ok {M : Model} {A : Around} {E : Value → Shared → Prop} {i : Nat} {x : Str} {pos : Pos} {Q : Unit → Shared → Prop} (I : Inv X pins σ H s) (hN : X.N.Nodup) (hi : X.N[i]? = some x) (hk : X.env.scope.names.lookup x = some .local)
    (h : ∀ s', Inv X pins (σ.set i none) H s' → Q () s') : wpAny M A (do bindName X.env x .none; unbindBehindTheSuite X.env x pos) Q E s := by
  have hiσ : i < σ.length := by rw [I.len]; exact (List.getElem?_eq_some_iff.mp hi).1
  refine wpAny_bind (wpAny_bindName (store_ok (v := .non) I hN hi (.inl hk) rfl (fun s1 I1 => ?_) (.inr hk)))
  unfold unbindBehindTheSuite
  refine wpAny_onRaise (unbind_ok I1 hN hi hk (v := .non) (List.getElem?_set_self hiσ) fun s2 I2 => h s2 ?_)
  rw [List.set_set] at I2
  exact I2
end
abbrev Ends.sans (D : Ends) (i : Nat) : Ends := { nx := fun σ H => D.nx (σ.set i none) H, rt := D.rt, bk := fun σ H => D.bk (σ.set i none) H, ct := fun σ H => D.ct (σ.set i none) H }
def tTryAs (C : Addr) (i : Nat) (tb : XK → TS) (th : TS) : TS := fun D σ H => tb (fun cls _ H' => cls = .ref C ∧ ∀ a, H' a = none → th (D.sans i) (σ.set i (some (.ref a))) (upd H' a (.ext (ObC a C)))) D σ H
theorem ps_tryAs {X : Cx} {body suite : List Stmt} {b0 : Stmt} {i : Nat} {x n : Str} {C : Addr} {np hpos pos : Pos} {tb : XK → TS} {th : TS} (hst : X.stack = X.env :: X.outer) (hfr : X.env.frame = some X.env.locals) (hN : X.N.Nodup) (hi : X.N[i]? = some n) (hk : X.env.scope.names.lookup n = some .local)
    (c : XCls X.K C) (hm : X.mg x = some (.ref C)) (hb : PX X body tb) (hh : ∀ a, PSs (X.inH a) (b0 :: suite) th) (hg : Gl X x := by rfl) (hdb : (x == ("__debug__" : Str)) = false := by decide) :
    PS X (.Try body [.ExceptHandler (some (.Name x np)) (some n) (b0 :: suite) hpos] [] [] pos) (tTryAs C i tb th) := by
  intro pins s σ H D I h
  refine wpAny_Try_except (wpAny_mono (hb pins s σ H D _ I h) (fun fl s1 q => ?_) (fun e s1 hx => ?_))
  · cases fl with
    | next => exact wpAny_execs_nil q
    | ret v => exact q
    | brk => exact q
    | cont => exact q
  · obtain ⟨H1, s2, I1, a, cls, a0, H', B, rfl, L, F, rfl, hts⟩ := hx
    obtain ⟨sh, sg, sd, stk, sos⟩ := s1
    -- the exception is younger than the call
    have young : s2.heap.get? a = none := by
      cases e : s2.heap.get? a with
      | none => rfl
      | some o =>
        obtain ⟨_, f2, f3, oe, vs, _, _, _, he, _, hd, _⟩ := id F
        by_cases hf : a ∈ frs X.stack
        · obtain ⟨_, o', ho', hnf⟩ := f3.mem hf
          have z := ho'.symm.trans he
          cases z
          exact absurd hd (hnf vs)
        · obtain ⟨o', e'⟩ := L.c3 a o e hf
          rw [f2] at e'
          cases e'
    have Ha : H' a = none := by
      cases e : H' a with
      | none => rfl
      | some o =>
        obtain ⟨u, hu⟩ := L.hok.thr e
        have := L.c2 a u (by rw [e]; intro z; cases z) hu
        rw [F.2.1] at this
        cases this
    have F' := F
    rw [hst] at F'
    refine wpAny_looks_onW (s := ⟨sh, sg, sd, stk, sos⟩) (outer := X.outer) (L := X.env.locals) (by rw [I.ok.frames, hst]) hfr F' fun h4 Hd4 up4 => wpAny_landsW (s := ⟨h4, sg, sd, stk, sos⟩) Hd4 fun h5 F5 up5 => ?_
    have up := up4.trans up5
    have I5 : Inv X pins σ H' ⟨h5, sg, sd, stk, sos⟩ := Lies.inv (t2 := stk) I1 L F5.1 up
    have J5 := I5.inH a
    refine wpAny_handleBy_cons (codeAny_handlers_test (ld_glob J5 hg hm ?_ hdb)) (by intro q; cases q)
    obtain ⟨bm, Nn, nm, qn, bs, hd, sn, sub, ab, col, dd, k0, k1, k2, k3, k5, mN, h1, h2, h3, h4'⟩ := (c.obj I.mod.kin).keeps I5.bk
    obtain ⟨ob, hob, hobc⟩ := F5.there
    refine wpAny_excMatches_sub_self h1 hob hobc (h4'.hasType rfl) ?_
    refine codeAny_handlers_suite_as (lands_againW (s := ⟨h5, sg, sd, stk, sos⟩) F5 fun h6 F6 up6 => ?_)
    have I6 : Inv X pins σ H' ⟨h6, sg, sd, stk, sos⟩ := Lies.inv (t2 := stk) I1 L F6.1 (up.trans up6)
    have I7 : Inv X pins σ (upd H' a (.ext (ObC a C))) ⟨h6, sg, sd, stk, sos⟩ := by
      refine I6.addX (fun b o e hx z => ?_) Ha (fun z => ?_) (fun y k e z => ?_) (fun p hp z => ?_) F6.there
      · obtain ⟨o', e'⟩ := I1.base.there b o e hx
        rw [z, young] at e'
        cases e'
      · obtain ⟨m, ⟨o, _, _, e, _⟩, _⟩ := I1.loc
        rw [z, young] at e
        cases e
      · obtain ⟨w', o, e', _⟩ := I1.cell y k e
        rw [z, young] at e'
        cases e'
      · have := (I1.pin p hp).1
        rw [z, young] at this
        cases this
    refine store_ok (v := .ref a) I7 hN hi (.inl hk) rfl (fun s8 I8 => ?_) (.inr hk)
    refine wpAny_mono (hh a pins _ _ _ (D.sans i) (I8.inH a) (hts a Ha)) (fun fl s9 q => ?_) (fun _ _ z => False.elim z)
    have q := SP.unH (X := X) I.ok q
    cases fl with
    | next =>
      obtain ⟨σ', H9, I9, q⟩ := q
      exact goes_ok I9 hN hi hk fun s' I' => ⟨_, _, I', q⟩
    | brk =>
      obtain ⟨σ', H9, I9, q⟩ := q
      exact goes_ok I9 hN hi hk fun s' I' => ⟨_, _, I', q⟩
    | cont =>
      obtain ⟨σ', H9, I9, q⟩ := q
      exact goes_ok I9 hN hi hk fun s' I' => ⟨_, _, I', q⟩
    | ret u =>
      obtain ⟨v, σ', H9, I9, r, q⟩ := q
      exact goes_ok I9 hN hi hk fun s' I' => ⟨v, _, _, I', r, q⟩
end L2

/-! BExt6 -/
set_option Elab.async false
set_option linter.all false
set_option maxRecDepth 100000
set_option maxHeartbeats 4000000
namespace L2
open PySem PySem.Spec PyProof.Rows
section
variable {X : Cx} {C : Addr} {x : Str} {p pos : Pos}
end
end L2

/-! BExt7 -/
set_option Elab.async false
set_option linter.all false
namespace L2
open PySem
section
variable {X : Cx} {es : List Expr} {t : TA} {te : TE}
theorem pa_C {c j pos} (ha : PE X (.Constant c j pos) te) (hr : PA X es t) : PA X (.Constant c j pos :: es) (tCons te t) := pa_cons ha hr rfl
theorem pa_T {xs c pos} (ha : PE X (.Tuple xs c pos) te) (hr : PA X es t) : PA X (.Tuple xs c pos :: es) (tCons te t) := pa_cons ha hr rfl
theorem pa_K {f xs ks pos} (ha : PE X (.Call f xs ks pos) te) (hr : PA X es t) : PA X (.Call f xs ks pos :: es) (tCons te t) := pa_cons ha hr rfl
theorem pa_B {l o r pos} (ha : PE X (.BinOp l o r pos) te) (hr : PA X es t) : PA X (.BinOp l o r pos :: es) (tCons te t) := pa_cons ha hr rfl
theorem pa_U {o r pos} (ha : PE X (.UnaryOp o r pos) te) (hr : PA X es t) : PA X (.UnaryOp o r pos :: es) (tCons te t) := pa_cons ha hr rfl
theorem pa_N {x pos} (ha : PE X (.Name x pos) te) (hr : PA X es t) : PA X (.Name x pos :: es) (tCons te t) := pa_cons ha hr rfl
end
end L2

/-! BExt8 -/
set_option Elab.async false
set_option linter.all false
set_option maxRecDepth 100000
set_option maxHeartbeats 4000000
namespace L2
open PySem PySem.Spec PyProof.Rows
section
variable {X : Cx}
end
end L2

/-! BStr -/
set_option Elab.async false
set_option linter.all false
set_option maxRecDepth 100000
set_option maxHeartbeats 4000000
namespace L2
open PySem PySem.Spec PyProof.Rows PySem.Builtin PySem.Builtin.Str
section
variable {X : Cx}
end
end L2

/-! BStr2 -/
set_option Elab.async false
set_option linter.all false
set_option maxRecDepth 100000
set_option maxHeartbeats 4000000
namespace L2
open PySem PySem.Spec PyProof.Rows
section
variable {X : Cx} {tg : Expr}
end
section
variable {X : Cx} {tg : Expr}
end
end L2

/-! BEnum -/
set_option Elab.async false
set_option linter.all false
set_option maxRecDepth 100000
set_option maxHeartbeats 4000000
namespace PySem
namespace Zt
end Zt
end PySem
namespace L2
open PySem PySem.Spec PyProof.Rows PySem.Zt
end L2

/-! BTab -/
set_option Elab.async false
set_option linter.all false
set_option maxRecDepth 100000
set_option maxHeartbeats 4000000
namespace L2
open PySem PySem.Spec PyProof.Rows
section
variable {X : Cx}
variable {o e f : Expr} {apos cpos : Pos} {td ty tx : TE}
end
end L2

/-! BExc6 -/
set_option Elab.async false
set_option linter.all false
set_option maxRecDepth 100000
set_option maxHeartbeats 4000000
namespace L2
open PySem PySem.Spec PyProof.Rows
section
variable {X : Cx} {m : Str} {o e : Expr} {es : List Expr} {ta : TE} {t : TA} {apos pos : Pos}
def tMethX (X : Cx) (m : Str) (ta : TE) (t : TA) (E : XK) : TE := fun σ H Q => ta σ H fun x H1 => ∃ (a C dx : Addr) (fs : List (Str × V)) (f : Addr) (fd : FuncData) (ps : List Str) (k : Nat) (sp : Sp), x = .ref a ∧ H1 a = some (.ins C dx fs) ∧ fs.lookup m = none ∧ Cls X.K C ∧ Meth X.K C m f ∧
  FnOk X.prog X.w X.K X.mg X.base (CX1 X.prog X.w) k f fd ps sp ∧ Room k X.A ∧ Binds X.K fd ps [] ∧ t σ H1 fun vs H2 => sp (x :: (vs ++ [])) H2 Q E
theorem pv_methD {pl : Sem Bool} (he : PE X.nox o ta) (ha : PA X.nox (e :: es) t)
    (hst : starEach (e :: es) X.env = (false, eval e X.env) :: starEach es X.env := by rfl) (hpl : (backTo pos (starEach es X.env)).any (·.1) = false := by rfl)
    (ht : eval (.Call (.Attribute o m apos) (e :: es) [] pos) X.env = (do
      let ov ← eval o X.env
      standAt apos.atName
      let (f, first) ← holding [ov] (getMethod ov m pl)
      callWith pos f first (backTo pos (starEach (e :: es) X.env)) (backToKw pos (keywordEach [] X.env))) := by rfl) :
    PV X (.Call (.Attribute o m apos) (e :: es) [] pos) (fun E => tMethX X m ta t E) := by
  intro pins s σ H Q E I h
  refine PySem.W.methodCall_KW (pl := pl) (wpAny_mono (he pins s σ H _ (I.wish _) h) (fun u s1 ⟨x, H1, I1, rx, a, C, dx, fs, f, fd, ps, k, sp, ex, ea, l, cl, hm, F, hr, hb, q⟩ => ?_) fun _ _ z => False.elim z) ht
  subst ex
  obtain rfl : u = Value.ref a := rx
  refine getmeth_ok I1.unwish ea cl hm l ?_
  refine PySem.W.callWith_K (first := [.ref a]) (h₀ := X.base) I.ok.mod.kin hm.kp (wpAny_mono (ha pos pins s1 σ H1 _ I1 q) (fun us s2 hq => ?_) fun _ _ z => False.elim z) hst hpl
  obtain ⟨vs, H2, I2, r, q2⟩ := hq
  exact ⟨I2.unwish.kIn, run_fn1 (us := .ref a :: us) (vs := .ref a :: vs) F hr hb .nil I2.unwish (.cons rfl r) q2⟩
end
end L2

/-! BWrap -/
set_option Elab.async false
set_option linter.all false
namespace L2
open PySem PySem.Spec PyProof.Rows
structure Bx (p : Prop) : Prop where
  of : p
theorem bx_in {X : Cx} {body : List Stmt} {q : TS → Prop} {t : TS} (h : Bx (PSs X body t)) (k : q t) : ∃ t, PSs X body t ∧ q t := ⟨t, h.of, k⟩
theorem w_pt {X : Cx} {e : Expr} {t : TT} (h : Bx (PW X e t)) : Bx (PT X e t) := ⟨h.of.pt⟩
section
variable {X : Cx}
theorem w_pe_int {i j pos} : Bx (PE X (.Constant (.int i) j pos) (tC (.int i))) := ⟨pe_int⟩
theorem w_pe_bl {b j pos} : Bx (PE X (.Constant (.bool b) j pos) (tC (.bl b))) := ⟨pe_bl⟩
theorem w_pe_non {j pos} : Bx (PE X (.Constant .none j pos) (tC .non)) := ⟨pe_non⟩
theorem w_pe_str {x j pos} : Bx (PE X (.Constant (.str x) j pos) (tC (.str x))) := ⟨pe_str⟩
theorem w_pe_glob {x : Str} {v : V} {u : Value} {pos : Pos} (hg : Gl X x) (hm : X.mg x = some u) (r : RelV v u) (hd : (x == ("__debug__" : Str)) = false := by decide) : Bx (PE X (.Name x pos) (tC v)) := ⟨pe_glob hg hm r hd⟩
end
section
variable {X : Cx}
variable {a b : Expr} {ta tb : TE} {pos : Pos}
theorem w_pe_cmp {op : CmpOp} {t : TE} (h : Bx (PC X op a b t)) (h1 : behindInMarks op b = false := by first | exact nobehind _ (by decide) (by decide) | rfl) : Bx (PE X (.Compare a [op] [b] pos) t) := ⟨pe_cmp h.of h1⟩
theorem w_pt_cmp {op : CmpOp} {t : TE} (h : Bx (PC X op a b t)) (h1 : behindInMarks op b = false := by first | exact nobehind _ (by decide) (by decide) | rfl) : Bx (PT X (.Compare a [op] [b] pos) (tB t)) := ⟨pt_cmp h.of h1⟩
theorem w_pt_val {e : Expr} {t : TE} (h : Bx (PE X e t)) (he : ∀ whole, isTrue e X.env whole = (do let v ← whole; standAt e.pos; holding [v] (truthy v)) := by intro _; rfl) : Bx (PT X e (tB t)) := ⟨pt_val h.of he⟩
end
section
variable {X : Cx}
variable {a b : Expr} {ta tb : TE} {pos : Pos}
variable {tA tB' : TT} {rest : List Expr}
theorem w_pw_and1 (ha : Bx (PT X a tA)) : Bx (PW X (.BoolOp .And [a] pos) tA) := ⟨pw_and1 ha.of⟩
theorem w_pw_or1 (ha : Bx (PT X a tA)) : Bx (PW X (.BoolOp .Or [a] pos) tA) := ⟨pw_or1 ha.of⟩
theorem w_pw_and (ha : Bx (PT X a tA)) (hb : Bx (PW X (.BoolOp .And (b :: rest) pos) tB')) : Bx (PW X (.BoolOp .And (a :: b :: rest) pos) (tAnd tA tB')) := ⟨pw_and ha.of hb.of⟩
theorem w_pw_or (ha : Bx (PT X a tA)) (hb : Bx (PW X (.BoolOp .Or (b :: rest) pos) tB')) : Bx (PW X (.BoolOp .Or (a :: b :: rest) pos) (tOr tA tB')) := ⟨pw_or ha.of hb.of⟩
theorem w_pt_not (ha : Bx (PT X a tA)) : Bx (PT X (.UnaryOp .Not a pos) (tNot tA)) := ⟨pt_not ha.of⟩
theorem w_pe_one {op} {t : TE} (h : Bx (PE X a t)) : Bx (PE X (.BoolOp op [a] pos) t) := ⟨pe_one h.of⟩
theorem w_pe_and (ha : Bx (PE X a ta)) (hb : Bx (PE X (.BoolOp .And (b :: rest) pos) tb)) : Bx (PE X (.BoolOp .And (a :: b :: rest) pos) (tAndV ta tb)) := ⟨pe_and ha.of hb.of⟩
theorem w_pe_or (ha : Bx (PE X a ta)) (hb : Bx (PE X (.BoolOp .Or (b :: rest) pos) tb)) : Bx (PE X (.BoolOp .Or (a :: b :: rest) pos) (tOrV ta tb)) := ⟨pe_or ha.of hb.of⟩
theorem w_pe_not (ha : Bx (PE X a ta)) : Bx (PE X (.UnaryOp .Not a pos) (tNotV ta)) := ⟨pe_not ha.of⟩
end
section
variable {X : Cx} {st : Stmt} {rest : List Stmt} {t u : TS} {e : Expr} {te : TE} {pos : Pos}
theorem w_pss_nil  : Bx (PSs X [] tNext) := ⟨pss_nil⟩
theorem w_pss_cons (h1 : Bx (PS X st t)) (h2 : Bx (PSs X rest u)) : Bx (PSs X (st :: rest) (tSeq t u)) := ⟨pss_cons h1.of h2.of⟩
theorem w_pss_one (h1 : Bx (PS X st t)) : Bx (PSs X [st] t) := ⟨pss_one h1.of⟩
theorem w_ps_expr (he : Bx (PE X e te)) (hs : swapsWith e none pos.line X.env = pure false := by rfl) : Bx (PS X (.Expr e pos) (tDrop te)) := ⟨ps_expr he.of hs⟩
theorem w_ps_ret (he : Bx (PE X e te)) : Bx (PS X (.Return (some e) pos) (tRet te)) := ⟨ps_ret he.of⟩
theorem w_ps_if {c : Expr} {a b : List Stmt} {tc : TT} (hc : Bx (PT X c tc)) (ha : Bx (PSs X a t)) (hb : Bx (PSs X b u)) : Bx (PS X (.If c a b pos) (tIfS tc t u)) := ⟨ps_if hc.of ha.of hb.of⟩
theorem w_ps_never  : Bx (PS X st tNever) := ⟨ps_never⟩
end
section
variable {X : Cx} {pos : Pos}
theorem w_pg_name {i : Nat} {x : Str} (hN : X.N.Nodup) (hi : X.N[i]? = some x) (hx : Loc X.env.scope x) (hf : X.fn x = true ∨ X.env.scope.names.lookup x = some .local := by first | exact .inl rfl | exact .inr rfl | assumption) : Bx (PG X (.Name x pos) (gName i)) := ⟨pg_name hN hi hx hf⟩
theorem w_pgs_nil  : Bx (PGs X [] gNil) := ⟨pgs_nil⟩
theorem w_pgs_cons {e : Expr} {es : List Expr} {t : TG} {u : TGs} (h1 : Bx (PG X e t)) (h2 : Bx (PGs X es u)) (hs : (assignEach (e :: es) X.env).map (·.2) = assign e X.env :: (assignEach es X.env).map (·.2) := by rfl) : Bx (PGs X (e :: es) (gCons t u)) := ⟨pgs_cons h1.of h2.of hs⟩
theorem w_pg_tup {es : List Expr} {k : Nat} {t : TGs} {n : Nat} (hc : X.calm = true) (h : Bx (PGs X es t)) (hn : (assignEach es X.env).length = n := by rfl) (hst : (assignEach es X.env).findIdx? (·.1) = none := by rfl) : Bx (PG X (.Tuple es k pos) (gTup X.K n t)) := ⟨pg_tup hc h.of hn hst⟩
theorem w_pg_sub {o i : Expr} {to ti : TE} {t : TSet} (ho : Bx (PE X o to)) (hi : Bx (PE X i ti)) (hs : PSet X t) (ha : ∀ v, assign (.Subscript o i pos) X.env v = (do
      let ov ← holding [v] (eval o X.env)
      let iv ← holding [v, ov] (eval i X.env)
      standAt pos
      holding [v, ov, iv] (setItem ov iv v)
      release [v, ov, iv] []) := by intro _; rfl) : Bx (PG X (.Subscript o i pos) (gSub to ti t)) := ⟨pg_sub ho.of hi.of hs ha⟩
theorem w_ps_asg {tg e : Expr} {te : TE} {g : TG} (he : Bx (PE X e te)) (hg : Bx (PG X tg g)) (hs : swapsWithSole [tg] e pos.line X.env = pure false := by rfl) (hw : swappedStores [tg] e X.env = pure none := by rfl) (h1 : (assignEach [tg] X.env).map (·.2) = [assign tg X.env] := by rfl) : Bx (PS X (.Assign [tg] e pos) (tAsg te g)) := ⟨ps_asg he.of hg.of hs hw h1⟩
theorem w_ps_set {i : Nat} {x : Str} {e : Expr} {te : TE} {pos' : Pos} (hN : X.N.Nodup) (hi : X.N[i]? = some x) (hx : Loc X.env.scope x) (he : Bx (PE X e te)) (hs : swapsWith e (some (.Name x pos')) pos.line X.env = pure false := by rfl) (hf : X.fn x = true ∨ X.env.scope.names.lookup x = some .local := by first | exact .inl rfl | exact .inr rfl | assumption) : Bx (PS X (.Assign [.Name x pos'] e pos) (tAsg te (gName i))) := ⟨ps_set hN hi hx he.of hs hf⟩
end
section
variable {X : Cx} {tg : Expr}
theorem w_pi_list {l : Expr} {tl : TE} (hl : Bx (PE X l tl)) : Bx (PI X tg l (iList X.K tl)) := ⟨pi_list hl.of⟩
theorem w_pi_range1 {a : Expr} {ta : TA} {p pos : Pos} (hg : Gl X "range") (hm : X.mg "range" = none) (ha : Bx (PA X [a] ta)) (hs : starEach [a] X.env = [(false, eval a X.env)] := by rfl) : Bx (PI X tg (.Call (.Name "range" p) [a] [] pos) (iRng1 ta)) := ⟨pi_range1 hg hm ha.of hs⟩
theorem w_pi_range2 {a b : Expr} {ta : TA} {p pos : Pos} (hg : Gl X "range") (hm : X.mg "range" = none) (ha : Bx (PA X [a, b] ta)) (hs : starEach [a, b] X.env = [(false, eval a X.env), (false, eval b X.env)] := by rfl) (hs2 : starEach [b] X.env = [(false, eval b X.env)] := by rfl) : Bx (PI X tg (.Call (.Name "range" p) [a, b] [] pos) (iRng2 ta)) := ⟨pi_range2 hg hm ha.of hs hs2⟩
theorem w_ps_for {iter : Expr} {body : List Stmt} {wi : TI} {g : TG} {tb : TS} {pos : Pos} (hp : PassesOwn (model X.prog X.w) X.A X.env X.xe) (hc : X.calm = true) (hi : Bx (PI X tg iter wi)) (hg : Bx (PG X tg g)) (hb : Bx (PSs X body tb)) (hs : ∀ x, foldedSetIterable iter X.env x = pure x := by intro _; rfl) : Bx (PS X (.For tg iter body [] pos) (tFor wi g tb)) := ⟨ps_for hp hc hi.of hg.of hb.of hs⟩
end
section
variable {X : Cx} {a b c : Expr} {ta tb tc : TE} {pos : Pos}
theorem w_pe_op {op : Operator} {r : R2} (ho : OpR X (binaryOp op) r) (ha : Bx (PE X a ta)) (hb : Bx (PE X b tb)) : Bx (PE X (.BinOp a op b pos) (tOp r ta tb)) := ⟨pe_op ho ha.of hb.of⟩
theorem w_pe_un {op : UnaryOp} {r : V → Hp → VK → Prop} (ho : UnR X (unaryOp op) r) (ha : Bx (PE X a ta)) : Bx (PE X (.UnaryOp op a pos) (tUn r ta)) := ⟨pe_un ho ha.of⟩
theorem w_pe_cmpR {op : CmpOp} {r : R2} (ho : OpR X (compareOp op) r) (ha : Bx (PE X a ta)) (hb : Bx (PE X b tb)) (hm : behindInMarks op b = false) : Bx (PE X (.Compare a [op] [b] pos) (tOp r ta tb)) := ⟨pe_cmpR ho ha.of hb.of hm⟩
theorem w_pt_cmpR {op : CmpOp} {r : R2} (ho : OpR X (compareOp op) r) (ha : Bx (PE X a ta)) (hb : Bx (PE X b tb)) (hm : behindInMarks op b = false) : Bx (PT X (.Compare a [op] [b] pos) (tTest (tOp r ta tb))) := ⟨pt_cmpR ho ha.of hb.of hm⟩
end
section
variable {X : Cx} {o e value : Expr} {f : Str} {pos pos' tpos : Pos} {ta tv : TE}
theorem w_pe_fld (he : Bx (PE X e ta)) (hb : attributeBase e f X.env (eval e X.env) = eval e X.env) : Bx (PE X (.Attribute e f pos) (tFld X.K ta f)) := ⟨pe_fld he.of hb⟩
theorem w_ps_fld (ha : Bx (PE X o ta)) (hv : Bx (PE X value tv)) (hs : swapsWith value (some (.Attribute o f pos')) pos.line X.env = pure false) : Bx (PS X (.Assign [.Attribute o f pos'] value pos) (sFld X.K ta tv f)) := ⟨ps_fld ha.of hv.of hs⟩
end
section
variable {X : Cx} {e : Expr} {es : List Expr} {te : TE} {t : TA} {pos : Pos}
theorem w_pa_nil  : Bx (PA X [] tNil) := ⟨pa_nil⟩
theorem w_pa_cons (ha : Bx (PE X e te)) (hr : Bx (PA X es t)) (hs : starEach (e :: es) X.env = (false, eval e X.env) :: starEach es X.env := by rfl) : Bx (PA X (e :: es) (tCons te t)) := ⟨pa_cons ha.of hr.of hs⟩
theorem w_pe_tup {x1} (h : Bx (PA X es t)) : Bx (PE X (.Tuple es x1 pos) (tTup t)) := ⟨pe_tup h.of⟩
theorem w_pe_lst (h : Bx (PA X es t)) : Bx (PE X (.List es pos) (tLst t)) := ⟨pe_lst h.of⟩
end
section
variable {X : Cx} {CX : CXT} {k : Nat} {f C : Addr} {fd : FuncData} {ps : List Str} {sp : Sp} {dvs : List V} {ds : List Value} {E : XK} {x m : Str} {p pos apos : Pos} {e o : Expr} {es : List Expr} {ta : TE} {t : TA}
theorem w_pe_meth {pl : Sem Bool} (he : Bx (PE X o ta)) (c : Cls X.K C) (hm : Meth X.K C m f) (F : FnOk X.prog X.w X.K X.mg X.base CX k f fd ps sp) (hr : Room k X.A) (hb : Binds X.K fd ps ds) (hd : Vals dvs ds) (hx : Passes CX X E) (ha : Bx (PA X (e :: es) t)) (hst : starEach (e :: es) X.env = (false, eval e X.env) :: starEach es X.env := by rfl) (hpl : (backTo pos (starEach es X.env)).any (·.1) = false := by rfl) (ht : eval (.Call (.Attribute o m apos) (e :: es) [] pos) X.env = (do
      let ov ← eval o X.env
      standAt apos.atName
      let (f, first) ← holding [ov] (getMethod ov m pl)
      callWith pos f first (backTo pos (starEach (e :: es) X.env)) (backToKw pos (keywordEach [] X.env))) := by rfl) : Bx (PE X (.Call (.Attribute o m apos) (e :: es) [] pos) (tMeth C m sp dvs E ta t)) := ⟨pe_meth he.of c hm F hr hb hd hx ha.of hst hpl ht⟩
end
section
variable {X : Cx} {CX : CXT} {k : Nat} {f C : Addr} {fd : FuncData} {ps ks : List Str} {sp : Sp} {E : XK} {x m : Str} {p pos apos kpos : Pos} {e o : Expr} {es : List Expr} {kws : List Keyword} {te ta : TE} {t tk : TA} {nm : Option Str}
end
section
variable {X : Cx} {CX : CXT} {k : Nat} {f C : Addr} {fd : FuncData} {ps ks : List Str} {sp : Sp} {E : XK} {x m : Str} {p pos apos kpos : Pos} {e o : Expr} {es : List Expr} {kws : List Keyword} {te ta : TE} {t tk : TA} {nm : Option Str}
variable {g : List Value → List Value → List Value} {gV : List V → List V → List V}
end
section
variable {X : Cx} {x : Str} {p pos : Pos} {e : Expr} {es : List Expr} {t : TA} {id T : String} {r : List V → Hp → VK → Prop}
theorem w_pe_callB (hc : CallR X (.builtin id) r) (hg : Gl X x) (hm : X.mg x = none) (hv : bootBuiltins x = some (.builtin id)) (ha : Bx (PA X (e :: es) t)) (hn : x ≠ "__name__" := by decide) (hdb : (x == ("__debug__" : Str)) = false := by decide) (he : starEach (e :: es) X.env = (false, eval e X.env) :: starEach es X.env := by rfl) (hpl : (backTo pos (starEach es X.env)).any (·.1) = false := by rfl) : Bx (PE X (.Call (.Name x p) (e :: es) [] pos) (tCB r t)) := ⟨pe_callB hc hg hm hv ha.of hn hdb he hpl⟩
theorem w_pe_callTy (hc : CallR X (.type T) r) (hg : Gl X x) (hm : X.mg x = none) (hv : bootBuiltins x = some (.type T)) (ha : Bx (PA X (e :: es) t)) (hn : x ≠ "__name__" := by decide) (hdb : (x == ("__debug__" : Str)) = false := by decide) (he : starEach (e :: es) X.env = (false, eval e X.env) :: starEach es X.env := by rfl) (hpl : (backTo pos (starEach es X.env)).any (·.1) = false := by rfl) : Bx (PE X (.Call (.Name x p) (e :: es) [] pos) (tCB r t)) := ⟨pe_callTy hc hg hm hv ha.of hn hdb he hpl⟩
end
section
variable {X : Cx} {e : Expr} {te : TE} {lo hi : Option Expr} {tl th : TO} {pos p2 : Pos}
theorem w_po_none  : Bx (PO X none tNoPart) := ⟨po_none⟩
theorem w_po_some (h : Bx (PE X e te)) : Bx (PO X (some e) (tPart te)) := ⟨po_some h.of⟩
theorem w_pe_slice {r : V → Option Int → Option Int → Hp → VK → Prop} (hr : SlR X r) (he : Bx (PE X e te)) (hl : Bx (PO X lo tl)) (hu : Bx (PO X hi th)) : Bx (PE X (.Subscript e (.Slice lo hi none p2) pos) (tSl r te tl th)) := ⟨pe_slice hr he.of hl.of hu.of⟩
end
section
variable {X : Cx} {a b : Expr} {ta tb : TE} {pos : Pos}
theorem w_pe_ix {r : R2} (hr : IxR X r) (ha : Bx (PE X a ta)) (hb : Bx (PE X b tb)) (hs : PlainIx b) : Bx (PE X (.Subscript a b pos) (tOp r ta tb)) := ⟨pe_ix hr ha.of hb.of hs⟩
end
section
variable {X : Cx} {a b : Expr} {ta tb : TE} {pos : Pos}
variable {o e : Expr} {es : List Expr} {to : TE} {t : TA} {name : Str} {apos cpos : Pos} {T id : String} {r : V → List V → Hp → VK → Prop}
theorem w_pe_bm0 (pa : PlainAttrs T) (slot : Slot T name id) (hty : typeOf (.builtin id) = pure (.type "method_descriptor")) (hm : MtR X id r) (ho : Bx (PE X o to)) (hbase : attributeBase o name X.env (eval o X.env) = eval o X.env := by rfl) (hline : (apos.endLine == cpos.line) = true := by rfl) : Bx (PE X (.Call (.Attribute o name apos) [] [] cpos) (tBM0 X.K T r to)) := ⟨pe_bm0 pa slot hty hm ho.of hbase hline⟩
theorem w_pe_bm (pa : PlainAttrs T) (slot : Slot T name id) (hty : typeOf (.builtin id) = pure (.type "method_descriptor")) (hm : MtR X id r) (ho : Bx (PE X o to)) (ha : Bx (PA X (e :: es) t)) (hbase : attributeBase o name X.env (eval o X.env) = eval o X.env := by rfl) (hfew : ((backTo cpos (starEach (e :: es) X.env)).all (fun x => !x.1) && (backToKw cpos (keywordEach [] X.env)).all (fun x => x.1.isSome)
      && decide ((e :: es).length + ([] : List Keyword).length + (if ([] : List Keyword).isEmpty then 0 else 1) < 30)) = true := by rfl) (hline : (apos.endLine == cpos.line) = true := by rfl) (hs : starEach (e :: es) X.env = (false, eval e X.env) :: starEach es X.env := by rfl) (hplain : (backTo cpos (starEach es X.env)).any (·.1) = false := by rfl) : Bx (PE X (.Call (.Attribute o name apos) (e :: es) [] cpos) (tBM X.K T r to t)) := ⟨pe_bm pa slot hty hm ho.of ha.of hbase hfew hline hs hplain⟩
end
section
variable {X : Cx} {o i e value : Expr} {pos pos' tpos : Pos} {td ty tv : TE}
theorem w_pe_dget (hu : X.A.units + 1 < cLine) (ho : Bx (PE X o td)) (hi : Bx (PE X i ty)) (hs : NoSl i) : Bx (PE X (.Subscript o i pos) (tDGet td ty)) := ⟨pe_dget hu ho.of hi.of hs⟩
theorem w_pc_din (hu : X.A.units + 1 < cLine) (hi : Bx (PE X i ty)) (ho : Bx (PE X o td)) : Bx (PC X .In i o (tDIn ty td)) := ⟨pc_din hu hi.of ho.of⟩
theorem w_ps_dput (hu : X.A.units + 1 < cLine) (ho : Bx (PE X o td)) (hi : Bx (PE X i ty)) (hv : Bx (PE X value tv)) (hs : swapsWith value (some (.Subscript o i pos')) pos.line X.env = pure false) : Bx (PS X (.Assign [.Subscript o i pos'] value pos) (sDPut td ty tv)) := ⟨ps_dput hu ho.of hi.of hv.of hs⟩
end
section
variable {X : Cx} {pos : Pos}
theorem w_pe_dnewK  : Bx (PE X (.Dict [] [] pos) tDNewK) := ⟨pe_dnewK⟩
theorem w_pe_dnewT  : Bx (PE X (.Dict [] [] pos) tDNewT) := ⟨pe_dnewT⟩
end
section
end
section
variable {X : Cx} {o e f : Expr} {apos cpos : Pos} {td ty tx : TE}
end
section
variable {X : Cx}
theorem w_pv (i : Nat) {x : Str} {pos : Pos} (hN : X.N[i]? = some x := by rfl) (hv : Vis X.env.scope x := by first | exact Or.inl rfl | exact Or.inr (Or.inl rfl) | exact Or.inr (Or.inr rfl)) (hd : (x == ("__debug__" : Str)) = false := by decide) (hcd : (x == ("__classdict__" : Str)) = false := by decide) : Bx (PE X (.Name x pos) (tVar i)) := ⟨pv i hN hv hd hcd⟩
end
section
theorem w_pss_cut {X : Cx} {st : Stmt} {rest : List Stmt} {t u : TS} (h1 : Bx (PS X st t)) (h2 : Bx (PSs X rest u)) : Bx (PSs X (st :: rest) (tSeqM t u)) := ⟨pss_cut h1.of h2.of⟩
theorem w_pts_nil {X : Cx} : Bx (PTs X [] tYes) := ⟨pts_nil⟩
end
section
variable {X : Cx} {tg iter elt : Expr} {ifs : List Expr} {scope : Scope} {pos : Pos} {N' : List Str} {t : Nat} {caps : List Nat} {g : Blk → TG} {tc : Blk → TT} {te : Blk → TE} {wi : TI}
theorem w_pe_comp (hc : X.calm = true) (S : CompOk X scope N' t caps) (hi : Bx (PI X tg iter wi)) (hg : ∀ b, Bx (PG (cxB X scope N' b) tg (g b))) (ht : ∀ b, Bx (PTs (cxB X scope N' b) ifs (tc b))) (he : ∀ b, Bx (PE (cxB X scope N' b) elt (te b))) (hs : ∀ x, foldedSetIterable iter X.env x = pure x := by intro _; rfl) : Bx (PE X (.ListComp elt [⟨tg, iter, ifs, 0⟩] scope pos) (tComp wi g tc te t caps)) := ⟨pe_comp hc S hi.of (fun x0 => (hg x0).of) (fun x0 => (ht x0).of) (fun x0 => (he x0).of) hs⟩
end
section
variable {X : Cx} {k : Nat} {f C : Addr} {fd : FuncData} {ps : List Str} {sp : Sp} {x m : Str} {p pos apos : Pos} {e o : Expr} {es : List Expr} {ta : TE} {t : TA}
theorem w_pe_c (c : Callee X.prog X.w X.K X.mg X.base x f fd ps k sp) (hr : Room k X.A) (ha : Bx (PA X (e :: es) t)) (hg : Gl X x := by rfl) (hdb : (x == ("__debug__" : Str)) = false := by decide) (he : starEach (e :: es) X.env = (false, eval e X.env) :: starEach es X.env := by rfl) (hpl : (backTo pos (starEach es X.env)).any (·.1) = false := by rfl) : Bx (PE X (.Call (.Name x p) (e :: es) [] pos) (tCall sp [] E0 t)) := ⟨pe_c c hr ha.of hg hdb he hpl⟩
theorem w_pe_m (c : Maker X.prog X.w X.K X.mg X.base x C f fd ps k sp) (hr : Room (k + 1) X.A) (ha : Bx (PA X (e :: es) t)) (hg : Gl X x := by rfl) (hdb : (x == ("__debug__" : Str)) = false := by decide) (he : starEach (e :: es) X.env = (false, eval e X.env) :: starEach es X.env := by rfl) (hpl : (backTo pos (starEach es X.env)).any (·.1) = false := by rfl) : Bx (PE X (.Call (.Name x p) (e :: es) [] pos) (tMake C sp [] E0 t)) := ⟨pe_m c hr ha.of hg hdb he hpl⟩
theorem w_pe_methD {pl : Sem Bool} (he : Bx (PE X o ta)) (ha : Bx (PA X (e :: es) t)) (hst : starEach (e :: es) X.env = (false, eval e X.env) :: starEach es X.env := by rfl) (hpl : (backTo pos (starEach es X.env)).any (·.1) = false := by rfl) (ht : eval (.Call (.Attribute o m apos) (e :: es) [] pos) X.env = (do
      let ov ← eval o X.env
      standAt apos.atName
      let (f, first) ← holding [ov] (getMethod ov m pl)
      callWith pos f first (backTo pos (starEach (e :: es) X.env)) (backToKw pos (keywordEach [] X.env))) := by rfl) : Bx (PE X (.Call (.Attribute o m apos) (e :: es) [] pos) (tMethD X m ta t)) := ⟨pe_methD he.of ha.of hst hpl ht⟩
theorem w_pe_meth0D {pl : Sem Bool} (he : Bx (PE X o ta)) (ht : eval (.Call (.Attribute o m apos) [] [] pos) X.env = (do
      let ov ← eval o X.env
      standAt apos.atName
      let (f, first) ← holding [ov] (getMethod ov m pl)
      callWith pos f first (backTo pos (starEach [] X.env)) (backToKw pos (keywordEach [] X.env))) := by rfl) : Bx (PE X (.Call (.Attribute o m apos) [] [] pos) (tMethD X m ta tNil)) := ⟨pe_meth0D he.of ht⟩
end
section
theorem w_pe_cls {X : Cx} {x : Str} {C : Addr} {pos : Pos} (hm : X.mg x = some (.ref C)) (hg : Gl X x := by rfl) (hd : (x == ("__debug__" : Str)) = false := by decide) : Bx (PE X (.Name x pos) (tC (.ref C))) := ⟨pe_cls hm hg hd⟩
theorem w_pe_bty {X : Cx} {x : Str} {n : String} {pos : Pos} (hm : X.mg x = none) (hv : bootBuiltins x = some (.type n)) (hg : Gl X x := by rfl) (hn : x ≠ "__name__" := by decide) (hd : (x == ("__debug__" : Str)) = false := by decide) : Bx (PE X (.Name x pos) (tC (.ty n))) := ⟨pe_bty hm hv hg hn hd⟩
end
section
variable {P : Program} {w : World} {A : Around} {R : Result → Shared → Prop} {I S : Addr} {fp wr : List Addr} {n : Nat} {Is : Nat → Value → Prop} {St : Nat → Heap → Prop} {kw : List (Str × Value)}
end
section
end
section
variable {X : Cx} {C : Addr} {x : Str} {p pos : Pos}
end
section
variable {X : Cx} {es : List Expr} {t : TA} {te : TE}
theorem w_pa_C {c j pos} (ha : Bx (PE X (.Constant c j pos) te)) (hr : Bx (PA X es t)) : Bx (PA X (.Constant c j pos :: es) (tCons te t)) := ⟨pa_C ha.of hr.of⟩
theorem w_pa_T {xs c pos} (ha : Bx (PE X (.Tuple xs c pos) te)) (hr : Bx (PA X es t)) : Bx (PA X (.Tuple xs c pos :: es) (tCons te t)) := ⟨pa_T ha.of hr.of⟩
theorem w_pa_K {f xs ks pos} (ha : Bx (PE X (.Call f xs ks pos) te)) (hr : Bx (PA X es t)) : Bx (PA X (.Call f xs ks pos :: es) (tCons te t)) := ⟨pa_K ha.of hr.of⟩
theorem w_pa_B {l o r pos} (ha : Bx (PE X (.BinOp l o r pos) te)) (hr : Bx (PA X es t)) : Bx (PA X (.BinOp l o r pos :: es) (tCons te t)) := ⟨pa_B ha.of hr.of⟩
theorem w_pa_U {o r pos} (ha : Bx (PE X (.UnaryOp o r pos) te)) (hr : Bx (PA X es t)) : Bx (PA X (.UnaryOp o r pos :: es) (tCons te t)) := ⟨pa_U ha.of hr.of⟩
theorem w_pa_N {x pos} (ha : Bx (PE X (.Name x pos) te)) (hr : Bx (PA X es t)) : Bx (PA X (.Name x pos :: es) (tCons te t)) := ⟨pa_N ha.of hr.of⟩
end
section
variable {X : Cx}
end
section
variable {P : Program} {w : World} {K : PySem.W.Frag} {mg : Str → Option Value} {base : Heap} {N : List Str} {qual : Str} {scope : Scope} {f : Addr} {cd : Value} {A : Around} {outer : List Env} {s0 : Shared} {H0 : Hp} {E : XK}
theorem w_ps_raise (hc : (A.deeper (envOfC qual scope s0.heap.objs.size f cd)).handled = none) (c : XCls K C) (hm : mg x = some (.ref C)) (ha : Bx (PA (cxOf (CX1 P w) P w K mg base N qual scope f cd A outer s0 H0 E) (e :: es) t)) (hg : Gl (cxOf (CX1 P w) P w K mg base N qual scope f cd A outer s0 H0 E) x := by rfl) (he : starEach (e :: es) (cxOf (CX1 P w) P w K mg base N qual scope f cd A outer s0 H0 E).env = (false, eval e (cxOf (CX1 P w) P w K mg base N qual scope f cd A outer s0 H0 E).env) :: starEach es (cxOf (CX1 P w) P w K mg base N qual scope f cd A outer s0 H0 E).env := by rfl) (hpl : (backTo cpos (starEach es (cxOf (CX1 P w) P w K mg base N qual scope f cd A outer s0 H0 E).env)).any (·.1) = false := by rfl) (hdb : (x == ("__debug__" : Str)) = false := by decide) : Bx (PS (cxOf (CX1 P w) P w K mg base N qual scope f cd A outer s0 H0 E) (.Raise (some (.Call (.Name x np) (e :: es) [] cpos)) none pos) (tRz C E t)) := ⟨ps_raise hc c hm ha.of hg he hpl hdb⟩
end
section
variable {X : Cx} {k : Nat} {f C : Addr} {fd : FuncData} {ps : List Str} {sp : Sp} {dvs : List V} {ds : List Value} {x : Str} {p pos : Pos} {e : Expr} {es : List Expr} {t : TA}
theorem w_px_expr {te : XK → TE} (h : Bx (PV X e te)) (hs : swapsWith e none pos.line X.env = pure false := by rfl) : Bx (PX X [.Expr e pos] (fun E => tDrop (te E))) := ⟨px_expr h.of hs⟩
end
section
end
section
variable {X : Cx} {k : Nat} {f C : Addr} {fd : FuncData} {ps : List Str} {sp : Sp} {x : Str} {p pos : Pos} {e : Expr} {es : List Expr} {t : TA}
end
section
theorem w_ps_tryAs {X : Cx} {body suite : List Stmt} {b0 : Stmt} {i : Nat} {x n : Str} {C : Addr} {np hpos pos : Pos} {tb : XK → TS} {th : TS} (hst : X.stack = X.env :: X.outer) (hfr : X.env.frame = some X.env.locals) (hN : X.N.Nodup) (hi : X.N[i]? = some n) (hk : X.env.scope.names.lookup n = some .local) (c : XCls X.K C) (hm : X.mg x = some (.ref C)) (hb : Bx (PX X body tb)) (hh : ∀ a, Bx (PSs (X.inH a) (b0 :: suite) th)) (hg : Gl X x := by rfl) (hdb : (x == ("__debug__" : Str)) = false := by decide) : Bx (PS X (.Try body [.ExceptHandler (some (.Name x np)) (some n) (b0 :: suite) hpos] [] [] pos) (tTryAs C i tb th)) := ⟨ps_tryAs hst hfr hN hi hk c hm hb.of (fun x0 => (hh x0).of) hg hdb⟩
end
section
variable {X : Cx} {tg : Expr}
end
section
end
section
variable {X : Cx}
variable {o e f : Expr} {apos cpos : Pos} {td ty tx : TE}
end
section
variable {X : Cx} {m : Str} {o e : Expr} {es : List Expr} {ta : TE} {t : TA} {apos pos : Pos}
theorem w_pv_methD {pl : Sem Bool} (he : Bx (PE X.nox o ta)) (ha : Bx (PA X.nox (e :: es) t)) (hst : starEach (e :: es) X.env = (false, eval e X.env) :: starEach es X.env := by rfl) (hpl : (backTo pos (starEach es X.env)).any (·.1) = false := by rfl) (ht : eval (.Call (.Attribute o m apos) (e :: es) [] pos) X.env = (do
      let ov ← eval o X.env
      standAt apos.atName
      let (f, first) ← holding [ov] (getMethod ov m pl)
      callWith pos f first (backTo pos (starEach (e :: es) X.env)) (backToKw pos (keywordEach [] X.env))) := by rfl) : Bx (PV X (.Call (.Attribute o m apos) (e :: es) [] pos) (fun E => tMethX X m ta t E)) := ⟨pv_methD he.of ha.of hst hpl ht⟩
end
end L2

/-! SortDet -/
set_option Elab.async false
set_option linter.all false
set_option maxRecDepth 100000
set_option maxHeartbeats 4000000
namespace L2
namespace Srt
open PySem PyProof.Rows
abbrev Sites := Around → (Value → Shared → Prop) → Shared → Prop
def DW {σ α : Type} (prog : Program) (w : World) (S : Sites) (m : StateT σ Sem α) (Q : α → σ → Prop) (st : σ) : Prop :=
  ∃ r st', Q r st' ∧ ∀ A E s, S A E s → wpS (model prog w) A E s m (fun r' st'' => r' = r ∧ st'' = st') st
section
variable {σ α β : Type} {prog : Program} {w : World} {S : Sites}
theorem DW_pure {a : α} {Q : α → σ → Prop} {st : σ} (h : Q a st) : DW prog w S (pure a : StateT σ Sem α) Q st := ⟨a, st, h, fun _ _ _ _ => wpS_pure ⟨rfl, rfl⟩⟩
theorem DW_bind {m : StateT σ Sem α} {f : α → StateT σ Sem β} {Q : β → σ → Prop} {st : σ} (h : DW prog w S m (fun a st' => DW prog w S (f a) Q st') st) : DW prog w S (m >>= f) Q st := by
  obtain ⟨r, st', ⟨r2, st2, q, h2⟩, h1⟩ := h
  exact ⟨r2, st2, q, fun A E s hs => wpS_bind (wpS_mono (h1 A E s hs) (by rintro _ _ ⟨rfl, rfl⟩; exact h2 A E s hs))⟩
theorem DW_mono {m : StateT σ Sem α} {Q Q' : α → σ → Prop} {st : σ} (h : DW prog w S m Q st) (hq : ∀ a st', Q a st' → Q' a st') : DW prog w S m Q' st := by
  obtain ⟨r, st', q, h1⟩ := h
  exact ⟨r, st', hq _ _ q, h1⟩
theorem DW_get {Q : σ → σ → Prop} {st : σ} (h : Q st st) : DW prog w S (get : StateT σ Sem σ) Q st := ⟨st, st, h, fun _ _ _ _ => wpS_get ⟨rfl, rfl⟩⟩
theorem DW_modify {f : σ → σ} {Q : PUnit → σ → Prop} {st : σ} (h : Q ⟨⟩ (f st)) : DW prog w S (modify f : StateT σ Sem PUnit) Q st := ⟨⟨⟩, f st, h, fun _ _ _ _ => wpS_modify ⟨rfl, rfl⟩⟩
theorem DW_rule {tag : String} {Q : Unit → σ → Prop} {st : σ} (h : Q () st) : DW prog w S (liftM (rule tag) : StateT σ Sem Unit) Q st := ⟨(), st, h, fun _ _ _ _ => wpS_lift (wpAny_rule ⟨rfl, rfl, rfl⟩)⟩
theorem DW_list (f : Nat → β → StateT σ Sem (ForInStep β)) (I : List Nat → β → σ → Prop) (Q : β → σ → Prop)
    (hs : ∀ x rest b st, I (x :: rest) b st → DW prog w S (f x b) (fun r st' => match r with | .done b' => Q b' st' | .yield b' => I rest b' st') st) (he : ∀ b st, I [] b st → Q b st) : ∀ (l : List Nat) (b : β) (st : σ), I l b st → DW prog w S (forIn l b f) Q st
  | [], b, st, h => by
    rw [List.forIn_nil]
    exact DW_pure (he b st h)
  | x :: l, b, st, h => by
    rw [List.forIn_cons]
    refine DW_bind (DW_mono (hs x l b st h) fun r st' q => ?_)
    cases r with
    | done b' => exact DW_pure q
    | yield b' => exact DW_list f I Q hs he l b' st' q
theorem DW_forRange {a b : Nat} {f : Nat → β → StateT σ Sem (ForInStep β)} (I : Nat → β → σ → Prop) {Q : β → σ → Prop}
    (hstep : ∀ i c st, a ≤ i → i < b → I i c st → DW prog w S (f i c) (fun r st' => match r with | .done c' => Q c' st' | .yield c' => I (i + 1) c' st') st)
    (hend : ∀ c st, I (max a b) c st → Q c st) {c : β} {st : σ} (h : I a c st) : DW prog w S (forIn [a:b] c f) Q st := by
  have key : ∀ (n i : Nat) (c : β) (st : σ), a ≤ i → i + n = max a b → I i c st → DW prog w S (forIn (List.range' i n) c f) Q st := by
    intro n
    induction n with
    | zero =>
      intro i c st _ e q
      rw [List.range'_zero, List.forIn_nil]
      exact DW_pure (hend c st (by rw [← e]; exact q))
    | succ n ih =>
      intro i c st hi e q
      rw [List.range'_succ, List.forIn_cons]
      refine DW_bind (DW_mono (hstep i c st hi (by omega) q) fun r st' q => ?_)
      cases r with
      | done c' => exact DW_pure q
      | yield c' => exact ih (i + 1) c' st' (by omega) (by omega) q
  have e : forIn [a:b] c f = forIn (List.range' a (b - a)) c f := by
    rw [Std.Legacy.Range.forIn_eq_forIn_range']
    have hz : ([a:b] : Std.Legacy.Range).size = b - a := by simp [Std.Legacy.Range.size]
    rw [hz]
  rw [e]
  exact key (b - a) a c st (Nat.le_refl _) (by omega) h
end
def gallop' : Bool → Keyed → Array Keyed → Nat → Nat → Nat → StateT SortSt Sem (Option Nat) := sortPriv% PySem.Builtin.gallop
def mergeLo' : Array Keyed → Array Keyed → StateT SortSt Sem (Array Keyed) := sortPriv% PySem.Builtin.mergeLo
def mergeHi' : Array Keyed → Array Keyed → StateT SortSt Sem (Array Keyed) := sortPriv% PySem.Builtin.mergeHi
def setMin' : Nat → StateT SortSt Sem Unit := sortPriv% PySem.Builtin.setMinGallop
def beyond' (left : Bool) (key : Keyed) (arr : Array Keyed) (base i : Nat) : StateT SortSt Sem (Option Bool) :=
  elem' arr (base + i) >>= fun x => if left = true then lt' x key else lt' key x >>= fun o => pure (o.map fun b => !b)
section
variable {prog : Program} {w : World} {S : Sites} {it : List Keyed} {κ : SortKind} {lt : Value → Value → Bool}
def CmpD (prog : Program) (w : World) (S : Sites) (it : List Keyed) (κ : SortKind) (lt : Value → Value → Bool) : Prop :=
  ∀ x ∈ it, ∀ y ∈ it, ∀ (A : Around) (E : Value → Shared → Prop) (s : Shared), S A E s → ∀ (Q : Bool → Shared → Prop) (E' : Value → Shared → Prop), Q (lt x.1 y.1) s → wpAny (model prog w) A (keyLt' κ x.1 y.1) Q E' s
theorem t_lt (C : CmpD prog w S it κ lt) {st : SortSt} (hk : kindOf st = κ) {x y : Keyed} (hx : x ∈ it) (hy : y ∈ it) {Q : Option Bool → SortSt → Prop} (h : ∀ b, Q (some b) st) : DW prog w S (lt' x y) Q st := by
  refine ⟨some (lt x.1 y.1), st, h _, fun A E s hs => ?_⟩
  rw [lt'_eq]
  refine wpS_bind (wpS_get ?_)
  rw [hk]
  refine wpS_bind (wpS_lift (wpAny_attempt (C x hx y hy A E s hs _ _ ⟨rfl, ?_⟩)))
  exact wpS_pure ⟨rfl, rfl⟩
theorem t_elem {st : SortSt} {arr : Array Keyed} {i : Nat} (hi : i < arr.size) {Q : Keyed → SortSt → Prop} (h : Q arr[i] st) : DW prog w S (elem' arr i) Q st := by
  rw [elem'_eq, getElem?_pos arr i hi]
  exact DW_pure h
theorem t_beyond (C : CmpD prog w S it κ lt) {st : SortSt} (hk : kindOf st = κ) {left : Bool} {key : Keyed} {arr : Array Keyed} {base i : Nat} (hkey : key ∈ it) (harr : ∀ x ∈ arr, x ∈ it) (hi : base + i < arr.size)
    {Q : Option Bool → SortSt → Prop} (h : ∀ b, Q (some b) st) : DW prog w S (beyond' left key arr base i) Q st := by
  unfold beyond'
  refine DW_bind (t_elem hi ?_)
  have hx : arr[base + i] ∈ it := harr _ (Array.getElem_mem hi)
  cases left with
  | true => exact t_lt C hk hx hkey h
  | false =>
    refine DW_bind (t_lt C hk hkey hx fun b => ?_)
    exact DW_pure (h (!b))
theorem t_gallop (C : CmpD prog w S it κ lt) {st : SortSt} (hk : kindOf st = κ) {left : Bool} {key : Keyed} {arr : Array Keyed} {base n hint : Nat} (hkey : key ∈ it) (harr : ∀ x ∈ arr, x ∈ it) (hb : base + n ≤ arr.size) (hh : hint < n)
    {Q : Option Nat → SortSt → Prop} (h : ∀ k, k ≤ n → Q (some k) st) : DW prog w S (gallop' left key arr base n hint) Q st := by
  refine DW_bind (t_beyond C hk hkey harr (by omega) fun rt => ?_)
  cases rt with
  | true =>
    simp only [if_true]
    refine DW_bind (DW_mono (DW_forRange (I := fun _ c st' => st' = st ∧ ∃ a b, c = (none, a, b)) (Q := fun c st' => st' = st ∧ ∃ a b, c = (none, a, b)) ?_ ?_ ⟨rfl, _, _, rfl⟩) ?_)
    · rintro i c st' _ hi ⟨rfl, a, b, rfl⟩
      dsimp only
      by_cases q : b ≥ n - hint
      · rw [if_pos q]
        exact DW_pure ⟨rfl, _, _, rfl⟩
      · rw [if_neg q]
        refine DW_bind (t_beyond C hk hkey harr (by omega) fun mo => ?_)
        cases mo with
        | true => exact DW_pure ⟨rfl, _, _, rfl⟩
        | false => exact DW_pure ⟨rfl, _, _, rfl⟩
    · exact fun c st' h => h
    · rintro c st' ⟨rfl, a, b, rfl⟩
      dsimp only
      refine DW_bind (DW_mono (DW_forRange (I := fun _ c st'' => st'' = st' ∧ ∃ a b, c = (none, a, b) ∧ b ≤ n) (Q := fun c st'' => st'' = st' ∧ ∃ a b, c = (none, a, b) ∧ b ≤ n) ?_ ?_ ⟨rfl, _, _, rfl, by omega⟩) ?_)
      · rintro i c st'' _ _ ⟨rfl, a, b, rfl, ha⟩
        dsimp only
        by_cases q : a ≥ b
        · rw [if_pos q]
          exact DW_pure ⟨rfl, a, b, rfl, ha⟩
        · rw [if_neg q]
          refine DW_bind (t_beyond C hk hkey harr (by omega) fun mo => ?_)
          cases mo with
          | true => exact DW_pure ⟨rfl, _, _, rfl, ha⟩
          | false => exact DW_pure ⟨rfl, _, _, rfl, by omega⟩
      · exact fun c st'' h => h
      · rintro c st'' ⟨rfl, a, b, rfl, ha⟩
        exact DW_pure (h b ha)
  | false =>
    simp only [Bool.false_eq_true, if_false]
    refine DW_bind (DW_mono (DW_forRange (I := fun _ c st' => st' = st ∧ ∃ a b, c = (none, a, b)) (Q := fun c st' => st' = st ∧ ∃ a b, c = (none, a, b)) ?_ ?_ ⟨rfl, _, _, rfl⟩) ?_)
    · rintro i c st' _ hi ⟨rfl, a, b, rfl⟩
      dsimp only
      by_cases q : b ≥ hint + 1
      · rw [if_pos q]
        exact DW_pure ⟨rfl, _, _, rfl⟩
      · rw [if_neg q]
        refine DW_bind (t_beyond C hk hkey harr (by omega) fun mo => ?_)
        cases mo with
        | true => exact DW_pure ⟨rfl, _, _, rfl⟩
        | false => exact DW_pure ⟨rfl, _, _, rfl⟩
    · exact fun c st' h => h
    · rintro c st' ⟨rfl, a, b, rfl⟩
      dsimp only
      refine DW_bind (DW_mono (DW_forRange (I := fun _ c st'' => st'' = st' ∧ ∃ a b, c = (none, a, b) ∧ b ≤ n) (Q := fun c st'' => st'' = st' ∧ ∃ a b, c = (none, a, b) ∧ b ≤ n) ?_ ?_ ⟨rfl, _, _, rfl, by omega⟩) ?_)
      · rintro i c st'' _ _ ⟨rfl, a, b, rfl, ha⟩
        dsimp only
        by_cases q : a ≥ b
        · rw [if_pos q]
          exact DW_pure ⟨rfl, a, b, rfl, ha⟩
        · rw [if_neg q]
          refine DW_bind (t_beyond C hk hkey harr (by omega) fun mo => ?_)
          cases mo with
          | true => exact DW_pure ⟨rfl, _, _, rfl, ha⟩
          | false => exact DW_pure ⟨rfl, _, _, rfl, by omega⟩
      · exact fun c st'' h => h
      · rintro c st'' ⟨rfl, a, b, rfl, ha⟩
        exact DW_pure (h b ha)
structure Eqv (st st' : SortSt) : Prop where
  k : kindOf st' = kindOf st
  a : arrOf st' = arrOf st
  p : pendingOf st' = pendingOf st
  f : failedOf st' = failedOf st
theorem Eqv.refl (st : SortSt) : Eqv st st := ⟨rfl, rfl, rfl, rfl⟩
theorem t_setMin {st st' : SortSt} (e : Eqv st st') {g : Nat} {Q : Unit → SortSt → Prop} (h : ∀ st'', Eqv st st'' → Q () st'') : DW prog w S (setMin' g) Q st' := DW_modify (h _ ⟨e.k, e.a, e.p, e.f⟩)
def In (it : List Keyed) (o : Array Keyed) : Prop := ∀ x ∈ o, x ∈ it
theorem In.push {o : Array Keyed} {x : Keyed} (h : In it o) (hx : x ∈ it) : In it (o.push x) := fun y hy => by
  rcases Array.mem_push.mp hy with q | q
  · exact h y q
  · rw [q]; exact hx
theorem In.app {o p : Array Keyed} (h : In it o) (k : In it p) : In it (o ++ p) := fun y hy => by
  rcases Array.mem_append.mp hy with q | q
  · exact h y q
  · exact k y q
theorem In.ext {o : Array Keyed} {i j : Nat} (h : In it o) : In it (o.extract i j) := fun y hy => by
  have hy : y ∈ (o.extract i j).toList := Array.mem_def.mp hy
  rw [Array.toList_extract, List.extract_eq_drop_take] at hy
  exact h y (Array.mem_def.mpr (List.mem_of_mem_drop (List.mem_of_mem_take hy)))
theorem In.rev {o : Array Keyed} (h : In it o) : In it o.reverse := fun y hy => h y (Array.mem_reverse.mp hy)
theorem In.at {o : Array Keyed} {i : Nat} (h : In it o) (hi : i < o.size) : o[i] ∈ it := h _ (Array.getElem_mem hi)
theorem In.one {x : Keyed} (h : x ∈ it) : In it #[x] := fun y hy => by
  simp at hy
  rw [hy]; exact h
def LoP (it : List Keyed) (a b : Array Keyed) (m : Nat) (r : Option (Array Keyed)) (o : Array Keyed) (x y : Nat) : Prop :=
  match r with
  | some o => In it o
  | none => In it o ∧ x + 1 < a.size ∧ y < b.size ∧ m ≤ x + y
theorem t_mergeLo (C : CmpD prog w S it κ lt) {st : SortSt} (hk : kindOf st = κ) {a b : Array Keyed} (ha : In it a) (hb : In it b) (za : 1 ≤ a.size) (zb : 1 ≤ b.size)
    {Q : Array Keyed → SortSt → Prop} (h : ∀ o st', In it o → Eqv st st' → Q o st') : DW prog w S (mergeLo' a b) Q st := by
  refine DW_bind (DW_rule ?_)
  refine DW_bind (t_elem (by omega) ?_)
  have b0 := In.one (hb.at (i := 0) (by omega))
  dsimp only
  by_cases q1 : (1 == b.size) = true
  · rw [if_pos q1]
    exact DW_pure (h _ _ ((b0.app ha.ext).app hb.ext) (Eqv.refl st))
  rw [if_neg q1]
  by_cases q2 : (0 + 1 == a.size) = true
  · rw [if_pos q2]
    exact DW_pure (h _ _ ((b0.app hb.ext).app ha.ext) (Eqv.refl st))
  rw [if_neg q2]
  have q1 : 1 ≠ b.size := fun z => q1 (by simp [z])
  have q2 : 1 ≠ a.size := fun z => q2 (by simp [z])
  refine DW_bind (DW_get ?_)
  refine DW_bind (DW_mono (DW_forRange (I := fun i c st' => Eqv st st' ∧ ∃ o x y mg, c = (none, o, x, y, mg) ∧ In it o ∧ x + 1 < a.size ∧ y < b.size ∧ i ≤ x + y) (Q := fun c st' => Eqv st st' ∧ ∃ r o x y mg, c = (some r, o, x, y, mg) ∧ In it r) ?_ ?_ ⟨Eqv.refl st, _, _, _, _, rfl, b0, by omega, by omega, by omega⟩) ?_)
  · rintro i c st1 _ hi ⟨ev, o, x, y, mg, rfl, ho, hx, hy, hm⟩
    dsimp only
    refine DW_bind (DW_mono (DW_forRange (I := fun j c st' => Eqv st st' ∧ ∃ o x y ca cb, c = (none, o, x, y, ca, cb) ∧ In it o ∧ x + 1 < a.size ∧ y < b.size ∧ i + j ≤ x + y) (Q := fun c st' => Eqv st st' ∧ ∃ r o x y ca cb, c = (r, o, x, y, ca, cb) ∧ LoP it a b (i + 1) r o x y) ?_ ?_ ⟨ev, _, _, _, _, _, rfl, ho, hx, hy, hm⟩) ?_)
    · rintro j c st2 _ hj ⟨ev, o, x, y, ca, cb, rfl, ho, hx, hy, hm⟩
      dsimp only
      have hx0 := ha.at (i := x) (by omega)
      have hy0 := hb.at hy
      refine DW_bind (t_elem hy (DW_bind (t_elem (by omega) (DW_bind (t_lt C (ev.k.trans hk) hy0 hx0 fun bw => ?_)))))
      cases bw with
      | true =>
        simp only [if_true]
        refine DW_bind (t_elem hy ?_)
        have ho' := ho.push hy0
        by_cases q3 : (y + 1 == b.size) = true
        · rw [if_pos q3]
          exact DW_pure ⟨ev, _, _, _, _, _, _, rfl, (ho'.app ha.ext).app hb.ext⟩
        · rw [if_neg q3]
          have q3 : y + 1 ≠ b.size := fun z => q3 (by simp [z])
          by_cases q4 : cb + 1 ≥ mg
          · rw [if_pos q4]
            exact DW_pure ⟨ev, _, _, _, _, _, _, rfl, ho', hx, by omega, by omega⟩
          · rw [if_neg q4]
            exact DW_pure ⟨ev, _, _, _, _, _, rfl, ho', hx, by omega, by omega⟩
      | false =>
        simp only [Bool.false_eq_true, if_false]
        refine DW_bind (t_elem (by omega) ?_)
        have ho' := ho.push hx0
        by_cases q3 : (x + 1 + 1 == a.size) = true
        · rw [if_pos q3]
          exact DW_pure ⟨ev, _, _, _, _, _, _, rfl, (ho'.app hb.ext).app ha.ext⟩
        · rw [if_neg q3]
          have q3 : x + 1 + 1 ≠ a.size := fun z => q3 (by simp [z])
          by_cases q4 : ca + 1 ≥ mg
          · rw [if_pos q4]
            exact DW_pure ⟨ev, _, _, _, _, _, _, rfl, ho', by omega, hy, by omega⟩
          · rw [if_neg q4]
            exact DW_pure ⟨ev, _, _, _, _, _, rfl, ho', by omega, hy, by omega⟩
    · rintro c st2 ⟨ev, o, x, y, ca, cb, rfl, ho, hx, hy, hm⟩
      exact ⟨ev, _, _, _, _, _, _, rfl, ho, hx, hy, by omega⟩
    · rintro c st2 ⟨ev, r, o, x, y, ca, cb, rfl, hp⟩
      dsimp only
      cases r with
      | some r => exact DW_pure ⟨ev, _, _, _, _, _, rfl, hp⟩
      | none =>
        obtain ⟨ho, hx, hy, hm⟩ := hp
        refine DW_bind (DW_rule ?_)
        refine DW_bind (DW_mono (DW_forRange (I := fun _ c st' => Eqv st st' ∧ ∃ o x y mg ca cb, c = (none, o, x, y, mg, ca, cb) ∧ In it o ∧ x + 1 < a.size ∧ y < b.size ∧ i + 1 ≤ x + y) (Q := fun c st' => Eqv st st' ∧ ∃ r o x y mg ca cb, c = (r, o, x, y, mg, ca, cb) ∧ LoP it a b (i + 1) r o x y) ?_ ?_ ⟨ev, _, _, _, _, _, _, rfl, ho, hx, hy, hm⟩) ?_)
        · rintro j c st3 _ hj ⟨ev, o, x, y, mg, ca, cb, rfl, ho, hx, hy, hm⟩
          dsimp only
          by_cases qm : mg > 1
          · rw [if_pos qm]
            refine DW_bind (t_setMin ev fun st4 ev4 => ?_)
            refine DW_bind (t_elem hy ?_)
            refine DW_bind (t_gallop C (ev4.k.trans hk) (hb.at hy) ha (by omega) (by omega) fun k hk1 => ?_)
            dsimp only
            by_cases qk : k > 0
            · rw [if_pos qk]
              have ho1 := ho.app (ha.ext (i := x) (j := x + k))
              by_cases qa : (x + k + 1 == a.size) = true
              · rw [if_pos qa]
                exact DW_pure ⟨ev4, _, _, _, _, _, _, _, rfl, (ho1.app hb.ext).app ha.ext⟩
              rw [if_neg qa]
              have qa : x + k + 1 ≠ a.size := fun z => qa (by simp [z])
              by_cases qb : (x + k == a.size) = true
              · rw [if_pos qb]
                exact DW_pure ⟨ev4, _, _, _, _, _, _, _, rfl, (ho1.app ha.ext).app hb.ext⟩
              rw [if_neg qb]
              have qb : x + k ≠ a.size := fun z => qb (by simp [z])
              refine DW_bind (t_elem hy ?_)
              have ho2 := ho1.push (hb.at hy)
              by_cases qc : (y + 1 == b.size) = true
              · rw [if_pos qc]
                exact DW_pure ⟨ev4, _, _, _, _, _, _, _, rfl, (ho2.app ha.ext).app hb.ext⟩
              rw [if_neg qc]
              have qc : y + 1 ≠ b.size := fun z => qc (by simp [z])
              refine DW_bind (t_elem (by omega) ?_)
              refine DW_bind (t_gallop C (ev4.k.trans hk) (ha.at (i := x + k) (by omega)) hb (by omega) (by omega) fun k2 hk2 => ?_)
              dsimp only
              by_cases qk2 : k2 > 0
              · rw [if_pos qk2]
                have ho3 := ho2.app (hb.ext (i := y + 1) (j := y + 1 + k2))
                by_cases qd : (y + 1 + k2 == b.size) = true
                · rw [if_pos qd]
                  exact DW_pure ⟨ev4, _, _, _, _, _, _, _, rfl, (ho3.app ha.ext).app hb.ext⟩
                rw [if_neg qd]
                have qd : y + 1 + k2 ≠ b.size := fun z => qd (by simp [z])
                refine DW_bind (t_elem (by omega) ?_)
                have ho4 := ho3.push (ha.at (i := x + k) (by omega))
                by_cases qe : (x + k + 1 + 1 == a.size) = true
                · rw [if_pos qe]
                  exact DW_pure ⟨ev4, _, _, _, _, _, _, _, rfl, (ho4.app hb.ext).app ha.ext⟩
                rw [if_neg qe]
                have qe : x + k + 1 + 1 ≠ a.size := fun z => qe (by simp [z])
                split
                · exact DW_pure ⟨ev4, _, _, _, _, _, _, _, rfl, ho4, by omega, by omega, by omega⟩
                · exact DW_pure ⟨ev4, _, _, _, _, _, _, rfl, ho4, by omega, by omega, by omega⟩
              · rw [if_neg qk2]
                refine DW_bind (t_elem (by omega) ?_)
                have ho4 := ho2.push (ha.at (i := x + k) (by omega))
                by_cases qe : (x + k + 1 + 1 == a.size) = true
                · rw [if_pos qe]
                  exact DW_pure ⟨ev4, _, _, _, _, _, _, _, rfl, (ho4.app hb.ext).app ha.ext⟩
                rw [if_neg qe]
                have qe : x + k + 1 + 1 ≠ a.size := fun z => qe (by simp [z])
                split
                · exact DW_pure ⟨ev4, _, _, _, _, _, _, _, rfl, ho4, by omega, by omega, by omega⟩
                · exact DW_pure ⟨ev4, _, _, _, _, _, _, rfl, ho4, by omega, by omega, by omega⟩
            · rw [if_neg qk]
              refine DW_bind (t_elem hy ?_)
              have ho2 := ho.push (hb.at hy)
              by_cases qc : (y + 1 == b.size) = true
              · rw [if_pos qc]
                exact DW_pure ⟨ev4, _, _, _, _, _, _, _, rfl, (ho2.app ha.ext).app hb.ext⟩
              rw [if_neg qc]
              have qc : y + 1 ≠ b.size := fun z => qc (by simp [z])
              refine DW_bind (t_elem (by omega) ?_)
              refine DW_bind (t_gallop C (ev4.k.trans hk) (ha.at (i := x) (by omega)) hb (by omega) (by omega) fun k2 hk2 => ?_)
              dsimp only
              by_cases qk2 : k2 > 0
              · rw [if_pos qk2]
                have ho3 := ho2.app (hb.ext (i := y + 1) (j := y + 1 + k2))
                by_cases qd : (y + 1 + k2 == b.size) = true
                · rw [if_pos qd]
                  exact DW_pure ⟨ev4, _, _, _, _, _, _, _, rfl, (ho3.app ha.ext).app hb.ext⟩
                rw [if_neg qd]
                have qd : y + 1 + k2 ≠ b.size := fun z => qd (by simp [z])
                refine DW_bind (t_elem (by omega) ?_)
                have ho4 := ho3.push (ha.at (i := x) (by omega))
                by_cases qe : (x + 1 + 1 == a.size) = true
                · rw [if_pos qe]
                  exact DW_pure ⟨ev4, _, _, _, _, _, _, _, rfl, (ho4.app hb.ext).app ha.ext⟩
                rw [if_neg qe]
                have qe : x + 1 + 1 ≠ a.size := fun z => qe (by simp [z])
                split
                · exact DW_pure ⟨ev4, _, _, _, _, _, _, _, rfl, ho4, by omega, by omega, by omega⟩
                · exact DW_pure ⟨ev4, _, _, _, _, _, _, rfl, ho4, by omega, by omega, by omega⟩
              · rw [if_neg qk2]
                refine DW_bind (t_elem (by omega) ?_)
                have ho4 := ho2.push (ha.at (i := x) (by omega))
                by_cases qe : (x + 1 + 1 == a.size) = true
                · rw [if_pos qe]
                  exact DW_pure ⟨ev4, _, _, _, _, _, _, _, rfl, (ho4.app hb.ext).app ha.ext⟩
                rw [if_neg qe]
                have qe : x + 1 + 1 ≠ a.size := fun z => qe (by simp [z])
                split
                · exact DW_pure ⟨ev4, _, _, _, _, _, _, _, rfl, ho4, by omega, by omega, by omega⟩
                · exact DW_pure ⟨ev4, _, _, _, _, _, _, rfl, ho4, by omega, by omega, by omega⟩
          · rw [if_neg qm]
            refine DW_bind (t_setMin ev fun st4 ev4 => ?_)
            refine DW_bind (t_elem hy ?_)
            refine DW_bind (t_gallop C (ev4.k.trans hk) (hb.at hy) ha (by omega) (by omega) fun k hk1 => ?_)
            dsimp only
            by_cases qk : k > 0
            · rw [if_pos qk]
              have ho1 := ho.app (ha.ext (i := x) (j := x + k))
              by_cases qa : (x + k + 1 == a.size) = true
              · rw [if_pos qa]
                exact DW_pure ⟨ev4, _, _, _, _, _, _, _, rfl, (ho1.app hb.ext).app ha.ext⟩
              rw [if_neg qa]
              have qa : x + k + 1 ≠ a.size := fun z => qa (by simp [z])
              by_cases qb : (x + k == a.size) = true
              · rw [if_pos qb]
                exact DW_pure ⟨ev4, _, _, _, _, _, _, _, rfl, (ho1.app ha.ext).app hb.ext⟩
              rw [if_neg qb]
              have qb : x + k ≠ a.size := fun z => qb (by simp [z])
              refine DW_bind (t_elem hy ?_)
              have ho2 := ho1.push (hb.at hy)
              by_cases qc : (y + 1 == b.size) = true
              · rw [if_pos qc]
                exact DW_pure ⟨ev4, _, _, _, _, _, _, _, rfl, (ho2.app ha.ext).app hb.ext⟩
              rw [if_neg qc]
              have qc : y + 1 ≠ b.size := fun z => qc (by simp [z])
              refine DW_bind (t_elem (by omega) ?_)
              refine DW_bind (t_gallop C (ev4.k.trans hk) (ha.at (i := x + k) (by omega)) hb (by omega) (by omega) fun k2 hk2 => ?_)
              dsimp only
              by_cases qk2 : k2 > 0
              · rw [if_pos qk2]
                have ho3 := ho2.app (hb.ext (i := y + 1) (j := y + 1 + k2))
                by_cases qd : (y + 1 + k2 == b.size) = true
                · rw [if_pos qd]
                  exact DW_pure ⟨ev4, _, _, _, _, _, _, _, rfl, (ho3.app ha.ext).app hb.ext⟩
                rw [if_neg qd]
                have qd : y + 1 + k2 ≠ b.size := fun z => qd (by simp [z])
                refine DW_bind (t_elem (by omega) ?_)
                have ho4 := ho3.push (ha.at (i := x + k) (by omega))
                by_cases qe : (x + k + 1 + 1 == a.size) = true
                · rw [if_pos qe]
                  exact DW_pure ⟨ev4, _, _, _, _, _, _, _, rfl, (ho4.app hb.ext).app ha.ext⟩
                rw [if_neg qe]
                have qe : x + k + 1 + 1 ≠ a.size := fun z => qe (by simp [z])
                split
                · exact DW_pure ⟨ev4, _, _, _, _, _, _, _, rfl, ho4, by omega, by omega, by omega⟩
                · exact DW_pure ⟨ev4, _, _, _, _, _, _, rfl, ho4, by omega, by omega, by omega⟩
              · rw [if_neg qk2]
                refine DW_bind (t_elem (by omega) ?_)
                have ho4 := ho2.push (ha.at (i := x + k) (by omega))
                by_cases qe : (x + k + 1 + 1 == a.size) = true
                · rw [if_pos qe]
                  exact DW_pure ⟨ev4, _, _, _, _, _, _, _, rfl, (ho4.app hb.ext).app ha.ext⟩
                rw [if_neg qe]
                have qe : x + k + 1 + 1 ≠ a.size := fun z => qe (by simp [z])
                split
                · exact DW_pure ⟨ev4, _, _, _, _, _, _, _, rfl, ho4, by omega, by omega, by omega⟩
                · exact DW_pure ⟨ev4, _, _, _, _, _, _, rfl, ho4, by omega, by omega, by omega⟩
            · rw [if_neg qk]
              refine DW_bind (t_elem hy ?_)
              have ho2 := ho.push (hb.at hy)
              by_cases qc : (y + 1 == b.size) = true
              · rw [if_pos qc]
                exact DW_pure ⟨ev4, _, _, _, _, _, _, _, rfl, (ho2.app ha.ext).app hb.ext⟩
              rw [if_neg qc]
              have qc : y + 1 ≠ b.size := fun z => qc (by simp [z])
              refine DW_bind (t_elem (by omega) ?_)
              refine DW_bind (t_gallop C (ev4.k.trans hk) (ha.at (i := x) (by omega)) hb (by omega) (by omega) fun k2 hk2 => ?_)
              dsimp only
              by_cases qk2 : k2 > 0
              · rw [if_pos qk2]
                have ho3 := ho2.app (hb.ext (i := y + 1) (j := y + 1 + k2))
                by_cases qd : (y + 1 + k2 == b.size) = true
                · rw [if_pos qd]
                  exact DW_pure ⟨ev4, _, _, _, _, _, _, _, rfl, (ho3.app ha.ext).app hb.ext⟩
                rw [if_neg qd]
                have qd : y + 1 + k2 ≠ b.size := fun z => qd (by simp [z])
                refine DW_bind (t_elem (by omega) ?_)
                have ho4 := ho3.push (ha.at (i := x) (by omega))
                by_cases qe : (x + 1 + 1 == a.size) = true
                · rw [if_pos qe]
                  exact DW_pure ⟨ev4, _, _, _, _, _, _, _, rfl, (ho4.app hb.ext).app ha.ext⟩
                rw [if_neg qe]
                have qe : x + 1 + 1 ≠ a.size := fun z => qe (by simp [z])
                split
                · exact DW_pure ⟨ev4, _, _, _, _, _, _, _, rfl, ho4, by omega, by omega, by omega⟩
                · exact DW_pure ⟨ev4, _, _, _, _, _, _, rfl, ho4, by omega, by omega, by omega⟩
              · rw [if_neg qk2]
                refine DW_bind (t_elem (by omega) ?_)
                have ho4 := ho2.push (ha.at (i := x) (by omega))
                by_cases qe : (x + 1 + 1 == a.size) = true
                · rw [if_pos qe]
                  exact DW_pure ⟨ev4, _, _, _, _, _, _, _, rfl, (ho4.app hb.ext).app ha.ext⟩
                rw [if_neg qe]
                have qe : x + 1 + 1 ≠ a.size := fun z => qe (by simp [z])
                split
                · exact DW_pure ⟨ev4, _, _, _, _, _, _, _, rfl, ho4, by omega, by omega, by omega⟩
                · exact DW_pure ⟨ev4, _, _, _, _, _, _, rfl, ho4, by omega, by omega, by omega⟩
        · rintro c st3 ⟨ev, o, x, y, mg, ca, cb, rfl, ho, hx, hy, hm⟩
          exact ⟨ev, _, _, _, _, _, _, _, rfl, ho, hx, hy, hm⟩
        · rintro c st3 ⟨ev, r, o, x, y, mg, ca, cb, rfl, hp⟩
          dsimp only
          cases r with
          | some r => exact DW_pure ⟨ev, _, _, _, _, _, rfl, hp⟩
          | none =>
            obtain ⟨ho, hx, hy, hm⟩ := hp
            refine DW_bind (t_setMin ev fun st4 ev4 => ?_)
            exact DW_pure ⟨ev4, _, _, _, _, rfl, ho, hx, hy, hm⟩
  · rintro c st1 ⟨ev, o, x, y, mg, rfl, ho, hx, hy, hm⟩
    omega
  · rintro c st1 ⟨ev, r, o, x, y, mg, rfl, hr⟩
    exact DW_pure (h r st1 hr ev)
def HiP (it : List Keyed) (a b : Array Keyed) (m : Nat) (r : Option (Array Keyed)) (o : Array Keyed) (x y : Nat) : Prop :=
  match r with
  | some o => In it o
  | none => In it o ∧ 1 ≤ x ∧ x < a.size ∧ 2 ≤ y ∧ y ≤ b.size ∧ m + x + y ≤ a.size + b.size
theorem t_mergeHi (C : CmpD prog w S it κ lt) {st : SortSt} (hk : kindOf st = κ) {a b : Array Keyed} (ha : In it a) (hb : In it b) (za : 1 ≤ a.size) (zb : 1 ≤ b.size)
    {Q : Array Keyed → SortSt → Prop} (h : ∀ o st', In it o → Eqv st st' → Q o st') : DW prog w S (mergeHi' a b) Q st := by
  refine DW_bind (DW_rule ?_)
  refine DW_bind (t_elem (by omega) ?_)
  have b0 := In.one (ha.at (i := a.size - 1) (by omega))
  dsimp only
  by_cases q1 : (a.size - 1 == 0) = true
  · rw [if_pos q1]
    exact DW_pure (h _ _ ((ha.ext.app hb.ext).app b0.rev) (Eqv.refl st))
  rw [if_neg q1]
  by_cases q2 : (b.size == 1) = true
  · rw [if_pos q2]
    exact DW_pure (h _ _ ((hb.ext.app ha.ext).app b0.rev) (Eqv.refl st))
  rw [if_neg q2]
  have q1 : a.size - 1 ≠ 0 := fun z => q1 (by simp [z])
  have q2 : b.size ≠ 1 := fun z => q2 (by simp [z])
  refine DW_bind (DW_get ?_)
  refine DW_bind (DW_mono (DW_forRange (I := fun i c st' => Eqv st st' ∧ ∃ x y o mg, c = (none, x, y, o, mg) ∧ In it o ∧ 1 ≤ x ∧ x < a.size ∧ 2 ≤ y ∧ y ≤ b.size ∧ i + x + y ≤ a.size + b.size) (Q := fun c st' => Eqv st st' ∧ ∃ r x y o mg, c = (some r, x, y, o, mg) ∧ In it r) ?_ ?_ ⟨Eqv.refl st, _, _, _, _, rfl, b0, by omega, by omega, by omega, by omega, by omega⟩) ?_)
  · rintro i c st1 _ hi ⟨ev, x, y, o, mg, rfl, ho, hx, hx2, hy, hy2, hm⟩
    dsimp only
    refine DW_bind (DW_mono (DW_forRange (I := fun j c st' => Eqv st st' ∧ ∃ x y o ca cb, c = (none, x, y, o, ca, cb) ∧ In it o ∧ 1 ≤ x ∧ x < a.size ∧ 2 ≤ y ∧ y ≤ b.size ∧ i + j + x + y ≤ a.size + b.size) (Q := fun c st' => Eqv st st' ∧ ∃ r x y o ca cb, c = (r, x, y, o, ca, cb) ∧ HiP it a b (i + 1) r o x y) ?_ ?_ ⟨ev, _, _, _, _, _, rfl, ho, hx, hx2, hy, hy2, hm⟩) ?_)
    · rintro j c st2 _ hj ⟨ev, x, y, o, ca, cb, rfl, ho, hx, hx2, hy, hy2, hm⟩
      dsimp only
      have hx0 := ha.at (i := x - 1) (by omega)
      have hy0 := hb.at (i := y - 1) (by omega)
      refine DW_bind (t_elem (by omega) (DW_bind (t_elem (by omega) (DW_bind (t_lt C (ev.k.trans hk) hy0 hx0 fun bw => ?_)))))
      cases bw with
      | true =>
        simp only [if_true]
        refine DW_bind (t_elem (by omega) ?_)
        have ho' := ho.push hx0
        by_cases q3 : (x - 1 == 0) = true
        · rw [if_pos q3]
          exact DW_pure ⟨ev, _, _, _, _, _, _, rfl, (ha.ext.app hb.ext).app ho'.rev⟩
        · rw [if_neg q3]
          have q3 : x - 1 ≠ 0 := fun z => q3 (by simp [z])
          by_cases q4 : ca + 1 ≥ mg
          · rw [if_pos q4]
            exact DW_pure ⟨ev, _, _, _, _, _, _, rfl, ho', by omega, by omega, by omega, by omega, by omega⟩
          · rw [if_neg q4]
            exact DW_pure ⟨ev, _, _, _, _, _, rfl, ho', by omega, by omega, by omega, by omega, by omega⟩
      | false =>
        simp only [Bool.false_eq_true, if_false]
        refine DW_bind (t_elem (by omega) ?_)
        have ho' := ho.push hy0
        by_cases q3 : (y - 1 == 1) = true
        · rw [if_pos q3]
          exact DW_pure ⟨ev, _, _, _, _, _, _, rfl, (hb.ext.app ha.ext).app ho'.rev⟩
        · rw [if_neg q3]
          have q3 : y - 1 ≠ 1 := fun z => q3 (by simp [z])
          by_cases q4 : cb + 1 ≥ mg
          · rw [if_pos q4]
            exact DW_pure ⟨ev, _, _, _, _, _, _, rfl, ho', by omega, by omega, by omega, by omega, by omega⟩
          · rw [if_neg q4]
            exact DW_pure ⟨ev, _, _, _, _, _, rfl, ho', by omega, by omega, by omega, by omega, by omega⟩
    · rintro c st2 ⟨ev, x, y, o, ca, cb, rfl, ho, hx, hx2, hy, hy2, hm⟩
      exact ⟨ev, _, _, _, _, _, _, rfl, ho, hx, hx2, hy, hy2, by omega⟩
    · rintro c st2 ⟨ev, r, x, y, o, ca, cb, rfl, hp⟩
      dsimp only
      cases r with
      | some r => exact DW_pure ⟨ev, _, _, _, _, _, rfl, hp⟩
      | none =>
        obtain ⟨ho, hx, hx2, hy, hy2, hm⟩ := hp
        refine DW_bind (DW_rule ?_)
        refine DW_bind (DW_mono (DW_forRange (I := fun _ c st' => Eqv st st' ∧ ∃ x y o mg ca cb, c = (none, x, y, o, mg, ca, cb) ∧ In it o ∧ 1 ≤ x ∧ x < a.size ∧ 2 ≤ y ∧ y ≤ b.size ∧ i + 1 + x + y ≤ a.size + b.size) (Q := fun c st' => Eqv st st' ∧ ∃ r x y o mg ca cb, c = (r, x, y, o, mg, ca, cb) ∧ HiP it a b (i + 1) r o x y) ?_ ?_ ⟨ev, _, _, _, _, _, _, rfl, ho, hx, hx2, hy, hy2, hm⟩) ?_)
        · rintro j c st3 _ hj ⟨ev, x, y, o, mg, ca, cb, rfl, ho, hx, hx2, hy, hy2, hm⟩
          dsimp only
          by_cases qm : mg > 1
          · rw [if_pos qm]
            refine DW_bind (t_setMin ev fun st4 ev4 => ?_)
            refine DW_bind (t_elem (by omega) ?_)
            refine DW_bind (t_gallop C (ev4.k.trans hk) (hb.at (i := y - 1) (by omega)) ha (by omega) (by omega) fun k hk1 => ?_)
            dsimp only
            by_cases qk : x - k > 0
            · rw [if_pos qk]
              have ho1 := ho.app (ha.ext (i := k) (j := x)).rev
              by_cases qa : (k == 0) = true
              · rw [if_pos qa]
                exact DW_pure ⟨ev4, _, _, _, _, _, _, _, rfl, (ha.ext.app hb.ext).app ho1.rev⟩
              rw [if_neg qa]
              have qa : k ≠ 0 := fun z => qa (by simp [z])
              refine DW_bind (t_elem (by omega) ?_)
              have ho2 := ho1.push (hb.at (i := y - 1) (by omega))
              by_cases qc : (y - 1 == 1) = true
              · rw [if_pos qc]
                exact DW_pure ⟨ev4, _, _, _, _, _, _, _, rfl, (hb.ext.app ha.ext).app ho2.rev⟩
              rw [if_neg qc]
              have qc : y - 1 ≠ 1 := fun z => qc (by simp [z])
              refine DW_bind (t_elem (by omega) ?_)
              refine DW_bind (t_gallop C (ev4.k.trans hk) (ha.at (i := k - 1) (by omega)) hb (by omega) (by omega) fun k2 hk2 => ?_)
              dsimp only
              by_cases qk2 : y - 1 - k2 > 0
              · rw [if_pos qk2]
                have ho3 := ho2.app (hb.ext (i := k2) (j := y - 1)).rev
                by_cases qd : (k2 == 1) = true
                · rw [if_pos qd]
                  exact DW_pure ⟨ev4, _, _, _, _, _, _, _, rfl, (hb.ext.app ha.ext).app ho3.rev⟩
                rw [if_neg qd]
                have qd : k2 ≠ 1 := fun z => qd (by simp [z])
                by_cases qd2 : (k2 == 0) = true
                · rw [if_pos qd2]
                  exact DW_pure ⟨ev4, _, _, _, _, _, _, _, rfl, (ha.ext.app hb.ext).app ho3.rev⟩
                rw [if_neg qd2]
                have qd2 : k2 ≠ 0 := fun z => qd2 (by simp [z])
                refine DW_bind (t_elem (by omega) ?_)
                have ho4 := ho3.push (ha.at (i := k - 1) (by omega))
                by_cases qe : (k - 1 == 0) = true
                · rw [if_pos qe]
                  exact DW_pure ⟨ev4, _, _, _, _, _, _, _, rfl, (ha.ext.app hb.ext).app ho4.rev⟩
                rw [if_neg qe]
                have qe : k - 1 ≠ 0 := fun z => qe (by simp [z])
                split
                · exact DW_pure ⟨ev4, _, _, _, _, _, _, _, rfl, ho4, by omega, by omega, by omega, by omega, by omega⟩
                · exact DW_pure ⟨ev4, _, _, _, _, _, _, rfl, ho4, by omega, by omega, by omega, by omega, by omega⟩
              · rw [if_neg qk2]
                refine DW_bind (t_elem (by omega) ?_)
                have ho4 := ho2.push (ha.at (i := k - 1) (by omega))
                by_cases qe : (k - 1 == 0) = true
                · rw [if_pos qe]
                  exact DW_pure ⟨ev4, _, _, _, _, _, _, _, rfl, (ha.ext.app hb.ext).app ho4.rev⟩
                rw [if_neg qe]
                have qe : k - 1 ≠ 0 := fun z => qe (by simp [z])
                split
                · exact DW_pure ⟨ev4, _, _, _, _, _, _, _, rfl, ho4, by omega, by omega, by omega, by omega, by omega⟩
                · exact DW_pure ⟨ev4, _, _, _, _, _, _, rfl, ho4, by omega, by omega, by omega, by omega, by omega⟩
            · rw [if_neg qk]
              refine DW_bind (t_elem (by omega) ?_)
              have ho2 := ho.push (hb.at (i := y - 1) (by omega))
              by_cases qc : (y - 1 == 1) = true
              · rw [if_pos qc]
                exact DW_pure ⟨ev4, _, _, _, _, _, _, _, rfl, (hb.ext.app ha.ext).app ho2.rev⟩
              rw [if_neg qc]
              have qc : y - 1 ≠ 1 := fun z => qc (by simp [z])
              refine DW_bind (t_elem (by omega) ?_)
              refine DW_bind (t_gallop C (ev4.k.trans hk) (ha.at (i := x - 1) (by omega)) hb (by omega) (by omega) fun k2 hk2 => ?_)
              dsimp only
              by_cases qk2 : y - 1 - k2 > 0
              · rw [if_pos qk2]
                have ho3 := ho2.app (hb.ext (i := k2) (j := y - 1)).rev
                by_cases qd : (k2 == 1) = true
                · rw [if_pos qd]
                  exact DW_pure ⟨ev4, _, _, _, _, _, _, _, rfl, (hb.ext.app ha.ext).app ho3.rev⟩
                rw [if_neg qd]
                have qd : k2 ≠ 1 := fun z => qd (by simp [z])
                by_cases qd2 : (k2 == 0) = true
                · rw [if_pos qd2]
                  exact DW_pure ⟨ev4, _, _, _, _, _, _, _, rfl, (ha.ext.app hb.ext).app ho3.rev⟩
                rw [if_neg qd2]
                have qd2 : k2 ≠ 0 := fun z => qd2 (by simp [z])
                refine DW_bind (t_elem (by omega) ?_)
                have ho4 := ho3.push (ha.at (i := x - 1) (by omega))
                by_cases qe : (x - 1 == 0) = true
                · rw [if_pos qe]
                  exact DW_pure ⟨ev4, _, _, _, _, _, _, _, rfl, (ha.ext.app hb.ext).app ho4.rev⟩
                rw [if_neg qe]
                have qe : x - 1 ≠ 0 := fun z => qe (by simp [z])
                split
                · exact DW_pure ⟨ev4, _, _, _, _, _, _, _, rfl, ho4, by omega, by omega, by omega, by omega, by omega⟩
                · exact DW_pure ⟨ev4, _, _, _, _, _, _, rfl, ho4, by omega, by omega, by omega, by omega, by omega⟩
              · rw [if_neg qk2]
                refine DW_bind (t_elem (by omega) ?_)
                have ho4 := ho2.push (ha.at (i := x - 1) (by omega))
                by_cases qe : (x - 1 == 0) = true
                · rw [if_pos qe]
                  exact DW_pure ⟨ev4, _, _, _, _, _, _, _, rfl, (ha.ext.app hb.ext).app ho4.rev⟩
                rw [if_neg qe]
                have qe : x - 1 ≠ 0 := fun z => qe (by simp [z])
                split
                · exact DW_pure ⟨ev4, _, _, _, _, _, _, _, rfl, ho4, by omega, by omega, by omega, by omega, by omega⟩
                · exact DW_pure ⟨ev4, _, _, _, _, _, _, rfl, ho4, by omega, by omega, by omega, by omega, by omega⟩
          · rw [if_neg qm]
            refine DW_bind (t_setMin ev fun st4 ev4 => ?_)
            refine DW_bind (t_elem (by omega) ?_)
            refine DW_bind (t_gallop C (ev4.k.trans hk) (hb.at (i := y - 1) (by omega)) ha (by omega) (by omega) fun k hk1 => ?_)
            dsimp only
            by_cases qk : x - k > 0
            · rw [if_pos qk]
              have ho1 := ho.app (ha.ext (i := k) (j := x)).rev
              by_cases qa : (k == 0) = true
              · rw [if_pos qa]
                exact DW_pure ⟨ev4, _, _, _, _, _, _, _, rfl, (ha.ext.app hb.ext).app ho1.rev⟩
              rw [if_neg qa]
              have qa : k ≠ 0 := fun z => qa (by simp [z])
              refine DW_bind (t_elem (by omega) ?_)
              have ho2 := ho1.push (hb.at (i := y - 1) (by omega))
              by_cases qc : (y - 1 == 1) = true
              · rw [if_pos qc]
                exact DW_pure ⟨ev4, _, _, _, _, _, _, _, rfl, (hb.ext.app ha.ext).app ho2.rev⟩
              rw [if_neg qc]
              have qc : y - 1 ≠ 1 := fun z => qc (by simp [z])
              refine DW_bind (t_elem (by omega) ?_)
              refine DW_bind (t_gallop C (ev4.k.trans hk) (ha.at (i := k - 1) (by omega)) hb (by omega) (by omega) fun k2 hk2 => ?_)
              dsimp only
              by_cases qk2 : y - 1 - k2 > 0
              · rw [if_pos qk2]
                have ho3 := ho2.app (hb.ext (i := k2) (j := y - 1)).rev
                by_cases qd : (k2 == 1) = true
                · rw [if_pos qd]
                  exact DW_pure ⟨ev4, _, _, _, _, _, _, _, rfl, (hb.ext.app ha.ext).app ho3.rev⟩
                rw [if_neg qd]
                have qd : k2 ≠ 1 := fun z => qd (by simp [z])
                by_cases qd2 : (k2 == 0) = true
                · rw [if_pos qd2]
                  exact DW_pure ⟨ev4, _, _, _, _, _, _, _, rfl, (ha.ext.app hb.ext).app ho3.rev⟩
                rw [if_neg qd2]
                have qd2 : k2 ≠ 0 := fun z => qd2 (by simp [z])
                refine DW_bind (t_elem (by omega) ?_)
                have ho4 := ho3.push (ha.at (i := k - 1) (by omega))
                by_cases qe : (k - 1 == 0) = true
                · rw [if_pos qe]
                  exact DW_pure ⟨ev4, _, _, _, _, _, _, _, rfl, (ha.ext.app hb.ext).app ho4.rev⟩
                rw [if_neg qe]
                have qe : k - 1 ≠ 0 := fun z => qe (by simp [z])
                split
                · exact DW_pure ⟨ev4, _, _, _, _, _, _, _, rfl, ho4, by omega, by omega, by omega, by omega, by omega⟩
                · exact DW_pure ⟨ev4, _, _, _, _, _, _, rfl, ho4, by omega, by omega, by omega, by omega, by omega⟩
              · rw [if_neg qk2]
                refine DW_bind (t_elem (by omega) ?_)
                have ho4 := ho2.push (ha.at (i := k - 1) (by omega))
                by_cases qe : (k - 1 == 0) = true
                · rw [if_pos qe]
                  exact DW_pure ⟨ev4, _, _, _, _, _, _, _, rfl, (ha.ext.app hb.ext).app ho4.rev⟩
                rw [if_neg qe]
                have qe : k - 1 ≠ 0 := fun z => qe (by simp [z])
                split
                · exact DW_pure ⟨ev4, _, _, _, _, _, _, _, rfl, ho4, by omega, by omega, by omega, by omega, by omega⟩
                · exact DW_pure ⟨ev4, _, _, _, _, _, _, rfl, ho4, by omega, by omega, by omega, by omega, by omega⟩
            · rw [if_neg qk]
              refine DW_bind (t_elem (by omega) ?_)
              have ho2 := ho.push (hb.at (i := y - 1) (by omega))
              by_cases qc : (y - 1 == 1) = true
              · rw [if_pos qc]
                exact DW_pure ⟨ev4, _, _, _, _, _, _, _, rfl, (hb.ext.app ha.ext).app ho2.rev⟩
              rw [if_neg qc]
              have qc : y - 1 ≠ 1 := fun z => qc (by simp [z])
              refine DW_bind (t_elem (by omega) ?_)
              refine DW_bind (t_gallop C (ev4.k.trans hk) (ha.at (i := x - 1) (by omega)) hb (by omega) (by omega) fun k2 hk2 => ?_)
              dsimp only
              by_cases qk2 : y - 1 - k2 > 0
              · rw [if_pos qk2]
                have ho3 := ho2.app (hb.ext (i := k2) (j := y - 1)).rev
                by_cases qd : (k2 == 1) = true
                · rw [if_pos qd]
                  exact DW_pure ⟨ev4, _, _, _, _, _, _, _, rfl, (hb.ext.app ha.ext).app ho3.rev⟩
                rw [if_neg qd]
                have qd : k2 ≠ 1 := fun z => qd (by simp [z])
                by_cases qd2 : (k2 == 0) = true
                · rw [if_pos qd2]
                  exact DW_pure ⟨ev4, _, _, _, _, _, _, _, rfl, (ha.ext.app hb.ext).app ho3.rev⟩
                rw [if_neg qd2]
                have qd2 : k2 ≠ 0 := fun z => qd2 (by simp [z])
                refine DW_bind (t_elem (by omega) ?_)
                have ho4 := ho3.push (ha.at (i := x - 1) (by omega))
                by_cases qe : (x - 1 == 0) = true
                · rw [if_pos qe]
                  exact DW_pure ⟨ev4, _, _, _, _, _, _, _, rfl, (ha.ext.app hb.ext).app ho4.rev⟩
                rw [if_neg qe]
                have qe : x - 1 ≠ 0 := fun z => qe (by simp [z])
                split
                · exact DW_pure ⟨ev4, _, _, _, _, _, _, _, rfl, ho4, by omega, by omega, by omega, by omega, by omega⟩
                · exact DW_pure ⟨ev4, _, _, _, _, _, _, rfl, ho4, by omega, by omega, by omega, by omega, by omega⟩
              · rw [if_neg qk2]
                refine DW_bind (t_elem (by omega) ?_)
                have ho4 := ho2.push (ha.at (i := x - 1) (by omega))
                by_cases qe : (x - 1 == 0) = true
                · rw [if_pos qe]
                  exact DW_pure ⟨ev4, _, _, _, _, _, _, _, rfl, (ha.ext.app hb.ext).app ho4.rev⟩
                rw [if_neg qe]
                have qe : x - 1 ≠ 0 := fun z => qe (by simp [z])
                split
                · exact DW_pure ⟨ev4, _, _, _, _, _, _, _, rfl, ho4, by omega, by omega, by omega, by omega, by omega⟩
                · exact DW_pure ⟨ev4, _, _, _, _, _, _, rfl, ho4, by omega, by omega, by omega, by omega, by omega⟩
        · rintro c st3 ⟨ev, x, y, o, mg, ca, cb, rfl, ho, hx, hx2, hy, hy2, hm⟩
          exact ⟨ev, _, _, _, _, _, _, _, rfl, ho, hx, hx2, hy, hy2, hm⟩
        · rintro c st3 ⟨ev, r, x, y, o, mg, ca, cb, rfl, hp⟩
          dsimp only
          cases r with
          | some r => exact DW_pure ⟨ev, _, _, _, _, _, rfl, hp⟩
          | none =>
            obtain ⟨ho, hx, hx2, hy, hy2, hm⟩ := hp
            refine DW_bind (t_setMin ev fun st4 ev4 => ?_)
            exact DW_pure ⟨ev4, _, _, _, _, rfl, ho, hx, hx2, hy, hy2, hm⟩
  · rintro c st1 ⟨ev, x, y, o, mg, rfl, ho, hx, hx2, hy, hy2, hm⟩
    omega
  · rintro c st1 ⟨ev, r, x, y, o, mg, rfl, hr⟩
    exact DW_pure (h r st1 hr ev)
end
end Srt
end L2

/-! SortDet2 -/
set_option Elab.async false
set_option linter.all false
set_option maxRecDepth 100000
set_option maxHeartbeats 4000000
namespace L2
namespace Srt
open PySem PyProof.Rows
section
variable {prog : Program} {w : World} {S : Sites} {it : List Keyed} {κ : SortKind} {n : Nat} {lt : Value → Value → Bool}
structure TB (it : List Keyed) (κ : SortKind) (n : Nat) (st : SortSt) : Prop where
  z : (arrOf st).size = n
  i : In it (arrOf st)
  k : kindOf st = κ
  f : failedOf st = none
theorem TB.perm {st : SortSt} (t : TB it κ n st) {xs : Array Keyed} (p : xs.Perm (arrOf st)) : TB it κ n (setArr st xs) :=
  ⟨p.size_eq.trans t.z, fun x hx => t.i x (Array.mem_def.mpr ((Array.perm_iff_toList_perm.mp p).mem_iff.mp (Array.mem_def.mp hx))), t.k, t.f⟩
theorem t_ltAt (C : CmpD prog w S it κ lt) {st : SortSt} (t : TB it κ n st) {i j : Nat} (hi : i < n) (hj : j < n) {Q : Option Bool → SortSt → Prop} (h : ∀ b, Q (some b) st) : DW prog w S (ltAt' i j) Q st := by
  rw [ltAt'_eq]
  refine DW_bind (DW_get ?_)
  have hi : i < (arrOf st).size := by rw [t.z]; exact hi
  have hj : j < (arrOf st).size := by rw [t.z]; exact hj
  exact DW_bind (t_elem hi (DW_bind (t_elem hj (t_lt C t.k (t.i.at hi) (t.i.at hj) h))))
def Ord (it : List Keyed) (κ : SortKind) (n : Nat) (p : Array (Nat × Nat × Nat)) (st : SortSt) : Prop := TB it κ n st ∧ pendingOf st = p
theorem t_rev {p : Array (Nat × Nat × Nat)} {st : SortSt} (o : Ord it κ n p st) {i j : Nat} {Q : Unit → SortSt → Prop} (h : ∀ st', Ord it κ n p st' → Q () st') : DW prog w S (reverseSlice' i j) Q st := by
  rw [reverseSlice'_eq]
  exact DW_modify (h _ ⟨o.1.perm (mirror_perm _ _ _ _), o.2⟩)
theorem t_move {p : Array (Nat × Nat × Nat)} {st : SortSt} (o : Ord it κ n p st) {i j : Nat} {Q : Unit → SortSt → Prop} (h : ∀ st', Ord it κ n p st' → Q () st') : DW prog w S (moveDown' i j) Q st := by
  rw [moveDown'_eq]
  exact DW_modify (h _ ⟨o.1.perm (bubble_perm _ _ _), o.2⟩)
theorem t_bin (C : CmpD prog w S it κ lt) {p : Array (Nat × Nat × Nat)} {st : SortSt} (o : Ord it κ n p st) {lo m ok : Nat} (hm : lo + m ≤ n) {Q : Bool → SortSt → Prop} (h : ∀ st', Ord it κ n p st' → Q true st') : DW prog w S (binarySort' lo m ok) Q st := by
  rw [binarySort'_eq]
  refine DW_bind (DW_mono (DW_forRange (I := fun k c st' => c = (none, ()) ∧ Ord it κ n p st') (Q := fun c st' => c = (none, ()) ∧ Ord it κ n p st') ?_ ?_ ⟨rfl, o⟩) ?_)
  · rintro k c st1 hk1 hk ⟨rfl, o1⟩
    dsimp only
    refine DW_bind (DW_mono (DW_forRange (I := fun _ c st' => st' = st1 ∧ ∃ l r, c = (none, l, r) ∧ r ≤ k) (Q := fun c st' => st' = st1 ∧ ∃ l r, c = (none, l, r) ∧ r ≤ k) ?_ ?_ ⟨rfl, _, _, rfl, Nat.le_refl _⟩) ?_)
    · rintro j c st2 _ hj ⟨rfl, l, r, rfl, hr⟩
      dsimp only
      by_cases q : l ≥ r
      · rw [if_pos q]
        exact DW_pure ⟨rfl, _, _, rfl, hr⟩
      · rw [if_neg q]
        refine DW_bind (t_ltAt C o1.1 (by omega) (by omega) fun b => ?_)
        cases b with
        | true => exact DW_pure ⟨rfl, _, _, rfl, by omega⟩
        | false => exact DW_pure ⟨rfl, _, _, rfl, hr⟩
    · exact fun c st' h => h
    · rintro c st2 ⟨rfl, l, r, rfl, hr⟩
      dsimp only
      exact DW_bind (t_move o1 fun st3 o3 => DW_pure ⟨rfl, o3⟩)
  · exact fun c st' h => h
  · rintro c st1 ⟨rfl, o1⟩
    exact DW_pure (h st1 o1)
theorem t_count (C : CmpD prog w S it κ lt) {p : Array (Nat × Nat × Nat)} {st : SortSt} (o : Ord it κ n p st) {lo m : Nat} (h1 : 1 ≤ m) (hm : lo + m ≤ n) {Q : Option Nat → SortSt → Prop} (h : ∀ k st', 1 ≤ k → k ≤ m → Ord it κ n p st' → Q (some k) st') : DW prog w S (countRun' lo m) Q st := by
  rw [countRun'_eq]
  refine DW_bind (DW_mono (DW_forRange (I := fun i c st' => Ord it κ n p st' ∧ c = (none, i)) (Q := fun c st' => Ord it κ n p st' ∧ ∃ k, c = (none, k) ∧ 1 ≤ k ∧ k ≤ m) ?_ ?_ ⟨o, rfl⟩) ?_)
  · rintro i c st1 hi1 hi ⟨o1, rfl⟩
    dsimp only
    refine DW_bind (t_ltAt C o1.1 (by omega) (by omega) fun b => ?_)
    cases b with
    | true => exact DW_pure ⟨o1, _, rfl, hi1, by omega⟩
    | false => exact DW_pure ⟨o1, rfl⟩
  · rintro c st1 ⟨o1, rfl⟩
    exact ⟨o1, _, rfl, by omega, by omega⟩
  · rintro c st1 ⟨o1, k, rfl, k1, k2⟩
    dsimp only
    by_cases q : (k == m) = true
    · rw [if_pos q]
      exact DW_pure (h k st1 k1 k2 o1)
    rw [if_neg q]
    have q : k ≠ m := fun z => q (by simp [z])
    by_cases qk : k > 1
    · rw [if_pos qk]
      refine DW_bind (t_ltAt C o1.1 (by omega) (by omega) fun b => ?_)
      cases b with
      | true => exact DW_pure (h k st1 k1 k2 o1)
      | false =>
        simp only [Bool.false_eq_true, if_false]
        refine DW_bind (t_rev o1 fun st2 o2 => ?_)
        refine DW_bind (DW_rule ?_)
        refine DW_bind (DW_mono (DW_forRange (I := fun i c st' => Ord it κ n p st' ∧ ∃ g, c = (none, i, g)) (Q := fun c st' => Ord it κ n p st' ∧ ∃ j g, c = (none, j, g) ∧ k + 1 ≤ j ∧ j ≤ m) ?_ ?_ ⟨o2, _, rfl⟩) ?_)
        · rintro i c st3 hi1 hi ⟨o3, g, rfl⟩
          dsimp only
          refine DW_bind (t_ltAt C o3.1 (by omega) (by omega) fun b => ?_)
          cases b with
          | true =>
            simp only [if_true]
            by_cases qg : g > 0
            · rw [if_pos qg]
              exact DW_bind (t_rev o3 fun st4 o4 => DW_pure ⟨o4, _, rfl⟩)
            · rw [if_neg qg]
              exact DW_pure ⟨o3, _, rfl⟩
          | false =>
            simp only [Bool.false_eq_true, if_false]
            refine DW_bind (t_ltAt C o3.1 (by omega) (by omega) fun b => ?_)
            cases b with
            | true => exact DW_pure ⟨o3, _, _, rfl, by omega, by omega⟩
            | false => exact DW_pure ⟨o3, _, rfl⟩
        · rintro c st3 ⟨o3, g, rfl⟩
          exact ⟨o3, _, _, rfl, by omega, by omega⟩
        · rintro c st3 ⟨o3, j, g, rfl, j1, j2⟩
          dsimp only
          by_cases qg : g > 0
          · rw [if_pos qg]
            refine DW_bind (t_rev o3 fun st4 o4 => ?_)
            refine DW_bind (t_rev o4 fun st8 o8 => ?_)
            refine DW_bind (DW_mono (DW_forRange (I := fun i c st' => Ord it κ n p st' ∧ c = (none, i)) (Q := fun c st' => Ord it κ n p st' ∧ ∃ k, c = (none, k) ∧ 1 ≤ k ∧ k ≤ m) ?_ ?_ ⟨o8, rfl⟩) ?_)
            · rintro i c st9 hi1 hi ⟨o9, rfl⟩
              dsimp only
              refine DW_bind (t_ltAt C o9.1 (by omega) (by omega) fun b => ?_)
              cases b with
              | true => exact DW_pure ⟨o9, _, rfl, by omega, by omega⟩
              | false => exact DW_pure ⟨o9, rfl⟩
            · rintro c st9 ⟨o9, rfl⟩
              exact ⟨o9, _, rfl, by omega, by omega⟩
            · rintro c st9 ⟨o9, kk, rfl, e1, e2⟩
              exact DW_pure (h kk st9 e1 e2 o9)
          · rw [if_neg qg]
            refine DW_bind (t_rev o3 fun st8 o8 => ?_)
            refine DW_bind (DW_mono (DW_forRange (I := fun i c st' => Ord it κ n p st' ∧ c = (none, i)) (Q := fun c st' => Ord it κ n p st' ∧ ∃ k, c = (none, k) ∧ 1 ≤ k ∧ k ≤ m) ?_ ?_ ⟨o8, rfl⟩) ?_)
            · rintro i c st9 hi1 hi ⟨o9, rfl⟩
              dsimp only
              refine DW_bind (t_ltAt C o9.1 (by omega) (by omega) fun b => ?_)
              cases b with
              | true => exact DW_pure ⟨o9, _, rfl, by omega, by omega⟩
              | false => exact DW_pure ⟨o9, rfl⟩
            · rintro c st9 ⟨o9, rfl⟩
              exact ⟨o9, _, rfl, by omega, by omega⟩
            · rintro c st9 ⟨o9, kk, rfl, e1, e2⟩
              exact DW_pure (h kk st9 e1 e2 o9)
    · rw [if_neg qk]
      refine DW_bind (DW_rule ?_)
      refine DW_bind (DW_mono (DW_forRange (I := fun i c st' => Ord it κ n p st' ∧ ∃ g, c = (none, i, g)) (Q := fun c st' => Ord it κ n p st' ∧ ∃ j g, c = (none, j, g) ∧ k + 1 ≤ j ∧ j ≤ m) ?_ ?_ ⟨o1, _, rfl⟩) ?_)
      · rintro i c st3 hi1 hi ⟨o3, g, rfl⟩
        dsimp only
        refine DW_bind (t_ltAt C o3.1 (by omega) (by omega) fun b => ?_)
        cases b with
        | true =>
          simp only [if_true]
          by_cases qg : g > 0
          · rw [if_pos qg]
            exact DW_bind (t_rev o3 fun st4 o4 => DW_pure ⟨o4, _, rfl⟩)
          · rw [if_neg qg]
            exact DW_pure ⟨o3, _, rfl⟩
        | false =>
          simp only [Bool.false_eq_true, if_false]
          refine DW_bind (t_ltAt C o3.1 (by omega) (by omega) fun b => ?_)
          cases b with
          | true => exact DW_pure ⟨o3, _, _, rfl, by omega, by omega⟩
          | false => exact DW_pure ⟨o3, _, rfl⟩
      · rintro c st3 ⟨o3, g, rfl⟩
        exact ⟨o3, _, _, rfl, by omega, by omega⟩
      · rintro c st3 ⟨o3, j, g, rfl, j1, j2⟩
        dsimp only
        by_cases qg : g > 0
        · rw [if_pos qg]
          refine DW_bind (t_rev o3 fun st4 o4 => ?_)
          refine DW_bind (t_rev o4 fun st8 o8 => ?_)
          refine DW_bind (DW_mono (DW_forRange (I := fun i c st' => Ord it κ n p st' ∧ c = (none, i)) (Q := fun c st' => Ord it κ n p st' ∧ ∃ k, c = (none, k) ∧ 1 ≤ k ∧ k ≤ m) ?_ ?_ ⟨o8, rfl⟩) ?_)
          · rintro i c st9 hi1 hi ⟨o9, rfl⟩
            dsimp only
            refine DW_bind (t_ltAt C o9.1 (by omega) (by omega) fun b => ?_)
            cases b with
            | true => exact DW_pure ⟨o9, _, rfl, by omega, by omega⟩
            | false => exact DW_pure ⟨o9, rfl⟩
          · rintro c st9 ⟨o9, rfl⟩
            exact ⟨o9, _, rfl, by omega, by omega⟩
          · rintro c st9 ⟨o9, kk, rfl, e1, e2⟩
            exact DW_pure (h kk st9 e1 e2 o9)
        · rw [if_neg qg]
          refine DW_bind (t_rev o3 fun st8 o8 => ?_)
          refine DW_bind (DW_mono (DW_forRange (I := fun i c st' => Ord it κ n p st' ∧ c = (none, i)) (Q := fun c st' => Ord it κ n p st' ∧ ∃ k, c = (none, k) ∧ 1 ≤ k ∧ k ≤ m) ?_ ?_ ⟨o8, rfl⟩) ?_)
          · rintro i c st9 hi1 hi ⟨o9, rfl⟩
            dsimp only
            refine DW_bind (t_ltAt C o9.1 (by omega) (by omega) fun b => ?_)
            cases b with
            | true => exact DW_pure ⟨o9, _, rfl, by omega, by omega⟩
            | false => exact DW_pure ⟨o9, rfl⟩
          · rintro c st9 ⟨o9, rfl⟩
            exact ⟨o9, _, rfl, by omega, by omega⟩
          · rintro c st9 ⟨o9, kk, rfl, e1, e2⟩
            exact DW_pure (h kk st9 e1 e2 o9)
theorem sets_size : ∀ (l : List (Keyed × Nat)) (b : Nat) (a : Array Keyed), (l.foldl (fun a (q, j) => a.setIfInBounds (b + j) q) a).size = a.size
  | [], _, _ => rfl
  | (q, j) :: l, b, a => by rw [List.foldl_cons, sets_size l b]; simp
theorem sets_in : ∀ (l : List (Keyed × Nat)) (b : Nat) (a : Array Keyed), In it a → (∀ q ∈ l, q.1 ∈ it) → In it (l.foldl (fun a (q, j) => a.setIfInBounds (b + j) q) a)
  | [], _, _, h, _ => h
  | (q, j) :: l, b, a, h, hl => by
    rw [List.foldl_cons]
    refine sets_in l b _ (fun x hx => ?_) fun r hr => hl r (List.mem_cons_of_mem _ hr)
    rcases Array.mem_or_eq_of_mem_setIfInBounds hx with z | z
    · exact h x z
    · rw [z]; exact hl (q, j) List.mem_cons_self
theorem zip_in {o : Array Keyed} (h : In it o) : ∀ q ∈ o.toList.zipIdx, q.1 ∈ it := fun q hq => by
  obtain ⟨x, i⟩ := q
  have := (List.mem_zipIdx hq).2.2
  rw [this]
  exact h _ (Array.mem_def.mpr (List.getElem_mem _))
theorem w_set {x st : SortSt} {Q : PUnit → SortSt → Prop} (h : Q ⟨⟩ x) : DW prog w S (set x : StateT SortSt Sem PUnit) Q st := by
  refine ⟨⟨⟩, x, h, fun A E s _ => ?_⟩
  unfold wpS
  rw [StateT.run_set]
  exact wpAny_pure ⟨rfl, rfl, rfl⟩
theorem t_mergeAt (C : CmpD prog w S it κ lt) {st : SortSt} (t : TB it κ n st) {n1 p1 p2 : Nat} (hp : pendingOf st = #[(0, n1, p1), (n1, n - n1, p2)]) (h1 : 1 ≤ n1) (h2 : n1 < n) {Q : Bool → SortSt → Prop}
    (h : ∀ st', TB it κ n st' → pendingOf st' = #[(0, n, p1)] → Q true st') : DW prog w S (mergeAt' 0) Q st := by
  refine DW_bind (DW_get ?_)
  have hq := hp
  unfold pendingOf at hq
  rw [hq]
  have e0 : #[(0, n1, p1), (n1, n - n1, p2)][0]? = some (0, n1, p1) := rfl
  have e1 : #[(0, n1, p1), (n1, n - n1, p2)][0 + 1]? = some (n1, n - n1, p2) := rfl
  rw [e0, e1]
  dsimp only
  have ep : (#[(0, n1, p1), (n1, n - n1, p2)].setIfInBounds 0 (0, n1 + (n - n1), p1)).eraseIdxIfInBounds (0 + 1) = #[(0, n, p1)] := by
    rw [show n1 + (n - n1) = n by omega]
    apply Array.toList_inj.mp
    simp [Array.setIfInBounds, Array.eraseIdxIfInBounds]
  rw [ep]
  refine DW_bind (w_set ?_)
  have t2 : TB it κ n (setPending st #[(0, n, p1)]) := ⟨t.z, t.i, t.k, t.f⟩
  have hz := t.z
  refine DW_bind (t_elem (show n1 < (arrOf st).size by omega) ?_)
  refine DW_bind (t_gallop C t2.k (t.i.at (i := n1) (by omega)) t.i (by omega) (by omega) fun k hk1 => ?_)
  dsimp only
  by_cases q1 : (n1 - k == 0) = true
  · rw [if_pos q1]
    exact DW_pure (h _ t2 rfl)
  rw [if_neg q1]
  have q1 : n1 - k ≠ 0 := fun z => q1 (by simp [z])
  refine DW_bind (t_elem (show 0 + k + (n1 - k) - 1 < (arrOf st).size by omega) ?_)
  refine DW_bind (t_gallop C t2.k (t.i.at (i := 0 + k + (n1 - k) - 1) (by omega)) t.i (by omega) (by omega) fun m hm1 => ?_)
  dsimp only
  by_cases q2 : (m == 0) = true
  · rw [if_pos q2]
    exact DW_pure (h _ t2 rfl)
  rw [if_neg q2]
  have q2 : m ≠ 0 := fun z => q2 (by simp [z])
  have fin : ∀ (o : Array Keyed) (st3 : SortSt), In it o → Eqv (setPending st #[(0, n, p1)]) st3 → DW prog w S (do
      modify fun u => setArr u (o.toList.zipIdx.foldl (fun a (q, j) => a.setIfInBounds (0 + k + j) q) (arrOf u))
      return (failedOf (← get)).isNone) Q st3 := fun o st3 ho ev => by
    refine DW_bind (DW_modify (DW_bind (DW_get ?_)))
    have hf : failedOf st3 = none := ev.f.trans t.f
    have e : (failedOf (setArr st3 (o.toList.zipIdx.foldl (fun a (q, j) => a.setIfInBounds (0 + k + j) q) (arrOf st3)))).isNone = true := by
      show (failedOf st3).isNone = true
      rw [hf]; rfl
    rw [e]
    refine DW_pure (h _ ⟨?_, ?_, ev.k.trans t.k, hf⟩ ev.p)
    · exact (sets_size _ _ _).trans ((congrArg Array.size ev.a).trans hz)
    · refine sets_in _ _ _ ?_ (zip_in ho)
      rw [ev.a]
      exact t.i
  by_cases q3 : n1 - k ≤ m
  · rw [if_pos q3]
    exact DW_bind (t_mergeLo C t2.k t.i.ext t.i.ext (by simp; omega) (by simp; omega) fin)
  · rw [if_neg q3]
    exact DW_bind (t_mergeHi C t2.k t.i.ext t.i.ext (by simp; omega) (by simp; omega) fin)
theorem minrun_le : ∀ z, z ≤ 66 → 2 ≤ z → z ≤ 2 * minRun' z z 0 ∧ minRun' z z 0 ≤ z ∧ 1 ≤ minRun' z z 0 := by decide
theorem t_runs (C : CmpD prog w S it κ lt) {st : SortSt} (t : TB it κ n st) (hp : pendingOf st = #[]) (h2 : 2 ≤ n) (h66 : n ≤ 66) {Q : Unit → SortSt → Prop} (h : ∀ st', TB it κ n st' → Q () st') : DW prog w S sortRuns' Q st := by
  obtain ⟨r1, r2, r3⟩ := minrun_le n h66 h2
  rw [sortRuns'_eq]
  refine DW_bind (DW_get ?_)
  rw [t.z]
  dsimp only
  refine DW_bind (DW_mono (DW_forRange (I := fun i c st' => TB it κ n st' ∧ ∃ lo, c = (none, lo) ∧ i ≤ lo ∧ ((lo = 0 ∧ pendingOf st' = #[]) ∨ (1 ≤ lo ∧ lo ≤ n ∧ (lo = n ∨ minRun' n n 0 ≤ lo) ∧ ∃ p1, pendingOf st' = #[(0, lo, p1)]) ∨ (lo = n ∧ ∃ n1 p1 p2, 1 ≤ n1 ∧ n1 < n ∧ pendingOf st' = #[(0, n1, p1), (n1, n - n1, p2)])))
    (Q := fun c st' => TB it κ n st' ∧ ∃ lo, c = (none, lo) ∧ ((∃ p1, pendingOf st' = #[(0, n, p1)]) ∨ ∃ n1 p1 p2, 1 ≤ n1 ∧ n1 < n ∧ pendingOf st' = #[(0, n1, p1), (n1, n - n1, p2)])) ?_ ?_ ⟨t, 0, rfl, Nat.le_refl _, .inl ⟨rfl, hp⟩⟩) ?_)
  · rintro i c st1 _ hi ⟨t1, lo, rfl, hil, hc⟩
    dsimp only
    by_cases q1 : lo ≥ n
    · rw [if_pos q1]
      refine DW_pure ⟨t1, lo, rfl, ?_⟩
      rcases hc with ⟨l0, _⟩ | ⟨l1, l2, l3, p1, hpd⟩ | ⟨l0, hpd⟩
      · omega
      · have : lo = n := by omega
        subst this
        exact .inl ⟨p1, hpd⟩
      · exact .inr hpd
    rw [if_neg q1]
    refine DW_bind (t_count (p := pendingOf st1) C ⟨t1, rfl⟩ (by omega) (by omega) fun fd st0 f1 f2 o0 => ?_)
    dsimp only
    by_cases q2 : fd < minRun' n n 0
    · rw [if_pos q2]
      refine DW_bind (DW_rule ?_)
      refine DW_bind (t_bin C o0 (by omega) fun st2 o2 => ?_)
      simp only [Bool.not_true, Bool.false_eq_true, if_false]
      refine DW_bind (DW_get ?_)
      rcases hc with ⟨l0, hpd⟩ | ⟨l1, l2, l3, p1, hpd⟩ | ⟨l0, _⟩
      · subst l0
        rw [o2.2, hpd]
        refine DW_bind (DW_modify (DW_pure ⟨⟨o2.1.z, o2.1.i, o2.1.k, o2.1.f⟩, _, rfl, by omega, .inr (.inl ⟨by omega, by omega, by omega, 0, ?_⟩)⟩))
        show (pendingOf st2).push _ = _
        rw [o2.2, hpd, Nat.zero_add]
        rfl
      · have hRe : min (n - lo) (minRun' n n 0) = n - lo := by omega
        have hpd2 : pendingOf st2 = #[(0, lo, p1)] := o2.2.trans hpd
        rw [hpd2]
        refine DW_bind (DW_mono (DW_forRange (I := fun _ c st' => st' = st2 ∧ c = (none, ())) (Q := fun c st' => st' = st2 ∧ c = (none, ())) ?_ (fun _ _ h => h) ⟨rfl, rfl⟩) ?_)
        · rintro j c st3 _ hj ⟨rfl, rfl⟩
          refine DW_bind (DW_get ?_)
          rw [hpd2]
          exact DW_pure ⟨rfl, rfl⟩
        · rintro c st3 ⟨rfl, rfl⟩
          refine DW_bind (DW_modify (DW_bind (DW_modify (DW_pure ⟨⟨o2.1.z, o2.1.i, o2.1.k, o2.1.f⟩, _, rfl, by omega, .inr (.inr ⟨by omega, lo, power' n (2 * 0 + lo) (2 * 0 + lo + lo + min (n - lo) (minRun' n n 0)) n, 0, by omega, by omega, ?_⟩)⟩))))
          show ((pendingOf st3).modify ((pendingOf st3).size - 1) _).push _ = _
          rw [hpd2, hRe]
          apply Array.toList_inj.mp
          simp [Array.modify]
          rfl
      · omega
    · rw [if_neg q2]
      obtain ⟨st2, e2⟩ : ∃ st2, st2 = st0 := ⟨_, rfl⟩
      rw [← e2] at o0 ⊢
      have o2 := o0
      refine DW_bind (DW_get ?_)
      rcases hc with ⟨l0, hpd⟩ | ⟨l1, l2, l3, p1, hpd⟩ | ⟨l0, _⟩
      · subst l0
        rw [o2.2, hpd]
        refine DW_bind (DW_modify (DW_pure ⟨⟨o2.1.z, o2.1.i, o2.1.k, o2.1.f⟩, _, rfl, by omega, .inr (.inl ⟨by omega, by omega, by omega, 0, ?_⟩)⟩))
        show (pendingOf st2).push _ = _
        rw [o2.2, hpd, Nat.zero_add]
        rfl
      · have hRe : fd = n - lo := by omega
        have hpd2 : pendingOf st2 = #[(0, lo, p1)] := o2.2.trans hpd
        rw [hpd2]
        refine DW_bind (DW_mono (DW_forRange (I := fun _ c st' => st' = st2 ∧ c = (none, ())) (Q := fun c st' => st' = st2 ∧ c = (none, ())) ?_ (fun _ _ h => h) ⟨rfl, rfl⟩) ?_)
        · rintro j c st3 _ hj ⟨rfl, rfl⟩
          refine DW_bind (DW_get ?_)
          rw [hpd2]
          exact DW_pure ⟨rfl, rfl⟩
        · rintro c st3 ⟨rfl, rfl⟩
          refine DW_bind (DW_modify (DW_bind (DW_modify (DW_pure ⟨⟨o2.1.z, o2.1.i, o2.1.k, o2.1.f⟩, _, rfl, by omega, .inr (.inr ⟨by omega, lo, power' n (2 * 0 + lo) (2 * 0 + lo + lo + fd) n, 0, by omega, by omega, ?_⟩)⟩))))
          show ((pendingOf st3).modify ((pendingOf st3).size - 1) _).push _ = _
          rw [hpd2, hRe]
          apply Array.toList_inj.mp
          simp [Array.modify]
          rfl
      · omega
  · rintro c st1 ⟨t1, lo, rfl, hil, hc⟩
    refine ⟨t1, lo, rfl, ?_⟩
    rcases hc with ⟨l0, _⟩ | ⟨l1, l2, l3, p1, hpd⟩ | ⟨l0, hpd⟩
    · omega
    · have : lo = n := by omega
      subst this
      exact .inl ⟨p1, hpd⟩
    · exact .inr hpd
  · rintro c st1 ⟨t1, lo, rfl, hc⟩
    dsimp only
    refine DW_bind (DW_mono (DW_forRange (I := fun _ c st' => TB it κ n st' ∧ c = (none, ()) ∧ ((∃ p1, pendingOf st' = #[(0, n, p1)]) ∨ ∃ n1 p1 p2, 1 ≤ n1 ∧ n1 < n ∧ pendingOf st' = #[(0, n1, p1), (n1, n - n1, p2)])) (Q := fun c st' => TB it κ n st' ∧ c = (none, ())) ?_ (fun _ _ h => ⟨h.1, h.2.1⟩) ⟨t1, rfl, hc⟩) ?_)
    · rintro i c st2 _ hi ⟨t2, rfl, hc⟩
      refine DW_bind (DW_get ?_)
      rcases hc with ⟨p1, hpd⟩ | ⟨n1, p1, p2, h1, h2, hpd⟩
      · rw [hpd]
        exact DW_pure ⟨t2, rfl⟩
      · rw [hpd]
        refine DW_bind (t_mergeAt C t2 hpd h1 h2 fun st3 t3 hp3 => ?_)
        exact DW_pure ⟨t3, rfl, .inl ⟨_, hp3⟩⟩
    · rintro c st2 ⟨t2, rfl⟩
      exact DW_pure (h st2 t2)
end
end Srt
end L2

/-! SortDet3 -/
set_option Elab.async false
set_option linter.all false
set_option maxRecDepth 100000
set_option maxHeartbeats 4000000
namespace L2
namespace Srt
open PySem PyProof.Rows PySem.W
def PrV (h : Heap) (v : Value) (p : Int × Int) : Prop := ∃ x o t u n, v = .ref x ∧ h.get? x = some o ∧ o.cls = .type "tuple" ∧ o.data = .seq #[.int p.1 t, .int p.2 u] n
def lexB (p q : Int × Int) : Bool := if p.1 = q.1 then decide (p.2 < q.2) else decide (p.1 < q.1)
section
variable {prog : Program} {w : World} {A : Around} {E : Value → Shared → Prop} {s : Shared}
theorem pr_ltD {x y : Value} {p q : Int × Int} (hx : PrV s.heap x p) (hy : PrV s.heap y q) {Q : Bool → Shared → Prop} (h : Q (lexB p q) s) : wpAny (model prog w) A (keyLt' (tuples' true) x y) Q E s := by
  obtain ⟨i, j⟩ := p
  obtain ⟨i', j'⟩ := q
  obtain ⟨x, o, t, u, n, rfl, ho, _, hd⟩ := hx
  obtain ⟨y, o', t', u', n', rfl, ho', _, hd'⟩ := hy
  unfold lexB at h
  refine kat_lt ho hd ho' hd' (kat_cons (wpAny_eqBool_int ?_))
  refine kat_go (fun e => kat_yes (kat_cons (wpAny_eqBool_int ?_))) fun e => kat_no (oneLt_int ?_)
  · have e : i = i' := eq_of_beq e
    rw [if_pos e] at h
    refine kat_go (fun e2 => kat_yes (kat_nil ?_)) fun e2 => kat_no (kat_one _ _ (lt_int ?_))
    · have e2 : j = j' := eq_of_beq e2
      have z : decide ((#[Value.int i t, Value.int j u] : Array Value).size < (#[Value.int i' t', Value.int j' u'] : Array Value).size) = decide (j < j') := by
        rw [e2, decide_eq_false (Int.lt_irrefl _)]
        rfl
      exact z ▸ h
    · exact h
  · have e : ¬ i = i' := fun z => by
      rw [beq_eq_false_iff_ne] at e
      exact e z
    rw [if_neg e] at h
    exact h
theorem pr_tups : ∀ {vs : List Value}, (∀ v ∈ vs, (∃ p, PrV s.heap v p)) → ∃ fs : List Value, KatTups s.heap vs fs ∧ fs.length = vs.length ∧ ∀ f ∈ fs, ∃ i t, f = .int i t
  | [], _ => ⟨[], .nil, rfl, fun f hf => by cases hf⟩
  | v :: vs, h => by
    obtain ⟨fs, k, hl, hi⟩ := pr_tups (vs := vs) fun v hv => h v (List.mem_cons_of_mem _ hv)
    obtain ⟨⟨i, j⟩, x, o, t, u, n, rfl, ho, hc, hd⟩ := h v List.mem_cons_self
    refine ⟨.int i t :: fs, .cons ho hc hd rfl k, by simp [hl], fun f hf => ?_⟩
    rcases List.mem_cons.mp hf with rfl | hf
    · exact ⟨i, t, rfl⟩
    · exact hi f hf
theorem pr_kind {vs : List Value} (h : ∀ v ∈ vs, (∃ p, PrV s.heap v p)) (hne : 0 < vs.length) {Q : SortKind → Shared → Prop} (q : Q (tuples' true) s) : wpAny (model prog w) A (keyKind' vs.toArray) Q E s := by
  obtain ⟨fs, k, hl, hi⟩ := pr_tups h
  refine kat_kind (T := .type "int") k (by omega) (fun v hv => ?_) rfl q
  obtain ⟨i, t, rfl⟩ := hi v hv
  exact Looks.of_pure rfl
theorem mem_zip2 {vs : List Value} {p : Keyed} (h : p ∈ vs.toArray.zip vs.toArray) : p.1 ∈ vs ∧ p.2 ∈ vs := by
  have h : p ∈ (vs.toArray.zip vs.toArray).toList := Array.mem_def.mp h
  rw [Array.toList_zip] at h
  obtain ⟨a, b⟩ := p
  exact List.of_mem_zip h
theorem PrV.keeps {h h' : Heap} {v : Value} {p : Int × Int} (q : PrV h v p) (k : ∀ b o, h.get? b = some o → o.cls = .type "tuple" → h'.get? b = some o) : PrV h' v p := by
  obtain ⟨x, o, t, u, n, e, ho, hc, hd⟩ := q
  exact ⟨x, o, t, u, n, e, k _ _ ho hc, hc, hd⟩
def AtV (vs : List Value) (val : Value → Int × Int) : Sites := fun _ _ s => ∀ v ∈ vs, PrV s.heap v (val v)
theorem runsD (prog : Program) (w : World) (vs : List Value) (val : Value → Int × Int) (h2 : 2 ≤ vs.length) (h66 : vs.length ≤ 66) : ∃ o : Array Value, (o.size = vs.length ∧ ∀ v ∈ o, v ∈ vs) ∧
    ∀ A E s, AtV vs val A E s → wpS (model prog w) A E s sortRuns' (fun _ st' => failedOf st' = none ∧ (arrOf st').map (·.2) = o) (SortSt.mk' (tuples' true) (vs.toArray.zip vs.toArray) #[] 7 none) := by
  have hz : (vs.toArray.zip vs.toArray).size = vs.length := by simp
  obtain ⟨_, st', t, hh⟩ := t_runs (prog := prog) (w := w) (S := AtV vs val) (it := (vs.toArray.zip vs.toArray).toList) (κ := tuples' true) (n := vs.length) (lt := fun x y => lexB (val x) (val y)) (st := SortSt.mk' (tuples' true) (vs.toArray.zip vs.toArray) #[] 7 none)
    (Q := fun _ st' => TB (vs.toArray.zip vs.toArray).toList (tuples' true) vs.length st')
    (fun x hx y hy A E s hs Q E' hq => pr_ltD (hs _ (mem_zip2 (Array.mem_def.mpr hx)).1) (hs _ (mem_zip2 (Array.mem_def.mpr hy)).1) hq) ⟨hz, fun x hx => Array.mem_def.mp hx, rfl, rfl⟩ rfl h2 h66 fun st' t => t
  refine ⟨(arrOf st').map (·.2), ⟨by rw [Array.size_map]; exact t.z, fun v hv => ?_⟩, fun A E s hs => wpS_mono (hh A E s hs) ?_⟩
  · obtain ⟨p, hp, rfl⟩ := Array.mem_map.mp hv
    exact (mem_zip2 (Array.mem_def.mpr (t.i p hp))).2
  · rintro _ _ ⟨rfl, rfl⟩
    exact ⟨t.f, rfl⟩
open Classical in
noncomputable def srtV (prog : Program) (w : World) (vs : List Value) (val : Value → Int × Int) : Array Value :=
  if h : 2 ≤ vs.length ∧ vs.length ≤ 66 then Classical.choose (runsD prog w vs val h.1 h.2) else vs.toArray
theorem srtV_ok (prog : Program) (w : World) (vs : List Value) (val : Value → Int × Int) : (srtV prog w vs val).size = vs.length ∧ ∀ v ∈ srtV prog w vs val, v ∈ vs := by
  unfold srtV
  by_cases h : 2 ≤ vs.length ∧ vs.length ≤ 66
  · rw [dif_pos h]
    exact (Classical.choose_spec (runsD prog w vs val h.1 h.2)).1
  · rw [dif_neg h]
    exact ⟨by simp, fun v hv => by simpa using hv⟩
theorem srtV_runs {vs : List Value} {val : Value → Int × Int} (h2 : 2 ≤ vs.length) (h66 : vs.length ≤ 66) (hs : AtV vs val A E s) :
    wpS (model prog w) A E s sortRuns' (fun _ st' => failedOf st' = none ∧ (arrOf st').map (·.2) = srtV prog w vs val) (SortSt.mk' (tuples' true) (vs.toArray.zip vs.toArray) #[] 7 none) := by
  unfold srtV
  rw [dif_pos ⟨h2, h66⟩]
  exact (Classical.choose_spec (runsD prog w vs val h2 h66)).2 A E s hs
theorem sort_pairs {a : Addr} {vs : List Value} {n : Nat} {P : PySem.Fin → Shared → Prop} (ho : s.heap.get? a = some (seqObj "list" vs.toArray n)) {val : Value → Int × Int} (hp : ∀ v ∈ vs, PrV s.heap v (val v)) (h66 : vs.length ≤ 66)
    (h : P (.done (.ret .none)) { s with heap := sortedHeap s.heap a vs (srtV prog w vs val) }) : wpAny (model prog w) A (Builtin.«list.sort» ⟨[.ref a], []⟩) P E s := by
  have big : 66 ≤ sizeLine := by decide
  have ha := Heap.lt_size ho
  rw [list_sort_plain]
  refine wpAny_bind (listItems_at ho rfl (wpAny_bind (listUpdate_at ho rfl ?_ (by simp; omega) (Nat.zero_le _))))
  have o1 := get?_update_seq ho (fun _ => (#[] : Array Value))
  refine wpAny_bind (seqEpoch_at o1 rfl (wpAny_bind (wpAny_newTuple (wpAny_bind (wpAny_newList (wpAny_holding ?_) (Nat.zero_le _))) (by show vs.length ≤ _; omega))))
  generalize hH : Heap.push (Heap.push (s.heap.update a (Obj.mapSeq fun _ => (#[] : Array Value))) (seqObj "tuple" vs.toArray 0)) (seqObj "list" #[] 0) = H6
  have hs : ∀ o : Array Value, sortedHeap s.heap a vs o = H6.update a (Obj.mapSeq fun _ => o) := fun o => by rw [← hH]; rfl
  have o6 := Heap.get?_push_of_some (seqObj "list" #[] 0) (Heap.get?_push_of_some (seqObj "tuple" vs.toArray 0) o1)
  rw [hH] at o6
  have hp6 : ∀ v ∈ vs, PrV H6 v (val v) := fun v hv => (hp v hv).keeps fun b o e hc => by
    have hb : a ≠ b := fun z => by
      rw [← z, ho] at e
      cases e
      have hc : Value.type "list" = .type "tuple" := hc
      injection hc with hc
      exact absurd hc (by decide)
    rw [← hH]
    refine Heap.get?_push_of_some _ (Heap.get?_push_of_some _ ?_)
    rw [Heap.get?_update_other _ _ hb]
    exact e
  have e6 : ({ s with heap := Heap.push (Heap.push (s.heap.update a (Obj.mapSeq fun _ => (#[] : Array Value))) (seqObj "tuple" vs.toArray 0)) (seqObj "list" #[] 0) } : Shared) = { s with heap := H6 } := by rw [hH]
  refine (show wpAny (model prog w) A _ P E { s with heap := H6 } from ?_)
  dsimp only
  have hz0 : ((vs.toArray.zip vs.toArray).map (fun p : Keyed => p.2)).size = vs.length := by simp
  by_cases q : vs.toArray.size < 2
  · rw [if_pos q, if_pos q]
    refine wpAny_bind (wpAny_pure ?_)
    rw [StateT.run_pure]
    refine wpAny_bind (wpAny_pure (wpAny_bind (seqEpoch_at o6 rfl (wpAny_bind (listUpdate_at o6 rfl ?_ (Nat.zero_le _) (by show ((vs.toArray.zip vs.toArray).map (fun p : Keyed => p.2)).size ≤ _; omega))))))
    simp only [bne_self_eq_false, Bool.false_eq_true, if_false]
    refine wpAny_pure ?_
    rw [← hs]
    have ez : (vs.toArray.zip vs.toArray).map (fun p : Keyed => p.2) = srtV prog w vs val := by
      unfold srtV
      rw [dif_neg (by simp at q; omega)]
      apply Array.toList_inj.mp
      simp [List.map_snd_zip]
    rw [ez]
    exact h
  · rw [if_neg q, if_neg q]
    have q : 2 ≤ vs.length := by simp at q; omega
    refine wpAny_bind (pr_kind (fun v hv => ⟨_, hp6 v hv⟩) (by omega) ?_)
    refine wpAny_bind (wpAny_mono (srtV_runs (s := { s with heap := H6 }) (val := val) q h66 hp6) ?_ fun _ _ e => e)
    rintro ⟨⟨⟩, st'⟩ s' ⟨rfl, hf, hz⟩
    have hz1 := (srtV_ok prog w vs val).1
    refine wpAny_bind (seqEpoch_at o6 rfl (wpAny_bind (listUpdate_at o6 rfl ?_ (Nat.zero_le _) (by rw [show (arrOf st').map (·.2) = srtV prog w vs val from hz]; omega))))
    rw [hf]
    simp only [bne_self_eq_false, Bool.false_eq_true, if_false]
    refine wpAny_pure ?_
    rw [← hs, show (arrOf st').map (·.2) = srtV prog w vs val from hz]
    exact h
theorem sorted_pairs {l : Addr} {vs : List Value} {Q : Value → Shared → Prop} (hl : s.heap.IsList l vs.toArray) {val : Value → Int × Int} (hp : ∀ v ∈ vs, PrV s.heap v (val v)) (h66 : vs.length ≤ 66)
    (h : Q (.ref (s.heap.objs.size + 1)) { s with heap := sortedAll s.heap vs (srtV prog w vs val) }) : wpAny (model prog w) A (call (.builtin "sorted") [.ref l]) Q E s := by
  have big : 66 ≤ sizeLine := by decide
  refine Calls.call_function_entry kind_sorted plain_sorted entry_sorted (args_sorted1 _) ?_
  unfold Builtin.«sorted»
  refine wpAny_bind (m := checkCount "sorted" 1 1 _) (wpAny_pure (wpAny_bind (collect_list hl (wpAny_bind (wpAny_newList ?_ (by show vs.length ≤ _; omega))) (by omega))))
  have hz : (Heap.update (Heap.push s.heap (seqObj "list" #[] 0)) s.heap.objs.size (Obj.mapSeq fun x => x ++ vs.toArray)).objs.size = s.heap.objs.size + 1 := (Heap.size_update _ _ _).trans (size_push' _ _)
  have hk : ∀ b o, s.heap.get? b = some o → (Heap.push (Heap.update (Heap.push s.heap (seqObj "list" #[] 0)) s.heap.objs.size (Obj.mapSeq fun x => x ++ vs.toArray)) (seqObj "list" vs.toArray 0)).get? b = some o := fun b o e => by
    refine Heap.get?_push_of_some _ ?_
    rw [Heap.get?_update_other _ _ (Nat.ne_of_gt (Heap.lt_size e))]
    exact Heap.get?_push_of_some _ e
  have ho := Heap.get?_push_size (Heap.update (Heap.push s.heap (seqObj "list" #[] 0)) s.heap.objs.size (Obj.mapSeq fun x => x ++ vs.toArray)) (o := seqObj "list" vs.toArray 0) rfl
  refine (show wpAny _ _ _ _ _ { s with heap := Heap.push (Heap.update (Heap.push s.heap (seqObj "list" #[] 0)) s.heap.objs.size (Obj.mapSeq fun x => x ++ vs.toArray)) (seqObj "list" vs.toArray 0) } from ?_)
  rw [hz] at ho ⊢
  refine wpAny_bind (wpAny_holding (wpAny_call_entry slot_list_sort ⟨_, ho, rfl⟩ entry_list_sort ?_ (args_list_sort _)))
  exact sort_pairs ho (fun v hv => (hp v hv).keeps fun b o e _ => hk b o e) h66 ⟨_, rfl, wpAny_pure ⟨_, rfl, h⟩⟩
end
end Srt
end L2

/-! SortDet4 -/
set_option Elab.async false
set_option linter.all false
set_option maxRecDepth 100000
set_option maxHeartbeats 4000000
namespace L2
namespace Srt
open PySem PyProof.Rows PySem.W
abbrev PT := Addr × Int × Int
def valOf (ps : List PT) : Value → Int × Int
  | .ref a => ((ps.find? fun p => p.1 = a).map (·.2)).getD (0, 0)
  | _ => (0, 0)
def adOf : Value → Addr
  | .ref a => a
  | _ => 0
noncomputable def srtA (P : Program) (w : World) (ps : List PT) : List Addr := (srtV P w (ps.map fun p => Value.ref p.1) (valOf ps)).toList.map adOf
theorem srtA_ok (P : Program) (w : World) (ps : List PT) : (srtA P w ps).length = ps.length ∧ ∀ a ∈ srtA P w ps, ∃ i j, (a, i, j) ∈ ps := by
  obtain ⟨h1, h2⟩ := srtV_ok P w (ps.map fun p => Value.ref p.1) (valOf ps)
  refine ⟨by unfold srtA; rw [List.length_map, Array.length_toList, h1, List.length_map], fun a ha => ?_⟩
  obtain ⟨v, hv, rfl⟩ := List.mem_map.mp ha
  obtain ⟨p, hp, e⟩ := List.mem_map.mp (h2 v (Array.mem_def.mpr hv))
  obtain ⟨b, i, j⟩ := p
  refine ⟨i, j, ?_⟩
  rw [← e]
  exact hp
theorem srtA_vals (P : Program) (w : World) (ps : List PT) : Vals ((srtA P w ps).map V.ref) (srtV P w (ps.map fun p => Value.ref p.1) (valOf ps)).toList := by
  obtain ⟨_, h2⟩ := srtV_ok P w (ps.map fun p => Value.ref p.1) (valOf ps)
  unfold srtA
  have key : ∀ l : List Value, (∀ v ∈ l, ∃ a, v = Value.ref a) → Vals ((l.map adOf).map V.ref) l := by
    intro l
    induction l with
    | nil => exact fun _ => .nil
    | cons v l ih =>
      intro h
      obtain ⟨a, rfl⟩ := h v (List.mem_cons_self ..)
      exact .cons rfl (ih fun v hv => h v (List.mem_cons_of_mem _ hv))
  refine key _ fun v hv => ?_
  obtain ⟨p, _, e⟩ := List.mem_map.mp (h2 v (Array.mem_def.mpr hv))
  exact ⟨_, e.symm⟩
theorem vals_refs : ∀ {ps : List PT} {us : List Value}, Vals (ps.map fun p => V.ref p.1) us → us = ps.map fun p => Value.ref p.1
  | [], _, .nil => rfl
  | p :: ps, _, .cons e r => by
    cases (show _ = Value.ref p.1 from e)
    rw [vals_refs r]
    rfl
section
variable {X : Cx}
def rSortQ (P : Program) (w : World) (K : PySem.W.Frag) : List V → Hp → VK → Prop := fun xs H Q => ∃ (a : Addr) (ps : List PT), xs = [V.ref a] ∧ SqL K H a (ps.map fun p => V.ref p.1) ∧ ps.length ≤ 66 ∧ (∀ p ∈ ps, H p.1 = some (.tup [.int p.2.1, .int p.2.2])) ∧
  ∀ q, H q = none → Q (.ref q) (upd H q (.lst ((srtA P w ps).map V.ref)))
theorem call_sortQ : CallR X (.builtin "sorted") (rSortQ X.prog X.w X.K) := by
  intro pins s σ H xs us Q I r h
  obtain ⟨a, ps, rfl, ha, h66, hy, q⟩ := h
  obtain ⟨u, rfl, ru⟩ := r.one
  cases ru
  obtain ⟨its, rv, p, hz⟩ := I.list ha
  obtain rfl := vals_refs rv
  have hl : (ps.map fun p => Value.ref p.1).length = ps.length := List.length_map ..
  refine sorted_pairs p.isList (val := valOf ps) (fun v hv => ?_) (by omega) ?_
  · obtain ⟨⟨t, i, j⟩, hm, rfl⟩ := List.mem_map.mp hv
    have ht := hy _ hm
    have ev : valOf ps (.ref t) = (i, j) := by
      show ((ps.find? fun p => p.1 = t).map (·.2)).getD (0, 0) = (i, j)
      cases hf : ps.find? fun p => p.1 = t with
      | none =>
        have := List.find?_eq_none.mp hf (t, i, j) hm
        simp at this
      | some p' =>
        have e1 : p'.1 = t := by simpa using List.find?_some hf
        have h2 := hy p' (List.mem_of_find?_eq_some hf)
        rw [e1] at h2
        rw [h2] at ht
        injection ht with ht
        injection ht with ht
        obtain ⟨c, i', j'⟩ := p'
        simp at ht
        simp [ht]
    rw [ev]
    obtain ⟨_, vs, rr, ob, e1, e2, n, e3⟩ := (show ObjOk X.prog X.w H s.heap t (.tup [.int i, .int j]) from I.hok t _ ht)
    cases rr with
    | cons r1 rr =>
      cases rr with
      | cons r2 rr =>
        cases rr
        obtain ⟨t1, rfl⟩ := r1
        obtain ⟨t2, rfl⟩ := r2
        exact ⟨t, ob, t1, t2, n, rfl, e1, e2, e3⟩
  · have hn : H (s.heap.objs.size + 1) = none := I.hok.fresh (Nat.le_succ _)
    have lz := (srtA_ok X.prog X.w ps).1
    obtain ⟨c, hc⟩ := sortedAll_at s.heap (ps.map fun p => Value.ref p.1) (srtV X.prog X.w (ps.map fun p => Value.ref p.1) (valOf ps))
    refine ⟨.ref _, _, I.laid (a := s.heap.objs.size + 1) (o := .lst ((srtA X.prog X.w ps).map V.ref)) (t' := s.toks) (fun _ _ e => sortedAll_old e) (Nat.le_succ _) ⟨?_, _, c, srtA_vals X.prog X.w ps, hc⟩, rfl, q _ hn⟩
    rw [List.length_map, lz]
    exact Nat.le_trans h66 (by decide)
end
end Srt
end L2

/-! BIn -/
set_option Elab.async false
set_option linter.all false
set_option maxRecDepth 100000
set_option maxHeartbeats 4000000
namespace L2
open PySem PySem.Spec PyProof.Rows L2.Srt
section
variable {X : Cx}
theorem call_sortK {P : Program} {w : World} (hP : X.prog = P) (hw : X.w = w) : CallR X (.builtin "sorted") (rSortQ P w X.K) := by
  subst hP hw
  exact call_sortQ
theorem op_notF : OpR X (compareOp .IsNot) (fun x y H Q => ∃ b, x = .bl b ∧ y = .bl false ∧ Q (.bl b) H) := by
  intro pins s σ H x y v u Q I rx ry h
  obtain ⟨b, rfl, rfl, q⟩ := h
  cases rx
  cases ry
  have e : compareOp .IsNot (.bool b) (.bool false) = pure (.bool b) := by cases b <;> rfl
  rw [e]
  exact wpAny_pure ⟨.bl b, H, I, rfl, q⟩
theorem eq_pair {K : PySem.W.Frag} {H : Hp} {q t : Addr} {i j i' j' : Int} (hq : H q = some (.tup [.int i', .int j'])) (ht : H t = some (.tup [.int i, .int j])) (hne : q ≠ t) : EqD K H (.ref q) (.ref t) (decide ((i', j') = (i, j))) 1 := by
  have e : decide ((i', j') = (i, j)) = (List.range 2).all (fun k => if k = 0 then i' == i else j' == j) := by
    show decide ((i', j') = (i, j)) = ((i' == i) && ((j' == j) && true))
    by_cases h1 : i' = i
    · by_cases h2 : j' = j
      · subst h1 h2; simp
      · subst h1; simp [h2]
    · simp [h1]
  rw [e]
  refine EqD.tup (xs := [.int i', .int j']) (ys := [.int i, .int j]) (e := fun k => if k = 0 then i' == i else j' == j) (n := 0) hne (SqT.of hq) (SqT.of ht) rfl fun k x y e1 e2 => ?_
  match k, e1, e2 with
  | 0, e1, e2 => cases e1; cases e2; exact EqD.flat (x := .int i') (y := .int i) rfl rfl
  | 1, e1, e2 => cases e1; cases e2; exact EqD.flat (x := .int j') (y := .int j) rfl rfl
  | _ + 2, e1, e2 => simp at e1
theorem valOf_at {H : Hp} {ps : List Srt.PT} (hy : ∀ p ∈ ps, H p.1 = some (.tup [.int p.2.1, .int p.2.2])) {p : Srt.PT} (hm : p ∈ ps) : valOf ps (.ref p.1) = p.2 := by
  obtain ⟨t, i, j⟩ := p
  have ht := hy _ hm
  show ((ps.find? fun p => p.1 = t).map (·.2)).getD (0, 0) = (i, j)
  cases hf : ps.find? fun p => p.1 = t with
  | none =>
    have := List.find?_eq_none.mp hf (t, i, j) hm
    simp at this
  | some p' =>
    have e1 : p'.1 = t := by simpa using List.find?_some hf
    have h2 := hy p' (List.mem_of_find?_eq_some hf)
    rw [e1] at h2
    rw [h2] at ht
    injection ht with ht
    injection ht with ht
    obtain ⟨c, i', j'⟩ := p'
    simp at ht
    simp [ht]
def rInP (K : PySem.W.Frag) (A : Around) : R2 := fun x y H Q => ∃ (l t : Addr) (ps : List Srt.PT) (i j : Int), x = .ref t ∧ y = .ref l ∧ SqL K H l (ps.map fun p => V.ref p.1) ∧ (∀ p ∈ ps, H p.1 = some (.tup [.int p.2.1, .int p.2.2])) ∧ H t = some (.tup [.int i, .int j]) ∧ (∀ p ∈ ps, p.1 ≠ t) ∧ A.units + 5 < cLine ∧
  Q (.bl (decide ((i, j) ∈ ps.map (·.2)))) H
theorem op_inP : OpR X (compareOp .In) (rInP X.K X.A) := by
  intro pins s σ H x y v u Q I rx ry h
  obtain ⟨l, t, ps, i, j, rfl, rfl, hl, hps, ht, hne, hu, q⟩ := h
  cases rx
  cases ry
  obtain ⟨its, r, pl, hz⟩ := I.list hl
  obtain rfl := vals_refs r
  refine SeqAt.in_listAt (fun v => decide (valOf ps v = (i, j))) pl.isList (fun w hw => ?_) ⟨.bl _, H, I, rfl, ?_⟩
  · obtain ⟨p, hp, rfl⟩ := List.mem_map.mp (List.mem_toArray.mp hw)
    rw [valOf_at hps hp]
    exact (eq_pair (K := X.K) (hps p hp) ht (hne p hp)).at I X.A.in1 _ _ (by rw [in1_units]; omega) rfl rfl
  · have e : ((ps.map fun p => Value.ref p.1).toArray.any fun v => decide (valOf ps v = (i, j))) = decide ((i, j) ∈ ps.map (·.2)) := by
      rw [Bool.eq_iff_iff, decide_eq_true_eq]
      simp only [List.any_toArray, List.any_eq_true, decide_eq_true_eq]
      constructor
      · rintro ⟨v, hv, e⟩
        obtain ⟨p, hp, rfl⟩ := List.mem_map.mp hv
        rw [valOf_at hps hp] at e
        exact List.mem_map.mpr ⟨p, hp, e⟩
      · intro hm
        obtain ⟨p, hp, e⟩ := List.mem_map.mp hm
        exact ⟨_, List.mem_map.mpr ⟨p, hp, rfl⟩, by rw [valOf_at hps hp]; exact e⟩
    rw [e]
    exact q
end
end L2

/-! Gr -/
set_option Elab.async false
set_option linter.all false
namespace K04
open PySem L2
structure Hs (hs : List Int) : Prop where
  l1 : 1 ≤ hs.length
  l12 : hs.length ≤ 12
  up : hs.Pairwise (· < ·)
  lo : ∀ h ∈ hs, 0 ≤ h
  hi : ∀ h ∈ hs, h ≤ 99
structure Ls (hs : List Int) (ls : List (Int × Int)) : Prop where
  nd : ls.Nodup
  ok : ∀ p ∈ ls, p.1 ∈ hs ∧ p.2 ∈ hs ∧ p.1 < p.2
  le : ls.length ≤ 66
def Adj (ls : List (Int × Int)) (x y : Int) : Prop := (x, y) ∈ ls ∨ (y, x) ∈ ls
theorem up_nodup {as : List Int} (h : as.Pairwise (· < ·)) : as.Nodup := h.imp fun {a b} z => by omega
theorem nd_le : ∀ {as bs : List Int}, as.Nodup → (∀ x ∈ as, x ∈ bs) → as.length ≤ bs.length
  | [], _, _, _ => Nat.zero_le _
  | a :: as, bs, hn, hs => by
    rw [List.nodup_cons] at hn
    have ha := hs a List.mem_cons_self
    have ih := nd_le (as := as) (bs := bs.erase a) hn.2 fun x hx => by
      have ne : x ≠ a := fun z => hn.1 (by rw [← z]; exact hx)
      exact (List.mem_erase_of_ne ne).mpr (hs x (List.mem_cons_of_mem _ hx))
    rw [List.length_erase_of_mem ha] at ih
    have := List.length_pos_of_mem ha
    rw [List.length_cons]; omega
def nbs (ls : List (Int × Int)) (h : Int) : List Int := ls.flatMap fun p => (if p.1 = h then [p.2] else []) ++ if p.2 = h then [p.1] else []
theorem mem_nbs {ls : List (Int × Int)} {h x : Int} : x ∈ nbs ls h ↔ Adj ls h x := by
  unfold nbs Adj
  rw [List.mem_flatMap]
  constructor
  · rintro ⟨⟨u, v⟩, hp, hx⟩
    dsimp only at hx
    rw [List.mem_append] at hx
    rcases hx with hx | hx
    · split at hx
      · rename_i e; subst e
        rw [List.mem_singleton] at hx; subst hx; exact .inl hp
      · cases hx
    · split at hx
      · rename_i e; subst e
        rw [List.mem_singleton] at hx; subst hx; exact .inr hp
      · cases hx
  · rintro (h1 | h1)
    · exact ⟨_, h1, by simp⟩
    · exact ⟨_, h1, by simp⟩
theorem nbs_len {h : Int} : ∀ {ls : List (Int × Int)}, (nbs ls h).length ≤ 2 * ls.length
  | [] => Nat.le_refl _
  | p :: ls => by
    have ih := nbs_len (h := h) (ls := ls)
    unfold nbs at ih ⊢
    rw [List.flatMap_cons, List.length_append, List.length_append, List.length_cons]
    have h1 : (if p.1 = h then [p.2] else []).length ≤ 1 := by split <;> simp
    have h2 : (if p.2 = h then [p.1] else []).length ≤ 1 := by split <;> simp
    omega
theorem nbs_snoc {ls : List (Int × Int)} {p : Int × Int} {h : Int} : nbs (ls ++ [p]) h = nbs ls h ++ ((if p.1 = h then [p.2] else []) ++ if p.2 = h then [p.1] else []) := by
  unfold nbs
  rw [List.flatMap_append, List.flatMap_cons, List.flatMap_nil, List.append_nil]
theorem nbs_take {ls : List (Int × Int)} {p : Int × Int} {i : Nat} {h : Int} (e : ls[i]? = some p) : nbs (ls.take (i + 1)) h = nbs (ls.take i) h ++ ((if p.1 = h then [p.2] else []) ++ if p.2 = h then [p.1] else []) := by
  rw [List.take_add_one, e]
  exact nbs_snoc
end K04

/-! Gr2 -/
set_option Elab.async false
set_option linter.all false
namespace K04
open PySem L2
def pairs : List Int → List (Int × Int)
  | [] => []
  | h :: t => t.map (fun x => (h, x)) ++ pairs t
theorem pairs_len : ∀ hs : List Int, (pairs hs).length * 2 + hs.length = hs.length * hs.length
  | [] => rfl
  | h :: t => by
    have ih := pairs_len t
    show (t.map (fun x => (h, x)) ++ pairs t).length * 2 + (t.length + 1) = (t.length + 1) * (t.length + 1)
    rw [List.length_append, List.length_map]
    have e : (t.length + 1) * (t.length + 1) = t.length * t.length + t.length + (t.length + 1) := by rw [Nat.succ_mul, Nat.mul_succ]
    omega
theorem pairs_mem : ∀ {hs : List Int} {x y : Int}, hs.Pairwise (· < ·) → x ∈ hs → y ∈ hs → x < y → (x, y) ∈ pairs hs
  | h :: t, x, y, up, hx, hy, lt => by
    rw [List.pairwise_cons] at up
    show (x, y) ∈ t.map (fun x => (h, x)) ++ pairs t
    rw [List.mem_append]
    rcases List.mem_cons.mp hx with rfl | hx'
    · rcases List.mem_cons.mp hy with rfl | hy
      · omega
      · exact .inl (List.mem_map.mpr ⟨y, hy, rfl⟩)
    · rcases List.mem_cons.mp hy with rfl | hy
      · have := up.1 x hx'; omega
      · exact .inr (pairs_mem up.2 hx' hy lt)
theorem nd_le2 : ∀ {as bs : List (Int × Int)}, as.Nodup → (∀ x ∈ as, x ∈ bs) → as.length ≤ bs.length
  | [], _, _, _ => Nat.zero_le _
  | a :: as, bs, hn, hs => by
    rw [List.nodup_cons] at hn
    have ha := hs a List.mem_cons_self
    have ih := nd_le2 (as := as) (bs := bs.erase a) hn.2 fun x hx => by
      have ne : x ≠ a := fun z => hn.1 (by rw [← z]; exact hx)
      exact (List.mem_erase_of_ne ne).mpr (hs x (List.mem_cons_of_mem _ hx))
    rw [List.length_erase_of_mem ha] at ih
    have := List.length_pos_of_mem ha
    rw [List.length_cons]; omega
theorem Ls.of {hs : List Int} {ls : List (Int × Int)} (W : Hs hs) (nd : ls.Nodup) (ok : ∀ p ∈ ls, p.1 ∈ hs ∧ p.2 ∈ hs ∧ p.1 < p.2) : Ls hs ls where
  nd := nd
  ok := ok
  le := by
    have h1 := nd_le2 (bs := pairs hs) nd fun p hp => pairs_mem W.up (ok p hp).1 (ok p hp).2.1 (ok p hp).2.2
    have h2 := pairs_len hs
    have h3 : hs.length * hs.length ≤ 12 * hs.length := Nat.mul_le_mul_right _ W.l12
    have h4 := W.l12
    omega
theorem Ls.turn {hs : List Int} {ls : List (Int × Int)} (L : Ls hs ls) (t : Nat) : Ls hs (ls.drop t ++ ls.take t) where
  nd := by
    have p : (ls.drop t ++ ls.take t).Perm ls := List.perm_append_comm.trans (by rw [List.take_append_drop])
    exact p.nodup_iff.mpr L.nd
  ok := fun p hp => by
    rcases List.mem_append.mp hp with m | m
    · exact L.ok p (List.mem_of_mem_drop m)
    · exact L.ok p (List.mem_of_mem_take m)
  le := by
    have := L.le
    rw [List.length_append, List.length_drop, List.length_take]
    omega
theorem cut_lo {xs : List V} {t : Nat} (h : t ≤ xs.length) : cutV xs (some (t : Int)) none = xs.drop t := by
  unfold cutV
  rw [HT.sIx_nat, HT.sIx_none, Nat.min_eq_left h]
  exact List.take_of_length_le (by rw [List.length_drop]; exact Nat.le_refl _)
theorem cut_hi {xs : List V} {t : Nat} (h : t ≤ xs.length) : cutV xs none (some (t : Int)) = xs.take t := by
  unfold cutV
  rw [HT.sIx_nat, HT.sIx_none, Nat.min_eq_left h, List.drop_zero, Nat.sub_zero]
theorem Hs.shift {hs : List Int} {h0 : Int} {t : List Int} (W : Hs hs) (e : hs = h0 :: t) : Hs (hs.map fun h => h - h0) where
  l1 := by rw [List.length_map]; exact W.l1
  l12 := by rw [List.length_map]; exact W.l12
  up := by
    rw [List.pairwise_map]
    exact W.up.imp fun {a b} z => by omega
  lo := fun x hx => by
    obtain ⟨h, m, rfl⟩ := List.mem_map.mp hx
    subst e
    have up := W.up
    rw [List.pairwise_cons] at up
    rcases List.mem_cons.mp m with rfl | m
    · omega
    · have := up.1 h m; omega
  hi := fun x hx => by
    obtain ⟨h, m, rfl⟩ := List.mem_map.mp hx
    have := W.hi h m
    have := W.lo h0 (by rw [e]; exact List.mem_cons_self)
    omega
end K04

/-! K01a -/
set_option Elab.async false
set_option linter.all false
set_option maxRecDepth 100000
set_option maxHeartbeats 4000000
namespace K04
open PySem L2
def top (i : Nat) : Stmt := PySem.Challenge.pw_beatless_k01_webs_told.main.body.getD i (.Pass ⟨0, 0, 0, 0⟩)
abbrev st_is_whole : Stmt := top 7
abbrev st_are_hands : Stmt := top 11
abbrev st_is_line : Stmt := top 12
abbrev st_are_lines : Stmt := top 13
abbrev st_near_by_hand : Stmt := top 14
abbrev st__law_cell_at : Stmt := top 17
abbrev st__law_digit : Stmt := top 18
abbrev st__law_web : Stmt := top 19
abbrev st__law_is : Stmt := top 20
abbrev st__law_refused : Stmt := top 21
abbrev st__law_right : Stmt := top 22
abbrev st_law : Stmt := top 23
abbrev st_Web___init__ : Stmt := inClass (top 15) 0
abbrev st_Web_hands : Stmt := inClass (top 15) 1
abbrev st_Web_lines : Stmt := inClass (top 15) 2
abbrev st_Web_has_hand : Stmt := inClass (top 15) 3
abbrev st_Web_has_line : Stmt := inClass (top 15) 4
abbrev st_Web_neighbours : Stmt := inClass (top 15) 5
theorem sc_is_whole : FnScope ["value"] ["value"] (defScope st_is_whole) := ⟨rfl, rfl, rfl, by decide +kernel, rfl, by decide +kernel, by decide +kernel⟩
theorem sc_are_hands : FnScope ["hands", "ahead", "hand"] ["hands"] (defScope st_are_hands) := ⟨rfl, rfl, rfl, by decide +kernel, rfl, by decide +kernel, by decide +kernel⟩
theorem sc_is_line : FnScope ["line", "hands"] ["line", "hands"] (defScope st_is_line) := ⟨rfl, rfl, rfl, by decide +kernel, rfl, by decide +kernel, by decide +kernel⟩
theorem sc_are_lines : FnScope ["lines", "hands", "seen", "line"] ["lines", "hands"] (defScope st_are_lines) := ⟨rfl, rfl, rfl, by decide +kernel, rfl, by decide +kernel, by decide +kernel⟩
theorem sc_near_by_hand : FnScope ["hands", "lines", "near", "hand", "one", "other"] ["hands", "lines"] (defScope st_near_by_hand) := ⟨rfl, rfl, rfl, by decide +kernel, rfl, by decide +kernel, by decide +kernel⟩
theorem sc__law_cell_at : FnScope ["_law_script", "_law_k"] ["_law_script", "_law_k"] (defScope st__law_cell_at) := ⟨rfl, rfl, rfl, by decide +kernel, rfl, by decide +kernel, by decide +kernel⟩
theorem sc__law_digit : FnScope ["_law_state", "_law_base", "_law_cell", "_law_found", "_law_number"] ["_law_state", "_law_base"] (defScope st__law_digit) := ⟨rfl, rfl, rfl, by decide +kernel, rfl, by decide +kernel, by decide +kernel⟩
theorem sc__law_web : FnScope ["_law_state", "_law_hands", "_law_low", "_law_k", "_law_more", "_law_lines", "_law_thin", "_law_one", "_law_other", "_law_turn"] ["_law_state"] (defScope st__law_web) := ⟨rfl, rfl, rfl, by decide +kernel, rfl, by decide +kernel, by decide +kernel⟩
theorem sc__law_is : FnScope ["_law_found", "_law_due"] ["_law_found", "_law_due"] (defScope st__law_is) := ⟨rfl, rfl, rfl, by decide +kernel, rfl, by decide +kernel, by decide +kernel⟩
theorem sc__law_refused : FnScope ["_law_web_here", "_law_hand", "e"] ["_law_web_here", "_law_hand"] (defScope st__law_refused) := ⟨rfl, rfl, rfl, by decide +kernel, rfl, by decide +kernel, by decide +kernel⟩
theorem sc__law_right : FnScope ["_law_web_here", "_law_hands", "_law_lines", "_law_one", "_law_sides", "_law_other", "_law_joined"] ["_law_web_here", "_law_hands", "_law_lines"] (defScope st__law_right) := ⟨rfl, rfl, rfl, by decide +kernel, rfl, by decide +kernel, by decide +kernel⟩
theorem sc_law : FnScope ["_law_script", "_law_hands", "_law_lines", "_law_handed", "_law_web_here", "_law_odd"] ["_law_script"] (defScope st_law) := ⟨rfl, rfl, rfl, by decide +kernel, rfl, by decide +kernel, by decide +kernel⟩
theorem sc_Web___init__ : FnScope ["self", "hands", "lines"] ["self", "hands", "lines"] (defScope st_Web___init__) := ⟨rfl, rfl, rfl, by decide +kernel, rfl, by decide +kernel, by decide +kernel⟩
theorem sc_Web_hands : FnScope ["self"] ["self"] (defScope st_Web_hands) := ⟨rfl, rfl, rfl, by decide +kernel, rfl, by decide +kernel, by decide +kernel⟩
theorem sc_Web_lines : FnScope ["self"] ["self"] (defScope st_Web_lines) := ⟨rfl, rfl, rfl, by decide +kernel, rfl, by decide +kernel, by decide +kernel⟩
theorem sc_Web_has_hand : FnScope ["self", "hand"] ["self", "hand"] (defScope st_Web_has_hand) := ⟨rfl, rfl, rfl, by decide +kernel, rfl, by decide +kernel, by decide +kernel⟩
theorem sc_Web_has_line : FnScope ["self", "one", "other"] ["self", "one", "other"] (defScope st_Web_has_line) := ⟨rfl, rfl, rfl, by decide +kernel, rfl, by decide +kernel, by decide +kernel⟩
theorem sc_Web_neighbours : FnScope ["self", "hand"] ["self", "hand"] (defScope st_Web_neighbours) := ⟨rfl, rfl, rfl, by decide +kernel, rfl, by decide +kernel, by decide +kernel⟩
structure Ad where
  f_is_whole : Addr
  d_is_whole : FuncData
  f_are_hands : Addr
  d_are_hands : FuncData
  f_is_line : Addr
  d_is_line : FuncData
  f_are_lines : Addr
  d_are_lines : FuncData
  f_near_by_hand : Addr
  d_near_by_hand : FuncData
  f__law_cell_at : Addr
  d__law_cell_at : FuncData
  f__law_digit : Addr
  d__law_digit : FuncData
  f__law_web : Addr
  d__law_web : FuncData
  f__law_is : Addr
  d__law_is : FuncData
  f__law_refused : Addr
  d__law_refused : FuncData
  f__law_right : Addr
  d__law_right : FuncData
  f_law : Addr
  d_law : FuncData
  f_Web___init__ : Addr
  d_Web___init__ : FuncData
  f_Web_hands : Addr
  d_Web_hands : FuncData
  f_Web_lines : Addr
  d_Web_lines : FuncData
  f_Web_has_hand : Addr
  d_Web_has_hand : FuncData
  f_Web_has_line : Addr
  d_Web_has_line : FuncData
  f_Web_neighbours : Addr
  d_Web_neighbours : FuncData
  c_Web : Addr
  c_NoHand : Addr
  c_NoWeb : Addr
  c_NoLine : Addr
  t_MOST_HANDS : Tok
  t_LAST_HAND : Tok
structure Txt (K : PySem.W.Frag) (mg : Str → Option Value) (a : Ad) : Prop where
  n_len : mg "len" = none
  n_int : mg "int" = none
  n_min : mg "min" = none
  n_range : mg "range" = none
  n_isinstance : mg "isinstance" = none
  n_list : mg "list" = none
  n_sorted : mg "sorted" = none
  n_bool : mg "bool" = none
  n_tuple : mg "tuple" = none
  n_ValueError : mg "ValueError" = none
  F_is_whole : Fun K "is_whole" "is_whole" st_is_whole a.f_is_whole a.d_is_whole
  b_is_whole : Binds K a.d_is_whole ["value"] []
  g_is_whole : mg "is_whole" = some (.ref a.f_is_whole)
  F_are_hands : Fun K "are_hands" "are_hands" st_are_hands a.f_are_hands a.d_are_hands
  b_are_hands : Binds K a.d_are_hands ["hands"] []
  g_are_hands : mg "are_hands" = some (.ref a.f_are_hands)
  F_is_line : Fun K "is_line" "is_line" st_is_line a.f_is_line a.d_is_line
  b_is_line : Binds K a.d_is_line ["line", "hands"] []
  g_is_line : mg "is_line" = some (.ref a.f_is_line)
  F_are_lines : Fun K "are_lines" "are_lines" st_are_lines a.f_are_lines a.d_are_lines
  b_are_lines : Binds K a.d_are_lines ["lines", "hands"] []
  g_are_lines : mg "are_lines" = some (.ref a.f_are_lines)
  F_near_by_hand : Fun K "near_by_hand" "near_by_hand" st_near_by_hand a.f_near_by_hand a.d_near_by_hand
  b_near_by_hand : Binds K a.d_near_by_hand ["hands", "lines"] []
  g_near_by_hand : mg "near_by_hand" = some (.ref a.f_near_by_hand)
  F__law_cell_at : Fun K "_law_cell_at" "_law_cell_at" st__law_cell_at a.f__law_cell_at a.d__law_cell_at
  b__law_cell_at : Binds K a.d__law_cell_at ["_law_script", "_law_k"] []
  g__law_cell_at : mg "_law_cell_at" = some (.ref a.f__law_cell_at)
  F__law_digit : Fun K "_law_digit" "_law_digit" st__law_digit a.f__law_digit a.d__law_digit
  b__law_digit : Binds K a.d__law_digit ["_law_state", "_law_base"] []
  g__law_digit : mg "_law_digit" = some (.ref a.f__law_digit)
  F__law_web : Fun K "_law_web" "_law_web" st__law_web a.f__law_web a.d__law_web
  b__law_web : Binds K a.d__law_web ["_law_state"] []
  g__law_web : mg "_law_web" = some (.ref a.f__law_web)
  F__law_is : Fun K "_law_is" "_law_is" st__law_is a.f__law_is a.d__law_is
  b__law_is : Binds K a.d__law_is ["_law_found", "_law_due"] []
  g__law_is : mg "_law_is" = some (.ref a.f__law_is)
  F__law_refused : Fun K "_law_refused" "_law_refused" st__law_refused a.f__law_refused a.d__law_refused
  b__law_refused : Binds K a.d__law_refused ["_law_web_here", "_law_hand"] []
  g__law_refused : mg "_law_refused" = some (.ref a.f__law_refused)
  F__law_right : Fun K "_law_right" "_law_right" st__law_right a.f__law_right a.d__law_right
  b__law_right : Binds K a.d__law_right ["_law_web_here", "_law_hands", "_law_lines"] []
  g__law_right : mg "_law_right" = some (.ref a.f__law_right)
  F_law : Fun K "law" "law" st_law a.f_law a.d_law
  b_law : Binds K a.d_law ["_law_script"] []
  b0_law : ∀ (s : Shared) (u : Value), BindsTo s a.d_law ⟨[u], []⟩ [("_law_script", u)]
  g_law : mg "law" = some (.ref a.f_law)
  F_Web___init__ : Fun K "__init__" "Web.__init__" st_Web___init__ a.f_Web___init__ a.d_Web___init__
  b_Web___init__ : Binds K a.d_Web___init__ ["self", "hands", "lines"] []
  F_Web_hands : Fun K "hands" "Web.hands" st_Web_hands a.f_Web_hands a.d_Web_hands
  b_Web_hands : Binds K a.d_Web_hands ["self"] []
  mt_Web_hands : Meth K a.c_Web "hands" a.f_Web_hands
  F_Web_lines : Fun K "lines" "Web.lines" st_Web_lines a.f_Web_lines a.d_Web_lines
  b_Web_lines : Binds K a.d_Web_lines ["self"] []
  mt_Web_lines : Meth K a.c_Web "lines" a.f_Web_lines
  F_Web_has_hand : Fun K "has_hand" "Web.has_hand" st_Web_has_hand a.f_Web_has_hand a.d_Web_has_hand
  b_Web_has_hand : Binds K a.d_Web_has_hand ["self", "hand"] []
  mt_Web_has_hand : Meth K a.c_Web "has_hand" a.f_Web_has_hand
  F_Web_has_line : Fun K "has_line" "Web.has_line" st_Web_has_line a.f_Web_has_line a.d_Web_has_line
  b_Web_has_line : Binds K a.d_Web_has_line ["self", "one", "other"] []
  mt_Web_has_line : Meth K a.c_Web "has_line" a.f_Web_has_line
  F_Web_neighbours : Fun K "neighbours" "Web.neighbours" st_Web_neighbours a.f_Web_neighbours a.d_Web_neighbours
  b_Web_neighbours : Binds K a.d_Web_neighbours ["self", "hand"] []
  mt_Web_neighbours : Meth K a.c_Web "neighbours" a.f_Web_neighbours
  g_Web : mg "Web" = some (.ref a.c_Web)
  cl_Web : Cls K a.c_Web
  mk_Web : Mk K a.c_Web a.f_Web___init__
  ty_Web : ∀ (H : Hp) (p dx : Addr) (fs : List (Str × V)), H p = some (.ins a.c_Web dx fs) → TyOf K H (.ref p) (.ref a.c_Web)
  na_Web_own_hands : NoAttr K a.c_Web "own_hands"
  na_Web_own_lines : NoAttr K a.c_Web "own_lines"
  na_Web_near : NoAttr K a.c_Web "near"
  k_tint_tint : PySem.W.kitOne K (.type "int") (.type "int") = some true
  k_tint_tbool : PySem.W.kitOne K (.type "int") (.type "bool") = some false
  k_tbool_tint : PySem.W.kitOne K (.type "bool") (.type "int") = some true
  k_tbool_tbool : PySem.W.kitOne K (.type "bool") (.type "bool") = some true
  k_tstr_tint : PySem.W.kitOne K (.type "str") (.type "int") = some false
  k_tNoneType_tint : PySem.W.kitOne K (.type "NoneType") (.type "int") = some false
  k_ttuple_tint : PySem.W.kitOne K (.type "tuple") (.type "int") = some false
  k_tlist_tint : PySem.W.kitOne K (.type "list") (.type "int") = some false
  k_tlist_tlist : PySem.W.kitOne K (.type "list") (.type "list") = some true
  k_ttuple_ttuple : PySem.W.kitOne K (.type "tuple") (.type "tuple") = some true
  k_NoHand_NoWeb : PySem.W.kitOne K (.ref a.c_NoHand) (.ref a.c_NoWeb) = some false
  k_NoHand_NoLine : PySem.W.kitOne K (.ref a.c_NoHand) (.ref a.c_NoLine) = some false
  k_NoHand_tValueError : PySem.W.kitOne K (.ref a.c_NoHand) (.type "ValueError") = some true
  g_MOST_HANDS : mg "MOST_HANDS" = some (.int 12 a.t_MOST_HANDS)
  g_LAST_HAND : mg "LAST_HAND" = some (.int 99 a.t_LAST_HAND)
  g_NoHand : mg "NoHand" = some (.ref a.c_NoHand)
  xc_NoHand : XCls K a.c_NoHand
  g_NoWeb : mg "NoWeb" = some (.ref a.c_NoWeb)
  g_NoLine : mg "NoLine" = some (.ref a.c_NoLine)
  xi_NoHand : XIs K a.c_NoHand
end K04

/-! K01b -/
set_option Elab.async false
set_option linter.all false
set_option maxRecDepth 100000
set_option maxHeartbeats 4000000
namespace K04
open PySem L2
section
variable {P : Program} {w : World} {K : PySem.W.Frag} {mg : Str → Option Value} {base : Heap} {a : Ad}
def spDigit : Sp := fun vs H Q _ => ∃ (l : Addr) (n : Int), vs = [.ref l, .int n] ∧ StAt H l ∧ 0 < n ∧ n.natAbs.log2 < 9000 ∧ ∀ (d : Int) (H' : Hp), 0 ≤ d → d < n → StAt H' l → Ext l H H' → Q (.int d) H'
theorem ok_digit (T : Txt K mg a) : FnOk P w K mg base CX0 1 a.f__law_digit a.d__law_digit ["_law_state", "_law_base"] spDigit := by
  refine T.F__law_digit.ok sc__law_digit (fun vs H Q E h => ?_) (fun cdv A outer s H vs Q E hr h => ?_)
  · obtain ⟨l, n, rfl, _⟩ := h
    rfl
  · obtain ⟨l, n, rfl, ⟨st, hst, ok⟩, hn, hlog, k⟩ := h
    refine bx_in (w_pss_cut (w_ps_if (w_pt_cmpR op_eq (w_pe_callB call_len_seq (by rfl) T.n_len bt_len (w_pa_N (w_pv 0) w_pa_nil)) w_pe_int (nomark _))
        (w_pss_cons (w_ps_set (i := 2) sc__law_digit.nd rfl (Or.inl rfl) (w_pe_ix ix_list (w_pv 0) w_pe_int (fun _ _ => rfl)))
        (w_pss_cons (w_ps_asg (w_pe_op op_mul (w_pv 2) (w_pe_callTy call_int1 (by rfl) T.n_int bt_int (w_pa_cons (w_pe_cmpR op_ge (w_pv 2) (w_pe_op op_pow w_pe_int w_pe_int) (nomark _)) w_pa_nil))) (w_pg_sub (w_pv 0) w_pe_int set_list))
        (w_pss_one (w_ps_expr (w_pe_bm PySem.F.plainAttrs_list PySem.F.slot_list_extend PySem.F.type_list_extend mt_extend (w_pv 0) (w_pa_cons (w_pe_lst (w_pa_B (w_pe_op op_mod (w_pv 2) w_pe_int) (w_pa_C w_pe_int w_pa_nil))) w_pa_nil))))))
        w_pss_nil)
      (w_pss_cons (w_ps_if (w_pt_cmpR op_gt (w_pe_ix ix_list (w_pv 0) w_pe_int (fun _ _ => rfl)) w_pe_int (nomark _))
        (w_pss_cons (w_ps_set (i := 3) sc__law_digit.nd rfl (Or.inl rfl) (w_pe_op op_mod (w_pe_ix ix_list (w_pv 0) w_pe_int (fun _ _ => rfl)) (w_pv 1)))
        (w_pss_cons (w_ps_asg (w_pe_op op_fdivG (w_pe_ix ix_list (w_pv 0) w_pe_int (fun _ _ => rfl)) (w_pv 1)) (w_pg_sub (w_pv 0) w_pe_int set_list))
        (w_pss_one (w_ps_ret (w_pv 3)))))
        w_pss_nil)
      (w_pss_cons (w_ps_asg (w_pe_op op_add (w_pe_ix ix_list (w_pv 0) w_pe_int (fun _ _ => rfl)) w_pe_int) (w_pg_sub (w_pv 0) w_pe_int set_list))
      (w_pss_cons (w_ps_set (i := 4) sc__law_digit.nd rfl (Or.inl rfl) (w_pe_op op_mod (w_pe_op op_mul (w_pe_op op_add (w_pe_op op_add (w_pe_ix ix_list (w_pv 0) w_pe_int (fun _ _ => rfl)) (w_pe_op op_mul w_pe_int (w_pe_ix ix_list (w_pv 0) w_pe_int (fun _ _ => rfl)))) w_pe_int) w_pe_int) w_pe_int))
      (w_pss_cons (w_ps_set (i := 4) sc__law_digit.nd rfl (Or.inl rfl) (w_pe_op op_mod (w_pe_op op_mul (w_pv 4) (w_pe_op op_add (w_pe_op op_fdivG (w_pv 4) w_pe_int) w_pe_int)) w_pe_int))
      (w_pss_one (w_ps_ret (w_pe_op op_mod (w_pe_op op_mod (w_pe_op op_mul (w_pv 4) (w_pe_op op_add (w_pe_op op_fdivG (w_pv 4) w_pe_int) w_pe_int)) w_pe_int) (w_pv 1))))))))) ?_
    refine ⟨fun σ' H' => ∃ (c0 : Option V) (x y z : Int), σ' = [some (.ref l), some (.int n), c0, none, none] ∧ H' l = some (.lst [.int x, .int y, .int z]) ∧ Ext l H H', ?_, ?_⟩
    · -- if len(_law_state) == 1:
      refine ⟨_, rfl, l, st, rfl, .inl (SqL.of hst), rfl, _, rfl, ?_⟩
      rcases ok with ⟨x, rfl⟩ | ⟨x, y, z, rfl⟩
      · refine iteB rfl ?_
        refine ⟨_, rfl, l, _, 0, _, rfl, rfl, SqL.of hst, rfl, _, rfl, _, rfl, _, _, rfl, rfl, ⟨by decide, by decide, by decide⟩, _, _, rfl, rfl, .inr ⟨_, rfl, _, _, rfl, rfl, .inr (b01 _), _, rfl, l, _, 0, 0, rfl, rfl, hst, rfl, ?_⟩⟩
        · refine ⟨_, rfl, .inl ⟨rfl, _, SqL.of upd_same⟩, _, rfl, _, _, rfl, rfl, (by show (0 : Int) < 2147483647; decide), (by show 2 ≤ sizeLine; decide), fun p hp => ?_⟩
          have hpl : p ≠ l := by
            intro z
            rw [z, upd_same] at hp
            cases hp
          have hp0 : H p = none := by rw [upd_ne hpl] at hp; exact hp
          refine ⟨l, p, [_], [_, _], rfl, rfl, (upd_ne hpl.symm).trans upd_same, upd_same, (by show 1 + 2 ≤ sizeLine; decide), ?_⟩
          refine ⟨_, _, _, _, rfl, upd_same, fun b o e nb => ?_⟩
          rw [upd_ne nb, upd_ne (ne_of_none e hp0), upd_ne nb]
          exact e
      · refine iteN rfl ?_
        exact ⟨none, x, y, z, rfl, hst, Ext.refl⟩
    · rintro σ' H1 ⟨c0, x, y, z, rfl, hst, hx⟩
      -- if _law_state[0] > 0:
      refine ⟨_, rfl, l, _, 0, _, rfl, rfl, SqL.of hst, rfl, _, _, rfl, rfl, _, rfl, ?_⟩
      refine ite2 (fun q => ?_) (fun q => ?_)
      · refine ⟨_, rfl, l, _, 0, _, rfl, rfl, SqL.of hst, rfl, _, rfl, _, _, rfl, rfl, hn, _, rfl, l, _, 0, _, rfl, rfl, SqL.of hst, rfl, _, rfl, _, _, rfl, rfl, ⟨hn, hlog⟩, _, rfl, l, _, 0, 0, rfl, rfl, hst, rfl, _, rfl, ?_⟩
        exact k _ _ (Int.emod_nonneg _ (Int.ne_of_gt hn)) (Int.emod_lt_of_pos _ hn) ⟨_, upd_same, .inr ⟨_, _, _, rfl⟩⟩ (hx.trans Ext.at)
      · refine ⟨_, rfl, l, _, 2, _, rfl, rfl, SqL.of hst, rfl, _, _, rfl, rfl, _, rfl, l, _, 2, 2, rfl, rfl, hst, rfl, ?_⟩
        refine ⟨_, rfl, l, _, 1, _, rfl, rfl, SqL.of upd_same, rfl, _, rfl, l, _, 2, _, rfl, rfl, SqL.of upd_same, rfl, _, _, rfl, rfl, .inl ⟨by decide, by decide⟩, _, _, rfl, rfl, _, _, rfl, rfl, _, _, rfl, rfl, .inr ⟨by decide, by decide⟩, _, _, rfl, rfl, (by show (0 : Int) < 2147483647; decide), ?_⟩
        generalize hv : (y + 7919 * (z + 1) + 1) * 48271 % 2147483647 = v
        have v1 : 0 ≤ v := by rw [← hv]; exact Int.emod_nonneg _ (by decide)
        have v2 : v < 2147483647 := by rw [← hv]; exact Int.emod_lt_of_pos _ (by decide)
        refine ⟨_, rfl, _, rfl, _, _, rfl, rfl, ⟨by show (0 : Int) < 1009; decide, log_1009⟩, _, _, rfl, rfl, _, _, rfl, rfl, .inl ⟨by omega, by omega⟩, _, _, rfl, rfl, (by show (0 : Int) < 2147483647; decide), ?_⟩
        generalize hu : v * (v / 1009 + 69621) % 2147483647 = u
        have u1 : 0 ≤ u := by rw [← hu]; exact Int.emod_nonneg _ (by decide)
        have u2 : u < 2147483647 := by rw [← hu]; exact Int.emod_lt_of_pos _ (by decide)
        refine ⟨_, rfl, _, rfl, _, _, rfl, rfl, ⟨by show (0 : Int) < 2003; decide, log_2003⟩, _, _, rfl, rfl, _, _, rfl, rfl, .inl ⟨by omega, by omega⟩, _, _, rfl, rfl, (by show (0 : Int) < 2147483399; decide), _, rfl, _, _, rfl, rfl, hn, ?_⟩
        exact k _ _ (Int.emod_nonneg _ (Int.ne_of_gt hn)) (Int.emod_lt_of_pos _ hn) ⟨_, upd_same, .inr ⟨_, _, _, rfl⟩⟩ (hx.trans Ext.at)
def spCell (K : PySem.W.Frag) : Sp := fun vs H Q _ => ∃ (l : Addr) (ns : List Int) (k : Int), vs = [.ref l, .int k] ∧ SqL K H l (ns.map V.int) ∧ 0 ≤ k ∧ ∀ i : Int, Q (.int i) H
theorem ok_cell (T : Txt K mg a) : FnOk P w K mg base CX0 1 a.f__law_cell_at a.d__law_cell_at ["_law_script", "_law_k"] (spCell K) := by
  refine T.F__law_cell_at.ok sc__law_cell_at (fun vs H Q E h => ?_) (fun cdv A outer s H vs Q E hr h => ?_)
  · obtain ⟨l, ns, k, rfl, _⟩ := h
    rfl
  · obtain ⟨l, ns, k, rfl, hl, k0, q⟩ := h
    refine bx_in (w_pss_cons (w_ps_if (w_pt_cmpR op_lt (w_pv 1) (w_pe_callB call_len_seq (by rfl) T.n_len bt_len (w_pa_N (w_pv 0) w_pa_nil)) (nomark _))
        (w_pss_one (w_ps_ret (w_pe_ix ix_list (w_pv 0) (w_pv 1) (fun _ _ => rfl))))
        w_pss_nil)
      (w_pss_one (w_ps_ret w_pe_int))) ?_
    refine ⟨_, rfl, _, rfl, l, _, rfl, .inl hl, _, _, rfl, rfl, _, rfl, ?_⟩
    rw [List.length_map]
    refine ite2 (fun z => ?_) (fun z => ?_)
    · have z : k < ns.length := of_decide_eq_true z
      obtain ⟨n, rfl⟩ : ∃ n : Nat, k = n := ⟨k.toNat, by omega⟩
      have hn : n < ns.length := by omega
      refine ⟨_, rfl, _, rfl, l, _, _, V.int ns[n], rfl, rfl, hl, atI_nat (by simp [hn]), ?_⟩
      exact q _
    · exact q 0
end
end K04

/-! K01c -/
set_option Elab.async false
set_option linter.all false
set_option maxRecDepth 100000
set_option maxHeartbeats 4000000
namespace K04
open PySem L2
def LnAt (H : Hp) (rs : List V) (ls : List (Int × Int)) : Prop := rs.length = ls.length ∧ ∀ (i : Nat) r p, rs[i]? = some r → ls[i]? = some p → ∃ q, r = .ref q ∧ H q = some (.tup [.int p.1, .int p.2])
theorem LnAt.same {H H' : Hp} {rs : List V} {ls : List (Int × Int)} (h : LnAt H rs ls) (s : Same H H') : LnAt H' rs ls := ⟨h.1, fun i r p h1 h2 => by
  obtain ⟨q, e, t⟩ := h.2 i r p h1 h2
  exact ⟨q, e, s _ _ t⟩⟩
theorem LnAt.get {H : Hp} {rs : List V} {ls : List (Int × Int)} (h : LnAt H rs ls) {i : Nat} {r : V} (e : rs[i]? = some r) : ∃ p q, ls[i]? = some p ∧ r = .ref q ∧ H q = some (.tup [.int p.1, .int p.2]) := by
  have hi : i < ls.length := by rw [← h.1]; exact (List.getElem?_eq_some_iff.mp e).1
  have hp : ls[i]? = some ls[i] := by simp [hi]
  obtain ⟨q, e1, e2⟩ := h.2 i r _ e hp
  exact ⟨_, q, hp, e1, e2⟩
theorem inV_int {x : Int} : ∀ {ns : List Int}, inV (.int x) (ns.map V.int) = decide (x ∈ ns)
  | [] => by simp [inV]
  | n :: ns => by
    have ih := inV_int (x := x) (ns := ns)
    unfold inV at ih ⊢
    rw [List.map_cons, List.any_cons, ih]
    show ((n == x) || decide (x ∈ ns)) = decide (x ∈ n :: ns)
    by_cases e : n = x
    · simp [e]
    · have e' : ¬ x = n := fun z => e z.symm
      simp [e, e']
theorem flat_ints (ns : List Int) : (ns.map V.int).all flatV = true := by
  rw [List.all_eq_true]
  intro v hv
  obtain ⟨x, _, rfl⟩ := List.mem_map.mp hv
  rfl
section
variable {P : Program} {w : World} {K : PySem.W.Frag} {mg : Str → Option Value} {base : Heap} {a : Ad}
def spWhole : Sp := fun vs H Q _ => ∃ i : Int, vs = [.int i] ∧ Q (.bl true) H
theorem ok_whole (T : Txt K mg a) : FnOk P w K mg base CX0 1 a.f_is_whole a.d_is_whole ["value"] spWhole := by
  refine T.F_is_whole.ok sc_is_whole (fun vs H Q E h => ?_) (fun cdv A outer s H vs Q E hr h => ?_)
  · obtain ⟨i, rfl, _⟩ := h
    rfl
  · obtain ⟨i, rfl, k⟩ := h
    refine bx_in (w_pss_one (w_ps_ret (w_pe_and (w_pe_callB call_isi (by rfl) T.n_isinstance bt_isinstance (w_pa_N (w_pv 0) (w_pa_N (w_pe_bty T.n_int bt_int) w_pa_nil))) (w_pe_one (w_pe_not (w_pe_callB call_isi (by rfl) T.n_isinstance bt_isinstance (w_pa_N (w_pv 0) (w_pa_N (w_pe_bty T.n_bool bt_bool) w_pa_nil)))))))) ?_
    refine ⟨_, rfl, _, _, _, _, _, rfl, rfl, .int i, T.k_tint_tint, _, rfl, iteT ?_⟩
    exact ⟨_, rfl, _, _, _, _, _, rfl, rfl, .int i, T.k_tint_tbool, _, rfl, k⟩
def spHands : Sp := fun vs H Q _ => ∃ (h : Addr) (hs : List Int), vs = [.ref h] ∧ H h = some (.lst (hs.map V.int)) ∧ Hs hs ∧ Q (.bl true) H
theorem ok_hands (T : Txt K mg a) : FnOk P w K mg base CX0 2 a.f_are_hands a.d_are_hands ["hands"] spHands := by
  have c_is_whole : Callee P w K mg base "is_whole" a.f_is_whole a.d_is_whole ["value"] 1 spWhole := ⟨ok_whole T, T.g_is_whole, T.F_is_whole.kp, T.b_is_whole⟩
  refine T.F_are_hands.ok sc_are_hands (fun vs H Q E h => ?_) (fun cdv A outer s H vs Q E hr h => ?_)
  · obtain ⟨h, hs, rfl, _⟩ := h
    rfl
  · obtain ⟨h, hs, rfl, hh, W, k⟩ := h
    have w1 := W.l1
    have w12 := W.l12
    refine bx_in (w_pss_cons (w_ps_if (w_pt (w_pw_or (w_pt_not (w_pt_val (w_pe_callB call_isi (by rfl) T.n_isinstance bt_isinstance (w_pa_N (w_pv 0) (w_pa_N (w_pe_bty T.n_list bt_list) w_pa_nil))))) (w_pw_or (w_pt_cmpR op_lt (w_pe_callB call_len_seq (by rfl) T.n_len bt_len (w_pa_N (w_pv 0) w_pa_nil)) w_pe_int (nomark _)) (w_pw_or1 (w_pt_cmpR op_gt (w_pe_callB call_len_seq (by rfl) T.n_len bt_len (w_pa_N (w_pv 0) w_pa_nil)) (w_pe_glob (v := .int 12) rfl T.g_MOST_HANDS ⟨_, rfl⟩) (nomark _))))))
        (w_pss_one (w_ps_ret w_pe_bl))
        w_pss_nil)
      (w_pss_cons (w_ps_set (i := 1) sc_are_hands.nd rfl (Or.inl rfl) (w_pe_un un_neg w_pe_int))
      (w_pss_cons (w_ps_for PassesOwn.never rfl (w_pi_list (w_pv 0)) (w_pg_name (i := 2) sc_are_hands.nd rfl (Or.inl rfl))
        (w_pss_cons (w_ps_if (w_pt (w_pw_or (w_pt_not (w_pt_val (w_pe_c c_is_whole (hr.mono (by omega)) (w_pa_N (w_pv 2) w_pa_nil)))) (w_pw_or (w_pt_cmpR op_le (w_pv 2) (w_pv 1) (nomark _)) (w_pw_or1 (w_pt_cmpR op_gt (w_pv 2) (w_pe_glob (v := .int 99) rfl T.g_LAST_HAND ⟨_, rfl⟩) (nomark _))))))
          (w_pss_one (w_ps_ret w_pe_bl))
          w_pss_nil)
        (w_pss_one (w_ps_set (i := 1) sc_are_hands.nd rfl (Or.inl rfl) (w_pv 2)))))
      (w_pss_one (w_ps_ret w_pe_bl))))) ?_
    refine ⟨_, rfl, _, _, _, _, _, rfl, rfl, .lst hh, T.k_tlist_tlist, _, rfl, iteN rfl ?_⟩
    refine ⟨_, rfl, h, _, rfl, .inl (SqL.of hh), _, _, rfl, rfl, _, rfl, iteN (decide_eq_false (by rw [List.length_map]; omega)) ?_⟩
    refine ⟨_, rfl, h, _, rfl, .inl (SqL.of hh), _, _, rfl, rfl, _, rfl, iteN (decide_eq_false (by rw [List.length_map]; omega)) ?_⟩
    refine ⟨1, rfl, _, rfl, h, rfl, ⟨_, SqL.of hh⟩, ?_⟩
    refine for_list (K := K) (a := h) (xs := hs.map V.int) (fun i σ H' => H' = H ∧ ∃ (m : Int) (o : Option V), σ = [some (.ref h), some (.int m), o] ∧ -1 ≤ m ∧ ∀ j x, i ≤ j → hs[j]? = some x → m < x) ?_ ?_ ?_ ?_
    · refine ⟨rfl, -1, none, rfl, Int.le_refl _, fun j x _ hx => ?_⟩
      have := W.lo x (List.mem_of_getElem? hx)
      omega
    · rintro i σ H' _ ⟨rfl, _⟩
      exact SqL.of hh
    · rintro i x σ H' hi ⟨rfl, m, o, rfl, hm, hall⟩
      rw [List.getElem?_map] at hi
      obtain ⟨y, hy, rfl⟩ := Option.map_eq_some_iff.mp hi
      have y1 := hall i y (Nat.le_refl _) hy
      have y2 := W.hi y (List.mem_of_getElem? hy)
      refine ⟨_, rfl, y, rfl, _, rfl, iteN rfl ?_⟩
      refine ⟨_, rfl, _, rfl, _, _, rfl, rfl, _, rfl, iteN (decide_eq_false (by omega)) ?_⟩
      refine ⟨_, rfl, _, _, rfl, rfl, _, rfl, iteN (decide_eq_false (by omega)) ?_⟩
      refine ⟨_, rfl, rfl, y, _, rfl, by omega, fun j z hj hz => ?_⟩
      have hlt : i < j := by omega
      obtain ⟨b1, e1⟩ := List.getElem?_eq_some_iff.mp hy
      obtain ⟨b2, e2⟩ := List.getElem?_eq_some_iff.mp hz
      rw [← e1, ← e2]
      exact List.pairwise_iff_getElem.mp W.up i j b1 b2 hlt
    · rintro σ H' ⟨rfl, _⟩
      exact k
def spLine : Sp := fun vs H Q _ => ∃ (q h : Addr) (hs : List Int) (p : Int × Int), vs = [.ref q, .ref h] ∧ H q = some (.tup [.int p.1, .int p.2]) ∧ H h = some (.lst (hs.map V.int)) ∧ (p.1 ∈ hs ∧ p.2 ∈ hs ∧ p.1 < p.2) ∧ Q (.bl true) H
theorem ok_line (T : Txt K mg a) : FnOk P w K mg base CX0 2 a.f_is_line a.d_is_line ["line", "hands"] spLine := by
  have c_is_whole : Callee P w K mg base "is_whole" a.f_is_whole a.d_is_whole ["value"] 1 spWhole := ⟨ok_whole T, T.g_is_whole, T.F_is_whole.kp, T.b_is_whole⟩
  refine T.F_is_line.ok sc_is_line (fun vs H Q E h => ?_) (fun cdv A outer s H vs Q E hr h => ?_)
  · obtain ⟨q, h, hs, p, rfl, _⟩ := h
    rfl
  · obtain ⟨q, h, hs, ⟨x, y⟩, rfl, hq, hh, ⟨h1, h2, h3⟩, k⟩ := h
    dsimp only at hq h1 h2 h3
    refine bx_in (w_pss_cons (w_ps_if (w_pt (w_pw_or (w_pt_not (w_pt_val (w_pe_callB call_isi (by rfl) T.n_isinstance bt_isinstance (w_pa_N (w_pv 0) (w_pa_N (w_pe_bty T.n_tuple bt_tuple) w_pa_nil))))) (w_pw_or1 (w_pt_cmpR op_ne (w_pe_callB call_len_seq (by rfl) T.n_len bt_len (w_pa_N (w_pv 0) w_pa_nil)) w_pe_int (nomark _)))))
        (w_pss_one (w_ps_ret w_pe_bl))
        w_pss_nil)
      (w_pss_cons (w_ps_if (w_pt (w_pw_or (w_pt_not (w_pt_val (w_pe_c c_is_whole (hr.mono (by omega)) (w_pa_cons (w_pe_ix ix_tup (w_pv 0) w_pe_int (fun _ _ => rfl)) w_pa_nil)))) (w_pw_or1 (w_pt_not (w_pt_val (w_pe_c c_is_whole (hr.mono (by omega)) (w_pa_cons (w_pe_ix ix_tup (w_pv 0) w_pe_int (fun _ _ => rfl)) w_pa_nil)))))))
        (w_pss_one (w_ps_ret w_pe_bl))
        w_pss_nil)
      (w_pss_one (w_ps_ret (w_pe_and (w_pe_cmpR op_in_seq (w_pe_ix ix_tup (w_pv 0) w_pe_int (fun _ _ => rfl)) (w_pv 1) (by with_unfolding_all rfl)) (w_pe_and (w_pe_cmpR op_in_seq (w_pe_ix ix_tup (w_pv 0) w_pe_int (fun _ _ => rfl)) (w_pv 1) (by with_unfolding_all rfl)) (w_pe_one (w_pe_cmpR op_lt (w_pe_ix ix_tup (w_pv 0) w_pe_int (fun _ _ => rfl)) (w_pe_ix ix_tup (w_pv 0) w_pe_int (fun _ _ => rfl)) (nomark _))))))))) ?_
    refine ⟨_, rfl, _, _, _, _, _, rfl, rfl, .tup hq, T.k_ttuple_ttuple, _, rfl, iteN rfl ?_⟩
    refine ⟨_, rfl, q, _, rfl, .inr (SqT.of hq), rfl, _, rfl, iteN rfl ?_⟩
    refine ⟨_, rfl, q, _, 0, _, rfl, rfl, SqT.of hq, rfl, x, rfl, _, rfl, iteN rfl ?_⟩
    refine ⟨_, rfl, q, _, 1, _, rfl, rfl, SqT.of hq, rfl, y, rfl, _, rfl, iteN rfl ?_⟩
    refine ⟨_, rfl, q, _, 0, _, rfl, rfl, SqT.of hq, rfl, _, rfl, h, _, rfl, .inl (SqL.of hh), rfl, flat_ints hs, _, rfl, iteB (by show inV (.int x) _ = true; rw [inV_int]; exact decide_eq_true h1) ?_⟩
    refine ⟨_, rfl, q, _, 1, _, rfl, rfl, SqT.of hq, rfl, _, rfl, h, _, rfl, .inl (SqL.of hh), rfl, flat_ints hs, _, rfl, iteB (by show inV (.int y) _ = true; rw [inV_int]; exact decide_eq_true h2) ?_⟩
    refine ⟨_, rfl, q, _, 0, _, rfl, rfl, SqT.of hq, rfl, _, rfl, q, _, 1, _, rfl, rfl, SqT.of hq, rfl, _, _, rfl, rfl, ?_⟩
    show Q (.bl (decide (x < y))) H
    rw [decide_eq_true h3]
    exact k
end
end K04

/-! K01d -/
set_option Elab.async false
set_option linter.all false
set_option maxRecDepth 100000
set_option maxHeartbeats 4000000
namespace K04
open PySem L2
section
variable {κ : Type} [DecidableEq κ]
theorem valV_some {kvs : List (κ × V)} {k : κ} : (valV kvs k).isSome = decide (k ∈ kvs.map (·.1)) := by
  rw [← valV_any]
  by_cases h : k ∈ kvs.map (·.1)
  · rw [decide_eq_true h, List.any_eq_true]
    obtain ⟨p, hp, rfl⟩ := List.mem_map.mp h
    exact ⟨p, hp, decide_eq_true rfl⟩
  · rw [decide_eq_false h, List.any_eq_false]
    intro p hp e
    exact h (List.mem_map.mpr ⟨p, hp, of_decide_eq_true e⟩)
theorem valV_yes {kvs : List (κ × V)} {k : κ} (h : k ∈ kvs.map (·.1)) : (valV kvs k).isSome = true := by rw [valV_some]; exact decide_eq_true h
theorem valV_no {kvs : List (κ × V)} {k : κ} (h : k ∉ kvs.map (·.1)) : (valV kvs k).isSome = false := by rw [valV_some]; exact decide_eq_false h
theorem putK_new {kvs : List (κ × V)} {k : κ} {v : V} (h : k ∉ kvs.map (·.1)) : putK kvs k v = kvs ++ [(k, v)] := by
  unfold putK
  rw [if_neg]
  rw [valV_any, valV_some, decide_eq_true_iff]
  exact h
end
theorem _root_.L2.Same.updF {p : Addr} {H H' : Hp} {o : HO} (x : Same H H') (h : H p = none) : Same H (L2.upd H' p o) := fun b u e => by
  rw [upd_ne (ne_of_none e h)]; exact x b u e
abbrev key2 (p : Int × Int) : List Key := [Sum.inl p.1, Sum.inl p.2]
theorem key2_inj {p q : Int × Int} (h : key2 p = key2 q) : p = q := by
  obtain ⟨a, b⟩ := p
  obtain ⟨c, d⟩ := q
  simp [key2] at h
  rw [h.1, h.2]
theorem nd_take {α : Type} {xs : List α} {i : Nat} {x : α} (h : xs.Nodup) (e : xs[i]? = some x) : x ∉ xs.take i := by
  intro m
  obtain ⟨j, hj, ej⟩ := List.getElem_of_mem m
  obtain ⟨hi, ei⟩ := List.getElem?_eq_some_iff.mp e
  rw [List.getElem_take] at ej
  rw [List.length_take] at hj
  have := (List.nodup_iff_pairwise_ne.mp h)
  exact List.pairwise_iff_getElem.mp this j i (by omega) hi (by omega) (ej.trans ei.symm)
section
variable {P : Program} {w : World} {K : PySem.W.Frag} {mg : Str → Option Value} {base : Heap} {a : Ad}
def spLines : Sp := fun vs H Q _ => ∃ (l h : Addr) (rs : List V) (hs : List Int) (ls : List (Int × Int)), vs = [.ref l, .ref h] ∧ H l = some (.lst rs) ∧ LnAt H rs ls ∧ H h = some (.lst (hs.map V.int)) ∧ Ls hs ls ∧ ∀ H', Same H H' → Q (.bl true) H'
theorem ok_lines (T : Txt K mg a) : FnOk P w K mg base CX0 3 a.f_are_lines a.d_are_lines ["lines", "hands"] spLines := by
  have c_is_line : Callee P w K mg base "is_line" a.f_is_line a.d_is_line ["line", "hands"] 2 spLine := ⟨ok_line T, T.g_is_line, T.F_is_line.kp, T.b_is_line⟩
  refine T.F_are_lines.ok sc_are_lines (fun vs H Q E h => ?_) (fun cdv A outer s H vs Q E hr h => ?_)
  · obtain ⟨l, h, rs, hs, ls, rfl, _⟩ := h
    rfl
  · obtain ⟨l, h, rs, hs, ls, rfl, hl, hrs, hh, L, k⟩ := h
    have l66 := L.le
    have hu := hu_of hr
    refine bx_in (w_pss_cons (w_ps_if (w_pt_not (w_pt_val (w_pe_callB call_isi (by rfl) T.n_isinstance bt_isinstance (w_pa_N (w_pv 0) (w_pa_N (w_pe_bty T.n_list bt_list) w_pa_nil)))))
        (w_pss_one (w_ps_ret w_pe_bl))
        w_pss_nil)
      (w_pss_cons (w_ps_set (i := 2) sc_are_lines.nd rfl (Or.inl rfl) w_pe_dnewT)
      (w_pss_cons (w_ps_for PassesOwn.never rfl (w_pi_list (w_pv 0)) (w_pg_name (i := 3) sc_are_lines.nd rfl (Or.inl rfl))
        (w_pss_cons (w_ps_if (w_pt (w_pw_or (w_pt_not (w_pt_val (w_pe_c c_is_line (hr.mono (by omega)) (w_pa_N (w_pv 3) (w_pa_N (w_pv 1) w_pa_nil))))) (w_pw_or1 (w_pt_cmp (w_pc_din hu (w_pv 3) (w_pv 2))))))
          (w_pss_one (w_ps_ret w_pe_bl))
          w_pss_nil)
        (w_pss_one (w_ps_dput hu (w_pv 2) (w_pv 3) w_pe_bl rfl))))
      (w_pss_one (w_ps_ret w_pe_bl))))) ?_
    refine ⟨_, rfl, _, _, _, _, _, rfl, rfl, .lst hl, T.k_tlist_tlist, _, rfl, iteN rfl ?_⟩
    refine fun d hd => ?_
    refine ⟨_, rfl, l, rfl, ⟨_, SqL.of (Same.new hd _ _ hl)⟩, ?_⟩
    refine for_list (K := K) (a := l) (xs := rs) (fun i σ H' => ∃ (kvs : List (List Key × V)) (o : Option V), σ = [some (.ref l), some (.ref h), some (.ref d), o] ∧ H' d = some (.dT kvs) ∧ kvs.map (·.1) = (ls.take i).map key2 ∧ Same H H') ?_ ?_ ?_ ?_
    · exact ⟨[], none, rfl, upd_same, by simp, Same.new hd⟩
    · rintro i σ H' _ ⟨kvs, o, _, _, _, sm⟩
      exact SqL.of (sm _ _ hl)
    · rintro i x σ H' hi ⟨kvs, o, rfl, hd', hk, sm⟩
      obtain ⟨p, q, hp, rfl, hq⟩ := (hrs.same sm).get hi
      have hm : p ∈ ls := List.mem_of_getElem? hp
      refine ⟨_, rfl, _, rfl, q, h, hs, p, rfl, hq, sm _ _ hh, L.ok p hm, _, rfl, iteN rfl ?_⟩
      have hnew : key2 p ∉ kvs.map (·.1) := by
        rw [hk]
        intro z
        obtain ⟨p', m', e'⟩ := List.mem_map.mp z
        rw [key2_inj e'] at m'
        exact nd_take L.nd hp m'
      have hz : kvs.length ≤ 1000 := by
        have := congrArg List.length hk
        rw [List.length_map, List.length_map, List.length_take] at this
        omega
      refine ⟨_, rfl, _, rfl, d, _, rfl, DGet.t (k := key2 p) hd' hq, _, rfl, iteN ?_ ?_⟩
      · exact valV_no hnew
      · refine ⟨_, rfl, _, rfl, d, _, rfl, DPut.t (k := key2 p) hd' hq (small1000 hz), ?_⟩
        refine ⟨_, _, rfl, upd_same, ?_, sm.updF hd⟩
        rw [putK_new hnew, List.map_append, hk, List.take_add_one, hp, List.map_append]
        rfl
    · rintro σ H' ⟨kvs, o, _, _, _, sm⟩
      exact k H' sm
end
end K04

/-! K01e -/
set_option Elab.async false
set_option linter.all false
set_option maxRecDepth 100000
set_option maxHeartbeats 4000000
namespace K04
open PySem L2
def tab (ad : Int → Addr) (us : List Int) : List (Key × V) := us.map fun h => (Sum.inl h, V.ref (ad h))
theorem tab_keys {ad : Int → Addr} {us : List Int} : (tab ad us).map (·.1) = us.map Sum.inl := by
  unfold tab; rw [List.map_map]; rfl
theorem tab_at {ad : Int → Addr} {x : Int} : ∀ {us : List Int}, x ∈ us → valV (tab ad us) (Sum.inl x : Key) = some (V.ref (ad x))
  | u :: us, h => by
    show valV ((Sum.inl u, V.ref (ad u)) :: tab ad us) _ = _
    by_cases e : u = x
    · subst e; rw [valV_pos rfl]
    · rw [valV_neg (fun z => e (by injection z)), tab_at]
      rcases List.mem_cons.mp h with z | z
      · exact absurd z.symm e
      · exact z
theorem tab_get {H : Hp} {d : Addr} {ad : Int → Addr} {us : List Int} {x : Int} (e : H d = some (.dK (tab ad us))) (h : x ∈ us) : DGet H d (V.int x) (some (V.ref (ad x))) := by
  have := DGet.k (k := Sum.inl x) e
  rw [tab_at h] at this
  exact this
theorem inl_mem {x : Int} {us : List Int} : (Sum.inl x : Key) ∈ us.map (Sum.inl : Int → Key) ↔ x ∈ us := by
  rw [List.mem_map]
  exact ⟨fun ⟨y, h, e⟩ => by injection e with e; exact e ▸ h, fun h => ⟨x, h, rfl⟩⟩
def putA (ad : Int → Addr) (y : Int) (p : Addr) : Int → Addr := fun x => if x = y then p else ad x
theorem putA_at {ad : Int → Addr} {x y : Int} {p : Addr} (e : x = y) : putA ad y p x = p := if_pos e
theorem putA_ne {ad : Int → Addr} {x y : Int} {p : Addr} (e : ¬ x = y) : putA ad y p x = ad x := if_neg e
structure Near (H : Hp) (d : Addr) (hs : List Int) (ls : List (Int × Int)) (ad : Int → Addr) : Prop where
  d : H d = some (.dK (tab ad hs))
  nb : ∀ h ∈ hs, H (ad h) = some (.lst ((nbs ls h).map V.int))
theorem Near.same {H H' : Hp} {d : Addr} {hs : List Int} {ls : List (Int × Int)} {ad : Int → Addr} (n : Near H d hs ls ad) (s : Same H H') : Near H' d hs ls ad := ⟨s _ _ n.d, fun h m => s _ _ (n.nb h m)⟩
section
variable {P : Program} {w : World} {K : PySem.W.Frag} {mg : Str → Option Value} {base : Heap} {a : Ad}
def spNear : Sp := fun vs H Q _ => ∃ (h l : Addr) (rs : List V) (hs : List Int) (ls : List (Int × Int)), vs = [.ref h, .ref l] ∧ H h = some (.lst (hs.map V.int)) ∧ H l = some (.lst rs) ∧ LnAt H rs ls ∧ Hs hs ∧ Ls hs ls ∧
  ∀ (d : Addr) (ad : Int → Addr) H', Same H H' → H d = none → (∀ x ∈ hs, H (ad x) = none) → Near H' d hs ls ad → Q (.ref d) H'
theorem ok_near (T : Txt K mg a) : FnOk P w K mg base CX0 1 a.f_near_by_hand a.d_near_by_hand ["hands", "lines"] spNear := by
  refine T.F_near_by_hand.ok sc_near_by_hand (fun vs H Q E h => ?_) (fun cdv A outer s H vs Q E hr h => ?_)
  · obtain ⟨h, l, rs, hs, ls, rfl, _⟩ := h
    rfl
  · obtain ⟨h, l, rs, hs, ls, rfl, hh, hl, hrs, W, L, k⟩ := h
    have l66 := L.le
    have l12 := W.l12
    have hu := hu_of hr
    refine bx_in (w_pss_cons (w_ps_set (i := 2) sc_near_by_hand.nd rfl (Or.inl rfl) w_pe_dnewK)
      (w_pss_cons (w_ps_for PassesOwn.never rfl (w_pi_list (w_pv 0)) (w_pg_name (i := 3) sc_near_by_hand.nd rfl (Or.inl rfl))
        (w_pss_one (w_ps_dput hu (w_pv 2) (w_pv 3) (w_pe_lst w_pa_nil) rfl)))
      (w_pss_cons (w_ps_for PassesOwn.never rfl (w_pi_list (w_pv 1)) (w_pg_tup rfl (w_pgs_cons (w_pg_name (i := 4) sc_near_by_hand.nd rfl (Or.inl rfl)) (w_pgs_cons (w_pg_name (i := 5) sc_near_by_hand.nd rfl (Or.inl rfl)) w_pgs_nil)))
        (w_pss_cons (w_ps_expr (w_pe_bm PySem.F.plainAttrs_list PySem.F.slot_list_append PySem.F.type_list_append mt_append (w_pe_dget hu (w_pv 2) (w_pv 4) (fun _ _ => rfl)) (w_pa_N (w_pv 5) w_pa_nil)))
        (w_pss_one (w_ps_expr (w_pe_bm PySem.F.plainAttrs_list PySem.F.slot_list_append PySem.F.type_list_append mt_append (w_pe_dget hu (w_pv 2) (w_pv 5) (fun _ _ => rfl)) (w_pa_N (w_pv 4) w_pa_nil))))))
      (w_pss_one (w_ps_ret (w_pv 2)))))) ?_
    refine fun d hd => ?_
    refine ⟨_, rfl, h, rfl, ⟨_, SqL.of (Same.new hd _ _ hh)⟩, ?_⟩
    refine for_list (K := K) (a := h) (xs := hs.map V.int) (fun i σ H' => ∃ (ad : Int → Addr) (o : Option V), σ = [some (.ref h), some (.ref l), some (.ref d), o, none, none] ∧ H' d = some (.dK (tab ad (hs.take i))) ∧
      (∀ x ∈ hs.take i, H' (ad x) = some (.lst []) ∧ H (ad x) = none) ∧ (∀ x ∈ hs.take i, ∀ y ∈ hs.take i, ad x = ad y → x = y) ∧ Same H H') ?_ ?_ ?_ ?_
    · exact ⟨fun _ => 0, none, rfl, upd_same, fun x hx => by simp at hx, fun x hx => by simp at hx, Same.new hd⟩
    · rintro i σ H' _ ⟨ad, o, _, _, _, _, sm⟩
      exact SqL.of (sm _ _ hh)
    · rintro i x σ H' hi ⟨ad, o, rfl, hd', hat, hinj, sm⟩
      rw [List.getElem?_map] at hi
      obtain ⟨y, hy, rfl⟩ := Option.map_eq_some_iff.mp hi
      have hnew : y ∉ hs.take i := nd_take (up_nodup W.up) hy
      refine ⟨(by show 0 ≤ sizeLine; decide), fun p hp => ?_⟩
      have hpd : p ≠ d := fun z => by rw [z, hd'] at hp; cases hp
      have hd2 : (upd H' p (.lst [])) d = some (.dK (tab ad (hs.take i))) := by rw [upd_ne hpd.symm]; exact hd'
      refine ⟨_, rfl, _, rfl, d, _, rfl, DPut.k (k := Sum.inl y) hd2 (small1000 ?_), ?_⟩
      · unfold tab
        rw [List.length_map, List.length_take]; omega
      · have et : hs.take (i + 1) = hs.take i ++ [y] := by rw [List.take_add_one, hy]; rfl
        have hp0 : H p = none := sm.free hp
        have hne : ∀ x ∈ hs.take i, ad x ≠ p := fun x hx z => by
          have := (hat x hx).1
          rw [z, hp] at this; cases this
        have had : ∀ x ∈ hs.take i, ad x ≠ d := fun x hx z => by
          have := (hat x hx).1
          rw [z, hd'] at this; cases this
        refine ⟨putA ad y p, _, rfl, ?_, ?_, ?_, (sm.updF hp0).updF hd⟩
        · rw [upd_same, K04.putK_new (by rw [tab_keys, inl_mem]; exact hnew), et]
          unfold tab
          rw [List.map_append]
          congr 3
          · refine List.map_congr_left fun x hx => ?_
            rw [putA_ne (fun z => hnew (by rw [← z]; exact hx))]
          · show _ = [(Sum.inl y, V.ref (putA ad y p y))]
            rw [putA_at rfl]
        · intro x hx
          rw [et, List.mem_append, List.mem_singleton] at hx
          by_cases e : x = y
          · rw [putA_at e, upd_ne hpd, upd_same]
            exact ⟨rfl, hp0⟩
          · rw [putA_ne e]
            have hx := hx.resolve_right e
            rw [upd_ne (had x hx), upd_ne (hne x hx)]
            exact hat x hx
        · intro x hx z hz
          rw [et, List.mem_append, List.mem_singleton] at hx hz
          by_cases e1 : x = y
          · by_cases e2 : z = y
            · intro _; rw [e1, e2]
            · rw [putA_at e1, putA_ne e2]
              intro q; exact absurd q.symm (hne z (hz.resolve_right e2))
          · by_cases e2 : z = y
            · rw [putA_ne e1, putA_at e2]
              intro q; exact absurd q (hne x (hx.resolve_right e1))
            · rw [putA_ne e1, putA_ne e2]
              exact hinj x (hx.resolve_right e1) z (hz.resolve_right e2)
    · rintro σ H1 ⟨ad, o, rfl, hd', hat, hinj, sm⟩
      rw [List.length_map, List.take_length] at hd' hat hinj
      refine ⟨_, rfl, l, rfl, ⟨_, SqL.of (sm _ _ hl)⟩, ?_⟩
      refine for_list (K := K) (a := l) (xs := rs) (fun i σ H' => ∃ (o1 o2 : Option V), σ = [some (.ref h), some (.ref l), some (.ref d), o, o1, o2] ∧ Near H' d hs (ls.take i) ad ∧ Same H H') ?_ ?_ ?_ ?_
      · exact ⟨none, none, rfl, ⟨hd', fun x hx => by rw [List.take_zero]; exact (hat x hx).1⟩, sm⟩
      · rintro i σ H' _ ⟨o1, o2, _, _, sm'⟩
        exact SqL.of (sm' _ _ hl)
      · rintro i x σ H' hi ⟨o1, o2, rfl, N, sm'⟩
        obtain ⟨⟨x, y⟩, q, hp, rfl, hq⟩ := (hrs.same sm').get hi
        obtain ⟨hx, hy, hxy⟩ := L.ok _ (List.mem_of_getElem? hp)
        dsimp only at hq hx hy hxy
        refine ⟨q, _, rfl, SqT.of hq, rfl, _, _, rfl, _, _, rfl, rfl, ?_⟩
        have len : ∀ z, ((nbs (ls.take i) z).map V.int).length < sizeLine := fun z => by
          rw [List.length_map]
          have := nbs_len (h := z) (ls := ls.take i)
          rw [List.length_take] at this
          exact small1000 (by omega)
        have hdx : ad x ≠ d := fun z => by
          have := N.nb x hx
          rw [z, N.d] at this; cases this
        have hdy : ad y ≠ d := fun z => by
          have := N.nb y hy
          rw [z, N.d] at this; cases this
        have hne : ad y ≠ ad x := fun z => by have := hinj y hy x hx z; omega
        refine ⟨_, rfl, _, rfl, d, V.ref (ad x), rfl, tab_get N.d hx, .inl ⟨rfl, _, SqL.of (N.nb x hx)⟩, _, rfl, _, _, _, rfl, rfl, N.nb x hx, len x, ?_⟩
        have nd2 : (upd H' (ad x) (.lst ((nbs (ls.take i) x).map V.int ++ [V.int y]))) d = some (.dK (tab ad hs)) := by rw [upd_ne hdx.symm]; exact N.d
        have ny2 : (upd H' (ad x) (.lst ((nbs (ls.take i) x).map V.int ++ [V.int y]))) (ad y) = some (.lst ((nbs (ls.take i) y).map V.int)) := by rw [upd_ne hne]; exact N.nb y hy
        refine ⟨_, rfl, _, rfl, d, V.ref (ad y), rfl, tab_get nd2 hy, .inl ⟨rfl, _, SqL.of ny2⟩, _, rfl, _, _, _, rfl, rfl, ny2, len y, ?_⟩
        refine ⟨_, _, rfl, ⟨?_, fun z hz => ?_⟩, (sm'.updF (hat x hx).2).updF (hat y hy).2⟩
        · rw [upd_ne hdy.symm]; exact nd2
        · rw [nbs_take hp]
          by_cases e2 : z = y
          · subst e2
            rw [upd_same, if_neg (by show ¬ x = z; omega), if_pos rfl, List.map_append]
            rfl
          · rw [upd_ne (fun q => e2 (hinj z hz y hy q))]
            by_cases e1 : z = x
            · subst e1
              rw [upd_same, if_pos rfl, if_neg (by show ¬ y = z; omega), List.map_append]
              rfl
            · rw [upd_ne (fun q => e1 (hinj z hz x hx q)), if_neg (fun q => e1 q.symm), if_neg (fun q => e2 q.symm), List.append_nil, List.append_nil]
              exact N.nb z hz
      · rintro σ H' ⟨o1, o2, rfl, N, sm'⟩
        rw [hrs.1, List.take_length] at N
        exact ⟨_, rfl, k d ad H' sm' hd (fun x hx => (hat x hx).2) N⟩
end
end K04

/-! K01f -/
set_option Elab.async false
set_option linter.all false
set_option maxRecDepth 100000
set_option maxHeartbeats 4000000
namespace K04
open PySem L2
open L2.Srt (call_sortQ srtA srtA_ok)
theorem Near.ext {H H' : Hp} {d p dx C : Addr} {fs : List (Str × V)} {hs : List Int} {ls : List (Int × Int)} {ad : Int → Addr} (n : Near H d hs ls ad) (hp : H p = some (.ins C dx fs)) (s : Ext p H H') : Near H' d hs ls ad :=
  ⟨s _ _ n.d (fun z => by rw [← z, n.d] at hp; cases hp), fun h m => s _ _ (n.nb h m) (fun z => by rw [← z, n.nb h m] at hp; cases hp)⟩
theorem LnAt.ext {H H' : Hp} {p dx C : Addr} {fs : List (Str × V)} {rs : List V} {ls : List (Int × Int)} (h : LnAt H rs ls) (hp : H p = some (.ins C dx fs)) (s : Ext p H H') : LnAt H' rs ls := ⟨h.1, fun i r q h1 h2 => by
  obtain ⟨t, e, ht⟩ := h.2 i r q h1 h2
  exact ⟨t, e, s _ _ ht fun z => by rw [← z, ht] at hp; cases hp⟩⟩
section
variable {P : Program} {w : World} {K : PySem.W.Frag} {mg : Str → Option Value} {base : Heap} {a : Ad}
structure WbAt (P : Program) (w : World) (a : Ad) (H : Hp) (p : Addr) (hs : List Int) (ps : List Srt.PT) (dx oh ol d : Addr) (ad : Int → Addr) : Prop where
  p : H p = some (.ins a.c_Web dx [("own_hands", .ref oh), ("own_lines", .ref ol), ("near", .ref d)])
  oh : H oh = some (.lst (hs.map V.int))
  ol : H ol = some (.lst ((srtA P w ps).map V.ref))
  nr : Near H d hs (ps.map (·.2)) ad
theorem WbAt.same {H H' : Hp} {p dx oh ol d : Addr} {hs : List Int} {ps : List Srt.PT} {ad : Int → Addr} (x : WbAt P w a H p hs ps dx oh ol d ad) (s : Same H H') : WbAt P w a H' p hs ps dx oh ol d ad := ⟨s _ _ x.p, s _ _ x.oh, s _ _ x.ol, x.nr.same s⟩
def Tp (H : Hp) (ps : List Srt.PT) : Prop := ∀ p ∈ ps, H p.1 = some (.tup [.int p.2.1, .int p.2.2])
theorem Tp.same {H H' : Hp} {ps : List Srt.PT} (x : Tp H ps) (s : Same H H') : Tp H' ps := fun p hp => s _ _ (x p hp)
theorem Tp.ln {H : Hp} {ps : List Srt.PT} (x : Tp H ps) : LnAt H (ps.map fun p => V.ref p.1) (ps.map (·.2)) := by
  refine ⟨by rw [List.length_map, List.length_map], fun i r p e1 e2 => ?_⟩
  rw [List.getElem?_map] at e1 e2
  obtain ⟨q, hq, rfl⟩ := Option.map_eq_some_iff.mp e1
  rw [hq] at e2
  cases e2
  exact ⟨q.1, rfl, x q (List.mem_of_getElem? hq)⟩
theorem ext_free {p b : Addr} {H H' : Hp} {u : HO} (x : Ext p H H') (hp : H' p = some u) (hb : H' b = none) : H b = none := by
  cases e : H b with
  | none => rfl
  | some o =>
    have : b ≠ p := fun z => by rw [z, hp] at hb; cases hb
    rw [x _ _ e this] at hb
    cases hb
def spWeb (P : Program) (w : World) (a : Ad) : Sp := fun vs H Q _ => ∃ (p dx h l : Addr) (hs : List Int) (ps : List Srt.PT), vs = [.ref p, .ref h, .ref l] ∧ H p = some (.ins a.c_Web dx []) ∧ H h = some (.lst (hs.map V.int)) ∧ H l = some (.lst (ps.map fun p => V.ref p.1)) ∧ Tp H ps ∧ Hs hs ∧ Ls hs (ps.map (·.2)) ∧
  ∀ (oh ol d : Addr) (ad : Int → Addr) H', Ext p H H' → WbAt P w a H' p hs ps dx oh ol d ad → H oh = none → H ol = none → H d = none → (∀ x ∈ hs, H (ad x) = none) → Q .non H'
theorem ok_web (T : Txt K mg a) : FnOk P w K mg base CX0 4 a.f_Web___init__ a.d_Web___init__ ["self", "hands", "lines"] (spWeb P w a) := by
  have c_are_hands : Callee P w K mg base "are_hands" a.f_are_hands a.d_are_hands ["hands"] 2 spHands := ⟨ok_hands T, T.g_are_hands, T.F_are_hands.kp, T.b_are_hands⟩
  have c_are_lines : Callee P w K mg base "are_lines" a.f_are_lines a.d_are_lines ["lines", "hands"] 3 spLines := ⟨ok_lines T, T.g_are_lines, T.F_are_lines.kp, T.b_are_lines⟩
  have c_near_by_hand : Callee P w K mg base "near_by_hand" a.f_near_by_hand a.d_near_by_hand ["hands", "lines"] 1 spNear := ⟨ok_near T, T.g_near_by_hand, T.F_near_by_hand.kp, T.b_near_by_hand⟩
  refine T.F_Web___init__.ok sc_Web___init__ (fun vs H Q E h => ?_) (fun cdv A outer s H vs Q E hr h => ?_)
  · obtain ⟨p, dx, h, l, hs, ps, rfl, _⟩ := h
    rfl
  · obtain ⟨p, dx, h, l, hs, ps, rfl, hp, hh, hl, tp, W, L, k⟩ := h
    have hrs := tp.ln
    have l66 := L.le
    rw [List.length_map] at l66
    have np : ∀ {b : Addr} {xs : List V}, H b = some (.lst xs) → b ≠ p := fun e z => by rw [z, hp] at e; cases e
    have nt : ∀ {b : Addr} {xs : List V}, H b = some (.tup xs) → b ≠ p := fun e z => by rw [z, hp] at e; cases e
    refine bx_in (w_pss_cons (w_ps_if (w_pt_not (w_pt_val (w_pe_c c_are_hands (hr.mono (by omega)) (w_pa_N (w_pv 1) w_pa_nil))))
        (w_pss_one w_ps_never)
        w_pss_nil)
      (w_pss_cons (w_ps_if (w_pt_not (w_pt_val (w_pe_c c_are_lines (hr.mono (by omega)) (w_pa_N (w_pv 2) (w_pa_N (w_pv 1) w_pa_nil)))))
        (w_pss_one w_ps_never)
        w_pss_nil)
      (w_pss_cons (w_ps_fld (w_pv 0) (w_pe_callTy call_list_of (by rfl) T.n_list bt_list (w_pa_N (w_pv 1) w_pa_nil)) rfl)
      (w_pss_cons (w_ps_fld (w_pv 0) (w_pe_callB (call_sortK (P := P) (w := w) rfl rfl) (by rfl) T.n_sorted bt_sorted (w_pa_N (w_pv 2) w_pa_nil)) rfl)
      (w_pss_one (w_ps_fld (w_pv 0) (w_pe_c c_near_by_hand (hr.mono (by omega)) (w_pa_N (w_pv 1) (w_pa_N (w_pv 2) w_pa_nil))) rfl)))))) ?_
    refine ⟨_, rfl, h, hs, rfl, hh, W, _, rfl, iteN rfl ?_⟩
    refine ⟨_, rfl, _, rfl, l, h, _, hs, _, rfl, hl, hrs, hh, L, fun H1 s1 => ⟨_, rfl, iteN rfl ?_⟩⟩
    refine ⟨_, rfl, h, _, rfl, .inl (SqL.of (s1 _ _ hh)), fun oh hoh => ?_⟩
    have ohp : oh ≠ p := fun z => by rw [z, s1 _ _ hp] at hoh; cases hoh
    refine ⟨_, rfl, p, a.c_Web, dx, _, rfl, (upd_ne ohp.symm).trans (s1 _ _ hp), T.cl_Web, T.na_Web_own_hands, (by show 0 < 1000; decide), ?_⟩
    have x3 := ((Ext.same (l := p) s1).trans (Ext.new (l := p) (o := .lst (hs.map V.int)) hoh)).trans (Ext.at (l := p) (o := .ins a.c_Web dx [("own_hands", .ref oh)]))
    refine ⟨_, rfl, l, ps, rfl, SqL.of (x3 _ _ hl (np hl)), l66, fun q hq => x3 _ _ (tp q hq) (nt (tp q hq)), fun ol hol => ?_⟩
    have olp : ol ≠ p := fun z => by rw [z, upd_same] at hol; cases hol
    refine ⟨_, rfl, p, a.c_Web, dx, _, rfl, (upd_ne olp.symm).trans upd_same, T.cl_Web, T.na_Web_own_lines, (by show 1 < 1000; decide), ?_⟩
    have x35 := (Ext.new (l := p) (o := .lst ((srtA P w ps).map V.ref)) hol).trans (Ext.at (l := p) (o := .ins a.c_Web dx [("own_hands", .ref oh), ("own_lines", .ref ol)]))
    have x5 := x3.trans x35
    refine ⟨_, rfl, _, rfl, h, l, _, hs, _, rfl, x5 _ _ hh (np hh), x5 _ _ hl (np hl), hrs.ext hp x5, W, L, fun d ad H6 s6 hd had N => ?_⟩
    have hp6 := s6 _ _ (upd_same (a := p))
    refine ⟨_, rfl, p, a.c_Web, dx, _, rfl, hp6, T.cl_Web, T.na_Web_near, (by show 2 < 1000; decide), ?_⟩
    refine k oh ol d ad _ ((x5.trans (Ext.same s6)).trans Ext.at) ⟨upd_same, ?_, ?_, N.ext hp6 Ext.at⟩ (s1.free hoh) (ext_free x3 upd_same hol) (ext_free x5 upd_same hd) fun x hx => ext_free x5 upd_same (had x hx)
    · rw [upd_ne ohp]
      exact s6 _ _ (x35 _ _ ((upd_ne ohp).trans upd_same) ohp)
    · rw [upd_ne olp]
      exact s6 _ _ ((upd_ne olp).trans upd_same)
end
end K04

/-! K01j -/
set_option Elab.async false
set_option linter.all false
set_option maxRecDepth 100000
set_option maxHeartbeats 4000000
namespace K04
open PySem L2
theorem _root_.L2.Ext_upd {l p : Addr} {H H' : Hp} {o : HO} (x : Ext l H H') (h : H p = none) : Ext l H (L2.upd H' p o) := fun b u e n => by
  rw [upd_ne (ne_of_none e h)]; exact x b u e n
theorem Ext_free {l p : Addr} {H H' : Hp} (x : Ext l H H') (s : StAt H' l) (h : H' p = none) : H p = none := by
  cases e : H p with
  | none => rfl
  | some o =>
    have := x p o e (s.ne h)
    rw [h] at this; cases this
theorem LnAt.mono {H H' : Hp} {rs : List V} {ls : List (Int × Int)} (h : LnAt H rs ls) (k : ∀ b xs, H b = some (.tup xs) → H' b = some (.tup xs)) : LnAt H' rs ls := ⟨h.1, fun i r p h1 h2 => by
  obtain ⟨q, e, t⟩ := h.2 i r p h1 h2
  exact ⟨q, e, k _ _ t⟩⟩
theorem Ext_tup {l : Addr} {H H' : Hp} (s : StAt H l) (x : Ext l H H') : ∀ b xs, H b = some (.tup xs) → H' b = some (.tup xs) := fun b xs e => x b _ e fun z => by
  obtain ⟨st, h, _⟩ := s
  rw [z, h] at e; cases e
theorem LnAt.snoc {H : Hp} {rs : List V} {ls : List (Int × Int)} {q : Addr} {x y : Int} (h : LnAt H rs ls) (hq : H q = some (.tup [.int x, .int y])) : LnAt H (rs ++ [.ref q]) (ls ++ [(x, y)]) := by
  refine ⟨by rw [List.length_append, List.length_append, h.1]; rfl, fun i r p e1 e2 => ?_⟩
  by_cases lt : i < rs.length
  · rw [List.getElem?_append_left lt] at e1
    rw [List.getElem?_append_left (by rw [← h.1]; exact lt)] at e2
    exact h.2 i r p e1 e2
  · have ei : i = rs.length := by
      have := (List.getElem?_eq_some_iff.mp e1).1
      rw [List.length_append, List.length_singleton] at this
      omega
    subst ei
    rw [List.getElem?_append_right (Nat.le_refl _), Nat.sub_self] at e1
    rw [h.1, List.getElem?_append_right (Nat.le_refl _), Nat.sub_self] at e2
    obtain rfl : V.ref q = r := by simpa using e1
    obtain rfl : (x, y) = p := by simpa using e2
    exact ⟨q, rfl, hq⟩
theorem LnAt.turn {H : Hp} {rs : List V} {ls : List (Int × Int)} (h : LnAt H rs ls) (t : Nat) : LnAt H (rs.drop t ++ rs.take t) (ls.drop t ++ ls.take t) := by
  refine ⟨by rw [List.length_append, List.length_append, List.length_drop, List.length_drop, List.length_take, List.length_take, h.1], fun i r p e1 e2 => ?_⟩
  by_cases lt : i < (rs.drop t).length
  · rw [List.getElem?_append_left lt, List.getElem?_drop] at e1
    rw [List.getElem?_append_left (by rw [List.length_drop] at lt ⊢; rw [← h.1]; exact lt), List.getElem?_drop] at e2
    exact h.2 _ r p e1 e2
  · have e3 : (rs.drop t).length = (ls.drop t).length := by rw [List.length_drop, List.length_drop, h.1]
    rw [List.getElem?_append_right (by omega)] at e1
    rw [List.getElem?_append_right (by omega), ← e3] at e2
    have l1 := (List.getElem?_eq_some_iff.mp e1).1
    rw [List.length_take] at l1
    rw [List.getElem?_take_of_lt (by omega)] at e1 e2
    exact h.2 _ r p e1 e2
theorem pick4b {d : Int} (h0 : 0 ≤ d) (h4 : d < 4) : ∃ v : Int, atI [V.int 1, V.int 1, V.int 2, V.int 8] d = some (V.int v) ∧ 1 ≤ v := by
  obtain ⟨n, rfl⟩ : ∃ n : Nat, d = n := ⟨d.toNat, by omega⟩
  have : n = 0 ∨ n = 1 ∨ n = 2 ∨ n = 3 := by omega
  rcases this with rfl | rfl | rfl | rfl
  · exact ⟨1, atI_nat (j := 0) rfl, by omega⟩
  · exact ⟨1, atI_nat (j := 1) rfl, by omega⟩
  · exact ⟨2, atI_nat (j := 2) rfl, by omega⟩
  · exact ⟨8, atI_nat (j := 3) rfl, by omega⟩
section
variable {P : Program} {w : World} {K : PySem.W.Frag} {mg : Str → Option Value} {base : Heap} {a : Ad}
def spWebL : Sp := fun vs H Q _ => ∃ (l : Addr), vs = [.ref l] ∧ StAt H l ∧
  ∀ (t h r : Addr) (rs : List V) (hs : List Int) (ls : List (Int × Int)) H', H' t = some (.tup [.ref h, .ref r]) → H' h = some (.lst (hs.map V.int)) → H' r = some (.lst rs) → LnAt H' rs ls → Hs hs → Ls hs ls → StAt H' l → Ext l H H' → H t = none → H h = none → H r = none → Q (.ref t) H'
theorem ok_webl (T : Txt K mg a) : FnOk P w K mg base CX0 2 a.f__law_web a.d__law_web ["_law_state"] spWebL := by
  have c__law_digit : Callee P w K mg base "_law_digit" a.f__law_digit a.d__law_digit ["_law_state", "_law_base"] 1 spDigit := ⟨ok_digit T, T.g__law_digit, T.F__law_digit.kp, T.b__law_digit⟩
  refine T.F__law_web.ok sc__law_web (fun vs H Q E h => ?_) (fun cdv A outer s H vs Q E hr h => ?_)
  · obtain ⟨l, rfl, _⟩ := h
    rfl
  · obtain ⟨l, rfl, S0, k⟩ := h
    refine bx_in (w_pss_cons (w_ps_set (i := 1) sc__law_web.nd rfl (Or.inr rfl) (w_pe_lst w_pa_nil))
      (w_pss_cons (w_ps_set (i := 2) sc__law_web.nd rfl (Or.inl rfl) w_pe_int)
      (w_pss_cons (w_ps_for PassesOwn.never rfl (w_pi_range1 rfl T.n_range (w_pa_B (w_pe_op op_add w_pe_int (w_pe_c c__law_digit (hr.mono (by omega)) (w_pa_N (w_pv 0) (w_pa_C w_pe_int w_pa_nil)))) w_pa_nil)) (w_pg_name (i := 3) sc__law_web.nd rfl (Or.inl rfl))
        (w_pss_cons (w_ps_set (i := 4) sc__law_web.nd rfl (Or.inl rfl) (w_pe_ix ix_list (w_pe_lst (w_pa_C w_pe_int (w_pa_C w_pe_int (w_pa_C w_pe_int (w_pa_C w_pe_int w_pa_nil))))) (w_pe_c c__law_digit (hr.mono (by omega)) (w_pa_N (w_pv 0) (w_pa_C w_pe_int w_pa_nil))) (fun _ _ => rfl)))
        (w_pss_cons (w_ps_set (i := 2) sc__law_web.nd rfl (Or.inl rfl) (w_pe_callB (call_min2 rfl) (by rfl) T.n_min bt_min (w_pa_B (w_pe_op op_add (w_pv 2) (w_pv 4)) (w_pa_B (w_pe_op op_add w_pe_int (w_pv 3)) w_pa_nil))))
        (w_pss_one (w_ps_expr (w_pe_bm PySem.F.plainAttrs_list PySem.F.slot_list_append PySem.F.type_list_append mt_append (w_pv 1) (w_pa_N (w_pv 2) w_pa_nil)))))))
      (w_pss_cut (w_ps_if (w_pt_cmpR op_eq (w_pe_c c__law_digit (hr.mono (by omega)) (w_pa_N (w_pv 0) (w_pa_C w_pe_int w_pa_nil))) w_pe_int (nomark _))
        (w_pss_one (w_ps_set (i := 1) sc__law_web.nd rfl (Or.inr rfl) (w_pe_comp rfl (N' := ["_law_hand", "_law_hands"]) (t := 1) (caps := [1]) ⟨rfl, rfl, rfl⟩ (w_pi_list (w_pv 1)) (fun _ => (w_pg_name (i := 0) (show (["_law_hand", "_law_hands"] : List Str).Nodup by decide +kernel) rfl (Or.inl rfl))) (fun _ => w_pts_nil) (fun _ => (w_pe_op op_sub (w_pv 0) (w_pe_ix ix_list (w_pv 1) w_pe_int (fun _ _ => rfl)))))))
        w_pss_nil)
      (w_pss_cons (w_ps_set (i := 5) sc__law_web.nd rfl (Or.inl rfl) (w_pe_lst w_pa_nil))
      (w_pss_cons (w_ps_set (i := 6) sc__law_web.nd rfl (Or.inl rfl) (w_pe_op op_add w_pe_int (w_pe_c c__law_digit (hr.mono (by omega)) (w_pa_N (w_pv 0) (w_pa_C w_pe_int w_pa_nil)))))
      (w_pss_cons (w_ps_for PassesOwn.never rfl (w_pi_list (w_pv 1)) (w_pg_name (i := 7) sc__law_web.nd rfl (Or.inl rfl))
        (w_pss_one (w_ps_for PassesOwn.never rfl (w_pi_list (w_pv 1)) (w_pg_name (i := 8) sc__law_web.nd rfl (Or.inl rfl))
          (w_pss_one (w_ps_if (w_pt (w_pw_and (w_pt_cmpR op_lt (w_pv 7) (w_pv 8) (nomark _)) (w_pw_and1 (w_pt_cmpR op_eq (w_pe_c c__law_digit (hr.mono (by omega)) (w_pa_N (w_pv 0) (w_pa_N (w_pv 6) w_pa_nil))) w_pe_int (nomark _)))))
            (w_pss_one (w_ps_expr (w_pe_bm PySem.F.plainAttrs_list PySem.F.slot_list_append PySem.F.type_list_append mt_append (w_pv 5) (w_pa_T (w_pe_tup (w_pa_N (w_pv 7) (w_pa_N (w_pv 8) w_pa_nil))) w_pa_nil))))
            w_pss_nil)))))
      (w_pss_cons (w_ps_set (i := 9) sc__law_web.nd rfl (Or.inl rfl) (w_pe_c c__law_digit (hr.mono (by omega)) (w_pa_N (w_pv 0) (w_pa_B (w_pe_op op_add (w_pe_callB call_len_seq (by rfl) T.n_len bt_len (w_pa_N (w_pv 5) w_pa_nil)) w_pe_int) w_pa_nil))))
      (w_pss_one (w_ps_ret (w_pe_tup (w_pa_N (w_pv 1) (w_pa_B (w_pe_op op_cat (w_pe_slice sl_list (w_pv 5) (w_po_some (w_pv 9)) w_po_none) (w_pe_slice sl_list (w_pv 5) w_po_none (w_po_some (w_pv 9)))) w_pa_nil))))))))))))) ?_
    refine ⟨(by show 0 ≤ sizeLine; decide), fun p hp => ?_⟩
    have pl := S0.ne hp
    refine ⟨_, rfl, l, 12, rfl, S0.new hp, by decide, by decide, fun d H1 g1 g2 S1 x1 => ?_⟩
    refine ⟨_, _, rfl, rfl, _, rfl, by omega, by omega, ?_⟩
    refine for_range (lo := 0) (n := (1 + d).toNat) (fun i σ H' => ∃ (hs : List Int) (low : Int) (o3 o4 : Option V), σ = [some (.ref l), some (.ref p), some (.int low), o3, o4, none, none, none, none, none] ∧ StAt H' l ∧ Ext l H H' ∧ H' p = some (.lst (hs.map V.int)) ∧ hs.length = i ∧ hs.Pairwise (· < ·) ∧
      (∀ h ∈ hs, 0 ≤ h ∧ h ≤ low) ∧ 0 ≤ low ∧ low ≤ 87 + i) ?_ ?_ ?_
    · exact ⟨[], 0, none, none, rfl, S1, (Ext.new hp).trans x1, x1 _ _ upd_same pl, rfl, List.Pairwise.nil, fun h m => (by cases m), by omega, by omega⟩
    · rintro i σ H2 hi ⟨hs, low, o3, o4, rfl, S2, x2, hp2, hlen, up, hb, b1, b2⟩
      refine ⟨(by show 4 ≤ sizeLine; decide), fun q hq => ?_⟩
      refine ⟨_, rfl, l, 4, rfl, S2.new hq, by decide, by decide, fun d3 H3 g3 g4 S3 x3 => ?_⟩
      obtain ⟨v, av, v1⟩ := pick4b g3 g4
      have hq0 := Ext_free x2 S2 hq
      have X3 : Ext l H H3 := (x2.trans (Ext.new hq)).trans x3
      have hp3 : H3 p = some (.lst (hs.map V.int)) := x3 _ _ (Same.new hq _ _ hp2) pl
      refine ⟨q, _, d3, V.int v, rfl, rfl, SqL.of (x3 _ _ upd_same (S2.ne hq)), av, ?_⟩
      refine ⟨_, rfl, _, rfl, _, _, rfl, rfl, _, rfl, _, _, rfl, rfl, _, _, rfl, ?_⟩
      generalize hlow : (if 88 + (0 + (i : Int)) < low + v then 88 + (0 + (i : Int)) else low + v) = low'
      have c1 : low < low' ∧ low' ≤ 88 + i := by
        rw [← hlow]
        split <;> omega
      refine ⟨_, rfl, .inl ⟨rfl, _, SqL.of hp3⟩, _, rfl, p, _, _, rfl, rfl, hp3, small1000 (by rw [List.length_map]; omega), ?_⟩
      refine ⟨hs ++ [low'], low', _, _, rfl, ?_, Ext_upd X3 hp, by rw [upd_same, List.map_append]; rfl, by rw [List.length_append, hlen]; rfl, ?_, fun h m => ?_, by omega, by omega⟩
      · obtain ⟨st, e1, e2⟩ := S3
        exact ⟨st, (upd_ne pl.symm).trans e1, e2⟩
      · rw [List.pairwise_append]
        refine ⟨up, List.pairwise_singleton _ _, fun x mx y my => ?_⟩
        rw [List.mem_singleton.mp my]
        have := hb x mx
        omega
      · rcases List.mem_append.mp m with m | m
        · have := hb h m; omega
        · rw [List.mem_singleton.mp m]; omega
    · rintro σ H2 ⟨hs, low, o3, o4, rfl, S2, x2, hp2, hlen, up, hb, b1, b2⟩
      have W0 : Hs hs := ⟨by omega, by omega, up, fun h m => (hb h m).1, fun h m => by have := (hb h m).2; omega⟩
      refine ⟨fun σ' H' => ∃ (hs : List Int) (q : Addr), σ' = [some (.ref l), some (.ref q), some (.int low), o3, o4, none, none, none, none, none] ∧ StAt H' l ∧ Ext l H H' ∧ H' q = some (.lst (hs.map V.int)) ∧ Hs hs ∧ H q = none ∧ q ≠ l, ?_, ?_⟩
      · refine ⟨_, rfl, l, 3, rfl, S2, by decide, by decide, fun d3 H3 g3 g4 S3 x3 => ?_⟩
        have hp3 := x3 _ _ hp2 pl
        refine ⟨rfl, _, rfl, ?_⟩
        refine ite2 (fun _ => ?_) (fun _ => ?_)
        · refine ⟨_, rfl, p, rfl, ⟨_, SqL.of hp3⟩, fun D hD _ => ?_⟩
          have hDl := S3.ne hD
          have hD0 := Ext_free (x2.trans x3) S3 hD
          match he : hs, W0.l1 with
          | h0 :: tl, _ =>
          have pD : p ≠ D := fun z => by rw [z, hD] at hp3; cases hp3
          refine comp_list (K := K) (a := p) (xs := (h0 :: tl).map V.int) (fun i zs τ H' => ∃ o, τ = [o, some (.ref p)] ∧ i ≤ (h0 :: tl).length ∧ zs = (((h0 :: tl).map fun h => h - h0).take i).map V.int ∧ H' D = some (.lst zs) ∧ H' p = some (.lst ((h0 :: tl).map V.int)) ∧ StAt H' l ∧ Ext l H H') ?_ ?_ ?_ ?_
          · exact ⟨none, rfl, Nat.zero_le _, by simp, upd_same, Same.new hD _ _ hp3, S3.new hD, (x2.trans x3).trans (Ext.new hD)⟩
          · rintro i zs τ H' ⟨o, _, _, _, _, e, _⟩
            exact SqL.of e
          · rintro i x zs τ H' hi ⟨o, rfl, _, rfl, hD', hp', S', X'⟩
            rw [List.getElem?_map] at hi
            obtain ⟨y, hy, rfl⟩ := Option.map_eq_some_iff.mp hi
            have hi' := (List.getElem?_eq_some_iff.mp hy).1
            have l12 := W0.l12
            refine gn_if ?_
            refine ⟨_, rfl, _, rfl, p, _, 0, V.int h0, rfl, rfl, SqL.of hp', atI_nat (j := 0) rfl, _, _, rfl, rfl, hD', ?_, _, rfl, hi', ?_, upd_same, ?_, ?_, Ext_upd X' hD0⟩
            · rw [List.length_map, List.length_take]
              exact small1000 (by omega)
            · rw [List.take_add_one, List.getElem?_map, hy, List.map_append]
              rfl
            · rw [upd_ne pD]
              exact hp'
            · obtain ⟨st, e1, e2⟩ := S'
              exact ⟨st, (upd_ne hDl.symm).trans e1, e2⟩
          · rintro zs τ H' ⟨o, rfl, _, rfl, hD', hp', S', X'⟩
            rw [List.length_map, List.take_of_length_le (by rw [List.length_map]; exact Nat.le_refl _)] at hD'
            exact ⟨_, D, rfl, S', X', hD', W0.shift rfl, hD0, hDl⟩
        · exact ⟨hs, p, rfl, S3, x2.trans x3, hp3, W0, hp, pl⟩
      · rintro σ' H3 ⟨hs, q, rfl, S3, x3, hq3, W, hq0, ql⟩
        refine ⟨(by show 0 ≤ sizeLine; decide), fun r hr0 => ?_⟩
        have rl := S3.ne hr0
        have hr00 := Ext_free x3 S3 hr0
        have qr : q ≠ r := fun z => by rw [z, hr0] at hq3; cases hq3
        refine ⟨_, rfl, l, 6, rfl, S3.new hr0, by decide, by decide, fun d4 H4 g1 g2 S4 x4 => ?_⟩
        have X4 : Ext l H H4 := (x3.trans (Ext.new hr0)).trans x4
        have hq4 := x4 _ _ (Same.new hr0 _ _ hq3) ql
        refine ⟨_, _, rfl, rfl, _, rfl, q, rfl, ⟨_, SqL.of hq4⟩, ?_⟩
        refine for_list (K := K) (a := q) (xs := hs.map V.int) (fun i σ H' => ∃ (rs : List V) (ls : List (Int × Int)) (o7 o8 : Option V), σ = [some (.ref l), some (.ref q), some (.int low), o3, o4, some (.ref r), some (.int (1 + d4)), o7, o8, none] ∧ StAt H' l ∧ Ext l H H' ∧ H' q = some (.lst (hs.map V.int)) ∧ H' r = some (.lst rs) ∧ LnAt H' rs ls ∧ ls.Nodup ∧
          ∀ p ∈ ls, p.1 < p.2 ∧ p.2 ∈ hs ∧ p.1 ∈ hs.take i) ?_ ?_ ?_ ?_
        · exact ⟨[], [], none, none, rfl, S4, X4, hq4, x4 _ _ upd_same rl, ⟨rfl, fun i r p e => by simp at e⟩, List.nodup_nil, fun p m => by cases m⟩
        · rintro i σ H' _ ⟨rs, ls, o7, o8, _, _, _, e, _⟩
          exact SqL.of e
        · rintro i x σ H5 hi ⟨rs, ls, o7, o8, rfl, S5, X5, hq5, hr5, hls, nd, ok⟩
          rw [List.getElem?_map] at hi
          obtain ⟨x, hx, rfl⟩ := Option.map_eq_some_iff.mp hi
          have hxm : x ∈ hs := List.mem_of_getElem? hx
          have ei : hs.take (i + 1) = hs.take i ++ [x] := by rw [List.take_add_one, hx]; rfl
          refine ⟨_, rfl, q, rfl, ⟨_, SqL.of hq5⟩, ?_⟩
          refine for_list (K := K) (a := q) (xs := hs.map V.int) (fun j σ H' => ∃ (rs : List V) (ls : List (Int × Int)) (o8 : Option V), σ = [some (.ref l), some (.ref q), some (.int low), o3, o4, some (.ref r), some (.int (1 + d4)), some (.int x), o8, none] ∧ StAt H' l ∧ Ext l H H' ∧ H' q = some (.lst (hs.map V.int)) ∧ H' r = some (.lst rs) ∧ LnAt H' rs ls ∧ ls.Nodup ∧
            ∀ p ∈ ls, p.1 < p.2 ∧ p.2 ∈ hs ∧ (p.1 ∈ hs.take i ∨ (p.1 = x ∧ p.2 ∈ hs.take j))) ?_ ?_ ?_ ?_
          · exact ⟨rs, ls, o8, rfl, S5, X5, hq5, hr5, hls, nd, fun p m => ⟨(ok p m).1, (ok p m).2.1, .inl (ok p m).2.2⟩⟩
          · rintro j σ H' _ ⟨rs, ls, o8, _, _, _, e, _⟩
            exact SqL.of e
          · rintro j y σ H6 hj ⟨rs, ls, o8, rfl, S6, X6, hq6, hr6, hls, nd, ok⟩
            rw [List.getElem?_map] at hj
            obtain ⟨y, hy, rfl⟩ := Option.map_eq_some_iff.mp hj
            have hym : y ∈ hs := List.mem_of_getElem? hy
            have ej : hs.take (j + 1) = hs.take j ++ [y] := by rw [List.take_add_one, hy]; rfl
            have ok' : ∀ p ∈ ls, p.1 < p.2 ∧ p.2 ∈ hs ∧ (p.1 ∈ hs.take i ∨ (p.1 = x ∧ p.2 ∈ hs.take (j + 1))) := fun p m => ⟨(ok p m).1, (ok p m).2.1, (ok p m).2.2.imp id fun z => ⟨z.1, by rw [ej]; exact List.mem_append_left _ z.2⟩⟩
            refine ⟨_, rfl, _, rfl, _, _, rfl, rfl, _, rfl, ?_⟩
            refine ite2 (fun lt => ?_) (fun _ => ?_)
            · have lt : x < y := of_decide_eq_true lt
              refine ⟨_, rfl, _, rfl, l, 1 + d4, rfl, S6, by omega, log_small (by omega) (by omega), fun d7 H7 g5 g6 S7 x7 => ?_⟩
              have hq7 := x7 _ _ hq6 ql
              have hr7 := x7 _ _ hr6 rl
              have hls7 := hls.mono (Ext_tup S6 x7)
              refine ⟨rfl, _, rfl, ?_⟩
              refine ite2 (fun _ => ?_) (fun _ => ?_)
              · have L0 : Ls hs ls := Ls.of W nd fun p m => ⟨by
                  rcases (ok p m).2.2 with z | z
                  · exact List.mem_of_mem_take z
                  · rw [z.1]; exact hxm, (ok p m).2.1, (ok p m).1⟩
                have l66 := L0.le
                refine ⟨_, rfl, .inl ⟨rfl, _, SqL.of hr7⟩, _, rfl, _, rfl, (by show 2 ≤ sizeLine; decide), fun t ht => ?_⟩
                have tr : t ≠ r := fun z => by rw [z, hr7] at ht; cases ht
                have tl' := S7.ne ht
                refine ⟨r, _, _, rfl, rfl, Same.new ht _ _ hr7, small1000 (by rw [hls.1]; omega), ?_⟩
                refine ⟨rs ++ [.ref t], ls ++ [(x, y)], _, rfl, ?_, Ext_upd (Ext_upd (X6.trans x7) (Ext_free (X6.trans x7) S7 ht)) hr00, ?_, upd_same, ?_, ?_, fun p m => ?_⟩
                · obtain ⟨st, e1, e2⟩ := S7.new (o := .tup [.int x, .int y]) ht
                  exact ⟨st, (upd_ne rl.symm).trans e1, e2⟩
                · rw [upd_ne qr]; exact Same.new ht _ _ hq7
                · refine LnAt.snoc (hls7.mono fun b xs e => ?_) ((upd_ne tr).trans upd_same)
                  rw [upd_ne (fun z => by rw [z, hr7] at e; cases e)]
                  exact Same.new ht _ _ e
                · rw [List.nodup_append]
                  refine ⟨nd, by simp, fun p m p' m' => ?_⟩
                  rw [List.mem_singleton.mp m']
                  rintro rfl
                  rcases (ok _ m).2.2 with z | z
                  · exact nd_take (up_nodup W.up) hx z
                  · exact nd_take (up_nodup W.up) hy z.2
                · rcases List.mem_append.mp m with m | m
                  · exact ok' p m
                  · rw [List.mem_singleton.mp m]
                    exact ⟨lt, hym, .inr ⟨rfl, by rw [ej]; exact List.mem_append_right _ (List.mem_singleton.mpr rfl)⟩⟩
              · exact ⟨rs, ls, _, rfl, S7, X6.trans x7, hq7, hr7, hls7, nd, ok'⟩
            · exact iteN rfl ⟨rs, ls, _, rfl, S6, X6, hq6, hr6, hls, nd, ok'⟩
          · rintro σ H' ⟨rs, ls, o8, rfl, S', X', hq', hr', hls, nd, ok⟩
            refine ⟨rs, ls, _, o8, rfl, S', X', hq', hr', hls, nd, fun p m => ⟨(ok p m).1, (ok p m).2.1, ?_⟩⟩
            rw [ei]
            rcases (ok p m).2.2 with z | z
            · exact List.mem_append_left _ z
            · exact List.mem_append_right _ (List.mem_singleton.mpr z.1)
        · rintro σ H5 ⟨rs, ls, o7, o8, rfl, S5, X5, hq5, hr5, hls, nd, ok⟩
          have L0 : Ls hs ls := Ls.of W nd fun p m => ⟨List.mem_of_mem_take (ok p m).2.2, (ok p m).2.1, (ok p m).1⟩
          have l66 := L0.le
          have hz := hls.1
          refine ⟨_, rfl, _, rfl, r, _, rfl, .inl (SqL.of hr5), _, _, rfl, rfl, l, _, rfl, S5, by omega, log_small (by omega) (by omega), fun d6 H6 g5 g6 S6 x6 => ?_⟩
          have hq6 := x6 _ _ hq5 ql
          have hr6 := x6 _ _ hr5 rl
          have X6 := X5.trans x6
          obtain ⟨n, rfl⟩ : ∃ n : Nat, d6 = n := ⟨d6.toNat, by omega⟩
          have hn : n ≤ rs.length := by omega
          refine ⟨_, rfl, _, rfl, _, rfl, _, rfl, r, _, rfl, SqL.of hr6, fun p1 hp1 => ?_⟩
          refine ⟨_, rfl, _, rfl, _, rfl, r, _, rfl, SqL.of (Same.new hp1 _ _ hr6), fun p2 hp2 => ?_⟩
          rw [cut_lo hn] at hp2 ⊢
          rw [cut_hi hn]
          have n12 : p1 ≠ p2 := fun z => by rw [← z, upd_same] at hp2; cases hp2
          refine ⟨p1, p2, _, _, rfl, rfl, (upd_ne n12).trans upd_same, upd_same, ?_, fun p3 hp3 => ?_⟩
          · rw [List.length_drop, List.length_take]
            exact Nat.le_of_lt (small1000 (by omega))
          · refine ⟨(by show 2 ≤ sizeLine; decide), fun t ht => ?_⟩
            have s1 := Same.new (o := .lst (rs.drop n)) hp1
            have s2 := s1.trans (Same.new (o := .lst (rs.take n)) hp2)
            have s3 := s2.trans (Same.new (o := .lst (rs.drop n ++ rs.take n)) hp3)
            have s4 := s3.trans (Same.new (o := .tup [.ref q, .ref p3]) ht)
            have f3 := Ext_free X6 S6 (s2.free hp3)
            have f4 := Ext_free X6 S6 (s3.free ht)
            exact k t q p3 _ hs _ _ upd_same (s4 _ _ hq6) (Same.new ht _ _ upd_same) (((hls.mono (Ext_tup S5 x6)).same s4).turn n) W (L0.turn n) (S6.same s4) (X6.trans (Ext.same s4)) f4 hq0 f3
end
end K04

/-! K01m -/
set_option Elab.async false
set_option linter.all false
set_option maxRecDepth 100000
set_option maxHeartbeats 4000000
namespace K04
open PySem L2
open L2.Srt (srtA srtA_ok)
theorem nbs_nd {x : Int} : ∀ {ls : List (Int × Int)}, ls.Nodup → (∀ p ∈ ls, p.1 < p.2) → (nbs ls x).Nodup
  | [], _, _ => List.nodup_nil
  | p :: ls, nd, ok => by
    obtain ⟨n1, n2⟩ := List.nodup_cons.mp nd
    have ih := nbs_nd (x := x) n2 fun q hq => ok q (List.mem_cons_of_mem _ hq)
    have lt := ok p (List.mem_cons_self ..)
    have e : nbs (p :: ls) x = ((if p.1 = x then [p.2] else []) ++ if p.2 = x then [p.1] else []) ++ nbs ls x := by unfold nbs; rw [List.flatMap_cons]
    have no : ∀ y, Adj ls x y → y ∉ ((if p.1 = x then [p.2] else []) ++ if p.2 = x then [p.1] else []) := by
      intro y hy hm
      have key : ∀ q ∈ ls, q ≠ p := fun q hq z => n1 (z ▸ hq)
      rcases List.mem_append.mp hm with h | h
      · by_cases c : p.1 = x
        · rw [if_pos c] at h
          have ey : y = p.2 := List.mem_singleton.mp h
          rcases hy with z | z
          · exact key _ z (by rw [ey, ← c])
          · have := ok _ (List.mem_cons_of_mem _ z)
            simp at this
            omega
        · rw [if_neg c] at h; cases h
      · by_cases c : p.2 = x
        · rw [if_pos c] at h
          have ey : y = p.1 := List.mem_singleton.mp h
          rcases hy with z | z
          · have := ok _ (List.mem_cons_of_mem _ z)
            simp at this
            omega
          · exact key _ z (by rw [ey, ← c])
        · rw [if_neg c] at h; cases h
    rw [e, List.nodup_append]
    refine ⟨?_, ih, fun a ha b hb z => no b (mem_nbs.mp hb) (z ▸ ha)⟩
    by_cases c1 : p.1 = x
    · have c2 : ¬ p.2 = x := by omega
      rw [if_pos c1, if_neg c2]
      simp
    · rw [if_neg c1]
      by_cases c2 : p.2 = x
      · rw [if_pos c2]; simp
      · rw [if_neg c2]; simp
theorem nbs_few {hs : List Int} {ls : List (Int × Int)} {x : Int} (W : Hs hs) (L : Ls hs ls) : (nbs ls x).length ≤ 12 := by
  have nd := nbs_nd (x := x) L.nd fun p hp => (L.ok p hp).2.2
  have sub : ∀ y ∈ nbs ls x, y ∈ hs := fun y hy => by
    rcases mem_nbs.mp hy with z | z
    · exact (L.ok _ z).2.1
    · exact (L.ok _ z).1
  have := nd_le nd sub
  have := W.l12
  omega
section
variable {P : Program} {w : World} {K : PySem.W.Frag} {mg : Str → Option Value} {base : Heap} {a : Ad}
theorem calm {k : Nat} {f : Addr} {fd : FuncData} {ps : List Str} {sp : Sp} (F : FnOk P w K mg base (CX1 P w) k f fd ps sp) : FnOk P w K mg base CX0 k f fd ps (fun vs H Q _ => sp vs H Q E0) :=
  ⟨fun vs H Q E h => F.len vs H Q E0 h, fun A outer s H args us vs Q E hr e0 hb r h => codeAny_mono (F.run A outer s H args us vs Q E0 hr e0 hb r h) fun r s' hq => by
    cases r with
    | error e =>
      obtain ⟨_, _, _, _, _, _, _, _, z⟩ := hq
      exact False.elim z
    | ok fl => cases fl <;> exact hq⟩
def Odd (K : PySem.W.Frag) (H : Hp) (v : V) : Prop := ∃ t b1 b2, TyOf K H v t ∧ PySem.W.kitOne K t (.type "int") = some b1 ∧ (b1 = true → PySem.W.kitOne K t (.type "bool") = some b2) ∧ (b1 && !b2) = false
def Arg (K : PySem.W.Frag) (H : Hp) (v : V) : Option Int → Prop
  | some i => v = .int i
  | none => Odd K H v
def hh (hs : List Int) : Option Int → Bool
  | some i => decide (i ∈ hs)
  | none => false
def spWholeT (K : PySem.W.Frag) : Sp := fun vs H Q _ => ∃ v o, vs = [v] ∧ Arg K H v o ∧ Q (.bl o.isSome) H
theorem ok_wholeT (T : Txt K mg a) : FnOk P w K mg base CX0 1 a.f_is_whole a.d_is_whole ["value"] (spWholeT K) := by
  refine T.F_is_whole.ok sc_is_whole (fun vs H Q E h => ?_) (fun cdv A outer s H vs Q E hr h => ?_)
  · obtain ⟨v, o, rfl, _⟩ := h
    rfl
  · obtain ⟨v, o, rfl, ha, k⟩ := h
    refine bx_in (w_pss_one (w_ps_ret (w_pe_and (w_pe_callB call_isi (by rfl) T.n_isinstance bt_isinstance (w_pa_N (w_pv 0) (w_pa_N (w_pe_bty T.n_int bt_int) w_pa_nil))) (w_pe_one (w_pe_not (w_pe_callB call_isi (by rfl) T.n_isinstance bt_isinstance (w_pa_N (w_pv 0) (w_pa_N (w_pe_bty T.n_bool bt_bool) w_pa_nil)))))))) ?_
    cases o with
    | some i =>
      cases (show v = .int i from ha)
      refine ⟨_, rfl, _, _, _, _, _, rfl, rfl, .int i, T.k_tint_tint, _, rfl, iteT ?_⟩
      exact ⟨_, rfl, _, _, _, _, _, rfl, rfl, .int i, T.k_tint_tbool, _, rfl, k⟩
    | none =>
      obtain ⟨t, b1, b2, ty, k1, k2, e⟩ := (show Odd K H v from ha)
      refine ⟨_, rfl, _, _, _, _, _, rfl, rfl, ty, k1, _, rfl, ?_⟩
      cases b1 with
      | false => exact iteN rfl k
      | true =>
        refine iteB rfl ⟨_, rfl, _, _, _, _, _, rfl, rfl, ty, k2 rfl, _, rfl, ?_⟩
        have e : (!b2) = false := e
        rw [e]
        exact k
def spHas (P : Program) (w : World) (K : PySem.W.Frag) (a : Ad) : Sp := fun vs H Q _ => ∃ (p : Addr) (v : V) (o : Option Int) (hs : List Int) (ps : List Srt.PT) (dx oh ol d : Addr) (ad : Int → Addr), vs = [.ref p, v] ∧ WbAt P w a H p hs ps dx oh ol d ad ∧ Arg K H v o ∧ Q (.bl (hh hs o)) H
theorem ok_has (T : Txt K mg a) : FnOk P w K mg base CX0 2 a.f_Web_has_hand a.d_Web_has_hand ["self", "hand"] (spHas P w K a) := by
  have c_is_whole : Callee P w K mg base "is_whole" a.f_is_whole a.d_is_whole ["value"] 1 (spWholeT K) := ⟨ok_wholeT T, T.g_is_whole, T.F_is_whole.kp, T.b_is_whole⟩
  refine T.F_Web_has_hand.ok sc_Web_has_hand (fun vs H Q E h => ?_) (fun cdv A outer s H vs Q E hr h => ?_)
  · obtain ⟨p, v, o, hs, ps, dx, oh, ol, d, ad, rfl, _⟩ := h
    rfl
  · obtain ⟨p, v, o, hs, ps, dx, oh, ol, d, ad, rfl, W, ha, k⟩ := h
    have hu := hu_of hr
    refine bx_in (w_pss_one (w_ps_ret (w_pe_and (w_pe_c c_is_whole (hr.mono (by omega)) (w_pa_N (w_pv 1) w_pa_nil)) (w_pe_one (w_pe_cmp (w_pc_din hu (w_pv 1) (w_pe_fld (w_pv 0) rfl))))))) ?_
    refine ⟨_, rfl, v, o, rfl, ha, _, rfl, ?_⟩
    cases o with
    | none => exact iteN rfl k
    | some i =>
      cases (show v = .int i from ha)
      refine iteB rfl ⟨_, rfl, _, rfl, p, _, dx, _, _, rfl, W.p, T.cl_Web, T.na_Web_near, rfl, d, _, rfl, DGet.k (k := Sum.inl i) W.nr.d, ?_⟩
      have e : (valV (tab ad hs) (Sum.inl i : Key)).isSome = decide (i ∈ hs) := by
        by_cases h : i ∈ hs
        · rw [decide_eq_true h, valV_yes (by rw [tab_keys]; exact inl_mem.mpr h)]
        · rw [decide_eq_false h, valV_no (by rw [tab_keys]; exact fun z => h (inl_mem.mp z))]
      rw [e]
      exact k
def nn (ls : List (Int × Int)) : Option Int → Option Int → Bool
  | some x, some y => decide (y ∈ nbs ls x)
  | _, _ => false
def hl (hs : List Int) (ls : List (Int × Int)) (o1 o2 : Option Int) : Bool := hh hs o1 && (hh hs o2 && nn ls o1 o2)
def spHasLine (P : Program) (w : World) (K : PySem.W.Frag) (a : Ad) : Sp := fun vs H Q _ => ∃ (p : Addr) (v u : V) (o1 o2 : Option Int) (hs : List Int) (ps : List Srt.PT) (dx oh ol d : Addr) (ad : Int → Addr), vs = [.ref p, v, u] ∧ WbAt P w a H p hs ps dx oh ol d ad ∧ Arg K H v o1 ∧ Arg K H u o2 ∧ Q (.bl (hl hs (ps.map (·.2)) o1 o2)) H
theorem ok_hasline (T : Txt K mg a) : FnOk P w K mg base CX0 3 a.f_Web_has_line a.d_Web_has_line ["self", "one", "other"] (spHasLine P w K a) := by
  refine T.F_Web_has_line.ok sc_Web_has_line (fun vs H Q E h => ?_) (fun cdv A outer s H vs Q E hr h => ?_)
  · obtain ⟨p, v, u, o1, o2, hs, ps, dx, oh, ol, d, ad, rfl, _⟩ := h
    rfl
  · obtain ⟨p, v, u, o1, o2, hs, ps, dx, oh, ol, d, ad, rfl, W, h1, h2, k⟩ := h
    have hu := hu_of hr
    refine bx_in (w_pss_one (w_ps_ret (w_pe_and (w_pe_methD (w_pv 0) (w_pa_N (w_pv 1) w_pa_nil)) (w_pe_and (w_pe_methD (w_pv 0) (w_pa_N (w_pv 2) w_pa_nil)) (w_pe_one (w_pe_cmpR op_in_seq (w_pv 2) (w_pe_dget hu (w_pe_fld (w_pv 0) rfl) (w_pv 1) (fun _ _ => rfl)) (by with_unfolding_all rfl))))))) ?_
    unfold hl at k
    refine ⟨_, rfl, p, _, dx, _, _, _, _, _, _, rfl, W.p, rfl, T.cl_Web, T.mt_Web_has_hand, ok_has (P := P) (w := w) T, hr.mono (by omega), T.b_Web_has_hand, _, rfl, p, v, o1, hs, ps, dx, oh, ol, d, ad, rfl, W, h1, _, rfl, ?_⟩
    by_cases q1 : hh hs o1 = true
    case neg =>
      have q1 := Bool.eq_false_iff.mpr q1
      rw [q1] at k
      exact iteN q1 k
    refine iteB q1 ?_
    rw [q1] at k
    refine ⟨_, rfl, p, _, dx, _, _, _, _, _, _, rfl, W.p, rfl, T.cl_Web, T.mt_Web_has_hand, ok_has (P := P) (w := w) T, hr.mono (by omega), T.b_Web_has_hand, _, rfl, p, u, o2, hs, ps, dx, oh, ol, d, ad, rfl, W, h2, _, rfl, ?_⟩
    by_cases q2 : hh hs o2 = true
    case neg =>
      have q2 := Bool.eq_false_iff.mpr q2
      rw [q2] at k
      exact iteN q2 k
    refine iteB q2 ?_
    rw [q2] at k
    cases o1 with
    | none => cases q1
    | some x =>
    cases o2 with
    | none => cases q2
    | some y =>
    cases (show v = .int x from h1)
    cases (show u = .int y from h2)
    have hx : x ∈ hs := of_decide_eq_true q1
    refine ⟨_, rfl, _, rfl, p, _, dx, _, _, rfl, W.p, T.cl_Web, T.na_Web_near, rfl, _, rfl, d, V.ref (ad x), rfl, tab_get W.nr.d hx, ad x, _, rfl, .inl (SqL.of (W.nr.nb x hx)), rfl, flat_ints _, ?_⟩
    show Q (.bl (inV (.int y) ((nbs (ps.map (·.2)) x).map V.int))) H
    rw [inV_int]
    exact k
def spHandsM (P : Program) (w : World) (a : Ad) : Sp := fun vs H Q _ => ∃ (p : Addr) (hs : List Int) (ps : List Srt.PT) (dx oh ol d : Addr) (ad : Int → Addr), vs = [.ref p] ∧ WbAt P w a H p hs ps dx oh ol d ad ∧ ∀ q, H q = none → Q (.ref q) (upd H q (.lst (hs.map V.int)))
theorem ok_handsM (T : Txt K mg a) : FnOk P w K mg base CX0 1 a.f_Web_hands a.d_Web_hands ["self"] (spHandsM P w a) := by
  refine T.F_Web_hands.ok sc_Web_hands (fun vs H Q E h => ?_) (fun cdv A outer s H vs Q E hr h => ?_)
  · obtain ⟨p, hs, ps, dx, oh, ol, d, ad, rfl, _⟩ := h
    rfl
  · obtain ⟨p, hs, ps, dx, oh, ol, d, ad, rfl, W, k⟩ := h
    refine bx_in (w_pss_one (w_ps_ret (w_pe_callTy call_list_of (by rfl) T.n_list bt_list (w_pa_cons (w_pe_fld (w_pv 0) rfl) w_pa_nil)))) ?_
    exact ⟨_, rfl, p, _, dx, _, _, rfl, W.p, T.cl_Web, T.na_Web_own_hands, rfl, oh, _, rfl, .inl (SqL.of W.oh), k⟩
def spLinesM (P : Program) (w : World) (a : Ad) : Sp := fun vs H Q _ => ∃ (p : Addr) (hs : List Int) (ps : List Srt.PT) (dx oh ol d : Addr) (ad : Int → Addr), vs = [.ref p] ∧ WbAt P w a H p hs ps dx oh ol d ad ∧ ∀ q, H q = none → Q (.ref q) (upd H q (.lst ((srtA P w ps).map V.ref)))
theorem ok_linesM (T : Txt K mg a) : FnOk P w K mg base CX0 1 a.f_Web_lines a.d_Web_lines ["self"] (spLinesM P w a) := by
  refine T.F_Web_lines.ok sc_Web_lines (fun vs H Q E h => ?_) (fun cdv A outer s H vs Q E hr h => ?_)
  · obtain ⟨p, hs, ps, dx, oh, ol, d, ad, rfl, _⟩ := h
    rfl
  · obtain ⟨p, hs, ps, dx, oh, ol, d, ad, rfl, W, k⟩ := h
    refine bx_in (w_pss_one (w_ps_ret (w_pe_callTy call_list_of (by rfl) T.n_list bt_list (w_pa_cons (w_pe_fld (w_pv 0) rfl) w_pa_nil)))) ?_
    exact ⟨_, rfl, p, _, dx, _, _, rfl, W.p, T.cl_Web, T.na_Web_own_lines, rfl, ol, _, rfl, .inl (SqL.of W.ol), k⟩
def spNb (P : Program) (w : World) (K : PySem.W.Frag) (a : Ad) : Sp := fun vs H Q E => ∃ (p : Addr) (v : V) (o : Option Int) (hs : List Int) (ps : List Srt.PT) (dx oh ol d : Addr) (ad : Int → Addr), vs = [.ref p, v] ∧ WbAt P w a H p hs ps dx oh ol d ad ∧ Hs hs ∧ Ls hs (ps.map (·.2)) ∧ Arg K H v o ∧
  (∀ x, o = some x → x ∈ hs → ∀ (q : Addr) (ms : List Int), H q = none → ms.Perm (nbs (ps.map (·.2)) x) → ms.Pairwise (· ≤ ·) → Q (.ref q) (upd H q (.lst (ms.map V.int)))) ∧ (hh hs o = false → E (.ref a.c_NoHand) none H)
theorem ok_nb (T : Txt K mg a) : FnOk P w K mg base (CX1 P w) 3 a.f_Web_neighbours a.d_Web_neighbours ["self", "hand"] (spNb P w K a) := by
  refine T.F_Web_neighbours.ok1 sc_Web_neighbours (fun vs H Q E h => ?_) (fun cdv A outer s H vs Q E hr h => ?_)
  · obtain ⟨p, v, o, hs, ps, dx, oh, ol, d, ad, rfl, _⟩ := h
    rfl
  · obtain ⟨p, v, o, hs, ps, dx, oh, ol, d, ad, rfl, W, wh, wl, h1, k, kx⟩ := h
    have hu := hu_of hr
    refine bx_in (w_pss_cons (w_ps_if (w_pt_not (w_pt_val (w_pe_methD (w_pv 0) (w_pa_N (w_pv 1) w_pa_nil))))
        (w_pss_one (w_ps_raise hr.hd T.xc_NoHand T.g_NoHand (w_pa_C w_pe_str w_pa_nil)))
        w_pss_nil)
      (w_pss_one (w_ps_ret (w_pe_callB call_sortI (by rfl) T.n_sorted bt_sorted (w_pa_cons (w_pe_dget hu (w_pe_fld (w_pv 0) rfl) (w_pv 1) (fun _ _ => rfl)) w_pa_nil))))) ?_
    refine ⟨_, rfl, p, _, dx, _, _, _, _, _, _, rfl, W.p, rfl, T.cl_Web, T.mt_Web_has_hand, ok_has (P := P) (w := w) T, hr.mono (by omega), T.b_Web_has_hand, _, rfl, p, v, o, hs, ps, dx, oh, ol, d, ad, rfl, W, h1, _, rfl, ?_⟩
    by_cases q1 : hh hs o = true
    case neg =>
      have q1 := Bool.eq_false_iff.mpr q1
      exact iteB (by rw [q1]; rfl) ⟨by show 1 ≤ 1000; decide, kx q1⟩
    refine iteN (by rw [q1]; rfl) ?_
    cases o with
    | none => cases q1
    | some x =>
    cases (show v = .int x from h1)
    have hx : x ∈ hs := of_decide_eq_true q1
    have few := nbs_few (x := x) wh wl
    exact ⟨_, rfl, p, _, dx, _, _, rfl, W.p, T.cl_Web, T.na_Web_near, rfl, _, rfl, d, V.ref (ad x), rfl, tab_get W.nr.d hx, ad x, _, rfl, SqL.of (W.nr.nb x hx), by omega, fun q ms hq pm sd => k x rfl hx q ms hq pm sd⟩
end
end K04

/-! K01r -/
set_option Elab.async false
set_option linter.all false
set_option maxRecDepth 100000
set_option maxHeartbeats 4000000
namespace K04
open PySem L2
open L2.Srt (srtA srtA_ok call_sortQ)
theorem up_eq2 : ∀ {as bs : List Int}, as.Pairwise (· < ·) → bs.Pairwise (· < ·) → (∀ x, x ∈ as ↔ x ∈ bs) → as = bs
  | [], [], _, _, _ => rfl
  | [], b :: bs, _, _, h => by have := (h b).mpr (List.mem_cons_self ..); cases this
  | a :: as, [], _, _, h => by have := (h a).mp (List.mem_cons_self ..); cases this
  | a :: as, b :: bs, ha, hb, h => by
    obtain ⟨a1, a2⟩ := List.pairwise_cons.mp ha
    obtain ⟨b1, b2⟩ := List.pairwise_cons.mp hb
    have e : a = b := by
      rcases List.mem_cons.mp ((h a).mp (List.mem_cons_self ..)) with e | e
      · exact e
      · rcases List.mem_cons.mp ((h b).mpr (List.mem_cons_self ..)) with e' | e'
        · exact e'.symm
        · have := b1 a e
          have := a1 b e'
          omega
    subst e
    rw [up_eq2 a2 b2 fun x => ⟨fun hx => by
      rcases List.mem_cons.mp ((h x).mp (List.mem_cons_of_mem _ hx)) with e | e
      · have := a1 x hx; omega
      · exact e, fun hx => by
      rcases List.mem_cons.mp ((h x).mpr (List.mem_cons_of_mem _ hx)) with e | e
      · have := b1 x hx; omega
      · exact e⟩]
def adB (ls : List (Int × Int)) (x y : Int) : Bool := decide ((x, y) ∈ ls) || decide ((y, x) ∈ ls)
theorem adB_nbs {ls : List (Int × Int)} {x y : Int} : decide (y ∈ nbs ls x) = adB ls x y := by
  unfold adB
  rw [Bool.eq_iff_iff, Bool.or_eq_true, decide_eq_true_eq, decide_eq_true_eq, decide_eq_true_eq]
  exact mem_nbs
theorem sides_eq {hs : List Int} {ls : List (Int × Int)} {x : Int} {ms : List Int} (W : Hs hs) (L : Ls hs ls) (pm : ms.Perm (nbs ls x)) (sd : ms.Pairwise (· ≤ ·)) : ms = hs.filter (adB ls x) := by
  have nd : ms.Nodup := pm.nodup_iff.mpr (nbs_nd L.nd fun p hp => (L.ok p hp).2.2)
  have up : ms.Pairwise (· < ·) := (sd.and (List.nodup_iff_pairwise_ne.mp nd)).imp fun h => by
    have h1 := h.1
    have h2 := h.2
    omega
  refine up_eq2 up (W.up.filter _) fun y => ?_
  rw [pm.mem_iff, List.mem_filter, ← adB_nbs, decide_eq_true_eq]
  refine ⟨fun h => ⟨?_, h⟩, fun h => h.2⟩
  rcases mem_nbs.mp h with z | z
  · exact (L.ok _ z).2.1
  · exact (L.ok _ z).1
section
variable {P : Program} {w : World} {K : PySem.W.Frag} {mg : Str → Option Value} {base : Heap} {a : Ad}
def spIs : Sp := fun vs H Q _ => ∃ x y : Bool, vs = [.bl x, .bl y] ∧ Q (.bl (decide (x = y))) H
theorem ok_is (T : Txt K mg a) : FnOk P w K mg base CX0 1 a.f__law_is a.d__law_is ["_law_found", "_law_due"] spIs := by
  refine T.F__law_is.ok sc__law_is (fun vs H Q E h => ?_) (fun cdv A outer s H vs Q E hr h => ?_)
  · obtain ⟨x, y, rfl, _⟩ := h
    rfl
  · obtain ⟨x, y, rfl, k⟩ := h
    refine bx_in (w_pss_one (w_ps_ret (w_pe_and (w_pe_callB call_isi (by rfl) T.n_isinstance bt_isinstance (w_pa_N (w_pv 0) (w_pa_N (w_pe_bty T.n_bool bt_bool) w_pa_nil))) (w_pe_one (w_pe_cmpR op_eq (w_pv 0) (w_pv 1) (nomark _)))))) ?_
    refine ⟨_, rfl, _, _, _, _, _, rfl, rfl, .bl x, T.k_tbool_tbool, _, rfl, iteT ⟨_, rfl, _, rfl, rfl, ?_⟩⟩
    have e : decide (V.bl x = V.bl y) = decide (x = y) := by cases x <;> cases y <;> rfl
    rw [e]
    exact k
def spRefused (P : Program) (w : World) (K : PySem.W.Frag) (a : Ad) : Sp := fun vs H Q _ => ∃ (p : Addr) (v : V) (o : Option Int) (hs : List Int) (ps : List Srt.PT) (dx oh ol d : Addr) (ad : Int → Addr), vs = [.ref p, v] ∧ WbAt P w a H p hs ps dx oh ol d ad ∧ Hs hs ∧ Ls hs (ps.map (·.2)) ∧ Arg K H v o ∧ hh hs o = false ∧ ∀ H', Same H H' → Q (.bl true) H'
theorem ok_refused (T : Txt K mg a) : FnOk P w K mg base CX0 4 a.f__law_refused a.d__law_refused ["_law_web_here", "_law_hand"] (spRefused P w K a) := by
  refine T.F__law_refused.ok sc__law_refused (fun vs H Q E h => ?_) (fun cdv A outer s H vs Q E hr h => ?_)
  · obtain ⟨p, v, o, hs, ps, dx, oh, ol, d, ad, rfl, _⟩ := h
    rfl
  · obtain ⟨p, v, o, hs, ps, dx, oh, ol, d, ad, rfl, W, wh, wl, ha, hn, k⟩ := h
    refine bx_in (w_pss_cut (w_ps_tryAs (i := 2) rfl rfl sc__law_refused.nd rfl rfl T.xc_NoHand T.g_NoHand (w_px_expr (w_pv_methD (w_pv 0) (w_pa_N (w_pv 1) w_pa_nil))) (fun _ => (w_pss_one (w_ps_ret (w_pe_and (w_pe_callB (call_isiK (K := K) rfl) (by rfl) T.n_isinstance bt_isinstance (w_pa_N (w_pv 2) (w_pa_N (w_pe_bty T.n_ValueError bt_ValueError) w_pa_nil))) (w_pe_and (w_pe_not (w_pe_callB (call_isiK (K := K) rfl) (by rfl) T.n_isinstance bt_isinstance (w_pa_N (w_pv 2) (w_pa_N (w_pe_cls T.g_NoWeb) w_pa_nil)))) (w_pe_one (w_pe_not (w_pe_callB (call_isiK (K := K) rfl) (by rfl) T.n_isinstance bt_isinstance (w_pa_N (w_pv 2) (w_pa_N (w_pe_cls T.g_NoLine) w_pa_nil)))))))))))
      (w_pss_one (w_ps_ret w_pe_bl))) ?_
    refine ⟨fun _ _ => False, ?_, fun _ _ z => False.elim z⟩
    refine ⟨_, rfl, p, _, dx, _, _, _, _, _, _, rfl, W.p, rfl, T.cl_Web, T.mt_Web_neighbours, ok_nb (P := P) (w := w) T, hr.mono (by omega), T.b_Web_neighbours, _, rfl, p, v, o, hs, ps, dx, oh, ol, d, ad, rfl, W, wh, wl, ha, fun x e hx => ?_, fun _ => ⟨rfl, fun ax hax => ?_⟩⟩
    · subst e
      rw [show hh hs (some x) = true from decide_eq_true hx] at hn
      cases hn
    · have hX : upd H ax (.ext (ObC ax a.c_NoHand)) ax = some (.ext (ObC ax a.c_NoHand)) := upd_same
      refine ⟨_, rfl, ax, a.c_NoHand, _, _, _, rfl, rfl, hX, T.xi_NoHand, T.k_NoHand_tValueError, _, rfl, iteT ?_⟩
      refine ⟨_, rfl, ax, a.c_NoHand, _, _, _, rfl, rfl, hX, T.xi_NoHand, T.k_NoHand_NoWeb, _, rfl, _, rfl, iteT ?_⟩
      exact ⟨_, rfl, ax, a.c_NoHand, _, _, _, rfl, rfl, hX, T.xi_NoHand, T.k_NoHand_NoLine, _, rfl, k _ (Same.new hax)⟩
def spRight (P : Program) (w : World) (a : Ad) : Sp := fun vs H Q _ => ∃ (p h l : Addr) (hs : List Int) (ps : List Srt.PT) (dx oh ol d : Addr) (ad : Int → Addr), vs = [.ref p, .ref h, .ref l] ∧ WbAt P w a H p hs ps dx oh ol d ad ∧ Hs hs ∧ Ls hs (ps.map (·.2)) ∧ Tp H ps ∧ H h = some (.lst (hs.map V.int)) ∧ H l = some (.lst (ps.map fun p => V.ref p.1)) ∧ ∀ H', Same H H' → Q (.bl true) H'
theorem ok_right (T : Txt K mg a) : FnOk P w K mg base CX0 5 a.f__law_right a.d__law_right ["_law_web_here", "_law_hands", "_law_lines"] (spRight P w a) := by
  have c__law_is : Callee P w K mg base "_law_is" a.f__law_is a.d__law_is ["_law_found", "_law_due"] 1 spIs := ⟨ok_is T, T.g__law_is, T.F__law_is.kp, T.b__law_is⟩
  refine T.F__law_right.ok sc__law_right (fun vs H Q E h => ?_) (fun cdv A outer s H vs Q E hr h => ?_)
  · obtain ⟨p, h, l, hs, ps, dx, oh, ol, d, ad, rfl, _⟩ := h
    rfl
  · obtain ⟨p, h, l, hs, ps, dx, oh, ol, d, ad, rfl, W, wh, wl, tp, hh0, hl0, k⟩ := h
    have hu := hu_of hr
    have un : ∀ n, n ≤ 20 → (A.deeper (PyProof.Rows.envOfC "_law_right" (defScope st__law_right) s.heap.objs.size a.f__law_right cdv)).units + n + 2 < cLine := fun n hn => by
      have := hr.un
      omega
    have l66 := wl.le
    have l12 := wh.l12
    rw [List.length_map] at l66
    refine bx_in (w_pss_cons (w_ps_if (w_pt (w_pw_or (w_pt_cmpR op_neS (w_pe_meth0D (w_pv 0)) (w_pv 1) (nomark _)) (w_pw_or1 (w_pt_cmpR op_neS (w_pe_meth0D (w_pv 0)) (w_pe_callB (call_sortK (P := P) (w := w) rfl rfl) (by rfl) T.n_sorted bt_sorted (w_pa_N (w_pv 2) w_pa_nil)) (nomark _)))))
        (w_pss_one (w_ps_ret w_pe_bl))
        w_pss_nil)
      (w_pss_cons (w_ps_for PassesOwn.never rfl (w_pi_range2 rfl T.n_range (w_pa_U (w_pe_un un_neg w_pe_int) (w_pa_C w_pe_int w_pa_nil))) (w_pg_name (i := 3) sc__law_right.nd rfl (Or.inl rfl))
        (w_pss_one (w_ps_if (w_pt_not (w_pt_val (w_pe_c c__law_is (hr.mono (by omega)) (w_pa_K (w_pe_methD (w_pv 0) (w_pa_N (w_pv 3) w_pa_nil)) (w_pa_cons (w_pe_cmpR op_in_seq (w_pv 3) (w_pv 1) (by with_unfolding_all rfl)) w_pa_nil)))))
          (w_pss_one (w_ps_ret w_pe_bl))
          w_pss_nil)))
      (w_pss_cons (w_ps_for PassesOwn.never rfl (w_pi_list (w_pv 1)) (w_pg_name (i := 3) sc__law_right.nd rfl (Or.inl rfl))
        (w_pss_cons (w_ps_set (i := 4) sc__law_right.nd rfl (Or.inl rfl) (w_pe_lst w_pa_nil))
        (w_pss_cons (w_ps_for PassesOwn.never rfl (w_pi_list (w_pv 1)) (w_pg_name (i := 5) sc__law_right.nd rfl (Or.inl rfl))
          (w_pss_cut (w_ps_set (i := 6) sc__law_right.nd rfl (Or.inl rfl) (w_pe_or (w_pe_cmpR op_inP (w_pe_tup (w_pa_N (w_pv 3) (w_pa_N (w_pv 5) w_pa_nil))) (w_pv 2) (by with_unfolding_all rfl)) (w_pe_one (w_pe_cmpR op_inP (w_pe_tup (w_pa_N (w_pv 5) (w_pa_N (w_pv 3) w_pa_nil))) (w_pv 2) (by with_unfolding_all rfl)))))
          (w_pss_cons (w_ps_if (w_pt_not (w_pt_val (w_pe_c c__law_is (hr.mono (by omega)) (w_pa_K (w_pe_methD (w_pv 0) (w_pa_N (w_pv 3) (w_pa_N (w_pv 5) w_pa_nil))) (w_pa_N (w_pv 6) w_pa_nil)))))
            (w_pss_one (w_ps_ret w_pe_bl))
            w_pss_nil)
          (w_pss_one (w_ps_if (w_pt_val (w_pv 6))
            (w_pss_one (w_ps_expr (w_pe_bm PySem.F.plainAttrs_list PySem.F.slot_list_append PySem.F.type_list_append mt_append (w_pv 4) (w_pa_N (w_pv 5) w_pa_nil))))
            w_pss_nil)))))
        (w_pss_one (w_ps_if (w_pt (w_pw_or (w_pt_cmpR op_neS (w_pe_methD (w_pv 0) (w_pa_N (w_pv 3) w_pa_nil)) (w_pv 4) (nomark _)) (w_pw_or1 (w_pt_cmpR op_notF (w_pe_methD (w_pv 0) (w_pa_N (w_pv 3) (w_pa_N (w_pv 3) w_pa_nil))) w_pe_bl (nomark _)))))
          (w_pss_one (w_ps_ret w_pe_bl))
          w_pss_nil)))))
      (w_pss_one (w_ps_ret w_pe_bl))))) ?_
    refine ⟨_, rfl, p, _, dx, _, _, _, _, _, _, rfl, W.p, rfl, T.cl_Web, T.mt_Web_hands, ok_handsM (P := P) (w := w) T, hr.mono (by omega), T.b_Web_hands, p, hs, ps, dx, oh, ol, d, ad, rfl, W, fun q hq => ?_⟩
    have s1 := Same.new (o := HO.lst (hs.map V.int)) hq
    refine ⟨_, rfl, q, h, _, _, fun _ => true, 0, rfl, rfl, .inl ⟨SqL.of upd_same, SqL.of (s1 _ _ hh0)⟩, rfl, un 0 (by omega), fun j u v eu ev => ?_, _, rfl, iteN (by simp) ?_⟩
    · rw [eu] at ev
      cases ev
      rw [List.getElem?_map] at eu
      obtain ⟨i, _, rfl⟩ := Option.map_eq_some_iff.mp eu
      exact flat_same rfl
    have W1 := W.same s1
    refine ⟨_, rfl, p, _, dx, _, _, _, _, _, _, rfl, W1.p, rfl, T.cl_Web, T.mt_Web_lines, ok_linesM (P := P) (w := w) T, hr.mono (by omega), T.b_Web_lines, p, hs, ps, dx, oh, ol, d, ad, rfl, W1, fun q2 hq2 => ?_⟩
    have s2 := s1.trans (Same.new (o := HO.lst ((srtA P w ps).map V.ref)) hq2)
    refine ⟨_, rfl, l, ps, rfl, SqL.of (s2 _ _ hl0), l66, tp.same s2, fun q3 hq3 => ?_⟩
    have y3 := Same.new (o := HO.lst ((srtA P w ps).map V.ref)) hq3
    have s3 := s2.trans y3
    refine ⟨q2, q3, _, _, fun _ => true, 0, rfl, rfl, .inl ⟨SqL.of (y3 _ _ upd_same), SqL.of upd_same⟩, rfl, un 0 (by omega), fun j u v eu ev => ?_, _, rfl, iteN (by simp) ?_⟩
    · rw [eu] at ev
      cases ev
      rw [List.getElem?_map] at eu
      obtain ⟨i, _, rfl⟩ := Option.map_eq_some_iff.mp eu
      exact .same
    generalize upd (upd (upd H q (HO.lst (hs.map V.int))) q2 (HO.lst ((srtA P w ps).map V.ref))) q3 (HO.lst ((srtA P w ps).map V.ref)) = H3 at s3
    have W3 := W.same s3
    have hh3 := s3 _ _ hh0
    refine ⟨_, rfl, _, _, rfl, ⟨by decide, by decide, by decide, by decide⟩, ?_⟩
    refine for_range (lo := -1) (n := 102) (fun i σ H' => ∃ o3, σ = [some (.ref p), some (.ref h), some (.ref l), o3, none, none, none] ∧ H' = H3) ?_ ?_ ?_
    · exact ⟨none, rfl, rfl⟩
    · rintro i σ H' hi ⟨o3, rfl, rfl⟩
      generalize (-1 + (i : Int)) = x
      refine ⟨_, rfl, p, _, dx, _, _, _, _, _, _, rfl, W3.p, rfl, T.cl_Web, T.mt_Web_has_hand, ok_has (P := P) (w := w) T, hr.mono (by omega), T.b_Web_has_hand, _, rfl, p, .int x, some x, hs, ps, dx, oh, ol, d, ad, rfl, W3, rfl, ?_⟩
      refine ⟨_, rfl, _, rfl, h, _, rfl, .inl (SqL.of hh3), rfl, flat_ints hs, _, _, rfl, _, rfl, iteN ?_ ?_⟩
      · show (!decide (hh hs (some x) = inV (.int x) (hs.map V.int))) = false
        rw [inV_int]
        show (!decide (decide (x ∈ hs) = decide (x ∈ hs))) = false
        simp
      · exact ⟨_, rfl, rfl⟩
    rintro σ H' ⟨o3, rfl, rfl⟩
    refine ⟨_, rfl, h, rfl, ⟨_, SqL.of hh3⟩, ?_⟩
    refine for_list (K := K) (a := h) (xs := hs.map V.int) (fun i σ H'' => ∃ o3 o4 o5 o6, σ = [some (.ref p), some (.ref h), some (.ref l), o3, o4, o5, o6] ∧ Same H' H'') ?_ ?_ ?_ ?_
    · exact ⟨_, _, _, _, rfl, Same.refl _⟩
    · rintro i σ H'' _ ⟨_, _, _, _, _, sm⟩
      exact SqL.of (sm _ _ hh3)
    · rintro i x σ Hx hi ⟨o3, o4, o5, o6, rfl, sx⟩
      rw [List.getElem?_map] at hi
      obtain ⟨x, hx, rfl⟩ := Option.map_eq_some_iff.mp hi
      have hxm : x ∈ hs := List.mem_of_getElem? hx
      refine ⟨by show 0 ≤ sizeLine; decide, fun sd hsd => ?_⟩
      have y1 := Same.new (o := HO.lst []) hsd
      have hhx := sx _ _ hh3
      refine ⟨_, rfl, h, rfl, ⟨_, SqL.of (y1 _ _ hhx)⟩, ?_⟩
      refine for_list (K := K) (a := h) (xs := hs.map V.int) (fun j σ H'' => ∃ o5 o6, σ = [some (.ref p), some (.ref h), some (.ref l), some (.int x), some (.ref sd), o5, o6] ∧ Same Hx H'' ∧ H'' sd = some (.lst (((hs.take j).filter (adB (ps.map (·.2)) x)).map V.int))) ?_ ?_ ?_ ?_
      · exact ⟨_, _, rfl, y1, upd_same⟩
      · rintro j σ H'' _ ⟨_, _, _, sm, _⟩
        exact SqL.of (sm _ _ hhx)
      · rintro j y σ Hy hj ⟨o5, o6, rfl, sy, hsd'⟩
        rw [List.getElem?_map] at hj
        obtain ⟨y, hy, rfl⟩ := Option.map_eq_some_iff.mp hj
        have hym : y ∈ hs := List.mem_of_getElem? hy
        have sA := s3.trans (sx.trans sy)
        have hly := sA _ _ hl0
        have tpy := tp.same sA
        refine ⟨fun σ' H'' => σ' = [some (.ref p), some (.ref h), some (.ref l), some (.int x), some (.ref sd), some (.int y), some (.bl (adB (ps.map (·.2)) x y))] ∧ Same Hy H'', ?_, ?_⟩
        · refine ⟨_, rfl, _, rfl, (by show 2 ≤ sizeLine; decide), fun t ht => ?_⟩
          have yt := Same.new (o := HO.tup [.int x, .int y]) ht
          refine ⟨_, rfl, l, t, ps, x, y, rfl, rfl, SqL.of (yt _ _ hly), tpy.same yt, upd_same, fun q hq => ne_of_none (tpy q hq) ht, un 3 (by omega), _, rfl, ?_⟩
          by_cases c1 : (x, y) ∈ ps.map (·.2)
          · refine iteB (decide_eq_true c1) ⟨?_, yt⟩
            unfold adB
            rw [decide_eq_true c1]
            rfl
          · refine iteN (decide_eq_false c1) ⟨_, rfl, _, rfl, (by show 2 ≤ sizeLine; decide), fun t2 ht2 => ?_⟩
            have yt2 := Same.new (o := HO.tup [.int y, .int x]) ht2
            refine ⟨_, rfl, l, t2, ps, y, x, rfl, rfl, SqL.of (yt2 _ _ (yt _ _ hly)), (tpy.same yt).same yt2, upd_same, fun q hq => ne_of_none (tpy.same yt q hq) ht2, un 3 (by omega), ?_, yt.trans yt2⟩
            unfold adB
            rw [decide_eq_false c1]
            rfl
        · rintro σ' Hz ⟨rfl, sz⟩
          have sB := sA.trans sz
          have WB := W.same sB
          refine ⟨_, rfl, p, _, dx, _, _, _, _, _, _, rfl, WB.p, rfl, T.cl_Web, T.mt_Web_has_line, ok_hasline (P := P) (w := w) T, hr.mono (by omega), T.b_Web_has_line, _, rfl, _, rfl, p, .int x, .int y, some x, some y, hs, ps, dx, oh, ol, d, ad, rfl, WB, rfl, rfl, ?_⟩
          have e : hl hs (ps.map (·.2)) (some x) (some y) = adB (ps.map (·.2)) x y := by
            show (decide (x ∈ hs) && (decide (y ∈ hs) && decide (y ∈ nbs _ x))) = _
            rw [decide_eq_true hxm, decide_eq_true hym, adB_nbs]
            rfl
          rw [e]
          refine ⟨_, rfl, _, _, rfl, _, rfl, iteN (by simp) ?_⟩
          refine ⟨_, rfl, _, rfl, ?_⟩
          have et : (hs.take (j + 1)).filter (adB (ps.map (·.2)) x) = (hs.take j).filter (adB (ps.map (·.2)) x) ++ (if adB (ps.map (·.2)) x y = true then [y] else []) := by
            rw [List.take_add_one, hy, List.filter_append]
            congr 1
            show List.filter _ [y] = _
            rw [List.filter_cons]
            by_cases c : adB (ps.map (·.2)) x y = true
            · rw [if_pos c, if_pos c]; rfl
            · rw [if_neg c, if_neg c]; rfl
          have hsz := sz _ _ hsd'
          by_cases c : adB (ps.map (·.2)) x y = true
          · refine iteB c ⟨_, rfl, .inl ⟨rfl, _, SqL.of hsz⟩, _, rfl, sd, _, _, rfl, rfl, hsz, small1000 ?_, ?_⟩
            · rw [List.length_map]
              exact Nat.le_trans (List.length_filter_le _ _) (by rw [List.length_take]; omega)
            · refine ⟨_, _, rfl, Same.updF (sy.trans sz) hsd, ?_⟩
              rw [upd_same, et, if_pos c, List.map_append]
              rfl
          · have c := Bool.eq_false_iff.mpr c
            refine iteN c ⟨_, _, rfl, sy.trans sz, ?_⟩
            rw [et, c]
            simpa using hsz
      · rintro σ Hy ⟨o5, o6, rfl, sy, hsd'⟩
        rw [List.length_map, List.take_length] at hsd'
        have sA := s3.trans (sx.trans sy)
        have WA := W.same sA
        refine ⟨_, rfl, p, _, dx, _, _, _, _, _, _, rfl, WA.p, rfl, T.cl_Web, T.mt_Web_neighbours, calm (ok_nb (P := P) (w := w) T), hr.mono (by omega), T.b_Web_neighbours, _, rfl, p, .int x, some x, hs, ps, dx, oh, ol, d, ad, rfl, WA, wh, wl, rfl, fun x' ex hx' q ms hq pm sdd => ?_, fun z => ?_⟩
        · cases ex
          obtain rfl := sides_eq wh wl pm sdd
          have yq := Same.new (o := HO.lst ((hs.filter (adB (ps.map (·.2)) x)).map V.int)) hq
          refine ⟨_, rfl, q, sd, _, _, fun _ => true, 0, rfl, rfl, .inl ⟨SqL.of upd_same, SqL.of (yq _ _ hsd')⟩, rfl, un 0 (by omega), fun j u v eu ev => ?_, _, rfl, iteN (by simp) ?_⟩
          · rw [eu] at ev
            cases ev
            rw [List.getElem?_map] at eu
            obtain ⟨i, _, rfl⟩ := Option.map_eq_some_iff.mp eu
            exact flat_same rfl
          have WQ := WA.same yq
          refine ⟨_, rfl, p, _, dx, _, _, _, _, _, _, rfl, WQ.p, rfl, T.cl_Web, T.mt_Web_has_line, ok_hasline (P := P) (w := w) T, hr.mono (by omega), T.b_Web_has_line, _, rfl, _, rfl, p, .int x, .int x, some x, some x, hs, ps, dx, oh, ol, d, ad, rfl, WQ, rfl, rfl, ?_⟩
          have e : hl hs (ps.map (·.2)) (some x) (some x) = false := by
            show (decide (x ∈ hs) && (decide (x ∈ hs) && decide (x ∈ nbs _ x))) = false
            rw [decide_eq_false (p := x ∈ nbs (ps.map (·.2)) x) (fun z => by
              rcases mem_nbs.mp z with z | z
              · have := (wl.ok _ z).2.2; simp at this
              · have := (wl.ok _ z).2.2; simp at this)]
            simp
          rw [e]
          refine ⟨_, rfl, rfl, _, rfl, iteN rfl ?_⟩
          exact ⟨_, _, _, _, rfl, sx.trans (sy.trans yq)⟩
        · rw [show hh hs (some x) = true from decide_eq_true hxm] at z
          cases z
    · rintro σ H'' ⟨o3, o4, o5, o6, rfl, sm⟩
      exact k _ (s3.trans sm)
end
end K04

/-! K01x -/
set_option Elab.async false
set_option linter.all false
set_option maxRecDepth 100000
set_option maxHeartbeats 4000000
namespace K04
open PySem L2
open L2.Srt (srtA srtA_ok)
theorem ln_ps {H : Hp} : ∀ {rs : List V} {ls : List (Int × Int)}, LnAt H rs ls → ∃ ps : List Srt.PT, rs = (ps.map fun p => V.ref p.1) ∧ ls = ps.map (·.2) ∧ Tp H ps
  | [], [], _ => ⟨[], rfl, rfl, fun p hp => by cases hp⟩
  | [], _ :: _, h => by have := h.1; simp at this
  | _ :: _, [], h => by have := h.1; simp at this
  | r :: rs, p :: ls, h => by
    obtain ⟨q, e, t⟩ := h.2 0 r p rfl rfl
    obtain ⟨ps, e1, e2, tp⟩ := ln_ps (H := H) (rs := rs) (ls := ls) ⟨by have := h.1; simpa using this, fun i => h.2 (i + 1)⟩
    refine ⟨(q, p) :: ps, by rw [e, e1]; rfl, by rw [e2]; rfl, fun x hx => ?_⟩
    rcases List.mem_cons.mp hx with rfl | hx
    · exact t
    · exact tp x hx
theorem lst_same {K : PySem.W.Frag} {H : Hp} {b c : Addr} {xs : List V} {n : Nat} (hb : H b = some (.lst xs)) (hc : H c = some (.lst xs)) (h : ∀ x ∈ xs, EqD K H x x true n) : EqD K H (.ref b) (.ref c) true (n + 1) := by
  by_cases hne : b = c
  · subst hne; exact .same
  · have := EqD.lst (K := K) (e := fun _ => true) hne (SqL.of hb) (SqL.of hc) rfl (n := n) fun j x y e1 e2 => by
      rw [e1] at e2
      cases e2
      exact h x (List.mem_of_getElem? e1)
    rw [show ((List.range xs.length).all fun _ => true) = true from List.all_eq_true.mpr fun _ _ => rfl] at this
    exact this
theorem at0 {x : V} {xs : List V} : atI (x :: xs) 0 = some x := by
  unfold atI ixN
  simp
theorem tyOf_same {K : PySem.W.Frag} {H H' : Hp} {v : V} {t : Value} (s : Same H H') (h : TyOf K H v t) : TyOf K H' v t := by
  cases h with
  | non => exact .non
  | bl x => exact .bl x
  | int i => exact .int i
  | str x => exact .str x
  | flt x => exact .flt x
  | lst e => exact .lst (s _ _ e)
  | frz e => exact .frz (s _ _ e)
  | tup e => exact .tup (s _ _ e)
  | dK e => exact .dK (s _ _ e)
  | dT e => exact .dT (s _ _ e)
  | ins e cl ha hn htk hm => exact .ins (s _ _ e) cl ha hn htk hm
theorem Arg.same {K : PySem.W.Frag} {H H' : Hp} {v : V} {o : Option Int} (s : Same H H') (h : Arg K H v o) : Arg K H' v o := by
  cases o with
  | some i => exact h
  | none =>
    obtain ⟨t, b1, b2, ty, r⟩ := (show Odd K H v from h)
    exact ⟨t, b1, b2, tyOf_same s ty, r⟩
section
variable {P : Program} {w : World} {K : PySem.W.Frag} {mg : Str → Option Value} {base : Heap} {a : Ad}
def spLaw (K : PySem.W.Frag) : Sp := fun vs H Q _ => ∃ (a : Addr) (ns : List Int), vs = [.ref a] ∧ SqL K H a (ns.map V.int) ∧ ns.length ≤ 63 ∧ ∀ H', Q (.bl true) H'
theorem sp_law_of {K : PySem.W.Frag} {H : Hp} {a : Addr} {ns : List Int} (hl : ns.length ≤ 63) (hO : Only H) (hS : SqL K H a (ns.map V.int)) : spLaw K [.ref a] H (fun v _ => v = .bl true) fun _ _ _ => False := ⟨a, ns, rfl, hS, hl, fun _ => rfl⟩
theorem ok_law (T : Txt K mg a) : FnOk P w K mg base CX0 6 a.f_law a.d_law ["_law_script"] (spLaw K) := by
  have c__law_cell_at : Callee P w K mg base "_law_cell_at" a.f__law_cell_at a.d__law_cell_at ["_law_script", "_law_k"] 1 (spCell K) := ⟨ok_cell T, T.g__law_cell_at, T.F__law_cell_at.kp, T.b__law_cell_at⟩
  have c__law_web : Callee P w K mg base "_law_web" a.f__law_web a.d__law_web ["_law_state"] 2 spWebL := ⟨ok_webl T, T.g__law_web, T.F__law_web.kp, T.b__law_web⟩
  have c__law_right : Callee P w K mg base "_law_right" a.f__law_right a.d__law_right ["_law_web_here", "_law_hands", "_law_lines"] 5 (spRight P w a) := ⟨ok_right T, T.g__law_right, T.F__law_right.kp, T.b__law_right⟩
  have c__law_refused : Callee P w K mg base "_law_refused" a.f__law_refused a.d__law_refused ["_law_web_here", "_law_hand"] 4 (spRefused P w K a) := ⟨ok_refused T, T.g__law_refused, T.F__law_refused.kp, T.b__law_refused⟩
  have m_Web : Maker P w K mg base "Web" a.c_Web a.f_Web___init__ a.d_Web___init__ ["self", "hands", "lines"] 4 (spWeb P w a) := ⟨ok_web T, T.g_Web, T.mk_Web, T.b_Web___init__⟩
  refine T.F_law.ok sc_law (fun vs H Q E h => ?_) (fun cdv A outer s H vs Q E hr h => ?_)
  · obtain ⟨x, ns, rfl, _⟩ := h
    rfl
  · obtain ⟨sc, ns, rfl, hS, hlen, k⟩ := h
    have hu := hu_of hr
    have un : ∀ n, n ≤ 20 → (A.deeper (PyProof.Rows.envOfC "law" (defScope st_law) s.heap.objs.size a.f_law cdv)).units + n + 2 < cLine := fun n hn => by
      have := hr.un
      omega
    refine bx_in (w_pss_cons (w_ps_asg (w_pe_c c__law_web (hr.mono (by omega)) (w_pa_cons (w_pe_lst (w_pa_K (w_pe_c c__law_cell_at (hr.mono (by omega)) (w_pa_N (w_pv 0) (w_pa_C w_pe_int w_pa_nil))) w_pa_nil)) w_pa_nil)) (w_pg_tup rfl (w_pgs_cons (w_pg_name (i := 1) sc_law.nd rfl (Or.inl rfl)) (w_pgs_cons (w_pg_name (i := 2) sc_law.nd rfl (Or.inl rfl)) w_pgs_nil))))
      (w_pss_cons (w_ps_set (i := 3) sc_law.nd rfl (Or.inl rfl) (w_pe_lst (w_pa_K (w_pe_callTy call_list_of (by rfl) T.n_list bt_list (w_pa_N (w_pv 1) w_pa_nil)) (w_pa_K (w_pe_callTy call_list_of (by rfl) T.n_list bt_list (w_pa_N (w_pv 2) w_pa_nil)) w_pa_nil))))
      (w_pss_cons (w_ps_set (i := 4) sc_law.nd rfl (Or.inl rfl) (w_pe_m m_Web (hr.mono (by omega)) (w_pa_cons (w_pe_ix ix_list (w_pv 3) w_pe_int (fun _ _ => rfl)) (w_pa_cons (w_pe_ix ix_list (w_pv 3) w_pe_int (fun _ _ => rfl)) w_pa_nil))))
      (w_pss_cons (w_ps_if (w_pt_cmpR op_neS (w_pv 3) (w_pe_lst (w_pa_N (w_pv 1) (w_pa_N (w_pv 2) w_pa_nil))) (nomark _))
        (w_pss_one (w_ps_ret w_pe_bl))
        w_pss_nil)
      (w_pss_cons (w_ps_expr (w_pe_bm PySem.F.plainAttrs_list PySem.F.slot_list_append PySem.F.type_list_append mt_append (w_pe_ix ix_list (w_pv 3) w_pe_int (fun _ _ => rfl)) (w_pa_C w_pe_int w_pa_nil)))
      (w_pss_cons (w_ps_expr (w_pe_bm0 PySem.F.plainAttrs_list PySem.F.slot_list_clear PySem.F.type_list_clear mt_clear (w_pe_ix ix_list (w_pv 3) w_pe_int (fun _ _ => rfl))))
      (w_pss_cons (w_ps_if (w_pt_not (w_pt_val (w_pe_c c__law_right (hr.mono (by omega)) (w_pa_N (w_pv 4) (w_pa_N (w_pv 1) (w_pa_N (w_pv 2) w_pa_nil))))))
        (w_pss_one (w_ps_ret w_pe_bl))
        w_pss_nil)
      (w_pss_cons (w_ps_expr (w_pe_bm0 PySem.F.plainAttrs_list PySem.F.slot_list_clear PySem.F.type_list_clear mt_clear (w_pe_meth0D (w_pv 4))))
      (w_pss_cons (w_ps_expr (w_pe_bm PySem.F.plainAttrs_list PySem.F.slot_list_append PySem.F.type_list_append mt_append (w_pe_meth0D (w_pv 4)) (w_pa_T (w_pe_tup (w_pa_C w_pe_int (w_pa_C w_pe_int w_pa_nil))) w_pa_nil)))
      (w_pss_cons (w_ps_expr (w_pe_bm PySem.F.plainAttrs_list PySem.F.slot_list_append PySem.F.type_list_append mt_append (w_pe_methD (w_pv 4) (w_pa_cons (w_pe_ix ix_list (w_pv 1) w_pe_int (fun _ _ => rfl)) w_pa_nil)) (w_pa_C w_pe_int w_pa_nil)))
      (w_pss_cons (w_ps_for PassesOwn.never rfl (w_pi_list (w_pe_lst (w_pa_C w_pe_non (w_pa_C w_pe_bl (w_pa_C w_pe_bl (w_pa_C w_pe_str (w_pa_T (w_pe_tup (w_pa_C w_pe_int w_pa_nil)) (w_pa_U (w_pe_un un_neg w_pe_int) (w_pa_C w_pe_int (w_pa_cons (w_pe_lst (w_pa_C w_pe_int w_pa_nil)) (w_pa_B (w_pe_op op_pow w_pe_int w_pe_int) w_pa_nil))))))))))) (w_pg_name (i := 5) sc_law.nd rfl (Or.inl rfl))
        (w_pss_cons (w_ps_if (w_pt (w_pw_or (w_pt_cmpR op_notF (w_pe_methD (w_pv 4) (w_pa_N (w_pv 5) w_pa_nil)) w_pe_bl (nomark _)) (w_pw_or1 (w_pt_not (w_pt_val (w_pe_c c__law_refused (hr.mono (by omega)) (w_pa_N (w_pv 4) (w_pa_N (w_pv 5) w_pa_nil))))))))
          (w_pss_one (w_ps_ret w_pe_bl))
          w_pss_nil)
        (w_pss_one (w_ps_if (w_pt (w_pw_or (w_pt_cmpR op_notF (w_pe_methD (w_pv 4) (w_pa_N (w_pv 5) (w_pa_cons (w_pe_ix ix_list (w_pv 1) w_pe_int (fun _ _ => rfl)) w_pa_nil))) w_pe_bl (nomark _)) (w_pw_or1 (w_pt_cmpR op_notF (w_pe_methD (w_pv 4) (w_pa_cons (w_pe_ix ix_list (w_pv 1) (w_pe_un un_neg w_pe_int) (fun _ _ => rfl)) (w_pa_N (w_pv 5) w_pa_nil))) w_pe_bl (nomark _)))))
          (w_pss_one (w_ps_ret w_pe_bl))
          w_pss_nil))))
      (w_pss_one (w_ps_ret (w_pe_c c__law_right (hr.mono (by omega)) (w_pa_N (w_pv 4) (w_pa_N (w_pv 1) (w_pa_N (w_pv 2) w_pa_nil))))))))))))))))) ?_
    refine ⟨_, rfl, sc, ns, 0, rfl, hS, by decide, fun c => ?_⟩
    refine ⟨by show 1 ≤ sizeLine; decide, fun st hst => ?_⟩
    refine ⟨st, rfl, ⟨_, upd_same, .inl ⟨c, rfl⟩⟩, fun t h r rs hs ls H1 ht hh hr1 hln wh wl S1 X1 _ _ _ => ?_⟩
    refine ⟨t, _, rfl, SqT.of ht, rfl, _, _, rfl, _, _, rfl, rfl, ?_⟩
    obtain ⟨ps, rfl, rfl, tp⟩ := ln_ps hln
    have l66 := wl.le
    have l12 := wh.l12
    rw [List.length_map] at l66
    refine ⟨_, rfl, h, _, rfl, .inl (SqL.of hh), fun h1 n1 => ?_⟩
    have y1 := Same.new (o := HO.lst (hs.map V.int)) n1
    refine ⟨_, rfl, r, _, rfl, .inl (SqL.of (y1 _ _ hr1)), fun l1 n2 => ?_⟩
    have y2 := Same.new (o := HO.lst (ps.map fun p => V.ref p.1)) n2
    refine ⟨by show 2 ≤ sizeLine; decide, fun hd n3 => ?_⟩
    have y3 := Same.new (o := HO.lst [.ref h1, .ref l1]) n3
    have s3 := (y1.trans y2).trans y3
    have hh1 := y3 _ _ (y2 _ _ (upd_same (H := H1) (a := h1) (o := HO.lst (hs.map V.int))))
    have hl1 := y3 _ _ (upd_same (H := upd H1 h1 (HO.lst (hs.map V.int))) (a := l1) (o := HO.lst (ps.map fun p => V.ref p.1)))
    have hhd := upd_same (H := upd (upd H1 h1 (HO.lst (hs.map V.int))) l1 (HO.lst (ps.map fun p => V.ref p.1))) (a := hd) (o := HO.lst [.ref h1, .ref l1])
    have eh : h ≠ h1 := ne_of_none hh n1
    have er : r ≠ h1 := ne_of_none hr1 n1
    have er2 : r ≠ l1 := ne_of_none (y1 _ _ hr1) n2
    have eh2 : h ≠ l1 := ne_of_none (y1 _ _ hh) n2
    have e12 : h1 ≠ l1 := ne_of_none upd_same n2
    have ed1 : h1 ≠ hd := ne_of_none (y2 _ _ upd_same) n3
    have ed2 : l1 ≠ hd := ne_of_none upd_same n3
    generalize upd (upd (upd H1 h1 (HO.lst (hs.map V.int))) l1 (HO.lst (ps.map fun p => V.ref p.1))) hd (HO.lst [.ref h1, .ref l1]) = H4 at s3 hh1 hl1 hhd ⊢
    refine ⟨_, rfl, hd, _, 0, _, rfl, rfl, SqL.of hhd, rfl, _, rfl, hd, _, 1, _, rfl, rfl, SqL.of hhd, rfl, fun p dx np ndp nex => ?_⟩
    have sN : Same H4 (upd (upd H4 dx (.own p)) p (.ins a.c_Web dx [])) := fun b o e => by
      rw [upd_ne (ne_of_none e np), upd_ne (ne_of_none e ndp)]
      exact e
    have s4 := s3.trans sN
    have tp4 := tp.same s4
    refine ⟨p, dx, h1, l1, hs, ps, rfl, upd_same, sN _ _ hh1, sN _ _ hl1, tp4, wh, wl, fun oh ol d ad H5 x5 W5 f1 f2 f3 f4 => ⟨rfl, ?_⟩⟩
    have k1 : ∀ {b : Addr} {o : HO}, H4 b = some o → H5 b = some o := fun {b o} e => x5 _ _ (sN _ _ e) (ne_of_none e np)
    have s5 : Same H1 H5 := fun b o e => k1 (s3 _ _ e)
    refine ⟨_, rfl, _, rfl, _, rfl, (by show 2 ≤ sizeLine; decide), fun z hz => ?_⟩
    have yz := Same.new (o := HO.lst [.ref h, .ref r]) hz
    refine ⟨hd, z, [.ref h1, .ref l1], [.ref h, .ref r], fun _ => true, 1, rfl, rfl, .inl ⟨SqL.of (yz _ _ (k1 hhd)), SqL.of upd_same⟩, rfl, un 1 (by omega), fun j u v eu ev => ?_, _, rfl, iteN (by simp) ?_⟩
    · match j, eu, ev with
      | 0, eu, ev =>
        cases eu; cases ev
        exact lst_same (yz _ _ (k1 hh1)) (yz _ _ (s5 _ _ hh)) fun x hx => by
          obtain ⟨i, _, rfl⟩ := List.mem_map.mp hx
          exact flat_same rfl
      | 1, eu, ev =>
        cases eu; cases ev
        exact lst_same (yz _ _ (k1 hl1)) (yz _ _ (s5 _ _ hr1)) fun x hx => by
          obtain ⟨i, _, rfl⟩ := List.mem_map.mp hx
          exact .same
      | _ + 2, eu, ev => simp at eu
    have hd6 := yz _ _ (k1 hhd)
    have h16 := yz _ _ (k1 hh1)
    refine ⟨_, rfl, hd, _, 0, _, rfl, rfl, SqL.of hd6, rfl, .inl ⟨rfl, _, SqL.of h16⟩, h1, _, _, rfl, rfl, h16, small1000 (by rw [List.length_map]; omega), ?_⟩
    have l16 := yz _ _ (k1 hl1)
    refine ⟨_, rfl, hd, _, 1, _, rfl, rfl, SqL.of ((upd_ne ed1.symm).trans hd6), rfl, .inl ⟨rfl, _, SqL.of ((upd_ne e12.symm).trans l16)⟩, l1, _, rfl, rfl, (upd_ne e12.symm).trans l16, ?_⟩
    have at8 : ∀ {b : Addr} {o : HO}, b ≠ h1 → b ≠ l1 → H5 b = some o → upd (upd (upd H5 z (HO.lst [.ref h, .ref r])) h1 (HO.lst (hs.map V.int ++ [.int 3]))) l1 (HO.lst []) b = some o := fun {b o} n1 n2 e => by
      rw [upd_ne n2, upd_ne n1]
      exact yz _ _ e
    have fr : ∀ {b : Addr}, upd (upd H4 dx (.own p)) p (.ins a.c_Web dx []) b = none → b ≠ h1 ∧ b ≠ l1 := fun {b} e => ⟨(fun z => by rw [z, sN _ _ hh1] at e; cases e), (fun z => by rw [z, sN _ _ hl1] at e; cases e)⟩
    have W8 : WbAt P w a (upd (upd (upd H5 z (HO.lst [.ref h, .ref r])) h1 (HO.lst (hs.map V.int ++ [.int 3]))) l1 (HO.lst [])) p hs ps dx oh ol d ad :=
      ⟨at8 (ne_of_none hh1 np).symm (ne_of_none hl1 np).symm W5.p, at8 (fr f1).1 (fr f1).2 W5.oh, at8 (fr f2).1 (fr f2).2 W5.ol, ⟨at8 (fr f3).1 (fr f3).2 W5.nr.d, fun x hx => at8 (fr (f4 x hx)).1 (fr (f4 x hx)).2 (W5.nr.nb x hx)⟩⟩
    have tp8 : Tp (upd (upd (upd H5 z (HO.lst [.ref h, .ref r])) h1 (HO.lst (hs.map V.int ++ [.int 3]))) l1 (HO.lst [])) ps := fun q hq => at8 (ne_of_none (tp q hq) n1) (ne_of_none (y1 _ _ (tp q hq)) n2) (s5 _ _ (tp q hq))
    have hh8 := at8 eh eh2 (s5 _ _ hh)
    have hr8 := at8 er er2 (s5 _ _ hr1)
    generalize upd (upd (upd H5 z (HO.lst [.ref h, .ref r])) h1 (HO.lst (hs.map V.int ++ [.int 3]))) l1 (HO.lst []) = H8 at W8 tp8 hh8 hr8 ⊢
    clear at8
    refine ⟨_, rfl, _, rfl, _, rfl, p, h, r, hs, ps, dx, oh, ol, d, ad, rfl, W8, wh, wl, tp8, hh8, hr8, fun H9 s9 => ⟨_, rfl, iteN rfl ?_⟩⟩
    have W9 := W8.same s9
    refine ⟨_, rfl, p, _, dx, _, _, _, _, _, _, rfl, W9.p, rfl, T.cl_Web, T.mt_Web_hands, ok_handsM (P := P) (w := w) T, hr.mono (by omega), T.b_Web_hands, p, hs, ps, dx, oh, ol, d, ad, rfl, W9, fun q1 hq1 => ?_⟩
    refine ⟨.inl ⟨rfl, _, SqL.of upd_same⟩, q1, _, rfl, rfl, upd_same, ?_⟩
    have s10 := s9.trans (Same.updF (o := HO.lst []) (Same.new (o := HO.lst (hs.map V.int)) hq1) hq1)
    generalize upd (upd H9 q1 (HO.lst (hs.map V.int))) q1 (HO.lst []) = H10 at s10 ⊢
    have W10 := W8.same s10
    refine ⟨_, rfl, p, _, dx, _, _, _, _, _, _, rfl, W10.p, rfl, T.cl_Web, T.mt_Web_lines, ok_linesM (P := P) (w := w) T, hr.mono (by omega), T.b_Web_lines, p, hs, ps, dx, oh, ol, d, ad, rfl, W10, fun q2 hq2 => ?_⟩
    refine ⟨.inl ⟨rfl, _, SqL.of upd_same⟩, (by show 2 ≤ sizeLine; decide), fun t2 ht2 => ?_⟩
    have yt2 := Same.new (o := HO.tup [.int 0, .int 1]) ht2
    refine ⟨q2, _, _, rfl, rfl, yt2 _ _ upd_same, small1000 (by rw [List.length_map, (srtA_ok P w ps).1]; omega), ?_⟩
    have s11 := s10.trans (Same.updF (o := HO.lst ((srtA P w ps).map V.ref ++ [.ref t2])) ((Same.new (o := HO.lst ((srtA P w ps).map V.ref)) hq2).trans yt2) hq2)
    generalize upd (upd (upd H10 q2 (HO.lst ((srtA P w ps).map V.ref))) t2 (HO.tup [.int 0, .int 1])) q2 (HO.lst ((srtA P w ps).map V.ref ++ [.ref t2])) = H11 at s11 ⊢
    have W11 := W8.same s11
    obtain ⟨x0, tl, ehs⟩ : ∃ x0 tl, hs = x0 :: tl := by
      have := wh.l1
      cases hs with
      | nil => simp at this
      | cons x0 tl => exact ⟨x0, tl, rfl⟩
    have hx0 : x0 ∈ hs := by rw [ehs]; exact List.mem_cons_self ..
    have at0' : atI (hs.map V.int) 0 = some (.int x0) := by rw [ehs]; exact at0
    obtain ⟨ini, la, elast⟩ : ∃ ini la, hs = ini ++ [la] := by
      have hne : hs ≠ [] := by rw [ehs]; simp
      exact ⟨hs.dropLast, hs.getLast hne, (List.dropLast_concat_getLast hne).symm⟩
    have atL : atI (hs.map V.int) (-1) = some (.int la) := by rw [elast, List.map_append]; exact atI_last _ _
    refine ⟨_, rfl, p, _, dx, _, _, _, _, _, _, rfl, W11.p, rfl, T.cl_Web, T.mt_Web_neighbours, calm (ok_nb (P := P) (w := w) T), hr.mono (by omega), T.b_Web_neighbours, _, rfl, h, _, 0, _, rfl, rfl, SqL.of (s11 _ _ hh8), at0', p, .int x0, some x0, hs, ps, dx, oh, ol, d, ad, rfl, W11, wh, wl, rfl, fun x' ex hx' q3 ms hq3 pm sdd => ?_, fun zz => ?_⟩
    rotate_left
    · rw [show K04.hh hs (some x0) = true from decide_eq_true hx0] at zz
      cases zz
    have few := nbs_few (x := x') wh wl
    refine ⟨.inl ⟨rfl, _, SqL.of upd_same⟩, q3, _, _, rfl, rfl, upd_same, small1000 (by rw [List.length_map, pm.length_eq]; omega), ?_⟩
    have s12 := s11.trans (Same.updF (o := HO.lst (ms.map V.int ++ [.int 5])) (Same.new (o := HO.lst (ms.map V.int)) hq3) hq3)
    generalize upd (upd H11 q3 (HO.lst (ms.map V.int))) q3 (HO.lst (ms.map V.int ++ [.int 5])) = H12 at s12 ⊢
    refine ⟨by show 1 ≤ sizeLine; decide, fun t3 ht3 => ?_⟩
    refine ⟨_, rfl, (by show 1 ≤ sizeLine; decide), fun z3 hz3 => ?_⟩
    refine ⟨_, _, rfl, rfl, ⟨by decide, by decide, by decide⟩, (by show 9 ≤ sizeLine; decide), fun lo hlo => ?_⟩
    have yl := Same.new (o := HO.lst [.non, .bl true, .bl false, .str "0", .ref t3, .int (-1), .int 100, .ref z3, .int ((10 : Int) ^ (30 : Int).toNat)]) hlo
    have yz3 := Same.new (o := HO.lst [.int 0]) hz3
    have s13 := s12.trans ((Same.new (o := HO.tup [.int 0]) ht3).trans (yz3.trans yl))
    refine ⟨lo, rfl, ⟨_, SqL.of upd_same⟩, ?_⟩
    have args : ∀ (i : Nat) v, [V.non, .bl true, .bl false, .str "0", .ref t3, .int (-1), .int 100, .ref z3, .int ((10 : Int) ^ (30 : Int).toNat)][i]? = some v → ∃ o, Arg K (upd (upd (upd H12 t3 (HO.tup [.int 0])) z3 (HO.lst [.int 0])) lo (HO.lst [.non, .bl true, .bl false, .str "0", .ref t3, .int (-1), .int 100, .ref z3, .int ((10 : Int) ^ (30 : Int).toNat)])) v o ∧ K04.hh hs o = false := fun i v hi => by
      have big : ∀ m : Int, (m < 0 ∨ 99 < m) → K04.hh hs (some m) = false := fun m hm => decide_eq_false fun zz => by
        have := wh.lo m zz
        have := wh.hi m zz
        omega
      match i, hi with
      | 0, hi => cases hi; exact ⟨none, ⟨_, false, false, .non, T.k_tNoneType_tint, (fun z => by cases z), rfl⟩, rfl⟩
      | 1, hi => cases hi; exact ⟨none, ⟨_, true, true, .bl true, T.k_tbool_tint, fun _ => T.k_tbool_tbool, rfl⟩, rfl⟩
      | 2, hi => cases hi; exact ⟨none, ⟨_, true, true, .bl false, T.k_tbool_tint, fun _ => T.k_tbool_tbool, rfl⟩, rfl⟩
      | 3, hi => cases hi; exact ⟨none, ⟨_, false, false, .str _, T.k_tstr_tint, (fun z => by cases z), rfl⟩, rfl⟩
      | 4, hi => cases hi; exact ⟨none, ⟨_, false, false, .tup (yl _ _ (yz3 _ _ upd_same)), T.k_ttuple_tint, (fun z => by cases z), rfl⟩, rfl⟩
      | 5, hi => cases hi; exact ⟨some (-1), rfl, big _ (by omega)⟩
      | 6, hi => cases hi; exact ⟨some 100, rfl, big _ (by omega)⟩
      | 7, hi => cases hi; exact ⟨none, ⟨_, false, false, .lst (yl _ _ upd_same), T.k_tlist_tint, (fun z => by cases z), rfl⟩, rfl⟩
      | 8, hi => cases hi; exact ⟨some _, rfl, big _ (by right; decide)⟩
      | _ + 9, hi => simp at hi
    have hlo' := upd_same (H := upd (upd H12 t3 (HO.tup [.int 0])) z3 (HO.lst [.int 0])) (a := lo) (o := HO.lst [.non, .bl true, .bl false, .str "0", .ref t3, .int (-1), .int 100, .ref z3, .int ((10 : Int) ^ (30 : Int).toNat)])
    generalize upd (upd (upd H12 t3 (HO.tup [.int 0])) z3 (HO.lst [.int 0])) lo (HO.lst [.non, .bl true, .bl false, .str "0", .ref t3, .int (-1), .int 100, .ref z3, .int ((10 : Int) ^ (30 : Int).toNat)]) = H13 at s13 args hlo' ⊢
    have hlo13 : H13 lo = some (.lst [.non, .bl true, .bl false, .str "0", .ref t3, .int (-1), .int 100, .ref z3, .int ((10 : Int) ^ (30 : Int).toNat)]) := hlo'
    refine for_list (K := K) (a := lo) (xs := [.non, .bl true, .bl false, .str "0", .ref t3, .int (-1), .int 100, .ref z3, .int ((10 : Int) ^ (30 : Int).toNat)]) (fun i σ H' => ∃ o5, σ = [some (.ref sc), some (.ref h), some (.ref r), some (.ref hd), some (.ref p), o5] ∧ Same H13 H') ?_ ?_ ?_ ?_
    · exact ⟨_, rfl, Same.refl _⟩
    · rintro i σ H' _ ⟨_, _, sm⟩
      exact SqL.of (sm _ _ hlo13)
    · rintro i v σ H14 hi ⟨o5, rfl, s14⟩
      obtain ⟨o, ha, hn⟩ := args i v hi
      have ha := ha.same s14
      have sA := s13.trans s14
      have WA := W8.same sA
      refine ⟨_, rfl, p, _, dx, _, _, _, _, _, _, rfl, WA.p, rfl, T.cl_Web, T.mt_Web_has_hand, ok_has (P := P) (w := w) T, hr.mono (by omega), T.b_Web_has_hand, _, rfl, p, v, o, hs, ps, dx, oh, ol, d, ad, rfl, WA, ha, _, rfl, rfl, _, rfl, iteN hn ?_⟩
      refine ⟨_, rfl, _, rfl, p, v, o, hs, ps, dx, oh, ol, d, ad, rfl, WA, wh, wl, ha, hn, fun H15 s15 => ⟨_, rfl, iteN rfl ?_⟩⟩
      have sB := sA.trans s15
      have WB := W8.same sB
      have hb := ha.same s15
      have hhB := sB _ _ hh8
      refine ⟨_, rfl, p, _, dx, _, _, _, _, _, _, rfl, WB.p, rfl, T.cl_Web, T.mt_Web_has_line, ok_hasline (P := P) (w := w) T, hr.mono (by omega), T.b_Web_has_line, _, rfl, _, rfl, h, _, 0, _, rfl, rfl, SqL.of hhB, at0', p, v, .int x0, o, some x0, hs, ps, dx, oh, ol, d, ad, rfl, WB, hb, rfl, _, rfl, rfl, _, rfl, iteN ?_ ?_⟩
      · show (K04.hh hs o && _) = false
        rw [hn]
        rfl
      refine ⟨_, rfl, p, _, dx, _, _, _, _, _, _, rfl, WB.p, rfl, T.cl_Web, T.mt_Web_has_line, ok_hasline (P := P) (w := w) T, hr.mono (by omega), T.b_Web_has_line, _, rfl, _, rfl, h, _, -1, _, rfl, rfl, SqL.of hhB, atL, _, rfl, p, .int la, v, some la, o, hs, ps, dx, oh, ol, d, ad, rfl, WB, rfl, hb, _, rfl, rfl, _, rfl, iteN ?_ ?_⟩
      · show (K04.hh hs (some la) && (K04.hh hs o && _)) = false
        rw [hn]
        simp
      exact ⟨_, rfl, s14.trans s15⟩
    · rintro σ H14 ⟨o5, rfl, s14⟩
      have sA := s13.trans s14
      exact ⟨_, rfl, _, rfl, _, rfl, p, h, r, hs, ps, dx, oh, ol, d, ad, rfl, W8.same sA, wh, wl, tp8.same sA, sA _ _ hh8, sA _ _ hr8, fun H15 _ => k H15⟩
end
end K04

/-! Hx_k01 -/
set_option Elab.async false
set_option linter.all false
set_option maxRecDepth 100000
set_option maxHeartbeats 4000000
noncomputable section
namespace Hd
open PySem PySem.W PySem.Calls PyProof.Rows
variable (P : Params)
def tt {α : Type} (_ : α) : Bool := true
def S (i : Nat) : Stmt := PySem.Challenge.pw_beatless_k01_webs_told.main.body.getD i (.Pass ⟨0, 0, 0, 0⟩)
def en (P : Params) (x : Str) (t : Tok) (v : Value) : DictEntry := ⟨PyData.keyHash P x, .str x t, v⟩
def fd (n q : Str) (s : Stmt) (g : Addr) (cl : List (Str × Addr)) (d k c m : Value) (an : Option Addr) (cd ct : Value) (b : Addr) : FuncData :=
  ⟨n, q, L2.defArgs s, .stmts (L2.defBody s), L2.defScope s, g, cl, d, k, c, m, an, cd, ct, b⟩
abbrev an : Option Value := (Option.some (.ref 6))
def env : Env := { scope := PySem.Challenge.pw_beatless_k01_webs_told.main.scope, locals := mainNs, globals := mainNs, cells := [], code := (.ref 13), frame := some 14 }
abbrev bE : List Stmt := behindTheImports PySem.Challenge.pw_beatless_k01_webs_told
abbrev cE : Code := .body bE env
abbrev qE : Pos := (Pos.mk 0 0 0 0)
abbrev B : List Frame := [topFrame qE]
def s0 (w : World) (os : OsState) : Shared := ⟨boot_heap w.params, ⟨[]⟩, boot_drawn, boot_toks, os⟩
def o0 (P : Params) := Obj.mk (.type "tuple") .none (Data.seq #[] 0) #[]
def o1 (P : Params) := Obj.mk .none .none (Data.fields #[]) #[]
def o2 (P : Params) := Obj.mk (.type "code") .none (Data.fields #[(.str "<module>" 182), (.str "<module>" 183), (.str "/claim/cut.py" 184), (.int 1 0), (.int 0 0), (.int 0 0), (.int 0 0), (.int 0 0), (.ref 11), (.bool false), (.int 181 0), (.ref 12), .none, .none, .none, .none, (.int 185 0), (.int 1 0), (.str "/claim/cut.py" 186)]) #[]
def o3 (P : Params) := Obj.mk (.type "frame") .none Data.plain #[(Option.some (.ref 13)), (Option.some (.ref 3)), (Option.some (.ref 3)), .none, (Option.some (.str "__main__" 164)), .none, (Option.some (.ref 0))]
def t0 := BT.node (boot_o_7 P) .nil .nil
def t1 := BT.node (o0 P) .nil .nil
def t2 := BT.node (boot_o_3 P) (t0 P) (t1 P)
def t3 := BT.node (boot_o_9 P) .nil .nil
def t4 := BT.node (o2 P) .nil .nil
def t5 := BT.node (boot_o_5 P) (t3 P) (t4 P)
def t6 := BT.node (boot_o_1 P) (t2 P) (t5 P)
def t7 := BT.node (boot_o_8 P) .nil .nil
def t8 := BT.node (o1 P) .nil .nil
def t9 := BT.node (boot_o_4 P) (t7 P) (t8 P)
def t10 := BT.node (boot_o_10 P) .nil .nil
def t11 := BT.node (o3 P) .nil .nil
def t12 := BT.node (boot_o_6 P) (t10 P) (t11 P)
def t13 := BT.node (boot_o_2 P) (t9 P) (t12 P)
def t14 := BT.node (boot_o_0 P) (t6 P) (t13 P)
def sa (w : World) (os : OsState) : SharedT := ⟨(t14 w.params), 15, (Life.mk [] [] [] 0 [] [] false #[] [] 0 false false false 0 [2000, 10, 10] false 0 true [] [] 0 false), ⟨[]⟩, (Drawn.mk 0 0 0 0), 187, os⟩
def La (w : World) (os : OsState) : Option (Shared × Thread) := topGo treeTable PySem.Challenge.pw_beatless_k01_webs_told w 11 an 12 (s0 w os) (topStub PySem.Challenge.pw_beatless_k01_webs_told)
def Ra (w : World) (os : OsState) : Option (Shared × Thread) := some ((sa w os).abs, ⟨denote treeTable cE, cE, (Pos.mk 0 0 0 0), B⟩)
theorem qa : tt (Hd.La, Hd.Ra) = true := by k_qdec
theorem ra : ∀ w, Fast.tw11367235000924431832 w = Fast.tw15912052731592885781 w := fun w => by kernel_rfl
theorem ea (w : World) (os : OsState) : Hd.La w os = Hd.Ra w os :=
  (congrFun (congrFun Fast.te11367235000924431832 w) os).trans ((congrFun (ra w) os).trans (congrFun (congrFun Fast.te15912052731592885781 w) os).symm)
def sb0 (w : World) (os : OsState) : SharedT := ⟨(t14 w.params), 15, (Life.mk [] [] [] 0 [] [] false #[] [] 0 false false false 0 [2000, 10, 10] false 0 true [] [] 0 false), ⟨[]⟩, (Drawn.mk 0 0 0 0), 187, os⟩
def Lb (w : World) (os : OsState) : Option (Flow × SharedT × Code × Pos) := segRunT treeTable PySem.Challenge.pw_beatless_k01_webs_told w 11 an 1 1 (sa w os) (blockOf bE env cE (Pos.mk 0 0 0 0) B)
def Rb (w : World) (os : OsState) : Option (Flow × SharedT × Code × Pos) := some (.next, sb0 w os, cE, (Pos.mk 0 0 0 0))
theorem qb : tt (Hd.Lb, Hd.Rb) = true := by k_qdec
theorem rb : ∀ w, Fast.tw16430817790641568776 w = Fast.tw15716482383535360375 w := fun w => by kernel_rfl
theorem eb (w : World) (os : OsState) : Hd.Lb w os = Hd.Rb w os :=
  (congrFun (congrFun Fast.te16430817790641568776 w) os).trans ((congrFun (rb w) os).trans (congrFun (congrFun Fast.te15716482383535360375 w) os).symm)
def sts0 : List Stmt := [S 0, S 1, S 2, S 3]
def o4 := Obj.mk (.type "dict") .none (Data.dict #[en P "__name__" 165 (.str "beatless.errors" 194), en P "__doc__" 166 .none, en P "__package__" 167 .none, en P "__loader__" 168 (.builtin "__main__.__loader__#opaque"), en P "__spec__" 169 .none, en P "__annotations__" 170 (.ref 6), en P "__builtins__" 171 (.ref 4), en P "__file__" 173 (.str "/claim/cut.py" 172), en P "__cached__" 174 .none, en P "_wall" 193 (.ref 21), en P "BeatlessError" 213 (.ref 31), en P "NoWeb" 229 (.ref 44)] 12) #[]
def o5 (P : Params) := Obj.mk .none .none (Data.fields #[(.int 1 0), (.int 0 0), (.ref 20), (.int 5 0), (.int 0 0), (.ref 27), (.int 7 0), (.int 0 0), (.ref 40)]) #[]
def o6 (P : Params) := Obj.mk (.type "tuple") .none (Data.seq #[] 0) #[]
def o7 (P : Params) := Obj.mk .none .none (Data.fields #[]) #[]
def o8 (P : Params) := Obj.mk (.type "tuple") .none (Data.seq #[(.str "k" 190)] 0) #[]
def o9 (P : Params) := Obj.mk (.type "tuple") .none (Data.seq #[] 0) #[]
def o10 (P : Params) := Obj.mk .none .none (Data.func (fd "_wall" "_wall" (S 0) 0 [] .none .none .none .none .none .none .none 0)) #[]
def o11 (P : Params) := Obj.mk (.type "code") .none (Data.fields #[(.str "_wall" 187), (.str "_wall" 188), (.str "/claim/cut.py" 189), (.int 1 0), (.int 1 0), (.int 0 0), (.int 0 0), (.int 3 0), (.ref 15), (.bool true), (.int 181 0), (.ref 16), .none, (.ref 17), (.ref 18), (.ref 19), (.int 191 0), (.int 1 0), (.str "/claim/cut.py" 192)]) #[]
def o12 (P : Params) := Obj.mk (.type "function") .none (Data.func (fd "_wall" "_wall" (S 0) 3 [] .none .none .none (.str "__main__" 164) .none (.ref 20) .none 0)) #[]
def o13 (P : Params) := Obj.mk (.type "tuple") .none (Data.seq #[(.type "ValueError")] 0) #[]
def o14 (P : Params) := Obj.mk (.type "builtin_function_or_method") .none (Data.fields #[(.builtin "type.__prepare__"), (.type "type")]) #[]
def o15 := Obj.mk (.type "dict") .none (Data.dict #[en P "__module__" 203 (.str "beatless.errors" 194), en P "__qualname__" 205 (.str "BeatlessError" 204), en P "__firstlineno__" 207 (.int 5 206), en P "__static_attributes__" 208 (.ref 29)] 4) #[]
def o16 (P : Params) := Obj.mk (.type "tuple") .none (Data.seq #[] 0) #[]
def o17 (P : Params) := Obj.mk .none .none (Data.fields #[]) #[]
def o18 (P : Params) := Obj.mk (.type "code") .none (Data.fields #[(.str "BeatlessError" 198), (.str "BeatlessError" 199), (.str "/claim/cut.py" 200), (.int 5 0), (.int 0 0), (.int 0 0), (.int 0 0), (.int 0 0), (.ref 25), (.bool false), (.int 181 0), (.ref 26), .none, .none, .none, .none, (.int 201 0), (.int 5 0), (.str "/claim/cut.py" 202)]) #[]
def o19 (P : Params) := Obj.mk (.type "frame") .none Data.plain #[(Option.some (.ref 27)), (Option.some (.ref 3)), (Option.some (.ref 24)), .none, (Option.some (.str "beatless.errors" 194)), .none, (Option.some (.ref 0))]
def o20 (P : Params) := Obj.mk (.type "tuple") .none (Data.seq #[] 0) #[]
def o21 := Obj.mk (.type "dict") .none (Data.dict #[en P "__module__" 203 (.str "beatless.errors" 194), en P "__firstlineno__" 207 (.int 5 206), en P "__static_attributes__" 208 (.ref 29), en P "__weakref__" 210 (.ref 32), en P "__doc__" 211 .none] 3) #[]
def o22 (P : Params) := Obj.mk (.type "type") .none (Data.cls (ClassData.mk "BeatlessError" [(.type "ValueError")] [(.ref 31), (.type "ValueError"), (.type "Exception"), (.type "BaseException"), (.type "object")] 30 "BeatlessError" true [] [(.ref 44)] false .none false)) #[(Option.some (.ref 22)), .none, (Option.some (.str "BeatlessError" 196)), (Option.some (.str "BeatlessError" 204)), (Option.some (.builtin "ValueError.__new__")), (Option.some (.bool true))]
def o23 (P : Params) := Obj.mk (.type "getset_descriptor") .none (Data.fields #[(.str "__weakref__" 209), (.ref 31), (.builtin "ExceptionGroup.__weakref__"), .none]) #[]
def o24 (P : Params) := Obj.mk (.type "super") .none (Data.fields #[(.ref 31), (.ref 31), (.ref 31)]) #[]
def o25 (P : Params) := Obj.mk (.type "builtin_function_or_method") .none (Data.fields #[(.builtin "object.__init_subclass__"), (.ref 31)]) #[]
def o26 (P : Params) := Obj.mk (.type "tuple") .none (Data.seq #[(.ref 31)] 0) #[]
def o27 (P : Params) := Obj.mk (.type "builtin_function_or_method") .none (Data.fields #[(.builtin "type.__prepare__"), (.type "type")]) #[]
def o28 := Obj.mk (.type "dict") .none (Data.dict #[en P "__module__" 221 (.str "beatless.errors" 194), en P "__qualname__" 223 (.str "NoWeb" 222), en P "__firstlineno__" 225 (.int 7 224), en P "__static_attributes__" 226 (.ref 42)] 4) #[]
def o29 (P : Params) := Obj.mk (.type "tuple") .none (Data.seq #[] 0) #[]
def o30 (P : Params) := Obj.mk .none .none (Data.fields #[]) #[]
def o31 (P : Params) := Obj.mk (.type "code") .none (Data.fields #[(.str "NoWeb" 216), (.str "NoWeb" 217), (.str "/claim/cut.py" 218), (.int 7 0), (.int 0 0), (.int 0 0), (.int 0 0), (.int 0 0), (.ref 38), (.bool false), (.int 181 0), (.ref 39), .none, .none, .none, .none, (.int 219 0), (.int 7 0), (.str "/claim/cut.py" 220)]) #[]
def o32 (P : Params) := Obj.mk (.type "frame") .none Data.plain #[(Option.some (.ref 40)), (Option.some (.ref 3)), (Option.some (.ref 37)), .none, (Option.some (.str "beatless.errors" 194)), .none, (Option.some (.ref 0))]
def o33 (P : Params) := Obj.mk (.type "tuple") .none (Data.seq #[] 0) #[]
def o34 := Obj.mk (.type "dict") .none (Data.dict #[en P "__module__" 221 (.str "beatless.errors" 194), en P "__firstlineno__" 225 (.int 7 224), en P "__static_attributes__" 226 (.ref 42), en P "__doc__" 227 .none] 2) #[]
def o35 (P : Params) := Obj.mk (.type "type") .none (Data.cls (ClassData.mk "NoWeb" [(.ref 31)] [(.ref 44), (.ref 31), (.type "ValueError"), (.type "Exception"), (.type "BaseException"), (.type "object")] 43 "NoWeb" true [] [] false .none false)) #[(Option.some (.ref 35)), .none, (Option.some (.str "NoWeb" 214)), (Option.some (.str "NoWeb" 222)), (Option.some (.builtin "ValueError.__new__")), (Option.some (.bool true))]
def o36 (P : Params) := Obj.mk (.type "super") .none (Data.fields #[(.ref 44), (.ref 44), (.ref 44)]) #[]
def o37 (P : Params) := Obj.mk (.type "builtin_function_or_method") .none (Data.fields #[(.builtin "object.__init_subclass__"), (.ref 44)]) #[]
def t15 := BT.node (o22 P) .nil .nil
def t16 := BT.node (o6 P) (t15 P) .nil
def t17 := BT.node (o30 P) .nil .nil
def t18 := BT.node (o14 P) (t17 P) .nil
def t19 := BT.node (boot_o_7 P) (t16 P) (t18 P)
def t20 := BT.node (o26 P) .nil .nil
def t21 := BT.node (o10 P) (t20 P) .nil
def t22 := BT.node (o34 P) .nil .nil
def t23 := BT.node (o18 P) (t22 P) .nil
def t24 := BT.node (o0 P) (t21 P) (t23 P)
def t25 := BT.node (o4 P) (t19 P) (t24 P)
def t26 := BT.node (o24 P) .nil .nil
def t27 := BT.node (o8 P) (t26 P) .nil
def t28 := BT.node (o32 P) .nil .nil
def t29 := BT.node (o16 P) (t28 P) .nil
def t30 := BT.node (boot_o_9 P) (t27 P) (t29 P)
def t31 := BT.node (o28 P) .nil .nil
def t32 := BT.node (o12 P) (t31 P) .nil
def t33 := BT.node (o36 P) .nil .nil
def t34 := BT.node (o20 P) (t33 P) .nil
def t35 := BT.node (o2 P) (t32 P) (t34 P)
def t36 := BT.node (boot_o_5 P) (t30 P) (t35 P)
def t37 := BT.node (boot_o_1 P) (t25 P) (t36 P)
def t38 := BT.node (o23 P) .nil .nil
def t39 := BT.node (o7 P) (t38 P) .nil
def t40 := BT.node (o31 P) .nil .nil
def t41 := BT.node (o15 P) (t40 P) .nil
def t42 := BT.node (boot_o_8 P) (t39 P) (t41 P)
def t43 := BT.node (o27 P) .nil .nil
def t44 := BT.node (o11 P) (t43 P) .nil
def t45 := BT.node (o35 P) .nil .nil
def t46 := BT.node (o19 P) (t45 P) .nil
def t47 := BT.node (o5 P) (t44 P) (t46 P)
def t48 := BT.node (boot_o_4 P) (t42 P) (t47 P)
def t49 := BT.node (o25 P) .nil .nil
def t50 := BT.node (o9 P) (t49 P) .nil
def t51 := BT.node (o33 P) .nil .nil
def t52 := BT.node (o17 P) (t51 P) .nil
def t53 := BT.node (boot_o_10 P) (t50 P) (t52 P)
def t54 := BT.node (o29 P) .nil .nil
def t55 := BT.node (o13 P) (t54 P) .nil
def t56 := BT.node (o37 P) .nil .nil
def t57 := BT.node (o21 P) (t56 P) .nil
def t58 := BT.node (o3 P) (t55 P) (t57 P)
def t59 := BT.node (boot_o_6 P) (t53 P) (t58 P)
def t60 := BT.node (boot_o_2 P) (t48 P) (t59 P)
def t61 := BT.node (boot_o_0 P) (t37 P) (t60 P)
def sb1 (w : World) (os : OsState) : SharedT := ⟨(t61 w.params), 47, (Life.mk [] [] [] 0 [] [] false #[] [] 0 false false false 0 [2000, 10, 10] false 0 true [] [] 0 false), ⟨[]⟩, (Drawn.mk 0 0 0 0), 230, os⟩
def L0 (w : World) (os : OsState) : Option (Flow × SharedT × Code × Pos) := segRunT treeTable PySem.Challenge.pw_beatless_k01_webs_told w 11 an 1 438 (sb0 w os) (piecesOf sts0 env cE (Pos.mk 0 0 0 0) B)
def R0 (w : World) (os : OsState) : Option (Flow × SharedT × Code × Pos) := some (.next, sb1 w os, cE, (Pos.mk 7 0 8 8))
theorem q0 : tt (Hd.L0, Hd.R0) = true := by k_qdec
theorem r0 : ∀ w, Fast.tw4453942571644881324 w = Fast.tw13470614248104656481 w := fun w => by kernel_rfl
theorem e0 (w : World) (os : OsState) : Hd.L0 w os = Hd.R0 w os :=
  (congrFun (congrFun Fast.te4453942571644881324 w) os).trans ((congrFun (r0 w) os).trans (congrFun (congrFun Fast.te13470614248104656481 w) os).symm)
def sts1 : List Stmt := [S 4, S 5, S 6, S 7, S 8, S 9, S 10, S 11, S 12, S 13]
def o38 := Obj.mk (.type "dict") .none (Data.dict #[en P "__name__" 165 (.str "beatless.webs" 271), en P "__doc__" 166 .none, en P "__package__" 167 .none, en P "__loader__" 168 (.builtin "__main__.__loader__#opaque"), en P "__spec__" 169 .none, en P "__annotations__" 170 (.ref 6), en P "__builtins__" 171 (.ref 4), en P "__file__" 173 (.str "/claim/cut.py" 172), en P "__cached__" 174 .none, en P "_wall" 193 (.ref 21), en P "BeatlessError" 213 (.ref 31), en P "NoWeb" 229 (.ref 44), en P "NoHand" 245 (.ref 56), en P "NoLine" 261 (.ref 68), en P "is_whole" 270 (.ref 77), en P "MOST_HANDS" 274 (.int 12 273), en P "LAST_HAND" 276 (.int 99 275), en P "are_hands" 285 (.ref 84), en P "is_line" 293 (.ref 91), en P "are_lines" 303 (.ref 98)] 20) #[]
def o39 (P : Params) := Obj.mk .none .none (Data.fields #[(.int 1 0), (.int 0 0), (.ref 20), (.int 5 0), (.int 0 0), (.ref 27), (.int 7 0), (.int 0 0), (.ref 40), (.int 9 0), (.int 0 0), (.ref 52), (.int 11 0), (.int 0 0), (.ref 64), (.int 14 0), (.int 0 0), (.ref 76), (.int 19 0), (.int 0 0), (.ref 83), (.int 28 0), (.int 0 0), (.ref 90), (.int 34 0), (.int 0 0), (.ref 97)]) #[]
def o40 (P : Params) := Obj.mk (.type "type") .none (Data.cls (ClassData.mk "BeatlessError" [(.type "ValueError")] [(.ref 31), (.type "ValueError"), (.type "Exception"), (.type "BaseException"), (.type "object")] 30 "BeatlessError" true [] [(.ref 44), (.ref 56), (.ref 68)] false .none false)) #[(Option.some (.ref 22)), .none, (Option.some (.str "BeatlessError" 196)), (Option.some (.str "BeatlessError" 204)), (Option.some (.builtin "ValueError.__new__")), (Option.some (.bool true))]
def o41 (P : Params) := Obj.mk (.type "tuple") .none (Data.seq #[(.ref 31)] 0) #[]
def o42 (P : Params) := Obj.mk (.type "builtin_function_or_method") .none (Data.fields #[(.builtin "type.__prepare__"), (.type "type")]) #[]
def o43 := Obj.mk (.type "dict") .none (Data.dict #[en P "__module__" 237 (.str "beatless.errors" 194), en P "__qualname__" 239 (.str "NoHand" 238), en P "__firstlineno__" 241 (.int 9 240), en P "__static_attributes__" 242 (.ref 54)] 4) #[]
def o44 (P : Params) := Obj.mk (.type "tuple") .none (Data.seq #[] 0) #[]
def o45 (P : Params) := Obj.mk .none .none (Data.fields #[]) #[]
def o46 (P : Params) := Obj.mk (.type "code") .none (Data.fields #[(.str "NoHand" 232), (.str "NoHand" 233), (.str "/claim/cut.py" 234), (.int 9 0), (.int 0 0), (.int 0 0), (.int 0 0), (.int 0 0), (.ref 50), (.bool false), (.int 181 0), (.ref 51), .none, .none, .none, .none, (.int 235 0), (.int 9 0), (.str "/claim/cut.py" 236)]) #[]
def o47 (P : Params) := Obj.mk (.type "frame") .none Data.plain #[(Option.some (.ref 52)), (Option.some (.ref 3)), (Option.some (.ref 49)), .none, (Option.some (.str "beatless.errors" 194)), .none, (Option.some (.ref 0))]
def o48 (P : Params) := Obj.mk (.type "tuple") .none (Data.seq #[] 0) #[]
def o49 := Obj.mk (.type "dict") .none (Data.dict #[en P "__module__" 237 (.str "beatless.errors" 194), en P "__firstlineno__" 241 (.int 9 240), en P "__static_attributes__" 242 (.ref 54), en P "__doc__" 243 .none] 2) #[]
def o50 (P : Params) := Obj.mk (.type "type") .none (Data.cls (ClassData.mk "NoHand" [(.ref 31)] [(.ref 56), (.ref 31), (.type "ValueError"), (.type "Exception"), (.type "BaseException"), (.type "object")] 55 "NoHand" true [] [] false .none false)) #[(Option.some (.ref 47)), .none, (Option.some (.str "NoHand" 230)), (Option.some (.str "NoHand" 238)), (Option.some (.builtin "ValueError.__new__")), (Option.some (.bool true))]
def o51 (P : Params) := Obj.mk (.type "super") .none (Data.fields #[(.ref 56), (.ref 56), (.ref 56)]) #[]
def o52 (P : Params) := Obj.mk (.type "builtin_function_or_method") .none (Data.fields #[(.builtin "object.__init_subclass__"), (.ref 56)]) #[]
def o53 (P : Params) := Obj.mk (.type "tuple") .none (Data.seq #[(.ref 31)] 0) #[]
def o54 (P : Params) := Obj.mk (.type "builtin_function_or_method") .none (Data.fields #[(.builtin "type.__prepare__"), (.type "type")]) #[]
def o55 := Obj.mk (.type "dict") .none (Data.dict #[en P "__module__" 253 (.str "beatless.errors" 194), en P "__qualname__" 255 (.str "NoLine" 254), en P "__firstlineno__" 257 (.int 11 256), en P "__static_attributes__" 258 (.ref 66)] 4) #[]
def o56 (P : Params) := Obj.mk (.type "tuple") .none (Data.seq #[] 0) #[]
def o57 (P : Params) := Obj.mk .none .none (Data.fields #[]) #[]
def o58 (P : Params) := Obj.mk (.type "code") .none (Data.fields #[(.str "NoLine" 248), (.str "NoLine" 249), (.str "/claim/cut.py" 250), (.int 11 0), (.int 0 0), (.int 0 0), (.int 0 0), (.int 0 0), (.ref 62), (.bool false), (.int 181 0), (.ref 63), .none, .none, .none, .none, (.int 251 0), (.int 11 0), (.str "/claim/cut.py" 252)]) #[]
def o59 (P : Params) := Obj.mk (.type "frame") .none Data.plain #[(Option.some (.ref 64)), (Option.some (.ref 3)), (Option.some (.ref 61)), .none, (Option.some (.str "beatless.errors" 194)), .none, (Option.some (.ref 0))]
def o60 (P : Params) := Obj.mk (.type "tuple") .none (Data.seq #[] 0) #[]
def o61 := Obj.mk (.type "dict") .none (Data.dict #[en P "__module__" 253 (.str "beatless.errors" 194), en P "__firstlineno__" 257 (.int 11 256), en P "__static_attributes__" 258 (.ref 66), en P "__doc__" 259 .none] 2) #[]
def o62 (P : Params) := Obj.mk (.type "type") .none (Data.cls (ClassData.mk "NoLine" [(.ref 31)] [(.ref 68), (.ref 31), (.type "ValueError"), (.type "Exception"), (.type "BaseException"), (.type "object")] 67 "NoLine" true [] [] false .none false)) #[(Option.some (.ref 59)), .none, (Option.some (.str "NoLine" 246)), (Option.some (.str "NoLine" 254)), (Option.some (.builtin "ValueError.__new__")), (Option.some (.bool true))]
def o63 (P : Params) := Obj.mk (.type "super") .none (Data.fields #[(.ref 68), (.ref 68), (.ref 68)]) #[]
def o64 (P : Params) := Obj.mk (.type "builtin_function_or_method") .none (Data.fields #[(.builtin "object.__init_subclass__"), (.ref 68)]) #[]
def o65 (P : Params) := Obj.mk (.type "tuple") .none (Data.seq #[] 0) #[]
def o66 (P : Params) := Obj.mk .none .none (Data.fields #[]) #[]
def o67 (P : Params) := Obj.mk (.type "tuple") .none (Data.seq #[(.str "value" 267)] 0) #[]
def o68 (P : Params) := Obj.mk (.type "tuple") .none (Data.seq #[] 0) #[]
def o69 (P : Params) := Obj.mk .none .none (Data.func (fd "is_whole" "is_whole" (S 7) 0 [] .none .none .none .none .none .none .none 0)) #[]
def o70 (P : Params) := Obj.mk (.type "code") .none (Data.fields #[(.str "is_whole" 264), (.str "is_whole" 265), (.str "/claim/cut.py" 266), (.int 14 0), (.int 1 0), (.int 0 0), (.int 0 0), (.int 3 0), (.ref 71), (.bool true), (.int 181 0), (.ref 72), .none, (.ref 73), (.ref 74), (.ref 75), (.int 268 0), (.int 14 0), (.str "/claim/cut.py" 269)]) #[]
def o71 (P : Params) := Obj.mk (.type "function") .none (Data.func (fd "is_whole" "is_whole" (S 7) 3 [] .none .none .none (.str "beatless.wholes" 262) .none (.ref 76) .none 0)) #[]
def o72 (P : Params) := Obj.mk (.type "tuple") .none (Data.seq #[] 0) #[]
def o73 (P : Params) := Obj.mk .none .none (Data.fields #[]) #[]
def o74 (P : Params) := Obj.mk (.type "tuple") .none (Data.seq #[(.str "hands" 280), (.str "ahead" 281), (.str "hand" 282)] 0) #[]
def o75 (P : Params) := Obj.mk (.type "tuple") .none (Data.seq #[] 0) #[]
def o76 (P : Params) := Obj.mk .none .none (Data.func (fd "are_hands" "are_hands" (S 11) 0 [] .none .none .none .none .none .none .none 0)) #[]
def o77 (P : Params) := Obj.mk (.type "code") .none (Data.fields #[(.str "are_hands" 277), (.str "are_hands" 278), (.str "/claim/cut.py" 279), (.int 19 0), (.int 1 0), (.int 0 0), (.int 0 0), (.int 3 0), (.ref 78), (.bool true), (.int 181 0), (.ref 79), .none, (.ref 80), (.ref 81), (.ref 82), (.int 283 0), (.int 19 0), (.str "/claim/cut.py" 284)]) #[]
def o78 (P : Params) := Obj.mk (.type "function") .none (Data.func (fd "are_hands" "are_hands" (S 11) 3 [] .none .none .none (.str "beatless.webs" 271) .none (.ref 83) .none 0)) #[]
def o79 (P : Params) := Obj.mk (.type "tuple") .none (Data.seq #[] 0) #[]
def o80 (P : Params) := Obj.mk .none .none (Data.fields #[]) #[]
def o81 (P : Params) := Obj.mk (.type "tuple") .none (Data.seq #[(.str "line" 289), (.str "hands" 290)] 0) #[]
def o82 (P : Params) := Obj.mk (.type "tuple") .none (Data.seq #[] 0) #[]
def o83 (P : Params) := Obj.mk .none .none (Data.func (fd "is_line" "is_line" (S 12) 0 [] .none .none .none .none .none .none .none 0)) #[]
def o84 (P : Params) := Obj.mk (.type "code") .none (Data.fields #[(.str "is_line" 286), (.str "is_line" 287), (.str "/claim/cut.py" 288), (.int 28 0), (.int 2 0), (.int 0 0), (.int 0 0), (.int 3 0), (.ref 85), (.bool true), (.int 181 0), (.ref 86), .none, (.ref 87), (.ref 88), (.ref 89), (.int 291 0), (.int 28 0), (.str "/claim/cut.py" 292)]) #[]
def o85 (P : Params) := Obj.mk (.type "function") .none (Data.func (fd "is_line" "is_line" (S 12) 3 [] .none .none .none (.str "beatless.webs" 271) .none (.ref 90) .none 0)) #[]
def o86 (P : Params) := Obj.mk (.type "tuple") .none (Data.seq #[] 0) #[]
def o87 (P : Params) := Obj.mk .none .none (Data.fields #[]) #[]
def o88 (P : Params) := Obj.mk (.type "tuple") .none (Data.seq #[(.str "lines" 297), (.str "hands" 298), (.str "seen" 299), (.str "line" 300)] 0) #[]
def o89 (P : Params) := Obj.mk (.type "tuple") .none (Data.seq #[] 0) #[]
def o90 (P : Params) := Obj.mk .none .none (Data.func (fd "are_lines" "are_lines" (S 13) 0 [] .none .none .none .none .none .none .none 0)) #[]
def o91 (P : Params) := Obj.mk (.type "code") .none (Data.fields #[(.str "are_lines" 294), (.str "are_lines" 295), (.str "/claim/cut.py" 296), (.int 34 0), (.int 2 0), (.int 0 0), (.int 0 0), (.int 3 0), (.ref 92), (.bool true), (.int 181 0), (.ref 93), .none, (.ref 94), (.ref 95), (.ref 96), (.int 301 0), (.int 34 0), (.str "/claim/cut.py" 302)]) #[]
def o92 (P : Params) := Obj.mk (.type "function") .none (Data.func (fd "are_lines" "are_lines" (S 13) 3 [] .none .none .none (.str "beatless.webs" 271) .none (.ref 97) .none 0)) #[]
def t62 := BT.node (o57 P) .nil .nil
def t63 := BT.node (o89 P) .nil .nil
def t64 := BT.node (o40 P) (t62 P) (t63 P)
def t65 := BT.node (o73 P) .nil .nil
def t66 := BT.node (o41 P) (t65 P) .nil
def t67 := BT.node (o6 P) (t64 P) (t66 P)
def t68 := BT.node (o65 P) .nil .nil
def t69 := BT.node (o30 P) (t68 P) .nil
def t70 := BT.node (o81 P) .nil .nil
def t71 := BT.node (o49 P) (t70 P) .nil
def t72 := BT.node (o14 P) (t69 P) (t71 P)
def t73 := BT.node (boot_o_7 P) (t67 P) (t72 P)
def t74 := BT.node (o61 P) .nil .nil
def t75 := BT.node (o26 P) (t74 P) .nil
def t76 := BT.node (o77 P) .nil .nil
def t77 := BT.node (o45 P) (t76 P) .nil
def t78 := BT.node (o10 P) (t75 P) (t77 P)
def t79 := BT.node (o69 P) .nil .nil
def t80 := BT.node (o34 P) (t79 P) .nil
def t81 := BT.node (o85 P) .nil .nil
def t82 := BT.node (o53 P) (t81 P) .nil
def t83 := BT.node (o18 P) (t80 P) (t82 P)
def t84 := BT.node (o0 P) (t78 P) (t83 P)
def t85 := BT.node (o38 P) (t73 P) (t84 P)
def t86 := BT.node (o59 P) .nil .nil
def t87 := BT.node (o91 P) .nil .nil
def t88 := BT.node (o24 P) (t86 P) (t87 P)
def t89 := BT.node (o75 P) .nil .nil
def t90 := BT.node (o43 P) (t89 P) .nil
def t91 := BT.node (o8 P) (t88 P) (t90 P)
def t92 := BT.node (o67 P) .nil .nil
def t93 := BT.node (o32 P) (t92 P) .nil
def t94 := BT.node (o83 P) .nil .nil
def t95 := BT.node (o51 P) (t94 P) .nil
def t96 := BT.node (o16 P) (t93 P) (t95 P)
def t97 := BT.node (boot_o_9 P) (t91 P) (t96 P)
def t98 := BT.node (o63 P) .nil .nil
def t99 := BT.node (o28 P) (t98 P) .nil
def t100 := BT.node (o79 P) .nil .nil
def t101 := BT.node (o47 P) (t100 P) .nil
def t102 := BT.node (o12 P) (t99 P) (t101 P)
def t103 := BT.node (o71 P) .nil .nil
def t104 := BT.node (o36 P) (t103 P) .nil
def t105 := BT.node (o87 P) .nil .nil
def t106 := BT.node (o55 P) (t105 P) .nil
def t107 := BT.node (o20 P) (t104 P) (t106 P)
def t108 := BT.node (o2 P) (t102 P) (t107 P)
def t109 := BT.node (boot_o_5 P) (t97 P) (t108 P)
def t110 := BT.node (boot_o_1 P) (t85 P) (t109 P)
def t111 := BT.node (o58 P) .nil .nil
def t112 := BT.node (o90 P) .nil .nil
def t113 := BT.node (o23 P) (t111 P) (t112 P)
def t114 := BT.node (o74 P) .nil .nil
def t115 := BT.node (o42 P) (t114 P) .nil
def t116 := BT.node (o7 P) (t113 P) (t115 P)
def t117 := BT.node (o66 P) .nil .nil
def t118 := BT.node (o31 P) (t117 P) .nil
def t119 := BT.node (o82 P) .nil .nil
def t120 := BT.node (o50 P) (t119 P) .nil
def t121 := BT.node (o15 P) (t118 P) (t120 P)
def t122 := BT.node (boot_o_8 P) (t116 P) (t121 P)
def t123 := BT.node (o62 P) .nil .nil
def t124 := BT.node (o27 P) (t123 P) .nil
def t125 := BT.node (o78 P) .nil .nil
def t126 := BT.node (o46 P) (t125 P) .nil
def t127 := BT.node (o11 P) (t124 P) (t126 P)
def t128 := BT.node (o70 P) .nil .nil
def t129 := BT.node (o35 P) (t128 P) .nil
def t130 := BT.node (o86 P) .nil .nil
def t131 := BT.node (o54 P) (t130 P) .nil
def t132 := BT.node (o19 P) (t129 P) (t131 P)
def t133 := BT.node (o39 P) (t127 P) (t132 P)
def t134 := BT.node (boot_o_4 P) (t122 P) (t133 P)
def t135 := BT.node (o60 P) .nil .nil
def t136 := BT.node (o92 P) .nil .nil
def t137 := BT.node (o25 P) (t135 P) (t136 P)
def t138 := BT.node (o76 P) .nil .nil
def t139 := BT.node (o44 P) (t138 P) .nil
def t140 := BT.node (o9 P) (t137 P) (t139 P)
def t141 := BT.node (o68 P) .nil .nil
def t142 := BT.node (o33 P) (t141 P) .nil
def t143 := BT.node (o84 P) .nil .nil
def t144 := BT.node (o52 P) (t143 P) .nil
def t145 := BT.node (o17 P) (t142 P) (t144 P)
def t146 := BT.node (boot_o_10 P) (t140 P) (t145 P)
def t147 := BT.node (o64 P) .nil .nil
def t148 := BT.node (o29 P) (t147 P) .nil
def t149 := BT.node (o80 P) .nil .nil
def t150 := BT.node (o48 P) (t149 P) .nil
def t151 := BT.node (o13 P) (t148 P) (t150 P)
def t152 := BT.node (o72 P) .nil .nil
def t153 := BT.node (o37 P) (t152 P) .nil
def t154 := BT.node (o88 P) .nil .nil
def t155 := BT.node (o56 P) (t154 P) .nil
def t156 := BT.node (o21 P) (t153 P) (t155 P)
def t157 := BT.node (o3 P) (t151 P) (t156 P)
def t158 := BT.node (boot_o_6 P) (t146 P) (t157 P)
def t159 := BT.node (boot_o_2 P) (t134 P) (t158 P)
def t160 := BT.node (boot_o_0 P) (t110 P) (t159 P)
def sb2 (w : World) (os : OsState) : SharedT := ⟨(t160 w.params), 99, (Life.mk [] [] [] 0 [] [] false #[] [] 0 false false false 0 [2000, 10, 10] false 0 true [] [] 0 false), ⟨[]⟩, (Drawn.mk 0 0 0 0), 304, os⟩
def L1 (w : World) (os : OsState) : Option (Flow × SharedT × Code × Pos) := segRunT treeTable PySem.Challenge.pw_beatless_k01_webs_told w 11 an 1 585 (sb1 w os) (piecesOf sts1 env cE (Pos.mk 7 0 8 8) B)
def R1 (w : World) (os : OsState) : Option (Flow × SharedT × Code × Pos) := some (.next, sb2 w os, cE, (Pos.mk 34 0 42 15))
theorem q1 : tt (Hd.L1, Hd.R1) = true := by k_qdec
theorem r1 : ∀ w, Fast.tw6387051279210280424 w = Fast.tw17943070361625844382 w := fun w => by kernel_rfl
theorem e1 (w : World) (os : OsState) : Hd.L1 w os = Hd.R1 w os :=
  (congrFun (congrFun Fast.te6387051279210280424 w) os).trans ((congrFun (r1 w) os).trans (congrFun (congrFun Fast.te17943070361625844382 w) os).symm)
def sts2 : List Stmt := [S 14, S 15, S 16, S 17, S 18, S 19]
def o93 := Obj.mk (.type "dict") .none (Data.dict #[en P "__name__" 165 (.str "law_beatless_k01_webs_told" 402), en P "__doc__" 166 .none, en P "__package__" 167 .none, en P "__loader__" 168 (.builtin "__main__.__loader__#opaque"), en P "__spec__" 169 .none, en P "__annotations__" 170 (.ref 6), en P "__builtins__" 171 (.ref 4), en P "__file__" 173 (.str "/claim/cut.py" 172), en P "__cached__" 174 .none, en P "_wall" 193 (.ref 21), en P "BeatlessError" 213 (.ref 31), en P "NoWeb" 229 (.ref 44), en P "NoHand" 245 (.ref 56), en P "NoLine" 261 (.ref 68), en P "is_whole" 270 (.ref 77), en P "MOST_HANDS" 274 (.int 12 273), en P "LAST_HAND" 276 (.int 99 275), en P "are_hands" 285 (.ref 84), en P "is_line" 293 (.ref 91), en P "are_lines" 303 (.ref 98), en P "near_by_hand" 315 (.ref 105), en P "Web" 401 (.ref 171), en P "_law_cell_at" 411 (.ref 182), en P "_law_digit" 422 (.ref 189), en P "_law_web" 428 (.ref 194)] 25) #[]
def o94 (P : Params) := Obj.mk .none .none (Data.fields #[(.int 1 0), (.int 0 0), (.ref 20), (.int 5 0), (.int 0 0), (.ref 27), (.int 7 0), (.int 0 0), (.ref 40), (.int 9 0), (.int 0 0), (.ref 52), (.int 11 0), (.int 0 0), (.ref 64), (.int 14 0), (.int 0 0), (.ref 76), (.int 19 0), (.int 0 0), (.ref 83), (.int 28 0), (.int 0 0), (.ref 90), (.int 34 0), (.int 0 0), (.ref 97), (.int 43 0), (.int 0 0), (.ref 104), (.int 51 0), (.int 0 0), (.ref 111), (.int 85 0), (.int 0 0), (.ref 181), (.int 89 0), (.int 0 0), (.ref 188), (.int 102 0), (.int 0 0), (.ref 193)]) #[]
def o95 (P : Params) := Obj.mk (.type "tuple") .none (Data.seq #[] 0) #[]
def o96 (P : Params) := Obj.mk .none .none (Data.fields #[]) #[]
def o97 (P : Params) := Obj.mk (.type "tuple") .none (Data.seq #[(.str "hands" 307), (.str "lines" 308), (.str "near" 309), (.str "hand" 310), (.str "one" 311), (.str "other" 312)] 0) #[]
def o98 (P : Params) := Obj.mk (.type "tuple") .none (Data.seq #[] 0) #[]
def o99 (P : Params) := Obj.mk .none .none (Data.func (fd "near_by_hand" "near_by_hand" (S 14) 0 [] .none .none .none .none .none .none .none 0)) #[]
def o100 (P : Params) := Obj.mk (.type "code") .none (Data.fields #[(.str "near_by_hand" 304), (.str "near_by_hand" 305), (.str "/claim/cut.py" 306), (.int 43 0), (.int 2 0), (.int 0 0), (.int 0 0), (.int 3 0), (.ref 99), (.bool true), (.int 181 0), (.ref 100), .none, (.ref 101), (.ref 102), (.ref 103), (.int 313 0), (.int 43 0), (.str "/claim/cut.py" 314)]) #[]
def o101 (P : Params) := Obj.mk (.type "function") .none (Data.func (fd "near_by_hand" "near_by_hand" (S 14) 3 [] .none .none .none (.str "beatless.webs" 271) .none (.ref 104) .none 0)) #[]
def o102 (P : Params) := Obj.mk (.type "tuple") .none (Data.seq #[] 0) #[]
def o103 (P : Params) := Obj.mk (.type "builtin_function_or_method") .none (Data.fields #[(.builtin "type.__prepare__"), (.type "type")]) #[]
def o104 := Obj.mk (.type "dict") .none (Data.dict #[en P "__module__" 323 (.str "beatless.webs" 271), en P "__qualname__" 325 (.str "Web" 324), en P "__firstlineno__" 327 (.int 51 326), en P "__init__" 336 (.ref 119), en P "hands" 343 (.ref 126), en P "lines" 350 (.ref 133), en P "has_hand" 358 (.ref 140), en P "has_line" 367 (.ref 147), en P "neighbours" 375 (.ref 154), en P "groups" 382 (.ref 161), en P "group_of" 390 (.ref 168), en P "__static_attributes__" 394 (.ref 169)] 12) #[]
def o105 (P : Params) := Obj.mk (.type "tuple") .none (Data.seq #[] 0) #[]
def o106 (P : Params) := Obj.mk .none .none (Data.fields #[(.int 53 0), (.int 4 0), (.ref 118), (.int 62 0), (.int 4 0), (.ref 125), (.int 65 0), (.int 4 0), (.ref 132), (.int 68 0), (.int 4 0), (.ref 139), (.int 71 0), (.int 4 0), (.ref 146), (.int 74 0), (.int 4 0), (.ref 153), (.int 79 0), (.int 4 0), (.ref 160), (.int 82 0), (.int 4 0), (.ref 167)]) #[]
def o107 (P : Params) := Obj.mk (.type "code") .none (Data.fields #[(.str "Web" 318), (.str "Web" 319), (.str "/claim/cut.py" 320), (.int 51 0), (.int 0 0), (.int 0 0), (.int 0 0), (.int 0 0), (.ref 109), (.bool false), (.int 181 0), (.ref 110), .none, .none, .none, .none, (.int 321 0), (.int 51 0), (.str "/claim/cut.py" 322)]) #[]
def o108 (P : Params) := Obj.mk (.type "frame") .none Data.plain #[(Option.some (.ref 111)), (Option.some (.ref 3)), (Option.some (.ref 108)), .none, (Option.some (.str "beatless.webs" 271)), .none, (Option.some (.ref 0))]
def o109 (P : Params) := Obj.mk (.type "tuple") .none (Data.seq #[] 0) #[]
def o110 (P : Params) := Obj.mk .none .none (Data.fields #[]) #[]
def o111 (P : Params) := Obj.mk (.type "tuple") .none (Data.seq #[(.str "self" 331), (.str "hands" 332), (.str "lines" 333)] 0) #[]
def o112 (P : Params) := Obj.mk (.type "tuple") .none (Data.seq #[] 0) #[]
def o113 (P : Params) := Obj.mk .none .none (Data.func (fd "__init__" "Web.__init__" (L2.inClass (S 15) 0) 0 [] .none .none .none .none .none .none .none 0)) #[]
def o114 (P : Params) := Obj.mk (.type "code") .none (Data.fields #[(.str "__init__" 328), (.str "Web.__init__" 329), (.str "/claim/cut.py" 330), (.int 53 0), (.int 3 0), (.int 0 0), (.int 0 0), (.int 3 0), (.ref 113), (.bool true), (.int 181 0), (.ref 114), .none, (.ref 115), (.ref 116), (.ref 117), (.int 334 0), (.int 53 0), (.str "/claim/cut.py" 335)]) #[]
def o115 (P : Params) := Obj.mk (.type "function") .none (Data.func (fd "__init__" "Web.__init__" (L2.inClass (S 15) 0) 3 [] .none .none .none (.str "beatless.webs" 271) .none (.ref 118) .none 0)) #[]
def o116 (P : Params) := Obj.mk (.type "tuple") .none (Data.seq #[] 0) #[]
def o117 (P : Params) := Obj.mk .none .none (Data.fields #[]) #[]
def o118 (P : Params) := Obj.mk (.type "tuple") .none (Data.seq #[(.str "self" 340)] 0) #[]
def o119 (P : Params) := Obj.mk (.type "tuple") .none (Data.seq #[] 0) #[]
def o120 (P : Params) := Obj.mk .none .none (Data.func (fd "hands" "Web.hands" (L2.inClass (S 15) 1) 0 [] .none .none .none .none .none .none .none 0)) #[]
def o121 (P : Params) := Obj.mk (.type "code") .none (Data.fields #[(.str "hands" 337), (.str "Web.hands" 338), (.str "/claim/cut.py" 339), (.int 62 0), (.int 1 0), (.int 0 0), (.int 0 0), (.int 3 0), (.ref 120), (.bool true), (.int 181 0), (.ref 121), .none, (.ref 122), (.ref 123), (.ref 124), (.int 341 0), (.int 62 0), (.str "/claim/cut.py" 342)]) #[]
def o122 (P : Params) := Obj.mk (.type "function") .none (Data.func (fd "hands" "Web.hands" (L2.inClass (S 15) 1) 3 [] .none .none .none (.str "beatless.webs" 271) .none (.ref 125) .none 0)) #[]
def o123 (P : Params) := Obj.mk (.type "tuple") .none (Data.seq #[] 0) #[]
def o124 (P : Params) := Obj.mk .none .none (Data.fields #[]) #[]
def o125 (P : Params) := Obj.mk (.type "tuple") .none (Data.seq #[(.str "self" 347)] 0) #[]
def o126 (P : Params) := Obj.mk (.type "tuple") .none (Data.seq #[] 0) #[]
def o127 (P : Params) := Obj.mk .none .none (Data.func (fd "lines" "Web.lines" (L2.inClass (S 15) 2) 0 [] .none .none .none .none .none .none .none 0)) #[]
def o128 (P : Params) := Obj.mk (.type "code") .none (Data.fields #[(.str "lines" 344), (.str "Web.lines" 345), (.str "/claim/cut.py" 346), (.int 65 0), (.int 1 0), (.int 0 0), (.int 0 0), (.int 3 0), (.ref 127), (.bool true), (.int 181 0), (.ref 128), .none, (.ref 129), (.ref 130), (.ref 131), (.int 348 0), (.int 65 0), (.str "/claim/cut.py" 349)]) #[]
def o129 (P : Params) := Obj.mk (.type "function") .none (Data.func (fd "lines" "Web.lines" (L2.inClass (S 15) 2) 3 [] .none .none .none (.str "beatless.webs" 271) .none (.ref 132) .none 0)) #[]
def o130 (P : Params) := Obj.mk (.type "tuple") .none (Data.seq #[] 0) #[]
def o131 (P : Params) := Obj.mk .none .none (Data.fields #[]) #[]
def o132 (P : Params) := Obj.mk (.type "tuple") .none (Data.seq #[(.str "self" 354), (.str "hand" 355)] 0) #[]
def o133 (P : Params) := Obj.mk (.type "tuple") .none (Data.seq #[] 0) #[]
def o134 (P : Params) := Obj.mk .none .none (Data.func (fd "has_hand" "Web.has_hand" (L2.inClass (S 15) 3) 0 [] .none .none .none .none .none .none .none 0)) #[]
def o135 (P : Params) := Obj.mk (.type "code") .none (Data.fields #[(.str "has_hand" 351), (.str "Web.has_hand" 352), (.str "/claim/cut.py" 353), (.int 68 0), (.int 2 0), (.int 0 0), (.int 0 0), (.int 3 0), (.ref 134), (.bool true), (.int 181 0), (.ref 135), .none, (.ref 136), (.ref 137), (.ref 138), (.int 356 0), (.int 68 0), (.str "/claim/cut.py" 357)]) #[]
def o136 (P : Params) := Obj.mk (.type "function") .none (Data.func (fd "has_hand" "Web.has_hand" (L2.inClass (S 15) 3) 3 [] .none .none .none (.str "beatless.webs" 271) .none (.ref 139) .none 0)) #[]
def o137 (P : Params) := Obj.mk (.type "tuple") .none (Data.seq #[] 0) #[]
def o138 (P : Params) := Obj.mk .none .none (Data.fields #[]) #[]
def o139 (P : Params) := Obj.mk (.type "tuple") .none (Data.seq #[(.str "self" 362), (.str "one" 363), (.str "other" 364)] 0) #[]
def o140 (P : Params) := Obj.mk (.type "tuple") .none (Data.seq #[] 0) #[]
def o141 (P : Params) := Obj.mk .none .none (Data.func (fd "has_line" "Web.has_line" (L2.inClass (S 15) 4) 0 [] .none .none .none .none .none .none .none 0)) #[]
def o142 (P : Params) := Obj.mk (.type "code") .none (Data.fields #[(.str "has_line" 359), (.str "Web.has_line" 360), (.str "/claim/cut.py" 361), (.int 71 0), (.int 3 0), (.int 0 0), (.int 0 0), (.int 3 0), (.ref 141), (.bool true), (.int 181 0), (.ref 142), .none, (.ref 143), (.ref 144), (.ref 145), (.int 365 0), (.int 71 0), (.str "/claim/cut.py" 366)]) #[]
def o143 (P : Params) := Obj.mk (.type "function") .none (Data.func (fd "has_line" "Web.has_line" (L2.inClass (S 15) 4) 3 [] .none .none .none (.str "beatless.webs" 271) .none (.ref 146) .none 0)) #[]
def o144 (P : Params) := Obj.mk (.type "tuple") .none (Data.seq #[] 0) #[]
def o145 (P : Params) := Obj.mk .none .none (Data.fields #[]) #[]
def o146 (P : Params) := Obj.mk (.type "tuple") .none (Data.seq #[(.str "self" 371), (.str "hand" 372)] 0) #[]
def o147 (P : Params) := Obj.mk (.type "tuple") .none (Data.seq #[] 0) #[]
def o148 (P : Params) := Obj.mk .none .none (Data.func (fd "neighbours" "Web.neighbours" (L2.inClass (S 15) 5) 0 [] .none .none .none .none .none .none .none 0)) #[]
def o149 (P : Params) := Obj.mk (.type "code") .none (Data.fields #[(.str "neighbours" 368), (.str "Web.neighbours" 369), (.str "/claim/cut.py" 370), (.int 74 0), (.int 2 0), (.int 0 0), (.int 0 0), (.int 3 0), (.ref 148), (.bool true), (.int 181 0), (.ref 149), .none, (.ref 150), (.ref 151), (.ref 152), (.int 373 0), (.int 74 0), (.str "/claim/cut.py" 374)]) #[]
def o150 (P : Params) := Obj.mk (.type "function") .none (Data.func (fd "neighbours" "Web.neighbours" (L2.inClass (S 15) 5) 3 [] .none .none .none (.str "beatless.webs" 271) .none (.ref 153) .none 0)) #[]
def o151 (P : Params) := Obj.mk (.type "tuple") .none (Data.seq #[] 0) #[]
def o152 (P : Params) := Obj.mk .none .none (Data.fields #[]) #[]
def o153 (P : Params) := Obj.mk (.type "tuple") .none (Data.seq #[(.str "self" 379)] 0) #[]
def o154 (P : Params) := Obj.mk (.type "tuple") .none (Data.seq #[] 0) #[]
def o155 (P : Params) := Obj.mk .none .none (Data.func (fd "groups" "Web.groups" (L2.inClass (S 15) 6) 0 [] .none .none .none .none .none .none .none 0)) #[]
def o156 (P : Params) := Obj.mk (.type "code") .none (Data.fields #[(.str "groups" 376), (.str "Web.groups" 377), (.str "/claim/cut.py" 378), (.int 79 0), (.int 1 0), (.int 0 0), (.int 0 0), (.int 3 0), (.ref 155), (.bool true), (.int 181 0), (.ref 156), .none, (.ref 157), (.ref 158), (.ref 159), (.int 380 0), (.int 79 0), (.str "/claim/cut.py" 381)]) #[]
def o157 (P : Params) := Obj.mk (.type "function") .none (Data.func (fd "groups" "Web.groups" (L2.inClass (S 15) 6) 3 [] .none .none .none (.str "beatless.webs" 271) .none (.ref 160) .none 0)) #[]
def o158 (P : Params) := Obj.mk (.type "tuple") .none (Data.seq #[] 0) #[]
def o159 (P : Params) := Obj.mk .none .none (Data.fields #[]) #[]
def o160 (P : Params) := Obj.mk (.type "tuple") .none (Data.seq #[(.str "self" 386), (.str "hand" 387)] 0) #[]
def o161 (P : Params) := Obj.mk (.type "tuple") .none (Data.seq #[] 0) #[]
def o162 (P : Params) := Obj.mk .none .none (Data.func (fd "group_of" "Web.group_of" (L2.inClass (S 15) 7) 0 [] .none .none .none .none .none .none .none 0)) #[]
def o163 (P : Params) := Obj.mk (.type "code") .none (Data.fields #[(.str "group_of" 383), (.str "Web.group_of" 384), (.str "/claim/cut.py" 385), (.int 82 0), (.int 2 0), (.int 0 0), (.int 0 0), (.int 3 0), (.ref 162), (.bool true), (.int 181 0), (.ref 163), .none, (.ref 164), (.ref 165), (.ref 166), (.int 388 0), (.int 82 0), (.str "/claim/cut.py" 389)]) #[]
def o164 (P : Params) := Obj.mk (.type "function") .none (Data.func (fd "group_of" "Web.group_of" (L2.inClass (S 15) 7) 3 [] .none .none .none (.str "beatless.webs" 271) .none (.ref 167) .none 0)) #[]
def o165 (P : Params) := Obj.mk (.type "tuple") .none (Data.seq #[(.str "near" 391), (.str "own_hands" 392), (.str "own_lines" 393)] 0) #[]
def o166 := Obj.mk (.type "dict") .none (Data.dict #[en P "__module__" 323 (.str "beatless.webs" 271), en P "__firstlineno__" 327 (.int 51 326), en P "__init__" 336 (.ref 119), en P "hands" 343 (.ref 126), en P "lines" 350 (.ref 133), en P "has_hand" 358 (.ref 140), en P "has_line" 367 (.ref 147), en P "neighbours" 375 (.ref 154), en P "groups" 382 (.ref 161), en P "group_of" 390 (.ref 168), en P "__static_attributes__" 394 (.ref 169), en P "__dict__" 396 (.ref 172), en P "__weakref__" 398 (.ref 173), en P "__doc__" 399 .none] 4) #[]
def o167 (P : Params) := Obj.mk (.type "type") .none (Data.cls (ClassData.mk "Web" [(.type "object")] [(.ref 171), (.type "object")] 170 "Web" true [] [] false .none false)) #[.none, .none, (Option.some (.str "Web" 316)), (Option.some (.str "Web" 324)), (Option.some (.builtin "object.__new__")), (Option.some (.bool true))]
def o168 (P : Params) := Obj.mk (.type "getset_descriptor") .none (Data.fields #[(.str "__dict__" 395), (.ref 171), (.builtin "function.__dict__"), (.builtin "function.__dict__#set")]) #[]
def o169 (P : Params) := Obj.mk (.type "getset_descriptor") .none (Data.fields #[(.str "__weakref__" 397), (.ref 171), (.builtin "ExceptionGroup.__weakref__"), .none]) #[]
def o170 (P : Params) := Obj.mk (.type "super") .none (Data.fields #[(.ref 171), (.ref 171), (.ref 171)]) #[]
def o171 (P : Params) := Obj.mk (.type "builtin_function_or_method") .none (Data.fields #[(.builtin "object.__init_subclass__"), (.ref 171)]) #[]
def o172 (P : Params) := Obj.mk (.type "tuple") .none (Data.seq #[] 0) #[]
def o173 (P : Params) := Obj.mk .none .none (Data.fields #[]) #[]
def o174 (P : Params) := Obj.mk (.type "tuple") .none (Data.seq #[(.str "_law_script" 407), (.str "_law_k" 408)] 0) #[]
def o175 (P : Params) := Obj.mk (.type "tuple") .none (Data.seq #[] 0) #[]
def o176 (P : Params) := Obj.mk .none .none (Data.func (fd "_law_cell_at" "_law_cell_at" (S 17) 0 [] .none .none .none .none .none .none .none 0)) #[]
def o177 (P : Params) := Obj.mk (.type "code") .none (Data.fields #[(.str "_law_cell_at" 404), (.str "_law_cell_at" 405), (.str "/claim/cut.py" 406), (.int 85 0), (.int 2 0), (.int 0 0), (.int 0 0), (.int 3 0), (.ref 176), (.bool true), (.int 181 0), (.ref 177), .none, (.ref 178), (.ref 179), (.ref 180), (.int 409 0), (.int 85 0), (.str "/claim/cut.py" 410)]) #[]
def o178 (P : Params) := Obj.mk (.type "function") .none (Data.func (fd "_law_cell_at" "_law_cell_at" (S 17) 3 [] .none .none .none (.str "law_beatless_k01_webs_told" 402) .none (.ref 181) .none 0)) #[]
def o179 (P : Params) := Obj.mk (.type "tuple") .none (Data.seq #[] 0) #[]
def o180 (P : Params) := Obj.mk .none .none (Data.fields #[]) #[]
def o181 (P : Params) := Obj.mk (.type "tuple") .none (Data.seq #[(.str "_law_state" 415), (.str "_law_base" 416), (.str "_law_cell" 417), (.str "_law_found" 418), (.str "_law_number" 419)] 0) #[]
def o182 (P : Params) := Obj.mk (.type "tuple") .none (Data.seq #[] 0) #[]
def o183 (P : Params) := Obj.mk .none .none (Data.func (fd "_law_digit" "_law_digit" (S 18) 0 [] .none .none .none .none .none .none .none 0)) #[]
def o184 (P : Params) := Obj.mk (.type "code") .none (Data.fields #[(.str "_law_digit" 412), (.str "_law_digit" 413), (.str "/claim/cut.py" 414), (.int 89 0), (.int 2 0), (.int 0 0), (.int 0 0), (.int 3 0), (.ref 183), (.bool true), (.int 181 0), (.ref 184), .none, (.ref 185), (.ref 186), (.ref 187), (.int 420 0), (.int 89 0), (.str "/claim/cut.py" 421)]) #[]
def o185 (P : Params) := Obj.mk (.type "function") .none (Data.func (fd "_law_digit" "_law_digit" (S 18) 3 [] .none .none .none (.str "law_beatless_k01_webs_told" 402) .none (.ref 188) .none 0)) #[]
def o186 (P : Params) := Obj.mk (.type "tuple") .none (Data.seq #[] 0) #[]
def o187 (P : Params) := Obj.mk .none .none (Data.fields #[]) #[]
def o188 (P : Params) := Obj.mk .none .none (Data.func (fd "_law_web" "_law_web" (S 19) 0 [] .none .none .none .none .none .none .none 0)) #[]
def o189 (P : Params) := Obj.mk (.type "code") .none (Data.fields #[(.str "_law_web" 423), (.str "_law_web" 424), (.str "/claim/cut.py" 425), (.int 102 0), (.int 1 0), (.int 0 0), (.int 0 0), (.int 3 0), (.ref 190), (.bool true), (.int 181 0), (.ref 191), .none, .none, .none, (.ref 192), (.int 426 0), (.int 102 0), (.str "/claim/cut.py" 427)]) #[]
def o190 (P : Params) := Obj.mk (.type "function") .none (Data.func (fd "_law_web" "_law_web" (S 19) 3 [] .none .none .none (.str "law_beatless_k01_webs_told" 402) .none (.ref 193) .none 0)) #[]
def t161 := BT.node (o123 P) .nil .nil
def t162 := BT.node (o187 P) .nil .nil
def t163 := BT.node (o57 P) (t161 P) (t162 P)
def t164 := BT.node (o155 P) .nil .nil
def t165 := BT.node (o89 P) (t164 P) .nil
def t166 := BT.node (o40 P) (t163 P) (t165 P)
def t167 := BT.node (o139 P) .nil .nil
def t168 := BT.node (o73 P) (t167 P) .nil
def t169 := BT.node (o171 P) .nil .nil
def t170 := BT.node (o107 P) (t169 P) .nil
def t171 := BT.node (o41 P) (t168 P) (t170 P)
def t172 := BT.node (o6 P) (t166 P) (t171 P)
def t173 := BT.node (o131 P) .nil .nil
def t174 := BT.node (o65 P) (t173 P) .nil
def t175 := BT.node (o163 P) .nil .nil
def t176 := BT.node (o99 P) (t175 P) .nil
def t177 := BT.node (o30 P) (t174 P) (t176 P)
def t178 := BT.node (o147 P) .nil .nil
def t179 := BT.node (o81 P) (t178 P) .nil
def t180 := BT.node (o179 P) .nil .nil
def t181 := BT.node (o115 P) (t180 P) .nil
def t182 := BT.node (o49 P) (t179 P) (t181 P)
def t183 := BT.node (o14 P) (t177 P) (t182 P)
def t184 := BT.node (boot_o_7 P) (t172 P) (t183 P)
def t185 := BT.node (o127 P) .nil .nil
def t186 := BT.node (o61 P) (t185 P) .nil
def t187 := BT.node (o159 P) .nil .nil
def t188 := BT.node (o95 P) (t187 P) .nil
def t189 := BT.node (o26 P) (t186 P) (t188 P)
def t190 := BT.node (o143 P) .nil .nil
def t191 := BT.node (o77 P) (t190 P) .nil
def t192 := BT.node (o175 P) .nil .nil
def t193 := BT.node (o111 P) (t192 P) .nil
def t194 := BT.node (o45 P) (t191 P) (t193 P)
def t195 := BT.node (o10 P) (t189 P) (t194 P)
def t196 := BT.node (o135 P) .nil .nil
def t197 := BT.node (o69 P) (t196 P) .nil
def t198 := BT.node (o167 P) .nil .nil
def t199 := BT.node (o103 P) (t198 P) .nil
def t200 := BT.node (o34 P) (t197 P) (t199 P)
def t201 := BT.node (o151 P) .nil .nil
def t202 := BT.node (o85 P) (t201 P) .nil
def t203 := BT.node (o183 P) .nil .nil
def t204 := BT.node (o119 P) (t203 P) .nil
def t205 := BT.node (o53 P) (t202 P) (t204 P)
def t206 := BT.node (o18 P) (t200 P) (t205 P)
def t207 := BT.node (o0 P) (t195 P) (t206 P)
def t208 := BT.node (o93 P) (t184 P) (t207 P)
def t209 := BT.node (o125 P) .nil .nil
def t210 := BT.node (o189 P) .nil .nil
def t211 := BT.node (o59 P) (t209 P) (t210 P)
def t212 := BT.node (o157 P) .nil .nil
def t213 := BT.node (o91 P) (t212 P) .nil
def t214 := BT.node (o24 P) (t211 P) (t213 P)
def t215 := BT.node (o141 P) .nil .nil
def t216 := BT.node (o75 P) (t215 P) .nil
def t217 := BT.node (o173 P) .nil .nil
def t218 := BT.node (o109 P) (t217 P) .nil
def t219 := BT.node (o43 P) (t216 P) (t218 P)
def t220 := BT.node (o8 P) (t214 P) (t219 P)
def t221 := BT.node (o133 P) .nil .nil
def t222 := BT.node (o67 P) (t221 P) .nil
def t223 := BT.node (o165 P) .nil .nil
def t224 := BT.node (o101 P) (t223 P) .nil
def t225 := BT.node (o32 P) (t222 P) (t224 P)
def t226 := BT.node (o149 P) .nil .nil
def t227 := BT.node (o83 P) (t226 P) .nil
def t228 := BT.node (o181 P) .nil .nil
def t229 := BT.node (o117 P) (t228 P) .nil
def t230 := BT.node (o51 P) (t227 P) (t229 P)
def t231 := BT.node (o16 P) (t225 P) (t230 P)
def t232 := BT.node (boot_o_9 P) (t220 P) (t231 P)
def t233 := BT.node (o129 P) .nil .nil
def t234 := BT.node (o63 P) (t233 P) .nil
def t235 := BT.node (o161 P) .nil .nil
def t236 := BT.node (o97 P) (t235 P) .nil
def t237 := BT.node (o28 P) (t234 P) (t236 P)
def t238 := BT.node (o145 P) .nil .nil
def t239 := BT.node (o79 P) (t238 P) .nil
def t240 := BT.node (o177 P) .nil .nil
def t241 := BT.node (o113 P) (t240 P) .nil
def t242 := BT.node (o47 P) (t239 P) (t241 P)
def t243 := BT.node (o12 P) (t237 P) (t242 P)
def t244 := BT.node (o137 P) .nil .nil
def t245 := BT.node (o71 P) (t244 P) .nil
def t246 := BT.node (o169 P) .nil .nil
def t247 := BT.node (o105 P) (t246 P) .nil
def t248 := BT.node (o36 P) (t245 P) (t247 P)
def t249 := BT.node (o153 P) .nil .nil
def t250 := BT.node (o87 P) (t249 P) .nil
def t251 := BT.node (o185 P) .nil .nil
def t252 := BT.node (o121 P) (t251 P) .nil
def t253 := BT.node (o55 P) (t250 P) (t252 P)
def t254 := BT.node (o20 P) (t248 P) (t253 P)
def t255 := BT.node (o2 P) (t243 P) (t254 P)
def t256 := BT.node (boot_o_5 P) (t232 P) (t255 P)
def t257 := BT.node (boot_o_1 P) (t208 P) (t256 P)
def t258 := BT.node (o124 P) .nil .nil
def t259 := BT.node (o188 P) .nil .nil
def t260 := BT.node (o58 P) (t258 P) (t259 P)
def t261 := BT.node (o156 P) .nil .nil
def t262 := BT.node (o90 P) (t261 P) .nil
def t263 := BT.node (o23 P) (t260 P) (t262 P)
def t264 := BT.node (o140 P) .nil .nil
def t265 := BT.node (o74 P) (t264 P) .nil
def t266 := BT.node (o172 P) .nil .nil
def t267 := BT.node (o108 P) (t266 P) .nil
def t268 := BT.node (o42 P) (t265 P) (t267 P)
def t269 := BT.node (o7 P) (t263 P) (t268 P)
def t270 := BT.node (o132 P) .nil .nil
def t271 := BT.node (o66 P) (t270 P) .nil
def t272 := BT.node (o164 P) .nil .nil
def t273 := BT.node (o100 P) (t272 P) .nil
def t274 := BT.node (o31 P) (t271 P) (t273 P)
def t275 := BT.node (o148 P) .nil .nil
def t276 := BT.node (o82 P) (t275 P) .nil
def t277 := BT.node (o180 P) .nil .nil
def t278 := BT.node (o116 P) (t277 P) .nil
def t279 := BT.node (o50 P) (t276 P) (t278 P)
def t280 := BT.node (o15 P) (t274 P) (t279 P)
def t281 := BT.node (boot_o_8 P) (t269 P) (t280 P)
def t282 := BT.node (o128 P) .nil .nil
def t283 := BT.node (o62 P) (t282 P) .nil
def t284 := BT.node (o160 P) .nil .nil
def t285 := BT.node (o96 P) (t284 P) .nil
def t286 := BT.node (o27 P) (t283 P) (t285 P)
def t287 := BT.node (o144 P) .nil .nil
def t288 := BT.node (o78 P) (t287 P) .nil
def t289 := BT.node (o176 P) .nil .nil
def t290 := BT.node (o112 P) (t289 P) .nil
def t291 := BT.node (o46 P) (t288 P) (t290 P)
def t292 := BT.node (o11 P) (t286 P) (t291 P)
def t293 := BT.node (o136 P) .nil .nil
def t294 := BT.node (o70 P) (t293 P) .nil
def t295 := BT.node (o168 P) .nil .nil
def t296 := BT.node (o104 P) (t295 P) .nil
def t297 := BT.node (o35 P) (t294 P) (t296 P)
def t298 := BT.node (o152 P) .nil .nil
def t299 := BT.node (o86 P) (t298 P) .nil
def t300 := BT.node (o184 P) .nil .nil
def t301 := BT.node (o120 P) (t300 P) .nil
def t302 := BT.node (o54 P) (t299 P) (t301 P)
def t303 := BT.node (o19 P) (t297 P) (t302 P)
def t304 := BT.node (o94 P) (t292 P) (t303 P)
def t305 := BT.node (boot_o_4 P) (t281 P) (t304 P)
def t306 := BT.node (o126 P) .nil .nil
def t307 := BT.node (o190 P) .nil .nil
def t308 := BT.node (o60 P) (t306 P) (t307 P)
def t309 := BT.node (o158 P) .nil .nil
def t310 := BT.node (o92 P) (t309 P) .nil
def t311 := BT.node (o25 P) (t308 P) (t310 P)
def t312 := BT.node (o142 P) .nil .nil
def t313 := BT.node (o76 P) (t312 P) .nil
def t314 := BT.node (o174 P) .nil .nil
def t315 := BT.node (o110 P) (t314 P) .nil
def t316 := BT.node (o44 P) (t313 P) (t315 P)
def t317 := BT.node (o9 P) (t311 P) (t316 P)
def t318 := BT.node (o134 P) .nil .nil
def t319 := BT.node (o68 P) (t318 P) .nil
def t320 := BT.node (o166 P) .nil .nil
def t321 := BT.node (o102 P) (t320 P) .nil
def t322 := BT.node (o33 P) (t319 P) (t321 P)
def t323 := BT.node (o150 P) .nil .nil
def t324 := BT.node (o84 P) (t323 P) .nil
def t325 := BT.node (o182 P) .nil .nil
def t326 := BT.node (o118 P) (t325 P) .nil
def t327 := BT.node (o52 P) (t324 P) (t326 P)
def t328 := BT.node (o17 P) (t322 P) (t327 P)
def t329 := BT.node (boot_o_10 P) (t317 P) (t328 P)
def t330 := BT.node (o130 P) .nil .nil
def t331 := BT.node (o64 P) (t330 P) .nil
def t332 := BT.node (o162 P) .nil .nil
def t333 := BT.node (o98 P) (t332 P) .nil
def t334 := BT.node (o29 P) (t331 P) (t333 P)
def t335 := BT.node (o146 P) .nil .nil
def t336 := BT.node (o80 P) (t335 P) .nil
def t337 := BT.node (o178 P) .nil .nil
def t338 := BT.node (o114 P) (t337 P) .nil
def t339 := BT.node (o48 P) (t336 P) (t338 P)
def t340 := BT.node (o13 P) (t334 P) (t339 P)
def t341 := BT.node (o138 P) .nil .nil
def t342 := BT.node (o72 P) (t341 P) .nil
def t343 := BT.node (o170 P) .nil .nil
def t344 := BT.node (o106 P) (t343 P) .nil
def t345 := BT.node (o37 P) (t342 P) (t344 P)
def t346 := BT.node (o154 P) .nil .nil
def t347 := BT.node (o88 P) (t346 P) .nil
def t348 := BT.node (o186 P) .nil .nil
def t349 := BT.node (o122 P) (t348 P) .nil
def t350 := BT.node (o56 P) (t347 P) (t349 P)
def t351 := BT.node (o21 P) (t345 P) (t350 P)
def t352 := BT.node (o3 P) (t340 P) (t351 P)
def t353 := BT.node (boot_o_6 P) (t329 P) (t352 P)
def t354 := BT.node (boot_o_2 P) (t305 P) (t353 P)
def t355 := BT.node (boot_o_0 P) (t257 P) (t354 P)
def sb3 (w : World) (os : OsState) : SharedT := ⟨(t355 w.params), 195, (Life.mk [] [] [] 0 [] [] false #[] [] 0 false false false 0 [2000, 10, 10] false 0 true [] [] 0 false), ⟨[]⟩, (Drawn.mk 0 0 0 0), 429, os⟩
def L2 (w : World) (os : OsState) : Option (Flow × SharedT × Code × Pos) := segRunT treeTable PySem.Challenge.pw_beatless_k01_webs_told w 11 an 1 580 (sb2 w os) (piecesOf sts2 env cE (Pos.mk 34 0 42 15) B)
def R2 (w : World) (os : OsState) : Option (Flow × SharedT × Code × Pos) := some (.next, sb3 w os, cE, (Pos.mk 102 0 118 72))
theorem q2 : tt (Hd.L2, Hd.R2) = true := by k_qdec
theorem r2 : ∀ w, Fast.tw9171306275460833034 w = Fast.tw12913952840628719863 w := fun w => by kernel_rfl
theorem e2 (w : World) (os : OsState) : Hd.L2 w os = Hd.R2 w os :=
  (congrFun (congrFun Fast.te9171306275460833034 w) os).trans ((congrFun (r2 w) os).trans (congrFun (congrFun Fast.te12913952840628719863 w) os).symm)
def sts3 : List Stmt := [S 20, S 21, S 22, S 23]
def o191 := Obj.mk (.type "dict") .none (Data.dict #[en P "__name__" 165 (.str "law_beatless_k01_webs_told" 402), en P "__doc__" 166 .none, en P "__package__" 167 .none, en P "__loader__" 168 (.builtin "__main__.__loader__#opaque"), en P "__spec__" 169 .none, en P "__annotations__" 170 (.ref 6), en P "__builtins__" 171 (.ref 4), en P "__file__" 173 (.str "/claim/cut.py" 172), en P "__cached__" 174 .none, en P "_wall" 193 (.ref 21), en P "BeatlessError" 213 (.ref 31), en P "NoWeb" 229 (.ref 44), en P "NoHand" 245 (.ref 56), en P "NoLine" 261 (.ref 68), en P "is_whole" 270 (.ref 77), en P "MOST_HANDS" 274 (.int 12 273), en P "LAST_HAND" 276 (.int 99 275), en P "are_hands" 285 (.ref 84), en P "is_line" 293 (.ref 91), en P "are_lines" 303 (.ref 98), en P "near_by_hand" 315 (.ref 105), en P "Web" 401 (.ref 171), en P "_law_cell_at" 411 (.ref 182), en P "_law_digit" 422 (.ref 189), en P "_law_web" 428 (.ref 194), en P "_law_is" 436 (.ref 201), en P "_law_refused" 445 (.ref 208), en P "_law_right" 458 (.ref 215), en P "law" 470 (.ref 222)] 29) #[]
def o192 (P : Params) := Obj.mk .none .none (Data.fields #[(.int 1 0), (.int 0 0), (.ref 20), (.int 5 0), (.int 0 0), (.ref 27), (.int 7 0), (.int 0 0), (.ref 40), (.int 9 0), (.int 0 0), (.ref 52), (.int 11 0), (.int 0 0), (.ref 64), (.int 14 0), (.int 0 0), (.ref 76), (.int 19 0), (.int 0 0), (.ref 83), (.int 28 0), (.int 0 0), (.ref 90), (.int 34 0), (.int 0 0), (.ref 97), (.int 43 0), (.int 0 0), (.ref 104), (.int 51 0), (.int 0 0), (.ref 111), (.int 85 0), (.int 0 0), (.ref 181), (.int 89 0), (.int 0 0), (.ref 188), (.int 102 0), (.int 0 0), (.ref 193), (.int 119 0), (.int 0 0), (.ref 200), (.int 121 0), (.int 0 0), (.ref 207), (.int 127 0), (.int 0 0), (.ref 214), (.int 144 0), (.int 0 0), (.ref 221)]) #[]
def o193 (P : Params) := Obj.mk (.type "tuple") .none (Data.seq #[] 0) #[]
def o194 (P : Params) := Obj.mk .none .none (Data.fields #[]) #[]
def o195 (P : Params) := Obj.mk (.type "tuple") .none (Data.seq #[(.str "_law_found" 432), (.str "_law_due" 433)] 0) #[]
def o196 (P : Params) := Obj.mk (.type "tuple") .none (Data.seq #[] 0) #[]
def o197 (P : Params) := Obj.mk .none .none (Data.func (fd "_law_is" "_law_is" (S 20) 0 [] .none .none .none .none .none .none .none 0)) #[]
def o198 (P : Params) := Obj.mk (.type "code") .none (Data.fields #[(.str "_law_is" 429), (.str "_law_is" 430), (.str "/claim/cut.py" 431), (.int 119 0), (.int 2 0), (.int 0 0), (.int 0 0), (.int 3 0), (.ref 195), (.bool true), (.int 181 0), (.ref 196), .none, (.ref 197), (.ref 198), (.ref 199), (.int 434 0), (.int 119 0), (.str "/claim/cut.py" 435)]) #[]
def o199 (P : Params) := Obj.mk (.type "function") .none (Data.func (fd "_law_is" "_law_is" (S 20) 3 [] .none .none .none (.str "law_beatless_k01_webs_told" 402) .none (.ref 200) .none 0)) #[]
def o200 (P : Params) := Obj.mk (.type "tuple") .none (Data.seq #[] 0) #[]
def o201 (P : Params) := Obj.mk .none .none (Data.fields #[]) #[]
def o202 (P : Params) := Obj.mk (.type "tuple") .none (Data.seq #[(.str "_law_web_here" 440), (.str "_law_hand" 441), (.str "e" 442)] 0) #[]
def o203 (P : Params) := Obj.mk (.type "tuple") .none (Data.seq #[] 0) #[]
def o204 (P : Params) := Obj.mk .none .none (Data.func (fd "_law_refused" "_law_refused" (S 21) 0 [] .none .none .none .none .none .none .none 0)) #[]
def o205 (P : Params) := Obj.mk (.type "code") .none (Data.fields #[(.str "_law_refused" 437), (.str "_law_refused" 438), (.str "/claim/cut.py" 439), (.int 121 0), (.int 2 0), (.int 0 0), (.int 0 0), (.int 3 0), (.ref 202), (.bool true), (.int 181 0), (.ref 203), .none, (.ref 204), (.ref 205), (.ref 206), (.int 443 0), (.int 121 0), (.str "/claim/cut.py" 444)]) #[]
def o206 (P : Params) := Obj.mk (.type "function") .none (Data.func (fd "_law_refused" "_law_refused" (S 21) 3 [] .none .none .none (.str "law_beatless_k01_webs_told" 402) .none (.ref 207) .none 0)) #[]
def o207 (P : Params) := Obj.mk (.type "tuple") .none (Data.seq #[] 0) #[]
def o208 (P : Params) := Obj.mk .none .none (Data.fields #[]) #[]
def o209 (P : Params) := Obj.mk (.type "tuple") .none (Data.seq #[(.str "_law_web_here" 449), (.str "_law_hands" 450), (.str "_law_lines" 451), (.str "_law_one" 452), (.str "_law_sides" 453), (.str "_law_other" 454), (.str "_law_joined" 455)] 0) #[]
def o210 (P : Params) := Obj.mk (.type "tuple") .none (Data.seq #[] 0) #[]
def o211 (P : Params) := Obj.mk .none .none (Data.func (fd "_law_right" "_law_right" (S 22) 0 [] .none .none .none .none .none .none .none 0)) #[]
def o212 (P : Params) := Obj.mk (.type "code") .none (Data.fields #[(.str "_law_right" 446), (.str "_law_right" 447), (.str "/claim/cut.py" 448), (.int 127 0), (.int 3 0), (.int 0 0), (.int 0 0), (.int 3 0), (.ref 209), (.bool true), (.int 181 0), (.ref 210), .none, (.ref 211), (.ref 212), (.ref 213), (.int 456 0), (.int 127 0), (.str "/claim/cut.py" 457)]) #[]
def o213 (P : Params) := Obj.mk (.type "function") .none (Data.func (fd "_law_right" "_law_right" (S 22) 3 [] .none .none .none (.str "law_beatless_k01_webs_told" 402) .none (.ref 214) .none 0)) #[]
def o214 (P : Params) := Obj.mk (.type "tuple") .none (Data.seq #[] 0) #[]
def o215 (P : Params) := Obj.mk .none .none (Data.fields #[]) #[]
def o216 (P : Params) := Obj.mk (.type "tuple") .none (Data.seq #[(.str "_law_script" 462), (.str "_law_hands" 463), (.str "_law_lines" 464), (.str "_law_handed" 465), (.str "_law_web_here" 466), (.str "_law_odd" 467)] 0) #[]
def o217 (P : Params) := Obj.mk (.type "tuple") .none (Data.seq #[] 0) #[]
def o218 (P : Params) := Obj.mk .none .none (Data.func (fd "law" "law" (S 23) 0 [] .none .none .none .none .none .none .none 0)) #[]
def o219 (P : Params) := Obj.mk (.type "code") .none (Data.fields #[(.str "law" 459), (.str "law" 460), (.str "/claim/cut.py" 461), (.int 144 0), (.int 1 0), (.int 0 0), (.int 0 0), (.int 3 0), (.ref 216), (.bool true), (.int 181 0), (.ref 217), .none, (.ref 218), (.ref 219), (.ref 220), (.int 468 0), (.int 144 0), (.str "/claim/cut.py" 469)]) #[]
def o220 (P : Params) := Obj.mk (.type "function") .none (Data.func (fd "law" "law" (S 23) 3 [] .none .none .none (.str "law_beatless_k01_webs_told" 402) .none (.ref 221) .none 0)) #[]
def t356 := BT.node (o205 P) .nil .nil
def t357 := BT.node (o73 P) (t167 P) (t356 P)
def t358 := BT.node (o41 P) (t357 P) (t170 P)
def t359 := BT.node (o6 P) (t166 P) (t358 P)
def t360 := BT.node (o197 P) .nil .nil
def t361 := BT.node (o65 P) (t173 P) (t360 P)
def t362 := BT.node (o30 P) (t361 P) (t176 P)
def t363 := BT.node (o213 P) .nil .nil
def t364 := BT.node (o81 P) (t178 P) (t363 P)
def t365 := BT.node (o49 P) (t364 P) (t181 P)
def t366 := BT.node (o14 P) (t362 P) (t365 P)
def t367 := BT.node (boot_o_7 P) (t359 P) (t366 P)
def t368 := BT.node (o193 P) .nil .nil
def t369 := BT.node (o61 P) (t185 P) (t368 P)
def t370 := BT.node (o26 P) (t369 P) (t188 P)
def t371 := BT.node (o209 P) .nil .nil
def t372 := BT.node (o77 P) (t190 P) (t371 P)
def t373 := BT.node (o45 P) (t372 P) (t193 P)
def t374 := BT.node (o10 P) (t370 P) (t373 P)
def t375 := BT.node (o201 P) .nil .nil
def t376 := BT.node (o69 P) (t196 P) (t375 P)
def t377 := BT.node (o34 P) (t376 P) (t199 P)
def t378 := BT.node (o217 P) .nil .nil
def t379 := BT.node (o85 P) (t201 P) (t378 P)
def t380 := BT.node (o53 P) (t379 P) (t204 P)
def t381 := BT.node (o18 P) (t377 P) (t380 P)
def t382 := BT.node (o0 P) (t374 P) (t381 P)
def t383 := BT.node (o191 P) (t367 P) (t382 P)
def t384 := BT.node (o207 P) .nil .nil
def t385 := BT.node (o75 P) (t215 P) (t384 P)
def t386 := BT.node (o43 P) (t385 P) (t218 P)
def t387 := BT.node (o8 P) (t214 P) (t386 P)
def t388 := BT.node (o199 P) .nil .nil
def t389 := BT.node (o67 P) (t221 P) (t388 P)
def t390 := BT.node (o32 P) (t389 P) (t224 P)
def t391 := BT.node (o215 P) .nil .nil
def t392 := BT.node (o83 P) (t226 P) (t391 P)
def t393 := BT.node (o51 P) (t392 P) (t229 P)
def t394 := BT.node (o16 P) (t390 P) (t393 P)
def t395 := BT.node (boot_o_9 P) (t387 P) (t394 P)
def t396 := BT.node (o195 P) .nil .nil
def t397 := BT.node (o63 P) (t233 P) (t396 P)
def t398 := BT.node (o28 P) (t397 P) (t236 P)
def t399 := BT.node (o211 P) .nil .nil
def t400 := BT.node (o79 P) (t238 P) (t399 P)
def t401 := BT.node (o47 P) (t400 P) (t241 P)
def t402 := BT.node (o12 P) (t398 P) (t401 P)
def t403 := BT.node (o203 P) .nil .nil
def t404 := BT.node (o71 P) (t244 P) (t403 P)
def t405 := BT.node (o36 P) (t404 P) (t247 P)
def t406 := BT.node (o219 P) .nil .nil
def t407 := BT.node (o87 P) (t249 P) (t406 P)
def t408 := BT.node (o55 P) (t407 P) (t252 P)
def t409 := BT.node (o20 P) (t405 P) (t408 P)
def t410 := BT.node (o2 P) (t402 P) (t409 P)
def t411 := BT.node (boot_o_5 P) (t395 P) (t410 P)
def t412 := BT.node (boot_o_1 P) (t383 P) (t411 P)
def t413 := BT.node (o206 P) .nil .nil
def t414 := BT.node (o74 P) (t264 P) (t413 P)
def t415 := BT.node (o42 P) (t414 P) (t267 P)
def t416 := BT.node (o7 P) (t263 P) (t415 P)
def t417 := BT.node (o198 P) .nil .nil
def t418 := BT.node (o66 P) (t270 P) (t417 P)
def t419 := BT.node (o31 P) (t418 P) (t273 P)
def t420 := BT.node (o214 P) .nil .nil
def t421 := BT.node (o82 P) (t275 P) (t420 P)
def t422 := BT.node (o50 P) (t421 P) (t278 P)
def t423 := BT.node (o15 P) (t419 P) (t422 P)
def t424 := BT.node (boot_o_8 P) (t416 P) (t423 P)
def t425 := BT.node (o194 P) .nil .nil
def t426 := BT.node (o62 P) (t282 P) (t425 P)
def t427 := BT.node (o27 P) (t426 P) (t285 P)
def t428 := BT.node (o210 P) .nil .nil
def t429 := BT.node (o78 P) (t287 P) (t428 P)
def t430 := BT.node (o46 P) (t429 P) (t290 P)
def t431 := BT.node (o11 P) (t427 P) (t430 P)
def t432 := BT.node (o202 P) .nil .nil
def t433 := BT.node (o70 P) (t293 P) (t432 P)
def t434 := BT.node (o35 P) (t433 P) (t296 P)
def t435 := BT.node (o218 P) .nil .nil
def t436 := BT.node (o86 P) (t298 P) (t435 P)
def t437 := BT.node (o54 P) (t436 P) (t301 P)
def t438 := BT.node (o19 P) (t434 P) (t437 P)
def t439 := BT.node (o192 P) (t431 P) (t438 P)
def t440 := BT.node (boot_o_4 P) (t424 P) (t439 P)
def t441 := BT.node (o208 P) .nil .nil
def t442 := BT.node (o76 P) (t312 P) (t441 P)
def t443 := BT.node (o44 P) (t442 P) (t315 P)
def t444 := BT.node (o9 P) (t311 P) (t443 P)
def t445 := BT.node (o200 P) .nil .nil
def t446 := BT.node (o68 P) (t318 P) (t445 P)
def t447 := BT.node (o33 P) (t446 P) (t321 P)
def t448 := BT.node (o216 P) .nil .nil
def t449 := BT.node (o84 P) (t323 P) (t448 P)
def t450 := BT.node (o52 P) (t449 P) (t326 P)
def t451 := BT.node (o17 P) (t447 P) (t450 P)
def t452 := BT.node (boot_o_10 P) (t444 P) (t451 P)
def t453 := BT.node (o196 P) .nil .nil
def t454 := BT.node (o64 P) (t330 P) (t453 P)
def t455 := BT.node (o29 P) (t454 P) (t333 P)
def t456 := BT.node (o212 P) .nil .nil
def t457 := BT.node (o80 P) (t335 P) (t456 P)
def t458 := BT.node (o48 P) (t457 P) (t338 P)
def t459 := BT.node (o13 P) (t455 P) (t458 P)
def t460 := BT.node (o204 P) .nil .nil
def t461 := BT.node (o72 P) (t341 P) (t460 P)
def t462 := BT.node (o37 P) (t461 P) (t344 P)
def t463 := BT.node (o220 P) .nil .nil
def t464 := BT.node (o88 P) (t346 P) (t463 P)
def t465 := BT.node (o56 P) (t464 P) (t349 P)
def t466 := BT.node (o21 P) (t462 P) (t465 P)
def t467 := BT.node (o3 P) (t459 P) (t466 P)
def t468 := BT.node (boot_o_6 P) (t452 P) (t467 P)
def t469 := BT.node (boot_o_2 P) (t440 P) (t468 P)
def t470 := BT.node (boot_o_0 P) (t412 P) (t469 P)
def sb4 (w : World) (os : OsState) : SharedT := ⟨(t470 w.params), 223, (Life.mk [] [] [] 0 [] [] false #[] [] 0 false false false 0 [2000, 10, 10] false 0 true [] [] 0 false), ⟨[]⟩, (Drawn.mk 0 0 0 0), 471, os⟩
def L3 (w : World) (os : OsState) : Option (Flow × SharedT × Code × Pos) := segRunT treeTable PySem.Challenge.pw_beatless_k01_webs_told w 11 an 1 131 (sb3 w os) (piecesOf sts3 env cE (Pos.mk 102 0 118 72) B)
def R3 (w : World) (os : OsState) : Option (Flow × SharedT × Code × Pos) := some (.next, sb4 w os, cE, (Pos.mk 144 0 162 60))
theorem q3 : tt (Hd.L3, Hd.R3) = true := by k_qdec
theorem r3 : ∀ w, Fast.tw6196771281854559479 w = Fast.tw4539841377621278456 w := fun w => by kernel_rfl
theorem e3 (w : World) (os : OsState) : Hd.L3 w os = Hd.R3 w os :=
  (congrFun (congrFun Fast.te6196771281854559479 w) os).trans ((congrFun (r3 w) os).trans (congrFun (congrFun Fast.te4539841377621278456 w) os).symm)
def h18 : List Obj := o214 P :: o215 P :: o216 P :: o217 P :: o218 P :: o219 P :: o220 P :: []
def h17 : List Obj := o202 P :: o203 P :: o204 P :: o205 P :: o206 P :: o207 P :: o208 P :: o209 P :: o210 P :: o211 P :: o212 P :: o213 P :: h18 P
def h16 : List Obj := o188 P :: o189 P :: o190 P :: o193 P :: o194 P :: o195 P :: o196 P :: o197 P :: o198 P :: o199 P :: o200 P :: o201 P :: h17 P
def h15 : List Obj := o176 P :: o177 P :: o178 P :: o179 P :: o180 P :: o181 P :: o182 P :: o183 P :: o184 P :: o185 P :: o186 P :: o187 P :: h16 P
def h14 : List Obj := o164 P :: o165 P :: o166 P :: o167 P :: o168 P :: o169 P :: o170 P :: o171 P :: o172 P :: o173 P :: o174 P :: o175 P :: h15 P
def h13 : List Obj := o152 P :: o153 P :: o154 P :: o155 P :: o156 P :: o157 P :: o158 P :: o159 P :: o160 P :: o161 P :: o162 P :: o163 P :: h14 P
def h12 : List Obj := o140 P :: o141 P :: o142 P :: o143 P :: o144 P :: o145 P :: o146 P :: o147 P :: o148 P :: o149 P :: o150 P :: o151 P :: h13 P
def h11 : List Obj := o128 P :: o129 P :: o130 P :: o131 P :: o132 P :: o133 P :: o134 P :: o135 P :: o136 P :: o137 P :: o138 P :: o139 P :: h12 P
def h10 : List Obj := o116 P :: o117 P :: o118 P :: o119 P :: o120 P :: o121 P :: o122 P :: o123 P :: o124 P :: o125 P :: o126 P :: o127 P :: h11 P
def h9 : List Obj := o104 P :: o105 P :: o106 P :: o107 P :: o108 P :: o109 P :: o110 P :: o111 P :: o112 P :: o113 P :: o114 P :: o115 P :: h10 P
def h8 : List Obj := o90 P :: o91 P :: o92 P :: o95 P :: o96 P :: o97 P :: o98 P :: o99 P :: o100 P :: o101 P :: o102 P :: o103 P :: h9 P
def h7 : List Obj := o78 P :: o79 P :: o80 P :: o81 P :: o82 P :: o83 P :: o84 P :: o85 P :: o86 P :: o87 P :: o88 P :: o89 P :: h8 P
def h6 : List Obj := o66 P :: o67 P :: o68 P :: o69 P :: o70 P :: o71 P :: o72 P :: o73 P :: o74 P :: o75 P :: o76 P :: o77 P :: h7 P
def h5 : List Obj := o54 P :: o55 P :: o56 P :: o57 P :: o58 P :: o59 P :: o60 P :: o61 P :: o62 P :: o63 P :: o64 P :: o65 P :: h6 P
def h4 : List Obj := o42 P :: o43 P :: o44 P :: o45 P :: o46 P :: o47 P :: o48 P :: o49 P :: o50 P :: o51 P :: o52 P :: o53 P :: h5 P
def h3 : List Obj := o27 P :: o28 P :: o29 P :: o30 P :: o31 P :: o32 P :: o33 P :: o34 P :: o35 P :: o36 P :: o37 P :: o41 P :: h4 P
def h2 : List Obj := o15 P :: o16 P :: o17 P :: o18 P :: o19 P :: o20 P :: o21 P :: o40 P :: o23 P :: o24 P :: o25 P :: o26 P :: h3 P
def h1 : List Obj := o192 P :: o2 P :: o3 P :: o6 P :: o7 P :: o8 P :: o9 P :: o10 P :: o11 P :: o12 P :: o13 P :: o14 P :: h2 P
def h0 : List Obj := boot_o_0 P :: boot_o_1 P :: boot_o_2 P :: o191 P :: boot_o_4 P :: boot_o_5 P :: boot_o_6 P :: boot_o_7 P :: boot_o_8 P :: boot_o_9 P :: boot_o_10 P :: o0 P :: h1 P
def H1 : Heap := ⟨⟨h0 P⟩, (Life.mk [] [] [] 0 [] [] false #[] [] 0 false false false 0 [2000, 10, 10] false 0 true [] [] 0 false)⟩
def sf (w : World) (os : OsState) : Shared := ⟨H1 w.params, ⟨[]⟩, (Drawn.mk 0 0 0 0), 471, os⟩
def Lf (w : World) (os : OsState) : Option Shared := topRun treeTable PySem.Challenge.pw_beatless_k01_webs_told w 11 an 2 (sb4 w os).abs ⟨doneF .next, cE, (Pos.mk 144 0 162 60), B⟩
def Rf (w : World) (os : OsState) : Option Shared := some (sf w os)
theorem qf : tt (Hd.Lf, Hd.Rf) = true := by k_qdec
theorem rf : ∀ w, Fast.tw2640074843757178226 w = Fast.tw15533242664859900563 w := fun w => by kernel_rfl
theorem ef (w : World) (os : OsState) : Hd.Lf w os = Hd.Rf w os :=
  (congrFun (congrFun Fast.te2640074843757178226 w) os).trans ((congrFun (rf w) os).trans (congrFun (congrFun Fast.te15533242664859900563 w) os).symm)
theorem cut : bE = sts0 ++ (sts1 ++ (sts2 ++ (sts3 ++ ([])))) := by kernel_rfl
theorem run (w : World) (os : OsState) : topRun treeTable PySem.Challenge.pw_beatless_k01_webs_told w 11 an (12 + (1 + (438 + (585 + (580 + (131 + 2)))))) (s0 w os) (topStub PySem.Challenge.pw_beatless_k01_webs_told) = some (sf w os) := by
  refine go_top (ea w os) (piece_block (q := qE) (env := env) (b := bE) (segRun_of (eb w os)) ?_)
  rw [show restOf bE env cE (Pos.mk 0 0 0 0) [topFrame qE] = restOf _ env cE _ [topFrame qE] from congrArg (fun l => restOf l env cE (Pos.mk 0 0 0 0) [topFrame qE]) cut]
  refine piece_app (segRun_of (e0 w os)) ?_
  refine piece_app (segRun_of (e1 w os)) ?_
  refine piece_app (segRun_of (e2 w os)) ?_
  refine piece_app (segRun_of (e3 w os)) ?_
  exact ef w os
def M : Nat := 12 + (1 + (438 + (585 + (580 + (131 + 2)))))
abbrev rW : RowW := (PySem.Challenge.rw_beatless_k01_webs_told.row).toRowW
def Q : Program := { PySem.Challenge.pw_beatless_k01_webs_told with main := { PySem.Challenge.pw_beatless_k01_webs_told.main with body := [S 0, S 2, S 3, S 4, S 5, S 7, S 9, S 10, S 11, S 12, S 13, S 14, S 15, S 17, S 18, S 19, S 20, S 21, S 22, S 23] } }
def Xt (s : Shared) : Bool := xlAt Q [] s && recOk (RowW.records rW) s
def K : Frag := (nat_lit 2, boot_o_2 P) :: (nat_lit 3, o191 P) :: (nat_lit 15, o6 P) :: (nat_lit 17, o8 P) :: (nat_lit 18, o9 P) :: (nat_lit 20, o11 P) :: (nat_lit 21, o12 P) :: (nat_lit 22, o13 P) :: (nat_lit 29, o20 P) :: (nat_lit 30, o21 P) :: (nat_lit 31, o40 P) :: (nat_lit 32, o23 P) :: (nat_lit 35, o26 P) :: (nat_lit 42, o33 P) :: (nat_lit 43, o34 P) :: (nat_lit 44, o35 P) :: (nat_lit 47, o41 P) :: (nat_lit 54, o48 P) :: (nat_lit 55, o49 P) :: (nat_lit 56, o50 P) :: (nat_lit 59, o53 P) :: (nat_lit 66, o60 P) :: (nat_lit 67, o61 P) :: (nat_lit 68, o62 P) :: (nat_lit 71, o65 P) :: (nat_lit 73, o67 P) :: (nat_lit 74, o68 P) :: (nat_lit 76, o70 P) :: (nat_lit 77, o71 P) :: (nat_lit 78, o72 P) :: (nat_lit 80, o74 P) :: (nat_lit 81, o75 P) :: (nat_lit 83, o77 P) :: (nat_lit 84, o78 P) :: (nat_lit 85, o79 P) :: (nat_lit 87, o81 P) :: (nat_lit 88, o82 P) :: (nat_lit 90, o84 P) :: (nat_lit 91, o85 P) :: (nat_lit 92, o86 P) :: (nat_lit 94, o88 P) :: (nat_lit 95, o89 P) :: (nat_lit 97, o91 P) :: (nat_lit 98, o92 P) :: (nat_lit 99, o95 P) :: (nat_lit 101, o97 P) :: (nat_lit 102, o98 P) :: (nat_lit 104, o100 P) :: (nat_lit 105, o101 P) :: (nat_lit 113, o109 P) :: (nat_lit 115, o111 P) :: (nat_lit 116, o112 P) :: (nat_lit 118, o114 P) :: (nat_lit 119, o115 P) :: (nat_lit 120, o116 P) :: (nat_lit 122, o118 P) :: (nat_lit 123, o119 P) :: (nat_lit 125, o121 P) :: (nat_lit 126, o122 P) :: (nat_lit 127, o123 P) :: (nat_lit 129, o125 P) :: (nat_lit 130, o126 P) :: (nat_lit 132, o128 P) :: (nat_lit 133, o129 P) :: (nat_lit 134, o130 P) :: (nat_lit 136, o132 P) :: (nat_lit 137, o133 P) :: (nat_lit 139, o135 P) :: (nat_lit 140, o136 P) :: (nat_lit 141, o137 P) :: (nat_lit 143, o139 P) :: (nat_lit 144, o140 P) :: (nat_lit 146, o142 P) :: (nat_lit 147, o143 P) :: (nat_lit 148, o144 P) :: (nat_lit 150, o146 P) :: (nat_lit 151, o147 P) :: (nat_lit 153, o149 P) :: (nat_lit 154, o150 P) :: (nat_lit 155, o151 P) :: (nat_lit 157, o153 P) :: (nat_lit 158, o154 P) :: (nat_lit 160, o156 P) :: (nat_lit 161, o157 P) :: (nat_lit 162, o158 P) :: (nat_lit 164, o160 P) :: (nat_lit 165, o161 P) :: (nat_lit 167, o163 P) :: (nat_lit 168, o164 P) :: (nat_lit 169, o165 P) :: (nat_lit 170, o166 P) :: (nat_lit 171, o167 P) :: (nat_lit 172, o168 P) :: (nat_lit 173, o169 P) :: (nat_lit 176, o172 P) :: (nat_lit 178, o174 P) :: (nat_lit 179, o175 P) :: (nat_lit 181, o177 P) :: (nat_lit 182, o178 P) :: (nat_lit 183, o179 P) :: (nat_lit 185, o181 P) :: (nat_lit 186, o182 P) :: (nat_lit 188, o184 P) :: (nat_lit 189, o185 P) :: (nat_lit 190, o186 P) :: (nat_lit 193, o189 P) :: (nat_lit 194, o190 P) :: (nat_lit 195, o193 P) :: (nat_lit 197, o195 P) :: (nat_lit 198, o196 P) :: (nat_lit 200, o198 P) :: (nat_lit 201, o199 P) :: (nat_lit 202, o200 P) :: (nat_lit 204, o202 P) :: (nat_lit 205, o203 P) :: (nat_lit 207, o205 P) :: (nat_lit 208, o206 P) :: (nat_lit 209, o207 P) :: (nat_lit 211, o209 P) :: (nat_lit 212, o210 P) :: (nat_lit 214, o212 P) :: (nat_lit 215, o213 P) :: (nat_lit 216, o214 P) :: (nat_lit 218, o216 P) :: (nat_lit 219, o217 P) :: (nat_lit 221, o219 P) :: (nat_lit 222, o220 P) :: []
def as : List Addr := [2, 3, 15, 17, 18, 20, 21, 22, 29, 30, 31, 32, 35, 42, 43, 44, 47, 54, 55, 56, 59, 66, 67, 68, 71, 73, 74, 76, 77, 78, 80, 81, 83, 84, 85, 87, 88, 90, 91, 92, 94, 95, 97, 98, 99, 101, 102, 104, 105, 113, 115, 116, 118, 119, 120, 122, 123, 125, 126, 127, 129, 130, 132, 133, 134, 136, 137, 139, 140, 141, 143, 144, 146, 147, 148, 150, 151, 153, 154, 155, 157, 158, 160, 161, 162, 164, 165, 167, 168, 169, 170, 171, 172, 173, 176, 178, 179, 181, 182, 183, 185, 186, 188, 189, 190, 193, 194, 195, 197, 198, 200, 201, 202, 204, 205, 207, 208, 209, 211, 212, 214, 215, 216, 218, 219, 221, 222]
def y10 : List (Option Obj) := some (o212 P) :: some (o213 P) :: some (o214 P) :: some (o216 P) :: some (o217 P) :: some (o219 P) :: some (o220 P) :: []
def y9 : List (Option Obj) := some (o195 P) :: some (o196 P) :: some (o198 P) :: some (o199 P) :: some (o200 P) :: some (o202 P) :: some (o203 P) :: some (o205 P) :: some (o206 P) :: some (o207 P) :: some (o209 P) :: some (o210 P) :: y10 P
def y8 : List (Option Obj) := some (o175 P) :: some (o177 P) :: some (o178 P) :: some (o179 P) :: some (o181 P) :: some (o182 P) :: some (o184 P) :: some (o185 P) :: some (o186 P) :: some (o189 P) :: some (o190 P) :: some (o193 P) :: y9 P
def y7 : List (Option Obj) := some (o158 P) :: some (o160 P) :: some (o161 P) :: some (o163 P) :: some (o164 P) :: some (o165 P) :: some (o166 P) :: some (o167 P) :: some (o168 P) :: some (o169 P) :: some (o172 P) :: some (o174 P) :: y8 P
def y6 : List (Option Obj) := some (o142 P) :: some (o143 P) :: some (o144 P) :: some (o146 P) :: some (o147 P) :: some (o149 P) :: some (o150 P) :: some (o151 P) :: some (o153 P) :: some (o154 P) :: some (o156 P) :: some (o157 P) :: y7 P
def y5 : List (Option Obj) := some (o125 P) :: some (o126 P) :: some (o128 P) :: some (o129 P) :: some (o130 P) :: some (o132 P) :: some (o133 P) :: some (o135 P) :: some (o136 P) :: some (o137 P) :: some (o139 P) :: some (o140 P) :: y6 P
def y4 : List (Option Obj) := some (o101 P) :: some (o109 P) :: some (o111 P) :: some (o112 P) :: some (o114 P) :: some (o115 P) :: some (o116 P) :: some (o118 P) :: some (o119 P) :: some (o121 P) :: some (o122 P) :: some (o123 P) :: y5 P
def y3 : List (Option Obj) := some (o82 P) :: some (o84 P) :: some (o85 P) :: some (o86 P) :: some (o88 P) :: some (o89 P) :: some (o91 P) :: some (o92 P) :: some (o95 P) :: some (o97 P) :: some (o98 P) :: some (o100 P) :: y4 P
def y2 : List (Option Obj) := some (o65 P) :: some (o67 P) :: some (o68 P) :: some (o70 P) :: some (o71 P) :: some (o72 P) :: some (o74 P) :: some (o75 P) :: some (o77 P) :: some (o78 P) :: some (o79 P) :: some (o81 P) :: y3 P
def y1 : List (Option Obj) := some (o26 P) :: some (o33 P) :: some (o34 P) :: some (o35 P) :: some (o41 P) :: some (o48 P) :: some (o49 P) :: some (o50 P) :: some (o53 P) :: some (o60 P) :: some (o61 P) :: some (o62 P) :: y2 P
def y0 : List (Option Obj) := some (boot_o_2 P) :: some (o191 P) :: some (o6 P) :: some (o8 P) :: some (o9 P) :: some (o11 P) :: some (o12 P) :: some (o13 P) :: some (o20 P) :: some (o21 P) :: some (o40 P) :: some (o23 P) :: y1 P
theorem asK (P : Params) : as = (K P).map (·.1) := by kernel_rfl
theorem yK (P : Params) : (K P).map (fun p => some p.2) = y0 P := by kernel_rfl
def Ly (w : World) (os : OsState) : List (Option Obj) := as.map (sf w os).heap.get?
def Ry (w : World) (_ : OsState) : List (Option Obj) := y0 w.params
theorem qy : tt (Hd.Ly, Hd.Ry) = true := by k_qdec
theorem ry : ∀ w, Fast.tw691215026958702249 w = Fast.tw5434166109932796141 w := fun w => by kernel_rfl
theorem ey (w : World) (os : OsState) : Hd.Ly w os = Hd.Ry w os :=
  (congrFun (congrFun Fast.te691215026958702249 w) os).trans ((congrFun (ry w) os).trans (congrFun (congrFun Fast.te5434166109932796141 w) os).symm)
abbrev hk : Hook := kHook K as asK
abbrev mods : List Str := importedModules PySem.Challenge.pw_beatless_k01_webs_told.main.body
def A (w : World) (os : OsState) := openSeen Q [] mods Xt true (sf w os)
def G (_ : World) (_ : OsState) := openGood Q []
def A0 (w : World) (os : OsState) := (A w os).1
def G0 (w : World) (os : OsState) := (G w os).1
theorem qA0 : tt (Hd.A0, Hd.G0) = true := by k_qdec
theorem rA0 : ∀ w, Fast.tw6131166808449026830 w = Fast.tw11727352099349840545 w := fun w => by kernel_rfl
theorem eA0 (w : World) (os : OsState) : Hd.A0 w os = Hd.G0 w os :=
  (congrFun (congrFun Fast.te6131166808449026830 w) os).trans ((congrFun (rA0 w) os).trans (congrFun (congrFun Fast.te11727352099349840545 w) os).symm)
def A1 (w : World) (os : OsState) := (A w os).2.1
def G1 (w : World) (os : OsState) := (G w os).2.1
theorem qA1 : tt (Hd.A1, Hd.G1) = true := by k_qdec
theorem rA1 : ∀ w, Fast.tw7581016493306269660 w = Fast.tw14656944741971684193 w := fun w => by kernel_rfl
theorem eA1 (w : World) (os : OsState) : Hd.A1 w os = Hd.G1 w os :=
  (congrFun (congrFun Fast.te7581016493306269660 w) os).trans ((congrFun (rA1 w) os).trans (congrFun (congrFun Fast.te14656944741971684193 w) os).symm)
def A2 (w : World) (os : OsState) := (A w os).2.2.1
def G2 (w : World) (os : OsState) := (G w os).2.2.1
theorem qA2 : tt (Hd.A2, Hd.G2) = true := by k_qdec
theorem rA2 : ∀ w, Fast.tw2900191123710467766 w = Fast.tw10880070632800087129 w := fun w => by kernel_rfl
theorem eA2 (w : World) (os : OsState) : Hd.A2 w os = Hd.G2 w os :=
  (congrFun (congrFun Fast.te2900191123710467766 w) os).trans ((congrFun (rA2 w) os).trans (congrFun (congrFun Fast.te10880070632800087129 w) os).symm)
def A3 (w : World) (os : OsState) := (A w os).2.2.2.1
def G3 (w : World) (os : OsState) := (G w os).2.2.2.1
theorem qA3 : tt (Hd.A3, Hd.G3) = true := by k_qdec
theorem rA3 : ∀ w, Fast.tw447134267514248570 w = Fast.tw4145583888436359099 w := fun w => by kernel_rfl
theorem eA3 (w : World) (os : OsState) : Hd.A3 w os = Hd.G3 w os :=
  (congrFun (congrFun Fast.te447134267514248570 w) os).trans ((congrFun (rA3 w) os).trans (congrFun (congrFun Fast.te4145583888436359099 w) os).symm)
def A4 (w : World) (os : OsState) := (A w os).2.2.2.2.1
def G4 (w : World) (os : OsState) := (G w os).2.2.2.2.1
theorem qA4 : tt (Hd.A4, Hd.G4) = true := by k_qdec
theorem rA4 : ∀ w, Fast.tw14409291123802741499 w = Fast.tw6531939937263253831 w := fun w => by kernel_rfl
theorem eA4 (w : World) (os : OsState) : Hd.A4 w os = Hd.G4 w os :=
  (congrFun (congrFun Fast.te14409291123802741499 w) os).trans ((congrFun (rA4 w) os).trans (congrFun (congrFun Fast.te6531939937263253831 w) os).symm)
def A5 (w : World) (os : OsState) := (A w os).2.2.2.2.2.1
def G5 (w : World) (os : OsState) := (G w os).2.2.2.2.2.1
theorem qA5 : tt (Hd.A5, Hd.G5) = true := by k_qdec
theorem rA5 : ∀ w, Fast.tw7163156141784225904 w = Fast.tw5989712690265804088 w := fun w => by kernel_rfl
theorem eA5 (w : World) (os : OsState) : Hd.A5 w os = Hd.G5 w os :=
  (congrFun (congrFun Fast.te7163156141784225904 w) os).trans ((congrFun (rA5 w) os).trans (congrFun (congrFun Fast.te5989712690265804088 w) os).symm)
def A6 (w : World) (os : OsState) := (A w os).2.2.2.2.2.2.1
def G6 (w : World) (os : OsState) := (G w os).2.2.2.2.2.2.1
theorem qA6 : tt (Hd.A6, Hd.G6) = true := by k_qdec
theorem rA6 : ∀ w, Fast.tw148487786646926683 w = Fast.tw12956129408465502666 w := fun w => by kernel_rfl
theorem eA6 (w : World) (os : OsState) : Hd.A6 w os = Hd.G6 w os :=
  (congrFun (congrFun Fast.te148487786646926683 w) os).trans ((congrFun (rA6 w) os).trans (congrFun (congrFun Fast.te12956129408465502666 w) os).symm)
def A7 (w : World) (os : OsState) := (A w os).2.2.2.2.2.2.2.1
def G7 (w : World) (os : OsState) := (G w os).2.2.2.2.2.2.2.1
theorem qA7 : tt (Hd.A7, Hd.G7) = true := by k_qdec
theorem rA7 : ∀ w, Fast.tw17782257788342479682 w = Fast.tw9566738594451217396 w := fun w => by kernel_rfl
theorem eA7 (w : World) (os : OsState) : Hd.A7 w os = Hd.G7 w os :=
  (congrFun (congrFun Fast.te17782257788342479682 w) os).trans ((congrFun (rA7 w) os).trans (congrFun (congrFun Fast.te9566738594451217396 w) os).symm)
def A8 (w : World) (os : OsState) := (A w os).2.2.2.2.2.2.2.2
def G8 (w : World) (os : OsState) := (G w os).2.2.2.2.2.2.2.2
theorem qA8 : tt (Hd.A8, Hd.G8) = true := by k_qdec
theorem rA8 : ∀ w, Fast.tw8885869309975874061 w = Fast.tw17952483438457428275 w := fun w => by kernel_rfl
theorem eA8 (w : World) (os : OsState) : Hd.A8 w os = Hd.G8 w os :=
  (congrFun (congrFun Fast.te8885869309975874061 w) os).trans ((congrFun (rA8 w) os).trans (congrFun (congrFun Fast.te17952483438457428275 w) os).symm)
def Ls (w : World) (os : OsState) : Bool := staticsOk mods (boot_heap w.params) (H1 w.params) && namesBound PySem.Challenge.pw_beatless_k01_webs_told (H1 w.params) && gensDone (sf w os) && laidKept (boot_heap w.params) (H1 w.params)
def Rs (_ : World) (_ : OsState) : Bool := true
def Lz (w : World) (_ : OsState) := ((boot_heap w.params).isNs mainGlobals && (⟨[]⟩ : Array GenState).size == 0, (boot_heap w.params).objs.size, (boot_heap w.params).nsMap mainGlobals "__annotations__")
def Rz (_ : World) (_ : OsState) : Bool × Nat × Option Value := (true, 11, an)
theorem qs : tt Hd.Ls = true := by k_qdec
theorem rs : ∀ w, Fast.tw4959303863618478765 w = Hd.Rs w := fun w => by kernel_rfl
theorem es (w : World) (os : OsState) : Hd.Ls w os = Hd.Rs w os := (congrFun (congrFun Fast.te4959303863618478765 w) os).trans (congrFun (rs w) os)
theorem qz : tt Hd.Lz = true := by k_qdec
theorem rz : ∀ w, Fast.tw17831390912981975158 w = Hd.Rz w := fun w => by kernel_rfl
theorem ez (w : World) (os : OsState) : Hd.Lz w os = Hd.Rz w os := (congrFun (congrFun Fast.te17831390912981975158 w) os).trans (congrFun (rz w) os)
theorem op : opening PySem.Challenge.pw_beatless_k01_webs_told = plainProg PySem.Challenge.pw_beatless_k01_webs_told.main.scope.names := by kernel_rfl
theorem fe (s : Shared) : fenceModules? PySem.Challenge.pw_beatless_k01_webs_told s = some s := by kernel_rfl
theorem left : LeftO PySem.Challenge.pw_beatless_k01_webs_told Q [] Xt hk.obs hk.val 3586 :=
  LeftO.of_pieces (M := M) (m₀ := 11) (ann := an) (H₀ := boot_heap) (H₁ := H1) (boot_open op (by kernel_rfl) fe) (fun w => ez w (start PySem.Challenge.pw_beatless_k01_webs_told).1.os) run (by kernel_rfl) (fun w => funext fun os => looks_pair (es w os) (looks_pair
    (Prod.ext (eA0 w os) (Prod.ext (eA1 w os) (Prod.ext (eA2 w os) (Prod.ext (eA3 w os) (Prod.ext (eA4 w os) (Prod.ext (eA5 w os) (Prod.ext (eA6 w os) (Prod.ext (eA7 w os) (eA8 w os)))))))))
    ((ey w os).trans (yK w.params).symm)))
theorem both {a b : Bool} (z : (a && b) = true) : a = true ∧ b = true := Bool.and_eq_true_iff.mp z
end Hd
end

/-! K01z -/
set_option Elab.async false
set_option linter.all false
set_option maxRecDepth 100000
set_option maxHeartbeats 4000000
namespace K04
open PySem L2
abbrev fS (n q : Str) (s : Stmt) (k d p : Value) (a : Option Addr) (c t : Value) : FuncData := PySem.W.fnOf n q (defArgs s) (defBody s) (defScope s) .none k d p a c t
open PySem.W (nsIn findIn isFn codeIn keepIn plainGet hasDictIn plainOver makesIn mroIn specialIn takesIn kitOne mg_of mg_none_of excIn)
theorem txt_mk {K : PySem.W.Frag} {h : Heap} {mg : Str → Option Value} (X : K.In h) (G : h.Ns mainGlobals mg)
    {f_is_whole : Addr} {od0 an0 : Option Addr} {sl0 : Array (Option Value)} {oc0 kV0 dc0 pm0 cd0 ct0 : Value} {f_are_hands : Addr} {od1 an1 : Option Addr} {sl1 : Array (Option Value)} {oc1 kV1 dc1 pm1 cd1 ct1 : Value} {f_is_line : Addr} {od2 an2 : Option Addr} {sl2 : Array (Option Value)} {oc2 kV2 dc2 pm2 cd2 ct2 : Value} {f_are_lines : Addr} {od3 an3 : Option Addr} {sl3 : Array (Option Value)} {oc3 kV3 dc3 pm3 cd3 ct3 : Value} {f_near_by_hand : Addr} {od4 an4 : Option Addr} {sl4 : Array (Option Value)} {oc4 kV4 dc4 pm4 cd4 ct4 : Value} {f__law_cell_at : Addr} {od5 an5 : Option Addr} {sl5 : Array (Option Value)} {oc5 kV5 dc5 pm5 cd5 ct5 : Value} {f__law_digit : Addr} {od6 an6 : Option Addr} {sl6 : Array (Option Value)} {oc6 kV6 dc6 pm6 cd6 ct6 : Value} {f__law_web : Addr} {od7 an7 : Option Addr} {sl7 : Array (Option Value)} {oc7 kV7 dc7 pm7 cd7 ct7 : Value} {f__law_is : Addr} {od8 an8 : Option Addr} {sl8 : Array (Option Value)} {oc8 kV8 dc8 pm8 cd8 ct8 : Value} {f__law_refused : Addr} {od9 an9 : Option Addr} {sl9 : Array (Option Value)} {oc9 kV9 dc9 pm9 cd9 ct9 : Value} {f__law_right : Addr} {od10 an10 : Option Addr} {sl10 : Array (Option Value)} {oc10 kV10 dc10 pm10 cd10 ct10 : Value} {f_law : Addr} {od11 an11 : Option Addr} {sl11 : Array (Option Value)} {oc11 kV11 dc11 pm11 cd11 ct11 : Value} {f_Web___init__ : Addr} {od12 an12 : Option Addr} {sl12 : Array (Option Value)} {oc12 kV12 dc12 pm12 cd12 ct12 : Value} {f_Web_hands : Addr} {od13 an13 : Option Addr} {sl13 : Array (Option Value)} {oc13 kV13 dc13 pm13 cd13 ct13 : Value} {f_Web_lines : Addr} {od14 an14 : Option Addr} {sl14 : Array (Option Value)} {oc14 kV14 dc14 pm14 cd14 ct14 : Value} {f_Web_has_hand : Addr} {od15 an15 : Option Addr} {sl15 : Array (Option Value)} {oc15 kV15 dc15 pm15 cd15 ct15 : Value} {f_Web_has_line : Addr} {od16 an16 : Option Addr} {sl16 : Array (Option Value)} {oc16 kV16 dc16 pm16 cd16 ct16 : Value} {f_Web_neighbours : Addr} {od17 an17 : Option Addr} {sl17 : Array (Option Value)} {oc17 kV17 dc17 pm17 cd17 ct17 : Value} {c_Web : Addr} {c_NoHand : Addr} {c_NoWeb : Addr} {c_NoLine : Addr} {t_MOST_HANDS : Tok} {t_LAST_HAND : Tok}
    (z_len : nsIn K mainGlobals "len" = some none)
    (z_int : nsIn K mainGlobals "int" = some none)
    (z_min : nsIn K mainGlobals "min" = some none)
    (z_range : nsIn K mainGlobals "range" = some none)
    (z_isinstance : nsIn K mainGlobals "isinstance" = some none)
    (z_list : nsIn K mainGlobals "list" = some none)
    (z_sorted : nsIn K mainGlobals "sorted" = some none)
    (z_bool : nsIn K mainGlobals "bool" = some none)
    (z_tuple : nsIn K mainGlobals "tuple" = some none)
    (z_ValueError : nsIn K mainGlobals "ValueError" = some none)
    (A_Web : nsIn K mainGlobals "Web" = some (some (.ref c_Web)))
    (a_0 : nsIn K mainGlobals "is_whole" = some (some (.ref f_is_whole)))
    (l_0 : K.lookup f_is_whole = some ⟨oc0, od0, .func (fS "is_whole" "is_whole" st_is_whole kV0 dc0 pm0 an0 cd0 ct0), sl0⟩)
    (cc_0 : codeIn K cd0 "is_whole" = true)
    (kk_0 : keepIn K (.ref f_is_whole) = true)
    (a_1 : nsIn K mainGlobals "are_hands" = some (some (.ref f_are_hands)))
    (l_1 : K.lookup f_are_hands = some ⟨oc1, od1, .func (fS "are_hands" "are_hands" st_are_hands kV1 dc1 pm1 an1 cd1 ct1), sl1⟩)
    (cc_1 : codeIn K cd1 "are_hands" = true)
    (kk_1 : keepIn K (.ref f_are_hands) = true)
    (a_2 : nsIn K mainGlobals "is_line" = some (some (.ref f_is_line)))
    (l_2 : K.lookup f_is_line = some ⟨oc2, od2, .func (fS "is_line" "is_line" st_is_line kV2 dc2 pm2 an2 cd2 ct2), sl2⟩)
    (cc_2 : codeIn K cd2 "is_line" = true)
    (kk_2 : keepIn K (.ref f_is_line) = true)
    (a_3 : nsIn K mainGlobals "are_lines" = some (some (.ref f_are_lines)))
    (l_3 : K.lookup f_are_lines = some ⟨oc3, od3, .func (fS "are_lines" "are_lines" st_are_lines kV3 dc3 pm3 an3 cd3 ct3), sl3⟩)
    (cc_3 : codeIn K cd3 "are_lines" = true)
    (kk_3 : keepIn K (.ref f_are_lines) = true)
    (a_4 : nsIn K mainGlobals "near_by_hand" = some (some (.ref f_near_by_hand)))
    (l_4 : K.lookup f_near_by_hand = some ⟨oc4, od4, .func (fS "near_by_hand" "near_by_hand" st_near_by_hand kV4 dc4 pm4 an4 cd4 ct4), sl4⟩)
    (cc_4 : codeIn K cd4 "near_by_hand" = true)
    (kk_4 : keepIn K (.ref f_near_by_hand) = true)
    (a_5 : nsIn K mainGlobals "_law_cell_at" = some (some (.ref f__law_cell_at)))
    (l_5 : K.lookup f__law_cell_at = some ⟨oc5, od5, .func (fS "_law_cell_at" "_law_cell_at" st__law_cell_at kV5 dc5 pm5 an5 cd5 ct5), sl5⟩)
    (cc_5 : codeIn K cd5 "_law_cell_at" = true)
    (kk_5 : keepIn K (.ref f__law_cell_at) = true)
    (a_6 : nsIn K mainGlobals "_law_digit" = some (some (.ref f__law_digit)))
    (l_6 : K.lookup f__law_digit = some ⟨oc6, od6, .func (fS "_law_digit" "_law_digit" st__law_digit kV6 dc6 pm6 an6 cd6 ct6), sl6⟩)
    (cc_6 : codeIn K cd6 "_law_digit" = true)
    (kk_6 : keepIn K (.ref f__law_digit) = true)
    (a_7 : nsIn K mainGlobals "_law_web" = some (some (.ref f__law_web)))
    (l_7 : K.lookup f__law_web = some ⟨oc7, od7, .func (fS "_law_web" "_law_web" st__law_web kV7 dc7 pm7 an7 cd7 ct7), sl7⟩)
    (cc_7 : codeIn K cd7 "_law_web" = true)
    (kk_7 : keepIn K (.ref f__law_web) = true)
    (a_8 : nsIn K mainGlobals "_law_is" = some (some (.ref f__law_is)))
    (l_8 : K.lookup f__law_is = some ⟨oc8, od8, .func (fS "_law_is" "_law_is" st__law_is kV8 dc8 pm8 an8 cd8 ct8), sl8⟩)
    (cc_8 : codeIn K cd8 "_law_is" = true)
    (kk_8 : keepIn K (.ref f__law_is) = true)
    (a_9 : nsIn K mainGlobals "_law_refused" = some (some (.ref f__law_refused)))
    (l_9 : K.lookup f__law_refused = some ⟨oc9, od9, .func (fS "_law_refused" "_law_refused" st__law_refused kV9 dc9 pm9 an9 cd9 ct9), sl9⟩)
    (cc_9 : codeIn K cd9 "_law_refused" = true)
    (kk_9 : keepIn K (.ref f__law_refused) = true)
    (a_10 : nsIn K mainGlobals "_law_right" = some (some (.ref f__law_right)))
    (l_10 : K.lookup f__law_right = some ⟨oc10, od10, .func (fS "_law_right" "_law_right" st__law_right kV10 dc10 pm10 an10 cd10 ct10), sl10⟩)
    (cc_10 : codeIn K cd10 "_law_right" = true)
    (kk_10 : keepIn K (.ref f__law_right) = true)
    (a_11 : nsIn K mainGlobals "law" = some (some (.ref f_law)))
    (l_11 : K.lookup f_law = some ⟨oc11, od11, .func (fS "law" "law" st_law kV11 dc11 pm11 an11 cd11 ct11), sl11⟩)
    (cc_11 : codeIn K cd11 "law" = true)
    (kk_11 : keepIn K (.ref f_law) = true)
    (a_12 : findIn K (.ref c_Web) "__init__" = some (some (.ref f_Web___init__)))
    (i_12 : isFn K (.ref f_Web___init__) = true)
    (l_12 : K.lookup f_Web___init__ = some ⟨oc12, od12, .func (fS "__init__" "Web.__init__" st_Web___init__ kV12 dc12 pm12 an12 cd12 ct12), sl12⟩)
    (cc_12 : codeIn K cd12 "Web.__init__" = true)
    (kk_12 : keepIn K (.ref f_Web___init__) = true)
    (a_13 : findIn K (.ref c_Web) "hands" = some (some (.ref f_Web_hands)))
    (i_13 : isFn K (.ref f_Web_hands) = true)
    (l_13 : K.lookup f_Web_hands = some ⟨oc13, od13, .func (fS "hands" "Web.hands" st_Web_hands kV13 dc13 pm13 an13 cd13 ct13), sl13⟩)
    (cc_13 : codeIn K cd13 "Web.hands" = true)
    (kk_13 : keepIn K (.ref f_Web_hands) = true)
    (a_14 : findIn K (.ref c_Web) "lines" = some (some (.ref f_Web_lines)))
    (i_14 : isFn K (.ref f_Web_lines) = true)
    (l_14 : K.lookup f_Web_lines = some ⟨oc14, od14, .func (fS "lines" "Web.lines" st_Web_lines kV14 dc14 pm14 an14 cd14 ct14), sl14⟩)
    (cc_14 : codeIn K cd14 "Web.lines" = true)
    (kk_14 : keepIn K (.ref f_Web_lines) = true)
    (a_15 : findIn K (.ref c_Web) "has_hand" = some (some (.ref f_Web_has_hand)))
    (i_15 : isFn K (.ref f_Web_has_hand) = true)
    (l_15 : K.lookup f_Web_has_hand = some ⟨oc15, od15, .func (fS "has_hand" "Web.has_hand" st_Web_has_hand kV15 dc15 pm15 an15 cd15 ct15), sl15⟩)
    (cc_15 : codeIn K cd15 "Web.has_hand" = true)
    (kk_15 : keepIn K (.ref f_Web_has_hand) = true)
    (a_16 : findIn K (.ref c_Web) "has_line" = some (some (.ref f_Web_has_line)))
    (i_16 : isFn K (.ref f_Web_has_line) = true)
    (l_16 : K.lookup f_Web_has_line = some ⟨oc16, od16, .func (fS "has_line" "Web.has_line" st_Web_has_line kV16 dc16 pm16 an16 cd16 ct16), sl16⟩)
    (cc_16 : codeIn K cd16 "Web.has_line" = true)
    (kk_16 : keepIn K (.ref f_Web_has_line) = true)
    (a_17 : findIn K (.ref c_Web) "neighbours" = some (some (.ref f_Web_neighbours)))
    (i_17 : isFn K (.ref f_Web_neighbours) = true)
    (l_17 : K.lookup f_Web_neighbours = some ⟨oc17, od17, .func (fS "neighbours" "Web.neighbours" st_Web_neighbours kV17 dc17 pm17 an17 cd17 ct17), sl17⟩)
    (cc_17 : codeIn K cd17 "Web.neighbours" = true)
    (kk_17 : keepIn K (.ref f_Web_neighbours) = true)
    (pg_Web : plainGet K c_Web Str.empty = true)
    (hd_Web : hasDictIn K c_Web = true)
    (po_Web : plainOver K c_Web = true)
    (sa_Web : findIn K (.ref c_Web) "__setattr__" = some (some (.builtin "object.__setattr__")))
    (mk_Web : makesIn K c_Web = true)
    (kc_Web : keepIn K (.ref c_Web) = true)
    (ha_Web : findIn K (.ref c_Web) "__class__" = some (some (.builtin "object.__class__")))
    (hm_Web : mroIn K c_Web (.type "object") = some true)
    (na_Web_own_hands : findIn K (.ref c_Web) "own_hands" = some none)
    (na_Web_own_lines : findIn K (.ref c_Web) "own_lines" = some none)
    (na_Web_near : findIn K (.ref c_Web) "near" = some none)
    (hn : specialIn K (.builtin "object.__class__") "__get__" = some (some (.builtin "getset_descriptor.__get__")))
    (htk : takesIn K (.builtin "object.__class__") = some true)
    (A_NoWeb : nsIn K mainGlobals "NoWeb" = some (some (.ref c_NoWeb)))
    (A_NoLine : nsIn K mainGlobals "NoLine" = some (some (.ref c_NoLine)))
    (A_NoHand : nsIn K mainGlobals "NoHand" = some (some (.ref c_NoHand)))
    (X_NoHand : excIn K c_NoHand bmVal "ValueError.__new__" = true)
    (xga_NoHand : findIn K (.ref c_NoHand) "__getattribute__" = some (some (.builtin "BaseException.__getattribute__")))
    (xgt_NoHand : findIn K (.ref c_NoHand) "__getattr__" = some none)
    (xha_NoHand : findIn K (.ref c_NoHand) "__class__" = some (some (.builtin "object.__class__")))
    (xhm_NoHand : mroIn K c_NoHand (.type "object") = some true)
    (xhb_NoHand : mroIn K c_NoHand (.type "BaseException") = some true)
    (xhd_NoHand : hasDictIn K c_NoHand = true)
    (k_tint_tint : kitOne K (.type "int") (.type "int") = some true)
    (k_tint_tbool : kitOne K (.type "int") (.type "bool") = some false)
    (k_tbool_tint : kitOne K (.type "bool") (.type "int") = some true)
    (k_tbool_tbool : kitOne K (.type "bool") (.type "bool") = some true)
    (k_tstr_tint : kitOne K (.type "str") (.type "int") = some false)
    (k_tNoneType_tint : kitOne K (.type "NoneType") (.type "int") = some false)
    (k_ttuple_tint : kitOne K (.type "tuple") (.type "int") = some false)
    (k_tlist_tint : kitOne K (.type "list") (.type "int") = some false)
    (k_tlist_tlist : kitOne K (.type "list") (.type "list") = some true)
    (k_ttuple_ttuple : kitOne K (.type "tuple") (.type "tuple") = some true)
    (k_NoHand_NoWeb : kitOne K (.ref c_NoHand) (.ref c_NoWeb) = some false)
    (k_NoHand_NoLine : kitOne K (.ref c_NoHand) (.ref c_NoLine) = some false)
    (k_NoHand_tValueError : kitOne K (.ref c_NoHand) (.type "ValueError") = some true)
    (G_MOST_HANDS : nsIn K mainGlobals "MOST_HANDS" = some (some (.int 12 t_MOST_HANDS)))
    (G_LAST_HAND : nsIn K mainGlobals "LAST_HAND" = some (some (.int 99 t_LAST_HAND))) :
    ∃ a : Ad, Txt K mg a := by
  have F0 := fun_mk (st := st_is_whole) l_0 cc_0 kk_0
  have F1 := fun_mk (st := st_are_hands) l_1 cc_1 kk_1
  have F2 := fun_mk (st := st_is_line) l_2 cc_2 kk_2
  have F3 := fun_mk (st := st_are_lines) l_3 cc_3 kk_3
  have F4 := fun_mk (st := st_near_by_hand) l_4 cc_4 kk_4
  have F5 := fun_mk (st := st__law_cell_at) l_5 cc_5 kk_5
  have F6 := fun_mk (st := st__law_digit) l_6 cc_6 kk_6
  have F7 := fun_mk (st := st__law_web) l_7 cc_7 kk_7
  have F8 := fun_mk (st := st__law_is) l_8 cc_8 kk_8
  have F9 := fun_mk (st := st__law_refused) l_9 cc_9 kk_9
  have F10 := fun_mk (st := st__law_right) l_10 cc_10 kk_10
  have F11 := fun_mk (st := st_law) l_11 cc_11 kk_11
  have F12 := fun_mk (st := st_Web___init__) l_12 cc_12 kk_12
  have F13 := fun_mk (st := st_Web_hands) l_13 cc_13 kk_13
  have F14 := fun_mk (st := st_Web_lines) l_14 cc_14 kk_14
  have F15 := fun_mk (st := st_Web_has_hand) l_15 cc_15 kk_15
  have F16 := fun_mk (st := st_Web_has_line) l_16 cc_16 kk_16
  have F17 := fun_mk (st := st_Web_neighbours) l_17 cc_17 kk_17
  refine ⟨⟨f_is_whole, fS "is_whole" "is_whole" st_is_whole kV0 dc0 pm0 an0 cd0 ct0, f_are_hands, fS "are_hands" "are_hands" st_are_hands kV1 dc1 pm1 an1 cd1 ct1, f_is_line, fS "is_line" "is_line" st_is_line kV2 dc2 pm2 an2 cd2 ct2, f_are_lines, fS "are_lines" "are_lines" st_are_lines kV3 dc3 pm3 an3 cd3 ct3, f_near_by_hand, fS "near_by_hand" "near_by_hand" st_near_by_hand kV4 dc4 pm4 an4 cd4 ct4, f__law_cell_at, fS "_law_cell_at" "_law_cell_at" st__law_cell_at kV5 dc5 pm5 an5 cd5 ct5, f__law_digit, fS "_law_digit" "_law_digit" st__law_digit kV6 dc6 pm6 an6 cd6 ct6, f__law_web, fS "_law_web" "_law_web" st__law_web kV7 dc7 pm7 an7 cd7 ct7, f__law_is, fS "_law_is" "_law_is" st__law_is kV8 dc8 pm8 an8 cd8 ct8, f__law_refused, fS "_law_refused" "_law_refused" st__law_refused kV9 dc9 pm9 an9 cd9 ct9, f__law_right, fS "_law_right" "_law_right" st__law_right kV10 dc10 pm10 an10 cd10 ct10, f_law, fS "law" "law" st_law kV11 dc11 pm11 an11 cd11 ct11, f_Web___init__, fS "__init__" "Web.__init__" st_Web___init__ kV12 dc12 pm12 an12 cd12 ct12, f_Web_hands, fS "hands" "Web.hands" st_Web_hands kV13 dc13 pm13 an13 cd13 ct13, f_Web_lines, fS "lines" "Web.lines" st_Web_lines kV14 dc14 pm14 an14 cd14 ct14, f_Web_has_hand, fS "has_hand" "Web.has_hand" st_Web_has_hand kV15 dc15 pm15 an15 cd15 ct15, f_Web_has_line, fS "has_line" "Web.has_line" st_Web_has_line kV16 dc16 pm16 an16 cd16 ct16, f_Web_neighbours, fS "neighbours" "Web.neighbours" st_Web_neighbours kV17 dc17 pm17 an17 cd17 ct17, c_Web, c_NoHand, c_NoWeb, c_NoLine, t_MOST_HANDS, t_LAST_HAND⟩, ?_⟩
  exact ⟨mg_none_of X G z_len,
    mg_none_of X G z_int,
    mg_none_of X G z_min,
    mg_none_of X G z_range,
    mg_none_of X G z_isinstance,
    mg_none_of X G z_list,
    mg_none_of X G z_sorted,
    mg_none_of X G z_bool,
    mg_none_of X G z_tuple,
    mg_none_of X G z_ValueError,
    F0,
    F0.binds (ps := ["value"]) fun _ _ _ _ _ _ us hl => match us, hl with | [_], _ => rfl,
    mg_of X G a_0,
    F1,
    F1.binds (ps := ["hands"]) fun _ _ _ _ _ _ us hl => match us, hl with | [_], _ => rfl,
    mg_of X G a_1,
    F2,
    F2.binds (ps := ["line", "hands"]) fun _ _ _ _ _ _ us hl => match us, hl with | [_, _], _ => rfl,
    mg_of X G a_2,
    F3,
    F3.binds (ps := ["lines", "hands"]) fun _ _ _ _ _ _ us hl => match us, hl with | [_, _], _ => rfl,
    mg_of X G a_3,
    F4,
    F4.binds (ps := ["hands", "lines"]) fun _ _ _ _ _ _ us hl => match us, hl with | [_, _], _ => rfl,
    mg_of X G a_4,
    F5,
    F5.binds (ps := ["_law_script", "_law_k"]) fun _ _ _ _ _ _ us hl => match us, hl with | [_, _], _ => rfl,
    mg_of X G a_5,
    F6,
    F6.binds (ps := ["_law_state", "_law_base"]) fun _ _ _ _ _ _ us hl => match us, hl with | [_, _], _ => rfl,
    mg_of X G a_6,
    F7,
    F7.binds (ps := ["_law_state"]) fun _ _ _ _ _ _ us hl => match us, hl with | [_], _ => rfl,
    mg_of X G a_7,
    F8,
    F8.binds (ps := ["_law_found", "_law_due"]) fun _ _ _ _ _ _ us hl => match us, hl with | [_, _], _ => rfl,
    mg_of X G a_8,
    F9,
    F9.binds (ps := ["_law_web_here", "_law_hand"]) fun _ _ _ _ _ _ us hl => match us, hl with | [_, _], _ => rfl,
    mg_of X G a_9,
    F10,
    F10.binds (ps := ["_law_web_here", "_law_hands", "_law_lines"]) fun _ _ _ _ _ _ us hl => match us, hl with | [_, _, _], _ => rfl,
    mg_of X G a_10,
    F11,
    F11.binds (ps := ["_law_script"]) fun _ _ _ _ _ _ us hl => match us, hl with | [_], _ => rfl,
    fun s v => .of_eq rfl,
    mg_of X G a_11,
    F12,
    F12.binds (ps := ["self", "hands", "lines"]) fun _ _ _ _ _ _ us hl => match us, hl with | [_, _, _], _ => rfl,
    F13,
    F13.binds (ps := ["self"]) fun _ _ _ _ _ _ us hl => match us, hl with | [_], _ => rfl,
    ⟨a_13, i_13, kk_13⟩,
    F14,
    F14.binds (ps := ["self"]) fun _ _ _ _ _ _ us hl => match us, hl with | [_], _ => rfl,
    ⟨a_14, i_14, kk_14⟩,
    F15,
    F15.binds (ps := ["self", "hand"]) fun _ _ _ _ _ _ us hl => match us, hl with | [_, _], _ => rfl,
    ⟨a_15, i_15, kk_15⟩,
    F16,
    F16.binds (ps := ["self", "one", "other"]) fun _ _ _ _ _ _ us hl => match us, hl with | [_, _, _], _ => rfl,
    ⟨a_16, i_16, kk_16⟩,
    F17,
    F17.binds (ps := ["self", "hand"]) fun _ _ _ _ _ _ us hl => match us, hl with | [_, _], _ => rfl,
    ⟨a_17, i_17, kk_17⟩,
    mg_of X G A_Web,
    ⟨pg_Web, hd_Web, po_Web, sa_Web⟩,
    ⟨mk_Web, a_12, i_12, kc_Web⟩,
    fun H p dx fs e => .ins e ⟨pg_Web, hd_Web, po_Web, sa_Web⟩ ha_Web hn htk hm_Web,
    na_Web_own_hands,
    na_Web_own_lines,
    na_Web_near,
    k_tint_tint,
    k_tint_tbool,
    k_tbool_tint,
    k_tbool_tbool,
    k_tstr_tint,
    k_tNoneType_tint,
    k_ttuple_tint,
    k_tlist_tint,
    k_tlist_tlist,
    k_ttuple_ttuple,
    k_NoHand_NoWeb,
    k_NoHand_NoLine,
    k_NoHand_tValueError,
    mg_of X G G_MOST_HANDS,
    mg_of X G G_LAST_HAND,
    mg_of X G A_NoHand,
    X_NoHand,
    mg_of X G A_NoWeb,
    mg_of X G A_NoLine,
    ⟨xga_NoHand, xgt_NoHand, xha_NoHand, hn, htk, xhm_NoHand, xhb_NoHand, xhd_NoHand⟩⟩
end K04
open PySem PySem.W PyProof.Rows
set_option maxRecDepth 100000 in
set_option maxHeartbeats 0 in
theorem PySem.Challenge.cw_beatless_k01_webs_told_holds : PySem.Challenge.rw_beatless_k01_webs_told.Holds := by
  w_on; o_law
  refine holds_open (XP := XL Hd.Q []) (YP := (kHook Hd.K Hd.as Hd.asK).says) Hd.left Hd.hk.of Hd.hk.keeps
    (fun s z => xl_of s (Hd.both z).1) XL.keeps (by rfl) (by rfl) (by rfl)
    (fun s z => recFacts_of (Hd.both z).2) (by rfl) (by assumption) (by decide +kernel)
    ⟨rfl, rfl, rfl, rfl, rfl, by decide +kernel⟩ ?hw ?hc
  case hw => w_witness2
  k_fill
  refine L2.walk_ofK (l := PySem.Challenge.rw_beatless_k01_webs_told) (n := 63) (k := 6) (x := "_law_script") (CX := L2.CX0) (sp := K04.spLaw) rfl (by decide) rfl ⟨rfl, by decide, by decide⟩ (fun w h Y => PySem.W.kIn_of Y) ?F ?S ?C
  case F =>
    intro w mg fa h KX G hmg
    have T : ∃ a, K04.Txt (L2.KOf KX) mg a := by
      dsimp only [L2.KOf]
      refine' K04.txt_mk KX G ?z_len ?z_int ?z_min ?z_range ?z_isinstance ?z_list ?z_sorted ?z_bool ?z_tuple ?z_ValueError ?A_Web ?a_0 ?l_0 ?cc_0 ?kk_0 ?a_1 ?l_1 ?cc_1 ?kk_1 ?a_2 ?l_2 ?cc_2 ?kk_2 ?a_3 ?l_3 ?cc_3 ?kk_3 ?a_4 ?l_4 ?cc_4 ?kk_4 ?a_5 ?l_5 ?cc_5 ?kk_5 ?a_6 ?l_6 ?cc_6 ?kk_6 ?a_7 ?l_7 ?cc_7 ?kk_7 ?a_8 ?l_8 ?cc_8 ?kk_8 ?a_9 ?l_9 ?cc_9 ?kk_9 ?a_10 ?l_10 ?cc_10 ?kk_10 ?a_11 ?l_11 ?cc_11 ?kk_11 ?a_12 ?i_12 ?l_12 ?cc_12 ?kk_12 ?a_13 ?i_13 ?l_13 ?cc_13 ?kk_13 ?a_14 ?i_14 ?l_14 ?cc_14 ?kk_14 ?a_15 ?i_15 ?l_15 ?cc_15 ?kk_15 ?a_16 ?i_16 ?l_16 ?cc_16 ?kk_16 ?a_17 ?i_17 ?l_17 ?cc_17 ?kk_17 ?pg_Web ?hd_Web ?po_Web ?sa_Web ?mk_Web ?kc_Web ?ha_Web ?hm_Web ?na_Web_own_hands ?na_Web_own_lines ?na_Web_near ?hn ?htk ?A_NoWeb ?A_NoLine ?A_NoHand ?X_NoHand ?xga_NoHand ?xgt_NoHand ?xha_NoHand ?xhm_NoHand ?xhb_NoHand ?xhd_NoHand ?k_tint_tint ?k_tint_tbool ?k_tbool_tint ?k_tbool_tbool ?k_tstr_tint ?k_tNoneType_tint ?k_ttuple_tint ?k_tlist_tint ?k_tlist_tlist ?k_ttuple_ttuple ?k_NoHand_NoWeb ?k_NoHand_NoLine ?k_NoHand_tValueError ?G_MOST_HANDS ?G_LAST_HAND
      (case z_len => k_is)
      (case z_int => k_is)
      (case z_min => k_is)
      (case z_range => k_is)
      (case z_isinstance => k_is)
      (case z_list => k_is)
      (case z_sorted => k_is)
      (case z_bool => k_is)
      (case z_tuple => k_is)
      (case z_ValueError => k_is)
      (case A_Web => k_is)
      (case a_0 => k_is)
      (case l_0 => k_is)
      (case cc_0 => k_is)
      (case kk_0 => k_is)
      (case a_1 => k_is)
      (case l_1 => k_is)
      (case cc_1 => k_is)
      (case kk_1 => k_is)
      (case a_2 => k_is)
      (case l_2 => k_is)
      (case cc_2 => k_is)
      (case kk_2 => k_is)
      (case a_3 => k_is)
      (case l_3 => k_is)
      (case cc_3 => k_is)
      (case kk_3 => k_is)
      (case a_4 => k_is)
      (case l_4 => k_is)
      (case cc_4 => k_is)
      (case kk_4 => k_is)
      (case a_5 => k_is)
      (case l_5 => k_is)
      (case cc_5 => k_is)
      (case kk_5 => k_is)
      (case a_6 => k_is)
      (case l_6 => k_is)
      (case cc_6 => k_is)
      (case kk_6 => k_is)
      (case a_7 => k_is)
      (case l_7 => k_is)
      (case cc_7 => k_is)
      (case kk_7 => k_is)
      (case a_8 => k_is)
      (case l_8 => k_is)
      (case cc_8 => k_is)
      (case kk_8 => k_is)
      (case a_9 => k_is)
      (case l_9 => k_is)
      (case cc_9 => k_is)
      (case kk_9 => k_is)
      (case a_10 => k_is)
      (case l_10 => k_is)
      (case cc_10 => k_is)
      (case kk_10 => k_is)
      (case a_11 => k_is)
      (case l_11 => k_is)
      (case cc_11 => k_is)
      (case kk_11 => k_is)
      (case a_12 => k_is)
      (case i_12 => k_is)
      (case l_12 => k_is)
      (case cc_12 => k_is)
      (case kk_12 => k_is)
      (case a_13 => k_is)
      (case i_13 => k_is)
      (case l_13 => k_is)
      (case cc_13 => k_is)
      (case kk_13 => k_is)
      (case a_14 => k_is)
      (case i_14 => k_is)
      (case l_14 => k_is)
      (case cc_14 => k_is)
      (case kk_14 => k_is)
      (case a_15 => k_is)
      (case i_15 => k_is)
      (case l_15 => k_is)
      (case cc_15 => k_is)
      (case kk_15 => k_is)
      (case a_16 => k_is)
      (case i_16 => k_is)
      (case l_16 => k_is)
      (case cc_16 => k_is)
      (case kk_16 => k_is)
      (case a_17 => k_is)
      (case i_17 => k_is)
      (case l_17 => k_is)
      (case cc_17 => k_is)
      (case kk_17 => k_is)
      (case pg_Web => k_is)
      (case hd_Web => k_is)
      (case po_Web => k_is)
      (case sa_Web => k_is)
      (case mk_Web => k_is)
      (case kc_Web => k_is)
      (case ha_Web => k_is)
      (case hm_Web => k_is)
      (case na_Web_own_hands => k_is)
      (case na_Web_own_lines => k_is)
      (case na_Web_near => k_is)
      (case hn => k_is)
      (case htk => k_is)
      (case A_NoWeb => k_is)
      (case A_NoLine => k_is)
      (case A_NoHand => k_is)
      (case X_NoHand => k_exc)
      (case xga_NoHand => k_is)
      (case xgt_NoHand => k_is)
      (case xha_NoHand => k_is)
      (case xhm_NoHand => k_is)
      (case xhb_NoHand => k_is)
      (case xhd_NoHand => k_is)
      (case k_tint_tint => kit_is)
      (case k_tint_tbool => kit_is)
      (case k_tbool_tint => kit_is)
      (case k_tbool_tbool => kit_is)
      (case k_tstr_tint => kit_is)
      (case k_tNoneType_tint => kit_is)
      (case k_ttuple_tint => kit_is)
      (case k_tlist_tint => kit_is)
      (case k_tlist_tlist => kit_is)
      (case k_ttuple_ttuple => kit_is)
      (case k_NoHand_NoWeb => kit_is)
      (case k_NoHand_NoLine => kit_is)
      (case k_NoHand_tValueError => kit_is)
      (case G_MOST_HANDS => k_is)
      (case G_LAST_HAND => k_is)
    obtain ⟨a, T⟩ := T
    have e0 := hmg.symm.trans T.g_law
    cases e0
    exact ⟨_, T.b0_law, fun base kb nb => K04.ok_law T⟩
  case S => exact fun K H a ns hl hO hS => K04.sp_law_of hl hO hS
  case C => exact fun _ _ _ _ z => z

