import PyProof.Rows.All
import Wide.All
import OpenK.AllK
import Wide.FinOn
import Lean
import PyProof.EqAt
import PyProof.EqKinds
import PyProof.TupleCall
import PySem.Challenge.RW_everyroad_k20_refusals_apart
set_option Elab.async false
set_option linter.all false
set_option maxRecDepth 100000
/-! THE HAND LAYER, for ints, bools, texts, own classes, LISTS and tuples (index, slices, in, append, pop ..), calls, loops. Paste it whole ahead of your own text; what your proof does not reach may be deleted. -/
namespace L2
open PySem PySem.Spec PyProof.Rows

/-- a key: an int or a str -/
abbrev Key := Sum Int Str
def keyIs : Key → Value → Bool
  | .inl k, v => Value.isInt k v
  | .inr x, v => Value.isStrOf x v
def keyH (w : World) : Key → Int
  | .inl k => hashInt k
  | .inr x => hashStr w x
theorem keyIs_shape : ∀ {k : Key} {v : Value}, keyIs k v = true → (∃ i t, k = Sum.inl i ∧ v = Value.int i t) ∨ (∃ x t, k = Sum.inr x ∧ v = Value.str x t)
  | .inl i, v, h => by
    obtain ⟨t, e⟩ := Value.isInt_shape (k := i) (v := v) h
    exact .inl ⟨i, t, rfl, e⟩
  | .inr x, v, h => by
    obtain ⟨t, e⟩ := Value.isStrOf_shape (x := x) (v := v) h
    exact .inr ⟨x, t, rfl, e⟩
theorem keyIs_str (x : Str) (t : Tok) : keyIs (.inr x) (.str x t) = true := by simp [keyIs, Value.isStrOf]
theorem key_ll (a b : Int) : decide ((Sum.inl a : Key) = Sum.inl b) = (a == b) := by
  by_cases e : a = b
  · subst e; simp
  · have h : ¬ (Sum.inl a : Key) = Sum.inl b := fun q => e (Sum.inl.inj q)
    rw [decide_eq_false h]
    exact (beq_eq_false_iff_ne.mpr e).symm
theorem key_rr (a b : Str) : decide ((Sum.inr a : Key) = Sum.inr b) = decide (a = b) := by
  by_cases e : a = b
  · subst e; simp
  · have h : ¬ (Sum.inr a : Key) = Sum.inr b := fun q => e (Sum.inr.inj q)
    rw [decide_eq_false h, decide_eq_false e]
theorem key_lr (a : Int) (b : Str) : decide ((Sum.inl a : Key) = Sum.inr b) = false := decide_eq_false (fun q => nomatch q)
theorem key_rl (a : Str) (b : Int) : decide ((Sum.inr a : Key) = Sum.inl b) = false := decide_eq_false (fun q => nomatch q)

def mixKind (prog : Program) (w : World) : PySem.KeyKind prog w Key where
  is := keyIs
  hash := keyH w
  inj := fun v a b ha hb => by
    rcases keyIs_shape ha with ⟨i, t, rfl, rfl⟩ | ⟨x, t, rfl, rfl⟩
    · rcases keyIs_shape hb with ⟨j, u, rfl, e⟩ | ⟨y, u, rfl, e⟩
      · injection e with e1 _; rw [e1]
      · exact nomatch e
    · rcases keyIs_shape hb with ⟨j, u, rfl, e⟩ | ⟨y, u, rfl, e⟩
      · exact nomatch e
      · injection e with e1 _; rw [e1]
  byValue := fun k v h => by
    rcases keyIs_shape h with ⟨i, t, rfl, rfl⟩ | ⟨x, t, rfl, rfl⟩ <;> rfl
  pyHash := fun hv h => by
    rcases keyIs_shape hv with ⟨i, t, rfl, rfl⟩ | ⟨x, t, rfl, rfl⟩
    · exact wpAny_pyHash_int h
    · exact wpAny_pyHash_str h
  eqBool := fun hu hv h => by
    rcases keyIs_shape hu with ⟨i, t, rfl, rfl⟩ | ⟨x, t, rfl, rfl⟩
    · rcases keyIs_shape hv with ⟨j, u, rfl, rfl⟩ | ⟨y, u, rfl, rfl⟩
      · rw [key_ll] at h; exact wpAny_eqBool_int h
      · rw [key_lr] at h; exact SeqAt.EqAt.int_str i t y u _ _ _ _ h
    · rcases keyIs_shape hv with ⟨j, u, rfl, rfl⟩ | ⟨y, u, rfl, rfl⟩
      · rw [key_rl] at h; exact SeqAt.EqAt.str_int x t j u _ _ _ _ h
      · rw [key_rr] at h; exact wpAny_eqBool_str h
  «strs» := fun k x t v h => by
    rcases keyIs_shape h with ⟨i, u, rfl, e⟩ | ⟨y, u, rfl, e⟩
    · exact nomatch e
    · injection e with e1 _
      subst e1
      cases v <;> rfl

theorem mixKind_str (prog : Program) (w : World) (x : Str) (t : Tok) : (mixKind prog w).is (.inr x) (.str x t) = true := keyIs_str x t
end L2

namespace L2
open PySem PySem.Spec PyProof.Rows

/-- a value, without the heap -/
inductive V where
  | non | bl (b : Bool) | int (i : Int) | str (x : Str) | byt (b : Array UInt8) | flt (b : UInt64) | ref (a : Addr) | ty (n : String)
  deriving DecidableEq

def RelV : V → Value → Prop
  | .non, u => u = Value.none
  | .bl b, u => u = Value.bool b
  | .int i, u => ∃ t, u = Value.int i t
  | .str x, u => ∃ t, u = Value.str x t
  | .byt b, u => ∃ t, u = Value.bytes b t
  | .flt b, u => ∃ t, u = Value.float b t
  | .ref a, u => u = Value.ref a
  | .ty n, u => u = Value.type n

abbrev Vals : List V → List Value → Prop := Paired RelV
theorem Vals.length {xs : List V} {us : List Value} (r : Vals xs us) : xs.length = us.length := Paired.length r
theorem Vals.get : ∀ {xs : List V} {us : List Value} {i : Nat} {x : V}, Vals xs us → xs[i]? = some x → ∃ u, us[i]? = some u ∧ RelV x u
  | _, _, _, _, .nil, e => by simp at e
  | _, _, 0, _, .cons r _, e => by simp at e; subst e; exact ⟨_, rfl, r⟩
  | _, _, i + 1, x, .cons _ t, e => by
    obtain ⟨u, h1, h2⟩ := Vals.get (i := i) (x := x) t (by simpa using e)
    exact ⟨u, by simpa using h1, h2⟩
theorem Vals.set {x : V} {u : Value} (r : RelV x u) : ∀ {xs : List V} {us : List Value} (i : Nat), Vals xs us → Vals (xs.set i x) (us.set i u)
  | _, _, _, .nil => .nil
  | _, _, 0, .cons _ t => .cons r t
  | _, _, i + 1, .cons q t => .cons q (Vals.set r i t)
theorem Vals.append : ∀ {xs ys : List V} {us ws : List Value}, Vals xs us → Vals ys ws → Vals (xs ++ ys) (us ++ ws)
  | _, _, _, _, .nil, s => s
  | _, _, _, _, .cons r t, s => .cons r (Vals.append t s)
theorem Vals.take : ∀ {xs : List V} {us : List Value} (n : Nat), Vals xs us → Vals (xs.take n) (us.take n)
  | _, _, 0, _ => .nil
  | _, _, _ + 1, .nil => .nil
  | _, _, n + 1, .cons r t => .cons r (Vals.take n t)
theorem Vals.drop : ∀ {xs : List V} {us : List Value} (n : Nat), Vals xs us → Vals (xs.drop n) (us.drop n)
  | _, _, 0, r => r
  | _, _, _ + 1, .nil => .nil
  | _, _, n + 1, .cons _ t => Vals.drop n t
def RelO : Option V → Option Value → Prop
  | some v, some u => RelV v u
  | none, none => True
  | _, _ => False
def KV {κ : Type} : List (κ × V) → List (κ × Value) → Prop := Paired fun (p : κ × V) (q : κ × Value) => p.1 = q.1 ∧ RelV p.2 q.2

/-- a key of a dict (00_mix): an int or a text -/
def kV : Key → V
  | .inl i => .int i
  | .inr x => .str x

/-- what stands at a tracked address -/
inductive HO where
  /-- a list -/
  | lst (xs : List V)
  /-- a tuple (never changes) -/
  | tup (xs : List V)
  /-- a dict whose keys are ints and texts; one whose keys are tuples of ints and texts (the empty one is both) -/
  | dK (kvs : List (Key × V)) | dT (kvs : List (List Key × V))
  /-- a set of ints: its members, its size -/
  | set (S : Int → Bool) (n : Nat)
  /-- an instance of the class at C, its dict at dx, its attributes -/
  | ins (C dx : Addr) (fs : List (Str × V))
  /-- the dict of the instance at x -/
  | own (x : Addr)
  /-- the dict of an exception -/
  | xd (fs : List (Str × V))
  /-- a bound method, f of x -/
  | met (f x : Addr)
  /-- a range object lo, lo + 1, .. below hi -/
  | rng (lo hi : Int)
  /-- a thing that is known to the object (the script; a dict while a loop walks it): read, never written while it is so -/
  | frz (o : Obj) (u : HO)
  /-- a code object's table -/
  | tbl (ps : Array Value)
  /-- any other thing, by what is true of its one object (a def of one's own: SetO a S n := HO.ext fun h => ..) -/
  | ext (φ : Heap → Prop)

abbrev Hp := Addr → Option HO
def upd (H : Hp) (a : Addr) (o : HO) : Hp := fun b => if b = a then some o else H b
theorem upd_same {H : Hp} {a : Addr} {o : HO} : upd H a o a = some o := by unfold upd; rw [if_pos rfl]
theorem upd_ne {H : Hp} {a b : Addr} {o : HO} (h : b ≠ a) : upd H a o b = H b := by unfold upd; rw [if_neg h]
/-- two objects of different content stand apart -/
theorem ne_of {H : Hp} {a b : Addr} {o u : HO} (h : H a = some o) (h' : H b = some u) (d : o ≠ u) : a ≠ b := by
  intro e; subst e; rw [h] at h'; exact d (Option.some.inj h')
theorem ne_of_none {H : Hp} {a b : Addr} {o : HO} (h : H a = some o) (h' : H b = none) : a ≠ b := by
  intro e; subst e; rw [h] at h'; cases h'

section
variable (P : Program) (w : World)
def ObjOk (H : Hp) (h : Heap) (a : Addr) : HO → Prop
  | .lst xs => xs.length ≤ sizeLine ∧ ∃ (its : List Value) (n : Nat), Vals xs its ∧ h.get? a = some { cls := .type "list", data := .seq its.toArray n }
  | .tup xs => xs.length ≤ sizeLine ∧ ∃ its : List Value, Vals xs its ∧ IsTup h a its.toArray
  | .dK kvs => kvs.length ≤ sizeLine ∧ (a == sysModules) = false ∧ ∃ vs, KV kvs vs ∧ h.DictOf (mixKind P w) a vs
  | .dT kvs => kvs.length ≤ sizeLine ∧ (a == sysModules) = false ∧ ∃ xs : List (List Key × Addr × Value),
      Paired (fun (p : List Key × V) (q : List Key × Addr × Value) => p.1 = q.1 ∧ H q.2.1 = some (.tup (p.1.map kV)) ∧ RelV p.2 q.2.2) kvs xs ∧
      ∃ o es ep, h.get? a = some o ∧ o.ExactDict ∧ o.data = .dict es ep ∧ es.toList = xs.map (entryOfKey (tupleKind (mixKind P w))) ∧ (xs.map (·.1)).Nodup
  | .set S n => h.SetOf (intKind P w) a S n
  | .ins C dx fs => H dx = some (.own a) ∧ fs.length ≤ 1000 ∧ dx ≠ a ∧ h.get? a = some (PySem.W.instObj C dx) ∧
      ∃ mA, h.Ns1 dx mA ∧ (∀ f, RelO (fs.lookup f) (mA f)) ∧ PySem.Within mA (fs.map (·.1))
  | .own _ => ∃ o, h.get? a = some o
  | .xd fs => ∃ mA, h.Ns1 a mA ∧ ∀ f, RelO (fs.lookup f) (mA f)
  | .rng lo hi => ∃ t u v, h.get? a = some { cls := .type "range", data := .fields #[.int lo t, .int hi u, .int 1 v] }
  | .frz o u => h.get? a = some o ∧ ObjOk H h a u
  | .tbl ps => h.get? a = some { cls := .none, data := .fields ps }
  | .met f x => h.get? a = some (PySem.W.methodObj (.ref f) (.ref x))
  | .ext φ => φ h ∧ (∃ o, h.get? a = some o) ∧ ∀ h1 h2 : Heap, φ h1 → (∀ o, h1.get? a = some o → h2.get? a = some o) → φ h2
/-- the abstract heap is held -/
def HOk (H : Hp) (h : Heap) : Prop := ∀ a o, H a = some o → ObjOk P w H h a o
end

section
variable {P : Program} {w : World} {H H' : Hp} {h h' : Heap} {a : Addr} {o : HO}
theorem ObjOk.lt (x : ObjOk P w H h a o) : a < h.objs.size := by
  cases o with
  | lst xs => obtain ⟨_, _, _, _, e⟩ := x; exact Heap.lt_size e
  | tup xs => obtain ⟨_, _, _, p⟩ := x; exact p.lt
  | dK kvs => obtain ⟨_, _, _, _, o, _, _, e, _⟩ := x; exact Heap.lt_size e
  | dT kvs => obtain ⟨_, _, _, _, o, _, _, e, _⟩ := x; exact Heap.lt_size e
  | set S n => obtain ⟨o, _, _, _, e, _⟩ := x; exact Heap.lt_size e
  | ins C dx fs => obtain ⟨_, _, _, e, _⟩ := x; exact Heap.lt_size e
  | own y => obtain ⟨_, e⟩ := x; exact Heap.lt_size e
  | xd fs => obtain ⟨_, ⟨_, _, _, e, _⟩, _⟩ := x; exact Heap.lt_size e
  | rng lo hi => obtain ⟨_, _, _, e⟩ := x; exact Heap.lt_size e
  | frz ob u => obtain ⟨e, _⟩ := x; exact Heap.lt_size e
  | tbl ps => exact Heap.lt_size (show h.get? a = some _ from x)
  | met f y => exact Heap.lt_size (show h.get? a = some _ from x)
  | ext φ => obtain ⟨_, ⟨_, e⟩, _⟩ := x; exact Heap.lt_size e
theorem Paired.mapP {α β : Type} {F G : α → β → Prop} : ∀ {l₁ : List α} {l₂ : List β}, Paired F l₁ l₂ → (∀ a b, F a b → G a b) → Paired G l₁ l₂
  | _, _, .nil, _ => .nil
  | _, _, .cons r t, f => .cons (f _ _ r) (Paired.mapP t f)
/-- what an object's description leans on: its own object, its own dict, the tuples -/
theorem ObjOk.stay (x : ObjOk P w H h a o) (k : ∀ b u, (b = a ∨ H b = some (.own a)) → h.get? b = some u → h'.get? b = some u)
    (ho : ∀ b, H b = some (.own a) → H' b = some (.own a)) (ht : ∀ b xs, H b = some (.tup xs) → H' b = some (.tup xs)) : ObjOk P w H' h' a o := by
  induction o with
  | lst xs => obtain ⟨z, its, n, r, e⟩ := x; exact ⟨z, its, n, r, k _ _ (.inl rfl) e⟩
  | tup xs => obtain ⟨z, its, r, ob, e, c⟩ := x; exact ⟨z, its, r, ob, k _ _ (.inl rfl) e, c⟩
  | dK kvs => obtain ⟨z, y, vs, r, ob, es, ep, e, c⟩ := x; exact ⟨z, y, vs, r, ob, es, ep, k _ _ (.inl rfl) e, c⟩
  | dT kvs =>
    obtain ⟨z, y, xs, r, ob, es, ep, e, c⟩ := x
    exact ⟨z, y, xs, Paired.mapP r fun p q z => ⟨z.1, ht _ _ z.2.1, z.2.2⟩, ob, es, ep, k _ _ (.inl rfl) e, c⟩
  | set S n => obtain ⟨ob, es, ep, t, e, c⟩ := x; exact ⟨ob, es, ep, t, k _ _ (.inl rfl) e, c⟩
  | ins C dx fs =>
    obtain ⟨d, z, ne, e, mA, ⟨od, es, ep, e2, c⟩, r⟩ := x
    exact ⟨ho _ d, z, ne, k _ _ (.inl rfl) e, mA, ⟨od, es, ep, k _ _ (.inr d) e2, c⟩, r⟩
  | own y => obtain ⟨ob, e⟩ := x; exact ⟨ob, k _ _ (.inl rfl) e⟩
  | xd fs => obtain ⟨mA, ⟨od, es, ep, e, c⟩, r⟩ := x; exact ⟨mA, ⟨od, es, ep, k _ _ (.inl rfl) e, c⟩, r⟩
  | rng lo hi => obtain ⟨t, u, v, e⟩ := x; exact ⟨t, u, v, k _ _ (.inl rfl) e⟩
  | frz ob u ih => obtain ⟨e, q⟩ := x; exact ⟨k _ _ (.inl rfl) e, ih q⟩
  | tbl ps =>
    have e : h.get? a = some { cls := .none, data := .fields ps } := x
    show h'.get? a = some { cls := .none, data := .fields ps }
    exact k a _ (.inl rfl) e
  | met f y =>
    have e : h.get? a = some (PySem.W.methodObj (.ref f) (.ref y)) := x
    show h'.get? a = some (PySem.W.methodObj (.ref f) (.ref y))
    exact k a _ (.inl rfl) e
  | ext φ => obtain ⟨p, ⟨o, e⟩, st⟩ := x; exact ⟨st _ _ p fun o q => k _ _ (.inl rfl) q, ⟨o, k _ _ (.inl rfl) e⟩, st⟩
theorem HOk.lt (x : HOk P w H h) (e : H a = some o) : a < h.objs.size := (x a o e).lt
theorem HOk.fresh (x : HOk P w H h) (e : h.objs.size ≤ a) : H a = none := by
  cases q : H a with
  | none => rfl
  | some u => exact absurd (Nat.lt_of_lt_of_le (x.lt q) e) (Nat.lt_irrefl _)
/-- every object of the heap is kept -/
theorem HOk.kept (x : HOk P w H h) (k : ∀ b u, h.get? b = some u → h'.get? b = some u) : HOk P w H h' := fun a o e =>
  (x a o e).stay (fun b u _ q => k b u q) (fun _ q => q) fun _ _ q => q
/-- a new object is laid and tracked -/
theorem HOk.laid (x : HOk P w H h) (k : ∀ b u, h.get? b = some u → h'.get? b = some u) (hp : h.objs.size ≤ a) (new : ObjOk P w (upd H a o) h' a o) : HOk P w (upd H a o) h' := fun b u e => by
  have hn := x.fresh hp
  by_cases hb : b = a
  · subst hb; rw [upd_same] at e; cases e; exact new
  · rw [upd_ne hb] at e
    exact (x b u e).stay (fun c v _ q => k c v q) (fun c q => by rw [upd_ne (ne_of_none q hn)]; exact q) fun c xs q => by rw [upd_ne (ne_of_none q hn)]; exact q
end

/-- what may be read as u: it is u, or a known u -/
def Rd (H : Hp) (a : Addr) (u : HO) : Prop := H a = some u ∨ ∃ o, H a = some (.frz o u)
theorem Rd.ok {P : Program} {w : World} {H : Hp} {h : Heap} {a : Addr} {u : HO} (r : Rd H a u) (x : HOk P w H h) : ObjOk P w H h a u := by
  rcases r with r | ⟨o, r⟩
  · exact x a u r
  · obtain ⟨_, q⟩ := x a _ r
    exact q
/-- what may be written -/
def Mut : Option HO → Prop
  | some (.lst _) => True
  | some (.dK _) => True
  | some (.dT _) => True
  | some (.set _ _) => True
  | some (.ins _ _ _) => True
  | some (.ext _) => True
  | _ => False
section
variable {P : Program} {w : World} {H : Hp} {h h' : Heap} {x e : Addr} {o' : HO}
/-- the object at e is changed: x itself, or the dict of the instance x -/
theorem HOk.write (ok : HOk P w H h) (mu : Mut (H x)) (he : e = x ∨ H e = some (.own x)) (k : ∀ b u, b ≠ e → h.get? b = some u → h'.get? b = some u) (heo : ∃ u, h'.get? e = some u)
    (new : ObjOk P w (upd H x o') h' x o') : HOk P w (upd H x o') h' := fun b u q => by
  have nown : ∀ c y, H c = some (.own y) → c ≠ x := fun c y r z => by subst z; rw [r] at mu; exact mu
  have ntup : ∀ c xs, H c = some (.tup xs) → c ≠ x := fun c xs r z => by subst z; rw [r] at mu; exact mu
  by_cases hb : b = x
  · subst hb; rw [upd_same] at q; cases q; exact new
  · rw [upd_ne hb] at q
    by_cases hbe : b = e
    · have q' : H b = some (.own x) := by
        rcases he with z | z
        · exact absurd (hbe.trans z) hb
        · rw [hbe]; exact z
      rw [q] at q'; cases q'
      obtain ⟨v, hv⟩ := heo
      exact ⟨v, by rw [hbe]; exact hv⟩
    · refine (ok b u q).stay (fun c v hc r => k c v ?_ r) (fun c r => by rw [upd_ne (nown c b r)]; exact r) fun c xs r => by rw [upd_ne (ntup c xs r)]; exact r
      rcases hc with rfl | hc
      · exact hbe
      · rintro rfl
        rcases he with z | z
        · exact nown c b hc z
        · rw [hc] at z; cases z; exact hb rfl
end

/-! ### kept unless tracked; of the frames at fs (the callers') the slots may change (an exception that passes writes there); of the records at ex (iterators) nothing is said -/
structure Un (fs ex : List Addr) (H H' : Hp) (h h' : Heap) : Prop where
  keep : ∀ b o, h.get? b = some o → H b = none → b ∉ fs → b ∉ ex → h'.get? b = some o
  slot : ∀ b o, h.get? b = some o → H b = none → b ∈ fs → b ∉ ex → ∃ sl, h'.get? b = some { o with slots := sl }
  free : ∀ b o, h.get? b = some o → H b = none → b ∉ ex → H' b = none
  there : ∀ b o, h.get? b = some o → b ∉ ex → ∃ o', h'.get? b = some o'
  tups : ∀ b xs, H b = some (.tup xs) → H' b = some (.tup xs)
  frzs : ∀ b o u, H b = some (.frz o u) → H' b = some (.frz o u)
  tbls : ∀ b ps, H b = some (.tbl ps) → ∃ more, H' b = some (.tbl (ps ++ more))
section
variable {fs fs' ex ex' : List Addr} {H H1 H2 : Hp} {h h1 h2 h' : Heap} {a x e : Addr} {o : HO}
theorem Un.any (u : Un fs ex H H1 h h1) {b : Addr} {ob : Obj} (q : h.get? b = some ob) (n : H b = none) (hx : b ∉ ex) : ∃ sl, h1.get? b = some { ob with slots := sl } := by
  by_cases hb : b ∈ fs
  · exact u.slot b ob q n hb hx
  · exact ⟨ob.slots, u.keep b ob q n hb hx⟩
theorem Un.kept (k : ∀ b u, h.get? b = some u → h'.get? b = some u) : Un fs ex H H h h' :=
  ⟨fun b ob q _ _ _ => k b ob q, fun b ob q _ _ _ => ⟨ob.slots, k b ob q⟩, fun _ _ _ n _ => n, fun b ob q _ => ⟨ob, k b ob q⟩, fun _ _ q => q, fun _ _ _ q => q, fun _ ps q => ⟨#[], by rw [q]; simp⟩⟩
theorem Un.refl : Un fs ex H H h h := Un.kept fun _ _ q => q
theorem Un.laid (k : ∀ b u, h.get? b = some u → h'.get? b = some u) (hp : h.objs.size ≤ a) (hn : H a = none) : Un fs ex H (upd H a o) h h' where
  keep := fun b u q _ _ _ => k b u q
  slot := fun b u q _ _ _ => ⟨u.slots, k b u q⟩
  free := fun b u q n _ => by rw [upd_ne (Nat.ne_of_lt (Nat.lt_of_lt_of_le (Heap.lt_size q) hp))]; exact n
  there := fun b u q _ => ⟨u, k b u q⟩
  tups := fun b xs q => by rw [upd_ne (ne_of_none q hn)]; exact q
  frzs := fun b u xs q => by rw [upd_ne (ne_of_none q hn)]; exact q
  tbls := fun b ps q => ⟨#[], by rw [upd_ne (ne_of_none q hn), q]; simp⟩
theorem Un.write (mu : Mut (H x)) (he : e = x ∨ H e = some (.own x)) (k : ∀ b u, b ≠ e → h.get? b = some u → h'.get? b = some u) (heo : ∃ u, h'.get? e = some u) : Un fs ex H (upd H x o) h h' := by
  have hx : ∀ b, H b = none → b ≠ x := fun b n z => by subst z; rw [n] at mu; exact mu
  have hb : ∀ b, H b = none → b ≠ e := fun b n z => by
    subst z
    rcases he with r | r
    · exact hx b n r
    · rw [n] at r; cases r
  have hm : ∀ b u, H b = some u → ¬ Mut (some u) → b ≠ x := fun b u q nm z => by subst z; rw [q] at mu; exact nm mu
  refine ⟨fun b u q n _ _ => k b u (hb b n) q, fun b u q n _ _ => ⟨u.slots, k b u (hb b n) q⟩, fun b u q n _ => by rw [upd_ne (hx b n)]; exact n, fun b u q _ => ?_,
    fun b xs q => by rw [upd_ne (hm b _ q fun z => z)]; exact q, fun b u xs q => by rw [upd_ne (hm b _ q fun z => z)]; exact q, fun b ps q => ⟨#[], by rw [upd_ne (hm b _ q fun z => z), q]; simp⟩⟩
  by_cases hbe : b = e
  · subst hbe; exact heo
  · exact ⟨u, k b u hbe q⟩
end

/-! ### the heap without what is tracked -/
def trk (h : Heap) (H : Hp) : List Addr := (List.range h.objs.size).filter fun a => (H a).isSome
def hidT (h : Heap) (H : Hp) : Heap := PySem.W.hideAll h (trk h H)
theorem hidT_size (h : Heap) (H : Hp) : (hidT h H).objs.size = h.objs.size := PySem.W.hideAll_size _ _
theorem hidT_get {h : Heap} {H : Hp} {b : Addr} {o : Obj} (e : h.get? b = some o) (n : H b = none) : (hidT h H).get? b = some o :=
  PySem.W.hideAll_get _ e fun hm => by
    have q : (H b).isSome = true := (List.mem_filter.mp hm).2
    rw [n] at q; simp at q
theorem of_hidT {h : Heap} {H : Hp} {b : Addr} {o : Obj} (e : (hidT h H).get? b = some o) : h.get? b = some o ∧ H b = none := by
  have e' : h.get? b = some o := PySem.W.of_hideAll (trk h H) e
  refine ⟨e', ?_⟩
  cases q : H b with
  | none => rfl
  | some x =>
    have hm : b ∈ trk h H := List.mem_filter.mpr ⟨List.mem_range.mpr (Heap.lt_size e'), by simp [q]⟩
    have z : (hidT h H).get? b = none := PySem.W.hideAll_none (trk h H) hm
    rw [z] at e; cases e

/-! ### OpenK's ledger, filled with every new object but one -/
def allNews (g h : Heap) (L : Addr) : List (Addr × Obj) := (List.range h.objs.size).filterMap fun a => if a = L ∨ (g.get? a).isSome = true then none else (h.get? a).map fun o => (a, o)
def rest (g h : Heap) (L d : Addr) : List (Addr × Obj) := (allNews g h L).filter fun p => decide (p.1 ≠ d)
end L2

namespace L2
open PySem PySem.Spec PyProof.Rows

/-- the module's facts, over the base: the heap at the law's entry without what is tracked there -/
structure Mod (K : PySem.W.Frag) (mg : Str → Option Value) (base : Heap) : Prop where
  kin : K.In base
  glob : base.Ns mainGlobals mg
  blt : ∃ mb, base.Ns builtinsNs mb ∧ ∀ x : Str, x ≠ "__name__" → mb x = bootBuiltins x
  nolimit : base.NoLimit

/-- the context: a def's body (or a comprehension's block) running. base: fixed through the whole law; s₀, H₀: the entry; outer: the frames whose slots others may change (a def's callers); stack: all frames that run;
   ex: iterators that were made ahead of the entry and are walked here (a comprehension's); fn: the names whose cells were made at the entry (a def: all; a comprehension's block: its own); calm: not within an except suite; pn: pins that every state bears; xe: what is wanted of an exception that leaves the code -/
structure Cx where
  prog : Program
  w : World
  K : PySem.W.Frag
  mg : Str → Option Value
  base : Heap
  A : Around
  N : List Str
  s₀ : Shared
  H₀ : Hp
  env : Env
  outer : List Env
  stack : List Env
  ex : List Addr
  fn : Str → Bool
  calm : Bool
  pn : List (Addr × Obj)
  xe : Value → Shared → Prop
/-- the callers' frames -/
def frs (l : List Env) : List Addr := l.filterMap (·.frame)
abbrev Cx.fs (X : Cx) : List Addr := frs X.outer

def Vis (sc : Scope) (x : Str) : Prop := sc.names.lookup x = some .local ∨ sc.names.lookup x = some .cell ∨ sc.names.lookup x = some .free
def Loc (sc : Scope) (x : Str) : Prop := sc.names.lookup x = some .local ∨ sc.names.lookup x = some .cell
def Look (env : Env) (h : Heap) (m : Str → Option Value) (x : Str) (u : Value) : Prop :=
  (env.kindOf x = some .local ∧ m x = some u) ∨ ((env.kindOf x = some .cell ∨ env.kindOf x = some .free) ∧ ∃ c, env.cells.lookup x = some c ∧ h.IsCell c (some u))

structure Cx.Ok (X : Cx) : Prop where
  mod : Mod X.K X.mg X.base
  kind : X.env.scope.kind = .function
  glob : X.env.globals = mainGlobals
  blt : X.env.builtins = builtinsNs
  above : X.s₀.heap.objs.size ≤ X.env.locals
  inj : ∀ x y c, X.env.cells.lookup x = some c → X.env.cells.lookup y = some c → x = y
  has : ∀ x, (X.env.kindOf x = some .cell ∨ X.env.kindOf x = some .free) → ∃ c, X.env.cells.lookup x = some c
  cab : ∀ x c, X.fn x = true → X.env.cells.lookup x = some c → X.s₀.heap.objs.size ≤ c
  hd : X.calm = true → X.A.handled = none
  frames : X.A.frames = some X.stack
  stk : X.stack = X.outer ∨ (X.stack = X.env :: X.outer ∧ X.env.frame = some X.env.locals)
  exf : ∀ b ∈ X.ex, b ≠ X.env.locals ∧ ∀ x c, X.env.cells.lookup x = some c → c ≠ b
  bs : ∀ b o, X.base.get? b = some o → X.s₀.heap.get? b = some o ∧ X.H₀ b = none
  bsz : X.base.objs.size ≤ X.s₀.heap.objs.size
  noex : ∀ b o, X.base.get? b = some o → b ∉ X.ex
  exfs : ∀ b ∈ X.ex, b ∉ X.fs
  funs : X.s₀.heap.FunFrames X.base X.outer
  frf : ∀ b ∈ X.fs, X.H₀ b = none

structure Inv (X : Cx) (pins : List (Addr × Obj)) (σ : List (Option V)) (H : Hp) (s : Shared) : Prop where
  ok : X.Ok
  os : s.os = X.s₀.os
  bare : AllBare s.gens
  base : Un X.fs X.ex X.H₀ H X.s₀.heap s.heap
  loc : ∃ m, s.heap.Ns X.env.locals m ∧ ∀ (i : Nat) (x : Str) (v : V), X.N[i]? = some x → σ[i]? = some (some v) → Vis X.env.scope x → ∃ u, RelV v u ∧ Look X.env s.heap m x u
  cell : ∀ x c, X.env.cells.lookup x = some c → ∃ v, s.heap.IsCell c v
  free : H X.env.locals = none
  freeC : ∀ x c, X.env.cells.lookup x = some c → H c = none
  pin : ∀ p ∈ X.pn ++ pins, s.heap.get? p.1 = some p.2 ∧ H p.1 = none ∧ p.1 ≠ X.env.locals ∧ p.1 ∉ X.fs ∧ ∀ v, p.2.data ≠ .cell v
  hok : HOk X.prog X.w H s.heap
  len : σ.length = X.N.length

section
variable {X : Cx} {pins : List (Addr × Obj)} {σ : List (Option V)} {H H' : Hp} {s : Shared} {h' : Heap}

theorem Cx.Ok.nofr (ok : X.Ok) {b : Addr} {o : Obj} (e : X.base.get? b = some o) : b ∉ X.fs := fun hb => by
  have := (ok.funs.mem hb).1
  rw [e] at this; cases this
theorem Inv.bs (I : Inv X pins σ H s) : ∀ b o, X.base.get? b = some o → s.heap.get? b = some o ∧ H b = none := fun b o e =>
  ⟨I.base.keep b o (I.ok.bs b o e).1 (I.ok.bs b o e).2 (I.ok.nofr e) (I.ok.noex b o e), I.base.free b o (I.ok.bs b o e).1 (I.ok.bs b o e).2 (I.ok.noex b o e)⟩
theorem Inv.bk (I : Inv X pins σ H s) : ∀ b o, X.base.get? b = some o → s.heap.get? b = some o := fun b o e => (I.bs b o e).1
theorem Inv.mod (I : Inv X pins σ H s) : Mod X.K X.mg X.base := I.ok.mod
theorem Inv.kIn (I : Inv X pins σ H s) : X.K.In s.heap := I.ok.mod.kin.keeps I.bk
/-- the frame over the base: for OpenK's rules (K.In X.base is I.mod.kin) -/
theorem Inv.fr (I : Inv X pins σ H s) : ∃ m, Fr X.base X.env.locals s.heap m :=
  let ⟨m, hn, _⟩ := I.loc
  ⟨m, hn, I.bk, Nat.le_trans I.ok.bsz I.ok.above⟩
theorem Inv.lt (I : Inv X pins σ H s) : X.env.locals < s.heap.objs.size := let ⟨_, hn, _⟩ := I.loc; hn.lt
theorem Inv.sz (I : Inv X pins σ H s) : X.s₀.heap.objs.size ≤ s.heap.objs.size := Nat.le_trans I.ok.above (Nat.le_of_lt I.lt)
theorem Inv.nofs (I : Inv X pins σ H s) {a : Addr} (h : s.heap.objs.size ≤ a) : a ∉ X.fs := fun hb => by
  obtain ⟨_, o, ho, _⟩ := I.ok.funs.mem hb
  exact absurd (Nat.lt_of_lt_of_le (Heap.lt_size ho) (Nat.le_trans I.sz h)) (Nat.lt_irrefl _)
theorem Inv.cne (I : Inv X pins σ H s) : ∀ x c, X.env.cells.lookup x = some c → c ≠ X.env.locals := fun x c e z => by
  obtain ⟨v, o, ho, hd⟩ := I.cell x c e
  obtain ⟨m, ⟨o', es, ep, ho', hd', _⟩, _⟩ := I.loc
  rw [z, ho'] at ho; cases ho; rw [hd'] at hd; cases hd
theorem Inv.funs (I : Inv X pins σ H s) : s.heap.FunFrames X.base X.outer := by
  have all : ∀ (l : List Env), (∀ b ∈ frs l, b ∈ X.fs) → X.s₀.heap.FunFrames X.base l → s.heap.FunFrames X.base l := by
    intro l
    induction l with
    | nil => intro _ _; trivial
    | cons env r ih =>
      intro hs hl
      obtain ⟨hk, ⟨L, o, hf, hn, ho, hd⟩, hr⟩ := hl
      have hL : L ∈ X.fs := hs L (by unfold frs; rw [List.filterMap_cons, hf]; exact List.mem_cons_self)
      obtain ⟨sl, e⟩ := I.base.slot L o ho (I.ok.frf L hL) hL fun z => I.ok.exfs L z hL
      exact ⟨hk, ⟨L, _, hf, hn, e, hd⟩, ih (fun b hb => hs b (by unfold frs; rw [List.filterMap_cons, hf]; exact List.mem_cons_of_mem _ hb)) hr⟩
  exact all X.outer (fun _ hb => hb) I.ok.funs

/-- the frames that run, for a call -/
theorem Inv.stack (I : Inv X pins σ H s) : s.heap.FunFrames X.base X.stack := by
  rcases I.ok.stk with e | ⟨e, hf⟩
  · rw [e]; exact I.funs
  · rw [e]
    obtain ⟨m, hn, _⟩ := I.loc
    refine .cons (by rw [I.ok.kind]; decide) hf hn ?_ I.funs
    exact Heap.get?_none_of_le (Nat.le_trans I.ok.bsz I.ok.above)
theorem Inv.stkSub (I : Inv X pins σ H s) : ∀ b ∈ frs X.stack, b ∈ X.env.locals :: X.fs := fun b hb => by
  rcases I.ok.stk with e | ⟨e, hf⟩
  · rw [e] at hb; exact List.mem_cons_of_mem _ hb
  · rw [e] at hb
    unfold frs at hb
    rw [List.filterMap_cons, hf] at hb
    exact hb
theorem Inv.stkFree (I : Inv X pins σ H s) : ∀ b ∈ frs X.stack, H b = none := fun b hb => by
  rcases List.mem_cons.mp (I.stkSub b hb) with e | hb
  · rw [e]; exact I.free
  · obtain ⟨_, o, ho, _⟩ := I.ok.funs.mem hb
    exact I.base.free b o ho (I.ok.frf b hb) fun z => I.ok.exfs b z hb

/-- THE STEP: the untracked objects but the frame and the records at ch are kept (the callers' frames up to slots), the frame's map is kept, the new abstract heap is held -/
theorem Inv.step {g' : Array GenState} {t' : Nat} {d' : Drawn} {ch : List Addr} (I : Inv X pins σ H s)
    (hch : ∀ b ∈ ch, (b ∈ X.ex ∨ X.s₀.heap.objs.size ≤ b) ∧ b ≠ X.env.locals ∧ (∀ x c, X.env.cells.lookup x = some c → c ≠ b) ∧ ∀ p ∈ X.pn ++ pins, p.1 ≠ b)
    (keep : ∀ b o, b ≠ X.env.locals → b ∉ X.fs → b ∉ ch → s.heap.get? b = some o → H b = none → h'.get? b = some o)
    (slot : ∀ b o, b ≠ X.env.locals → b ∈ X.fs → b ∉ ch → s.heap.get? b = some o → H b = none → ∃ sl, h'.get? b = some { o with slots := sl }) (free : ∀ b o, b ∉ ch → s.heap.get? b = some o → H b = none → H' b = none)
    (there : ∀ b o, b ∉ ch → s.heap.get? b = some o → ∃ o', h'.get? b = some o')
    (tups : ∀ b xs, H b = some (.tup xs) → H' b = some (.tup xs)) (frzs : ∀ b o u, H b = some (.frz o u) → H' b = some (.frz o u)) (tbls : ∀ b ps, H b = some (.tbl ps) → ∃ more, H' b = some (.tbl (ps ++ more)))
    (ns : ∀ m, s.heap.Ns X.env.locals m → h'.Ns X.env.locals m) (hok : HOk X.prog X.w H' h') (hg : AllBare g') :
    Inv X pins σ H' { s with heap := h', gens := g', drawn := d', toks := t' } := by
  have neL : ∀ b o, X.s₀.heap.get? b = some o → b ≠ X.env.locals := fun b o e => Nat.ne_of_lt (Nat.lt_of_lt_of_le (Heap.lt_size e) I.ok.above)
  have neC : ∀ b o, X.s₀.heap.get? b = some o → b ∉ X.ex → b ∉ ch := fun b o e hx hb => by
    rcases (hch b hb).1 with z | z
    · exact hx z
    · exact absurd (Nat.lt_of_lt_of_le (Heap.lt_size e) z) (Nat.lt_irrefl _)
  have cellK : ∀ x c, X.env.cells.lookup x = some c → ∀ v, s.heap.IsCell c v → h'.IsCell c v := fun x c e v ⟨o, ho, hd⟩ => by
    have nch : c ∉ ch := fun z => (hch c z).2.2.1 x c e rfl
    by_cases hc : c ∈ X.fs
    · obtain ⟨sl, q⟩ := slot c o (I.cne x c e) hc nch ho (I.freeC x c e)
      exact ⟨_, q, hd⟩
    · exact ⟨o, keep c o (I.cne x c e) hc nch ho (I.freeC x c e), hd⟩
  refine ⟨I.ok, I.os, hg, ⟨fun b o e n hb hx => ?_, fun b o e n hb hx => ?_, fun b o e n hx => ?_, fun b o e hx => ?_, fun b xs e => tups b xs (I.base.tups b xs e), fun b o xs e => frzs b o xs (I.base.frzs b o xs e), fun b ps e => ?_⟩, ?_, fun x c e => ?_, ?_, fun x c e => ?_, fun p hp => ?_, hok, I.len⟩
  · exact keep b o (neL b o e) hb (neC b o e hx) (I.base.keep b o e n hb hx) (I.base.free b o e n hx)
  · obtain ⟨sl, e1⟩ := I.base.slot b o e n hb hx
    obtain ⟨sl', e2⟩ := slot b _ (neL b o e) hb (neC b o e hx) e1 (I.base.free b o e n hx)
    exact ⟨sl', e2⟩
  · obtain ⟨o', e1⟩ := I.base.there b o e hx
    exact free b o' (neC b o e hx) e1 (I.base.free b o e n hx)
  · obtain ⟨o', e1⟩ := I.base.there b o e hx
    exact there b o' (neC b o e hx) e1
  · obtain ⟨m1, e1⟩ := I.base.tbls b ps e
    obtain ⟨m2, e2⟩ := tbls b _ e1
    exact ⟨m1 ++ m2, by rw [e2, Array.append_assoc]⟩
  · obtain ⟨m, hn, hl⟩ := I.loc
    refine ⟨m, ns m hn, fun i x v e1 e2 e3 => ?_⟩
    obtain ⟨u, r, l⟩ := hl i x v e1 e2 e3
    refine ⟨u, r, ?_⟩
    rcases l with l | ⟨k, c, e, z⟩
    · exact .inl l
    · exact .inr ⟨k, c, e, cellK x c e _ z⟩
  · obtain ⟨v, z⟩ := I.cell x c e
    exact ⟨v, cellK x c e v z⟩
  · obtain ⟨m, ⟨o, _, _, ho, _⟩, _⟩ := I.loc
    exact free _ o (fun z => (hch _ z).2.1 rfl) ho I.free
  · obtain ⟨v, o, ho, hd⟩ := I.cell x c e
    exact free c o (fun z => (hch c z).2.2.1 x c e rfl) ho (I.freeC x c e)
  · obtain ⟨e, n, ne, nf, d⟩ := I.pin p hp
    have nch : p.1 ∉ ch := fun z => (hch p.1 z).2.2.2 p hp rfl
    exact ⟨keep p.1 p.2 ne nf nch e n, free p.1 p.2 nch e n, ne, nf, d⟩
/-- .. where the frame's own object is kept too -/
theorem Inv.un {t' : Nat} (I : Inv X pins σ H s) (u : Un X.fs [] H H' s.heap h') (hok : HOk X.prog X.w H' h') : Inv X pins σ H' { s with heap := h', toks := t' } := by
  obtain ⟨m, ⟨o, es, ep, ho, r⟩, _⟩ := id I.loc
  obtain ⟨sl, hL⟩ := u.any ho I.free (by simp)
  exact I.step (g' := s.gens) (d' := s.drawn) (ch := []) (fun _ z => nomatch z) (fun b o _ hb _ e n => u.keep b o e n hb (by simp)) (fun b o _ hb _ e n => u.slot b o e n hb (by simp)) (fun b o _ e n => u.free b o e n (by simp)) (fun b o _ e => u.there b o e (by simp)) u.tups u.frzs u.tbls (fun m' hm => by
    obtain ⟨o', es', ep', ho', r'⟩ := hm
    rw [ho] at ho'; cases ho'
    exact ⟨_, es', ep', hL, r'⟩) hok I.bare
/-- behind a call (or a comprehension's block): the slots of this frame may have changed too, the records at ch may have turned -/
theorem Inv.call {g' : Array GenState} {t' : Nat} {d' : Drawn} {ch : List Addr} (I : Inv X pins σ H s) (u : Un (frs X.stack) ch H H' s.heap h') (hok : HOk X.prog X.w H' h') (hg : AllBare g')
    (hch : ∀ b ∈ ch, (b ∈ X.ex ∨ X.s₀.heap.objs.size ≤ b) ∧ b ≠ X.env.locals ∧ (∀ x c, X.env.cells.lookup x = some c → c ≠ b) ∧ ∀ p ∈ X.pn ++ pins, p.1 ≠ b) :
    Inv X pins σ H' { s with heap := h', gens := g', drawn := d', toks := t' } := by
  obtain ⟨m, ⟨o, es, ep, ho, r⟩, _⟩ := id I.loc
  obtain ⟨sl, hL⟩ := u.any ho I.free fun z => (hch _ z).2.1 rfl
  exact I.step (ch := ch) hch (fun b o hL hb hc e n => u.keep b o e n (fun z => (List.mem_cons.mp (I.stkSub b z)).elim hL hb) hc) (fun b o _ _ hc e n => u.any e n hc) (fun b o hc e n => u.free b o e n hc) (fun b o hc e => u.there b o e hc) u.tups u.frzs u.tbls (fun m' hm => by
    obtain ⟨o', es', ep', ho', r'⟩ := hm
    rw [ho] at ho'; cases ho'
    exact ⟨_, es', ep', hL, r'⟩) hok hg
/-- an untracked record of ours (an iterator) has turned -/
theorem Inv.turned {t' : Nat} {it : Addr} (I : Inv X pins σ H s) (k : ∀ b o, b ≠ it → s.heap.get? b = some o → h'.get? b = some o) (hn : H it = none) (hL : it ≠ X.env.locals)
    (h1 : it ∈ X.ex ∨ X.s₀.heap.objs.size ≤ it) (h2 : ∀ x c, X.env.cells.lookup x = some c → c ≠ it) (h3 : ∀ p ∈ X.pn ++ pins, p.1 ≠ it) : Inv X pins σ H { s with heap := h', toks := t' } := by
  have nit : ∀ b u, H b = some u → b ≠ it := fun b u e z => by rw [z, hn] at e; cases e
  refine I.step (g' := s.gens) (d' := s.drawn) (ch := [it]) (fun b hb => ?_) (fun b o _ _ hc e _ => k b o (fun z => hc (by simp [z])) e) (fun b o _ _ hc e _ => ⟨o.slots, k b o (fun z => hc (by simp [z])) e⟩) (fun _ _ _ _ n => n)
    (fun b o hc e => ⟨o, k b o (fun z => hc (by simp [z])) e⟩) (fun _ _ e => e) (fun _ _ _ e => e) (fun b ps e => ⟨#[], by rw [e]; simp⟩) (fun m hm => ?_) (fun b u e => ?_) I.bare
  · have e : b = it := by simpa using hb
    subst e
    exact ⟨h1, hL, h2, h3⟩
  · obtain ⟨o, es, ep, ho, r⟩ := hm
    exact ⟨o, es, ep, k _ o (Ne.symm hL) ho, r⟩
  · refine (I.hok b u e).stay (fun c v hc q => k c v ?_ q) (fun _ q => q) fun _ _ q => q
    rcases hc with z | z
    · rw [z]; exact nit b u e
    · exact nit c _ z
theorem Inv.tok (I : Inv X pins σ H s) (t : Nat) : Inv X pins σ H { s with toks := t } := I.un (h' := s.heap) (t' := t) Un.refl I.hok
/-- all objects kept -/
theorem Inv.kept {t' : Nat} (I : Inv X pins σ H s) (k : ∀ b u, s.heap.get? b = some u → h'.get? b = some u) : Inv X pins σ H { s with heap := h', toks := t' } := I.un (Un.kept k) (I.hok.kept k)
/-- a new object laid and tracked -/
theorem Inv.laid {a : Addr} {o : HO} {t' : Nat} (I : Inv X pins σ H s) (k : ∀ b u, s.heap.get? b = some u → h'.get? b = some u) (hp : s.heap.objs.size ≤ a) (new : ObjOk X.prog X.w (upd H a o) h' a o) :
    Inv X pins σ (upd H a o) { s with heap := h', toks := t' } := I.un (Un.laid k hp (I.hok.fresh hp)) (I.hok.laid k hp new)
/-- an object written -/
theorem Inv.write {x e : Addr} {o : HO} {t' : Nat} (I : Inv X pins σ H s) (mu : Mut (H x)) (he : e = x ∨ H e = some (.own x)) (k : ∀ b u, b ≠ e → s.heap.get? b = some u → h'.get? b = some u) (heo : ∃ u, h'.get? e = some u)
    (new : ObjOk X.prog X.w (upd H x o) h' x o) : Inv X pins σ (upd H x o) { s with heap := h', toks := t' } := I.un (Un.write mu he k heo) (I.hok.write mu he k heo new)
/-- forgetting slots, pins -/
theorem Inv.weak {σ' : List (Option V)} (I : Inv X pins σ H s) (hl : σ'.length = σ.length) (w : ∀ (i : Nat) v, σ'[i]? = some (some v) → σ[i]? = some (some v)) : Inv X pins σ' H s :=
  ⟨I.ok, I.os, I.bare, I.base, let ⟨m, hn, hl'⟩ := I.loc; ⟨m, hn, fun i x v e1 e2 e3 => hl' i x v e1 (w i v e2) e3⟩, I.cell, I.free, I.freeC, I.pin, I.hok, hl.trans I.len⟩
theorem Inv.pins_of {pins' : List (Addr × Obj)} (I : Inv X pins σ H s) (h : ∀ p ∈ pins', s.heap.get? p.1 = some p.2 ∧ H p.1 = none ∧ p.1 ≠ X.env.locals ∧ p.1 ∉ X.fs ∧ ∀ v, p.2.data ≠ .cell v) : Inv X pins' σ H s :=
  ⟨I.ok, I.os, I.bare, I.base, I.loc, I.cell, I.free, I.freeC, fun p hp => (List.mem_append.mp hp).elim (fun z => I.pin p (List.mem_append_left _ z)) (h p), I.hok, I.len⟩

theorem nodup_ix {N : List Str} (hN : N.Nodup) {i j : Nat} {x : Str} (a : N[i]? = some x) (b : N[j]? = some x) : i = j := by
  obtain ⟨h1, e1⟩ := List.getElem?_eq_some_iff.mp a
  obtain ⟨h2, e2⟩ := List.getElem?_eq_some_iff.mp b
  exact (List.getElem_inj hN).mp (e1.trans e2.symm)

/-- a name is stored; what changed -/
theorem store_ok2 {M : Model} {A : Around} {E : Value → Shared → Prop} {i : Nat} {x : Str} {v : V} {u : Value} {Q : Unit → Shared → Prop} (I : Inv X pins σ H s) (hN : X.N.Nodup) (hi : X.N[i]? = some x) (hx : Loc X.env.scope x) (r : RelV v u)
    (h : ∀ s', Inv X pins (σ.set i (some v)) H s' → (∃ a, Heap.SameBut a s.heap s'.heap ∧ (a = X.env.locals ∨ X.env.cells.lookup x = some a)) → Q () s') (hf : X.fn x = true ∨ X.env.scope.names.lookup x = some .local := by first | exact .inl rfl | exact .inr rfl | assumption) : wpAny M A (storeName X.env x u) Q E s := by
  obtain ⟨m, hn, hl⟩ := id I.loc
  have hcls : (X.env.scope.kind == .class || (X.env.scope.kind == .module && X.env.locals != X.env.globals)) = false := by rw [I.ok.kind]; rfl
  have hiσ : i < σ.length := by rw [I.len]; exact (List.getElem?_eq_some_iff.mp hi).1
  have cne := I.cne
  have tracked : ∀ {a : Addr} {h' : Heap}, (∃ o, s.heap.get? a = some o ∧ H a = none) → Heap.SameBut a s.heap h' → HOk X.prog X.w H h' := fun {a h'} ha hs b ob e => by
    obtain ⟨_, _, hfree⟩ := ha
    refine (I.hok b ob e).stay (fun c w' hc q => (hs.2 c ?_).trans q) (fun _ q => q) fun _ _ q => q
    rintro rfl
    rcases hc with rfl | hc
    · rw [hfree] at e; cases e
    · rw [hfree] at hc; cases hc
  rcases hx with hk | hk
  · refine wpAny_storeName_local hk hn (fun h' hn' hs => ?_) hcls
    obtain ⟨oL, _, _, hoL, _⟩ := id hn
    refine h _ ⟨I.ok, I.os, I.bare, ⟨fun b o e n hb hx => ?_, fun b o e n hb hx => ?_, I.base.free, fun b o e hx => ?_, I.base.tups, I.base.frzs, I.base.tbls⟩, ⟨_, hn', fun j y v' e1 e2 e3 => ?_⟩, fun y c e => ?_, I.free, I.freeC, fun p hp => ?_, tracked ⟨oL, hoL, I.free⟩ hs, by simpa using I.len⟩ ⟨_, hs, .inl rfl⟩
    · exact (hs.2 b (Nat.ne_of_lt (Nat.lt_of_lt_of_le (Heap.lt_size e) I.ok.above))).trans (I.base.keep b o e n hb hx)
    · obtain ⟨sl, e1⟩ := I.base.slot b o e n hb hx
      exact ⟨sl, (hs.2 b (Nat.ne_of_lt (Nat.lt_of_lt_of_le (Heap.lt_size e) I.ok.above))).trans e1⟩
    · obtain ⟨o', e1⟩ := I.base.there b o e hx
      exact ⟨o', (hs.2 b (Nat.ne_of_lt (Nat.lt_of_lt_of_le (Heap.lt_size e) I.ok.above))).trans e1⟩
    · by_cases hj : j = i
      · subst hj
        rw [hi] at e1; cases e1
        rw [List.getElem?_set_self hiσ] at e2
        cases e2
        exact ⟨u, r, .inl ⟨hk, by simp⟩⟩
      · rw [List.getElem?_set_ne (Ne.symm hj)] at e2
        obtain ⟨u', r', q⟩ := hl j y v' e1 e2 e3
        refine ⟨u', r', ?_⟩
        rcases q with ⟨k, e⟩ | ⟨k, c, e, z⟩
        · refine .inl ⟨k, ?_⟩
          have : y ≠ x := fun e => hj (nodup_ix hN e1 (e ▸ hi))
          simp [this, e]
        · exact .inr ⟨k, c, e, z.sameBut hs (cne y c e)⟩
    · obtain ⟨w', z⟩ := I.cell y c e
      exact ⟨w', z.sameBut hs (cne y c e)⟩
    · obtain ⟨e, n, ne, nf, d⟩ := I.pin p hp
      exact ⟨(hs.2 p.1 ne).trans e, n, ne, nf, d⟩
  · have hfn : X.fn x = true := by
      rcases hf with z | z
      · exact z
      · rw [z] at hk; cases hk
    obtain ⟨c, hc⟩ := I.ok.has x (.inl hk)
    obtain ⟨w', z⟩ := I.cell x c hc
    refine wpAny_storeName_cell I.ok.kind hk hc z (fun h' hc' hs => ?_)
    obtain ⟨oc, hoc, hocd⟩ := id z
    refine h { s with heap := h' } ⟨I.ok, I.os, I.bare, ⟨fun b o e n hb hx => ?_, fun b o e n hb hx => ?_, I.base.free, fun b o e hx => ?_, I.base.tups, I.base.frzs, I.base.tbls⟩, ⟨m, hn.sameBut hs (Ne.symm (cne x c hc)), fun j y v' e1 e2 e3 => ?_⟩, fun y c' e => ?_, I.free, I.freeC, fun p hp => ?_, tracked ⟨oc, hoc, I.freeC x c hc⟩ hs, by simpa using I.len⟩ ⟨c, hs, .inr hc⟩
    · exact (hs.2 b (Nat.ne_of_lt (Nat.lt_of_lt_of_le (Heap.lt_size e) (I.ok.cab x c hfn hc)))).trans (I.base.keep b o e n hb hx)
    · obtain ⟨sl, e1⟩ := I.base.slot b o e n hb hx
      exact ⟨sl, (hs.2 b (Nat.ne_of_lt (Nat.lt_of_lt_of_le (Heap.lt_size e) (I.ok.cab x c hfn hc)))).trans e1⟩
    · obtain ⟨o', e1⟩ := I.base.there b o e hx
      exact ⟨o', (hs.2 b (Nat.ne_of_lt (Nat.lt_of_lt_of_le (Heap.lt_size e) (I.ok.cab x c hfn hc)))).trans e1⟩
    · by_cases hj : j = i
      · subst hj
        rw [hi] at e1; cases e1
        rw [List.getElem?_set_self hiσ] at e2
        cases e2
        exact ⟨u, r, .inr ⟨.inl hk, c, hc, hc'⟩⟩
      · rw [List.getElem?_set_ne (Ne.symm hj)] at e2
        obtain ⟨u', r', q⟩ := hl j y v' e1 e2 e3
        refine ⟨u', r', ?_⟩
        rcases q with q | ⟨k, c', e, z'⟩
        · exact .inl q
        · refine .inr ⟨k, c', e, z'.sameBut hs ?_⟩
          rintro rfl
          exact hj (nodup_ix hN e1 (I.ok.inj _ _ _ e hc ▸ hi))
    · by_cases hcc : c' = c
      · subst hcc; exact ⟨_, hc'⟩
      · obtain ⟨w2, z2⟩ := I.cell y c' e
        exact ⟨w2, z2.sameBut hs hcc⟩
    · obtain ⟨e, n, ne, nf, d⟩ := I.pin p hp
      refine ⟨(hs.2 p.1 ?_).trans e, n, ne, nf, d⟩
      intro q
      rw [q, hoc] at e
      have q' : oc = p.2 := Option.some.inj e
      exact d w' (by rw [← q']; exact hocd)
theorem store_ok {M : Model} {A : Around} {E : Value → Shared → Prop} {i : Nat} {x : Str} {v : V} {u : Value} {Q : Unit → Shared → Prop} (I : Inv X pins σ H s) (hN : X.N.Nodup) (hi : X.N[i]? = some x) (hx : Loc X.env.scope x) (r : RelV v u)
    (h : ∀ s', Inv X pins (σ.set i (some v)) H s' → Q () s') (hf : X.fn x = true ∨ X.env.scope.names.lookup x = some .local := by first | exact .inl rfl | exact .inr rfl | assumption) : wpAny M A (storeName X.env x u) Q E s :=
  store_ok2 I hN hi hx r (fun s' I' _ => h s' I') hf
/-- behind a call or a block, the state as it is -/
theorem Inv.call' {s' : Shared} {ch : List Addr} (I : Inv X pins σ H s) (ho : s'.os = s.os) (u : Un (frs X.stack) ch H H' s.heap s'.heap) (hok : HOk X.prog X.w H' s'.heap) (hg : AllBare s'.gens)
    (hch : ∀ b ∈ ch, (b ∈ X.ex ∨ X.s₀.heap.objs.size ≤ b) ∧ b ≠ X.env.locals ∧ (∀ x c, X.env.cells.lookup x = some c → c ≠ b) ∧ ∀ p ∈ X.pn ++ pins, p.1 ≠ b) : Inv X pins σ H' s' := by
  obtain ⟨h', g', d', t', o'⟩ := s'
  have e : o' = s.os := ho
  subst e
  exact I.call (g' := g') (t' := t') (d' := d') u hok hg hch
end

/-! ### the judgements -/
/-- an exception: its class, its own dict's address (where it has one), the abstract heap behind it -/
abbrev XK := Value → Option Addr → Hp → Prop
abbrev St := List (Option V)
abbrev VK := V → Hp → Prop
/-- an expression's reading; a test's; an argument list's -/
abbrev TE := St → Hp → VK → Prop
abbrev TT := St → Hp → (Bool → Hp → Prop) → Prop
abbrev TA := St → Hp → (List V → Hp → Prop) → Prop
/-- what is wanted behind a statement -/
structure Ends where
  nx : St → Hp → Prop
  rt : VK
  bk : St → Hp → Prop := fun _ _ => False
  ct : St → Hp → Prop := fun _ _ => False
abbrev TS := Ends → St → Hp → Prop

def EP (X : Cx) (pins : List (Addr × Obj)) (σ : St) (Q : VK) (u : Value) (s' : Shared) : Prop := ∃ v H', Inv X pins σ H' s' ∧ RelV v u ∧ Q v H'
def TP (X : Cx) (pins : List (Addr × Obj)) (σ : St) (Q : Bool → Hp → Prop) (b : Bool) (s' : Shared) : Prop := ∃ H', Inv X pins σ H' s' ∧ Q b H'
def AP (X : Cx) (pins : List (Addr × Obj)) (σ : St) (Q : List V → Hp → Prop) (us : List Value) (s' : Shared) : Prop := ∃ vs H', Inv X pins σ H' s' ∧ Vals vs us ∧ Q vs H'
def SP (X : Cx) (pins : List (Addr × Obj)) (D : Ends) (f : Flow) (s' : Shared) : Prop :=
  match f with
  | .next => ∃ σ' H', Inv X pins σ' H' s' ∧ D.nx σ' H'
  | .brk => ∃ σ' H', Inv X pins σ' H' s' ∧ D.bk σ' H'
  | .cont => ∃ σ' H', Inv X pins σ' H' s' ∧ D.ct σ' H'
  | .ret u => ∃ v σ' H', Inv X pins σ' H' s' ∧ RelV v u ∧ D.rt v H'

def PE (X : Cx) (e : Expr) (t : TE) : Prop :=
  ∀ (pins : List (Addr × Obj)) (s : Shared) (σ : St) (H : Hp) (Q : VK), Inv X pins σ H s → t σ H Q → wpAny (model X.prog X.w) X.A (eval e X.env) (EP X pins σ Q) X.xe s
def PT (X : Cx) (e : Expr) (t : TT) : Prop :=
  ∀ (pins : List (Addr × Obj)) (s : Shared) (σ : St) (H : Hp) (Q : Bool → Hp → Prop), Inv X pins σ H s → t σ H Q → wpAny (model X.prog X.w) X.A (isTrue e X.env (eval e X.env)) (TP X pins σ Q) X.xe s
/-- a test whatever its 'whole' is (and, or) -/
def PW (X : Cx) (e : Expr) (t : TT) : Prop :=
  ∀ (whole : Sem Value) (pins : List (Addr × Obj)) (s : Shared) (σ : St) (H : Hp) (Q : Bool → Hp → Prop), Inv X pins σ H s → t σ H Q → wpAny (model X.prog X.w) X.A (isTrue e X.env whole) (TP X pins σ Q) X.xe s
theorem PW.pt {X : Cx} {e : Expr} {t : TT} (h : PW X e t) : PT X e t := h _
/-- an argument list (no star), from the left -/
def PA (X : Cx) (es : List Expr) (t : TA) : Prop :=
  ∀ (pos : Pos) (pins : List (Addr × Obj)) (s : Shared) (σ : St) (H : Hp) (Q : List V → Hp → Prop), Inv X pins σ H s → t σ H Q → wpAny (model X.prog X.w) X.A (spliced (backTo pos (starEach es X.env))) (AP X pins σ Q) X.xe s
def PS (X : Cx) (st : Stmt) (t : TS) : Prop :=
  ∀ (pins : List (Addr × Obj)) (s : Shared) (σ : St) (H : Hp) (D : Ends), Inv X pins σ H s → t D σ H → wpAny (model X.prog X.w) X.A (exec st X.env) (SP X pins D) X.xe s
def PSs (X : Cx) (st : List Stmt) (t : TS) : Prop :=
  ∀ (pins : List (Addr × Obj)) (s : Shared) (σ : St) (H : Hp) (D : Ends), Inv X pins σ H s → t D σ H → wpAny (model X.prog X.w) X.A (execs st X.env) (SP X pins D) X.xe s
/-- weaken the end -/
theorem thn {α : Type} {t : Sem α} {Q Q' : α → Shared → Prop} {M : Model} {A : Around} {E : Value → Shared → Prop} {s : Shared} (h : wpAny M A t Q E s) (hQ : ∀ a s, Q a s → Q' a s) : wpAny M A t Q' E s := wpAny_mono h hQ fun _ _ x => x
end L2

namespace L2
open PySem PySem.Spec PyProof.Rows
section
variable {X : Cx}

/-! ### names and constants -/
def tVar (i : Nat) : TE := fun σ H Q => ∃ v, σ[i]? = some (some v) ∧ Q v H
def tC (v : V) : TE := fun _ H Q => Q v H
theorem pe_var {i : Nat} {x : Str} {pos : Pos} (hN : X.N[i]? = some x) (hv : Vis X.env.scope x) (hd : (x == ("__debug__" : Str)) = false := by decide) (hcd : (x == ("__classdict__" : Str)) = false := by decide) : PE X (.Name x pos) (tVar i) := by
  intro pins s σ H Q I h
  obtain ⟨v, e, h⟩ := h
  obtain ⟨m, hn, hl⟩ := I.loc
  obtain ⟨u, r, l⟩ := hl i x v hN e hv
  have fin : EP X pins σ Q u s := ⟨v, H, I, r, h⟩
  rcases l with ⟨hk, hm⟩ | ⟨hk, c, hc, hcell⟩
  · exact wpAny_Name (wpAny_loadName_local I.ok.kind hk hn hm fin) hd
  · rcases hk with hk | hk
    · exact wpAny_Name (wpAny_loadName_cell I.ok.kind hk hc hcell fin) hd
    · exact wpAny_Name (wpAny_loadName_free I.ok.kind hk hc hcell fin hcd) hd
theorem pe_int {i j pos} : PE X (.Constant (.int i) j pos) (tC (.int i)) := fun _ _ _ H _ I h => wpAny_Constant_int ⟨.int i, H, I.tok _, ⟨_, rfl⟩, h⟩
theorem pe_bl {b j pos} : PE X (.Constant (.bool b) j pos) (tC (.bl b)) := fun _ _ _ H _ I h => Constant_bool ⟨.bl b, H, I, rfl, h⟩
theorem pe_str {x j pos} : PE X (.Constant (.str x) j pos) (tC (.str x)) := fun _ _ _ H _ I h => Calls.Constant_str ⟨.str x, H, I.tok _, ⟨_, rfl⟩, h⟩

/-- a global name of the def -/
def Gl (X : Cx) (x : Str) : Prop := X.env.kindOf x = some .globalImplicit
theorem ld_glob {E : Value → Shared → Prop} {pins : List (Addr × Obj)} {s : Shared} {σ : St} {H : Hp} {x : Str} {u : Value} {pos : Pos} {Q : Value → Shared → Prop} (I : Inv X pins σ H s) (hg : Gl X x) (hm : X.mg x = some u) (h : Q u s)
    (hd : (x == ("__debug__" : Str)) = false := by decide) : wpAny (model X.prog X.w) X.A (eval (.Name x pos) X.env) Q E s :=
  Calls.Name_function_global I.ok.kind hg (Calls.loadGlobal_global (by rw [I.ok.glob]; exact I.mod.glob.keeps I.bk) hm h) hd
theorem ld_blt {E : Value → Shared → Prop} {pins : List (Addr × Obj)} {s : Shared} {σ : St} {H : Hp} {x : Str} {u : Value} {pos : Pos} {Q : Value → Shared → Prop} (I : Inv X pins σ H s) (hg : Gl X x) (hm : X.mg x = none) (hv : bootBuiltins x = some u) (h : Q u s)
    (hn : x ≠ "__name__" := by decide) (hd : (x == ("__debug__" : Str)) = false := by decide) : wpAny (model X.prog X.w) X.A (eval (.Name x pos) X.env) Q E s := by
  obtain ⟨mb, h1, h2⟩ := I.mod.blt
  exact Calls.Name_function_global I.ok.kind hg (Calls.loadGlobal_builtin (by rw [I.ok.glob]; exact I.mod.glob.keeps I.bk) hm (by rw [I.ok.blt]; exact h1.keeps I.bk) ((h2 x hn).trans hv) h) hd
/-- a module's constant, a class, a function, as a value -/
theorem pe_glob {x : Str} {v : V} {u : Value} {pos : Pos} (hg : Gl X x) (hm : X.mg x = some u) (r : RelV v u) (hd : (x == ("__debug__" : Str)) = false := by decide) : PE X (.Name x pos) (tC v) :=
  fun _ _ _ H _ I h => ld_glob I hg hm ⟨v, H, I, r, h⟩ hd
theorem pe_bltn {x : Str} {v : V} {u : Value} {pos : Pos} (hg : Gl X x) (hm : X.mg x = none) (hv : bootBuiltins x = some u) (r : RelV v u) (hn : x ≠ "__name__" := by decide) (hd : (x == ("__debug__" : Str)) = false := by decide) : PE X (.Name x pos) (tC v) :=
  fun _ _ _ H _ I h => ld_blt I hg hm hv ⟨v, H, I, r, h⟩ hn hd

/-! ### arithmetic -/
variable {a b : Expr} {ta tb : TE} {pos : Pos}
/-! ### comparisons -/
/-- a comparison as a value, as a test -/
def tB (t : TE) : TT := fun σ H Q => t σ H fun x H1 => ∃ c, x = .bl c ∧ Q c H1
/-- an expression whose value is a bool, as a test -/
theorem pt_val {e : Expr} {t : TE} (h : PE X e t) (he : ∀ whole, isTrue e X.env whole = (do let v ← whole; standAt e.pos; holding [v] (truthy v)) := by intro _; rfl) : PT X e (tB t) := by
  intro pins s σ H Q I hw
  refine isTrue_plain (thn (h pins s σ H _ I hw) fun v s1 ⟨x, H1, I1, r1, q1⟩ => ?_) (he _)
  obtain ⟨d, rfl, q⟩ := q1
  cases r1
  exact wpAny_truthy_bool ⟨H1, I1, q⟩

/-! ### and, or, not -/
variable {tA tB' : TT} {rest : List Expr}
def tOr (t u : TT) : TT := fun σ H Q => t σ H fun c H1 => if c = true then Q true H1 else u σ H1 Q
def tNot (t : TT) : TT := fun σ H Q => t σ H fun c H1 => Q (!c) H1
theorem pw_or1 (ha : PT X a tA) : PW X (.BoolOp .Or [a] pos) tA := by
  intro wh pins s σ H Q I h
  refine isTrue_or (thn (ha pins s σ H Q I h) fun c s1 e => ?_)
  cases c with
  | false => exact isTrue_or_nil e
  | true => exact e
theorem pw_or (ha : PT X a tA) (hb : PW X (.BoolOp .Or (b :: rest) pos) tB') : PW X (.BoolOp .Or (a :: b :: rest) pos) (tOr tA tB') := by
  intro wh pins s σ H Q I h
  refine isTrue_or (thn (ha pins s σ H _ I h) fun c s1 ⟨H1, I1, q1⟩ => ?_)
  cases c with
  | true => exact ⟨H1, I1, q1⟩
  | false => exact hb wh pins s1 σ H1 Q I1 q1
theorem pt_not (ha : PT X a tA) : PT X (.UnaryOp .Not a pos) (tNot tA) := by
  intro pins s σ H Q I h
  exact isTrue_not (ha pins s σ H (fun c H1 => Q (!c) H1) I h)
def tOrV (ta tb : TE) : TE := fun σ H Q => ta σ H fun x H1 => ∃ c, x = .bl c ∧ if c = true then Q (.bl true) H1 else tb σ H1 Q
theorem pe_one {op} {t : TE} (h : PE X a t) : PE X (.BoolOp op [a] pos) t := fun pins s σ H Q I hw => BoolOp_one (h pins s σ H Q I hw)
theorem pe_or (ha : PE X a ta) (hb : PE X (.BoolOp .Or (b :: rest) pos) tb) : PE X (.BoolOp .Or (a :: b :: rest) pos) (tOrV ta tb) := by
  intro pins s σ H Q I h
  refine BoolOp_or (thn (ha pins s σ H _ I h) fun v s1 ⟨x, H1, I1, r1, q1⟩ => ?_)
  obtain ⟨c, rfl, q1⟩ := q1
  cases r1
  refine wpAny_truthy_bool ?_
  cases c with
  | false => exact hb pins s1 σ H1 Q I1 q1
  | true => exact ⟨.bl true, H1, I1, rfl, q1⟩
end
end L2

namespace L2
open PySem PySem.Spec PyProof.Rows

/-! ### a list, a tuple that is read: tracked, frozen, or an object of the module -/
def SqL (K : PySem.W.Frag) (H : Hp) (a : Addr) (xs : List V) : Prop :=
  Rd H a (.lst xs) ∨
    ∃ (o : Obj) (its : Array Value) (n : Nat), K.lookup a = some o ∧ o.cls = .type "list" ∧ o.dict = none ∧ o.data = .seq its n ∧ its.size ≤ sizeLine ∧ Vals xs its.toList
def SqT (K : PySem.W.Frag) (H : Hp) (a : Addr) (xs : List V) : Prop :=
  Rd H a (.tup xs) ∨
    ∃ (o : Obj) (its : Array Value) (n : Nat), K.lookup a = some o ∧ o.cls = .type "tuple" ∧ o.data = .seq its n ∧ its.size ≤ sizeLine ∧ Vals xs its.toList
def absV : Value → Option V
  | .none => some .non
  | .bool b => some (.bl b)
  | .int i _ => some (.int i)
  | .str x _ => some (.str x)
  | .bytes b _ => some (.byt b)
  | .float b _ => some (.flt b)
  | .ref a => some (.ref a)
  | .type n => some (.ty n)
  | _ => none
theorem RelV.abs {x : V} {u : Value} (r : RelV x u) : absV u = some x := by
  cases x with
  | non => cases r; rfl
  | bl _ => cases r; rfl
  | int _ => obtain ⟨t, rfl⟩ := r; rfl
  | str _ => obtain ⟨t, rfl⟩ := r; rfl
  | byt _ => obtain ⟨t, rfl⟩ := r; rfl
  | flt _ => obtain ⟨t, rfl⟩ := r; rfl
  | ref _ => cases r; rfl
  | ty _ => cases r; rfl
theorem RelV.inj {x y : V} {u : Value} (r : RelV x u) (q : RelV y u) : x = y := Option.some.inj (r.abs.symm.trans q.abs)
theorem Vals.inj : ∀ {xs ys : List V} {us : List Value}, Vals xs us → Vals ys us → xs = ys
  | _, _, _, .nil, .nil => rfl
  | _, _, _, .cons r t, .cons r' t' => by rw [r.inj r', Vals.inj t t']
section
variable {X : Cx} {pins : List (Addr × Obj)} {σ : St} {H : Hp} {s : Shared} {a : Addr} {xs ys : List V}
theorem SqL.of {K : PySem.W.Frag} (h : H a = some (.lst xs)) : SqL K H a xs := .inl (.inl h)
theorem SqT.of {K : PySem.W.Frag} (h : H a = some (.tup xs)) : SqT K H a xs := .inl (.inl h)
theorem Inv.list (I : Inv X pins σ H s) (h : SqL X.K H a xs) : ∃ its : List Value, Vals xs its ∧ PlainL s.heap a its.toArray ∧ xs.length ≤ sizeLine := by
  rcases h with h | ⟨o, its, n, hk, hc, hd, hs, hz, r⟩
  · obtain ⟨z, its, n, r, e⟩ := h.ok I.hok
    exact ⟨its, r, ⟨_, n, e, rfl, rfl, rfl⟩, z⟩
  · refine ⟨its.toList, r, ⟨o, n, I.kIn a o hk, hc, hd, by simpa using hs⟩, ?_⟩
    have e := r.length
    simp only [Array.length_toList] at e
    omega
theorem Inv.tuple (I : Inv X pins σ H s) (h : SqT X.K H a xs) : ∃ its : List Value, Vals xs its ∧ IsTup s.heap a its.toArray ∧ xs.length ≤ sizeLine := by
  rcases h with h | ⟨o, its, n, hk, hc, hs, hz, r⟩
  · obtain ⟨z, its, r, p⟩ := h.ok I.hok
    exact ⟨its, r, p, z⟩
  · refine ⟨its.toList, r, ⟨o, I.kIn a o hk, hc, n, by simpa using hs⟩, ?_⟩
    have e := r.length
    simp only [Array.length_toList] at e
    omega
theorem Inv.list_inj (I : Inv X pins σ H s) (h : SqL X.K H a xs) (h' : SqL X.K H a ys) : xs = ys := by
  obtain ⟨its, r, ⟨o, n, e, _, _, d⟩, _⟩ := I.list h
  obtain ⟨its', r', ⟨o', n', e', _, _, d'⟩, _⟩ := I.list h'
  rw [e] at e'; cases e'
  rw [d] at d'
  injection d' with d1 _
  have : its = its' := by simpa using congrArg Array.toList d1
  subst this
  exact r.inj r'
end

/-! ### another wish about exceptions -/
abbrev Cx.wish (X : Cx) (E : Value → Shared → Prop) : Cx := { X with xe := E }
/-- no exception leaves -/
abbrev Cx.nox (X : Cx) : Cx := X.wish fun _ _ => False
theorem Cx.Ok.wish {X : Cx} (ok : X.Ok) (E : Value → Shared → Prop) : (X.wish E).Ok :=
  ⟨ok.mod, ok.kind, ok.glob, ok.blt, ok.above, ok.inj, ok.has, ok.cab, ok.hd, ok.frames, ok.stk, ok.exf, ok.bs, ok.bsz, ok.noex, ok.exfs, ok.funs, ok.frf⟩
theorem Cx.Ok.unwish {X : Cx} {E : Value → Shared → Prop} (ok : (X.wish E).Ok) : X.Ok :=
  ⟨ok.mod, ok.kind, ok.glob, ok.blt, ok.above, ok.inj, ok.has, ok.cab, ok.hd, ok.frames, ok.stk, ok.exf, ok.bs, ok.bsz, ok.noex, ok.exfs, ok.funs, ok.frf⟩
section
variable {X : Cx} {pins : List (Addr × Obj)} {σ : St} {H : Hp} {s : Shared} {E : Value → Shared → Prop}
theorem Inv.wish (I : Inv X pins σ H s) (E : Value → Shared → Prop) : Inv (X.wish E) pins σ H s := ⟨I.ok.wish E, I.os, I.bare, I.base, I.loc, I.cell, I.free, I.freeC, I.pin, I.hok, I.len⟩
theorem Inv.unwish (I : Inv (X.wish E) pins σ H s) : Inv X pins σ H s := ⟨I.ok.unwish, I.os, I.bare, I.base, I.loc, I.cell, I.free, I.freeC, I.pin, I.hok, I.len⟩
theorem SP.unwish {D : Ends} {f : Flow} {s' : Shared} (h : SP (X.wish E) pins D f s') : SP X pins D f s' := by
  cases f with
  | next => obtain ⟨σ', H', I, q⟩ := h; exact ⟨σ', H', I.unwish, q⟩
  | brk => obtain ⟨σ', H', I, q⟩ := h; exact ⟨σ', H', I.unwish, q⟩
  | cont => obtain ⟨σ', H', I, q⟩ := h; exact ⟨σ', H', I.unwish, q⟩
  | ret u => obtain ⟨v, σ', H', I, r, q⟩ := h; exact ⟨v, σ', H', I.unwish, r, q⟩
theorem PSs.nox {st : List Stmt} {t : TS} (h : PSs X.nox st t) : PSs X st t := fun pins s σ H D I hw =>
  wpAny_mono (h pins s σ H D (I.wish _) hw) (fun _ _ q => q.unwish) fun _ _ z => False.elim z
end

/-! ### blocks and small statements -/
section
variable {X : Cx} {st : Stmt} {rest : List Stmt} {t u : TS} {e : Expr} {te : TE} {pos : Pos}
def tNext : TS := fun D σ H => D.nx σ H
def tSeq (t u : TS) : TS := fun D σ H => t { D with nx := u D } σ H
theorem pss_nil : PSs X [] tNext := fun _ _ σ H _ I h => wpAny_execs_nil ⟨σ, H, I, h⟩
theorem pss_cons (h1 : PS X st t) (h2 : PSs X rest u) : PSs X (st :: rest) (tSeq t u) := by
  intro pins s σ H D I h
  refine wpAny_execs_cons (thn (h1 pins s σ H { D with nx := u D } I h) fun f s1 q => ?_)
  cases f with
  | next =>
    obtain ⟨σ', H', I', q⟩ := q
    exact h2 pins s1 σ' H' D I' q
  | ret v => exact q
  | brk => exact q
  | cont => exact q
theorem pss_one (h1 : PS X st t) : PSs X [st] t := by
  intro pins s σ H D I h
  refine wpAny_execs_cons (thn (h1 pins s σ H D I h) fun f s1 q => ?_)
  cases f with
  | next => exact wpAny_execs_nil q
  | ret v => exact q
  | brk => exact q
  | cont => exact q
/-- in a def's body nothing is shown -/
theorem Inv.quiet {pins : List (Addr × Obj)} {σ : St} {H : Hp} {s : Shared} (I : Inv X pins σ H s) : interactive X.env = false := by simp [interactive, I.ok.kind]
/-- an expression whose value is dropped -/
def tDrop (te : TE) : TS := fun D σ H => te σ H fun _ H1 => D.nx σ H1
theorem ps_expr (he : PE X e te) (hs : swapsWith e none pos.line X.env = pure false := by rfl) : PS X (.Expr e pos) (tDrop te) := by
  intro pins s σ H D I h
  exact wpAny_Expr_any (thn (he pins s σ H _ I h) fun v s1 ⟨x, H1, I1, r1, q1⟩ => ⟨σ, H1, I1, q1⟩) I.quiet hs
def tRet (te : TE) : TS := fun D σ H => te σ H D.rt
theorem ps_ret (he : PE X e te) : PS X (.Return (some e) pos) (tRet te) := by
  intro pins s σ H D I h
  exact wpAny_Return_some (thn (he pins s σ H _ I h) fun v s1 ⟨x, H1, I1, r1, q1⟩ => ⟨x, σ, H1, I1, r1, q1⟩)
def tIfS (c : TT) (t u : TS) : TS := fun D σ H => c σ H fun b H1 => if b = true then t D σ H1 else u D σ H1
theorem ps_if {c : Expr} {a b : List Stmt} {tc : TT} (hc : PT X c tc) (ha : PSs X a t) (hb : PSs X b u) : PS X (.If c a b pos) (tIfS tc t u) := by
  intro pins s σ H D I h
  refine wpAny_If (thn (hc pins s σ H _ I h) fun d s1 ⟨H1, I1, q1⟩ => ?_)
  cases d with
  | true => exact ha pins s1 σ H1 D I1 q1
  | false => exact hb pins s1 σ H1 D I1 q1
/-- code that the proof never comes to -/
def tNever : TS := fun _ _ _ => False
theorem ps_never : PS X st tNever := fun _ _ _ _ _ _ h => h.elim
end

/-! ### targets -/
abbrev TG := V → St → Hp → (St → Hp → Prop) → Prop
abbrev TGs := List V → St → Hp → (St → Hp → Prop) → Prop
def PG (X : Cx) (target : Expr) (t : TG) : Prop :=
  ∀ (pins : List (Addr × Obj)) (s : Shared) (σ : St) (H : Hp) (v : V) (u : Value) (Q : St → Hp → Prop), Inv X pins σ H s → RelV v u → t v σ H Q →
    wpAny (model X.prog X.w) X.A (assign target X.env u) (fun _ s' => ∃ σ' H', Inv X pins σ' H' s' ∧ Q σ' H') X.xe s
/-- several targets, one after another -/
def PGs (X : Cx) (ts : List Expr) (t : TGs) : Prop :=
  ∀ (pins : List (Addr × Obj)) (s : Shared) (σ : St) (H : Hp) (vs : List V) (us : List Value) (Q : St → Hp → Prop), Inv X pins σ H s → Vals vs us → t vs σ H Q →
    wpAny (model X.prog X.w) X.A (assignInOrder ((assignEach ts X.env).map (·.2)) us) (fun _ s' => ∃ σ' H', Inv X pins σ' H' s' ∧ Q σ' H') X.xe s
section
variable {X : Cx} {pos : Pos}
def gName (i : Nat) : TG := fun v σ H Q => Q (σ.set i (some v)) H
theorem pg_name {i : Nat} {x : Str} (hN : X.N.Nodup) (hi : X.N[i]? = some x) (hx : Loc X.env.scope x) (hf : X.fn x = true ∨ X.env.scope.names.lookup x = some .local := by first | exact .inl rfl | exact .inr rfl | assumption) : PG X (.Name x pos) (gName i) := by
  intro pins s σ H v u Q I r h
  exact wpAny_assign_Name (store_ok I hN hi hx r (fun s' I' => ⟨_, H, I', h⟩) hf)
def gNil : TGs := fun vs σ H Q => vs = [] ∧ Q σ H
def gCons (t : TG) (u : TGs) : TGs := fun vs σ H Q => ∃ v r, vs = v :: r ∧ t v σ H fun σ' H' => u r σ' H' Q
theorem pgs_nil : PGs X [] gNil := by
  intro pins s σ H vs us Q I r h
  obtain ⟨e, h⟩ := h
  subst e
  cases r
  exact assignInOrder_nil ⟨σ, H, I, h⟩
theorem pgs_cons {e : Expr} {es : List Expr} {t : TG} {u : TGs} (h1 : PG X e t) (h2 : PGs X es u)
    (hs : (assignEach (e :: es) X.env).map (·.2) = assign e X.env :: (assignEach es X.env).map (·.2) := by rfl) : PGs X (e :: es) (gCons t u) := by
  intro pins s σ H vs us Q I r h
  obtain ⟨v, vr, e1, h⟩ := h
  subst e1
  cases r with
  | cons r rr =>
    rw [hs]
    refine assignInOrder_cons (thn (h1 pins s σ H _ _ _ I r h) fun _ s1 ⟨σ1, H1, I1, q1⟩ => ?_)
    exact h2 pins s1 σ1 H1 _ _ Q I1 rr q1
/-- (a, b, ..) = a tuple of that length -/
def gTup (K : PySem.W.Frag) (n : Nat) (t : TGs) : TG := fun v σ H Q => ∃ a xs, v = .ref a ∧ SqT K H a xs ∧ xs.length = n ∧ t xs σ H Q
theorem pg_tup {es : List Expr} {k : Nat} {t : TGs} {n : Nat} (hc : X.calm = true) (h : PGs X es t)
    (hn : (assignEach es X.env).length = n := by rfl) (hst : (assignEach es X.env).findIdx? (·.1) = none := by rfl) : PG X (.Tuple es k pos) (gTup X.K n t) := by
  intro pins s σ H v u Q I r hw
  obtain ⟨a, xs, e1, hq, hl, hw⟩ := hw
  subst e1
  cases r
  obtain ⟨its, rv, ht, hz⟩ := I.tuple hq
  refine assign_Tuple_tuple (I.ok.hd hc) ht (by simp [hn, ← hl, rv.length]) hst fun h' hx => ?_
  have I1 : Inv X pins σ H { s with heap := h' } := I.kept (t' := s.toks) fun b o e => hx b o (Nat.ne_of_lt (Heap.lt_size e)) e
  exact h pins _ σ H xs _ Q I1 (by simpa using rv) hw
/-- target = value -/
def tAsg (te : TE) (g : TG) : TS := fun D σ H => te σ H fun x H1 => g x σ H1 D.nx
/-- name = value -/
theorem ps_set {i : Nat} {x : Str} {e : Expr} {te : TE} {pos' : Pos} (hN : X.N.Nodup) (hi : X.N[i]? = some x) (hx : Loc X.env.scope x) (he : PE X e te) (hs : swapsWith e (some (.Name x pos')) pos.line X.env = pure false := by rfl) (hf : X.fn x = true ∨ X.env.scope.names.lookup x = some .local := by first | exact .inl rfl | exact .inr rfl | assumption) :
    PS X (.Assign [.Name x pos'] e pos) (tAsg te (gName i)) := by
  intro pins s σ H D I h
  refine wpAny_Assign_Name (thn (he pins s σ H _ I h) fun v s1 ⟨y, H1, I1, r1, q1⟩ => ?_) hs
  exact store_ok I1 hN hi hx r1 (fun s2 I2 => ⟨_, H1, I2, q1⟩) hf
end

/-! ### while -/
section
variable {X : Cx} {pos : Pos}
/-- the invariant W with its measure -/
def tWhile (c : TT) (tb : TS) : TS := fun D σ H => ∃ W : Nat → St → Hp → Prop, (∃ m, W m σ H) ∧ ∀ m σ H, W m σ H →
  c σ H fun b H1 => if b = true then ∃ N : St → Hp → Prop, (∀ σ' H', N σ' H' → ∃ m', m' < m ∧ W m' σ' H') ∧ tb { D with nx := N, ct := N, bk := D.nx } σ H1 else D.nx σ H1
theorem ps_while {c : Expr} {body : List Stmt} {tc : TT} {tb : TS} (hp : PassesOwn (model X.prog X.w) X.A X.env X.xe) (hc : PT X c tc) (hb : PSs X body tb) : PS X (.While c body [] pos) (tWhile tc tb) := by
  intro pins s σ H D I h
  obtain ⟨W, ⟨m0, w0⟩, turn⟩ := h
  refine wpAny_While (codeAny_whileLoop (fun n s' => ∃ σ' H', Inv X pins σ' H' s' ∧ W n σ' H') ?_ m0 ⟨σ, H, I, w0⟩)
  rintro n s1 ⟨σ1, H1, I1, w1⟩
  refine wpAny_passesOwn hp (thn (hc pins s1 σ1 H1 _ I1 (turn n σ1 H1 w1)) fun b s2 ⟨H2, I2, q2⟩ => ?_)
  cases b with
  | true =>
    obtain ⟨N, hN, q2⟩ := q2
    rw [if_pos rfl]
    refine wpAny_passesOwn hp (thn (hb pins s2 σ1 H2 _ I2 q2) fun f s3 q3 => ?_)
    cases f with
    | next =>
      obtain ⟨σ3, H3, I3, n3⟩ := q3
      obtain ⟨m', hm, w3⟩ := hN σ3 H3 n3
      exact ⟨m', hm, σ3, H3, I3, w3⟩
    | cont =>
      obtain ⟨σ3, H3, I3, n3⟩ := q3
      obtain ⟨m', hm, w3⟩ := hN σ3 H3 n3
      exact ⟨m', hm, σ3, H3, I3, w3⟩
    | brk => exact q3
    | ret v => exact q3
  | false =>
    rw [if_neg Bool.false_ne_true]
    exact wpAny_execs_nil ⟨σ1, H2, I2, q2⟩
end

/-! ### what a loop or a comprehension walks -/
/-- at turn i: it yields x (the heap may grow), or it stops -/
structure It where
  go : Nat → Hp → Prop
  yld : Nat → Hp → V → Hp → Prop
  stop : Nat → Hp → Prop
/-- the iterator's own objects may turn: they are not the frame's, not pinned, younger than the entry (or a comprehension's own) -/
def FpOk (X : Cx) (pins : List (Addr × Obj)) (H : Hp) (b : Addr) : Prop :=
  H b = none ∧ b ≠ X.env.locals ∧ b ∉ X.fs ∧ (b ∈ X.ex ∨ X.s₀.heap.objs.size ≤ b) ∧ (∀ x c, X.env.cells.lookup x = some c → c ≠ b) ∧ ∀ p ∈ X.pn ++ pins, p.1 ≠ b
theorem Inv.fpOk {X : Cx} {pins : List (Addr × Obj)} {σ : St} {H H' : Hp} {s : Shared} {b : Addr} (I : Inv X pins σ H s) (hb : s.heap.objs.size ≤ b) (hn : H' b = none) : FpOk X pins H' b := by
  refine ⟨hn, Nat.ne_of_gt (Nat.lt_of_lt_of_le I.lt hb), I.nofs hb, .inr (Nat.le_trans I.sz hb), fun x c e z => ?_, fun p hp z => ?_⟩
  · obtain ⟨v, q⟩ := I.cell x c e
    exact absurd (Nat.lt_of_lt_of_le q.lt (by rw [z]; exact hb)) (Nat.lt_irrefl _)
  · exact absurd (Nat.lt_of_lt_of_le (Heap.lt_size (I.pin p hp).1) (by rw [z]; exact hb)) (Nat.lt_irrefl _)
structure Turn (P : Program) (w : World) (K : PySem.W.Frag) (tg : Expr) (J : It) (fp : List Addr) (it : Addr) (tn : Nat → Heap → Prop) : Prop where
  mem : it ∈ fp
  obj : ∀ i h, tn i h → ∀ b ∈ fp, ∃ o, h.get? b = some o ∧ ∀ v, o.data ≠ .cell v
  keep : ∀ i h h', tn i h → (∀ b ∈ fp, ∀ o, h.get? b = some o → h'.get? b = some o) → tn i h'
  item : ∀ (X : Cx), X.prog = P → X.w = w → X.K = K → X.calm = true → ∀ (i : Nat) (pins : List (Addr × Obj)) (s : Shared) (σ : St) (H : Hp) (E : Value → Shared → Prop), Inv X pins σ H s → (∀ b ∈ fp, FpOk X pins H b) → tn i s.heap → J.go i H →
    wpAny (model P w) X.A (pyNext (.ref it)) (fun r s1 => ∃ u, r = some u ∧
      wpAny (model P w) X.A (letOwnedTupleGo tg (.ref it) u) (fun _ s2 => ∃ x H', Inv X pins σ H' s2 ∧ RelV x u ∧ J.yld i H x H' ∧ tn (i + 1) s2.heap ∧ ∀ b ∈ fp, H' b = none) E s1) E s
  done : ∀ (X : Cx), X.prog = P → X.w = w → X.K = K → X.calm = true → ∀ (i : Nat) (pins : List (Addr × Obj)) (s : Shared) (σ : St) (H : Hp) (E : Value → Shared → Prop), Inv X pins σ H s → (∀ b ∈ fp, FpOk X pins H b) → tn i s.heap → J.stop i H →
    wpAny (model P w) X.A (pyNext (.ref it)) (fun r s1 => r = none ∧ Inv X pins σ H s1) E s
  self : ∀ (A : Around) (i : Nat) (s : Shared) (Q : Value → Shared → Prop) (E : Value → Shared → Prop), tn i s.heap → Q (.ref it) s → wpAny (model P w) A (pyIter (.ref it)) Q E s
abbrev TI := St → Hp → (It → Hp → Prop) → Prop
/-- an iterator has come -/
def PIE (X : Cx) (pins : List (Addr × Obj)) (σ : St) (tg : Expr) (R : It → Hp → Prop) (itv : Value) (s2 : Shared) : Prop :=
  ∃ (it : Addr) (fp : List Addr) (tn : Nat → Heap → Prop) (J : It) (H' : Hp), itv = .ref it ∧ Inv X pins σ H' s2 ∧ Turn X.prog X.w X.K tg J fp it tn ∧ tn 0 s2.heap ∧ (∀ b ∈ fp, FpOk X pins H' b) ∧ R J H'
def PI (X : Cx) (tg iter : Expr) (wi : TI) : Prop :=
  ∀ (pins : List (Addr × Obj)) (s : Shared) (σ : St) (H : Hp) (R : It → Hp → Prop), Inv X pins σ H s → wi σ H R →
    wpAny (model X.prog X.w) X.A (eval iter X.env) (fun v s1 => wpAny (model X.prog X.w) X.A (pyIter v) (PIE X pins σ tg R) X.xe s1) X.xe s

/-- the step ahead of the store is nothing for an iterator that keeps no tuple -/
theorem go_of {M : Model} {A : Around} {E : Value → Shared → Prop} {s : Shared} {tg : Expr} {it : Addr} {u : Value} {o : Obj} {n : String} {vs : Array Value} {Q : Unit → Shared → Prop} (ho : s.heap.get? it = some o) (hc : o.cls = .type n) (hd : o.data = .fields vs)
    (hn : ["enumerate", "zip", "dict_itemiterator", "dict_reverseitemiterator", "odict_iterator", "itertools.zip_longest", "itertools.pairwise"].contains n = false) (hQ : Q () s) : wpAny M A (letOwnedTupleGo tg (.ref it) u) Q E s := by
  unfold letOwnedTupleGo
  cases tg <;> first
    | exact wpAny_pure hQ
    | (cases u <;> first
        | exact wpAny_pure hQ
        | (refine wpAny_bind (wpAny_load ho ?_)
           rw [hc, hd]
           show wpAny M A (if (["enumerate", "zip", "dict_itemiterator", "dict_reverseitemiterator", "odict_iterator", "itertools.zip_longest", "itertools.pairwise"].contains n && vs[0]? == some (rawInt _)) = true then _ else _) Q E s
           rw [if_neg (by intro h; rw [hn, Bool.false_and] at h; cases h)]
           exact wpAny_pure hQ))

/-- the list at a, as it stands at each turn (a loop may append to it) -/
def Itl (K : PySem.W.Frag) (a : Addr) : It :=
  ⟨fun i H => ∃ xs x, SqL K H a xs ∧ xs[i]? = some x, fun i H x H' => H' = H ∧ ∀ xs, SqL K H a xs → xs[i]? = some x, fun i H => ∃ xs, SqL K H a xs ∧ xs.length ≤ i⟩
/-- lo, lo + 1, .. (n of them) -/
def Itr (lo : Int) (n : Nat) : It := ⟨fun i _ => i < n, fun i H x H' => H' = H ∧ x = .int (lo + i), fun i _ => n ≤ i⟩
theorem turn_list {P : Program} {w : World} {K : PySem.W.Frag} {tg : Expr} (a it : Addr) : Turn P w K tg (Itl K a) [it] it (fun i h => h.IsListIter it a i) where
  mem := by simp
  obj := fun i h st b hb => by
    have e : b = it := by simpa using hb
    subst e
    obtain ⟨o, e, c, d⟩ := st
    exact ⟨o, e, fun v z => by rw [d] at z; cases z⟩
  keep := fun i h h' st k => st.at fun o e => k it (by simp) o e
  item := by
    intro X hP hw hK hc i pins s σ H E I hf st hg
    subst hP hw hK
    obtain ⟨xs, x, hq, hx⟩ := hg
    obtain ⟨its, rv, p, hz⟩ := I.list hq
    obtain ⟨u, hu, ru⟩ := rv.get hx
    obtain ⟨f0, f1, f2, f3, f4, f5⟩ := hf it (by simp)
    refine wpAny_pyNext_list_item st p.isList (x := u) (by simpa using hu) fun h' st' sb => ?_
    have I1 : Inv X pins σ H { s with heap := h' } := I.turned (t' := s.toks) (fun b o hb e => (sb.2 b hb).trans e) f0 f1 f3 f4 f5
    obtain ⟨o, e, c, d⟩ := id st'
    exact ⟨u, rfl, go_of (s := { s with heap := h' }) e c d (by decide) ⟨x, H, I1, ru, ⟨rfl, fun ys hy => by rw [I.list_inj hy hq]; exact hx⟩, st', fun b hb => (hf b hb).1⟩⟩
  done := by
    intro X hP hw hK hc i pins s σ H E I hf st hg
    subst hP hw hK
    obtain ⟨xs, hq, hx⟩ := hg
    obtain ⟨its, rv, p, hz⟩ := I.list hq
    obtain ⟨f0, f1, f2, f3, f4, f5⟩ := hf it (by simp)
    have hl := rv.length
    exact wpAny_pyNext_list_end (I.ok.hd hc) st p.isList (by simp; omega) fun h' eb => ⟨rfl, I.turned (t' := s.toks) (fun b o hb e => eb b o hb e) f0 f1 f3 f4 f5⟩
  self := fun _ _ _ _ _ st h => wpAny_pyIter_listiter st h
theorem turn_range {P : Program} {w : World} {K : PySem.W.Frag} {tg : Expr} (it : Addr) (lo : Int) (n : Nat) : Turn P w K tg (Itr lo n) [it] it (fun i h => IsRangeIter h it (lo + (i : Nat) * 1) ((n : Int) - (i : Nat)) 1) where
  mem := by simp
  obj := fun i h st b hb => by
    have e : b = it := by simpa using hb
    subst e
    exact ⟨_, st, fun v z => by
      have z' : Data.fields _ = Data.cell v := z
      cases z'⟩
  keep := fun i h h' st k => k it (by simp) _ st
  item := by
    intro X hP hw hK hc i pins s σ H E I hf st hg
    subst hP hw hK
    obtain ⟨f0, f1, f2, f3, f4, f5⟩ := hf it (by simp)
    have W := Walks.range (prog := X.prog) (w := X.w) (I.ok.hd hc) it lo 1 n
    refine W.item i s _ _ hg st fun v h' tk hv st' kk => ?_
    obtain ⟨t, rfl⟩ := hv
    have I1 : Inv X pins σ H { s with heap := h', toks := tk } := I.turned (fun b o hb e => kk b o (by simpa using hb) e) f0 f1 f3 f4 f5
    refine ⟨_, rfl, go_of (s := { s with heap := h', toks := tk }) (n := "range_iterator") st' rfl rfl (by decide) ⟨.int (lo + i), H, I1, ⟨t, ?_⟩, ⟨rfl, rfl⟩, st', fun b hb => (hf b hb).1⟩⟩
    rw [Int.mul_one]
  done := by
    intro X hP hw hK hc i pins s σ H E I hf st hg
    subst hP hw hK
    obtain ⟨f0, f1, f2, f3, f4, f5⟩ := hf it (by simp)
    exact wpAny_pyNext_range_end (I.ok.hd hc) st (by have : n ≤ i := hg; omega) fun h' eb => ⟨rfl, I.turned (t' := s.toks) (fun b o hb e => eb b o hb e) f0 f1 f3 f4 f5⟩
  self := fun _ _ _ _ _ st h => wpAny_pyIter_rangeiter st h
end L2

namespace L2
open PySem PySem.Spec PyProof.Rows
section
variable {X : Cx} {tg : Expr}
def iList (K : PySem.W.Frag) (tl : TE) : TI := fun σ H R => tl σ H fun x H1 => ∃ a, x = .ref a ∧ (∃ xs, SqL K H1 a xs) ∧ R (Itl K a) H1
theorem pi_list {l : Expr} {tl : TE} (hl : PE X l tl) : PI X tg l (iList X.K tl) := by
  intro pins s σ H R I h
  refine thn (hl pins s σ H _ I h) fun v s1 ⟨x, H1, I1, r1, q1⟩ => ?_
  obtain ⟨a, e, ⟨xs, hq⟩, q⟩ := q1
  subst e
  cases r1
  obtain ⟨its, rv, p, hz⟩ := I1.list hq
  refine wpAny_pyIter_list p.isList ?_
  refine ⟨s1.heap.objs.size, [s1.heap.objs.size], _, _, H1, rfl, I1.kept (t' := s1.toks) fun b o e => Heap.get?_push_of_some _ e, turn_list a _, ⟨_, Heap.get?_push_size _ rfl, rfl, rfl⟩, fun b hb => ?_, q⟩
  have e : b = s1.heap.objs.size := by simpa using hb
  subst e
  exact I1.fpOk (Nat.le_refl _) (I1.hok.fresh (Nat.le_refl _))
/-- a range object just made, walked -/
theorem range_it {pins : List (Addr × Obj)} {σ : St} {H : Hp} {s : Shared} {R : It → Hp → Prop} {E : Value → Shared → Prop} {lo hi : Int} {t u v : Tok} {tk : Nat} (I : Inv X pins σ H s) (h1 : -(2 ^ 62) ≤ lo) (h2 : lo < 2 ^ 62) (h3 : -(2 ^ 62) ≤ hi) (h4 : hi < 2 ^ 62)
    (q : R (Itr lo (hi - lo).toNat) H) : wpAny (model X.prog X.w) X.A (pyIter (.ref s.heap.objs.size)) (PIE X pins σ tg R) E { s with heap := s.heap.push { cls := .type "range", data := .fields #[.int lo t, .int hi u, .int 1 v] }, toks := tk } := by
  refine wpAny_pyIter_range (IsRange.new ..) (small_one h1 h2 h3 h4) ?_
  have I1 : Inv X pins σ H { s with heap := s.heap.push { cls := .type "range", data := .fields #[.int lo t, .int hi u, .int 1 v] }, toks := tk } := I.kept fun b o e => Heap.get?_push_of_some _ e
  refine ⟨(s.heap.push { cls := .type "range", data := .fields #[.int lo t, .int hi u, .int 1 v] }).objs.size, [(s.heap.push { cls := .type "range", data := .fields #[.int lo t, .int hi u, .int 1 v] }).objs.size], _, _, H, rfl,
    I1.kept (t' := tk) fun b o e => Heap.get?_push_of_some _ e, turn_range _ lo (hi - lo).toNat, ?_, fun b hb => ?_, q⟩
  · have e1 : lo + ((0 : Nat) : Int) * 1 = lo := by simp
    have e2 : (((hi - lo).toNat : Nat) : Int) - ((0 : Nat) : Int) = Builtin.Range.rangeSize lo hi 1 := by rw [rangeSize_one]; split <;> omega
    show IsRangeIter _ _ (lo + ((0 : Nat) : Int) * 1) ((((hi - lo).toNat : Nat) : Int) - ((0 : Nat) : Int)) 1
    rw [e1, e2]
    exact Heap.get?_push_size _ rfl
  · have e : b = (s.heap.push { cls := .type "range", data := .fields #[.int lo t, .int hi u, .int 1 v] }).objs.size := by simpa using hb
    subst e
    exact I1.fpOk (Nat.le_refl _) (I1.hok.fresh (Nat.le_refl _))
def iRng1 (ta : TA) : TI := fun σ H R => ta σ H fun vs H1 => ∃ j : Int, vs = [.int j] ∧ -(2 ^ 62) ≤ j ∧ j < 2 ^ 62 ∧ R (Itr 0 j.toNat) H1
def iRng2 (ta : TA) : TI := fun σ H R => ta σ H fun vs H1 => ∃ i j : Int, vs = [.int i, .int j] ∧ (-(2 ^ 62) ≤ i ∧ i < 2 ^ 62 ∧ -(2 ^ 62) ≤ j ∧ j < 2 ^ 62) ∧ R (Itr i (j - i).toNat) H1
theorem pi_range1 {a : Expr} {ta : TA} {p pos : Pos} (hg : Gl X "range") (hm : X.mg "range" = none) (ha : PA X [a] ta) (hs : starEach [a] X.env = [(false, eval a X.env)] := by rfl) : PI X tg (.Call (.Name "range" p) [a] [] pos) (iRng1 ta) := by
  intro pins s σ H R I h
  refine Call_ (ld_blt I hg hm boot_range (PyProof.Rows.callWith_type1 (thn (ha pos pins s σ H _ I h) fun us s1 ⟨vs, H1, I1, r1, q1⟩ => ?_) hs rfl))
  obtain ⟨j, e, q1, q2, q⟩ := q1
  subst e
  cases r1 with
  | cons r rr =>
    cases rr
    obtain ⟨t, rfl⟩ := r
    exact call_range_1 (range_it I1 (by omega) (by omega) q1 q2 (by simpa using q))
theorem pi_range2 {a b : Expr} {ta : TA} {p pos : Pos} (hg : Gl X "range") (hm : X.mg "range" = none) (ha : PA X [a, b] ta) (hs : starEach [a, b] X.env = [(false, eval a X.env), (false, eval b X.env)] := by rfl) (hs2 : starEach [b] X.env = [(false, eval b X.env)] := by rfl) :
    PI X tg (.Call (.Name "range" p) [a, b] [] pos) (iRng2 ta) := by
  intro pins s σ H R I h
  refine Call_ (ld_blt I hg hm boot_range (PyProof.Rows.callWith_type1 (thn (ha pos pins s σ H _ I h) fun us s1 ⟨vs, H1, I1, r1, q1⟩ => ?_) (by rw [hs, hs2]) (by rw [hs2]; rfl)))
  obtain ⟨i, j, e, ⟨q1, q2, q3, q4⟩, q⟩ := q1
  subst e
  cases r1 with
  | cons r rr =>
    cases rr with
    | cons r' rr =>
      cases rr
      obtain ⟨t, rfl⟩ := r
      obtain ⟨t', rfl⟩ := r'
      exact call_range_2 (range_it I1 q1 q2 q3 q4 q)

/-! ### for -/
/-- W: the invariant by the turn and a measure; N: what the body is to reach -/
def tFor (wi : TI) (g : TG) (tb : TS) : TS := fun D σ H => wi σ H fun J H1 => ∃ W : Nat → Nat → St → Hp → Prop, (∃ m, W 0 m σ H1) ∧ ∀ i m σ H, W i m σ H →
  (J.stop i H ∧ D.nx σ H) ∨ (J.go i H ∧ ∃ N : St → Hp → Prop, (∀ σ' H', N σ' H' → ∃ m', m' < m ∧ W (i + 1) m' σ' H') ∧ ∀ x H', J.yld i H x H' → g x σ H' fun σ2 H2 => tb { D with nx := N, ct := N, bk := D.nx } σ2 H2)
/-- the records at fp as they stand -/
def pinsAt (fp : List Addr) (h : Heap) : List (Addr × Obj) := fp.filterMap fun b => (h.get? b).map fun o => (b, o)
theorem mem_pinsAt {fp : List Addr} {h : Heap} {b : Addr} {o : Obj} (hb : b ∈ fp) (e : h.get? b = some o) : (b, o) ∈ pinsAt fp h := List.mem_filterMap.mpr ⟨b, hb, by rw [e]; rfl⟩
theorem of_pinsAt {fp : List Addr} {h : Heap} {p : Addr × Obj} (hp : p ∈ pinsAt fp h) : p.1 ∈ fp ∧ h.get? p.1 = some p.2 := by
  obtain ⟨b, hb, e⟩ := List.mem_filterMap.mp hp
  cases q : h.get? b with
  | none => rw [q] at e; cases e
  | some o =>
    rw [q] at e
    have e' : (b, o) = p := Option.some.inj e
    subst e'
    exact ⟨hb, q⟩
theorem Inv.pinned {pins : List (Addr × Obj)} {σ : St} {H : Hp} {s : Shared} {fp : List Addr} (I : Inv X pins σ H s) (hf : ∀ b ∈ fp, FpOk X pins H b) (ho : ∀ b ∈ fp, ∃ o, s.heap.get? b = some o ∧ ∀ v, o.data ≠ .cell v) : Inv X (pins ++ pinsAt fp s.heap) σ H s :=
  I.pins_of fun p hp => (List.mem_append.mp hp).elim (fun z => I.pin p (List.mem_append_right _ z)) fun z => by
    obtain ⟨hb, e⟩ := of_pinsAt z
    obtain ⟨f0, f1, f2, _⟩ := hf p.1 hb
    obtain ⟨o, e', d⟩ := ho p.1 hb
    rw [e] at e'; cases e'
    exact ⟨e, f0, f1, f2, d⟩
theorem Inv.unpinned {pins pl : List (Addr × Obj)} {σ : St} {H : Hp} {s : Shared} (I : Inv X (pins ++ pl) σ H s) : Inv X pins σ H s := I.pins_of fun p hp => I.pin p (List.mem_append_right _ (List.mem_append_left _ hp))
theorem ps_for {iter : Expr} {body : List Stmt} {wi : TI} {g : TG} {tb : TS} {pos : Pos} (hp : PassesOwn (model X.prog X.w) X.A X.env X.xe) (hc : X.calm = true) (hi : PI X tg iter wi) (hg : PG X tg g) (hb : PSs X body tb)
    (hs : ∀ x, foldedSetIterable iter X.env x = pure x := by intro _; rfl) : PS X (.For tg iter body [] pos) (tFor wi g tb) := by
  intro pins s σ H D I h
  refine wpAny_For (thn (hi pins s σ H _ I h) fun v s1 h1 => thn h1 fun itv s2 h2 => ?_) hs
  obtain ⟨it, fp, tn, J, H2, e, I2, T, st2, f2, W, ⟨m0, w0⟩, turn⟩ := h2
  subst e
  -- what stays true of the iterator's objects through the loop
  have stat : ∀ {H' : Hp}, (∀ b ∈ fp, H' b = none) → ∀ b ∈ fp, FpOk X pins H' b := fun hn b hb => ⟨hn b hb, (f2 b hb).2⟩
  refine codeAny_forLoop_any (fun n s' => ∃ i σ' H', Inv X pins σ' H' s' ∧ tn i s'.heap ∧ (∀ b ∈ fp, H' b = none) ∧ W i n σ' H') ?_ m0 ⟨0, σ, H2, I2, st2, fun b hb => (f2 b hb).1, w0⟩
  rintro n s3 ⟨i, σ3, H3, I3, st3, fr3, w3⟩
  rcases turn i n σ3 H3 w3 with ⟨stop, qn⟩ | ⟨go, N, hN, step⟩
  · refine wpAny_passesOwn hp (thn (T.done X rfl rfl rfl hc i pins s3 σ3 H3 X.xe I3 (stat fr3) st3 stop) fun r s4 ⟨hr, I4⟩ => ?_)
    subst hr
    exact wpAny_execs_nil ⟨σ3, H3, I4, qn⟩
  · refine wpAny_passesOwn hp (thn (T.item X rfl rfl rfl hc i pins s3 σ3 H3 X.xe I3 (stat fr3) st3 go) fun r s4 ⟨u, hr, h4⟩ => ?_)
    subst hr
    refine wpAny_passesOwn hp (thn h4 fun _ s5 ⟨x, H5, I5, r5, y5, st5, fr5⟩ => ?_)
    have I5' := I5.pinned (stat fr5) (T.obj _ _ st5)
    refine wpAny_passesOwn hp (thn (hg _ s5 σ3 H5 x u _ I5' r5 (step x H5 y5)) fun _ s6 ⟨σ6, H6, I6, q6⟩ => ?_)
    refine wpAny_passesOwn hp (thn (hb _ s6 σ6 H6 _ I6 q6) fun f s7 q7 => ?_)
    have again : ∀ {σ7 : St} {H7 : Hp}, Inv X (pins ++ pinsAt fp s5.heap) σ7 H7 s7 → N σ7 H7 → ∃ m, m < n ∧ ∃ i σ' H', Inv X pins σ' H' s7 ∧ tn i s7.heap ∧ (∀ b ∈ fp, H' b = none) ∧ W i m σ' H' := fun {σ7 H7} I7 n7 => by
      obtain ⟨m', hm, w7⟩ := hN σ7 H7 n7
      refine ⟨m', hm, i + 1, σ7, H7, I7.unpinned, T.keep _ _ _ st5 fun b hb o e => (I7.pin (b, o) (List.mem_append_right _ (List.mem_append_right _ (mem_pinsAt hb e)))).1, fun b hb => ?_, w7⟩
      obtain ⟨o, e, d⟩ := T.obj _ _ st5 b hb
      exact (I7.pin (b, o) (List.mem_append_right _ (List.mem_append_right _ (mem_pinsAt hb e)))).2.1
    cases f with
    | next => obtain ⟨σ7, H7, I7, n7⟩ := q7; exact again I7 n7
    | cont => obtain ⟨σ7, H7, I7, n7⟩ := q7; exact again I7 n7
    | brk => obtain ⟨σ7, H7, I7, q7⟩ := q7; exact ⟨σ7, H7, I7.unpinned, q7⟩
    | ret v => obtain ⟨x7, σ7, H7, I7, r7, q7⟩ := q7; exact ⟨x7, σ7, H7, I7.unpinned, r7, q7⟩
end

/-! ### the forms one uses -/
/-- over a list that the body leaves as it is -/
theorem for_list {K : PySem.W.Frag} {a : Addr} {xs : List V} {g : TG} {tb : TS} {D : Ends} {σ : St} {H : Hp} (Pv : Nat → St → Hp → Prop) (h0 : Pv 0 σ H) (hl : ∀ i σ H, i ≤ xs.length → Pv i σ H → SqL K H a xs)
    (hs : ∀ i x σ H, xs[i]? = some x → Pv i σ H → g x σ H fun σ2 H2 => tb { D with nx := Pv (i + 1), ct := Pv (i + 1), bk := D.nx } σ2 H2) (hd : ∀ σ H, Pv xs.length σ H → D.nx σ H) :
    ∃ W : Nat → Nat → St → Hp → Prop, (∃ m, W 0 m σ H) ∧ ∀ i m σ H, W i m σ H →
      ((Itl K a).stop i H ∧ D.nx σ H) ∨ ((Itl K a).go i H ∧ ∃ N : St → Hp → Prop, (∀ σ' H', N σ' H' → ∃ m', m' < m ∧ W (i + 1) m' σ' H') ∧ ∀ x H', (Itl K a).yld i H x H' → g x σ H' fun σ2 H2 => tb { D with nx := N, ct := N, bk := D.nx } σ2 H2) := by
  refine ⟨fun i m σ H => m = xs.length - i ∧ i ≤ xs.length ∧ Pv i σ H, ⟨xs.length, by simp, Nat.zero_le _, h0⟩, ?_⟩
  rintro i m σ H ⟨rfl, hi, p⟩
  have q := hl i σ H hi p
  by_cases hlt : i < xs.length
  · refine .inr ⟨⟨xs, xs[i], q, by simp [hlt]⟩, Pv (i + 1), fun σ' H' p' => ⟨xs.length - (i + 1), by omega, rfl, hlt, p'⟩, fun x H' y => ?_⟩
    obtain ⟨e, y⟩ := y
    subst e
    exact hs i x σ _ (y xs q) p
  · have e : i = xs.length := by omega
    subst e
    exact .inl ⟨⟨xs, q, Nat.le_refl _⟩, hd σ H p⟩
theorem for_range {lo : Int} {n : Nat} {g : TG} {tb : TS} {D : Ends} {σ : St} {H : Hp} (Pv : Nat → St → Hp → Prop) (h0 : Pv 0 σ H)
    (hs : ∀ i σ H, i < n → Pv i σ H → g (.int (lo + i)) σ H fun σ2 H2 => tb { D with nx := Pv (i + 1), ct := Pv (i + 1), bk := D.nx } σ2 H2) (hd : ∀ σ H, Pv n σ H → D.nx σ H) :
    ∃ W : Nat → Nat → St → Hp → Prop, (∃ m, W 0 m σ H) ∧ ∀ i m σ H, W i m σ H →
      ((Itr lo n).stop i H ∧ D.nx σ H) ∨ ((Itr lo n).go i H ∧ ∃ N : St → Hp → Prop, (∀ σ' H', N σ' H' → ∃ m', m' < m ∧ W (i + 1) m' σ' H') ∧ ∀ x H', (Itr lo n).yld i H x H' → g x σ H' fun σ2 H2 => tb { D with nx := N, ct := N, bk := D.nx } σ2 H2) := by
  refine ⟨fun i m σ H => m = n - i ∧ i ≤ n ∧ Pv i σ H, ⟨n, by simp, Nat.zero_le _, h0⟩, ?_⟩
  rintro i m σ H ⟨rfl, hi, p⟩
  by_cases hlt : i < n
  · refine .inr ⟨hlt, Pv (i + 1), fun σ' H' p' => ⟨n - (i + 1), by omega, rfl, hlt, p'⟩, fun x H' y => ?_⟩
    obtain ⟨e, y⟩ := y
    subst e y
    exact hs i σ _ hlt p
  · have e : i = n := by omega
    subst e
    exact .inl ⟨Nat.le_refl _, hd σ H p⟩
end L2

namespace L2
open PySem PySem.Spec PyProof.Rows

abbrev R2 := V → V → Hp → VK → Prop
/-- a two-place operation on values: f is binaryOp op, inplaceOp op or compareOp op -/
def OpR (X : Cx) (f : Value → Value → Sem Value) (r : R2) : Prop :=
  ∀ (pins : List (Addr × Obj)) (s : Shared) (σ : St) (H : Hp) (x y : V) (v u : Value) (Q : VK), Inv X pins σ H s → RelV x v → RelV y u → r x y H Q →
    wpAny (model X.prog X.w) X.A (f v u) (EP X pins σ Q) X.xe s
/-- a one-place operation -/
def UnR (X : Cx) (f : Value → Sem Value) (r : V → Hp → VK → Prop) : Prop :=
  ∀ (pins : List (Addr × Obj)) (s : Shared) (σ : St) (H : Hp) (x : V) (v : Value) (Q : VK), Inv X pins σ H s → RelV x v → r x H Q →
    wpAny (model X.prog X.w) X.A (f v) (EP X pins σ Q) X.xe s
/-- a call of a value that is known (a builtin, a type) with values -/
def CallR (X : Cx) (f : Value) (r : List V → Hp → VK → Prop) : Prop :=
  ∀ (pins : List (Addr × Obj)) (s : Shared) (σ : St) (H : Hp) (xs : List V) (us : List Value) (Q : VK), Inv X pins σ H s → Vals xs us → r xs H Q →
    wpAny (model X.prog X.w) X.A (call f us) (EP X pins σ Q) X.xe s
/-- a value's truth -/
def TruR (X : Cx) (r : V → Hp → (Bool → Hp → Prop) → Prop) : Prop :=
  ∀ (pins : List (Addr × Obj)) (s : Shared) (σ : St) (H : Hp) (x : V) (v : Value) (Q : Bool → Hp → Prop), Inv X pins σ H s → RelV x v → r x H Q →
    wpAny (model X.prog X.w) X.A (truthy v) (TP X pins σ Q) X.xe s

def tOp (r : R2) (ta tb : TE) : TE := fun σ H Q => ta σ H fun x H1 => tb σ H1 fun y H2 => r x y H2 Q
def tUn (r : V → Hp → VK → Prop) (ta : TE) : TE := fun σ H Q => ta σ H fun x H1 => r x H1 Q
/-- ints in, under C, and a value out -/
def rI (C : Int → Int → Prop) (g : Int → Int → V) : R2 := fun x y H Q => ∃ i j, x = .int i ∧ y = .int j ∧ C i j ∧ Q (g i j) H
def rI0 (g : Int → Int → V) : R2 := fun x y H Q => ∃ i j, x = .int i ∧ y = .int j ∧ Q (g i j) H
def rU (g : Int → V) : V → Hp → VK → Prop := fun x H Q => ∃ i, x = .int i ∧ Q (g i) H

section
variable {X : Cx} {a b c : Expr} {ta tb tc : TE} {pos : Pos}

theorem binT (ha : PE X a ta) (hb : PE X b tb) {pins : List (Addr × Obj)} {s : Shared} {σ : St} {H : Hp} {R : V → V → Hp → Prop} (I : Inv X pins σ H s)
    (h : ta σ H fun x H1 => tb σ H1 fun y H2 => R x y H2) {Q : Value → Shared → Prop} {f : Value → Value → Sem Value}
    (hf : ∀ v u s2 x y H2, Inv X pins σ H2 s2 → RelV x v → RelV y u → R x y H2 → wpAny (model X.prog X.w) X.A (f v u) Q X.xe s2) :
    wpAny (model X.prog X.w) X.A (eval a X.env) (fun v s₁ => wpAny (model X.prog X.w) X.A (eval b X.env) (fun u s₂ => wpAny (model X.prog X.w) X.A (f v u) Q X.xe s₂) X.xe s₁) X.xe s := by
  refine thn (ha pins s σ H _ I h) fun v s1 ⟨x, H1, I1, r1, q1⟩ => ?_
  refine thn (hb pins s1 σ H1 _ I1 q1) fun u s2 ⟨y, H2, I2, r2, q2⟩ => ?_
  exact hf v u s2 x y H2 I2 r1 r2 q2

theorem pe_op {op : Operator} {r : R2} (ho : OpR X (binaryOp op) r) (ha : PE X a ta) (hb : PE X b tb) : PE X (.BinOp a op b pos) (tOp r ta tb) := by
  intro pins s σ H Q I h
  exact wpAny_BinOp (binT ha hb I h fun v u s2 x y H2 I2 rx ry q => ho pins s2 σ H2 x y v u Q I2 rx ry q)
theorem pe_un {op : UnaryOp} {r : V → Hp → VK → Prop} (ho : UnR X (unaryOp op) r) (ha : PE X a ta) : PE X (.UnaryOp op a pos) (tUn r ta) := by
  intro pins s σ H Q I h
  exact UnaryOp_ (thn (ha pins s σ H _ I h) fun v s1 ⟨x, H1, I1, r1, q1⟩ => ho pins s1 σ H1 x v Q I1 r1 q1)
/-! ### ints -/
theorem opI {f : Value → Value → Sem Value} {C : Int → Int → Prop} {g : Int → Int → Int}
    (rule : ∀ (i j : Int) (t u : Tok) (s : Shared) (Q : Value → Shared → Prop) (E : Value → Shared → Prop), C i j → Q (.int (g i j) s.toks) { s with toks := s.toks + 1 } → wpAny (model X.prog X.w) X.A (f (.int i t) (.int j u)) Q E s) :
    OpR X f (rI C fun i j => .int (g i j)) := by
  intro pins s σ H x y v u Q I rx ry h
  obtain ⟨i, j, rfl, rfl, hc, q⟩ := h
  obtain ⟨t, rfl⟩ := rx
  obtain ⟨t', rfl⟩ := ry
  exact rule i j t t' s _ _ hc ⟨.int (g i j), H, I.tok _, ⟨_, rfl⟩, q⟩
theorem opI0 {f : Value → Value → Sem Value} {g : Int → Int → Int}
    (rule : ∀ (i j : Int) (t u : Tok) (s : Shared) (Q : Value → Shared → Prop) (E : Value → Shared → Prop), Q (.int (g i j) s.toks) { s with toks := s.toks + 1 } → wpAny (model X.prog X.w) X.A (f (.int i t) (.int j u)) Q E s) :
    OpR X f (rI0 fun i j => .int (g i j)) := by
  intro pins s σ H x y v u Q I rx ry h
  obtain ⟨i, j, rfl, rfl, q⟩ := h
  obtain ⟨t, rfl⟩ := rx
  obtain ⟨t', rfl⟩ := ry
  exact rule i j t t' s _ _ ⟨.int (g i j), H, I.tok _, ⟨_, rfl⟩, q⟩
theorem opB0 {f : Value → Value → Sem Value} {g : Int → Int → Bool}
    (rule : ∀ (i j : Int) (t u : Tok) (s : Shared) (Q : Value → Shared → Prop) (E : Value → Shared → Prop), Q (.bool (g i j)) s → wpAny (model X.prog X.w) X.A (f (.int i t) (.int j u)) Q E s) :
    OpR X f (rI0 fun i j => .bl (g i j)) := by
  intro pins s σ H x y v u Q I rx ry h
  obtain ⟨i, j, rfl, rfl, q⟩ := h
  obtain ⟨t, rfl⟩ := rx
  obtain ⟨t', rfl⟩ := ry
  exact rule i j t t' s _ _ ⟨.bl (g i j), H, I, rfl, q⟩

def CDiv (i j : Int) : Prop := 0 < j ∧ j < 1073741824
def CMul (i j : Int) : Prop := (-(2 ^ 64) < i ∧ i < 2 ^ 64) ∨ (-(2 ^ 64) < j ∧ j < 2 ^ 64)
theorem CMul.ok {i j : Int} (h : CMul i j) : IntMulOk i j := by
  rcases h with ⟨h1, h2⟩ | ⟨h1, h2⟩
  · exact .of_left (intBits_le_64 h1 h2)
  · exact .of_right (intBits_le_64 h1 h2)
theorem op_add : OpR X (binaryOp .Add) (rI0 fun i j => .int (i + j)) := opI0 fun _ _ _ _ _ _ _ q => add_int q
theorem op_sub : OpR X (binaryOp .Sub) (rI0 fun i j => .int (i - j)) := opI0 fun _ _ _ _ _ _ _ q => sub_int q
theorem op_mul : OpR X (binaryOp .Mult) (rI CMul fun i j => .int (i * j)) := opI fun _ _ _ _ _ _ _ hc q => mul_int q hc.ok
/-- // by a positive divisor -/
theorem op_fdiv : OpR X (binaryOp .FloorDiv) (rI CDiv fun i j => .int (i / j)) := opI fun i j _ _ _ _ _ hc q => by
  have h1 : (0 : Int) < j := hc.1
  have h2 : j < 1073741824 := hc.2
  exact floordiv_int (by omega) (by rw [Int.fdiv_eq_ediv_of_nonneg i (by omega)]; exact q) (.inl (PyProof.noPylong_small (by omega)))
/-- % by a positive divisor of any size -/
theorem op_mod : OpR X (binaryOp .Mod) (rI (fun _ j => 0 < j) fun i j => .int (i % j)) := opI fun i j _ _ _ _ _ hc q => by
  have h1 : (0 : Int) < j := hc
  exact mod_int' (by omega) (by rw [Int.fmod_eq_emod_of_nonneg i (by omega)]; exact q)
theorem unI {f : Value → Sem Value} {g : Int → Int}
    (rule : ∀ (i : Int) (t : Tok) (s : Shared) (Q : Value → Shared → Prop) (E : Value → Shared → Prop), Q (.int (g i) s.toks) { s with toks := s.toks + 1 } → wpAny (model X.prog X.w) X.A (f (.int i t)) Q E s) :
    UnR X f (rU fun i => .int (g i)) := by
  intro pins s σ H x v Q I rx h
  obtain ⟨i, rfl, q⟩ := h
  obtain ⟨t, rfl⟩ := rx
  exact rule i t s _ _ ⟨.int (g i), H, I.tok _, ⟨_, rfl⟩, q⟩
theorem un_neg : UnR X (unaryOp .USub) (rU fun i => .int (-i)) := unI fun _ _ _ _ _ q => neg_int q
/-! ### bools among ints: n += (a < b) -/
end

/-! ### comparisons -/
/-- the scalars that == tells apart as data does -/
def scal : V → V → Bool
  | .non, .non => true | .non, .int _ => true | .int _, .non => true | .non, .bl _ => true | .bl _, .non => true | .non, .str _ => true | .str _, .non => true
  | .int _, .int _ => true | .bl _, .bl _ => true | .str _, .str _ => true | .byt _, .byt _ => true
  | .int _, .str _ => true | .str _, .int _ => true | .bl _, .str _ => true | .str _, .bl _ => true
  | _, _ => false
def rEq : R2 := fun x y H Q => scal x y = true ∧ Q (.bl (decide (x = y))) H
def rNe : R2 := fun x y H Q => scal x y = true ∧ Q (.bl (!decide (x = y))) H

theorem dec_int {i j : Int} : decide (V.int i = V.int j) = (i == j) := by
  rw [Bool.eq_iff_iff]
  simp
theorem dec_bl {i j : Bool} : decide (V.bl i = V.bl j) = (i == j) := by
  rw [Bool.eq_iff_iff]
  simp
theorem dec_str {i j : Str} : decide (V.str i = V.str j) = (i == j) := by
  rw [Bool.eq_iff_iff]
  simp
theorem dec_byt {i j : Array UInt8} : decide (V.byt i = V.byt j) = (i.toList == j.toList) := by
  rw [Bool.eq_iff_iff]
  cases i
  cases j
  simp

section
variable {X : Cx} {a b c : Expr} {ta tb tc : TE} {pos : Pos}
theorem fin_bl {pins : List (Addr × Obj)} {σ : St} {H : Hp} {s : Shared} {Q : VK} {k k' : Bool} (I : Inv X pins σ H s) (q : Q (.bl k) H) (e : k = k') : EP X pins σ Q (.bool k') s := by
  subst e
  exact ⟨.bl k, H, I, rfl, q⟩
theorem op_eq : OpR X (compareOp .Eq) rEq := by
  intro pins s σ H x y v u Q I rx ry h
  obtain ⟨hs, q⟩ := h
  cases x with
  | non =>
    cases rx
    cases y with
    | non => cases ry; exact PySem.EqNone.eq_none_none (fin_bl I q (by simp))
    | bl j => cases ry; exact PySem.EqNone.eq_none_bool (fin_bl I q (by simp))
    | int j => obtain ⟨t', rfl⟩ := ry; exact PySem.EqNone.eq_none_int (fin_bl I q (by simp))
    | str j => obtain ⟨t', rfl⟩ := ry; exact PySem.EqNone.eq_none_str (fin_bl I q (by simp))
    | _ => exact absurd (show false = true from hs) Bool.false_ne_true
  | bl i =>
    cases rx
    cases y with
    | non => cases ry; exact PySem.EqNone.eq_bool_none (fin_bl I q (by simp))
    | bl j => cases ry; exact eq_bool (fin_bl I q dec_bl)
    | str j => obtain ⟨t', rfl⟩ := ry; exact PySem.EqMixed.eq_bool_str (fin_bl I q (by simp))
    | _ => exact absurd (show false = true from hs) Bool.false_ne_true
  | int i =>
    obtain ⟨t, rfl⟩ := rx
    cases y with
    | non => cases ry; exact PySem.EqNone.eq_int_none (fin_bl I q (by simp))
    | int j => obtain ⟨t', rfl⟩ := ry; exact eq_int (fin_bl I q dec_int)
    | str j => obtain ⟨t', rfl⟩ := ry; exact PySem.EqMixed.eq_int_str (fin_bl I q (by simp))
    | _ => exact absurd (show false = true from hs) Bool.false_ne_true
  | str i =>
    obtain ⟨t, rfl⟩ := rx
    cases y with
    | non => cases ry; exact PySem.EqNone.eq_str_none (fin_bl I q (by simp))
    | bl j => cases ry; exact PySem.EqMixed.eq_str_bool (fin_bl I q (by simp))
    | int j => obtain ⟨t', rfl⟩ := ry; exact PySem.EqMixed.eq_str_int (fin_bl I q (by simp))
    | str j => obtain ⟨t', rfl⟩ := ry; exact eq_str (fin_bl I q dec_str)
    | _ => exact absurd (show false = true from hs) Bool.false_ne_true
  | byt i =>
    obtain ⟨t, rfl⟩ := rx
    cases y with
    | byt j => obtain ⟨t', rfl⟩ := ry; exact PySem.W.eq_bytes (fin_bl I q dec_byt)
    | _ => exact absurd (show false = true from hs) Bool.false_ne_true
  | _ => cases y <;> exact absurd (show false = true from hs) Bool.false_ne_true
theorem op_ne : OpR X (compareOp .NotEq) rNe := by
  intro pins s σ H x y v u Q I rx ry h
  obtain ⟨hs, q⟩ := h
  cases x with
  | non =>
    cases rx
    cases y with
    | non => cases ry; exact PySem.EqNone.ne_none_none (fin_bl I q (by simp))
    | bl j => cases ry; exact PySem.EqNone.ne_none_bool (fin_bl I q (by simp))
    | int j => obtain ⟨t', rfl⟩ := ry; exact PySem.EqNone.ne_none_int (fin_bl I q (by simp))
    | str j => obtain ⟨t', rfl⟩ := ry; exact PySem.EqNone.ne_none_str (fin_bl I q (by simp))
    | _ => exact absurd (show false = true from hs) Bool.false_ne_true
  | bl i =>
    cases rx
    cases y with
    | non => cases ry; exact PySem.EqNone.ne_bool_none (fin_bl I q (by simp))
    | bl j => cases ry; exact ne_bool (fin_bl I q (congrArg not dec_bl))
    | str j => obtain ⟨t', rfl⟩ := ry; exact PySem.EqMixed.ne_bool_str (fin_bl I q (by simp))
    | _ => exact absurd (show false = true from hs) Bool.false_ne_true
  | int i =>
    obtain ⟨t, rfl⟩ := rx
    cases y with
    | non => cases ry; exact PySem.EqNone.ne_int_none (fin_bl I q (by simp))
    | int j => obtain ⟨t', rfl⟩ := ry; exact ne_int (fin_bl I q (congrArg not dec_int))
    | str j => obtain ⟨t', rfl⟩ := ry; exact PySem.EqMixed.ne_int_str (fin_bl I q (by simp))
    | _ => exact absurd (show false = true from hs) Bool.false_ne_true
  | str i =>
    obtain ⟨t, rfl⟩ := rx
    cases y with
    | non => cases ry; exact PySem.EqNone.ne_str_none (fin_bl I q (by simp))
    | bl j => cases ry; exact PySem.EqMixed.ne_str_bool (fin_bl I q (by simp))
    | int j => obtain ⟨t', rfl⟩ := ry; exact PySem.EqMixed.ne_str_int (fin_bl I q (by simp))
    | str j => obtain ⟨t', rfl⟩ := ry; exact ne_str (fin_bl I q (congrArg not dec_str))
    | _ => exact absurd (show false = true from hs) Bool.false_ne_true
  | byt i =>
    obtain ⟨t, rfl⟩ := rx
    cases y with
    | byt j => obtain ⟨t', rfl⟩ := ry; exact PySem.W.ne_bytes (fin_bl I q (congrArg not dec_byt))
    | _ => exact absurd (show false = true from hs) Bool.false_ne_true
  | _ => cases y <;> exact absurd (show false = true from hs) Bool.false_ne_true

theorem op_lt : OpR X (compareOp .Lt) (rI0 fun i j => .bl (decide (i < j))) := opB0 fun _ _ _ _ _ _ _ q => lt_int q
theorem op_le : OpR X (compareOp .LtE) (rI0 fun i j => .bl (decide (i ≤ j))) := opB0 fun _ _ _ _ _ _ _ q => le_int q
theorem op_gt : OpR X (compareOp .Gt) (rI0 fun i j => .bl (decide (j < i))) := opB0 fun _ _ _ _ _ _ _ q => gt_int q
theorem op_ge : OpR X (compareOp .GtE) (rI0 fun i j => .bl (decide (j ≤ i))) := opB0 fun _ _ _ _ _ _ _ q => ge_int q
theorem nomark (b : Expr) {op : CmpOp} (h : op ≠ .In := by decide) (h2 : op ≠ .NotIn := by decide) : behindInMarks op b = false := by
  have e1 : (op == CmpOp.In) = false := by cases op <;> first | rfl | exact absurd rfl h
  have e2 : (op == CmpOp.NotIn) = false := by cases op <;> first | rfl | exact absurd rfl h2
  cases b <;> simp [behindInMarks, e1, e2]
/-- a comparison as a value; hm: nomark b, or (for in, not in) by with_unfolding_all rfl -/
theorem pe_cmpR {op : CmpOp} {r : R2} (ho : OpR X (compareOp op) r) (ha : PE X a ta) (hb : PE X b tb) (hm : behindInMarks op b = false) : PE X (.Compare a [op] [b] pos) (tOp r ta tb) := by
  intro pins s σ H Q I h
  exact wpAny_Compare1 (binT ha hb I h fun v u s2 x y H2 I2 rx ry q => ho pins s2 σ H2 x y v u Q I2 rx ry q) hm
/-- a reading of a value as a test -/
def tTest (t : TE) : TT := fun σ H Q => t σ H fun x H' => ∃ k, x = .bl k ∧ Q k H'
theorem pt_cmpR {op : CmpOp} {r : R2} (ho : OpR X (compareOp op) r) (ha : PE X a ta) (hb : PE X b tb) (hm : behindInMarks op b = false) : PT X (.Compare a [op] [b] pos) (tTest (tOp r ta tb)) := by
  intro pins s σ H Q I h
  refine wpAny_isTrue_Compare1 (thn (ha pins s σ H _ I h) fun v s1 ⟨x, H1, I1, r1, q1⟩ => thn (hb pins s1 σ H1 _ I1 q1) fun u s2 ⟨y, H2, I2, r2, q2⟩ =>
    thn (ho pins s2 σ H2 x y v u _ I2 r1 r2 q2) fun c s3 ⟨z, H3, I3, r3, k, e, q3⟩ => ?_) hm
  subst e
  cases r3
  exact wpAny_truthy_bool ⟨H3, I3, q3⟩
/-- a op1 b op2 c -/
def tChain (r r' : R2) (ta tb tc : TE) : TE := fun σ H Q => ta σ H fun x H1 => tb σ H1 fun y H2 => r x y H2 fun z H3 => ∃ k, z = .bl k ∧
  (if k = true then tc σ H3 fun w' H4 => r' y w' H4 Q else Q (.bl false) H3)
theorem pt_chain {op op' : CmpOp} {r r' : R2} (ho : OpR X (compareOp op) r) (ho' : OpR X (compareOp op') r') (ha : PE X a ta) (hb : PE X b tb) (hc : PE X c tc)
    (hm : lastMarks [op, op'] [b, c] = false := by with_unfolding_all rfl) : PT X (.Compare a [op, op'] [b, c] pos) (tTest (tChain r r' ta tb tc)) := by
  intro pins s σ H Q I h
  refine isTrue_chain (thn (ha pins s σ H _ I h) fun v s1 ⟨x, H1, I1, r1, q1⟩ => test_link (thn (hb pins s1 σ H1 _ I1 q1) fun u s2 ⟨y, H2, I2, r2, q2⟩ =>
    thn (ho pins s2 σ H2 x y v u _ I2 r1 r2 q2) fun d s3 ⟨z, H3, I3, r3, k, e, q3⟩ => ?_)) hm
  subst e
  cases r3
  refine wpAny_truthy_bool ?_
  cases k with
  | false =>
    obtain ⟨k', e', q'⟩ := q3
    cases e'
    exact ite_ff ⟨H3, I3, q'⟩
  | true =>
    refine ite_tt (test_last (thn (hc pins s3 σ H3 _ I3 q3) fun w' s4 ⟨z', H4, I4, r4, q4⟩ => thn (ho' pins s4 σ H4 y z' u w' _ I4 r2 r4 q4) fun d' s5 ⟨z2, H5, I5, r5, k2, e2, q5⟩ => ?_))
    subst e2
    cases r5
    exact wpAny_truthy_bool ⟨H5, I5, q5⟩

/-! ### truth -/
/-- a value's truth by the abstract heap -/
def TruV (K : PySem.W.Frag) (x : V) (H : Hp) (k : Bool) : Prop :=
  match x with
  | .non => k = false
  | .bl b => k = b
  | .int i => k = (i != 0)
  | .str y => y.length ≤ sizeLine ∧ k = ((y.length : Int) != 0)
  | .byt y => y.size ≤ sizeLine ∧ k = ((y.size : Int) != 0)
  | .ref p => (∃ xs, SqL K H p xs ∧ k = !xs.isEmpty) ∨ (∃ xs, SqT K H p xs ∧ k = !xs.isEmpty) ∨ ∃ kvs, H p = some (.dK kvs) ∧ k = !kvs.isEmpty
  | _ => False
theorem isEmpty_kv {κ : Type} {kvs : List (κ × V)} {vs : List (κ × Value)} (r : KV kvs vs) : (!vs.isEmpty) = !kvs.isEmpty := by
  cases r <;> rfl
theorem isEmpty_of {xs : List V} {its : List Value} (r : Vals xs its) : (!its.toArray.isEmpty) = !xs.isEmpty := by
  cases r <;> simp
theorem line63 : (sizeLine : Nat) < 2 ^ 63 := by rw [sizeLine_eq]; decide
theorem tru_ok : TruR X (fun x H Q => ∃ k, TruV X.K x H k ∧ Q k H) := by
  intro pins s σ H x v Q I rx h
  obtain ⟨k, e, q⟩ := h
  have hl := line63
  have hs : sizeLine = 16777216 := sizeLine_eq
  cases x with
  | non =>
    cases rx
    have e' : k = false := e
    subst e'
    exact truthy_none ⟨H, I, q⟩
  | bl b =>
    cases rx
    have e' : k = b := e
    subst e'
    exact wpAny_truthy_bool ⟨H, I, q⟩
  | int i =>
    obtain ⟨t, rfl⟩ := rx
    have e' : k = (i != 0) := e
    subst e'
    exact PySem.P.truthy_int ⟨H, I, q⟩
  | str y =>
    obtain ⟨t, rfl⟩ := rx
    obtain ⟨hy, e'⟩ : y.length ≤ sizeLine ∧ k = ((y.length : Int) != 0) := e
    subst e'
    exact PySem.P.truthy_str (by omega) ⟨H, I.tok _, q⟩
  | byt y =>
    obtain ⟨t, rfl⟩ := rx
    obtain ⟨hy, e'⟩ : y.size ≤ sizeLine ∧ k = ((y.size : Int) != 0) := e
    subst e'
    exact PySem.W.truthy_bytes (by omega) ⟨H, I.tok _, q⟩
  | ref p =>
    cases rx
    have e' : (∃ xs, SqL X.K H p xs ∧ k = !xs.isEmpty) ∨ (∃ xs, SqT X.K H p xs ∧ k = !xs.isEmpty) ∨ ∃ kvs, H p = some (.dK kvs) ∧ k = !kvs.isEmpty := e
    rcases e' with ⟨xs, hx, e'⟩ | ⟨xs, hx, e'⟩ | ⟨kvs, hx, e'⟩
    · subst e'
      obtain ⟨its, r, pl, hz⟩ := I.list hx
      have hlen := r.length
      exact wpAny_truthy_list pl.isList (by simp only [List.size_toArray]; omega) ⟨H, I.tok _, by rw [isEmpty_of r]; exact q⟩
    · subst e'
      obtain ⟨its, r, pl, hz⟩ := I.tuple hx
      have hlen := r.length
      exact truthy_tuple pl (by simp only [List.size_toArray]; omega) ⟨H, I.tok _, by rw [isEmpty_of r]; exact q⟩
    · subst e'
      obtain ⟨hz, hS, vs, r, m⟩ : kvs.length ≤ sizeLine ∧ (p == sysModules) = false ∧ ∃ vs, KV kvs vs ∧ s.heap.DictOf (mixKind X.prog X.w) p vs := I.hok p _ hx
      have hlen : kvs.length = vs.length := Paired.length r
      exact wpAny_truthy_dict hS m (by omega) ⟨H, I.tok _, by rw [isEmpty_kv r]; exact q⟩
  | _ => exact (show False from e).elim
/-- any expression whose test is its value's truth (a name, a call, a subscript, a field ..: he by fun _ => rfl) -/
theorem pt_truth (ha : PE X a ta) (he : ∀ whole, isTrue a X.env whole = (do let v ← whole; standAt a.pos; holding [v] (truthy v))) :
    PT X a (fun σ H Q => ta σ H fun x H' => ∃ k, TruV X.K x H' k ∧ Q k H') := by
  intro pins s σ H Q I h
  exact isTrue_plain (thn (ha pins s σ H _ I h) fun v s1 ⟨x, H1, I1, r1, q1⟩ => tru_ok pins s1 σ H1 x v Q I1 r1 q1) (he _)

/-! ### strs and bytes -/
theorem op_add_str : OpR X (binaryOp .Add) (fun x y H Q => ∃ i j, x = .str i ∧ y = .str j ∧ i.length + j.length ≤ sizeLine ∧ Q (.str (i ++ j)) H) := by
  intro pins s σ H x y v u Q I rx ry h
  obtain ⟨i, j, rfl, rfl, hz, q⟩ := h
  obtain ⟨t, rfl⟩ := rx
  obtain ⟨t', rfl⟩ := ry
  exact add_str (fun t' tk => ⟨.str (i ++ j), H, I.tok _, ⟨_, rfl⟩, q⟩) hz
/-! ### scalar builtins, by CallR -/
theorem vals1 {x : V} {us : List Value} (r : Vals [x] us) : ∃ u, us = [u] ∧ RelV x u := by
  cases r with
  | cons r1 r2 => cases r2; exact ⟨_, rfl, r1⟩
theorem vals2 {x y : V} {us : List Value} (r : Vals [x, y] us) : ∃ u w', us = [u, w'] ∧ RelV x u ∧ RelV y w' := by
  cases r with
  | cons r1 r2 =>
    cases r2 with
    | cons r3 r4 => cases r4; exact ⟨_, _, rfl, r1, r3⟩
theorem call_str_int : CallR X (.type "str") (fun xs H Q => ∃ i, xs = [.int i] ∧ i.natAbs.log2 < 1920 ∧ Q (.str (toString i)) H) := by
  intro pins s σ H xs us Q I r h
  obtain ⟨i, rfl, hz, q⟩ := h
  obtain ⟨u, rfl, t, rfl⟩ := vals1 r
  exact PySem.P.str_of_int hz ⟨.str _, H, I.tok _, ⟨_, rfl⟩, q⟩
end
end L2

namespace L2
open PySem PySem.Spec PyProof.Rows

/-! ### an instance, its attributes a map -/
structure ObjM (h : Heap) (x dx C : Addr) (mA : Str → Option Value) : Prop where
  obj : h.get? x = some (PySem.W.instObj C dx)
  ns : h.Ns1 dx mA
  ne : dx ≠ x

theorem lookIn_ns {h : Heap} {dx : Addr} {mA : Str → Option Value} (n : h.Ns1 dx mA) : ∃ od, h.get? dx = some od ∧ ∀ name, PySem.W.lookIn name od = some (mA name) := by
  obtain ⟨o, es, ep, ho, hd, hk, _, hm⟩ := n
  refine ⟨o, ho, fun name => ?_⟩
  have e := hm name
  unfold nsFind findBy at e
  rw [← Array.find?_toList] at e
  unfold PySem.W.lookIn
  rw [hd]
  dsimp only
  split
  · rename_i y q
    rw [q] at e
    exact congrArg some e
  · rename_i q
    rw [q] at e
    have a : es.toList.any (·.refKey) = false := by
      rw [List.any_eq_false]
      intro y hy
      obtain ⟨z, t, hkey⟩ := hk y (Array.mem_toList_iff.mp hy)
      simp [DictEntry.refKey, hkey]
    have a' : ¬ es.toList.any (·.refKey) = true := by rw [a]; exact Bool.false_ne_true
    rw [if_neg a']
    exact congrArg some e

theorem ObjM.look {h : Heap} {x dx C : Addr} {mA : Str → Option Value} (I : ObjM h x dx C mA) : ∃ od, PySem.W.InstAt h x (PySem.W.instObj C dx) C (some od) ∧ ∀ name, PySem.W.lookIn name od = some (mA name) :=
  let ⟨od, ho, hl⟩ := lookIn_ns I.ns
  ⟨od, ⟨I.obj, rfl, rfl, ho⟩, hl⟩

section
variable {prog : Program} {w : World} {A : Around} {E : Value → Shared → Prop} {s : Shared} {K : PySem.W.Frag} {x dx C f : Addr} {mA : Str → Option Value} {name : Str} {v : Value}

theorem get_map {expr : Bool} {Q : Value → Shared → Prop} (X : K.In s.heap) (I : ObjM s.heap x dx C mA) (hg : PySem.W.plainGet K C name = true) (hh : PySem.W.hasDictIn K C = true)
    (ha : PySem.W.findIn K (.ref C) name = some none) (hv : mA name = some v) (hv' : PySem.W.handedIn v = true) (h : Q v { s with toks := s.toks + 1 }) :
    wpAny (model prog w) A (getAttr (.ref x) name expr) Q E s := by
  obtain ⟨od, J, hl⟩ := I.look
  exact PySem.W.get_value X J (PySem.W.plainGet_of hg).1 (PySem.W.findObj_own hh ha rfl (by rw [hl, hv])) hv' h

theorem get_meth {pl : Sem Bool} {Q : Value × List Value → Shared → Prop} (X : K.In s.heap) (I : ObjM s.heap x dx C mA) (hg : PySem.W.plainGet K C name = true)
    (hf : PySem.W.findIn K (.ref C) name = some (some (.ref f))) (ht : PySem.W.isFn K (.ref f) = true) (hv : mA name = none) (h : Q (.ref f, [.ref x]) s) :
    wpAny (model prog w) A (getMethod (.ref x) name pl) Q E s := by
  obtain ⟨od, J, hl⟩ := I.look
  exact PySem.W.method_fn X J (PySem.W.plainGet_of hg).1 (PySem.W.plainGet_of hg).2 hf (beq_iff_eq.mp ht) (by show (PySem.W.lookIn name od).map (·.isSome) = some false; rw [hl, hv]; rfl) h

theorem set_map {ns : List Str} {Q : Unit → Shared → Prop} (X : K.In s.heap) (I : ObjM s.heap x dx C mA)
    (hs : PySem.W.findIn K (.ref C) "__setattr__" = some (some (.builtin "object.__setattr__"))) (hp : PySem.W.plainOver K C = true) (ht : PySem.W.takerIn K C name = some none) (hh : PySem.W.hasDictIn K C = true)
    (hw : PySem.Within mA ns) (hsz : ns.length ≤ sizeLine)
    (h : ∀ h', ObjM h' x dx C (fun y => if y = name then some v else mA y) → Heap.SameBut dx s.heap h' → Q () { s with heap := h', toks := s.toks + 2 }) :
    wpAny (model prog w) A (setAttr (.ref x) name v) Q E s := by
  obtain ⟨od, J, hl⟩ := I.look
  refine PySem.W.set_plain X J hs (PySem.W.osa_open (s := { s with toks := s.toks + 1 }) (r := none) X J hp ht fun b => ?_)
  obtain ⟨cd, hc, hd'⟩ := PySem.W.any_some hh
  have hx : s.heap.get? x = some ⟨.ref C, some dx, .plain, #[]⟩ := I.obj
  refine wpAny_bind (wpAny_pure (wpAny_bind (wpAny_bind (wpAny_loadPart hx (wpAny_bind (PySem.W.Looks.here (s := { s with toks := s.toks + 1 }) (PySem.W.looks_clsIn X hc) ?_))))))
  rw [hd']
  refine wpAny_pure (a := some dx) (wpAny_bind (wpAny_pure (wpAny_bind ?_)))
  refine wpAny_nsSet1 (s := { s with toks := s.toks + 1 }) I.ns fun h' hn2 hs2 => ?_
  obtain ⟨oD, esD, epD, hoD, hdD, hcD⟩ := hn2.count (PySem.Within.cons name v hw)
  refine wpAny_bind (wpAny_lookBehind hoD (by rw [hdD]; exact pastItsLine_dict (Nat.le_trans hcD (by rw [List.length_cons]; omega))) ?_)
  exact wpAny_pure (h _ ⟨(hs2.2 _ (Ne.symm I.ne)).trans I.obj, hn2, I.ne⟩ hs2)

/-- C(..): the dict at the heap's end, the instance behind it; then its __init__ -/
theorem make_map {R : Result → Shared → Prop} {vs : List Value} {kw : List (Str × Value)} (X : K.In s.heap) (hm : PySem.W.makesIn K C = true)
    (hi : PySem.W.findIn K (.ref C) "__init__" = some (some (.ref f))) (hf : PySem.W.typeIn K (.ref f) = some (.type "function"))
    (h : codeAny (model prog w) (A.under (.builtin "type.__call__" ⟨.ref C :: vs, kw⟩)) (.call (.ref f) ⟨.ref (s.heap.objs.size + 1) :: vs, kw⟩) (PySem.W.InitBack (s.heap.objs.size + 1) R)
      { s with heap := (s.heap.push PySem.W.emptyDict).push (PySem.W.instObj C s.heap.objs.size) }) :
    codeAny (model prog w) A (.call (.ref C) ⟨vs, kw⟩) R s := by
  obtain ⟨hh, g, d, t, os⟩ := s
  exact PySem.W.make_core (PySem.W.makes_of X hm) (PySem.W.looks_findIn X hi) (fun self => PySem.W.bind_fn X self hf) (.inl rfl) h
end

/-! ### the attributes as a list of pairs -/
def putF (f : Str) (v : V) : List (Str × V) → List (Str × V)
  | [] => [(f, v)]
  | (g, x) :: r => if g = f then (g, v) :: r else (g, x) :: putF f v r
theorem lookup_putF (f g : Str) (v : V) : ∀ fs : List (Str × V), (putF f v fs).lookup g = if g = f then some v else fs.lookup g
  | [] => by
    show List.lookup g [(f, v)] = _
    by_cases h : g = f
    · have hb : (g == f) = true := beq_iff_eq.mpr h
      simp only [List.lookup, hb, if_pos h]
    · have hb : (g == f) = false := beq_eq_false_iff_ne.mpr h
      simp only [List.lookup, hb, if_neg h]
  | (k, x) :: r => by
    have ih := lookup_putF f g v r
    rw [show putF f v ((k, x) :: r) = (if k = f then (k, v) :: r else (k, x) :: putF f v r) from rfl]
    by_cases hk : k = f
    · rw [if_pos hk]
      by_cases h : g = k
      · have hb : (g == k) = true := beq_iff_eq.mpr h
        simp only [List.lookup, hb, if_pos (h.trans hk)]
      · have hb : (g == k) = false := beq_eq_false_iff_ne.mpr h
        simp only [List.lookup, hb, if_neg (fun e : g = f => h (e.trans hk.symm))]
    · rw [if_neg hk]
      by_cases h : g = k
      · have hb : (g == k) = true := beq_iff_eq.mpr h
        simp only [List.lookup, hb, if_neg (fun e : g = f => hk (h.symm.trans e))]
      · have hb : (g == k) = false := beq_eq_false_iff_ne.mpr h
        simp only [List.lookup, hb]
        exact ih
theorem keys_putF (f : Str) (v : V) : ∀ fs : List (Str × V), f ∈ (putF f v fs).map (·.1) ∧ ∀ g, g ∈ fs.map (·.1) → g ∈ (putF f v fs).map (·.1)
  | [] => ⟨by simp [putF], fun g h => by simp at h⟩
  | (k, x) :: r => by
    obtain ⟨i1, i2⟩ := keys_putF f v r
    rw [show putF f v ((k, x) :: r) = (if k = f then (k, v) :: r else (k, x) :: putF f v r) from rfl]
    by_cases hk : k = f
    · rw [if_pos hk]
      subst hk
      exact ⟨by simp, fun g h => by simpa using h⟩
    · rw [if_neg hk]
      refine ⟨?_, fun g h => ?_⟩
      · rw [List.map_cons]
        exact List.mem_cons_of_mem _ i1
      · rw [List.map_cons] at h ⊢
        rcases List.mem_cons.mp h with e | e
        · exact List.mem_cons.mpr (.inl e)
        · exact List.mem_cons_of_mem _ (i2 g e)
theorem length_putF (f : Str) (v : V) : ∀ fs : List (Str × V), (putF f v fs).length ≤ fs.length + 1
  | [] => by simp [putF]
  | (k, x) :: r => by
    have ih := length_putF f v r
    rw [show putF f v ((k, x) :: r) = (if k = f then (k, v) :: r else (k, x) :: putF f v r) from rfl]
    by_cases hk : k = f
    · rw [if_pos hk, List.length_cons, List.length_cons]; omega
    · rw [if_neg hk, List.length_cons, List.length_cons]; omega

theorem RelO.some_of {v : V} {o : Option Value} (r : RelO (some v) o) : ∃ u, o = some u ∧ RelV v u := by
  cases o with
  | none => exact (show False from r).elim
  | some u => exact ⟨u, rfl, r⟩
theorem RelO.none_of {o : Option Value} (r : RelO none o) : o = none := by
  cases o with
  | none => rfl
  | some u => exact (show False from r).elim
theorem handed_of {v : V} {u : Value} (r : RelV v u) : PySem.W.handedIn u = true := by
  cases v with
  | non => cases (show u = Value.none from r); rfl
  | bl b => cases (show u = Value.bool b from r); rfl
  | int i => obtain ⟨t, e⟩ := (show ∃ t, u = Value.int i t from r); cases e; rfl
  | str x => obtain ⟨t, e⟩ := (show ∃ t, u = Value.str x t from r); cases e; rfl
  | byt b => obtain ⟨t, e⟩ := (show ∃ t, u = Value.bytes b t from r); cases e; rfl
  | flt b => obtain ⟨t, e⟩ := (show ∃ t, u = Value.float b t from r); cases e; rfl
  | ref a => cases (show u = Value.ref a from r); rfl
  | ty n => cases (show u = Value.type n from r); rfl

section
variable {P : Program} {w : World} {H H' : Hp} {h h' : Heap} {a C dx : Addr} {fs fs' : List (Str × V)}
theorem ins_get (hok : HOk P w H h) (e : H a = some (.ins C dx fs)) : ∃ mA, ObjM h a dx C mA ∧ (∀ f, RelO (fs.lookup f) (mA f)) ∧ PySem.Within mA (fs.map (·.1)) ∧ fs.length ≤ 1000 ∧ H dx = some (.own a) := by
  obtain ⟨d, z, ne, ob, mA, n, r, q⟩ := (show ObjOk P w H h a (.ins C dx fs) from hok a _ e)
  exact ⟨mA, ⟨ob, n, ne⟩, r, q, z, d⟩
end

/-! ### what of the text a class must have -/
structure Cls (K : PySem.W.Frag) (C : Addr) : Prop where
  pg : PySem.W.plainGet K C Str.empty = true
  hd : PySem.W.hasDictIn K C = true
  po : PySem.W.plainOver K C = true
  sa : PySem.W.findIn K (.ref C) "__setattr__" = some (some (.builtin "object.__setattr__"))
theorem Cls.get {K : PySem.W.Frag} {C : Addr} (c : Cls K C) (f : Str) : PySem.W.plainGet K C f = true := c.pg
/-- no class of it has the name -/
def NoAttr (K : PySem.W.Frag) (C : Addr) (f : Str) : Prop := PySem.W.findIn K (.ref C) f = some none
theorem NoAttr.taker {K : PySem.W.Frag} {C : Addr} {f : Str} (n : NoAttr K C f) : PySem.W.takerIn K C f = some none := by
  unfold PySem.W.takerIn
  rw [show PySem.W.findIn K (.ref C) f = some none from n]
  rfl
/-- a constant of the class -/
structure Con (K : PySem.W.Frag) (C : Addr) (f : Str) (v : V) (u : Value) : Prop where
  at_ : PySem.W.findIn K (.ref C) f = some (some u)
  rel : RelV v u
  get : PySem.W.specialIn K u "__get__" = some none
  cp : PySem.W.copiedNames.contains f = false
/-- a method: a plain def of the class or of one above it -/
structure Meth (K : PySem.W.Frag) (C : Addr) (m : Str) (f : Addr) : Prop where
  at_ : PySem.W.findIn K (.ref C) m = some (some (.ref f))
  fn : PySem.W.isFn K (.ref f) = true
  kp : PySem.W.keepIn K (.ref f) = true

section
variable {X : Cx} {pins : List (Addr × Obj)} {σ : St} {H : Hp} {s : Shared} {a C dx : Addr} {fs : List (Str × V)} {f : Str} {v : V} {A : Around} {E : Value → Shared → Prop}

theorem getattr_ok {b : Bool} {Q : Value → Shared → Prop} (I : Inv X pins σ H s) (e : H a = some (.ins C dx fs)) (c : Cls X.K C) (n : NoAttr X.K C f) (l : fs.lookup f = some v)
    (h : ∀ u s', Inv X pins σ H s' → RelV v u → Q u s') : wpAny (model X.prog X.w) A (getAttr (.ref a) f b) Q E s := by
  obtain ⟨mA, O, r, _, _, _⟩ := ins_get I.hok e
  obtain ⟨u, hu, ru⟩ := RelO.some_of (v := v) (o := mA f) (by rw [← l]; exact r f)
  exact get_map I.kIn O (c.get f) c.hd n hu (handed_of ru) (h u _ (I.tok _) ru)

theorem getmeth_ok {m : Str} {g : Addr} {pl : Sem Bool} {Q : Value × List Value → Shared → Prop} (I : Inv X pins σ H s) (e : H a = some (.ins C dx fs)) (c : Cls X.K C) (k : Meth X.K C m g) (l : fs.lookup m = none)
    (h : Q (.ref g, [.ref a]) s) : wpAny (model X.prog X.w) A (getMethod (.ref a) m pl) Q E s := by
  obtain ⟨mA, O, r, _, _, _⟩ := ins_get I.hok e
  have hn : mA m = none := RelO.none_of (by rw [← l]; exact r m)
  exact get_meth I.kIn O (c.get m) k.at_ k.fn hn h

theorem setattr_ok {y : V} {u : Value} {Q : Unit → Shared → Prop} (I : Inv X pins σ H s) (e : H a = some (.ins C dx fs)) (c : Cls X.K C) (n : NoAttr X.K C f) (hl : fs.length < 1000) (ry : RelV y u)
    (h : ∀ s', Inv X pins σ (upd H a (.ins C dx (putF f y fs))) s' → Q () s') : wpAny (model X.prog X.w) A (setAttr (.ref a) f u) Q E s := by
  obtain ⟨mA, O, r, wi, _, ho⟩ := ins_get I.hok e
  have hz : (fs.map (·.1)).length ≤ sizeLine := by rw [List.length_map, sizeLine_eq]; omega
  refine set_map I.kIn O c.sa c.po n.taker c.hd wi hz fun h' O' sb => h _ ?_
  have hd : ∃ o, h'.get? dx = some o := let ⟨o, _, _, e', _⟩ := O'.ns; ⟨o, e'⟩
  refine I.write (x := a) (e := dx) (by rw [e]; exact True.intro) (.inr ho) (fun b q hb z => (sb.2 b hb).trans z) hd ?_
  refine ⟨by rw [upd_ne O.ne]; exact ho, ?_, O.ne, O'.obj, _, O'.ns, fun g => ?_, fun g hg => ?_⟩
  · have := length_putF f y fs; omega
  · show RelO ((putF f y fs).lookup g) (if g = f then some u else mA g)
    rw [lookup_putF]
    by_cases q : g = f
    · rw [if_pos q, if_pos q]; exact ry
    · rw [if_neg q, if_neg q]; exact r g
  · by_cases q : g = f
    · rw [q]; exact (keys_putF f y fs).1
    · refine (keys_putF f y fs).2 g (wi g fun z => hg ?_)
      show (if g = f then some u else mA g) = none
      rw [if_neg q]; exact z

/-- a new instance, tracked, without attributes -/
theorem Inv.made (I : Inv X pins σ H s) : Inv X pins σ (upd (upd H s.heap.objs.size (.own (s.heap.objs.size + 1))) (s.heap.objs.size + 1) (.ins C s.heap.objs.size []))
    { s with heap := (s.heap.push PySem.W.emptyDict).push (PySem.W.instObj C s.heap.objs.size) } := by
  have e1 : (s.heap.push PySem.W.emptyDict).get? s.heap.objs.size = some PySem.W.emptyDict := Heap.get?_push_size s.heap rfl
  have e2 : ((s.heap.push PySem.W.emptyDict).push (PySem.W.instObj C s.heap.objs.size)).get? (s.heap.objs.size + 1) = some (PySem.W.instObj C s.heap.objs.size) := by
    have := Heap.get?_push_size (s.heap.push PySem.W.emptyDict) (o := PySem.W.instObj C s.heap.objs.size) rfl
    rwa [Heap.size_push] at this
  have e3 : (s.heap.push PySem.W.emptyDict).Ns s.heap.objs.size (fun _ => none) := ⟨PySem.W.emptyDict, #[], _, e1, rfl, (fun e he => absurd he (by simp)), fun _ => rfl⟩
  have I1 := I.laid (a := s.heap.objs.size) (o := .own (s.heap.objs.size + 1)) (h' := s.heap.push PySem.W.emptyDict) (t' := s.toks) (fun b u q => Heap.get?_push_of_some _ q) (Nat.le_refl _) ⟨_, e1⟩
  refine I1.laid (a := s.heap.objs.size + 1) (o := .ins C s.heap.objs.size []) (t' := s.toks) (fun b u q => Heap.get?_push_of_some _ q) (Nat.le_of_eq (Heap.size_push _ _)) ?_
  have ne : s.heap.objs.size ≠ s.heap.objs.size + 1 := Nat.ne_of_lt (Nat.lt_succ_self _)
  refine ⟨by rw [upd_ne ne, upd_same], Nat.zero_le _, ne, e2, fun _ => none, (Heap.Ns1.of_empty e3).at fun o q => Heap.get?_push_of_some _ q, fun _ => True.intro, fun y hy => absurd rfl hy⟩

/-- e.f where nothing but the object is asked: through attributeBase (super) and the last hold -/
theorem attr_of {prog : Program} {w : World} {env : Env} {e : Expr} {f : Str} {pos : Pos} {s : Shared} {Q : Value → Shared → Prop} (hb : attributeBase e f env (eval e env) = eval e env)
    (h : wpAny (model prog w) A (eval e env) (fun o s₁ => wpAny (model prog w) A (getAttr o f true) Q E s₁) E s) : wpAny (model prog w) A (eval (.Attribute e f pos) env) Q E s :=
  Attribute_any_ h (by rw [arm_eval_Attribute, hb])
end

/-! ### readings and rules -/
/-- e.f, an attribute of the instance -/
def tFld (K : PySem.W.Frag) (ta : TE) (f : Str) : TE := fun σ H Q => ta σ H fun x H1 => ∃ a C dx fs v, x = .ref a ∧ H1 a = some (.ins C dx fs) ∧ Cls K C ∧ NoAttr K C f ∧ fs.lookup f = some v ∧ Q v H1
/-- e.f = value -/
def sFld (K : PySem.W.Frag) (ta tv : TE) (f : Str) : TS := fun D σ H => tv σ H fun y H1 => ta σ H1 fun x H2 => ∃ a C dx fs, x = .ref a ∧ H2 a = some (.ins C dx fs) ∧ Cls K C ∧ NoAttr K C f ∧ fs.length < 1000 ∧
  D.nx σ (upd H2 a (.ins C dx (putF f y fs)))
section
variable {X : Cx} {o e value : Expr} {f : Str} {pos pos' tpos : Pos} {ta tv : TE}
theorem pe_fld (he : PE X e ta) (hb : attributeBase e f X.env (eval e X.env) = eval e X.env) : PE X (.Attribute e f pos) (tFld X.K ta f) := by
  intro pins s σ H Q I h
  refine attr_of hb (thn (he pins s σ H _ I h) fun u s1 ⟨x, H1, I1, rx, a, C, dx, fs, v, ex, ea, c, n, l, q⟩ => ?_)
  subst ex
  obtain rfl : u = Value.ref a := rx
  exact getattr_ok I1 ea c n l fun u' s2 I2 ru => ⟨v, H1, I2, ru, q⟩
theorem ps_fld (ha : PE X o ta) (hv : PE X value tv) (hs : swapsWith value (some (.Attribute o f pos')) pos.line X.env = pure false) : PS X (.Assign [.Attribute o f pos'] value pos) (sFld X.K ta tv f) := by
  intro pins s σ H D I h
  refine plainObj_wpAny_Assign_Attribute (thn (hv pins s σ H _ I h) fun u s1 ⟨y, H1, I1, ry, q⟩ => thn (ha pins s1 σ H1 _ I1 q) fun ov s2 ⟨x, H2, I2, rx, a, C, dx, fs, ex, ea, c, n, l, q2⟩ => ?_) hs
  subst ex
  obtain rfl : ov = Value.ref a := rx
  exact setattr_ok I2 ea c n l ry fun s3 I3 => ⟨σ, _, I3, q2⟩
end

/-! ### isinstance -/
section
variable {X : Cx} {pins : List (Addr × Obj)} {σ : St} {H : Hp} {s : Shared} {A : Around} {E : Value → Shared → Prop} {Q : Value → Shared → Prop} {c : Value} {b : Bool}
/-- the type of a value, as the fragment's deciders take it; for an instance its class -/
inductive TyOf (K : PySem.W.Frag) (H : Hp) : V → Value → Prop where
  | non : TyOf K H .non (.type "NoneType")
  | bl (x : Bool) : TyOf K H (.bl x) (.type "bool")
  | int (i : Int) : TyOf K H (.int i) (.type "int")
  | str (x : Str) : TyOf K H (.str x) (.type "str")
  | flt (x : UInt64) : TyOf K H (.flt x) (.type "float")
  | lst {a : Addr} {xs : List V} (e : H a = some (.lst xs)) : TyOf K H (.ref a) (.type "list")
  | frz {a : Addr} {o : Obj} {xs : List V} (e : H a = some (.frz o (.lst xs))) : TyOf K H (.ref a) (.type "list")
  | tup {a : Addr} {xs : List V} (e : H a = some (.tup xs)) : TyOf K H (.ref a) (.type "tuple")
  | dK {a : Addr} {kvs : List (Key × V)} (e : H a = some (.dK kvs)) : TyOf K H (.ref a) (.type "dict")
  | dT {a : Addr} {kvs : List (List Key × V)} (e : H a = some (.dT kvs)) : TyOf K H (.ref a) (.type "dict")
  | ins {a C dx : Addr} {fs : List (Str × V)} (e : H a = some (.ins C dx fs)) (cl : Cls K C) (ha : PySem.W.findIn K (.ref C) "__class__" = some (some (.builtin "object.__class__")))
      (hn : PySem.W.specialIn K (.builtin "object.__class__") "__get__" = some (some (.builtin "getset_descriptor.__get__"))) (htk : PySem.W.takesIn K (.builtin "object.__class__") = some true)
      (hm : PySem.W.mroIn K C (.type "object") = some true) : TyOf K H (.ref a) (.ref C)
end
end L2

namespace L2
open PySem PySem.Spec PyProof.Rows

/-! ### room -/
structure Room (k : Nat) (A : Around) : Prop where
  hd : A.handled = none
  dp : A.depth + 3 * k + 5 < recursionLimit
  un : A.units + 16 * k + 200 < cLine
theorem Room.mono {j k : Nat} {A : Around} (r : Room k A) (h : j ≤ k) : Room j A := ⟨r.hd, by have := r.dp; omega, by have := r.un; omega⟩
theorem Room.deeper {k : Nat} {A : Around} (r : Room (k + 1) A) (env : Env) : Room k (A.deeper env) :=
  ⟨r.hd, by have := r.dp; show A.depth + 1 + 3 * k + 5 < _; omega, by have := r.un; show A.units + 3 + 16 * k + 200 < _; omega⟩
theorem make_depth {A : Around} {C : Addr} {us : List Value} {kw : List (Str × Value)} : (A.under (.builtin "type.__call__" ⟨.ref C :: us, kw⟩)).depth = A.depth + 1 := by
  first | rfl | simp [Around.under, Code.weight, Code.isCreation, Code.isGuard, Code.isCaller, Code.frames, Code.isFrame, guardIds]
theorem make_units {A : Around} {C : Addr} {us : List Value} {kw : List (Str × Value)} : (A.under (.builtin "type.__call__" ⟨.ref C :: us, kw⟩)).units = A.units + 1 := by
  first | rfl | simp [Around.under, Code.cUnits, Code.frames, Code.isFrame]
theorem Room.make {k : Nat} {A : Around} (r : Room (k + 1) A) (C : Addr) (us : List Value) (kw : List (Str × Value)) : Room k (A.under (.builtin "type.__call__" ⟨.ref C :: us, kw⟩)) :=
  ⟨r.hd, by have := r.dp; rw [make_depth]; omega, by have := r.un; rw [make_units]; omega⟩
theorem Room.depth {k : Nat} {A : Around} (r : Room k A) : A.depth < recursionLimit := by have := r.dp; omega
theorem Room.units {k : Nat} {A : Around} (r : Room k A) : A.units + 64 < cLine := by have := r.un; omega
/-! ### argument lists and displays -/
def tNil : TA := fun _ H Q => Q [] H
def tCons (ta : TE) (tr : TA) : TA := fun σ H Q => ta σ H fun x H1 => tr σ H1 fun xs H2 => Q (x :: xs) H2
section
variable {X : Cx} {e : Expr} {es : List Expr} {te : TE} {t : TA} {pos : Pos}
theorem pa_nil : PA X [] tNil := fun _ _ _ _ H Q I h => Calls.spliced_nil ⟨[], H, I, .nil, h⟩
theorem pa_cons (ha : PE X e te) (hr : PA X es t) (hs : starEach (e :: es) X.env = (false, eval e X.env) :: starEach es X.env := by rfl) : PA X (e :: es) (tCons te t) := by
  intro pos pins s σ H Q I h
  rw [hs]
  show wpAny _ _ (spliced ((false, eval e X.env) :: backTo pos (starEach es X.env))) _ _ s
  refine Calls.spliced_cons (thn (ha pins s σ H _ I h) fun u s1 ⟨x, H1, I1, r1, q1⟩ => ?_)
  exact thn (hr pos pins s1 σ H1 _ I1 q1) fun us s2 ⟨xs, H2, I2, r2, q2⟩ => ⟨x :: xs, H2, I2, .cons r1 r2, q2⟩

/-- a tuple, a list of written items -/
def tTup (t : TA) : TE := fun σ H Q => t σ H fun xs H1 => xs.length ≤ sizeLine ∧ ∀ p, H1 p = none → Q (.ref p) (upd H1 p (.tup xs))
def tLst (t : TA) : TE := fun σ H Q => t σ H fun xs H1 => xs.length ≤ sizeLine ∧ ∀ p, H1 p = none → Q (.ref p) (upd H1 p (.lst xs))
theorem pe_tup {x1} (h : PA X es t) : PE X (.Tuple es x1 pos) (tTup t) := by
  intro pins s σ H Q I hq
  refine wpAny_Tuple_spliced (thn (h pos pins s σ H _ I hq) fun us s1 ⟨xs, H1, I1, r, z, q⟩ => ⟨by rw [← r.length]; exact z, ?_⟩)
  have hf : H1 s1.heap.objs.size = none := I1.hok.fresh (Nat.le_refl _)
  refine ⟨.ref s1.heap.objs.size, upd H1 s1.heap.objs.size (.tup xs), I1.laid (t' := s1.toks) (fun b u e => Heap.get?_push_of_some _ e) (Nat.le_refl _) ?_, rfl, q _ hf⟩
  exact ⟨z, us, r, ⟨_, Heap.get?_push_size _ rfl, rfl, _, rfl⟩⟩
theorem pe_lst (h : PA X es t) : PE X (.List es pos) (tLst t) := by
  intro pins s σ H Q I hq
  refine wpAny_List_spliced (thn (h pos pins s σ H _ I hq) fun us s1 ⟨xs, H1, I1, r, z, q⟩ => ⟨by rw [← r.length]; exact z, ?_⟩)
  have hf : H1 s1.heap.objs.size = none := I1.hok.fresh (Nat.le_refl _)
  refine ⟨.ref s1.heap.objs.size, upd H1 s1.heap.objs.size (.lst xs), I1.laid (t' := s1.toks) (fun b u e => Heap.get?_push_of_some _ e) (Nat.le_refl _) ?_, rfl, q _ hf⟩
  exact ⟨z, us, 0, r, Heap.get?_push_size _ rfl⟩
end

/-! ### what a def promises -/
/-- a def's promise: the bound arguments in the parameters' order, the heap, the wanted end, the wanted exception -/
abbrev Sp := List V → Hp → VK → XK → Prop
/-- how an exception lies behind a call (file 08 gives it): the callers' frames, abstract heap and state ahead of the call, the wish, the exception, the state -/
abbrev CXT := List Env → Hp → Shared → XK → Value → Shared → Prop

/-- the state at a call -/
structure Env0 (P : Program) (w : World) (K : PySem.W.Frag) (mg : Str → Option Value) (base : Heap) (A : Around) (outer : List Env) (s : Shared) (H : Hp) : Prop where
  frames : A.frames = some outer
  mod : Mod K mg base
  bs : ∀ b o, base.get? b = some o → s.heap.get? b = some o ∧ H b = none
  bsz : base.objs.size ≤ s.heap.objs.size
  funs : s.heap.FunFrames base outer
  frf : ∀ b ∈ frs outer, H b = none
  hok : HOk P w H s.heap
  bare : AllBare s.gens
/-- a call's end -/
def CE (outer : List Env) (P : Program) (w : World) (H : Hp) (s : Shared) (Q : VK) (u : Value) (s' : Shared) : Prop :=
  ∃ v H', s'.os = s.os ∧ AllBare s'.gens ∧ Un (frs outer) [] H H' s.heap s'.heap ∧ HOk P w H' s'.heap ∧ RelV v u ∧ Q v H'
def CR (CX : CXT) (outer : List Env) (P : Program) (w : World) (H : Hp) (s : Shared) (Q : VK) (E : XK) (r : Result) (s' : Shared) : Prop :=
  match r with
  | .ok (.ret u) => CE outer P w H s Q u s'
  | .ok _ => False
  | .error e => CX outer H s E e s'
structure FnOk (P : Program) (w : World) (K : PySem.W.Frag) (mg : Str → Option Value) (base : Heap) (CX : CXT) (k : Nat) (f : Addr) (fd : FuncData) (ps : List Str) (sp : Sp) : Prop where
  len : ∀ vs H Q E, sp vs H Q E → vs.length = ps.length
  run : ∀ (A : Around) (outer : List Env) (s : Shared) (H : Hp) (args : Args) (us : List Value) (vs : List V) (Q : VK) (E : XK), Room k A → Env0 P w K mg base A outer s H → BindsTo s fd args (ps.zip us) → Vals vs us → sp vs H Q E →
    codeAny (model P w) A (.call (.ref f) args) (CR CX outer P w H s Q E) s
/-- a weaker promise -/
theorem FnOk.imp {P : Program} {w : World} {K : PySem.W.Frag} {mg : Str → Option Value} {base : Heap} {CX : CXT} {k : Nat} {f : Addr} {fd : FuncData} {ps : List Str} {sp sp' : Sp} (F : FnOk P w K mg base CX k f fd ps sp)
    (h : ∀ vs H Q E, sp' vs H Q E → sp vs H Q E) : FnOk P w K mg base CX k f fd ps sp' :=
  ⟨fun vs H Q E q => F.len vs H Q E (h _ _ _ _ q), fun A outer s H args us vs Q E hr he hb hv hs => F.run A outer s H args us vs Q E hr he hb hv (h _ _ _ _ hs)⟩

theorem Env0.make {P : Program} {w : World} {K : PySem.W.Frag} {mg : Str → Option Value} {base : Heap} {A : Around} {outer : List Env} {s : Shared} {H : Hp} (e : Env0 P w K mg base A outer s H) (C : Addr) (us : List Value) (kw : List (Str × Value)) :
    Env0 P w K mg base (A.under (.builtin "type.__call__" ⟨.ref C :: us, kw⟩)) outer s H := ⟨by first | exact e.frames | (simpa [Around.under, Code.envs, Code.isFrame, pushEnvs] using e.frames), e.mod, e.bs, e.bsz, e.funs, e.frf, e.hok, e.bare⟩
section
variable {X : Cx} {pins : List (Addr × Obj)} {σ : St} {H : Hp} {s s' : Shared}
/-- from a body: what a callee wants -/
theorem Inv.env0 (I : Inv X pins σ H s) : Env0 X.prog X.w X.K X.mg X.base X.A X.stack s H :=
  ⟨I.ok.frames, I.ok.mod, I.bs, Nat.le_trans I.ok.bsz I.sz, I.stack, I.stkFree, I.hok, I.bare⟩
/-- behind a call -/
theorem Inv.after {Q : VK} {u : Value} (I : Inv X pins σ H s) (h : CE X.stack X.prog X.w H s Q u s') : EP X pins σ Q u s' := by
  obtain ⟨v, H', os, bare, un, hok, r, q⟩ := h
  obtain ⟨hh, g, d, t, os'⟩ := s'
  obtain rfl : os' = s.os := os
  exact ⟨v, H', I.call (h' := hh) (g' := g) (d' := d) (t' := t) (ch := []) un hok bare (fun b z => absurd z (by simp)), r, q⟩
end

/-! ### calls -/
/-- f(..): the written arguments, then the defaults dvs; E: what is wanted of an exception -/
def tCall (sp : Sp) (dvs : List V) (E : XK) (t : TA) : TE := fun σ H Q => t σ H fun vs H1 => sp (vs ++ dvs) H1 Q E
/-- o.m(..) of an instance of the class at C -/
def tMeth (C : Addr) (m : Str) (sp : Sp) (dvs : List V) (E : XK) (ta : TE) (t : TA) : TE := fun σ H Q => ta σ H fun x H1 => ∃ a dx fs, x = .ref a ∧ H1 a = some (.ins C dx fs) ∧ fs.lookup m = none ∧
  t σ H1 fun vs H2 => sp (x :: (vs ++ dvs)) H2 Q E
/-- C(..): a new instance and its dict, then __init__ -/
def tMake (C : Addr) (sp : Sp) (dvs : List V) (E : XK) (t : TA) : TE := fun σ H Q => t σ H fun vs H1 => ∀ x dx, H1 x = none → H1 dx = none → dx ≠ x →
  sp (.ref x :: (vs ++ dvs)) (upd (upd H1 dx (.own x)) x (.ins C dx [])) (fun v H2 => v = .non ∧ Q (.ref x) H2) E

/-- how the parameters are bound: us the positional arguments, kw the keywords' values by name, ds the defaults that fill up -/
def Binds (K : PySem.W.Frag) (fd : FuncData) (ps : List Str) (ds : List Value) : Prop :=
  ∀ (s : Shared) (us : List Value), K.In s.heap → (us ++ ds).length = ps.length → BindsTo s fd ⟨us, []⟩ (ps.zip (us ++ ds))
/-- every parameter is given -/
theorem Binds.all {K : PySem.W.Frag} {fd : FuncData} {ps : List Str} (h : ∀ us : List Value, us.length = ps.length → bindArgs fd ⟨us, []⟩ = pure (ps.zip us)) : Binds K fd ps [] := fun s us _ hl => by
  rw [List.append_nil] at hl ⊢
  exact .of_eq (h us hl)

/-- an exception of a callee reaches what this body wants of exceptions -/
def Passes (CX : CXT) (X : Cx) (E : XK) : Prop := ∀ (pins : List (Addr × Obj)) (σ : St) (H : Hp) (s : Shared) (e : Value) (s' : Shared), Inv X pins σ H s → CX X.stack H s E e s' → X.xe e s'

section
variable {X : Cx} {CX : CXT} {k : Nat} {f C : Addr} {fd : FuncData} {ps : List Str} {sp : Sp} {dvs : List V} {ds : List Value} {E : XK} {x m : Str} {p pos apos : Pos} {e o : Expr} {es : List Expr} {ta : TE} {t : TA}

/-- the callee runs -/
theorem run_fn {pins : List (Addr × Obj)} {σ : St} {H : Hp} {s : Shared} {Q : VK} {us : List Value} {vs : List V} (F : FnOk X.prog X.w X.K X.mg X.base CX k f fd ps sp) (hr : Room k X.A) (hb : Binds X.K fd ps ds) (hd : Vals dvs ds) (hx : Passes CX X E)
    (I : Inv X pins σ H s) (r : Vals vs us) (h : sp (vs ++ dvs) H Q E) : wpAny (model X.prog X.w) X.A (call (.ref f) us) (EP X pins σ Q) X.xe s := by
  have r2 : Vals (vs ++ dvs) (us ++ ds) := r.append hd
  have hl : (us ++ ds).length = ps.length := by rw [← r2.length]; exact F.len _ _ _ _ h
  refine wpAny_call (codeAny_mono (F.run X.A X.stack s H ⟨us, []⟩ (us ++ ds) (vs ++ dvs) Q E hr I.env0 (hb s us I.kIn hl) r2 h) fun r s' hq => ?_)
  cases r with
  | error e => exact hx pins σ H s e s' I hq
  | ok fl =>
    cases fl with
    | ret u => exact I.after hq
    | next => exact False.elim hq
    | brk => exact False.elim hq
    | cont => exact False.elim hq

theorem pe_call (F : FnOk X.prog X.w X.K X.mg X.base CX k f fd ps sp) (hr : Room k X.A) (hg : Gl X x) (hm : X.mg x = some (.ref f)) (hk : PySem.W.keepIn X.K (.ref f) = true) (hb : Binds X.K fd ps ds) (hd : Vals dvs ds) (hx : Passes CX X E)
    (ha : PA X (e :: es) t) (hdb : (x == ("__debug__" : Str)) = false := by decide) (he : starEach (e :: es) X.env = (false, eval e X.env) :: starEach es X.env := by rfl) (hpl : (backTo pos (starEach es X.env)).any (·.1) = false := by rfl) :
    PE X (.Call (.Name x p) (e :: es) [] pos) (tCall sp dvs E t) := by
  intro pins s σ H Q I h
  refine wpAny_Call_Name_kw (ld_glob I hg hm ?_ hdb)
  refine PySem.W.callWith_K (h₀ := X.base) I.ok.mod.kin hk (thn (ha pos pins s σ H _ I h) fun us s1 ⟨vs, H1, I1, r, q⟩ => ⟨I1.kIn, ?_⟩) he hpl
  exact run_fn F hr hb hd hx I1 r q
theorem pe_call0 (F : FnOk X.prog X.w X.K X.mg X.base CX k f fd ps sp) (hr : Room k X.A) (hg : Gl X x) (hm : X.mg x = some (.ref f)) (hk : PySem.W.keepIn X.K (.ref f) = true) (hb : Binds X.K fd ps ds) (hd : Vals dvs ds) (hx : Passes CX X E)
    (hdb : (x == ("__debug__" : Str)) = false := by decide) : PE X (.Call (.Name x p) [] [] pos) (tCall sp dvs E tNil) := by
  intro pins s σ H Q I h
  refine wpAny_Call_Name_kw (ld_glob I hg hm ?_ hdb)
  exact PySem.W.callWith_K0 I.kIn hk (run_fn (us := []) F hr hb hd hx I .nil h)

/-- o.m(e, ..) -/
theorem pe_meth {pl : Sem Bool} (he : PE X o ta) (c : Cls X.K C) (hm : Meth X.K C m f) (F : FnOk X.prog X.w X.K X.mg X.base CX k f fd ps sp) (hr : Room k X.A) (hb : Binds X.K fd ps ds) (hd : Vals dvs ds) (hx : Passes CX X E) (ha : PA X (e :: es) t)
    (hst : starEach (e :: es) X.env = (false, eval e X.env) :: starEach es X.env := by rfl) (hpl : (backTo pos (starEach es X.env)).any (·.1) = false := by rfl)
    (ht : eval (.Call (.Attribute o m apos) (e :: es) [] pos) X.env = (do
      let ov ← eval o X.env
      standAt apos.atName
      let (f, first) ← holding [ov] (getMethod ov m pl)
      callWith pos f first (backTo pos (starEach (e :: es) X.env)) (backToKw pos (keywordEach [] X.env))) := by rfl) :
    PE X (.Call (.Attribute o m apos) (e :: es) [] pos) (tMeth C m sp dvs E ta t) := by
  intro pins s σ H Q I h
  refine PySem.W.methodCall_KW (pl := pl) (thn (he pins s σ H _ I h) fun u s1 ⟨x, H1, I1, rx, a, dx, fs, ex, ea, l, q⟩ => ?_) ht
  subst ex
  obtain rfl : u = Value.ref a := rx
  refine getmeth_ok I1 ea c hm l ?_
  refine PySem.W.callWith_K (first := [.ref a]) (h₀ := X.base) I.ok.mod.kin hm.kp (thn (ha pos pins s1 σ H1 _ I1 q) fun us s2 ⟨vs, H2, I2, r, q2⟩ => ⟨I2.kIn, ?_⟩) hst hpl
  exact run_fn (us := .ref a :: us) (vs := .ref a :: vs) F hr hb hd hx I2 (.cons rfl r) q2
/-- what a class must have to be made -/
structure Mk (K : PySem.W.Frag) (C f : Addr) : Prop where
  makes : PySem.W.makesIn K C = true
  init : PySem.W.findIn K (.ref C) "__init__" = some (some (.ref f))
  fn : PySem.W.isFn K (.ref f) = true
  kp : PySem.W.keepIn K (.ref C) = true

theorem run_make {pins : List (Addr × Obj)} {σ : St} {H : Hp} {s : Shared} {Q : VK} {us : List Value} {vs : List V} (M : Mk X.K C f) (F : FnOk X.prog X.w X.K X.mg X.base CX k f fd ps sp) (hr : Room (k + 1) X.A) (hb : Binds X.K fd ps ds) (hd : Vals dvs ds)
    (hx : Passes CX X E) (I : Inv X pins σ H s) (r : Vals vs us)
    (h : ∀ x dx, H x = none → H dx = none → dx ≠ x → sp (.ref x :: (vs ++ dvs)) (upd (upd H dx (.own x)) x (.ins C dx [])) (fun v H2 => v = .non ∧ Q (.ref x) H2) E) :
    wpAny (model X.prog X.w) X.A (call (.ref C) us) (EP X pins σ Q) X.xe s := by
  have hq := h (s.heap.objs.size + 1) s.heap.objs.size (I.hok.fresh (Nat.le_succ _)) (I.hok.fresh (Nat.le_refl _)) (Nat.ne_of_lt (Nat.lt_succ_self _))
  have I2 := Inv.made (C := C) I
  have r2 : Vals (V.ref (s.heap.objs.size + 1) :: (vs ++ dvs)) (Value.ref (s.heap.objs.size + 1) :: (us ++ ds)) := .cons rfl (r.append hd)
  have hl : (Value.ref (s.heap.objs.size + 1) :: us ++ ds).length = ps.length := by
    have e := r2.length
    rw [F.len _ _ _ _ hq] at e
    exact e.symm
  refine wpAny_call (make_map (f := f) I.kIn M.makes M.init (beq_iff_eq.mp M.fn) (codeAny_mono (F.run _ X.stack _ _ ⟨Value.ref (s.heap.objs.size + 1) :: us, []⟩ (Value.ref (s.heap.objs.size + 1) :: (us ++ ds)) _ _ E (hr.make C us [])
    (I2.env0.make C us []) (hb _ (Value.ref (s.heap.objs.size + 1) :: us) I2.kIn hl) r2 hq) fun r s' hq' => ?_))
  cases r with
  | error e => exact hx pins σ _ _ e s' I2 hq'
  | ok fl =>
    cases fl with
    | ret u =>
      obtain ⟨v, H', I3, rv, ev, q3⟩ := I2.after hq'
      subst ev
      exact ⟨rv, ⟨V.ref (s.heap.objs.size + 1), H', I3, rfl, q3⟩⟩
    | next => exact False.elim hq'
    | brk => exact False.elim hq'
    | cont => exact False.elim hq'
theorem pe_make (M : Mk X.K C f) (F : FnOk X.prog X.w X.K X.mg X.base CX k f fd ps sp) (hr : Room (k + 1) X.A) (hg : Gl X x) (hm : X.mg x = some (.ref C)) (hb : Binds X.K fd ps ds) (hd : Vals dvs ds) (hx : Passes CX X E)
    (ha : PA X (e :: es) t) (hdb : (x == ("__debug__" : Str)) = false := by decide) (he : starEach (e :: es) X.env = (false, eval e X.env) :: starEach es X.env := by rfl) (hpl : (backTo pos (starEach es X.env)).any (·.1) = false := by rfl) :
    PE X (.Call (.Name x p) (e :: es) [] pos) (tMake C sp dvs E t) := by
  intro pins s σ H Q I h
  refine wpAny_Call_Name_kw (ld_glob I hg hm ?_ hdb)
  refine PySem.W.callWith_K (h₀ := X.base) I.ok.mod.kin M.kp (thn (ha pos pins s σ H _ I h) fun us s1 ⟨vs, H1, I1, r, q⟩ => ⟨I1.kIn, ?_⟩) he hpl
  exact run_make M F hr hb hd hx I1 r q
end

/-! ### keywords -/
section
variable {X : Cx} {CX : CXT} {k : Nat} {f C : Addr} {fd : FuncData} {ps ks : List Str} {sp : Sp} {E : XK} {x m : Str} {p pos apos kpos : Pos} {e o : Expr} {es : List Expr} {kws : List Keyword} {te ta : TE} {t tk : TA} {nm : Option Str}
/-- how a call with keywords binds: g puts the positional values us and the keywords' values ws (names ks) in the parameters' order, defaults among them -/
structure KBinds (K : PySem.W.Frag) (fd : FuncData) (ps ks : List Str) (g : List Value → List Value → List Value) (gV : List V → List V → List V) : Prop where
  to : ∀ (s : Shared) (us ws : List Value), K.In s.heap → (g us ws).length = ps.length → BindsTo s fd ⟨us, ks.zip ws⟩ (ps.zip (g us ws))
  rel : ∀ {vs : List V} {us : List Value} {zs : List V} {ws : List Value}, Vals vs us → Vals zs ws → Vals (gV vs zs) (g us ws)
variable {g : List Value → List Value → List Value} {gV : List V → List V → List V}
end

/-! ### a def's body keeps its promise -/
/-- names: the parameters first -/
structure FnScope (N P : List Str) (sc : Scope) : Prop where
  kind : sc.kind = .function
  co : sc.isCoroutine = false
  gen : sc.isGenerator = false
  nd : N.Nodup
  pre : N.take P.length = P
  par : ∀ x ∈ P, sc.names.lookup x = some .local ∨ sc.names.lookup x = some .cell
  nofree : ∀ y ∈ sc.names, y.2 ≠ .free

theorem bindL_out {kindOf : Str → Option NameKind} {x : Str} : ∀ {binds : List (Str × Value)} {m : Str → Option Value}, (∀ v, (x, v) ∉ binds) → bindL kindOf binds m x = m x
  | [], _, _ => rfl
  | (n, v) :: r, m, h => by
    unfold bindL
    rw [bindL_out fun w hw => h w (List.mem_cons_of_mem _ hw)]
    split
    · have : x ≠ n := by rintro rfl; exact h v List.mem_cons_self
      simp [this]
    · rfl
theorem bindC_out {kindOf : Str → Option NameKind} {x : Str} : ∀ {binds : List (Str × Value)} {m : Str → Option Value}, (∀ v, (x, v) ∉ binds) → bindC kindOf binds m x = m x
  | [], _, _ => rfl
  | (n, v) :: r, m, h => by
    unfold bindC
    rw [bindC_out fun w hw => h w (List.mem_cons_of_mem _ hw)]
    split
    · rfl
    · have : x ≠ n := by rintro rfl; exact h v List.mem_cons_self
      simp [this]
theorem bindL_get {kindOf : Str → Option NameKind} {x : Str} {v : Value} : ∀ {P : List Str} {vs : List Value} {i : Nat} {m : Str → Option Value}, P.Nodup → P[i]? = some x → vs[i]? = some v → kindOf x = some .local →
    bindL kindOf (P.zip vs) m x = some v
  | [], _, _, _, _, h, _, _ => by simp at h
  | _ :: _, [], _, _, _, _, h, _ => by simp at h
  | p :: P, w :: vs, 0, m, nd, h1, h2, hk => by
    simp at h1 h2; subst h1; subst h2
    show bindL kindOf ((p, w) :: P.zip vs) m p = _
    unfold bindL
    rw [bindL_out fun v hv => (List.nodup_cons.mp nd).1 (List.of_mem_zip hv).1, if_pos hk]
    simp
  | p :: P, w :: vs, i + 1, m, nd, h1, h2, hk => by
    show bindL kindOf ((p, w) :: P.zip vs) m x = _
    unfold bindL
    exact bindL_get (i := i) (List.nodup_cons.mp nd).2 (by simpa using h1) (by simpa using h2) hk
theorem bindC_get {kindOf : Str → Option NameKind} {x : Str} {v : Value} : ∀ {P : List Str} {vs : List Value} {i : Nat} {m : Str → Option Value}, P.Nodup → P[i]? = some x → vs[i]? = some v → kindOf x ≠ some .local →
    bindC kindOf (P.zip vs) m x = some v
  | [], _, _, _, _, h, _, _ => by simp at h
  | _ :: _, [], _, _, _, _, h, _ => by simp at h
  | p :: P, w :: vs, 0, m, nd, h1, h2, hk => by
    simp at h1 h2; subst h1; subst h2
    show bindC kindOf ((p, w) :: P.zip vs) m p = _
    unfold bindC
    rw [bindC_out fun v hv => (List.nodup_cons.mp nd).1 (List.of_mem_zip hv).1, if_neg hk]
    simp
  | p :: P, w :: vs, i + 1, m, nd, h1, h2, hk => by
    show bindC kindOf ((p, w) :: P.zip vs) m x = _
    unfold bindC
    exact bindC_get (i := i) (List.nodup_cons.mp nd).2 (by simpa using h1) (by simpa using h2) hk

/-- the names' values at the entry -/
def start (N : List Str) (vs : List V) : St := vs.map some ++ List.replicate (N.length - vs.length) none

/-- the context of a def's body, at its entry; an exception leaves the frame, then lies as CX says -/
def cxOf (CX : CXT) (P : Program) (w : World) (K : PySem.W.Frag) (mg : Str → Option Value) (base : Heap) (N : List Str) (qual : Str) (scope : Scope) (f : Addr) (cd : Value) (A : Around) (outer : List Env) (s : Shared) (H : Hp) (E : XK) : Cx where
  prog := P
  w := w
  K := K
  mg := mg
  base := base
  A := A.deeper (envOfC qual scope s.heap.objs.size f cd)
  N := N
  s₀ := s
  H₀ := H
  env := envOfC qual scope s.heap.objs.size f cd
  outer := outer
  stack := envOfC qual scope s.heap.objs.size f cd :: outer
  ex := []
  calm := true
  fn := fun _ => true
  pn := []
  xe := fun e s' => wpAny (model P w) (A.deeper (envOfC qual scope s.heap.objs.size f cd)) (leaving (envOfC qual scope s.heap.objs.size f cd) e) (fun _ s'' => CX outer H s E e s'') (fun e' s'' => CX outer H s E e' s'') s'

theorem cell_has {sc : Scope} {n : Nat} {x : Str} (h : sc.names.lookup x = some .cell) : ∃ c, (cellsFrom n sc.names []).lookup x = some c := by
  have q := PySem.W.cellsFrom_some sc.names n [] (.inl h)
  exact Option.isSome_iff_exists.mp q

theorem inv_start {CX : CXT} {P : Program} {w : World} {K : PySem.W.Frag} {mg : Str → Option Value} {base : Heap} {N ps : List Str} {qual : Str} {scope : Scope} {f : Addr} {cd : Value} {A : Around} {outer : List Env} {s s1 : Shared} {H : Hp} {E : XK} {us : List Value} {vs : List V}
    (S : FnScope N ps scope) (hd : A.handled = none) (e0 : Env0 P w K mg base A outer s H) (hl : vs.length = ps.length) (r : Vals vs us)
    (x : InCallC s s.heap.objs.size (bindL (envOfC qual scope s.heap.objs.size f cd).kindOf (ps.zip us) fun _ => none) (cellsFrom (s.heap.objs.size + 1) scope.names []) (bindC (envOfC qual scope s.heap.objs.size f cd).kindOf (ps.zip us) fun _ => none) s1) :
    Inv (cxOf CX P w K mg base N qual scope f cd A outer s H E) [] (start N vs) H s1 := by
  have hpl : ps.length ≤ N.length := by have := congrArg List.length S.pre; rw [List.length_take] at this; omega
  obtain ⟨h1, tk, rfl, hk⟩ := x.done
  have noA : ∀ b : Addr, b ∉ (cxOf CX P w K mg base N qual scope f cd A outer s H E).ex := fun b z => absurd (show b ∈ ([] : List Addr) from z) (by simp)
  refine ⟨⟨e0.mod, S.kind, rfl, rfl, Nat.le_refl _, fun y z c h1 h2 => ?_, fun y hy => ?_, fun y c _ h => ?_, fun _ => hd, Around.frames_deeper e0.frames, .inr ⟨rfl, rfl⟩, fun b z => absurd z (noA b), e0.bs, e0.bsz, fun b _ _ => noA b, fun b z => absurd z (noA b), e0.funs, e0.frf⟩,
    rfl, e0.bare, Un.kept hk, ⟨_, x.toInCall.ns, fun i y v h1 h2 h3 => ?_⟩, fun y c h => ⟨_, x.cell y c h⟩, e0.hok.fresh (Nat.le_refl _), fun y c h => ?_, fun p hp => absurd (show p ∈ ([] : List (Addr × Obj)) from hp) (by simp), e0.hok.kept hk, ?_⟩
  · exact name_of_addr x.apart (PySem.mem_of_lookup h1) (PySem.mem_of_lookup h2)
  · have hy : scope.names.lookup y = some .cell ∨ scope.names.lookup y = some .free := hy
    rcases hy with hy | hy
    · exact cell_has hy
    · exact absurd rfl (S.nofree _ (PySem.mem_of_lookup hy))
  · exact Nat.le_of_lt (x.above y c (PySem.mem_of_lookup h))
  · have hi : i < vs.length := by
      unfold start at h2
      by_cases hi : i < vs.length
      · exact hi
      · rw [List.getElem?_append_right (by simpa using hi)] at h2
        rw [List.getElem?_replicate] at h2
        split at h2 <;> cases h2
    have ha : vs[i]? = some v := by
      unfold start at h2
      rw [List.getElem?_append_left (by simpa using hi), List.getElem?_map] at h2
      cases e : vs[i]? with
      | none => rw [e] at h2; cases h2
      | some a => rw [e] at h2; cases h2; rfl
    obtain ⟨u, hu, rv⟩ := r.get ha
    have hp : ps[i]? = some y := by
      rw [← S.pre, List.getElem?_take_of_lt (by omega)]; exact h1
    have ndP : ps.Nodup := by rw [← S.pre]; exact S.nd.sublist (List.take_sublist _ _)
    refine ⟨u, rv, ?_⟩
    rcases S.par y (List.mem_of_getElem? hp) with k | k
    · exact .inl ⟨k, bindL_get ndP hp hu k⟩
    · obtain ⟨c, e⟩ := cell_has (n := s.heap.objs.size + 1) k
      refine .inr ⟨.inl k, c, e, ?_⟩
      have q := x.cell y c e
      rw [bindC_get ndP hp hu (by show scope.names.lookup y ≠ _; rw [k]; decide)] at q
      exact q
  · exact e0.hok.fresh (Nat.le_of_lt (x.above y c (PySem.mem_of_lookup h)))
  · unfold start
    show _ = N.length
    rw [List.length_append, List.length_map, List.length_replicate]
    omega

/-- THE RULE: a def (or a method) of the text, by its body. The body's reading t is chosen for each entry; it is run at the parameters' values -/
theorem fn_of {CX : CXT} {P : Program} {w : World} {K : PySem.W.Frag} {mg : Str → Option Value} {base : Heap} {k : Nat} {f : Addr} {name qual : Str} {params : Arguments} {body : List Stmt} {scope : Scope} {dV kV doc pm cdv ct oc : Value} {an od : Option Addr}
    {osl : Array (Option Value)} {N ps : List Str} {sp : Sp} (lk : K.lookup f = some ⟨oc, od, .func (PySem.W.fnOf name qual params body scope dV kV doc pm an cdv ct), osl⟩) (hcd : PySem.W.codeIn K cdv qual = true) (S : FnScope N ps scope)
    (len : ∀ vs H Q E, sp vs H Q E → vs.length = ps.length)
    (hbody : ∀ (A : Around) (outer : List Env) (s : Shared) (H : Hp) (vs : List V) (Q : VK) (E : XK), Room k (A.deeper (envOfC qual scope s.heap.objs.size f cdv)) → sp vs H Q E →
      ∃ t, PSs (cxOf CX P w K mg base N qual scope f cdv A outer s H E) body t ∧ t { nx := fun _ H' => Q .non H', rt := Q } (start N vs) H) :
    FnOk P w K mg base CX (k + 1) f (PySem.W.fnOf name qual params body scope dV kV doc pm an cdv ct) ps sp := by
  refine ⟨len, fun A outer s H args us vs Q E hr e0 hb r hsp => ?_⟩
  have hl := len _ _ _ _ hsp
  have KX : K.In s.heap := e0.mod.kin.keeps fun b o e => (e0.bs b o e).1
  have lim : s.heap.NoLimit := e0.mod.nolimit.keeps fun b o e => (e0.bs b o e).1
  have hkind : ∀ y ∈ ps.zip us, scope.names.lookup y.1 = some .local ∨ (scope.names.lookup y.1 = some .cell ∧ ((cellsFrom (s.heap.objs.size + 1) scope.names []).lookup y.1).isSome = true) := fun ⟨n, v⟩ hy => by
    rcases S.par n (List.of_mem_zip hy).1 with q | q
    · exact .inl q
    · exact .inr ⟨q, PySem.W.cellsFrom_some _ _ _ (.inl q)⟩
  refine codeAny_call_function hr.depth (KX _ _ lk) rfl S.co S.gen rfl (PySem.W.codeRec_of KX hcd) (hb _ _ _ _ ?_)
  refine wpAny_newFunctionEnv_cells S.kind hkind fun env he s1 x => ?_
  subst he
  refine ⟨lim.keeps x.toInCall.keep, codeAny_func ?_⟩
  obtain ⟨t, ht, hq⟩ := hbody A outer s H vs Q E (hr.deeper _) hsp
  have I : Inv (cxOf CX P w K mg base N qual scope f cdv A outer s H E) [] (start N vs) H s1 := inv_start S hr.hd e0 hl r x
  refine wpAny_mono (ht [] s1 (start N vs) H _ I hq) (fun fl s' hs => ?_) fun e s' hs => hs
  have fin : ∀ {σ' : St} {H' : Hp} {v : V} {u : Value}, Inv (cxOf CX P w K mg base N qual scope f cdv A outer s H E) [] σ' H' s' → RelV v u → Q v H' → CE outer P w H s Q u s' :=
    fun {σ' H' v u} J rv q => ⟨v, H', J.os, J.bare, J.base, J.hok, rv, q⟩
  cases fl with
  | ret u =>
    obtain ⟨v, σ', H', J, rv, q⟩ := hs
    exact fin J rv q
  | next =>
    obtain ⟨σ', H', J, q⟩ := hs
    exact fin (v := V.non) (u := Value.none) J rfl q
  | brk =>
    obtain ⟨_, _, _, q⟩ := hs
    exact False.elim q
  | cont =>
    obtain ⟨_, _, _, q⟩ := hs
    exact False.elim q
end L2

namespace L2
open PySem PySem.Spec PyProof.Rows
section
variable {X : Cx} {x : Str} {p pos : Pos} {e : Expr} {es : List Expr} {t : TA} {id T : String} {r : List V → Hp → VK → Prop}

def tCB (r : List V → Hp → VK → Prop) (t : TA) : TE := fun σ H Q => t σ H fun vs H1 => r vs H1 Q
/-- f(e, ..), f a built-in function -/
theorem pe_callB (hc : CallR X (.builtin id) r) (hg : Gl X x) (hm : X.mg x = none) (hv : bootBuiltins x = some (.builtin id)) (ha : PA X (e :: es) t) (hn : x ≠ "__name__" := by decide) (hdb : (x == ("__debug__" : Str)) = false := by decide)
    (he : starEach (e :: es) X.env = (false, eval e X.env) :: starEach es X.env := by rfl) (hpl : (backTo pos (starEach es X.env)).any (·.1) = false := by rfl) : PE X (.Call (.Name x p) (e :: es) [] pos) (tCB r t) := by
  intro pins s σ H Q I h
  refine wpAny_Call_Name_kw (ld_blt I hg hm hv ?_ hn hdb)
  exact PyProof.Rows.callWith_builtin1 (thn (ha pos pins s σ H _ I h) fun us s1 ⟨vs, H1, I1, r1, q1⟩ => hc pins s1 σ H1 vs us Q I1 r1 q1) he hpl
/-- T(e, ..), T a built-in type -/
theorem pe_callTy (hc : CallR X (.type T) r) (hg : Gl X x) (hm : X.mg x = none) (hv : bootBuiltins x = some (.type T)) (ha : PA X (e :: es) t) (hn : x ≠ "__name__" := by decide) (hdb : (x == ("__debug__" : Str)) = false := by decide)
    (he : starEach (e :: es) X.env = (false, eval e X.env) :: starEach es X.env := by rfl) (hpl : (backTo pos (starEach es X.env)).any (·.1) = false := by rfl) : PE X (.Call (.Name x p) (e :: es) [] pos) (tCB r t) := by
  intro pins s σ H Q I h
  refine wpAny_Call_Name_kw (ld_blt I hg hm hv ?_ hn hdb)
  exact PyProof.Rows.callWith_type1 (thn (ha pos pins s σ H _ I h) fun us s1 ⟨vs, H1, I1, r1, q1⟩ => hc pins s1 σ H1 vs us Q I1 r1 q1) he hpl
end
end L2

namespace HT
open PySem PyProof.Rows

section
open PySem.SeqAt
open PySem.AutoSeq1 (wpAny_loadPart')
open PySem.MeetsSeq PySem.MeetsSeq2 PySem.MeetsSeq3

end

section
variable {prog : Program} {w : World} {A : Around} {E : Value → Shared → Prop} {s : Shared}

/-! ### t[a:b], not the whole -/
/-- a slice's bound as a place among n (d where it is left out) -/
def sIx (n d : Nat) : Option Int → Nat
  | none => d
  | some v => if v < 0 then (v + (n : Int)).toNat else min v.toNat n
theorem sIx_none (n d : Nat) : sIx n d none = d := rfl
theorem sIx_nat (n d k : Nat) : sIx n d (some (k : Int)) = min k n := by
  show (if (k : Int) < 0 then ((k : Int) + (n : Int)).toNat else min (k : Int).toNat n) = min k n
  rw [if_neg (by omega), Int.toNat_natCast]
end
end HT

namespace L2
open PySem PySem.Spec PyProof.Rows

/-! ### the parts of a slice -/
abbrev TO := St → Hp → (Option Int → Hp → Prop) → Prop
/-- a slice's part (left out, or an int) -/
def PO (X : Cx) (e : Option Expr) (t : TO) : Prop :=
  ∀ (pins : List (Addr × Obj)) (s : Shared) (σ : St) (H : Hp) (Q : Option Int → Hp → Prop), Inv X pins σ H s → t σ H Q →
    wpAny (model X.prog X.w) X.A (evalPart e X.env) (fun u s' => ∃ o H', Inv X pins σ H' s' ∧ IsPart u o ∧ Q o H') X.xe s
def tNoPart : TO := fun _ H Q => Q none H
def tPart (t : TE) : TO := fun σ H Q => t σ H fun x H1 => ∃ i, x = .int i ∧ Q (some i) H1

theorem intsAre_of {ns : List Int} : ∀ {us : List Value}, Vals (ns.map V.int) us → IntsAre us ns := by
  induction ns with
  | nil => intro us r; rw [List.map_nil] at r; cases r; exact .nil
  | cons n ns ih =>
    intro us r
    rw [List.map_cons] at r
    cases r with
    | cons r1 r2 =>
      obtain ⟨t, e⟩ := r1
      subst e
      exact .cons n t (ih r2)

section
variable {X : Cx} {e : Expr} {te : TE} {lo hi : Option Expr} {tl th : TO} {pos p2 : Pos}

theorem po_none : PO X none tNoPart := by
  intro pins s σ H Q I h
  rw [evalPart_none]
  exact wpAny_pure ⟨none, H, I, .none, h⟩
theorem po_some (h : PE X e te) : PO X (some e) (tPart te) := by
  intro pins s σ H Q I hw
  rw [evalPart_some]
  refine thn (h pins s σ H _ I hw) fun u s1 ⟨x, H1, I1, r1, q1⟩ => ?_
  obtain ⟨i, rfl, q⟩ := q1
  obtain ⟨t, rfl⟩ := r1
  exact ⟨some i, H1, I1, .int i t, q⟩

/-- what a slice of a value is, by values: the slice object stands at sl -/
def SlR (X : Cx) (r : V → Option Int → Option Int → Hp → VK → Prop) : Prop :=
  ∀ (pins : List (Addr × Obj)) (s : Shared) (σ : St) (H : Hp) (x : V) (v vl vu : Value) (lo hi : Option Int) (sl : Addr) (Q : VK), Inv X pins σ H s → RelV x v → s.heap.IsSliceOf sl vl vu .none → IsPart vl lo → IsPart vu hi → r x lo hi H Q →
    ∃ T id, typeLookup (.type T) "__getitem__" = pure (some (.builtin id)) ∧ s.TypeIs v T ∧ wpAny (model X.prog X.w) X.A (getItem v (.ref sl)) (EP X pins σ Q) X.xe s
def tSl (r : V → Option Int → Option Int → Hp → VK → Prop) (te : TE) (tl th : TO) : TE := fun σ H Q => te σ H fun x H1 => tl σ H1 fun l H2 => th σ H2 fun u H3 => r x l u H3 Q
/-- a[lo:hi], any a -/
theorem pe_slice {r : V → Option Int → Option Int → Hp → VK → Prop} (hr : SlR X r) (he : PE X e te) (hl : PO X lo tl) (hu : PO X hi th) : PE X (.Subscript e (.Slice lo hi none p2) pos) (tSl r te tl th) := by
  intro pins s σ H Q I h
  refine Subscript_ (thn (he pins s σ H _ I h) fun v s1 ⟨x, H1, I1, r1, q1⟩ => ?_)
  refine wpAny_Slice (thn (hl pins s1 σ H1 _ I1 q1) fun vl s2 ⟨l, H2, I2, pl, q2⟩ => thn (hu pins s2 σ H2 _ I2 q2) fun vu s3 ⟨u, H3, I3, pu, q3⟩ => ?_)
  rw [evalPart_none]
  refine wpAny_pure ?_
  have I4 : Inv X pins σ H3 { s3 with heap := s3.heap.push { cls := .type "slice", data := .fields #[vl, vu, .none] } } := I3.kept (t' := s3.toks) fun b ob q => Heap.get?_push_of_some _ q
  obtain ⟨T, id, hT, ht, hg⟩ := hr pins { s3 with heap := s3.heap.push { cls := .type "slice", data := .fields #[vl, vu, .none] } } σ H3 x v vl vu l u s3.heap.objs.size Q I4 r1 (Heap.IsSliceOf.new ..) pl pu q3
  show wpAny (model X.prog X.w) X.A (subscriptTail e (.Slice lo hi none p2) v (.ref s3.heap.objs.size)) (EP X pins σ Q) X.xe { s3 with heap := s3.heap.push { cls := .type "slice", data := .fields #[vl, vu, .none] } }
  exact tail_any (ops := [.ref s3.heap.objs.size, v]) ht hT hg (by with_unfolding_all rfl)

/-- the items of xs[lo:hi] -/
def cutV (xs : List V) (lo hi : Option Int) : List V := (xs.drop (HT.sIx xs.length 0 lo)).take (HT.sIx xs.length xs.length hi - HT.sIx xs.length 0 lo)
theorem cutV_length (xs : List V) (lo hi : Option Int) : (cutV xs lo hi).length ≤ xs.length := by
  unfold cutV
  rw [List.length_take, List.length_drop]
  omega
/-! ### t < u, t + u -/
end
end L2

namespace L2
open PySem PySem.Spec PyProof.Rows

/-! ### places -/
/-- the place that an index of any sign means -/
def ixN (n : Nat) (i : Int) : Option Nat := if 0 ≤ i then (if i < n then some i.toNat else none) else if -(n : Int) ≤ i then some (i + n).toNat else none
def atI {α : Type} (xs : List α) (i : Int) : Option α := (ixN xs.length i).bind fun j => xs[j]?
theorem ixN_seq {n : Nat} {i : Int} {j : Nat} (h : ixN n i = some j) : seqIndex? i n = some j ∧ j < n ∧ -(n : Int) ≤ i ∧ i < n := by
  unfold ixN at h
  by_cases h0 : 0 ≤ i
  · rw [if_pos h0] at h
    by_cases h1 : i < n
    · rw [if_pos h1] at h
      have e : i.toNat = j := Option.some.inj h
      exact ⟨by rw [seqIndex_of h0 h1, e], by omega, by omega, h1⟩
    · rw [if_neg h1] at h; cases h
  · rw [if_neg h0] at h
    by_cases h1 : -(n : Int) ≤ i
    · rw [if_pos h1] at h
      have e : (i + n).toNat = j := Option.some.inj h
      exact ⟨by rw [seqIndex_neg (by omega) h1, e], by omega, h1, by omega⟩
    · rw [if_neg h1] at h; cases h
theorem atI_get {α : Type} {xs : List α} {i : Int} {v : α} (h : atI xs i = some v) : ∃ j, seqIndex? i xs.length = some j ∧ xs[j]? = some v ∧ j < xs.length ∧ -(xs.length : Int) ≤ i ∧ i < xs.length := by
  unfold atI at h
  cases e : ixN xs.length i with
  | none => rw [e] at h; cases h
  | some j =>
    rw [e] at h
    obtain ⟨h1, h2, h3, h4⟩ := ixN_seq e
    exact ⟨j, h1, h, h2, h3, h4⟩
theorem atI_nat {α : Type} {xs : List α} {j : Nat} {v : α} (h : xs[j]? = some v) : atI xs (j : Int) = some v := by
  have hj : j < xs.length := (List.getElem?_eq_some_iff.mp h).1
  have e : ixN xs.length (j : Int) = some j := by
    unfold ixN
    rw [if_pos (by omega), if_pos (by omega)]; simp
  unfold atI; rw [e]; exact h
/-! ### what may be subscripted -/
/-- what stands as an index of a plain subscript -/
def PlainIx (b : Expr) : Prop := ∀ o i, subscripted b false o i = operate [o, i] (getItem o i)
/-- a subscript by values -/
def IxR (X : Cx) (r : R2) : Prop :=
  ∀ (value slice : Expr) (pins : List (Addr × Obj)) (s : Shared) (σ : St) (H : Hp) (x y : V) (v u : Value) (Q : VK), Inv X pins σ H s → RelV x v → RelV y u → r x y H Q →
    subscripted slice false v u = operate [v, u] (getItem v u) → wpAny (model X.prog X.w) X.A (subscriptTail value slice v u) (EP X pins σ Q) X.xe s
/-- a call of a builtin's method by values: the receiver, the arguments -/
def MtR (X : Cx) (id : String) (r : V → List V → Hp → VK → Prop) : Prop :=
  ∀ (pins : List (Addr × Obj)) (s : Shared) (σ : St) (H : Hp) (x : V) (xs : List V) (v : Value) (us : List Value) (Q : VK), Inv X pins σ H s → RelV x v → Vals xs us → r x xs H Q →
    wpAny (model X.prog X.w) X.A (call (.builtin id) (v :: us)) (EP X pins σ Q) X.xe s
section
variable {X : Cx} {a b : Expr} {ta tb : TE} {pos : Pos}
/-- a[b] -/
theorem pe_ix {r : R2} (hr : IxR X r) (ha : PE X a ta) (hb : PE X b tb) (hs : PlainIx b) : PE X (.Subscript a b pos) (tOp r ta tb) := by
  intro pins s σ H Q I h
  exact Subscript_ (binT ha hb I h fun v u s2 x y H2 I2 rx ry q => hr a b pins s2 σ H2 x y v u Q I2 rx ry q (hs _ _))

def rIxL (K : PySem.W.Frag) : R2 := fun x y H Q => ∃ p xs i v, x = .ref p ∧ y = .int i ∧ SqL K H p xs ∧ atI xs i = some v ∧ Q v H
def rIxT (K : PySem.W.Frag) : R2 := fun x y H Q => ∃ p xs i v, x = .ref p ∧ y = .int i ∧ SqT K H p xs ∧ atI xs i = some v ∧ Q v H
theorem ix_list : IxR X (rIxL X.K) := by
  intro value slice pins s σ H x y v u Q I rx ry h hs
  obtain ⟨p, xs, i, z, rfl, rfl, hq, he, q⟩ := h
  cases rx
  obtain ⟨t, rfl⟩ := ry
  obtain ⟨its, r, pl, hz⟩ := I.list hq
  obtain ⟨j, h1, h2, h3, h4, h5⟩ := atI_get he
  obtain ⟨w, ew, rw'⟩ := r.get h2
  have hl := r.length
  have hn := line63
  have fin : EP X pins σ Q w s := ⟨z, H, I, rw', q⟩
  by_cases h0 : 0 ≤ i
  · have hj : i.toNat = j := by
      rw [seqIndex_of h0 h5] at h1
      exact Option.some.inj h1
    exact item_listR pl.isList h0 (by omega) (by rw [hj]; simpa using ew) fin hs
  · have hj : (i + (its.toArray.size : Int)).toNat = j := by
      rw [seqIndex_neg (by omega) h4] at h1
      rw [List.size_toArray, ← hl]
      exact Option.some.inj h1
    exact subscriptTail_builtinR (x := w) pl.isList.typeIs slot_list_getitem.lookup
      (wpAny_getItem_list_neg (Q := fun r s' => r = w ∧ EP X pins σ Q r s') pl.isList (by omega) (by rw [List.size_toArray] <;> omega) (by omega) (by rw [hj]; simpa using ew) ⟨rfl, fin⟩) hs
theorem ix_tup : IxR X (rIxT X.K) := by
  intro value slice pins s σ H x y v u Q I rx ry h hs
  obtain ⟨p, xs, i, z, rfl, rfl, hq, he, q⟩ := h
  cases rx
  obtain ⟨t, rfl⟩ := ry
  obtain ⟨its, r, pl, hz⟩ := I.tuple hq
  obtain ⟨j, h1, h2, h3, h4, h5⟩ := atI_get he
  obtain ⟨w, ew, rw'⟩ := r.get h2
  have hl := r.length
  have hn := line63
  have fin : EP X pins σ Q w s := ⟨z, H, I, rw', q⟩
  exact subscriptTail_builtinR (x := w) pl.typeIs slot_tuple_getitem.lookup
    (getItem_tuple (j := j) (Q := fun r s' => r = w ∧ EP X pins σ Q r s') pl (by omega) (by omega) (by rw [List.size_toArray, ← hl]; exact h1) (by simpa using ew) ⟨rfl, fin⟩) hs
/-! ### xs[i] = v, any sign -/
/-! ### slices -/
theorem slice_bounds (lo hi : Option Int) (n : Nat) : (sliceBounds lo hi none n).1 = ((HT.sIx n 0 lo : Nat) : Int) ∧ (sliceBounds lo hi none n).2.1 = ((HT.sIx n n hi : Nat) : Int) ∧ (sliceBounds lo hi none n).2.2 = 1 := by
  refine ⟨?_, ?_, rfl⟩
  · cases lo with
    | none => simp [sliceBounds, HT.sIx]
    | some i =>
      simp only [sliceBounds, HT.sIx, Option.getD_none, show (1 : Int) > 0 by decide, if_true]
      by_cases h : i < 0
      · simp only [h, if_true] <;> omega
      · simp only [h, if_false] <;> omega
  · cases hi with
    | none => simp [sliceBounds, HT.sIx]
    | some i =>
      simp only [sliceBounds, HT.sIx, Option.getD_none, show (1 : Int) > 0 by decide, if_true]
      by_cases h : i < 0
      · simp only [h, if_true] <;> omega
      · simp only [h, if_false] <;> omega
theorem slicePick_cut (its : List Value) (lo hi : Option Int) : slicePick its.toArray lo hi none = ((its.drop (HT.sIx its.length 0 lo)).take (HT.sIx its.length its.length hi - HT.sIx its.length 0 lo)).toArray := by
  obtain ⟨h1, h2, h3⟩ := slice_bounds lo hi its.toArray.size
  unfold slicePick
  rw [h1, h2, h3]
  simp only [sliceRange_one, pick_run, List.size_toArray] <;> rfl
/-- xs[lo:hi] of a list: a new list -/
def rSlL (K : PySem.W.Frag) : V → Option Int → Option Int → Hp → VK → Prop := fun x lo hi H Q => ∃ a xs, x = .ref a ∧ SqL K H a xs ∧ ∀ p, H p = none → Q (.ref p) (upd H p (.lst (cutV xs lo hi)))
theorem sl_list : SlR X (rSlL X.K) := by
  intro pins s σ H x v vl vu lo hi sl Q I rx hs pl pu h
  obtain ⟨a, xs, rfl, hx, q⟩ := h
  cases rx
  obtain ⟨its, r, ht, hz⟩ := I.list hx
  have hlen := r.length
  refine ⟨"list", _, slot_list_getitem.lookup, ht.isList.typeIs, ?_⟩
  refine wpAny_getItem_list_slice ht.isList hs pl pu .none (by simp) ?_ (by rw [List.size_toArray] <;> omega)
  rw [slicePick_cut, ← hlen]
  refine ⟨.ref s.heap.objs.size, _, I.laid (t' := s.toks) (o := .lst (cutV xs lo hi)) (fun b ob q => Heap.get?_push_of_some _ q) (Nat.le_refl _) ?_, rfl, q _ (I.hok.fresh (Nat.le_refl _))⟩
  exact ⟨Nat.le_trans (cutV_length xs lo hi) hz, _, 0, (r.drop (HT.sIx xs.length 0 lo)).take (HT.sIx xs.length xs.length hi - HT.sIx xs.length 0 lo), Heap.get?_push_size _ rfl⟩

/-! ### in, not in: flat items -/
def flatV : V → Bool
  | .non => true
  | .bl _ => true
  | .int _ => true
  | .str _ => true
  | _ => false
/-- == of flat values -/
def eqV : V → V → Bool
  | .non, .non => true
  | .bl a, .bl b => a == b
  | .bl a, .int b => (if a then 1 else 0) == b
  | .int a, .bl b => a == (if b then 1 else 0)
  | .int a, .int b => a == b
  | .str a, .str b => a == b
  | _, _ => false
theorem eqAt_V {A : Around} {s : Shared} {y x : V} {u v : Value} (ry : RelV y u) (rx : RelV x v) (fy : flatV y = true) (fx : flatV x = true) : SeqAt.EqAt A s u v (eqV y x) := by
  cases y with
  | non =>
    cases ry
    cases x with
    | non => cases rx; exact SeqAt.EqAt.same _
    | bl b => cases rx; exact SeqAt.EqAt.none_bool b
    | int b => obtain ⟨t, rfl⟩ := rx; exact SeqAt.EqAt.none_int b t
    | str b => obtain ⟨t, rfl⟩ := rx; exact SeqAt.EqAt.none_str b t
    | _ => exact absurd (show false = true from fx) Bool.false_ne_true
  | bl a =>
    cases ry
    cases x with
    | non => cases rx; exact SeqAt.EqAt.bool_none a
    | bl b => cases rx; exact SeqAt.EqAt.bool_bool a b
    | int b => obtain ⟨t, rfl⟩ := rx; exact SeqAt.EqAt.bool_int a b t
    | str b => obtain ⟨t, rfl⟩ := rx; exact SeqAt.EqAt.bool_str a b t
    | _ => exact absurd (show false = true from fx) Bool.false_ne_true
  | int a =>
    obtain ⟨t', rfl⟩ := ry
    cases x with
    | non => cases rx; exact SeqAt.EqAt.int_none a t'
    | bl b => cases rx; exact SeqAt.EqAt.int_bool a t' b
    | int b => obtain ⟨t, rfl⟩ := rx; exact SeqAt.EqAt.int_int a t' b t
    | str b => obtain ⟨t, rfl⟩ := rx; exact SeqAt.EqAt.int_str a t' b t
    | _ => exact absurd (show false = true from fx) Bool.false_ne_true
  | str a =>
    obtain ⟨t', rfl⟩ := ry
    cases x with
    | non => cases rx; exact SeqAt.EqAt.str_none a t'
    | bl b => cases rx; exact SeqAt.EqAt.str_bool a t' b
    | int b => obtain ⟨t, rfl⟩ := rx; exact SeqAt.EqAt.str_int a t' b t
    | str b => obtain ⟨t, rfl⟩ := rx; exact SeqAt.EqAt.str_str a t' b t
    | _ => exact absurd (show false = true from fx) Bool.false_ne_true
  | _ => exact absurd (show false = true from fy) Bool.false_ne_true
/-- the items' answers, read off the values (a value's own answer does not lean on its token) -/
def eqU (x : V) (u : Value) : Bool := match u with
  | .none => eqV .non x
  | .bool b => eqV (.bl b) x
  | .int i _ => eqV (.int i) x
  | .str z _ => eqV (.str z) x
  | _ => false
theorem eqU_of {x y : V} {u : Value} (r : RelV y u) (f : flatV y = true) : eqU x u = eqV y x := by
  cases y with
  | non => cases r; rfl
  | bl b => cases r; rfl
  | int i => obtain ⟨t, rfl⟩ := r; rfl
  | str z => obtain ⟨t, rfl⟩ := r; rfl
  | _ => exact absurd (show false = true from f) Bool.false_ne_true
theorem any_eqU {x : V} : ∀ {xs : List V} {us : List Value}, Vals xs us → xs.all flatV = true → us.any (eqU x) = xs.any fun y => eqV y x
  | _, _, .nil, _ => rfl
  | y :: xs, u :: us, .cons r t, f => by
    rw [List.all_cons, Bool.and_eq_true] at f
    rw [List.any_cons, List.any_cons, eqU_of r f.1, any_eqU t f.2]
theorem mem_eqAt {A : Around} {s : Shared} {x : V} {v : Value} (rx : RelV x v) (fx : flatV x = true) : ∀ {xs : List V} {us : List Value}, Vals xs us → xs.all flatV = true → ∀ u ∈ us, SeqAt.EqAt A s u v (eqU x u)
  | _, _, .nil, _ => fun u hu => by cases hu
  | y :: xs, u :: us, .cons r t, f => fun u' hu => by
    rw [List.all_cons, Bool.and_eq_true] at f
    rcases List.mem_cons.mp hu with rfl | hu
    · rw [eqU_of r f.1]; exact eqAt_V r rx f.1 fx
    · exact mem_eqAt rx fx t f.2 u' hu
def inV (x : V) (xs : List V) : Bool := xs.any fun y => eqV y x
/-- x in a list or tuple of flat items -/
def rIn (K : PySem.W.Frag) (neg : Bool) : R2 := fun x y H Q => ∃ p xs, y = .ref p ∧ (SqL K H p xs ∨ SqT K H p xs) ∧ flatV x = true ∧ xs.all flatV = true ∧ Q (.bl (if neg then !inV x xs else inV x xs)) H
theorem op_notIn_seq : OpR X (compareOp .NotIn) (rIn X.K true) := by
  intro pins s σ H x y v u Q I rx ry h
  obtain ⟨p, xs, rfl, hq, fx, fs, q⟩ := h
  cases ry
  rcases hq with hq | hq
  · obtain ⟨its, r, pl, hz⟩ := I.list hq
    refine SeqAt.notIn_listAt (eqU x) pl.isList (fun w hw => mem_eqAt rx fx r fs w (by simpa using hw)) ⟨.bl _, H, I, rfl, ?_⟩
    rw [show its.toArray.any (eqU x) = its.any (eqU x) by simp, any_eqU r fs]
    exact q
  · obtain ⟨its, r, pl, hz⟩ := I.tuple hq
    refine SeqAt.notIn_tupleAt (eqU x) pl (fun w hw => mem_eqAt rx fx r fs w (by simpa using hw)) ⟨.bl _, H, I, rfl, ?_⟩
    rw [show its.toArray.any (eqU x) = its.any (eqU x) by simp, any_eqU r fs]
    exact q
/-! ### len, list(x), tuple(x) of any list or tuple that is read -/
theorem call_len_seq : CallR X (.builtin "len") (fun xs H Q => ∃ p ys, xs = [.ref p] ∧ (SqL X.K H p ys ∨ SqT X.K H p ys) ∧ Q (.int ys.length) H) := by
  intro pins s σ H xs us Q I r h
  obtain ⟨p, ys, rfl, hq, q⟩ := h
  obtain ⟨u, rfl, rx⟩ := vals1 r
  cases rx
  have hn := line63
  rcases hq with hq | hq
  · obtain ⟨its, r', pl, hz⟩ := I.list hq
    have hlen := r'.length
    exact Calls.call_len_list pl.isList (by simp only [List.size_toArray] <;> omega) ⟨.int ys.length, H, I.tok _, ⟨s.toks + 1, by rw [List.size_toArray, hlen]⟩, q⟩
  · obtain ⟨its, r', pl, hz⟩ := I.tuple hq
    have hlen := r'.length
    exact len_tuple pl (by simp only [List.size_toArray] <;> omega) ⟨.int ys.length, H, I.tok _, ⟨s.toks + 1, by rw [List.size_toArray, hlen]⟩, q⟩
theorem call_list_of : CallR X (.type "list") (fun xs H Q => ∃ p ys, xs = [.ref p] ∧ (SqL X.K H p ys ∨ SqT X.K H p ys) ∧ ∀ l, H l = none → Q (.ref l) (upd H l (.lst ys))) := by
  intro pins s σ H xs us Q I r h
  obtain ⟨p, ys, rfl, hq, q⟩ := h
  obtain ⟨u, rfl, rx⟩ := vals1 r
  cases rx
  have fin : ∀ (its : List Value), Vals ys its → ys.length ≤ sizeLine → ∀ (h' : Heap) (c' : Nat), (∀ b o', s.heap.get? b = some o' → h'.get? b = some o') →
      h'.get? s.heap.objs.size = some { cls := .type "list", dict := none, data := .seq its.toArray c', slots := #[] } → EP X pins σ Q (.ref s.heap.objs.size) { s with heap := h' } := fun its r' hz h' c' kp e =>
    ⟨.ref s.heap.objs.size, _, I.laid (t' := s.toks) kp (Nat.le_refl _) (show ObjOk X.prog X.w _ h' _ (.lst ys) from ⟨hz, its, c', r', e⟩), rfl, q _ (I.hok.fresh (Nat.le_refl _))⟩
  rcases hq with hq | hq
  · obtain ⟨its, r', pl, hz⟩ := I.list hq
    have hlen := r'.length
    obtain ⟨o, ho, hc, n, hd⟩ := pl.isList
    exact call_list_seq p (.inl rfl) ho hc hd (fun h' c' kp e => fin its r' hz h' c' kp e) (by simp only [List.size_toArray] <;> omega)
  · obtain ⟨its, r', pl, hz⟩ := I.tuple hq
    have hlen := r'.length
    obtain ⟨o, ho, hc, n, hd⟩ := pl
    exact call_list_seq p (.inr rfl) ho hc hd (fun h' c' kp e => fin its r' hz h' c' kp e) (by simp only [List.size_toArray] <;> omega)
/-! ### the call of a builtin's method: o.m(..) -/
/-- the value is of that builtin type -/
def tyV (K : PySem.W.Frag) (T : String) (x : V) (H : Hp) : Prop := match x with
  | .str _ => T = "str"
  | .int _ => T = "int"
  | .ref p => (T = "list" ∧ ∃ xs, SqL K H p xs) ∨ (T = "tuple" ∧ ∃ o, K.lookup p = some o ∧ o.cls = .type "tuple" ∧ o.dict = none) ∨
      (T = "dict" ∧ ((∃ kvs, H p = some (.dK kvs)) ∨ ∃ kvs, H p = some (.dT kvs))) ∨ (T = "set" ∧ ∃ S n, H p = some (.set S n))
  | _ => False
theorem tyV_is {pins : List (Addr × Obj)} {σ : St} {H : Hp} {s : Shared} {T : String} {x : V} {v : Value} (I : Inv X pins σ H s) (r : RelV x v) (ty : tyV X.K T x H) :
    s.TypeIs v T ∧ ∀ a, v = .ref a → ∃ ob, s.heap.get? a = some ob ∧ ob.dict = none := by
  cases x with
  | str z =>
    obtain ⟨t, rfl⟩ := r
    cases (show T = "str" from ty)
    exact ⟨typeIs_str s z t, fun _ e => nomatch e⟩
  | int i =>
    obtain ⟨t, rfl⟩ := r
    cases (show T = "int" from ty)
    exact ⟨typeIs_int s i t, fun _ e => nomatch e⟩
  | ref p =>
    cases r
    rcases ty with ⟨rfl, xs, hq⟩ | ⟨rfl, o, hk, hc, hd⟩ | ⟨rfl, hk⟩ | ⟨rfl, S, n, hk⟩
    · obtain ⟨its, _, pl, _⟩ := I.list hq
      refine ⟨pl.isList.typeIs, fun a e => ?_⟩
      cases e
      obtain ⟨o, n, e, c, hd, _⟩ := pl
      exact ⟨o, e, hd⟩
    · refine ⟨⟨o, I.kIn p o hk, hc⟩, fun a e => ?_⟩
      cases e
      exact ⟨o, I.kIn _ o hk, hd⟩
    · have z : ∃ o, s.heap.get? p = some o ∧ o.ExactDict := by
        rcases hk with ⟨kvs, hk⟩ | ⟨kvs, hk⟩
        · obtain ⟨_, _, _, _, o, _, _, e, ex, _⟩ := I.hok p _ hk
          exact ⟨o, e, ex⟩
        · obtain ⟨_, _, _, _, o, _, _, e, ex, _⟩ := I.hok p _ hk
          exact ⟨o, e, ex⟩
      obtain ⟨o, e, ex⟩ := z
      refine ⟨⟨o, e, ex.1⟩, fun a e2 => ?_⟩
      cases e2
      exact ⟨o, e, ex.2.1⟩
    · obtain ⟨o, _, _, _, e, ex, _⟩ := I.hok p _ hk
      refine ⟨⟨o, e, ex.1⟩, fun a e2 => ?_⟩
      cases e2
      exact ⟨o, e, ex.2.1⟩
  | _ => exact False.elim ty
def tBM (K : PySem.W.Frag) (T : String) (r : V → List V → Hp → VK → Prop) (to : TE) (t : TA) : TE := fun σ H Q => to σ H fun x H1 => tyV K T x H1 ∧ t σ H1 fun xs H2 => r x xs H2 Q
variable {o e : Expr} {es : List Expr} {to : TE} {t : TA} {name : Str} {apos cpos : Pos} {T id : String} {r : V → List V → Hp → VK → Prop}
theorem pe_bm (pa : PlainAttrs T) (slot : Slot T name id) (hty : typeOf (.builtin id) = pure (.type "method_descriptor")) (hm : MtR X id r) (ho : PE X o to) (ha : PA X (e :: es) t)
    (hbase : attributeBase o name X.env (eval o X.env) = eval o X.env := by rfl)
    (hfew : ((backTo cpos (starEach (e :: es) X.env)).all (fun x => !x.1) && (backToKw cpos (keywordEach [] X.env)).all (fun x => x.1.isSome)
      && decide ((e :: es).length + ([] : List Keyword).length + (if ([] : List Keyword).isEmpty then 0 else 1) < 30)) = true := by rfl)
    (hline : (apos.endLine == cpos.line) = true := by rfl) (hs : starEach (e :: es) X.env = (false, eval e X.env) :: starEach es X.env := by rfl) (hplain : (backTo cpos (starEach es X.env)).any (·.1) = false := by rfl) :
    PE X (.Call (.Attribute o name apos) (e :: es) [] cpos) (tBM X.K T r to t) := by
  intro pins s σ H Q I h
  refine wpAny_Call_method_late hbase hfew hline rfl (thn (ho pins s σ H _ I h) fun v s1 ⟨x, H1, I1, r1, ty, q1⟩ => ?_)
  obtain ⟨h1, h2⟩ := tyV_is I1 r1 ty
  refine ⟨T, id, pa, slot, hty, h1, h2, ?_⟩
  have hA := ha cpos pins s1 σ H1 _ I1 q1
  rw [hs] at hA ⊢
  refine Calls.callWith_builtin (by show (false || (backTo cpos (starEach es X.env)).any (·.1)) = false; rw [hplain] <;> rfl) (Calls.evalArgs_plain ?_)
  exact thn hA fun us s2 ⟨vs, H2, I2, r2, q2⟩ => hm pins s2 σ H2 x vs v us Q I2 r1 r2 q2
/- xs.append(e), list.index on a module's tuple .. are MtR facts of 06m -/
end
end L2

namespace L2
open PySem PySem.Spec PyProof.Rows

def MtM (X : Cx) (id : String) (r : V → List V → Hp → VK → Prop) : Prop :=
  ∀ (pins : List (Addr × Obj)) (s : Shared) (σ : St) (H : Hp) (x : V) (xs : List V) (v : Value) (us : List Value) (Q : VK), Inv X pins σ H s → RelV x v → Vals xs us → r x xs H Q →
    wpAny (model X.prog X.w) X.A (call (.builtin id) (v :: us)) (EP X pins σ Q) X.xe s

/-! ### lists of values -/
theorem Vals.one : ∀ {x : V} {us : List Value}, Vals [x] us → ∃ u, us = [u] ∧ RelV x u
  | _, _, .cons r .nil => ⟨_, rfl, r⟩
theorem Vals.eraseIdx : ∀ {xs : List V} {us : List Value} (i : Nat), Vals xs us → Vals (xs.eraseIdx i) (us.eraseIdx i)
  | _, _, _, .nil => .nil
  | _, _, 0, .cons _ t => t
  | _, _, i + 1, .cons r t => .cons r (Vals.eraseIdx i t)
theorem len_erase {α : Type} : ∀ (l : List α) (i : Nat), (l.eraseIdx i).length ≤ l.length
  | [], _ => Nat.le_refl _
  | _ :: _, 0 => Nat.le_succ _
  | _ :: r, i + 1 => Nat.succ_le_succ (len_erase r i)
section
variable {X : Cx} {pins : List (Addr × Obj)} {σ : St} {H : Hp} {s : Shared} {l b : Addr} {xs ys zs : List V}

/-! ### the two steps: a tracked list is rewritten, a new list is laid -/
theorem Inv.lset {its its' : List Value} {n : Nat} {f : Array Value → Array Value} {t' : Nat} (I : Inv X pins σ H s) (hH : H l = some (.lst xs))
    (e : s.heap.get? l = some { cls := .type "list", data := .seq its.toArray n }) (hf : f its.toArray = its'.toArray) (hv : Vals ys its') (hz : ys.length ≤ sizeLine) :
    Inv X pins σ (upd H l (.lst ys)) { s with heap := s.heap.update l (Obj.mapSeq f), toks := t' } := by
  have q := PySem.IsL.update e f
  rw [hf] at q
  refine I.write (x := l) (e := l) (by rw [hH]; exact trivial) (.inl rfl) (fun b' u hb hu => (Heap.get?_update_other s.heap (Obj.mapSeq f) (Ne.symm hb)).trans hu) ⟨_, q⟩ ?_
  exact ⟨hz, its', _, hv, q⟩
theorem Inv.lnew {its : List Value} {t' : Nat} (I : Inv X pins σ H s) (hv : Vals ys its) (hz : ys.length ≤ sizeLine) :
    Inv X pins σ (upd H s.heap.objs.size (.lst ys)) { s with heap := s.heap.push { cls := .type "list", data := .seq its.toArray }, toks := t' } :=
  I.laid (fun _ _ q => Heap.get?_push_of_some _ q) (Nat.le_refl _) ⟨hz, its, 0, hv, Heap.get?_push_size _ rfl⟩
theorem Inv.fresh (I : Inv X pins σ H s) : H s.heap.objs.size = none := I.hok.fresh (Nat.le_refl _)
theorem Inv.lstM (I : Inv X pins σ H s) (hH : H l = some (.lst xs)) : xs.length ≤ sizeLine ∧ ∃ (its : List Value) (n : Nat), Vals xs its ∧ xs.length = its.length ∧ s.heap.get? l = some { cls := .type "list", data := .seq its.toArray n } := by
  obtain ⟨z, its, n, r, e⟩ := I.hok l _ hH
  exact ⟨z, its, n, r, r.length, e⟩

end

section
variable {X : Cx}

/-! ### methods -/
def rAppend : V → List V → Hp → VK → Prop := fun x vs H Q => ∃ l xs y, x = .ref l ∧ vs = [y] ∧ H l = some (.lst xs) ∧ xs.length < sizeLine ∧ Q .non (upd H l (.lst (xs ++ [y])))
theorem mt_append : MtM X "list.append" rAppend := by
  intro pins s σ H x vs v us Q I rx rv h
  obtain ⟨l, xs, y, rfl, rfl, hH, hz, q⟩ := h
  cases rx
  obtain ⟨u, rfl, ru⟩ := rv.one
  obtain ⟨z, its, n, r, hl, e⟩ := I.lstM hH
  refine call_meets F.slot_list_append ⟨_, e, rfl⟩ F.entry_list_append (F.args_list_append_2 _ _) (PySem.list_append l its.toArray n u (by rw [List.size_toArray]; omega)) ⟨e, ?_⟩
  refine ⟨.non, _, I.lset (its' := its ++ [u]) hH e (by simp) (r.append (.cons ru .nil)) ?_, rfl, q⟩
  rw [List.length_append, List.length_singleton]
  omega

def rPopAt : V → List V → Hp → VK → Prop := fun x vs H Q => ∃ l xs i k y, x = .ref l ∧ vs = [.int i] ∧ H l = some (.lst xs) ∧ -(2 ^ 63) ≤ i ∧ i < 2 ^ 63 ∧ seqIndex? i xs.length = some k ∧ xs[k]? = some y ∧ Q y (upd H l (.lst (xs.eraseIdx k)))
theorem mt_popAt : MtM X "list.pop" rPopAt := by
  intro pins s σ H x vs v us Q I rx rv h
  obtain ⟨l, xs, i, k, y, rfl, rfl, hH, h1, h2, hk, hy, q⟩ := h
  cases rx
  obtain ⟨u, rfl, ru⟩ := rv.one
  obtain ⟨t, rfl⟩ := ru
  obtain ⟨z, its, n, r, hl, e⟩ := I.lstM hH
  obtain ⟨w, hw, rw'⟩ := r.get hy
  refine call_meets F.slot_list_pop ⟨_, e, rfl⟩ F.entry_list_pop (F.args_list_pop_2 _ _)
    (MeetsSeq.list_pop_at l its.toArray n i t k w (fitsIndex_both h1 h2) (by rw [List.size_toArray, ← hl]; exact hk) (by rw [← Array.getElem?_toList]; exact hw) (by rw [List.size_toArray]; omega)) ⟨e, ?_⟩
  refine ⟨y, _, I.lset (its' := its.eraseIdx k) hH e ?_ (r.eraseIdx k) ?_, rw', q⟩
  · show its.toArray.eraseIdxIfInBounds k = (its.eraseIdx k).toArray
    rw [List.eraseIdxIfInBounds_toArray]
  · have := len_erase xs k
    omega

/-! ### list + list, list += list, list * int -/
def rCat : R2 := fun x y H Q => ∃ l b xs zs, x = .ref l ∧ y = .ref b ∧ H l = some (.lst xs) ∧ H b = some (.lst zs) ∧ xs.length + zs.length ≤ sizeLine ∧ ∀ p, H p = none → Q (.ref p) (upd H p (.lst (xs ++ zs)))
theorem op_cat : OpR X (binaryOp .Add) rCat := by
  intro pins s σ H x y v u Q I rx ry h
  obtain ⟨l, b, xs, zs, rfl, rfl, hH, hB, hz, q⟩ := h
  cases rx
  cases ry
  obtain ⟨z, its, n, r, hl, e⟩ := I.lstM hH
  obtain ⟨z2, its2, n2, r2, hl2, e2⟩ := I.lstM hB
  refine PySem.P.add_list e e2 ?_ (by rw [List.size_toArray, List.size_toArray]; omega)
  have ea : its.toArray ++ its2.toArray = (its ++ its2).toArray := by simp
  rw [ea]
  exact ⟨.ref _, _, I.lnew (t' := s.toks) (r.append r2) (by rw [List.length_append]; omega), rfl, q _ I.fresh⟩
/-! ### del xs[i] -/
end

/-! ### xs[a:b] = ys -/
section
variable {prog : Program} {w : World} {A : Around} {E : Value → Shared → Prop} {s : Shared}
end

section
variable {X : Cx}
end
end L2

namespace Att
open PySem PySem.W PySem.Calls PyProof.Rows

/-! ### the script -/
theorem ints_of_wellAll {P : Params} {h : Heap} : ∀ (ns : List Int) (vs : List Value), WellAll P h vs (ns.map WData.int) → IntsAre vs ns := by
  intro ns
  induction ns with
  | nil =>
    intro vs w
    rw [List.map_nil] at w
    cases w
    exact .nil
  | cons n ns ih =>
    intro vs w
    rw [List.map_cons] at w
    cases w with
    | cons a b =>
      cases a
      exact .cons _ _ (ih _ b)

theorem script_of {l : OpenLaw} {n : Nat} (hn : l.most = some n) {P : Params} {h : Heap} {args : List WData} {vals : List Value}
    (hpre : l.row.toRowW.claim.pre args = true) (hwl : WellAll P h vals args) :
    ∃ a vs ns, vals = [Value.ref a] ∧ args = [WData.list (ns.map WData.int)] ∧ h.get? a = some { cls := .type "list", data := .seq vs.toArray } ∧ IntsAre vs ns ∧ ns.length ≤ n := by
  have hsh : WShape.hasAll [] args [.list .int] = true := (pre_splitW hpre).1
  have hc : l.pre.holds [] { args := args } = true := (pre_splitW hpre).2
  obtain ⟨d, r, rfl, h1, h2⟩ := hasAllW_cons hsh
  obtain rfl := hasAllW_nil h2
  obtain ⟨xs, rfl, h3⟩ := hasW_list h1
  obtain ⟨ns, rfl⟩ := items_int h3
  have hlen : ns.length ≤ n := by
    unfold OpenLaw.pre at hc
    have h4 : (WTm.not (.lt (.lit (.int (n : Int))) (.len (.arg 0)))).holds [] { args := [.list (ns.map .int)] } = true := by
      have h4 := (holds_andW hc).1
      rw [hn] at h4
      exact h4
    have h5 := condW_of h4 (w_not (w_lt w_lit (w_len_list (w_arg rfl))))
    rw [List.length_map] at h5
    refine Nat.le_of_not_lt fun q => ?_
    have q' : (n : Int) < ((ns.length : Nat) : Int) := by omega
    first
      | (rw [decide_eq_true q'] at h5; exact absurd h5 (by decide))
      | (simp at h5; omega)
  cases hwl with
  | cons w1 w2 =>
    cases w2
    cases w1 with
    | list ho hall => exact ⟨_, _, ns, rfl, rfl, ho, ints_of_wellAll ns _ hall, hlen⟩

theorem post_true (l : OpenLaw) (args : List WData) : l.row.toRowW.claim.post args (.bool true) args = true :=
  postW_of (r := l.row.toRowW) (X := (true == true))
    (show WShape.has [] (.bool true) .bool = true by first | rfl | decide | simp [WShape.has, WShape.arms, WShape.armsAll])
    (show (WTm.eq .res (.lit (.bool true))).value [] { args := args, res := some (.bool true), after := args } = some (.bool (true == true)) from w_eq_bool (w_res rfl) w_lit) rfl

/-! ### the attachment: holds_open's last premise (the goal 'hc' behind k_head) from a wpAny of the law's body -/
/-- the same from a codeAny of the CALL (for a layer whose function contracts speak of calls) -/
theorem attach_call {l : OpenLaw} {n : Nat} {q : Program} {loose : List Str} {XP : (Str → Option Value) → Heap → Prop} {YP : World → Heap → Prop} {d : DefRec}
    (hn : l.most = some n) (hdf : d.params.defaults = [])
    (call : ∀ (w : World) (s₀ s₁ : Shared) (mg mb : Str → Option Value) (fa : Addr) (o : Obj) (pm cd doc : Value) (a : Addr) (vs : List Value) (ns : List Int),
      Ground q loose [] XP w s₀ mg mb s₁.heap → YP w s₁.heap →
      s₁.heap.get? fa = some o → o.data = .func (docDef d.name d.params d.body d.scope pm cd doc) → s₁.heap.CodeRec cd d.name → mg d.name = some (.ref fa) →
      s₁.heap.get? a = some { cls := .type "list", data := .seq vs.toArray } → IntsAre vs ns → ns.length ≤ n → s₁.gens = #[] →
      codeAny (model l.prog w) callerA (.call (.ref fa) ⟨[.ref a], []⟩) (fun r s' => r = .ok (.ret (.bool true)) ∧ OldK s₁.heap s'.heap ∧ s'.os = s₁.os ∧ AllBare s'.gens) s₁) :
    WalkO q loose XP YP l.row.toRowW d [] (fun f vs => PySem.call f vs) := by
  intro w s₀ s₁ mg mb G Y fa o pm cd doc dV kV ho hd hcd hD hmg hg args vals as hpre hlay hrd hwl hlo
  obtain rfl : dV = .none := Dflts.none hD hdf
  obtain rfl : kV = .none := Dflts.noKw hD
  obtain ⟨a, vs, ns, rfl, rfl, hobj, hints, hlen⟩ := script_of hn hpre hwl
  refine enter_call (codeAny_mono (call w s₀ s₁ mg mb fa o pm cd doc a vs ns G Y ho (fd_plain hd) hcd hmg hobj hints hlen hg) fun r s' hq => ?_)
  obtain ⟨rfl, h2, h3, h4⟩ := hq
  exact ⟨.inl ⟨.bool true, .bool true, [], rfl, fun _ => rfl, .bool true, post_true l _, fun _ => ⟨List.Pairwise.nil, fun _ hm => (nomatch hm)⟩⟩, h2, h3, h4⟩

/-! ### rules over ANY heap (no ledger) from facts about the written part K: the library's own take a ledger (News) for what they write -/
section
variable {prog : Program} {w : World} {A : Around} {E : Value → Shared → Prop} {s : Shared} {K : Frag}

/-! the whole heap as the ledger: makes every rule that writes through a ledger a rule over any heap -/
def ledger (h : Heap) (L d : Addr) : List (Addr × Obj) := (List.range h.objs.size).filterMap fun a => if a = L ∨ a = d then none else (h.get? a).map fun o => (a, o)
end
end Att

namespace L2
open PySem PySem.Spec PyProof.Rows

theorem vals_ints : ∀ {vs : List Value} {ns : List Int}, IntsAre vs ns → Vals (ns.map V.int) vs
  | _, _, .nil => .nil
  | _, _, .cons n t h => .cons ⟨t, rfl⟩ (vals_ints h)

/-- nothing is tracked but the script, known to the object (or it is an object of the module) -/
def Only (H : Hp) : Prop := ∀ b, H b = none ∨ ∃ o xs, H b = some (.frz o (.lst xs))

/-- THE HEAD: the law's promise, at the heap behind the top. F, the promise of the law's def, may use that base is part of the heap (so K.In base, base.Ns mainGlobals mg stand in Mod) -/
theorem law_call {P : Program} {w : World} {K : PySem.W.Frag} {mg mb : Str → Option Value} {CX : CXT} {k : Nat} {fa a : Addr} {fd : FuncData} {x : Str} {sp : Sp} {s₁ : Shared} {vs : List Value} {ns : List Int}
    (KX : K.In s₁.heap) (hns : s₁.heap.Ns mainGlobals mg) (hb : s₁.heap.Ns builtinsNs mb) (hbb : ∀ x : Str, x ≠ "__name__" → mb x = bootBuiltins x) (hlim : s₁.heap.NoLimit) (hg : s₁.gens = #[])
    (ha : s₁.heap.get? a = some { cls := .type "list", data := .seq vs.toArray }) (hi : IntsAre vs ns) (hl : ns.length ≤ sizeLine) (hr : Room k callerA)
    (F : ∀ base : Heap, K.In base → base.Ns mainGlobals mg → FnOk P w K mg base CX k fa fd [x] sp) (hbind : ∀ (s : Shared) (u : Value), BindsTo s fd ⟨[u], []⟩ [(x, u)])
    (hsp : ∀ H : Hp, Only H → SqL K H a (ns.map V.int) → sp [.ref a] H (fun v _ => v = .bl true) fun _ _ _ => False)
    (hCX : ∀ H e s', CX [] H s₁ (fun _ _ _ => False) e s' → False) :
    codeAny (model P w) callerA (.call (.ref fa) ⟨[.ref a], []⟩) (fun r s' => r = .ok (.ret (.bool true)) ∧ OldK s₁.heap s'.heap ∧ s'.os = s₁.os ∧ AllBare s'.gens) s₁ := by
  have rv := vals_ints hi
  have lenV := hi.length
  -- from an abstract heap in which nothing but the script may be tracked
  have core : ∀ H : Hp, Only H → SqL K H a (ns.map V.int) → HOk P w H s₁.heap → (∀ b, H b ≠ none → b = a) → (H a ≠ none → K.lookup a = none) →
      codeAny (model P w) callerA (.call (.ref fa) ⟨[.ref a], []⟩) (fun r s' => r = .ok (.ret (.bool true)) ∧ OldK s₁.heap s'.heap ∧ s'.os = s₁.os ∧ AllBare s'.gens) s₁ := by
    intro H hO hS hok hA hK
    have base_of : ∀ {b : Addr} {o : Obj}, s₁.heap.get? b = some o → H b = none → (hidT s₁.heap H).get? b = some o := fun e n => hidT_get e n
    have noA : ∀ {b : Addr} {o : Obj} {es : Array DictEntry} {ep : Nat}, s₁.heap.get? b = some o → o.data = .dict es ep → H b = none := fun {b o es ep} e d => by
      cases q : H b with
      | none => rfl
      | some u =>
        have e' : b = a := hA b (by rw [q]; simp)
        subst e'
        rw [ha] at e; cases e
        have d' : Data.seq vs.toArray _ = Data.dict es ep := d
        cases d'
    have nsK : ∀ {b : Addr} {m : Str → Option Value}, s₁.heap.Ns b m → (hidT s₁.heap H).Ns b m := fun {b m} ⟨o, es, ep, e, d, r⟩ => ⟨o, es, ep, base_of e (noA e d), d, r⟩
    have hKb : K.In (hidT s₁.heap H) := fun b o e => base_of (KX b o e) (by
      cases q : H b with
      | none => rfl
      | some u =>
        have e' : b = a := hA b (by rw [q]; simp)
        subst e'
        rw [hK (by rw [q]; simp)] at e; cases e)
    have hM : Mod K mg (hidT s₁.heap H) := ⟨hKb, nsK hns, ⟨mb, nsK hb, hbb⟩, let ⟨mc, h1, h2⟩ := hlim; ⟨mc, nsK h1, h2⟩⟩
    have e0 : Env0 P w K mg (hidT s₁.heap H) callerA [] s₁ H := ⟨rfl, hM, fun b o e => of_hidT e, Nat.le_of_eq (hidT_size _ _), trivial, fun b hb => absurd (show b ∈ ([] : List Addr) from hb) (by simp), hok, .of_eq hg⟩
    refine codeAny_mono ((F _ hKb (nsK hns)).run callerA [] s₁ H ⟨[.ref a], []⟩ [.ref a] [.ref a] _ _ hr e0 (hbind s₁ (.ref a)) (.cons rfl .nil) (hsp H hO hS)) fun r s' h => ?_
    cases r with
    | error e => exact (hCX H e s' h).elim
    | ok fl =>
      cases fl with
      | next => exact False.elim h
      | brk => exact False.elim h
      | cont => exact False.elim h
      | ret u =>
        obtain ⟨v, H', os, bare, un, hok', r', q⟩ := h
        have q' : v = .bl true := q
        subst q'
        obtain rfl : u = Value.bool true := r'
        refine ⟨rfl, OldK.of_keep fun b o e => ?_, os, bare⟩
        cases q : H b with
        | none => exact un.keep b o e q (by intro z; exact absurd (show b ∈ ([] : List Addr) from z) (by simp)) (by simp)
        | some u =>
          rcases hO b with z | ⟨ob, xs, z⟩
          · rw [q] at z; cases z
          · have z2 := un.frzs b ob _ z
            obtain ⟨e1, _⟩ := hok b _ z
            obtain ⟨e2, _⟩ := hok' b _ z2
            rw [e] at e1; cases e1
            exact e2
  cases hk : K.lookup a with
  | some o =>
    -- the script is one of the module's own objects
    have e := KX a o hk
    rw [ha] at e
    cases e
    refine core (fun _ => none) (fun _ => .inl rfl) (.inr ⟨_, vs.toArray, _, hk, rfl, rfl, rfl, by rw [List.size_toArray, lenV]; exact hl, by simpa using rv⟩) (fun b u z => by have z' : (none : Option HO) = some u := z; cases z') (fun b z => absurd rfl z) fun z => absurd rfl z
  | none =>
    refine core (fun b => if b = a then some (.frz { cls := .type "list", data := .seq vs.toArray } (.lst (ns.map V.int))) else none) (fun b => ?_) (.inl (.inr ⟨{ cls := .type "list", data := .seq vs.toArray }, if_pos rfl⟩)) (fun b u z => ?_) (fun b z => ?_) fun _ => hk
    · by_cases hb : b = a
      · exact .inr ⟨_, _, if_pos hb⟩
      · exact .inl (if_neg hb)
    · by_cases hb : b = a
      · have z' := (if_pos hb).symm.trans z
        cases z'
        subst hb
        exact ⟨ha, by rw [List.length_map]; exact hl, vs, _, rv, ha⟩
      · have z' := (if_neg hb).symm.trans z
        cases z'
    · by_cases hb : b = a
      · exact hb
      · exact absurd (if_neg hb) z
end L2

namespace L2
open PySem PySem.Spec PyProof.Rows

abbrev KOf {K : PySem.W.Frag} {h : Heap} (_ : K.In h) : PySem.W.Frag := K

/-- the goal that k_head leaves (case hc), from the law's promise. F gives the function object fd (K's own) once, then the promise over every base -/
theorem walk_of {l : PySem.W.OpenLaw} {n k : Nat} {q : Program} {loose : List Str} {XP : (Str → Option Value) → Heap → Prop} {YP : World → Heap → Prop} {d : DefRec} {K : Params → PySem.W.Frag} {CX : World → CXT} {sp : World → Sp} {x : Str}
    (hn : l.most = some n) (hn2 : n ≤ sizeLine) (hdf : d.params.defaults = []) (hr : Room k callerA)
    (hY : ∀ (w : World) (h : Heap), YP w h → (K w.params).In h)
    (F : ∀ (w : World) (mg : Str → Option Value) (fa : Addr) (h : Heap), (K w.params).In h → h.Ns mainGlobals mg → mg d.name = some (.ref fa) →
      ∃ fd : FuncData, (∀ (s : Shared) (u : Value), BindsTo s fd ⟨[u], []⟩ [(x, u)]) ∧
        ∀ base : Heap, (K w.params).In base → base.Ns mainGlobals mg → FnOk l.prog w (K w.params) mg base (CX w) k fa fd [x] (sp w))
    (hsp : ∀ (w : World) (H : Hp) (a : Addr) (ns : List Int), ns.length ≤ n → Only H → SqL (K w.params) H a (ns.map V.int) → sp w [.ref a] H (fun v _ => v = .bl true) fun _ _ _ => False)
    (hCX : ∀ (w : World) (H : Hp) (s : Shared) (e : Value) (s' : Shared), CX w [] H s (fun _ _ _ => False) e s' → False) :
    PySem.W.WalkO q loose XP YP l.row.toRowW d [] (fun f vs => PySem.call f vs) := by
  refine Att.attach_call hn hdf fun w s₀ s₁ mg mb fa o pm cd doc a vs ns G Y ho hd hcd hmg hobj hints hlen hg => ?_
  have KX := hY w _ Y
  obtain ⟨fd, hb, hF⟩ := F w mg fa _ KX G.T.g hmg
  exact law_call KX G.T.g G.T.b G.T.builtins G.T.nolimit hg hobj hints (Nat.le_trans hlen hn2) hr hF hb (fun H hO hS => hsp w H a ns hlen hO hS) fun H e s' => hCX w H s₁ e s'
end L2

/-! SHORT WORDS over the layer: a def of the text, its body, what a loop and a test want. -/
namespace L2
open PySem PySem.Spec PyProof.Rows

/-! ### the text by places -/
/-- the j-th statement of a class's body -/
def inClass (s : Stmt) (j : Nat) : Stmt := match s with
  | .ClassDef _ _ _ body _ _ _ _ _ _ _ => body.getD j (.Pass ⟨0, 0, 0, 0⟩)
  | _ => .Pass ⟨0, 0, 0, 0⟩
def defArgs (s : Stmt) : Arguments := match s with
  | .FunctionDef _ a _ _ _ _ _ _ _ _ => a
  | _ => { posonlyargs := [], args := [], vararg := none, kwonlyargs := [], kw_defaults := [], kwarg := none, defaults := [] }
def defBody (s : Stmt) : List Stmt := match s with
  | .FunctionDef _ _ b _ _ _ _ _ _ _ => b
  | _ => []
def defScope (s : Stmt) : Scope := match s with
  | .FunctionDef _ _ _ _ _ _ sc _ _ _ => sc
  | _ => { kind := .function, names := [], isGenerator := false, isCoroutine := false }

/-! ### no exception leaves a def -/
abbrev CX0 : CXT := fun _ _ _ _ _ _ => False
abbrev E0 : XK := fun _ _ _ => False
theorem pass0 {X : Cx} : Passes CX0 X E0 := fun _ _ _ _ _ _ _ h => h.elim

/-! ### a def (or method) of the text as it stands behind the top -/
structure Fun (K : PySem.W.Frag) (x qual : Str) (st : Stmt) (f : Addr) (fd : FuncData) : Prop where
  ex : ∃ (oc : Value) (od : Option Addr) (kV doc pm : Value) (an : Option Addr) (cdv ct : Value) (osl : Array (Option Value)),
    fd = PySem.W.fnOf x qual (defArgs st) (defBody st) (defScope st) .none kV doc pm an cdv ct ∧ K.lookup f = some ⟨oc, od, .func fd, osl⟩ ∧ PySem.W.codeIn K cdv qual = true
  kp : PySem.W.keepIn K (.ref f) = true
section
variable {P : Program} {w : World} {K : PySem.W.Frag} {mg : Str → Option Value} {base : Heap}
/-- THE RULE for a def: its body as a term of rules, and the reading of that term -/
theorem Fun.ok {x qual : Str} {st : Stmt} {f : Addr} {fd : FuncData} {N ps : List Str} {k : Nat} {sp : Sp} (F : Fun K x qual st f fd) (S : FnScope N ps (defScope st)) (len : ∀ vs H Q E, sp vs H Q E → vs.length = ps.length)
    (hbody : ∀ (cdv : Value) (A : Around) (outer : List Env) (s : Shared) (H : Hp) (vs : List V) (Q : VK) (E : XK), Room k (A.deeper (envOfC qual (defScope st) s.heap.objs.size f cdv)) → sp vs H Q E →
      ∃ t, PSs (cxOf CX0 P w K mg base N qual (defScope st) f cdv A outer s H E).nox (defBody st) t ∧ t { nx := fun _ H' => Q .non H', rt := Q } (start N vs) H) : FnOk P w K mg base CX0 (k + 1) f fd ps sp := by
  obtain ⟨oc, od, kV, doc, pm, an, cdv, ct, osl, rfl, lk, hcd⟩ := F.ex
  refine fn_of lk hcd S len fun A outer s H vs Q E hr hsp => ?_
  obtain ⟨t, h, q⟩ := hbody cdv A outer s H vs Q E hr hsp
  exact ⟨t, h.nox, q⟩
/-- how its arguments bind (no defaults): h is «fun _ _ _ _ _ _ us hl => match us, hl with | [_, _], _ => rfl», one _ a parameter -/
theorem Fun.binds {x qual : Str} {st : Stmt} {f : Addr} {fd : FuncData} {ps : List Str} (F : Fun K x qual st f fd)
    (h : ∀ (kV doc pm : Value) (an : Option Addr) (cdv ct : Value) (us : List Value), us.length = ps.length → bindArgs (PySem.W.fnOf x qual (defArgs st) (defBody st) (defScope st) .none kV doc pm an cdv ct) ⟨us, []⟩ = pure (ps.zip us)) : Binds K fd ps [] := by
  obtain ⟨oc, od, kV, doc, pm, an, cdv, ct, osl, rfl, lk, hcd⟩ := F.ex
  exact .all (h kV doc pm an cdv ct)
theorem fun_mk {x qual : Str} {st : Stmt} {f : Addr} {oc : Value} {od an : Option Addr} {osl : Array (Option Value)} {kV doc pm cdv ct : Value} (l : K.lookup f = some ⟨oc, od, .func (PySem.W.fnOf x qual (defArgs st) (defBody st) (defScope st) .none kV doc pm an cdv ct), osl⟩)
    (c : PySem.W.codeIn K cdv qual = true) (k : PySem.W.keepIn K (.ref f) = true) : Fun K x qual st f (PySem.W.fnOf x qual (defArgs st) (defBody st) (defScope st) .none kV doc pm an cdv ct) := ⟨⟨oc, od, kV, doc, pm, an, cdv, ct, osl, rfl, l, c⟩, k⟩
end
theorem small1000 {n : Nat} (h : n ≤ 1000) : n < sizeLine := Nat.lt_of_le_of_lt h (by decide)

/-! ### expressions in short: the name that stands in the i-th slot -/
section
variable {X : Cx}
theorem pv (i : Nat) {x : Str} {pos : Pos} (hN : X.N[i]? = some x := by rfl) (hv : Vis X.env.scope x := by first | exact Or.inl rfl | exact Or.inr (Or.inl rfl) | exact Or.inr (Or.inr rfl)) (hd : (x == ("__debug__" : Str)) = false := by decide)
    (hcd : (x == ("__classdict__" : Str)) = false := by decide) : PE X (.Name x pos) (tVar i) := pe_var hN hv hd hcd
end

/-! ### tests -/
theorem iteF {A B : Prop} (h : B) : if false = true then A else B := by
  rw [if_neg Bool.false_ne_true]
  exact h
theorem iteT {A B : Prop} (h : A) : if true = true then A else B := by
  rw [if_pos rfl]
  exact h
theorem iteNS {c A B : Prop} [Decidable c] (hc : c) (h : B) : if (!decide c) = true then A else B := by
  rw [decide_eq_true hc]
  exact iteF h

/-! ### heaps -/
/-- all that was tracked is as it was -/
def Same (H H' : Hp) : Prop := ∀ b o, H b = some o → H' b = some o
theorem Same.refl (H : Hp) : Same H H := fun _ _ h => h
theorem Same.trans {H H1 H2 : Hp} (a : Same H H1) (b : Same H1 H2) : Same H H2 := fun c o h => b c o (a c o h)
theorem Same.free {H H' : Hp} (e : Same H H') {l : Addr} (h : H' l = Option.none) : H l = Option.none := by
  cases q : H l with
  | none => rfl
  | some o =>
    rw [e l o q] at h
    cases h
end L2

set_option Elab.async false
set_option linter.all false
set_option maxRecDepth 100000
set_option maxHeartbeats 4000000
/-! Own rules over the hand layer, part 1: list comprehensions (names captured from around, own cells, a test or none, any target), and their assignment to a local name. -/
namespace L2
open PySem PySem.Spec PyProof.Rows

/-! ### the closure of a comprehension's block -/
def clGo (cells : List (Str × Addr)) : List (Str × NameKind) → List (Str × Addr) → List (Str × Addr)
  | [], acc => acc
  | (n, k) :: r, acc => if k == .free then clGo cells r ((n, (cells.lookup n).getD 0) :: acc) else clGo cells r acc
def clOf (scope : Scope) (env : Env) : List (Str × Addr) := clGo env.cells scope.names []
theorem clGo_run {env : Env} (f : Str × NameKind → List (Str × Addr) → Sem (ForInStep (List (Str × Addr))))
    (hf : ∀ name kind cs, f (name, kind) cs = if kind == .free then (do let a ← cellOf env name; pure (.yield ((name, a) :: cs))) else pure (.yield cs)) :
    ∀ (names : List (Str × NameKind)) (acc : List (Str × Addr)), (∀ y ∈ names, y.2 = .free → ∃ c, env.cells.lookup y.1 = some c) → forIn names acc f = pure (clGo env.cells names acc)
  | [], acc, _ => by rw [List.forIn_nil]; rfl
  | (n, k) :: r, acc, h => by
    have hr : ∀ y ∈ r, y.2 = .free → ∃ c, env.cells.lookup y.1 = some c := fun y hy => h y (List.mem_cons_of_mem _ hy)
    rw [List.forIn_cons, hf]
    unfold clGo
    by_cases hk : (k == NameKind.free) = true
    · rw [if_pos hk, if_pos hk]
      obtain ⟨c, hc⟩ := h (n, k) List.mem_cons_self (eq_of_beq hk)
      have e : cellOf env n = pure c := by unfold cellOf; rw [hc]
      rw [e, hc]
      exact clGo_run f hf r ((n, c) :: acc) hr
    · rw [if_neg hk, if_neg hk]
      exact clGo_run f hf r acc hr
theorem closure_of {scope : Scope} {env : Env} (h : ∀ y ∈ scope.names, y.2 = .free → ∃ c, env.cells.lookup y.1 = some c) : closureFor scope env = pure (clOf scope env) := by
  simp only [closureFor]
  rw [clGo_run (env := env) _ (fun name kind cs => by cases hk : kind == NameKind.free <;> simp [hk]) scope.names [] h]
  rfl
theorem look_cons {α : Type} (n x : Str) (c : α) (r : List (Str × α)) : ((n, c) :: r).lookup x = if x = n then some c else r.lookup x := by
  rw [List.lookup_cons]
  by_cases h : x = n
  · subst h; simp
  · have : (x == n) = false := beq_eq_false_iff_ne.mpr h
    rw [this, if_neg h]
theorem clGo_look {cells : List (Str × Addr)} {x : Str} {c : Addr} : ∀ {names : List (Str × NameKind)} {acc : List (Str × Addr)}, (∀ y ∈ names, y.2 = .free → ∃ c, cells.lookup y.1 = some c) → (clGo cells names acc).lookup x = some c →
    acc.lookup x = some c ∨ cells.lookup x = some c
  | [], _, _, e => .inl e
  | (n, k) :: r, acc, h, e => by
    have hr : ∀ y ∈ r, y.2 = .free → ∃ c, cells.lookup y.1 = some c := fun y hy => h y (List.mem_cons_of_mem _ hy)
    unfold clGo at e
    by_cases hk : (k == NameKind.free) = true
    · rw [if_pos hk] at e
      rcases clGo_look hr e with q | q
      · rw [look_cons] at q
        by_cases hx : x = n
        · rw [if_pos hx] at q
          obtain ⟨d, hd⟩ := h (n, k) List.mem_cons_self (eq_of_beq hk)
          have hd' : cells.lookup n = some d := hd
          rw [hd'] at q
          exact .inr (by rw [hx, hd']; exact q)
        · rw [if_neg hx] at q
          exact .inl q
      · exact .inr q
    · rw [if_neg hk] at e
      exact clGo_look hr e
theorem clGo_has {cells : List (Str × Addr)} {x : Str} : ∀ {names : List (Str × NameKind)} {acc : List (Str × Addr)}, ((x, NameKind.free) ∈ names ∨ ∃ c, acc.lookup x = some c) → ∃ c, (clGo cells names acc).lookup x = some c
  | [], _, h => by
    rcases h with h | h
    · simp at h
    · exact h
  | (n, k) :: r, acc, h => by
    unfold clGo
    by_cases hk : (k == NameKind.free) = true
    · rw [if_pos hk]
      refine clGo_has ?_
      rw [look_cons]
      by_cases hx : x = n
      · rw [if_pos hx]; exact .inr ⟨_, rfl⟩
      · rw [if_neg hx]
        rcases h with h | h
        · rcases List.mem_cons.mp h with e | e
          · exact absurd (congrArg Prod.fst e) hx
          · exact .inl e
        · exact .inr h
    · rw [if_neg hk]
      refine clGo_has ?_
      rcases h with h | h
      · rcases List.mem_cons.mp h with e | e
        · have : NameKind.free = k := congrArg Prod.snd e
          subst this
          exact absurd rfl hk
        · exact .inl e
      · exact .inr h

/-! ### own cells -/
structure CF (h : Heap) (cs : List (Str × Addr)) : Prop where
  cell : ∀ x c, cs.lookup x = some c → ∃ v, h.IsCell c v
  inj : ∀ x y c, cs.lookup x = some c → cs.lookup y = some c → x = y
theorem cf_step : ∀ (names : List (Str × NameKind)) (h : Heap) (acc : List (Str × Addr)), CF h acc → CF (pushCells h names) (cellsFrom h.objs.size names acc)
  | [], _, _, c => c
  | (n, k) :: r, h, acc, c => by
    unfold pushCells cellsFrom
    by_cases hk : (k == NameKind.cell) = true
    · rw [if_pos hk, if_pos hk]
      have q := cf_step r (h.push { cls := .type "cell", data := .cell none }) ((n, h.objs.size) :: acc) ⟨fun x d e => ?_, fun x y d e1 e2 => ?_⟩
      · rwa [Heap.size_push] at q
      · rw [look_cons] at e
        by_cases hx : x = n
        · rw [if_pos hx] at e
          cases e
          exact ⟨_, _, Heap.get?_push_size _ rfl, rfl⟩
        · rw [if_neg hx] at e
          obtain ⟨v, q⟩ := c.cell x d e
          exact ⟨v, q.keeps fun b o e => Heap.get?_push_of_some _ e⟩
      · rw [look_cons] at e1 e2
        have no : ∀ z, acc.lookup z = some h.objs.size → False := fun z e => by
          obtain ⟨v, q⟩ := c.cell z _ e
          exact absurd q.lt (Nat.lt_irrefl _)
        by_cases hx : x = n
        · rw [if_pos hx] at e1
          cases e1
          by_cases hy : y = n
          · rw [hx, hy]
          · rw [if_neg hy] at e2
            exact (no y e2).elim
        · rw [if_neg hx] at e1
          by_cases hy : y = n
          · rw [if_pos hy] at e2
            cases e2
            exact (no x e1).elim
          · rw [if_neg hy] at e2
            exact c.inj x y d e1 e2
    · rw [if_neg hk, if_neg hk]
      exact cf_step r h acc c
theorem cf_new {x : Str} {c : Addr} : ∀ {names : List (Str × NameKind)} {n : Nat} {acc : List (Str × Addr)}, (cellsFrom n names acc).lookup x = some c → acc.lookup x = some c ∨ n ≤ c
  | [], _, _, e => .inl e
  | (m, k) :: r, n, acc, e => by
    unfold cellsFrom at e
    by_cases hk : (k == NameKind.cell) = true
    · rw [if_pos hk] at e
      rcases cf_new e with q | q
      · rw [look_cons] at q
        by_cases hx : x = m
        · rw [if_pos hx] at q
          cases q
          exact .inr (Nat.le_refl _)
        · rw [if_neg hx] at q
          exact .inl q
      · exact .inr (Nat.le_of_succ_le q)
    · rw [if_neg hk] at e
      exact cf_new e
theorem cf_own {x : Str} {c lo : Addr} : ∀ {names : List (Str × NameKind)} {n : Nat} {acc : List (Str × Addr)}, lo ≤ n → ((x, NameKind.cell) ∈ names ∨ ∀ d, acc.lookup x = some d → lo ≤ d) → (cellsFrom n names acc).lookup x = some c → lo ≤ c
  | [], _, _, _, h, e => by
    rcases h with h | h
    · simp at h
    · exact h c e
  | (m, k) :: r, n, acc, hn, h, e => by
    unfold cellsFrom at e
    by_cases hk : (k == NameKind.cell) = true
    · rw [if_pos hk] at e
      refine cf_own (Nat.le_succ_of_le hn) ?_ e
      by_cases hx : x = m
      · refine .inr fun d q => ?_
        rw [look_cons, if_pos hx] at q
        cases q
        exact hn
      · rcases h with h | h
        · rcases List.mem_cons.mp h with z | z
          · exact absurd (congrArg Prod.fst z) hx
          · exact .inl z
        · refine .inr fun d q => ?_
          rw [look_cons, if_neg hx] at q
          exact h d q
    · rw [if_neg hk] at e
      refine cf_own hn ?_ e
      rcases h with h | h
      · rcases List.mem_cons.mp h with z | z
        · have : NameKind.cell = k := congrArg Prod.snd z
          subst this
          exact absurd rfl hk
        · exact .inl z
      · exact .inr h
theorem cf_has {x : Str} : ∀ {names : List (Str × NameKind)} {n : Nat} {acc : List (Str × Addr)}, ((x, NameKind.cell) ∈ names ∨ ∃ c, acc.lookup x = some c) → ∃ c, (cellsFrom n names acc).lookup x = some c
  | [], _, _, h => by
    rcases h with h | h
    · simp at h
    · exact h
  | (m, k) :: r, n, acc, h => by
    unfold cellsFrom
    by_cases hk : (k == NameKind.cell) = true
    · rw [if_pos hk]
      refine cf_has ?_
      rw [look_cons]
      by_cases hx : x = m
      · rw [if_pos hx]; exact .inr ⟨_, rfl⟩
      · rw [if_neg hx]
        rcases h with h | h
        · rcases List.mem_cons.mp h with z | z
          · exact absurd (congrArg Prod.fst z) hx
          · exact .inl z
        · exact .inr h
    · rw [if_neg hk]
      refine cf_has ?_
      rcases h with h | h
      · rcases List.mem_cons.mp h with z | z
        · have : NameKind.cell = k := congrArg Prod.snd z
          subst this
          exact absurd rfl hk
        · exact .inl z
      · exact .inr h
theorem cf_skip {x : Str} : ∀ {names : List (Str × NameKind)} {n : Nat} {acc : List (Str × Addr)}, (x, NameKind.cell) ∉ names → (cellsFrom n names acc).lookup x = acc.lookup x
  | [], _, _, _ => rfl
  | (m, k) :: r, n, acc, h => by
    have hr : (x, NameKind.cell) ∉ r := fun z => h (List.mem_cons_of_mem _ z)
    unfold cellsFrom
    by_cases hk : (k == NameKind.cell) = true
    · rw [if_pos hk, cf_skip hr, look_cons, if_neg]
      intro e
      subst e
      have : k = NameKind.cell := eq_of_beq hk
      subst this
      exact h List.mem_cons_self
    · rw [if_neg hk]
      exact cf_skip hr
theorem look_of_mem {α : Type} : ∀ {names : List (Str × α)} {x : Str} {k : α}, (names.map (·.1)).Nodup → (x, k) ∈ names → names.lookup x = some k
  | [], _, _, _, h => by simp at h
  | (m, j) :: r, x, k, nd, h => by
    rw [List.map_cons, List.nodup_cons] at nd
    rw [look_cons]
    rcases List.mem_cons.mp h with e | e
    · cases e
      rw [if_pos rfl]
    · have : x ≠ m := fun z => nd.1 (by subst z; exact List.mem_map_of_mem (f := (·.1)) e)
      rw [if_neg this]
      exact look_of_mem nd.2 e
theorem relabel_mem {scope : Scope} {env : Env} {x : Str} {k : NameKind} (h : (relabel scope env).names.lookup x = some k) (hk : k = .cell ∨ k = .free) : (x, NameKind.cell) ∈ scope.names ∨ (x, NameKind.free) ∈ scope.names := by
  have q := mem_of_lookup h
  unfold relabel at q
  obtain ⟨⟨n, j⟩, hm, e⟩ := List.mem_map.mp q
  dsimp only at e
  by_cases hc : (j == NameKind.free && env.scope.kind == .function && env.kindOf n == some .cell) = true
  · rw [if_pos hc] at e
    cases e
    have : j = NameKind.free := by
      have := (Bool.and_eq_true_iff.mp (Bool.and_eq_true_iff.mp hc).1).1
      exact eq_of_beq this
    subst this
    exact .inr hm
  · rw [if_neg hc] at e
    cases e
    rcases hk with rfl | rfl
    · exact .inl hm
    · exact .inr hm
theorem relabel_free {env : Env} : ∀ {names : List (Str × NameKind)} {x : Str}, names.lookup x = some .free →
    (names.map fun (n, k) => if (k == NameKind.free && env.scope.kind == .function && env.kindOf n == some .cell) then (n, NameKind.cell) else (n, k)).lookup x = some .cell ∨
    (names.map fun (n, k) => if (k == NameKind.free && env.scope.kind == .function && env.kindOf n == some .cell) then (n, NameKind.cell) else (n, k)).lookup x = some .free
  | [], _, h => by simp at h
  | (n, k) :: r, x, h => by
    have ih := @relabel_free env r x
    rw [look_cons] at h
    rw [List.map_cons]
    dsimp only
    by_cases hc : (k == NameKind.free && env.scope.kind == .function && env.kindOf n == some .cell) = true
    · rw [if_pos hc, look_cons]
      by_cases hx : x = n
      · rw [if_pos hx]; exact .inl rfl
      · rw [if_neg hx] at h ⊢; exact ih h
    · rw [if_neg hc, look_cons]
      by_cases hx : x = n
      · rw [if_pos hx] at h ⊢; exact .inr h
      · rw [if_neg hx] at h ⊢; exact ih h

/-! ### the block's frame -/
theorem newEnv_comp {M : Model} {A : Around} {E : Value → Shared → Prop} {s : Shared} {scope : Scope} {globals : Addr} {cl : List (Str × Addr)} {qual : Str} {env : Env} {Q : Env → Shared → Prop}
    (hQ : Q { scope := scope, locals := s.heap.objs.size, globals := globals, cells := cellsFrom (s.heap.objs.size + 1) scope.names cl, qual := qual, func := none, code := env.code, frame := env.frame, builtins := env.builtins }
      { s with heap := pushCells (s.heap.push { cls := .type "dict", data := .dict #[] }) scope.names }) :
    wpAny M A (newFunctionEnv scope globals cl [] qual none .none (some env)) Q E s := by
  simp only [newFunctionEnv, Option.isSome_some, if_true]
  refine wpAny_bind (wpAny_alloc ?_)
  refine wpAny_bind (wpAny_layCells _ (fun name kind cells => by cases hkc : kind == NameKind.cell <;> simp [hkc]) _ _ _ _ ?_)
  rw [show ({ s with heap := s.heap.push { cls := .type "dict", data := .dict #[] } } : Shared).heap.objs.size = s.heap.objs.size + 1 from Heap.size_push ..]
  rw [List.forIn_nil]
  exact wpAny_bind (wpAny_pure (wpAny_pure hQ))

/-! ### the loop of a comprehension, the owned tuple's step within -/
section
variable {prog : Program} {w : World} {A : Around} {R : Result → Shared → Prop} {s : Shared}
theorem compLoop_go {elt target iter : Expr} {ifs : List Expr} {scope : Scope} {pos : Pos} {it acc : Value} {env : Env} (I : Nat → Shared → Prop)
    (turn : ∀ n s, I n s → wpAny (model prog w) A (pyNext it) (fun r s₁ => match r with
      | none => R (.ok .next) s₁
      | some v => wpAny (model prog w) A (letOwnedTupleGo target it v) (fun _ s₁' => wpAny (model prog w) A (assign target env v) (fun _ s₂ =>
          wpAny (model prog w) A (forIn ifs true fun c r => if r = true then do let ok ← isTrue c env (eval c env); pure (ForInStep.yield ok) else pure (ForInStep.yield r)) (fun ok s₃ =>
            if ok = true then wpAny (model prog w) A (eval elt env) (fun x s₄ =>
              wpAny (model prog w) A (call (.builtin "list.append") [acc, x]) (fun _ s₅ => ∃ m, m < n ∧ I m s₅) (fun _ _ => False) s₄) (fun _ _ => False) s₃
            else ∃ m, m < n ∧ I m s₃) (fun _ _ => False) s₂) (fun _ _ => False) s₁') (fun _ _ => False) s₁) (fun _ _ => False) s)
    (n : Nat) (h : I n s) :
    codeAny (model prog w) A (.compLoop (.ListComp elt [⟨target, iter, ifs, 0⟩] scope pos) 0 it acc env) R s := by
  refine codeAny_loop rfl I (fun n s hI => ?_) n h
  show wpAny _ A ((compTurn (.ListComp elt [⟨target, iter, ifs, 0⟩] scope pos) 0 it acc env).onRaise (fun x => do noteFrame x env; theTreesLotGoes x)) _ _ s
  refine wpAny_noted ?_
  rw [compTurn_list]
  refine wpAny_bind (wpAny_standAt (wpAny_bind (wpAny_mono (turn n s hI) (fun r s₁ h₁ => ?_) fun _ _ h' => h'.elim)))
  cases r with
  | none => exact wpAny_pure h₁
  | some v =>
    refine wpAny_bind (wpAny_mono h₁ (fun _ s₁' h₁' => ?_) fun _ _ h' => h'.elim)
    refine wpAny_bind (wpAny_mono h₁' (fun _ s₂ h₂ => wpAny_bind (wpAny_mono h₂ (fun ok s₃ h₃ => ?_) fun _ _ h' => h'.elim)) fun _ _ h' => h'.elim)
    cases ok with
    | false => exact wpAny_pure ⟨rfl, h₃⟩
    | true =>
      exact wpAny_bind (wpAny_bind (wpAny_mono h₃ (fun x s₄ h₄ => wpAny_bind (wpAny_mono h₄ (fun _ s₅ h₅ => wpAny_pure (wpAny_pure ⟨rfl, h₅⟩)) fun _ _ h' => h'.elim)) fun _ _ h' => h'.elim))
end

/-! ### the inner context -/
def cpEnv (scope : Scope) (C : Addr) (env : Env) : Env :=
  { scope := relabel scope env, locals := C, globals := env.globals, cells := cellsFrom (C + 1) scope.names (clOf scope env), qual := env.qual, func := none, code := env.code, frame := env.frame, builtins := env.builtins }
def cpCx (X : Cx) (scope : Scope) (N : List Str) (C : Addr) (s₀ : Shared) (H₀ : Hp) (fp : List Addr) : Cx where
  prog := X.prog
  w := X.w
  K := X.K
  mg := X.mg
  base := X.base
  A := X.A
  N := N
  s₀ := s₀
  H₀ := H₀
  env := cpEnv scope C X.env
  outer := X.stack
  stack := X.stack
  ex := fp
  fn := fun x => scope.names.lookup x == some .cell
  calm := X.calm
  pn := []
  xe := fun _ _ => False
/-- the block's names at the start of a turn: its own ones unbound, then the captured ones -/
def capSt (n : Nat) (caps : List Nat) (σ : St) : St := List.replicate n none ++ caps.map fun j => (σ[j]?).join
/-- the tests of a comprehension -/
def PTs (X : Cx) (ifs : List Expr) (t : TT) : Prop :=
  ∀ (pins : List (Addr × Obj)) (s : Shared) (σ : St) (H : Hp) (Q : Bool → Hp → Prop), Inv X pins σ H s → t σ H Q →
    wpAny (model X.prog X.w) X.A (forIn ifs true fun c r => if r = true then do let ok ← isTrue c X.env (eval c X.env); pure (ForInStep.yield ok) else pure (ForInStep.yield r)) (TP X pins σ Q) X.xe s
def tTrue : TT := fun _ H Q => Q true H
theorem pts_nil {X : Cx} : PTs X [] tTrue := fun _ _ _ H _ I h => wpAny_tests_nil ⟨H, I, h⟩
theorem pts_one {X : Cx} {c : Expr} {t : TT} (h : PT X c t) : PTs X [c] t := fun pins s σ H Q I q => wpAny_tests_one (h pins s σ H Q I q)
/-- the target stores the block's own names alone -/
def OwnG (n : Nat) (g : TG) : Prop := ∀ v σ H Q, g v σ H Q → g v σ H fun σ2 H2 => Q σ2 H2 ∧ σ2.drop n = σ.drop n ∧ σ2.length = σ.length
theorem drop_set_lt {α : Type} {l : List α} {i n : Nat} {a : α} (h : i < n) : (l.set i a).drop n = l.drop n := by
  apply List.ext_getElem?
  intro k
  rw [List.getElem?_drop, List.getElem?_drop, List.getElem?_set_ne (by omega)]
theorem own_name {i n : Nat} (h : i < n := by decide) : OwnG n (gName i) := fun v σ H Q q => ⟨q, drop_set_lt h, List.length_set ..⟩
theorem own_pair {K : PySem.W.Frag} {i j n : Nat} (h : i < n := by decide) (h' : j < n := by decide) : OwnG n (gTup K 2 (gCons (gName i) (gCons (gName j) gNil))) := by
  rintro v σ H Q ⟨a, xs, e, hs, hl, v1, r1, e1, v2, r2, e2, e3, q⟩
  exact ⟨a, xs, e, hs, hl, v1, r1, e1, v2, r2, e2, e3, q, by rw [drop_set_lt h', drop_set_lt h], by rw [List.length_set, List.length_set]⟩

/-- [elt for tg in iter if ..]: the list at D grows; W: the invariant by the turn, a measure, the items so far; N: what a turn is to reach -/
def tComp (n : Nat) (caps : List Nat) (wi : TI) (g : TG) (tc : TT) (te : TE) : TE := fun σ H Q => wi σ H fun J H1 => ∀ D, H1 D = none →
  ∃ W : Nat → Nat → List V → Hp → Prop, (∃ m, W 0 m [] (upd H1 D (.lst []))) ∧ ∀ i m ys H, W i m ys H →
    (J.stop i H ∧ Q (.ref D) H) ∨ (J.go i H ∧ ∃ N : List V → Hp → Prop, (∀ ys' H', N ys' H' → ∃ m', m' < m ∧ W (i + 1) m' ys' H') ∧ ∀ x H', J.yld i H x H' →
      g x (capSt n caps σ) H' fun σ2 H2 => tc σ2 H2 fun b H3 => if b = true then te σ2 H3 fun y H4 => H4 D = some (.lst ys) ∧ ys.length < sizeLine ∧ N (ys ++ [y]) (upd H4 D (.lst (ys ++ [y]))) else N ys H3)

def frOk (sc outer : Scope) : Bool := sc.names.all fun y => y.2 != .free || outer.names.lookup y.1 == some .cell || outer.names.lookup y.1 == some .free
structure CompOk (X : Cx) (elt tg iter : Expr) (ifs : List Expr) (scope : Scope) (n : Nat) (caps : List Nat) (wi : TI) (g : TG) (tc : TT) (te : TE) : Prop where
  calm : X.calm = true
  it : PI X tg iter wi
  ex : ∃ own cap : List Str, own.length = n ∧ caps.map (fun j => X.N[j]?) = cap.map some ∧ (cap.all fun x => scope.names.lookup x == some .free) = true ∧
    (∀ C s₀ H₀ fp, PG (cpCx X scope (own ++ cap) C s₀ H₀ fp) tg g) ∧ (∀ C s₀ H₀ fp, PTs (cpCx X scope (own ++ cap) C s₀ H₀ fp) ifs tc) ∧ (∀ C s₀ H₀ fp, PE (cpCx X scope (own ++ cap) C s₀ H₀ fp) elt te)
  own : OwnG n g
  kind : scope.kind = .function
  nd : (scope.names.map (·.1)).Nodup
  fr : frOk scope X.env.scope = true
theorem comp_mk {X : Cx} {elt tg iter : Expr} {ifs : List Expr} {scope : Scope} {wi : TI} {g : TG} {tc : TT} {te : TE} (own cap : List Str) (caps : List Nat) (calm : X.calm = true) (it : PI X tg iter wi)
    (hg : ∀ C s₀ H₀ fp, PG (cpCx X scope (own ++ cap) C s₀ H₀ fp) tg g) (ho : OwnG own.length g) (ht : ∀ C s₀ H₀ fp, PTs (cpCx X scope (own ++ cap) C s₀ H₀ fp) ifs tc) (he : ∀ C s₀ H₀ fp, PE (cpCx X scope (own ++ cap) C s₀ H₀ fp) elt te)
    (hcap : caps.map (fun j => X.N[j]?) = cap.map some := by rfl) (hck : (cap.all fun x => scope.names.lookup x == some .free) = true := by rfl) (kind : scope.kind = .function := by rfl)
    (nd : (scope.names.map (·.1)).Nodup := by decide +kernel) (fr : frOk scope X.env.scope = true := by rfl) : CompOk X elt tg iter ifs scope own.length caps wi g tc te :=
  ⟨calm, it, ⟨own, cap, rfl, hcap, hck, hg, ht, he⟩, ho, kind, nd, fr⟩

section
variable {X : Cx} {elt tg iter : Expr} {ifs : List Expr} {scope : Scope} {pos : Pos} {wi : TI} {g : TG} {tc : TT} {te : TE} {n : Nat} {caps : List Nat}
theorem CompOk.free (c : CompOk X elt tg iter ifs scope n caps wi g tc te) : ∀ y ∈ scope.names, y.2 = .free → X.env.kindOf y.1 = some .cell ∨ X.env.kindOf y.1 = some .free := fun y hy e => by
  have q := List.all_eq_true.mp c.fr y hy
  rw [e] at q
  have q' : (X.env.scope.names.lookup y.1 == some NameKind.cell || X.env.scope.names.lookup y.1 == some NameKind.free) = true := by simpa using q
  rcases Bool.or_eq_true_iff.mp q' with z | z
  · exact .inl (eq_of_beq z)
  · exact .inr (eq_of_beq z)
theorem CompOk.cells (c : CompOk X elt tg iter ifs scope n caps wi g tc te) (ok : X.Ok) : ∀ y ∈ scope.names, y.2 = .free → ∃ d, X.env.cells.lookup y.1 = some d := fun y hy e => ok.has y.1 (c.free y hy e)
theorem CompOk.clos (c : CompOk X elt tg iter ifs scope n caps wi g tc te) (ok : X.Ok) : closureFor scope X.env = pure (clOf scope X.env) := closure_of (c.cells ok)
theorem CompOk.names (c : CompOk X elt tg iter ifs scope n caps wi g tc te) : ∀ x ∈ scope.names, x.2 = .local → scope.names.lookup x.1 = some .local := fun x hx e => by
  obtain ⟨a, k⟩ := x
  have e' : k = .local := e
  subst e'
  exact look_of_mem c.nd hx
/-- from the state in which the new list stands -/
theorem comp_env (c : CompOk X elt tg iter ifs scope n caps wi g tc te) {pins : List (Addr × Obj)} {s : Shared} {σ : St} {H : Hp} {Q : VK} {RR : Value → Addr → Result → Shared → Prop} {E : Value → Shared → Prop}
    {it D : Addr} {fp : List Addr} {tn : Nat → Heap → Prop} {J : It} (I : Inv X pins σ H s) (T : Turn X.prog X.w X.K tg J fp it tn) (st : tn 0 s.heap) (hf : ∀ b ∈ fp, FpOk X pins H b)
    {W : Nat → Nat → List V → Hp → Prop} {m0 : Nat} (w0 : W 0 m0 [] H)
    (turn : ∀ i m ys H, W i m ys H → (J.stop i H ∧ Q (.ref D) H) ∨ (J.go i H ∧ ∃ N : List V → Hp → Prop, (∀ ys' H', N ys' H' → ∃ m', m' < m ∧ W (i + 1) m' ys' H') ∧ ∀ x H', J.yld i H x H' →
      g x (capSt n caps σ) H' fun σ2 H2 => tc σ2 H2 fun b H3 => if b = true then te σ2 H3 fun y H4 => H4 D = some (.lst ys) ∧ ys.length < sizeLine ∧ N (ys ++ [y]) (upd H4 D (.lst (ys ++ [y]))) else N ys H3))
    (hRR : ∀ C m s' H', Inv X pins σ H' s' → FpOk X pins H' C → s'.heap.Ns C m → Q (.ref D) H' → RR (.ref D) C (.ok .next) s') :
    wpAny (model X.prog X.w) X.A (newFunctionEnv scope X.env.globals (clOf scope X.env) [] X.env.qual none .none (some X.env)) (fun cenv s₄ =>
      codeAny (model X.prog X.w) X.A (.compStart (.ListComp elt [⟨tg, iter, ifs, 0⟩] scope pos) 0 (.ref it) (.ref D) { cenv with scope := relabel scope X.env }) (RR (.ref D) cenv.locals) s₄) E s := by
  obtain ⟨own, cap, hn, hcap, hck, hg, ht, he⟩ := c.ex
  refine newEnv_comp ?_
  have kp : ∀ b o, s.heap.get? b = some o → (pushCells (s.heap.push { cls := .type "dict", data := .dict #[] }) scope.names).get? b = some o := fun b o e => pushCells_keeps _ _ b o (Heap.get?_push_of_some _ e)
  have hcl := c.cells I.ok
  have clx : ∀ x d, (clOf scope X.env).lookup x = some d → X.env.cells.lookup x = some d := fun x d e => by
    rcases clGo_look hcl e with q | q
    · cases q
    · exact q
  have cfx : CF (pushCells (s.heap.push { cls := .type "dict", data := .dict #[] }) scope.names) (cellsFrom (s.heap.objs.size + 1) scope.names (clOf scope X.env)) := by
    have q := cf_step scope.names (s.heap.push { cls := .type "dict", data := .dict #[] }) (clOf scope X.env) ⟨fun x d e => ?_, fun x y d e1 e2 => I.ok.inj x y d (clx x d e1) (clx y d e2)⟩
    · rwa [Heap.size_push] at q
    · obtain ⟨v, q⟩ := I.cell x d (clx x d e)
      exact ⟨v, q.keeps fun b o e => Heap.get?_push_of_some _ e⟩
  have cls : ∀ x d, (cellsFrom (s.heap.objs.size + 1) scope.names (clOf scope X.env)).lookup x = some d → X.env.cells.lookup x = some d ∨ s.heap.objs.size + 1 ≤ d := fun x d e => by
    rcases cf_new e with q | q
    · exact .inl (clx x d q)
    · exact .inr q
  have flt : ∀ b ∈ fp, b < s.heap.objs.size := fun b hb => by
    obtain ⟨o, e, _⟩ := T.obj 0 _ st b hb
    exact Heap.lt_size e
  have fcell : ∀ b ∈ fp, ∀ x d, (cellsFrom (s.heap.objs.size + 1) scope.names (clOf scope X.env)).lookup x = some d → d ≠ b := fun b hb x d e => by
    rcases cls x d e with q | q
    · exact (hf b hb).2.2.2.2.1 x d q
    · exact Nat.ne_of_gt (Nat.lt_of_lt_of_le (flt b hb) (Nat.le_of_succ_le q))
  have ffs : ∀ b ∈ fp, b ∉ frs X.stack := fun b hb z => by
    rcases List.mem_cons.mp (I.stkSub b z) with q | q
    · exact (hf b hb).2.1 q
    · exact (hf b hb).2.2.1 q
  have okY : (cpCx X scope (own ++ cap) s.heap.objs.size s H fp).Ok := by
    refine ⟨I.ok.mod, c.kind, I.ok.glob, I.ok.blt, Nat.le_refl _, fun x y d e1 e2 => cfx.inj x y d e1 e2, fun x hx => ?_, fun x d e1 e2 => ?_, fun e => I.ok.hd e, I.ok.frames, .inl rfl, fun b hb => ⟨Nat.ne_of_lt (flt b hb), fcell b hb⟩,
      I.bs, Nat.le_trans I.ok.bsz I.sz, fun b o e hb => ?_, ffs, I.stack, I.stkFree⟩
    · have q : (x, NameKind.cell) ∈ scope.names ∨ (x, NameKind.free) ∈ scope.names := by
        rcases hx with z | z
        · exact relabel_mem z (.inl rfl)
        · exact relabel_mem z (.inr rfl)
      refine cf_has ?_
      rcases q with z | z
      · exact .inl z
      · exact .inr (clGo_has (.inl z))
    · have e1' : scope.names.lookup x = some .cell := eq_of_beq e1
      have q := cf_own (lo := s.heap.objs.size + 1) (Nat.le_refl _) (.inl (mem_of_lookup e1')) e2
      exact Nat.le_of_succ_le q
    · rcases (hf b hb).2.2.2.1 with z | z
      · exact I.ok.noex b o e z
      · exact absurd (Nat.lt_of_lt_of_le (Heap.lt_size e) (Nat.le_trans I.ok.bsz z)) (Nat.lt_irrefl _)
  have IY : Inv (cpCx X scope (own ++ cap) s.heap.objs.size s H fp) [] (capSt n caps σ) H { s with heap := pushCells (s.heap.push { cls := .type "dict", data := .dict #[] }) scope.names } := by
    refine ⟨okY, rfl, I.bare, Un.kept kp, ⟨fun _ => none, (Heap.Ns.new s.heap (.type "dict")).keeps (pushCells_keeps _ _), fun i x v h1 h2 h3 => ?_⟩, fun x d e => cfx.cell x d e, I.hok.fresh (Nat.le_refl _), fun x d e => ?_,
      fun p hp => absurd (show p ∈ ([] : List (Addr × Obj)) from hp) (by simp), I.hok.kept kp, ?_⟩
    · -- a captured name
      have hi : n ≤ i := by
        refine Nat.le_of_not_lt fun z => ?_
        unfold capSt at h2
        rw [List.getElem?_append_left (by rw [List.length_replicate]; exact z), List.getElem?_replicate, if_pos z] at h2
        cases h2
      unfold capSt at h2
      rw [List.getElem?_append_right (by rw [List.length_replicate]; exact hi), List.length_replicate, List.getElem?_map] at h2
      have h1' : (own ++ cap)[i]? = some x := h1
      rw [List.getElem?_append_right (by omega), hn] at h1'
      cases hj : caps[i - n]? with
      | none => rw [hj] at h2; cases h2
      | some j =>
        rw [hj] at h2
        have h2' : (σ[j]?).join = some v := Option.some.inj h2
        have hσ : σ[j]? = some (some v) := by
          cases q : σ[j]? with
          | none => rw [q] at h2'; cases h2'
          | some u => rw [q] at h2'; exact congrArg some h2'
        have hx : X.N[j]? = some x := by
          have q : (caps.map (fun j => X.N[j]?))[i - n]? = (cap.map some)[i - n]? := by rw [hcap]
          rw [List.getElem?_map, List.getElem?_map, hj, h1'] at q
          exact Option.some.inj q
        have hfree : scope.names.lookup x = some .free := eq_of_beq (List.all_eq_true.mp hck x (List.mem_of_getElem? h1'))
        have hkind := c.free (x, .free) (mem_of_lookup hfree) rfl
        obtain ⟨m, hm, hl⟩ := I.loc
        obtain ⟨u, ru, lk⟩ := hl j x v hx hσ (by
          rcases hkind with z | z
          · exact .inr (.inl z)
          · exact .inr (.inr z))
        refine ⟨u, ru, ?_⟩
        rcases lk with ⟨z, _⟩ | ⟨_, d, hd, hcell⟩
        · rcases hkind with q | q
          · rw [q] at z; cases z
          · rw [q] at z; cases z
        · have nocell : (x, NameKind.cell) ∉ scope.names := fun z => by
            have q := look_of_mem c.nd z
            rw [hfree] at q
            cases q
          obtain ⟨d', hd'⟩ := clGo_has (cells := X.env.cells) (names := scope.names) (acc := []) (.inl (mem_of_lookup hfree))
          have e1 : (clOf scope X.env).lookup x = some d' := hd'
          have e2 := clx x d' e1
          rw [hd] at e2
          cases e2
          refine .inr ⟨?_, d, (cf_skip nocell).trans e1, hcell.keeps kp⟩
          exact relabel_free (env := X.env) hfree
    · rcases cls x d e with q | q
      · exact I.freeC x d q
      · exact I.hok.fresh (Nat.le_of_succ_le q)
    · show (capSt n caps σ).length = (own ++ cap).length
      unfold capSt
      have q := congrArg List.length hcap
      rw [List.length_map, List.length_map] at q
      rw [List.length_append, List.length_append, List.length_replicate, List.length_map, q, hn]
  have stat : ∀ {H' : Hp}, (∀ b ∈ fp, H' b = none) → ∀ b ∈ fp, FpOk (cpCx X scope (own ++ cap) s.heap.objs.size s H fp) [] H' b := fun hn b hb =>
    ⟨hn b hb, Nat.ne_of_lt (flt b hb), ffs b hb, .inl hb, fcell b hb, fun p hp => absurd (show p ∈ ([] : List (Addr × Obj)) from hp) (by simp)⟩
  have hch : ∀ b ∈ fp, (b ∈ X.ex ∨ X.s₀.heap.objs.size ≤ b) ∧ b ≠ X.env.locals ∧ (∀ x c, X.env.cells.lookup x = some c → c ≠ b) ∧ ∀ p ∈ X.pn ++ pins, p.1 ≠ b := fun b hb =>
    ⟨(hf b hb).2.2.2.1, (hf b hb).2.1, (hf b hb).2.2.2.2.1, (hf b hb).2.2.2.2.2⟩
  have st' := T.keep 0 _ _ st fun b _ o e => kp b o e
  have loop : codeAny (model X.prog X.w) X.A (.compLoop (.ListComp elt [⟨tg, iter, ifs, 0⟩] scope pos) 0 (.ref it) (.ref D) (cpEnv scope s.heap.objs.size X.env)) (RR (.ref D) s.heap.objs.size)
      { s with heap := pushCells (s.heap.push { cls := .type "dict", data := .dict #[] }) scope.names } := by
    refine compLoop_go (fun k s' => ∃ i H' ys, Inv (cpCx X scope (own ++ cap) s.heap.objs.size s H fp) [] (capSt n caps σ) H' s' ∧ tn i s'.heap ∧ (∀ b ∈ fp, H' b = none) ∧ W i k ys H') ?_ m0
      ⟨0, H, [], IY, st', fun b hb => (hf b hb).1, w0⟩
    rintro k s5 ⟨i, H5, ys, I5, st5, fr5, w5⟩
    rcases turn i k ys H5 w5 with ⟨stop, q⟩ | ⟨go, N, hN, step⟩
    · refine thn (T.done (cpCx X scope (own ++ cap) s.heap.objs.size s H fp) rfl rfl rfl c.calm i [] s5 _ H5 (fun _ _ => False) I5 (stat fr5) st5 stop) fun r s6 ⟨hr, I6⟩ => ?_
      subst hr
      obtain ⟨m, hm, _⟩ := I6.loc
      exact hRR _ m s6 H5 (I.call' (ch := fp) I6.os I6.base I6.hok I6.bare hch) (I.fpOk (Nat.le_refl _) I6.free) hm q
    · refine thn (T.item (cpCx X scope (own ++ cap) s.heap.objs.size s H fp) rfl rfl rfl c.calm i [] s5 _ H5 (fun _ _ => False) I5 (stat fr5) st5 go) fun r s6 ⟨u, hr, h6⟩ => ?_
      subst hr
      refine thn h6 fun _ s7 ⟨x, H7, I7, r7, y7, st7, fr7⟩ => ?_
      have I7' := I7.pinned (stat fr7) (T.obj _ _ st7)
      refine thn (hg _ _ _ _ _ s7 _ H7 x u _ I7' r7 (c.own _ _ _ _ (step x H7 y7))) fun _ s8 ⟨σ8, H8, I8, q8, hd8, hl8⟩ => ?_
      have back : ∀ {H' : Hp} {s' : Shared}, Inv (cpCx X scope (own ++ cap) s.heap.objs.size s H fp) ([] ++ pinsAt fp s7.heap) σ8 H' s' →
          Inv (cpCx X scope (own ++ cap) s.heap.objs.size s H fp) [] (capSt n caps σ) H' s' ∧ tn (i + 1) s'.heap ∧ ∀ b ∈ fp, H' b = none := fun {H' s'} J' => by
        refine ⟨J'.unpinned.weak hl8.symm fun j v e => ?_, T.keep _ _ _ st7 fun b hb o e => (J'.pin (b, o) (List.mem_append_right _ (List.mem_append_right _ (mem_pinsAt hb e)))).1, fun b hb => ?_⟩
        · have hj : n ≤ j := by
            refine Nat.le_of_not_lt fun z => ?_
            unfold capSt at e
            rw [List.getElem?_append_left (by rw [List.length_replicate]; exact z), List.getElem?_replicate, if_pos z] at e
            cases e
          have q : (σ8.drop n)[j - n]? = ((capSt n caps σ).drop n)[j - n]? := by rw [hd8]
          rw [List.getElem?_drop, List.getElem?_drop, show n + (j - n) = j by omega] at q
          rw [q]
          exact e
        · obtain ⟨o, e, d⟩ := T.obj _ _ st7 b hb
          exact (J'.pin (b, o) (List.mem_append_right _ (List.mem_append_right _ (mem_pinsAt hb e)))).2.1
      refine thn (ht _ _ _ _ _ s8 σ8 H8 _ I8 q8) fun ok s9 ⟨H9, I9, q9⟩ => ?_
      cases ok with
      | false =>
        rw [if_neg Bool.false_ne_true] at q9 ⊢
        obtain ⟨m', hm, w'⟩ := hN _ _ q9
        obtain ⟨b1, b2, b3⟩ := back I9
        exact ⟨m', hm, i + 1, H9, ys, b1, b2, b3, w'⟩
      | true =>
        rw [if_pos rfl] at q9 ⊢
        refine thn (he _ _ _ _ _ s9 σ8 H9 _ I9 q9) fun y s10 ⟨yv, H10, I10, r10, hD10, hlen, q10⟩ => ?_
        obtain ⟨m', hm, w'⟩ := hN _ _ q10
        refine thn (mt_append _ s10 σ8 H10 (.ref D) [yv] (.ref D) [y] (fun _ H' => H' = upd H10 D (.lst (ys ++ [yv]))) I10 rfl (.cons r10 .nil) ⟨D, ys, yv, rfl, rfl, hD10, hlen, rfl⟩) fun _ s11 ⟨_, H11, I11, _, e11⟩ => ?_
        subst e11
        obtain ⟨b1, b2, b3⟩ := back I11
        exact ⟨m', hm, i + 1, _, ys ++ [yv], b1, b2, b3, w'⟩
  exact codeAny_compStart_list loop (T.self X.A 0 _ _ _ st' loop)
/-- all of it, up to what is done with the list -/
theorem comp_core (c : CompOk X elt tg iter ifs scope n caps wi g tc te) {pins : List (Addr × Obj)} {s : Shared} {σ : St} {H : Hp} {Q : VK} {RR : Value → Addr → Result → Shared → Prop} (I : Inv X pins σ H s) (h : tComp n caps wi g tc te σ H Q)
    (hRR : ∀ D C m s' H', Inv X pins σ H' s' → FpOk X pins H' C → s'.heap.Ns C m → Q (.ref D) H' → RR (.ref D) C (.ok .next) s') :
    wpAny (model X.prog X.w) X.A (eval iter X.env) (fun x s₁ => wpAny (model X.prog X.w) X.A (pyIter x) (fun it s₂ => wpAny (model X.prog X.w) X.A (newList []) (fun acc s₃ =>
      wpAny (model X.prog X.w) X.A (newFunctionEnv scope X.env.globals (clOf scope X.env) [] X.env.qual none .none (some X.env)) (fun cenv s₄ =>
        codeAny (model X.prog X.w) X.A (.compStart (.ListComp elt [⟨tg, iter, ifs, 0⟩] scope pos) 0 it acc { cenv with scope := relabel scope X.env }) (RR acc cenv.locals) s₄) X.xe s₃) X.xe s₂) X.xe s₁) X.xe s := by
  refine thn (c.it pins s σ H _ I h) fun xv s1 h1 => thn h1 fun itv s2 h2 => ?_
  obtain ⟨it, fp, tn, J, H2, e, I2, T, st2, f2, hw⟩ := h2
  subst e
  have hD : H2 s2.heap.objs.size = none := I2.hok.fresh (Nat.le_refl _)
  obtain ⟨W, ⟨m0, w0⟩, turn⟩ := hw _ hD
  refine wpAny_newObj_type ?_
  have I3 : Inv X pins σ (upd H2 s2.heap.objs.size (.lst [])) { s2 with heap := s2.heap.push { cls := .type "list", data := .seq ([] : List Value).toArray } } := I2.lnew (t' := s2.toks) .nil (Nat.zero_le _)
  refine comp_env c I3 T (T.keep 0 _ _ st2 fun b _ o e => Heap.get?_push_of_some _ e) (fun b hb => ?_) w0 turn fun C m s' H' => hRR _ C m s' H'
  obtain ⟨f0, f1, f3⟩ := f2 b hb
  obtain ⟨o, e, _⟩ := T.obj 0 _ st2 b hb
  exact ⟨by rw [upd_ne (Nat.ne_of_lt (Heap.lt_size e))]; exact f0, f1, f3⟩
theorem Inv.sameBut {pins : List (Addr × Obj)} {σ : St} {H : Hp} {s : Shared} {C : Addr} {h' : Heap} (I : Inv X pins σ H s) (f : FpOk X pins H C) (sb : Heap.SameBut C s.heap h') : Inv X pins σ H { s with heap := h' } :=
  I.turned (t' := s.toks) (fun b o hb e => (sb.2 b hb).trans e) f.1 f.2.1 f.2.2.2.1 f.2.2.2.2.1 f.2.2.2.2.2
theorem pe_comp (c : CompOk X elt tg iter ifs scope n caps wi g tc te) (hs : ∀ x, foldedSetIterable iter X.env x = pure x := by intro _; rfl) : PE X (.ListComp elt [⟨tg, iter, ifs, 0⟩] scope pos) (tComp n caps wi g tc te) := by
  intro pins s σ H Q I h
  rw [eval_ListComp]
  refine wpAny_comprehension_free (use := none) rfl hs (c.clos I.ok) c.kind c.names (comp_core c I h fun D C m s' H' I' f hm q => ?_)
  exact ⟨m, hm, fun h' sb => ⟨.ref D, H', I'.sameBut f sb, rfl, q⟩⟩
/-- name = [..], a local name of the def -/
theorem ps_setComp {i : Nat} {y : Str} {py spos : Pos} (hN : X.N.Nodup) (hi : X.N[i]? = some y) (hy : X.env.scope.names.lookup y = some .local) (c : CompOk X elt tg iter ifs scope n caps wi g tc te)
    (hsw : swapsWith (.ListComp elt [⟨tg, iter, ifs, 0⟩] scope pos) (some (.Name y py)) spos.line X.env = pure true := by rfl) (hs : ∀ x, foldedSetIterable iter X.env x = pure x := by intro _; rfl) :
    PS X (.Assign [.Name y py] (.ListComp elt [⟨tg, iter, ifs, 0⟩] scope pos) spos) (tAsg (tComp n caps wi g tc te) (gName i)) := by
  intro pins s σ H D I h
  rw [exec_Assign_Name_used _ _ _ _ hsw]
  refine wpAny_bind (wpAny_standAt (wpAny_bind ?_))
  show wpAny _ X.A (do let _ ← comprehension (.ListComp elt [⟨tg, iter, ifs, 0⟩] scope pos) scope X.env _ (newList []) false (eval iter X.env) (some (assign (.Name y py) X.env))) _ _ s
  refine wpAny_bind (wpAny_mono (wpAny_comprehension_free (use := some (assign (.Name y py) X.env)) (Q := fun _ s' => SP X pins D .next s') rfl hs (c.clos I.ok) c.kind c.names
    (comp_core c I h fun A C m s' H' I' f hm q => ?_)) (fun _ s' hq => wpAny_pure (wpAny_pure hq)) fun _ _ e => e)
  show wpAny _ X.A (assign (.Name y py) X.env (.ref A)) _ _ _
  refine wpAny_assign_Name (store_ok2 I' hN hi (.inl hy) (v := .ref A) rfl (fun s2 I2 hb => ?_) (.inr hy))
  obtain ⟨a, sb, ha⟩ := hb
  have hCa : C ≠ a := by
    rcases ha with z | z
    · rw [z]; exact f.2.1
    · exact (f.2.2.2.2.1 y a z).symm
  exact ⟨m, hm.sameBut sb hCa, fun h' sb' => ⟨_, H', I2.sameBut f sb', q⟩⟩
end

/-! ### the forms one uses -/
/-- over a known number of turns -/
theorem comp_by {J : It} {D : Addr} {H1 : Hp} {R : Hp → Prop} {g : TG} {tc : TT} {te : TE} {cs : St} (N : Nat) (Pv : Nat → List V → Hp → Prop) (h0 : Pv 0 [] (upd H1 D (.lst [])))
    (hs : ∀ i ys H, i < N → Pv i ys H → J.go i H ∧ ∀ x H', J.yld i H x H' → g x cs H' fun σ2 H2 => tc σ2 H2 fun b H3 => if b = true then te σ2 H3 fun y H4 => H4 D = some (.lst ys) ∧ ys.length < sizeLine ∧ Pv (i + 1) (ys ++ [y]) (upd H4 D (.lst (ys ++ [y]))) else Pv (i + 1) ys H3)
    (hd : ∀ ys H, Pv N ys H → J.stop N H ∧ R H) :
    ∃ W : Nat → Nat → List V → Hp → Prop, (∃ m, W 0 m [] (upd H1 D (.lst []))) ∧ ∀ i m ys H, W i m ys H →
      (J.stop i H ∧ R H) ∨ (J.go i H ∧ ∃ N : List V → Hp → Prop, (∀ ys' H', N ys' H' → ∃ m', m' < m ∧ W (i + 1) m' ys' H') ∧ ∀ x H', J.yld i H x H' →
        g x cs H' fun σ2 H2 => tc σ2 H2 fun b H3 => if b = true then te σ2 H3 fun y H4 => H4 D = some (.lst ys) ∧ ys.length < sizeLine ∧ N (ys ++ [y]) (upd H4 D (.lst (ys ++ [y]))) else N ys H3) := by
  refine ⟨fun i m ys H => m = N - i ∧ i ≤ N ∧ Pv i ys H, ⟨N, by simp, Nat.zero_le _, h0⟩, ?_⟩
  rintro i m ys H ⟨rfl, hi, p⟩
  by_cases hlt : i < N
  · obtain ⟨go, step⟩ := hs i ys H hlt p
    exact .inr ⟨go, fun ys' H' => Pv (i + 1) ys' H', fun ys' H' p' => ⟨N - (i + 1), by omega, rfl, hlt, p'⟩, step⟩
  · have e : i = N := by omega
    subst e
    exact .inl (hd ys H p)
end L2

set_option Elab.async false
set_option linter.all false
set_option maxRecDepth 100000
set_option maxHeartbeats 4000000
/-! Own rules over the hand layer, part 2: enumerate, == of data, insert, index, sorted, list(range(..)), isinstance. -/
namespace L2
open PySem PySem.Spec PyProof.Rows

section
variable {X : Cx} {pins : List (Addr × Obj)} {σ : St} {H : Hp} {s : Shared} {h' : Heap}
/-- some untracked records of ours have turned, and a new object was laid and is tracked -/
theorem Inv.turnLaid {t' : Nat} {ch : List Addr} {a : Addr} {o : HO} (I : Inv X pins σ H s) (k : ∀ b q, b ∉ ch → s.heap.get? b = some q → h'.get? b = some q) (hf : ∀ b ∈ ch, FpOk X pins H b) (hp : s.heap.objs.size ≤ a)
    (new : ObjOk X.prog X.w (upd H a o) h' a o) : Inv X pins σ (upd H a o) { s with heap := h', toks := t' } := by
  have hn : H a = none := I.hok.fresh hp
  have nch : ∀ b u, H b = some u → b ∉ ch := fun b u e z => by rw [(hf b z).1] at e; cases e
  refine I.step (g' := s.gens) (d' := s.drawn) (ch := ch) (fun b hb => ⟨(hf b hb).2.2.2.1, (hf b hb).2.1, (hf b hb).2.2.2.2.1, (hf b hb).2.2.2.2.2⟩) (fun b q _ _ hc e _ => k b q hc e) (fun b q _ _ hc e _ => ⟨q.slots, k b q hc e⟩)
    (fun b q _ e n => by rw [upd_ne (Nat.ne_of_lt (Nat.lt_of_lt_of_le (Heap.lt_size e) hp))]; exact n) (fun b q hc e => ⟨q, k b q hc e⟩) (fun b xs e => by rw [upd_ne (ne_of_none e hn)]; exact e) (fun b q u e => by rw [upd_ne (ne_of_none e hn)]; exact e)
    (fun b ps e => ⟨#[], by rw [upd_ne (ne_of_none e hn), e]; simp⟩) (fun m hm => ?_) (fun b u e => ?_) I.bare
  · obtain ⟨q, es, ep, ho, r⟩ := hm
    exact ⟨q, es, ep, k _ q (fun z => (hf _ z).2.1 rfl) ho, r⟩
  · by_cases hb : b = a
    · subst hb
      rw [upd_same] at e
      cases e
      exact new
    · rw [upd_ne hb] at e
      refine (I.hok b u e).stay (fun c v hc q => k c v ?_ q) (fun c q => by rw [upd_ne (ne_of_none q hn)]; exact q) fun c xs q => by rw [upd_ne (ne_of_none q hn)]; exact q
      rcases hc with z | z
      · rw [z]; exact nch b u e
      · exact nch c _ z
theorem Inv.turnedL {t' : Nat} {ch : List Addr} (I : Inv X pins σ H s) (k : ∀ b q, b ∉ ch → s.heap.get? b = some q → h'.get? b = some q) (hf : ∀ b ∈ ch, FpOk X pins H b) : Inv X pins σ H { s with heap := h', toks := t' } := by
  have nch : ∀ b u, H b = some u → b ∉ ch := fun b u e z => by rw [(hf b z).1] at e; cases e
  refine I.step (g' := s.gens) (d' := s.drawn) (ch := ch) (fun b hb => ⟨(hf b hb).2.2.2.1, (hf b hb).2.1, (hf b hb).2.2.2.2.1, (hf b hb).2.2.2.2.2⟩) (fun b q _ _ hc e _ => k b q hc e) (fun b q _ _ hc e _ => ⟨q.slots, k b q hc e⟩)
    (fun b q _ e n => n) (fun b q hc e => ⟨q, k b q hc e⟩) (fun b xs e => e) (fun b q u e => e) (fun b ps e => ⟨#[], by rw [e]; simp⟩) (fun m hm => ?_) (fun b u e => ?_) I.bare
  · obtain ⟨q, es, ep, ho, r⟩ := hm
    exact ⟨q, es, ep, k _ q (fun z => (hf _ z).2.1 rfl) ho, r⟩
  · refine (I.hok b u e).stay (fun c v hc q => k c v ?_ q) (fun c q => q) fun c xs q => q
    rcases hc with z | z
    · rw [z]; exact nch b u e
    · exact nch c _ z
end

/-! ### enumerate -/
/-- (0, x), (1, y), .. of the list at a; each pair a new tuple -/
def Ite (K : PySem.W.Frag) (a : Addr) : It :=
  ⟨fun i H => ∃ xs x, SqL K H a xs ∧ xs[i]? = some x, fun i H v H' => ∃ p x, (∀ xs, SqL K H a xs → xs[i]? = some x) ∧ H p = none ∧ v = .ref p ∧ H' = upd H p (.tup [.int (i : Nat), x]), fun i H => ∃ xs, SqL K H a xs ∧ xs.length ≤ i⟩
theorem turn_enum {P : Program} {w : World} {K : PySem.W.Frag} {es : List Expr} {x1} {ps : Pos} (a e it : Addr) (hne : e ≠ it) :
    Turn P w K (.Tuple es x1 ps) (Ite K a) [e, it] e (fun i h => (∃ old, IsEnum h e it (i : Nat) old) ∧ h.IsListIter it a i) where
  mem := by simp
  obj := fun i h st b hb => by
    obtain ⟨⟨old, he⟩, hl⟩ := st
    rcases List.mem_cons.mp hb with z | hb
    · subst z
      exact ⟨_, he, fun v z => by
        have z' : Data.fields _ = Data.cell v := z
        cases z'⟩
    · have z : b = it := by simpa using hb
      subst z
      obtain ⟨o, e, c, d⟩ := hl
      exact ⟨o, e, fun v z => by rw [d] at z; cases z⟩
  keep := fun i h h' st k => by
    obtain ⟨⟨old, he⟩, hl⟩ := st
    exact ⟨⟨old, k e (by simp) _ he⟩, hl.at fun o q => k it (by simp) o q⟩
  item := by
    intro X hP hw hK hc i pins s σ H E I hf st hg
    subst hP hw hK
    obtain ⟨xs, x, hq, hx⟩ := hg
    obtain ⟨⟨old, he⟩, hl⟩ := st
    obtain ⟨its, rv, p, hz⟩ := I.list hq
    obtain ⟨u, hu, ru⟩ := rv.get hx
    refine wpAny_pyNext_enum_item he hl p.isList (x := u) (by simpa using hu) hne fun h1 ho hl1 ht hsz kk => ?_
    refine ⟨_, rfl, wpAny_letOwnedTupleGo_enum (s := { s with heap := h1, toks := s.toks + 1 }) ho fun h2 he2 hs2 => ?_⟩
    have hTe : s.heap.objs.size ≠ e := Nat.ne_of_gt (Heap.lt_size he)
    have hsz0 : s.heap.objs.size ≤ s.heap.objs.size := Nat.le_refl _
    have hs2' : Heap.SameBut e h1 h2 := hs2
    have k2 : ∀ b q, b ∉ [e, it] → s.heap.get? b = some q → h2.get? b = some q := fun b q hb z => by
      have h1' : b ≠ e := fun r => hb (by simp [r])
      have h2' : b ≠ it := fun r => hb (by simp [r])
      exact (hs2'.2 b h1').trans (kk b q h1' h2' z)
    have tup : h2.get? s.heap.objs.size = some { cls := .type "tuple", data := .seq #[.int i s.toks, u] } := (hs2'.2 _ hTe).trans ht
    have I2 : Inv X pins σ (upd H s.heap.objs.size (.tup [.int (i : Nat), x])) { s with heap := h2, toks := s.toks + 1 } :=
      I.turnLaid k2 hf hsz0 ⟨by show 2 ≤ sizeLine; decide, [.int i s.toks, u], .cons ⟨_, rfl⟩ (.cons ru .nil), ⟨_, tup, rfl, _, rfl⟩⟩
    have hn : H s.heap.objs.size = none := I.hok.fresh (Nat.le_refl _)
    refine ⟨.ref s.heap.objs.size, _, I2, rfl, ⟨_, x, fun ys hy => by rw [I.list_inj hy hq]; exact hx, hn, rfl, rfl⟩, ⟨⟨u, ?_⟩, ?_⟩, fun b hb => ?_⟩
    · have e1 : ((i + 1 : Nat) : Int) = (i : Int) + 1 := by omega
      rw [e1]
      exact he2
    · obtain ⟨o, z, r⟩ := hl1
      exact ⟨o, (hs2'.2 it (Ne.symm hne)).trans z, r⟩
    · obtain ⟨f0, _⟩ := hf b hb
      have hlt : b < s.heap.objs.size := by
        rcases List.mem_cons.mp hb with z | hb
        · rw [z]; exact Heap.lt_size he
        · have z : b = it := by simpa using hb
          rw [z]
          obtain ⟨o, q, _⟩ := hl
          exact Heap.lt_size q
      rw [upd_ne (Nat.ne_of_lt hlt)]
      exact f0
  done := by
    intro X hP hw hK hc i pins s σ H E I hf st hg
    subst hP hw hK
    obtain ⟨xs, hq, hx⟩ := hg
    obtain ⟨⟨old, he⟩, hl⟩ := st
    obtain ⟨its, rv, p, hz⟩ := I.list hq
    have hlen := rv.length
    exact wpAny_pyNext_enum_end (I.ok.hd hc) he hl p.isList (by simp; omega) fun h1 eb => ⟨rfl, I.turnedL (t' := s.toks) (ch := [e, it]) (fun b q hb z => eb b q (fun r => hb (by simp [r])) z) hf⟩
  self := fun _ _ _ _ _ st h => by
    obtain ⟨⟨old, he⟩, _⟩ := st
    exact wpAny_pyIter_enum he h
section
variable {X : Cx}
def iEnum (K : PySem.W.Frag) (ta : TA) : TI := fun σ H R => ta σ H fun vs H1 => ∃ a xs, vs = [.ref a] ∧ SqL K H1 a xs ∧ R (Ite K a) H1
theorem pi_enum {es : List Expr} {x1} {ps p pos : Pos} {a : Expr} {ta : TA} (hg : Gl X "enumerate") (hm : X.mg "enumerate" = none) (ha : PA X [a] ta) (hs : starEach [a] X.env = [(false, eval a X.env)] := by rfl) :
    PI X (.Tuple es x1 ps) (.Call (.Name "enumerate" p) [a] [] pos) (iEnum X.K ta) := by
  intro pins s σ H R I h
  refine Call_ (ld_blt I hg hm boot_enumerate (PyProof.Rows.callWith_type1 (thn (ha pos pins s σ H _ I h) fun us s1 ⟨vs, H1, I1, r1, q1⟩ => ?_) hs rfl))
  obtain ⟨l, xs, e, hq, q⟩ := q1
  subst e
  obtain ⟨u, rfl, ru⟩ := vals1 r1
  cases ru
  obtain ⟨its, rv, pl, hz⟩ := I1.list hq
  refine call_enumerate_list pl.isList fun h1 he hl hsz kp => ?_
  have I2 : Inv X pins σ H1 { s1 with heap := h1 } := I1.kept (t' := s1.toks) kp
  refine wpAny_pyIter_enum (s := { s1 with heap := h1 }) he ?_
  refine ⟨s1.heap.objs.size + 1, [s1.heap.objs.size + 1, s1.heap.objs.size], _, Ite X.K l, H1, rfl, I2, turn_enum l _ _ (Nat.succ_ne_self _), ⟨⟨_, he⟩, hl⟩, fun b hb => ?_, q⟩
  have hb' : s1.heap.objs.size ≤ b := by
    rcases List.mem_cons.mp hb with z | z
    · rw [z]; exact Nat.le_succ _
    · have : b = s1.heap.objs.size := by simpa using z
      rw [this]; exact Nat.le_refl _
  exact I1.fpOk hb' (I1.hok.fresh hb')
end

/-! ### == of data -/
mutual
/-- what a value is as data, by the abstract heap -/
inductive Den (K : PySem.W.Frag) (H : Hp) : V → PyData → Prop
  | non : Den K H .non .none
  | bl (b : Bool) : Den K H (.bl b) (.bool b)
  | int (i : Int) : Den K H (.int i) (.int i)
  | str (x : Str) : Den K H (.str x) (.str x)
  | lst {a : Addr} {xs : List V} {ds : List PyData} : SqL K H a xs → Dens K H xs ds → Den K H (.ref a) (.list ds)
  | tup {a : Addr} {xs : List V} {ds : List PyData} : SqT K H a xs → Dens K H xs ds → Den K H (.ref a) (.tuple ds)
inductive Dens (K : PySem.W.Frag) (H : Hp) : List V → List PyData → Prop
  | nil : Dens K H [] []
  | cons {x : V} {d : PyData} {xs : List V} {ds : List PyData} : Den K H x d → Dens K H xs ds → Dens K H (x :: xs) (d :: ds)
end
section
variable {X : Cx} {pins : List (Addr × Obj)} {σ : St} {H : Hp} {s : Shared}
mutual
theorem Inv.den (I : Inv X pins σ H s) : ∀ {x : V} {d : PyData} {v : Value}, Den X.K H x d → RelV x v → ∃ as, Reads s.heap v d as
  | _, _, _, .non, r => by cases r; exact ⟨_, .none⟩
  | _, _, _, .bl b, r => by cases r; exact ⟨_, .bool b⟩
  | _, _, _, .int i, r => by obtain ⟨t, rfl⟩ := r; exact ⟨_, .int i t⟩
  | _, _, _, .str x, r => by obtain ⟨t, rfl⟩ := r; exact ⟨_, .str x t⟩
  | _, _, _, .lst (xs := xs) (ds := ds) q hd, r => by
    cases r
    obtain ⟨its, rv, ⟨o, n, e, hc, _, hs⟩, _⟩ := I.list q
    obtain ⟨as, ra⟩ := Inv.dens I hd rv
    exact ⟨_, .list e hc hs (by simpa using ra)⟩
  | _, _, _, .tup (xs := xs) (ds := ds) q hd, r => by
    cases r
    obtain ⟨its, rv, ⟨o, e, hc, n, hs⟩, _⟩ := I.tuple q
    obtain ⟨as, ra⟩ := Inv.dens I hd rv
    exact ⟨_, .tuple e hc hs (by simpa using ra)⟩
theorem Inv.dens (I : Inv X pins σ H s) : ∀ {xs : List V} {ds : List PyData} {vs : List Value}, Dens X.K H xs ds → Vals xs vs → ∃ as, ReadsAll s.heap vs ds as
  | _, _, _, .nil, r => by cases r; exact ⟨_, .nil⟩
  | _, _, _, .cons hd ht, r => by
    cases r with
    | cons r1 r2 =>
      obtain ⟨as, h1⟩ := Inv.den I hd r1
      obtain ⟨bs, h2⟩ := Inv.dens I ht r2
      exact ⟨_, .cons h1 h2⟩
end
end
section
variable {X : Cx}
def rEqD (K : PySem.W.Frag) : R2 := fun x y H Q => ∃ d e, Den K H x d ∧ Den K H y e ∧ PySem.SeqAt.shaped d = true ∧ PySem.SeqAt.shaped e = true ∧ Q (.bl (PyData.eqv d e)) H
def rNeD (K : PySem.W.Frag) : R2 := fun x y H Q => ∃ d e, Den K H x d ∧ Den K H y e ∧ PySem.SeqAt.shaped d = true ∧ PySem.SeqAt.shaped e = true ∧ Q (.bl (!PyData.eqv d e)) H
theorem op_eqD (hu : X.A.units + 64 < cLine) : OpR X (compareOp .Eq) (rEqD X.K) := by
  intro pins s σ H x y v u Q I rx ry h
  obtain ⟨d, e, hd, he, sd, se, q⟩ := h
  obtain ⟨as, ra⟩ := I.den hd rx
  obtain ⟨bs, rb⟩ := I.den he ry
  exact eq_dataH ra rb sd se hu ⟨.bl _, H, I, rfl, q⟩
theorem op_neD (hu : X.A.units + 64 < cLine) : OpR X (compareOp .NotEq) (rNeD X.K) := by
  intro pins s σ H x y v u Q I rx ry h
  obtain ⟨d, e, hd, he, sd, se, q⟩ := h
  obtain ⟨as, ra⟩ := I.den hd rx
  obtain ⟨bs, rb⟩ := I.den he ry
  exact ne_dataH ra rb sd se hu ⟨.bl _, H, I, rfl, q⟩
/-! ### insert, index, count -/
/-! ### sorted of a list of ints, shorter than 64 -/
theorem call_sortedI : CallR X (.builtin "sorted") (fun xs H Q => ∃ (p : Addr) (ns : List Int), xs = [.ref p] ∧ SqL X.K H p (ns.map V.int) ∧ ns.length < 64 ∧ ∀ (l : Addr) (ms : List Int), H l = none → ms.Perm ns → ms.Pairwise (· ≤ ·) → Q (.ref l) (upd H l (.lst (ms.map V.int)))) := by
  intro pins s σ H xs us Q I r h
  obtain ⟨p, ns, rfl, hq, h64, q⟩ := h
  obtain ⟨u, rfl, ru⟩ := vals1 r
  cases ru
  obtain ⟨its, rv, pl, hz⟩ := I.list hq
  have hlen : ns.length = its.length := by have := rv.length; rwa [List.length_map] at this
  refine sorted_ints pl.isList (intsAre_of rv) (by omega) fun out ms hi hp hs => ?_
  obtain ⟨e, he⟩ := sortedAll_at s.heap its out
  have hml : ms.length = ns.length := hp.length_eq
  have I1 : Inv X pins σ (upd H (s.heap.objs.size + 1) (.lst (ms.map V.int))) { s with heap := sortedAll s.heap its out } :=
    I.laid (t' := s.toks) (fun b o z => sortedAll_old z) (Nat.le_succ _) ⟨by rw [List.length_map, hml]; exact Nat.le_of_lt (small1000 (by omega)), out.toList, e, vals_ints hi, by simpa [seqObj] using he⟩
  exact ⟨.ref _, _, I1, rfl, q _ ms (I.hok.fresh (Nat.le_succ _)) hp hs⟩

/-! ### range(n) as a value, list(range(n)) -/
theorem call_rangeV : CallR X (.type "range") (fun xs H Q => ∃ j, xs = [.int j] ∧ ∀ p, H p = none → Q (.ref p) (upd H p (.rng 0 j))) := by
  intro pins s σ H xs us Q I r h
  obtain ⟨j, rfl, q⟩ := h
  obtain ⟨u, rfl, t, rfl⟩ := vals1 r
  refine call_range_1 ?_
  exact ⟨.ref s.heap.objs.size, _, I.laid (o := .rng 0 j) (fun b o e => Heap.get?_push_of_some _ e) (Nat.le_refl _) ⟨_, _, _, Heap.get?_push_size _ rfl⟩, rfl, q _ (I.hok.fresh (Nat.le_refl _))⟩
/-- 0, 1, .. n - 1 -/
def upToV (n : Nat) : List V := (List.range n).map fun (i : Nat) => V.int (i : Int)
theorem call_listRange (hc : X.calm = true) : CallR X (.type "list") (fun xs H Q => ∃ (p : Addr) (j : Int), xs = [.ref p] ∧ H p = some (.rng 0 j) ∧ 0 ≤ j ∧ j ≤ 100000 ∧ ∀ l, H l = none → Q (.ref l) (upd H l (.lst (upToV j.toNat)))) := by
  intro pins s σ H xs us Q I r h
  obtain ⟨p, j, rfl, hp, h0, h1, q⟩ := h
  obtain ⟨u, rfl, ru⟩ := vals1 r
  cases ru
  obtain ⟨t, u', v, e⟩ := (show ∃ t u v, s.heap.get? p = some { cls := .type "range", data := .fields #[.int 0 t, .int j u, .int 1 v] } from I.hok p _ hp)
  refine call_list_range (n := j.toNat) (I.ok.hd hc) (show IsRange s.heap p 0 j 1 t u' v from e) (small_one (by decide) (by decide) (by omega) (by omega)) (by rw [rangeSize_one]; split <;> omega) (by omega) fun h' tk acc c' kp ha hi => ?_
  obtain ⟨hsz, hit⟩ := hi
  have hl : (upToV j.toNat).length = j.toNat := by unfold upToV; rw [List.length_map, List.length_range]
  have hv : Vals (upToV j.toNat) acc.toList := by
    have gen : ∀ (xs : List V) (us : List Value), xs.length = us.length → (∀ (i : Nat) (v : Value), us[i]? = some v → ∃ x, xs[i]? = some x ∧ RelV x v) → Vals xs us := by
      intro xs
      induction xs with
      | nil =>
        intro us hl _
        cases us with
        | nil => exact .nil
        | cons _ _ => simp at hl
      | cons x xs ih =>
        intro us hl hr
        cases us with
        | nil => simp at hl
        | cons u us =>
          obtain ⟨x', e1, r1⟩ := hr 0 u (by simp)
          have : x = x' := by simpa using e1
          subst this
          exact .cons r1 (ih us (by simpa using hl) fun i v e => by simpa using hr (i + 1) v (by simpa using e))
    refine gen _ _ (by rw [hl, Array.length_toList, hsz]) fun i v e => ?_
    have e' : acc[i]? = some v := by simpa using e
    obtain ⟨t2, rfl⟩ := hit i v e'
    have hlt : i < j.toNat := by
      have : i < acc.size := (Array.getElem?_eq_some_iff.mp e').1
      omega
    refine ⟨.int (i : Int), ?_, t2, by rw [Int.mul_one, Int.zero_add]⟩
    unfold upToV
    rw [List.getElem?_map, List.getElem?_range hlt]
    rfl
  have I1 : Inv X pins σ (upd H s.heap.objs.size (.lst (upToV j.toNat))) { s with heap := h', toks := tk } :=
    I.laid kp (Nat.le_refl _) ⟨by rw [hl, sizeLine_eq]; omega, acc.toList, c', hv, by simpa using ha⟩
  exact ⟨.ref _, _, I1, rfl, q _ (I.hok.fresh (Nat.le_refl _))⟩

/-! ### isinstance -/
/-- a class as a value: a built-in's name or an own class's address -/
def clsV : V → Value
  | .ty n => .type n
  | .ref a => .ref a
  | _ => .none
end
/-! ### rules that name the written part, for a comprehension's block -/
section
variable {X : Cx} {K : PySem.W.Frag}
theorem pe_fldK {e : Expr} {f : Str} {pos : Pos} {ta : TE} (hK : X.K = K) (he : PE X e ta) (hb : attributeBase e f X.env (eval e X.env) = eval e X.env) : PE X (.Attribute e f pos) (tFld K ta f) := by
  subst hK; exact pe_fld he hb
theorem pg_tupK {es : List Expr} {k : Nat} {pos : Pos} {t : TGs} {n : Nat} (hK : X.K = K) (hc : X.calm = true) (h : PGs X es t)
    (hn : (assignEach es X.env).length = n := by rfl) (hst : (assignEach es X.env).findIdx? (·.1) = none := by rfl) : PG X (.Tuple es k pos) (gTup K n t) := by
  subst hK; exact pg_tup hc h hn hst
theorem pt_truthK {a : Expr} {ta : TE} (hK : X.K = K) (ha : PE X a ta) (he : ∀ whole, isTrue a X.env whole = (do let v ← whole; standAt a.pos; holding [v] (truthy v))) :
    PT X a (fun σ H Q => ta σ H fun x H' => ∃ k, TruV K x H' k ∧ Q k H') := by
  subst hK; exact pt_truth ha he
theorem pi_listK {tg l : Expr} {tl : TE} (hK : X.K = K) (hl : PE X l tl) : PI X tg l (iList K tl) := by
  subst hK; exact pi_list hl
theorem pi_enumK {es : List Expr} {x1} {ps p pos : Pos} {a : Expr} {ta : TA} (hK : X.K = K) (hg : Gl X "enumerate") (hm : X.mg "enumerate" = none) (ha : PA X [a] ta) (hs : starEach [a] X.env = [(false, eval a X.env)] := by rfl) :
    PI X (.Tuple es x1 ps) (.Call (.Name "enumerate" p) [a] [] pos) (iEnum K ta) := by
  subst hK; exact pi_enum hg hm ha hs
theorem pe_bmK {o e : Expr} {es : List Expr} {to : TE} {t : TA} {name : Str} {apos cpos : Pos} {T id : String} {r : V → List V → Hp → VK → Prop} (hK : X.K = K) (pa : PlainAttrs T) (slot : Slot T name id) (hty : typeOf (.builtin id) = pure (.type "method_descriptor")) (hm : MtR X id r) (ho : PE X o to) (ha : PA X (e :: es) t)
    (hbase : attributeBase o name X.env (eval o X.env) = eval o X.env := by rfl)
    (hfew : ((backTo cpos (starEach (e :: es) X.env)).all (fun x => !x.1) && (backToKw cpos (keywordEach [] X.env)).all (fun x => x.1.isSome)
      && decide ((e :: es).length + ([] : List Keyword).length + (if ([] : List Keyword).isEmpty then 0 else 1) < 30)) = true := by rfl)
    (hline : (apos.endLine == cpos.line) = true := by rfl) (hs : starEach (e :: es) X.env = (false, eval e X.env) :: starEach es X.env := by rfl) (hplain : (backTo cpos (starEach es X.env)).any (·.1) = false := by rfl) :
    PE X (.Call (.Attribute o name apos) (e :: es) [] cpos) (tBM K T r to t) := by
  subst hK; exact pe_bm pa slot hty hm ho ha hbase hfew hline hs hplain
theorem ix_listK (hK : X.K = K) : IxR X (rIxL K) := by subst hK; exact ix_list
theorem ix_tupK (hK : X.K = K) : IxR X (rIxT K) := by subst hK; exact ix_tup
theorem sl_listK (hK : X.K = K) : SlR X (rSlL K) := by subst hK; exact sl_list
theorem op_eqDK (hK : X.K = K) (hu : X.A.units + 64 < cLine) : OpR X (compareOp .Eq) (rEqD K) := by subst hK; exact op_eqD hu
theorem op_neDK (hK : X.K = K) (hu : X.A.units + 64 < cLine) : OpR X (compareOp .NotEq) (rNeD K) := by subst hK; exact op_neD hu
theorem op_notInK (hK : X.K = K) : OpR X (compareOp .NotIn) (rIn K true) := by subst hK; exact op_notIn_seq
def rLen (K : PySem.W.Frag) : List V → Hp → VK → Prop := fun xs H Q => ∃ p ys, xs = [.ref p] ∧ (SqL K H p ys ∨ SqT K H p ys) ∧ Q (.int ys.length) H
theorem call_lenK (hK : X.K = K) : CallR X (.builtin "len") (rLen K) := by subst hK; exact call_len_seq
def rListOf (K : PySem.W.Frag) : List V → Hp → VK → Prop := fun xs H Q => ∃ p ys, xs = [.ref p] ∧ (SqL K H p ys ∨ SqT K H p ys) ∧ ∀ l, H l = none → Q (.ref l) (upd H l (.lst ys))
theorem call_listK (hK : X.K = K) : CallR X (.type "list") (rListOf K) := by subst hK; exact call_list_of
def rSorted (K : PySem.W.Frag) : List V → Hp → VK → Prop := fun xs H Q => ∃ (p : Addr) (ns : List Int), xs = [.ref p] ∧ SqL K H p (ns.map V.int) ∧ ns.length < 64 ∧ ∀ (l : Addr) (ms : List Int), H l = none → ms.Perm ns → ms.Pairwise (· ≤ ·) → Q (.ref l) (upd H l (.lst (ms.map V.int)))
theorem call_sortedK (hK : X.K = K) : CallR X (.builtin "sorted") (rSorted K) := by subst hK; exact call_sortedI
end
end L2

set_option Elab.async false
set_option linter.all false
set_option maxRecDepth 100000
set_option maxHeartbeats 4000000
/-! Nets and rounds as data: what of them stands on the heap, and the promises of the defs. -/
namespace L2
open PySem PySem.Spec PyProof.Rows

/-! ### heaps -/
def TupKeep (H H' : Hp) : Prop := ∀ b xs, H b = some (.tup xs) → H' b = some (.tup xs)
theorem Same.tups {H H' : Hp} (s : Same H H') : TupKeep H H' := fun b xs e => s b _ e
theorem Same.new {H : Hp} {a : Addr} {o : HO} (h : H a = none) : Same H (upd H a o) := fun b u e => by rw [upd_ne (ne_of_none e h)]; exact e
theorem Same.put {H H' : Hp} {a : Addr} {o : HO} (s : Same H H') (h : H a = none) : Same H (upd H' a o) := fun b u e => by rw [upd_ne (ne_of_none e h)]; exact s b u e
theorem TupKeep.put {H H' : Hp} {a : Addr} {o u : HO} (s : TupKeep H H') (h : H' a = some u) (hu : ∀ xs, u ≠ .tup xs) : TupKeep H (upd H' a o) := fun b xs e => by
  rw [upd_ne]
  · exact s b xs e
  · intro z
    subst z
    rw [s b xs e] at h
    exact hu xs (Option.some.inj h).symm
theorem TupKeep.new {H H' : Hp} {a : Addr} {o : HO} (s : TupKeep H H') (h : H' a = none) : TupKeep H (upd H' a o) := fun b xs e => by
  rw [upd_ne (ne_of_none (s b xs e) h)]
  exact s b xs e

/-! ### roads -/
def RoadsP (H : Hp) (ps : List Addr) (rs : List (Int × Int)) : Prop := Paired (fun p e => H p = some (.tup [.int e.1, .int e.2])) ps rs
/-- a list of pairs stands at l -/
def Roads (H : Hp) (l : Addr) (rs : List (Int × Int)) : Prop := ∃ ps : List Addr, H l = some (.lst (ps.map V.ref)) ∧ RoadsP H ps rs
theorem RoadsP.mono {H H' : Hp} (k : TupKeep H H') : ∀ {ps : List Addr} {rs : List (Int × Int)}, RoadsP H ps rs → RoadsP H' ps rs
  | _, _, .nil => .nil
  | _, _, .cons h t => .cons (k _ _ h) (RoadsP.mono k t)
theorem RoadsP.len {H : Hp} {ps : List Addr} {rs : List (Int × Int)} (h : RoadsP H ps rs) : ps.length = rs.length := Paired.length h
theorem RoadsP.snoc {H : Hp} {ps : List Addr} {rs : List (Int × Int)} {p : Addr} {e : Int × Int} (h : RoadsP H ps rs) (hp : H p = some (.tup [.int e.1, .int e.2])) : RoadsP H (ps ++ [p]) (rs ++ [e]) := Paired.snoc h hp
theorem Roads.mono {H H' : Hp} {l : Addr} {rs : List (Int × Int)} (h : Roads H l rs) (k : TupKeep H H') (hl : ∀ o, H l = some o → H' l = some o) : Roads H' l rs :=
  let ⟨ps, h1, h2⟩ := h
  ⟨ps, hl _ h1, h2.mono k⟩
theorem Roads.same {H H' : Hp} {l : Addr} {rs : List (Int × Int)} (h : Roads H l rs) (k : Same H H') : Roads H' l rs := h.mono k.tups fun o e => k l o e

/-! ### nets -/
theorem ne_size_roads : ¬ (("size" : Str) = "roads") := by decide +kernel
/-- a net's attributes, in the order in which they are stored -/
def flds (n : Int) (r : Addr) : List (Str × V) := putF "roads" (.ref r) (putF "size" (.int n) [])
theorem flds_size (n : Int) (r : Addr) : (flds n r).lookup ("size" : Str) = some (.int n) := by
  unfold flds
  rw [lookup_putF, if_neg ne_size_roads, lookup_putF, if_pos rfl]
theorem flds_roads (n : Int) (r : Addr) : (flds n r).lookup ("roads" : Str) = some (.ref r) := by
  unfold flds
  rw [lookup_putF, if_pos rfl]
theorem flds_no (n : Int) (r : Addr) {m : Str} (h1 : ¬ m = "roads") (h2 : ¬ m = "size") : (flds n r).lookup m = none := by
  unfold flds
  rw [lookup_putF, if_neg h1, lookup_putF, if_neg h2]
  rfl
/-- a net stands at p, its list of roads at r -/
structure NetAt (C : Addr) (H : Hp) (p r : Addr) (n : Int) (rs : List (Int × Int)) : Prop where
  ob : ∃ dx, H p = some (.ins C dx (flds n r))
  rd : Roads H r rs
theorem NetAt.same {C : Addr} {H H' : Hp} {p r : Addr} {n : Int} {rs : List (Int × Int)} (h : NetAt C H p r n rs) (k : Same H H') : NetAt C H' p r n rs :=
  let ⟨dx, e⟩ := h.ob
  ⟨⟨dx, k _ _ e⟩, h.rd.same k⟩
def InNet (n : Int) (rs : List (Int × Int)) : Prop := ∀ e ∈ rs, (0 ≤ e.1 ∧ e.1 < n) ∧ (0 ≤ e.2 ∧ e.2 < n)

/-! ### == of lists of roads -/
/-! ### rounds -/
def rng (n : Nat) : List Int := (List.range n).map fun (i : Nat) => (i : Int)
theorem rng_len (n : Nat) : (rng n).length = n := by unfold rng; simp
theorem mem_rng {n : Nat} {x : Int} : x ∈ rng n ↔ 0 ≤ x ∧ x < n := by
  unfold rng
  rw [List.mem_map]
  constructor
  · rintro ⟨i, hi, rfl⟩
    have := List.mem_range.mp hi
    omega
  · rintro ⟨h0, h1⟩
    exact ⟨x.toNat, List.mem_range.mpr (by omega), by omega⟩
theorem rng_sorted (n : Nat) : (rng n).Pairwise (· ≤ ·) := by
  unfold rng
  rw [List.pairwise_map]
  exact List.pairwise_lt_range.imp (fun h => by omega)
theorem perm_same : ∀ {xs ys : List Int}, xs.Perm ys → xs.Pairwise (· ≤ ·) → ys.Pairwise (· ≤ ·) → xs = ys
  | [], ys, p, _, _ => by rw [List.nil_perm.mp p]
  | x :: xs, [], p, _, _ => by have := p.length_eq; simp at this
  | x :: xs, y :: ys, p, hx, hy => by
    obtain ⟨h1, h2⟩ := List.pairwise_cons.mp hx
    obtain ⟨h3, h4⟩ := List.pairwise_cons.mp hy
    have e : x = y := by
      have a : x ∈ y :: ys := p.mem_iff.mp List.mem_cons_self
      have b : y ∈ x :: xs := p.mem_iff.mpr List.mem_cons_self
      rcases List.mem_cons.mp a with a | a
      · exact a
      · rcases List.mem_cons.mp b with b | b
        · exact b.symm
        · exact Int.le_antisymm (h1 y b) (h3 x a)
    subst e
    rw [perm_same (List.Perm.cons_inv p) h2 h4]
theorem sorted_rng {ms cs : List Int} {n : Nat} (p : ms.Perm cs) (s : ms.Pairwise (· ≤ ·)) : ms = rng n ↔ cs.Perm (rng n) := by
  constructor
  · intro e
    rw [← e]
    exact p.symm
  · intro q
    exact perm_same (p.trans q) s (rng_sorted n)
/-- the road ahead of place k ends where that at place k begins -/
def Joined (rs : List (Int × Int)) (cs : List Int) (k : Nat) : Prop := ∃ a b e f, atI cs ((k : Int) - 1) = some a ∧ cs[k]? = some b ∧ atI rs a = some e ∧ atI rs b = some f ∧ e.2 = f.1
def IsR (rs : List (Int × Int)) (cs : List Int) : Prop := cs.Perm (rng rs.length) ∧ ∀ k, k < cs.length → Joined rs cs k
theorem atI_mem {α : Type} {xs : List α} {i : Int} (h1 : -(xs.length : Int) ≤ i) (h2 : i < xs.length) : ∃ v, atI xs i = some v ∧ v ∈ xs := by
  unfold atI ixN
  by_cases h0 : 0 ≤ i
  · rw [if_pos h0, if_pos h2]
    have hl : i.toNat < xs.length := by omega
    exact ⟨xs[i.toNat], by simp [hl], List.getElem_mem hl⟩
  · rw [if_neg h0, if_pos h1]
    have hl : (i + xs.length).toNat < xs.length := by omega
    exact ⟨xs[(i + xs.length).toNat], by simp [hl], List.getElem_mem hl⟩
theorem atI_lt {α : Type} {xs : List α} {i : Int} {v : α} (h : atI xs i = some v) (h0 : 0 ≤ i) : xs[i.toNat]? = some v := by
  unfold atI ixN at h
  rw [if_pos h0] at h
  by_cases h1 : i < xs.length
  · rw [if_pos h1] at h
    exact h
  · rw [if_neg h1] at h
    cases h
theorem look_at {rs : List (Int × Int)} {cs : List Int} {k : Nat} (p : cs.Perm (rng rs.length)) (hk : k < cs.length) : ∃ a b e f, atI cs ((k : Int) - 1) = some a ∧ cs[k]? = some b ∧ atI rs a = some e ∧ atI rs b = some f := by
  obtain ⟨a, ha, ma⟩ := atI_mem (xs := cs) (i := (k : Int) - 1) (by omega) (by omega)
  have hb : cs[k]? = some cs[k] := by simp [hk]
  have mb : cs[k] ∈ cs := List.getElem_mem hk
  have ra := mem_rng.mp (p.mem_iff.mp ma)
  have rb := mem_rng.mp (p.mem_iff.mp mb)
  obtain ⟨e, he, _⟩ := atI_mem (xs := rs) (i := a) (by omega) (by omega)
  obtain ⟨f, hf, _⟩ := atI_mem (xs := rs) (i := cs[k]) (by omega) (by omega)
  exact ⟨a, _, e, f, ha, hb, he, hf⟩

/-! ### the list of ints, read and cut -/
theorem atI_map {α β : Type} (g : α → β) {xs : List α} {i : Int} {v : α} (h : atI xs i = some v) : atI (xs.map g) i = some (g v) := by
  unfold atI at h ⊢
  rw [List.length_map]
  cases e : ixN xs.length i with
  | none => rw [e] at h; cases h
  | some j =>
    rw [e] at h
    show (xs.map g)[j]? = some (g v)
    rw [List.getElem?_map]
    have h' : xs[j]? = some v := h
    rw [h']
    rfl
/-! ### an if whose ways meet -/
/-! ### the script: known to the object, or one of the module's -/
def Scr (K : PySem.W.Frag) (H : Hp) (a : Addr) (ns : List Int) : Prop := (∃ o, H a = some (.frz o (.lst (ns.map V.int)))) ∨
  ∃ (o : Obj) (its : Array Value) (n : Nat), K.lookup a = some o ∧ o.cls = .type "list" ∧ o.dict = none ∧ o.data = .seq its n ∧ its.size ≤ sizeLine ∧ Vals (ns.map V.int) its.toList
theorem Scr.sq {K : PySem.W.Frag} {H : Hp} {a : Addr} {ns : List Int} (h : Scr K H a ns) : SqL K H a (ns.map V.int) := by
  rcases h with ⟨o, h⟩ | h
  · exact .inl (.inr ⟨o, h⟩)
  · exact .inr h
theorem Scr.keep {K : PySem.W.Frag} {H H' : Hp} {a : Addr} {ns : List Int} (h : Scr K H a ns) (k : ∀ o u, H a = some (.frz o u) → H' a = some (.frz o u)) : Scr K H' a ns := by
  rcases h with ⟨o, h⟩ | h
  · exact .inl ⟨o, k _ _ h⟩
  · exact .inr h
theorem scr_of {K : PySem.W.Frag} {H : Hp} {a : Addr} {ns : List Int} (hO : Only H) (h : SqL K H a (ns.map V.int)) : Scr K H a ns := by
  rcases h with (h | h) | h
  · rcases hO a with z | ⟨o, xs, z⟩
    · rw [z] at h; cases h
    · rw [z] at h; cases h
  · exact .inl h
  · exact .inr h

/-! ### promises -/
def sp_netinit (C : Addr) : Sp := fun vs H Q _ => ∃ (p dx : Addr) (n : Int), vs = [.ref p, .int n] ∧ H p = some (.ins C dx []) ∧ (1 ≤ n ∧ n ≤ 8) ∧
  ∀ (r : Addr) (H' : Hp), H r = none → NetAt C H' p r n [] → (∀ b o, H b = some o → b ≠ p → H' b = some o) → Q .non H'
def sp_need (C : Addr) : Sp := fun vs H Q _ => ∃ (p r : Addr) (n k : Int) (rs : List (Int × Int)), vs = [.ref p, .int k] ∧ NetAt C H p r n rs ∧ 0 ≤ k ∧ k < n ∧ Q .non H
def sp_lay (C : Addr) : Sp := fun vs H Q _ => ∃ (p r : Addr) (n a b : Int) (rs : List (Int × Int)), vs = [.ref p, .int a, .int b] ∧ NetAt C H p r n rs ∧ (0 ≤ a ∧ a < n) ∧ (0 ≤ b ∧ b < n) ∧ rs.length < 24 ∧
  ∀ (q : Addr) (H' : Hp), H q = none → NetAt C H' p r n (rs ++ [(a, b)]) → (∀ c o, H c = some o → c ≠ r → H' c = some o) → Q (.int rs.length) H'
/-- law's: a list of at most 63 ints is handed in, True comes out -/
def sp_law (K : PySem.W.Frag) : Sp := fun vs H Q _ => ∃ (a : Addr) (ns : List Int), vs = [.ref a] ∧ Scr K H a ns ∧ ns.length ≤ 63 ∧ ∀ H', Q (.bl true) H'
end L2

set_option Elab.async false
set_option linter.all false
set_option maxRecDepth 100000
set_option maxHeartbeats 4000000
/-! Own rules, part 4: a dict by int keys: {}, setdefault, list(d.values()). -/
namespace L2
open PySem PySem.Spec PyProof.Rows
theorem Inv.bigD {X : Cx} {pins : List (Addr × Obj)} {σ : St} {H : Hp} {s : Shared} (I : Inv X pins σ H s) : sysModules < s.heap.objs.size :=
  Nat.lt_trans (by decide) (I.mod.glob.keeps I.bk).lt
def tNewD : TE := fun _ H Q => ∀ p, H p = none → Q (.ref p) (upd H p (.dK []))
theorem pe_newD {X : Cx} {pos : Pos} : PE X (.Dict [] [] pos) tNewD := fun pins s σ H Q I h =>
  wpAny_Dict_empty ⟨.ref s.heap.objs.size, _, I.laid (a := s.heap.objs.size) (o := .dK []) (t' := s.toks) (fun _ _ q => Heap.get?_push_of_some _ q) (Nat.le_refl _)
    ⟨Nat.zero_le _, beq_eq_false_iff_ne.mpr (Ne.symm (Nat.ne_of_lt I.bigD)), [], .nil, Heap.DictOf.new s.heap⟩, rfl, h _ (I.hok.fresh (Nat.le_refl _))⟩
/-- the value under a key -/
def dGet (kvs : List (Key × V)) (k : Key) : Option V := (kvs.find? fun kv => decide (kv.1 = k)).map (·.2)
theorem dGet_cons (p : Key × V) (r : List (Key × V)) (k : Key) : dGet (p :: r) k = if p.1 = k then some p.2 else dGet r k := by
  unfold dGet
  rw [List.find?_cons]
  by_cases e : p.1 = k
  · simp [e]
  · simp [e]
theorem dGet_rel {kvs : List (Key × V)} {vs : List (Key × Value)} (r : KV kvs vs) (k : Key) : RelO (dGet kvs k) (valueAt vs k) := by
  unfold KV at r
  induction r with
  | nil => exact True.intro
  | @cons p q ps qs h t ih =>
    obtain ⟨h1, h2⟩ := h
    rw [dGet_cons]
    by_cases e : p.1 = k
    · have e' : q.1 = k := h1.symm.trans e
      have b : valueAt (q :: qs) k = some q.2 := by simp [valueAt, List.find?_cons, e']
      rw [if_pos e, b]; exact h2
    · have e' : ¬ q.1 = k := fun z => e (h1.trans z)
      have b : valueAt (q :: qs) k = valueAt qs k := by simp [valueAt, List.find?_cons, e']
      rw [if_neg e, b]; exact ih
theorem stored_new {vs : List (Key × Value)} {k : Key} {u : Value} (h : valueAt vs k = none) : stored vs k u = vs ++ [(k, u)] := by
  unfold stored
  rw [if_neg]
  intro z
  obtain ⟨p, hp, e⟩ := List.any_eq_true.mp z
  unfold valueAt at h
  have h' : vs.find? (fun kv => decide (kv.1 = k)) = none := by simpa using h
  exact absurd e (by simpa using List.find?_eq_none.mp h' p hp)
section
variable {X : Cx}
end
end L2

set_option Elab.async false
set_option linter.all false
set_option maxRecDepth 100000
set_option maxHeartbeats 4000000
/-! Own rules, part 5: data. A value is read as data of a Lean type; a local name holds data, shared or its own; expressions and statements are read over data alone, the heap is hidden. -/
namespace L2
open PySem PySem.Spec PyProof.Rows

/-- what the data stand over: the module's part, the class of nets -/
structure Ct where
  K : PySem.W.Frag
  C : Addr

/-! ### heaps kept but for some lists -/
/-- what may be changed: lists and dicts -/
def Mu : HO → Bool
  | .lst _ => true
  | .dK _ => true
  | _ => false
structure Kp (F : List Addr) (H H' : Hp) : Prop where
  keep : ∀ b o, H b = some o → (Mu o = false ∨ b ∉ F) → H' b = some o
  lst : ∀ b o, H b = some o → Mu o = true → ∃ o', H' b = some o' ∧ Mu o' = true
theorem Kp.of_same {F : List Addr} {H H' : Hp} (s : Same H H') : Kp F H H' := ⟨fun b o e _ => s b o e, fun b o e h => ⟨o, s b _ e, h⟩⟩
theorem Kp.refl {F : List Addr} (H : Hp) : Kp F H H := .of_same (Same.refl H)
theorem Kp.free {F : List Addr} {H H' : Hp} (k : Kp F H H') {a : Addr} (h : H' a = none) : H a = none := by
  cases e : H a with
  | none => rfl
  | some o =>
    cases hl : Mu o with
    | true =>
      obtain ⟨o', q, _⟩ := k.lst a o e hl
      rw [h] at q; cases q
    | false => rw [k.keep a o e (.inl hl)] at h; cases h
theorem Kp.trans {F G : List Addr} {H H1 H2 : Hp} (a : Kp F H H1) (b : Kp G H1 H2) (hG : ∀ x ∈ G, H x = none ∨ x ∈ F) : Kp F H H2 := by
  refine ⟨fun c o e h => ?_, fun c o e h => ?_⟩
  · refine b.keep c o (a.keep c o e h) ?_
    rcases h with h | h
    · exact .inl h
    · refine .inr fun z => ?_
      rcases hG c z with q | q
      · rw [e] at q; cases q
      · exact h q
  · obtain ⟨o', q, h'⟩ := a.lst c o e h
    exact b.lst c o' q h'
theorem Kp.same {F : List Addr} {H H1 H2 : Hp} (a : Kp F H H1) (b : Same H1 H2) : Kp F H H2 := a.trans (G := []) (.of_same b) (fun x h => absurd h (by simp))
theorem Kp.to_same {H H' : Hp} (k : Kp [] H H') : Same H H' := fun b o e => k.keep b o e (.inr (by simp))
theorem Kp.putM {H : Hp} {a : Addr} {o o' : HO} (h : H a = some o) (hm : Mu o = true) (hm' : Mu o' = true) : Kp [a] H (upd H a o') := by
  refine ⟨fun b u e q => ?_, fun b u e hu => ?_⟩
  · rw [upd_ne]
    · exact e
    · rintro rfl
      rw [h] at e; cases e
      rcases q with q | q
      · rw [hm] at q; cases q
      · exact q (by simp)
  · by_cases hb : b = a
    · subst hb; exact ⟨o', upd_same, hm'⟩
    · exact ⟨u, by rw [upd_ne hb]; exact e, hu⟩
theorem Kp.put {H : Hp} {a : Addr} {xs ys : List V} (h : H a = some (.lst xs)) : Kp [a] H (upd H a (.lst ys)) := .putM h rfl rfl

/-! ### data -/
class Rp (c : Ct) (α : Type) where
  tree : Hp → V → α → List Addr → Prop
  isl : ∀ {H : Hp} {v : V} {x : α} {as : List Addr}, tree H v x as → ∀ a ∈ as, ∃ o, H a = some o ∧ Mu o = true
  frame : ∀ {H H' : Hp} {v : V} {x : α} {as : List Addr}, tree H v x as → (∀ b o, H b = some o → (Mu o = false ∨ b ∈ as) → H' b = some o) → tree H' v x as
abbrev tree (c : Ct) {α : Type} [Rp c α] : Hp → V → α → List Addr → Prop := Rp.tree c
class Flat (c : Ct) (α : Type) [Rp c α] : Prop where
  flat : ∀ {H : Hp} {v : V} {x : α} {as : List Addr}, tree c H v x as → as = []
section
variable {c : Ct}
theorem nodup_one (a : Addr) : [a].Nodup := List.nodup_cons.mpr ⟨by simp, List.nodup_nil⟩
theorem tree_same {α : Type} [Rp c α] {H H' : Hp} {v : V} {x : α} {as : List Addr} (h : tree c H v x as) (s : Same H H') : tree c H' v x as := Rp.frame h fun b o e _ => s b o e
theorem tree_kp {α : Type} [Rp c α] {H H' : Hp} {v : V} {x : α} {as F : List Addr} (h : tree c H v x as) (s : Kp F H H') (d : ∀ a ∈ as, a ∉ F) : tree c H' v x as :=
  Rp.frame h fun b o e q => s.keep b o e (q.imp id fun z => d b z)
theorem tree_dom {α : Type} [Rp c α] {H : Hp} {v : V} {x : α} {as : List Addr} {a : Addr} (h : tree c H v x as) (ha : a ∈ as) : H a ≠ none := fun z => by
  obtain ⟨xs, e, _⟩ := Rp.isl h a ha
  rw [z] at e; cases e
instance : Rp c Int where
  tree := fun _ v x as => v = .int x ∧ as = []
  isl := fun h a ha => by rw [h.2] at ha; simp at ha
  frame := fun h _ => h
instance : Flat c Int := ⟨fun h => h.2⟩
instance : Rp c Bool where
  tree := fun _ v x as => v = .bl x ∧ as = []
  isl := fun h a ha => by rw [h.2] at ha; simp at ha
  frame := fun h _ => h
instance : Flat c Bool := ⟨fun h => h.2⟩
instance : Rp c Unit where
  tree := fun _ v _ as => v = .non ∧ as = []
  isl := fun h a ha => by rw [h.2] at ha; simp at ha
  frame := fun h _ => h
instance : Flat c Unit := ⟨fun h => h.2⟩
instance : Rp c Str where
  tree := fun _ v x as => v = .str x ∧ as = []
  isl := fun h a ha => by rw [h.2] at ha; simp at ha
  frame := fun h _ => h
instance : Flat c Str := ⟨fun h => h.2⟩
/-- a number or None -/
def optV : Option Int → V
  | none => .non
  | some i => .int i
instance : Rp c (Option Int) where
  tree := fun _ v x as => v = optV x ∧ as = []
  isl := fun h a ha => by rw [h.2] at ha; simp at ha
  frame := fun h _ => h
instance : Flat c (Option Int) := ⟨fun h => h.2⟩
/-- the one or the other -/
instance {α β : Type} [Rp c α] [Rp c β] : Rp c (α ⊕ β) where
  tree := fun H v x as => match x with | .inl a => tree c H v a as | .inr b => tree c H v b as
  isl := fun {H v x as} h => by
    cases x with
    | inl a => exact Rp.isl (c := c) h
    | inr b => exact Rp.isl (c := c) h
  frame := fun {H H' v x as} h => by
    cases x with
    | inl a => exact Rp.frame (c := c) h
    | inr b => exact Rp.frame (c := c) h
instance {α β : Type} [Rp c α] [Rp c β] [Flat c α] [Flat c β] : Flat c (α ⊕ β) := ⟨fun {H v x as} h => by
  cases x with
  | inl a => exact Flat.flat (show tree c H v a as from h)
  | inr b => exact Flat.flat (show tree c H v b as from h)⟩
/-- a pair -/
instance {α β : Type} [Rp c α] [Rp c β] : Rp c (α × β) where
  tree := fun H v x as => ∃ p v1 v2 a1 a2, v = .ref p ∧ H p = some (.tup [v1, v2]) ∧ tree c H v1 x.1 a1 ∧ tree c H v2 x.2 a2 ∧ as = a1 ++ a2
  isl := fun h a ha => by
    obtain ⟨p, v1, v2, a1, a2, _, _, t1, t2, rfl⟩ := h
    rcases List.mem_append.mp ha with z | z
    · exact Rp.isl t1 a z
    · exact Rp.isl t2 a z
  frame := fun h k => by
    obtain ⟨p, v1, v2, a1, a2, e, hp, t1, t2, rfl⟩ := h
    exact ⟨p, v1, v2, a1, a2, e, k _ _ hp (.inl rfl), Rp.frame t1 fun b o e q => k b o e (q.imp id fun z => List.mem_append_left _ z), Rp.frame t2 fun b o e q => k b o e (q.imp id fun z => List.mem_append_right _ z), rfl⟩
instance {α β : Type} [Rp c α] [Rp c β] [Flat c α] [Flat c β] : Flat c (α × β) := ⟨fun h => by
  obtain ⟨p, v1, v2, a1, a2, e, hp, t1, t2, rfl⟩ := h
  rw [Flat.flat t1, Flat.flat t2]; rfl⟩
/-- a triple -/
structure T3 (α β γ : Type) where
  a : α
  b : β
  d : γ
instance {α β γ : Type} [Rp c α] [Rp c β] [Rp c γ] : Rp c (T3 α β γ) where
  tree := fun H v x as => ∃ p v1 v2 v3 a1 a2 a3, v = .ref p ∧ H p = some (.tup [v1, v2, v3]) ∧ tree c H v1 x.a a1 ∧ tree c H v2 x.b a2 ∧ tree c H v3 x.d a3 ∧ as = a1 ++ (a2 ++ a3)
  isl := fun h a ha => by
    obtain ⟨p, v1, v2, v3, a1, a2, a3, _, _, t1, t2, t3, rfl⟩ := h
    rcases List.mem_append.mp ha with z | z
    · exact Rp.isl t1 a z
    · rcases List.mem_append.mp z with z | z
      · exact Rp.isl t2 a z
      · exact Rp.isl t3 a z
  frame := fun h k => by
    obtain ⟨p, v1, v2, v3, a1, a2, a3, e, hp, t1, t2, t3, rfl⟩ := h
    exact ⟨p, v1, v2, v3, a1, a2, a3, e, k _ _ hp (.inl rfl), Rp.frame t1 fun b o e q => k b o e (q.imp id fun z => List.mem_append_left _ z), Rp.frame t2 fun b o e q => k b o e (q.imp id fun z => List.mem_append_right _ (List.mem_append_left _ z)),
      Rp.frame t3 fun b o e q => k b o e (q.imp id fun z => List.mem_append_right _ (List.mem_append_right _ z)), rfl⟩
/-- items -/
def Trees (c : Ct) {α : Type} [Rp c α] (H : Hp) : List V → List α → List Addr → Prop
  | [], [], as => as = []
  | v :: vs, x :: xs, as => ∃ a1 a2, tree c H v x a1 ∧ Trees c H vs xs a2 ∧ as = a1 ++ a2
  | _, _, _ => False
section
variable {α : Type} [Rp c α]
theorem Trees.isl {H : Hp} : ∀ {vs : List V} {xs : List α} {as : List Addr}, Trees c H vs xs as → ∀ a ∈ as, ∃ o, H a = some o ∧ Mu o = true
  | [], [], as, h, a, ha => by rw [show as = [] from h] at ha; simp at ha
  | v :: vs, x :: xs, as, h, a, ha => by
    obtain ⟨a1, a2, t, r, rfl⟩ := h
    rcases List.mem_append.mp ha with z | z
    · exact Rp.isl t a z
    · exact Trees.isl r a z
theorem Trees.frame {H H' : Hp} : ∀ {vs : List V} {xs : List α} {as : List Addr}, Trees c H vs xs as → (∀ b o, H b = some o → (Mu o = false ∨ b ∈ as) → H' b = some o) → Trees c H' vs xs as
  | [], [], as, h, _ => h
  | v :: vs, x :: xs, as, h, k => by
    obtain ⟨a1, a2, t, r, rfl⟩ := h
    exact ⟨a1, a2, Rp.frame t fun b o e q => k b o e (q.imp id fun z => List.mem_append_left _ z), Trees.frame r fun b o e q => k b o e (q.imp id fun z => List.mem_append_right _ z), rfl⟩
theorem Trees.same {H H' : Hp} {vs : List V} {xs : List α} {as : List Addr} (h : Trees c H vs xs as) (s : Same H H') : Trees c H' vs xs as := h.frame fun b o e _ => s b o e
theorem Trees.kp {H H' : Hp} {vs : List V} {xs : List α} {as F : List Addr} (h : Trees c H vs xs as) (s : Kp F H H') (d : ∀ a ∈ as, a ∉ F) : Trees c H' vs xs as :=
  h.frame fun b o e q => s.keep b o e (q.imp id fun z => d b z)
theorem Trees.len {H : Hp} : ∀ {vs : List V} {xs : List α} {as : List Addr}, Trees c H vs xs as → vs.length = xs.length
  | [], [], _, _ => rfl
  | _ :: _, _ :: _, _, h => by
    obtain ⟨_, _, _, r, _⟩ := h
    rw [List.length_cons, List.length_cons, r.len]
theorem Trees.get {H : Hp} : ∀ {vs : List V} {xs : List α} {as : List Addr} {i : Nat} {x : α}, Trees c H vs xs as → xs[i]? = some x → ∃ v a1, vs[i]? = some v ∧ tree c H v x a1 ∧ a1.Sublist as
  | [], [], _, _, _, _, e => by simp at e
  | v :: vs, y :: xs, as, 0, x, h, e => by
    obtain ⟨a1, a2, t, r, rfl⟩ := h
    simp at e; subst e
    exact ⟨v, a1, rfl, t, List.sublist_append_left _ _⟩
  | v :: vs, y :: xs, as, i + 1, x, h, e => by
    obtain ⟨a1, a2, t, r, rfl⟩ := h
    obtain ⟨u, b1, q1, q2, q3⟩ := Trees.get (i := i) r (by simpa using e)
    exact ⟨u, b1, by simpa using q1, q2, q3.trans (List.sublist_append_right _ _)⟩
theorem Trees.append {H : Hp} : ∀ {vs ws : List V} {xs ys : List α} {as bs : List Addr}, Trees c H vs xs as → Trees c H ws ys bs → Trees c H (vs ++ ws) (xs ++ ys) (as ++ bs)
  | [], _, [], _, as, _, h, r => by rw [show as = [] from h]; exact r
  | v :: vs, _, x :: xs, _, as, bs, h, r => by
    obtain ⟨a1, a2, t, q, rfl⟩ := h
    exact ⟨a1, a2 ++ bs, t, Trees.append q r, by rw [List.append_assoc]⟩
theorem Trees.one {H : Hp} {v : V} {x : α} {as : List Addr} (h : tree c H v x as) : Trees c H [v] [x] as := ⟨as, [], h, rfl, by simp⟩
theorem Trees.snoc {H : Hp} {vs : List V} {xs : List α} {v : V} {x : α} {as bs : List Addr} (h : Trees c H vs xs as) (t : tree c H v x bs) : Trees c H (vs ++ [v]) (xs ++ [x]) (as ++ bs) := h.append (.one t)
theorem Trees.flat [Flat c α] {H : Hp} : ∀ {vs : List V} {xs : List α} {as : List Addr}, Trees c H vs xs as → as = []
  | [], [], _, h => h
  | _ :: _, _ :: _, _, h => by
    obtain ⟨a1, a2, t, r, rfl⟩ := h
    rw [Flat.flat t, Trees.flat r]; rfl
theorem Trees.take [Flat c α] {H : Hp} : ∀ (n : Nat) {vs : List V} {xs : List α} {as : List Addr}, Trees c H vs xs as → Trees c H (vs.take n) (xs.take n) []
  | 0, _, _, _, _ => rfl
  | _ + 1, [], [], _, h => rfl
  | n + 1, _ :: _, _ :: _, _, h => by
    obtain ⟨a1, a2, t, r, rfl⟩ := h
    have := Flat.flat t; subst this
    exact ⟨[], [], t, Trees.take n r, rfl⟩
theorem Trees.drop [Flat c α] {H : Hp} : ∀ (n : Nat) {vs : List V} {xs : List α} {as : List Addr}, Trees c H vs xs as → Trees c H (vs.drop n) (xs.drop n) []
  | 0, _, _, _, h => by have := h.flat; subst this; exact h
  | _ + 1, [], [], _, h => rfl
  | n + 1, _ :: _, _ :: _, _, h => by
    obtain ⟨a1, a2, t, r, rfl⟩ := h
    exact Trees.drop n r
end
theorem Trees.ints {H : Hp} : ∀ {vs : List V} {xs : List Int} {as : List Addr}, Trees c H vs xs as → vs = xs.map V.int
  | [], [], _, _ => rfl
  | _ :: _, _ :: _, _, h => by
    obtain ⟨a1, a2, t, r, rfl⟩ := h
    rw [List.map_cons, t.1, r.ints]
theorem trees_ints {H : Hp} : ∀ (xs : List Int), Trees c H (xs.map V.int) xs []
  | [] => rfl
  | x :: xs => ⟨[], [], ⟨rfl, rfl⟩, trees_ints xs, rfl⟩
/-- a list -/
instance {α : Type} [Rp c α] : Rp c (List α) where
  tree := fun H v xs as => ∃ a vs as', v = .ref a ∧ H a = some (.lst vs) ∧ Trees c H vs xs as' ∧ as = a :: as'
  isl := fun h b hb => by
    obtain ⟨a, vs, as', _, ha, t, rfl⟩ := h
    rcases List.mem_cons.mp hb with z | z
    · rw [z]; exact ⟨_, ha, rfl⟩
    · exact t.isl b z
  frame := fun h k => by
    obtain ⟨a, vs, as', e, ha, t, rfl⟩ := h
    exact ⟨a, vs, as', e, k _ _ ha (.inr List.mem_cons_self), t.frame fun b o e q => k b o e (q.imp id fun z => List.mem_cons_of_mem _ z), rfl⟩
/-- the script -/
structure Sc where
  ns : List Int
instance : Rp c Sc where
  tree := fun H v x as => ∃ a, v = .ref a ∧ Scr c.K H a x.ns ∧ as = []
  isl := fun h a ha => by
    obtain ⟨_, _, _, z⟩ := h
    rw [z] at ha; simp at ha
  frame := fun h k => by
    obtain ⟨a, e, s, z⟩ := h
    exact ⟨a, e, s.keep fun o u e => k _ _ e (.inl rfl), z⟩
instance : Flat c Sc := ⟨fun h => let ⟨_, _, _, z⟩ := h; z⟩
/-- a net -/
structure NetD where
  n : Int
  rs : List (Int × Int)
theorem trees_roads {H : Hp} : ∀ {ps : List Addr} {rs : List (Int × Int)}, RoadsP H ps rs → Trees c H (ps.map V.ref) rs []
  | _, _, .nil => rfl
  | _, _, .cons h t => ⟨[], [], ⟨_, _, _, [], [], rfl, h, ⟨rfl, rfl⟩, ⟨rfl, rfl⟩, rfl⟩, trees_roads t, rfl⟩
theorem tree_roads {H : Hp} {l : Addr} {rs : List (Int × Int)} (h : Roads H l rs) : tree c H (.ref l) rs [l] :=
  let ⟨_, h1, h2⟩ := h
  ⟨l, _, [], rfl, h1, trees_roads h2, rfl⟩
instance : Rp c NetD where
  tree := fun H v x as => ∃ p r, v = .ref p ∧ NetAt c.C H p r x.n x.rs ∧ as = [r]
  isl := fun h a ha => by
    obtain ⟨p, r, _, N, rfl⟩ := h
    obtain ⟨ps, q, _⟩ := N.rd
    have : a = r := by simpa using ha
    subst this
    exact ⟨_, q, rfl⟩
  frame := fun h k => by
    obtain ⟨p, r, e, N, rfl⟩ := h
    obtain ⟨⟨dx, hd⟩, ps, q, z⟩ := N
    exact ⟨p, r, e, ⟨⟨dx, k _ _ hd (.inl rfl)⟩, ps, k _ _ q (.inr (by simp)), z.mono fun b xs e => k b _ e (.inl rfl)⟩, rfl⟩

/-! ### the state -/
/-- a local name: unbound or unknown, data that others may hold too, data of its own -/
inductive Ent (c : Ct) : Type 1
  | no
  | en (o : Bool) {α : Type} [Rp c α] (x : α)
abbrev Ent.sh {α : Type} [Rp c α] (x : α) : Ent c := .en false x
abbrev Ent.ow {α : Type} [Rp c α] (x : α) : Ent c := .en true x
def EntOk (H : Hp) (Fs : Nat → List Addr) (i : Nat) (u : Option V) : Ent c → Prop
  | .no => Fs i = []
  | @Ent.en _ false α inst x => Fs i = [] ∧ ∃ v as, u = some v ∧ @Rp.tree c α inst H v x as ∧ ∀ a ∈ as, ∀ j, a ∉ Fs j
  | @Ent.en _ true α inst x => ∃ v, u = some v ∧ @Rp.tree c α inst H v x (Fs i)
structure Sta (H0 : Hp) (F0 : List Addr) (env : List (Ent c)) (Fs : Nat → List Addr) (σ : St) (H : Hp) : Prop where
  len : σ.length = env.length
  ok : ∀ i u e, σ[i]? = some u → env[i]? = some e → EntOk H Fs i u e
  out : ∀ i, env.length ≤ i → Fs i = []
  nd : ∀ i, (Fs i).Nodup
  dj : ∀ i j, i ≠ j → ∀ a ∈ Fs i, a ∉ Fs j
  up : ∀ i, ∀ a ∈ Fs i, H0 a = none ∨ a ∈ F0
  kp : Kp F0 H0 H
section
variable {H0 H H' : Hp} {F0 : List Addr} {env : List (Ent c)} {Fs : Nat → List Addr} {σ : St}
theorem EntOk.same {i : Nat} {u : Option V} {e : Ent c} (h : EntOk H Fs i u e) (s : Same H H') : EntOk H' Fs i u e := by
  cases e with
  | no => exact h
  | en o x =>
    cases o with
    | false =>
      obtain ⟨z, v, as, e, t, d⟩ := h
      exact ⟨z, v, as, e, tree_same t s, d⟩
    | true =>
      obtain ⟨v, e, t⟩ := h
      exact ⟨v, e, tree_same t s⟩
theorem Sta.same (S : Sta H0 F0 env Fs σ H) (s : Same H H') : Sta H0 F0 env Fs σ H' :=
  ⟨S.len, fun i u e h1 h2 => (S.ok i u e h1 h2).same s, S.out, S.nd, S.dj, S.up, S.kp.same s⟩
theorem Sta.at_ (S : Sta H0 F0 env Fs σ H) {i : Nat} {e : Ent c} (h : env[i]? = some e) : ∃ u, σ[i]? = some u ∧ EntOk H Fs i u e := by
  have hi : i < env.length := (List.getElem?_eq_some_iff.mp h).1
  have : σ[i]? = some (σ[i]'(by rw [S.len]; exact hi)) := by simp [S.len, hi]
  exact ⟨_, this, S.ok i _ e this h⟩
theorem Sta.isl (S : Sta H0 F0 env Fs σ H) {i : Nat} {a : Addr} (ha : a ∈ Fs i) : ∃ o, H a = some o ∧ Mu o = true := by
  by_cases hi : i < env.length
  · obtain ⟨u, h1, h2⟩ := S.at_ (i := i) (e := env[i]) (by simp [hi])
    cases e : env[i] with
    | no => rw [e] at h2; rw [show Fs i = [] from h2] at ha; simp at ha
    | en o x =>
      rw [e] at h2
      cases o with
      | false => rw [h2.1] at ha; simp at ha
      | true =>
        obtain ⟨v, _, t⟩ := h2
        exact Rp.isl t a ha
  · rw [S.out i (by omega)] at ha; simp at ha
/-- what is new is no one's -/
theorem Sta.new (S : Sta H0 F0 env Fs σ H) {a : Addr} (h : H a = none) (j : Nat) : a ∉ Fs j := fun z => by
  obtain ⟨xs, e, _⟩ := S.isl z
  rw [h] at e; cases e
/-- data of a name -/
theorem Sta.var {α : Type} [Rp c α] {x : α} (S : Sta H0 F0 env Fs σ H) {i : Nat} {o : Bool} (h : env[i]? = some (.en o x)) : ∃ v as, σ[i]? = some (some v) ∧ tree c H v x as := by
  cases o with
  | false =>
    obtain ⟨u, h1, _, v, as, e, t, _⟩ := S.at_ h
    exact ⟨v, as, by rw [h1, e], t⟩
  | true =>
    obtain ⟨u, h1, v, e, t⟩ := S.at_ h
    exact ⟨v, _, by rw [h1, e], t⟩

/-! ### changing a name's entry -/
def putF' (Fs : Nat → List Addr) (i : Nat) (as : List Addr) : Nat → List Addr := fun j => if j = i then as else Fs j
theorem putF_same {Fs : Nat → List Addr} {i : Nat} {as : List Addr} : putF' Fs i as i = as := by unfold putF'; rw [if_pos rfl]
theorem putF_ne {Fs : Nat → List Addr} {i j : Nat} {as : List Addr} (h : j ≠ i) : putF' Fs i as j = Fs j := by unfold putF'; rw [if_neg h]
/-- the entry at i is e, by the footprint as; the heap may have changed within the old footprint of i -/
theorem Sta.put (S : Sta H0 F0 env Fs σ H) {i : Nat} {as : List Addr} {v : Option V} {e : Ent c} (kp : Kp (Fs i) H H') (hi : i < env.length)
    (he : EntOk H' (putF' Fs i as) i v e) (nd : as.Nodup) (dj : ∀ a ∈ as, a ∈ Fs i ∨ H a = none) : Sta H0 F0 (env.set i e) (putF' Fs i as) (σ.set i v) H' := by
  have dj' : ∀ a ∈ as, ∀ j, j ≠ i → a ∉ Fs j := fun a ha j hj => by
    rcases dj a ha with z | z
    · exact S.dj i j (Ne.symm hj) a z
    · exact S.new z j
  refine ⟨by rw [List.length_set, List.length_set]; exact S.len, fun j u e' h1 h2 => ?_, fun j hj => ?_, fun j => ?_, fun j k hjk a ha => ?_, fun j a ha => ?_, ?_⟩
  · by_cases hj : j = i
    · subst hj
      have hs : j < σ.length := by rw [S.len]; exact hi
      rw [List.getElem?_set_self hs] at h1
      rw [List.getElem?_set_self hi] at h2
      cases h1; cases h2
      exact he
    · rw [List.getElem?_set_ne (Ne.symm hj)] at h1 h2
      have q := S.ok j u e' h1 h2
      cases e' with
      | no => exact (putF_ne hj).trans q
      | en o x =>
       cases o with
       | false =>
        obtain ⟨z, w, bs, e, t, d⟩ := q
        refine ⟨(putF_ne hj).trans z, w, bs, e, tree_kp t kp fun a ha => d a ha i, fun a ha k => ?_⟩
        by_cases hk : k = i
        · subst hk
          rw [putF_same]
          intro hz
          rcases dj a hz with y | y
          · exact d a ha k y
          · exact tree_dom t ha y
        · rw [putF_ne hk]; exact d a ha k
       | true =>
        obtain ⟨w, e, t⟩ := q
        exact ⟨w, e, by rw [putF_ne hj]; exact tree_kp t kp fun a ha => S.dj j i hj a ha⟩
  · rw [List.length_set] at hj
    rw [putF_ne (by omega)]
    exact S.out j hj
  · by_cases hj : j = i
    · subst hj; rw [putF_same]; exact nd
    · rw [putF_ne hj]; exact S.nd j
  · by_cases hj : j = i
    · subst hj
      rw [putF_same] at ha
      rw [putF_ne (Ne.symm hjk)]
      exact dj' a ha k (Ne.symm hjk)
    · rw [putF_ne hj] at ha
      by_cases hk : k = i
      · subst hk
        rw [putF_same]
        exact fun z => dj' a z j hj ha
      · rw [putF_ne hk]; exact S.dj j k hjk a ha
  · by_cases hj : j = i
    · subst hj
      rw [putF_same] at ha
      rcases dj a ha with z | z
      · exact S.up j a z
      · exact .inl (S.kp.free z)
    · rw [putF_ne hj] at ha; exact S.up j a ha
  · exact S.kp.trans kp fun x hx => S.up i x hx
/-- shared data -/
theorem Sta.setS {α : Type} [Rp c α] {x : α} {v : V} {as : List Addr} (S : Sta H0 F0 env Fs σ H) {i : Nat} (hi : i < env.length) (t : tree c H v x as) (d : ∀ a ∈ as, ∀ j, j ≠ i → a ∉ Fs j) :
    Sta H0 F0 (env.set i (.sh x)) (putF' Fs i []) (σ.set i (some v)) H := by
  refine S.put (Kp.refl H) hi ⟨putF_same, v, as, rfl, t, fun a ha j => ?_⟩ List.nodup_nil (fun a ha => absurd ha (by simp))
  by_cases hj : j = i
  · subst hj; rw [putF_same]; simp
  · rw [putF_ne hj]; exact d a ha j hj
/-- own data, new -/
theorem Sta.setO {α : Type} [Rp c α] {x : α} {v : V} {as : List Addr} (S : Sta H0 F0 env Fs σ H) (s : Same H H') {i : Nat} (hi : i < env.length) (t : tree c H' v x as) (nd : as.Nodup) (d : ∀ a ∈ as, H a = none) :
    Sta H0 F0 (env.set i (.ow x)) (putF' Fs i as) (σ.set i (some v)) H' :=
  S.put (Kp.of_same s) hi ⟨v, rfl, by rw [putF_same]; exact t⟩ nd fun a ha => .inr (d a ha)
/-- a name's own data is given to all -/
theorem Sta.share {α : Type} [Rp c α] {x : α} (S : Sta H0 F0 env Fs σ H) {i : Nat} (h : env[i]? = some (.ow x)) : Sta H0 F0 (env.set i (.sh x)) (putF' Fs i []) σ H := by
  obtain ⟨u, h1, v, rfl, t⟩ := S.at_ h
  have hi : i < env.length := (List.getElem?_eq_some_iff.mp h).1
  have q := S.setS (v := v) hi t fun a ha j hj => S.dj i j (Ne.symm hj) a ha
  have e : σ.set i (some v) = σ := by
    apply List.ext_getElem?
    intro k
    by_cases hk : i = k
    · subst hk
      have hs : i < σ.length := by rw [S.len]; exact hi
      rw [List.getElem?_set_self hs, h1]
    · rw [List.getElem?_set_ne hk]
  rwa [e] at q
end
end
end L2

set_option Elab.async false
set_option linter.all false
set_option maxRecDepth 100000
set_option maxHeartbeats 4000000
/-! Own rules, part 6: expressions and tests over data. -/
namespace L2
open PySem PySem.Spec PyProof.Rows
/-- how an expression's value stands: anyhow; apart from what names own; new, or taken from the names S -/
inductive Md where
  | any | sh | mv (S : List Nat)
abbrev Md.fr : Md := .mv []
def Md.ok (m : Md) (H : Hp) (Fs : Nat → List Addr) (as : List Addr) : Prop := match m with
  | .any => True
  | .sh => ∀ a ∈ as, ∀ j, a ∉ Fs j
  | .mv S => as.Nodup ∧ ∀ a ∈ as, H a = none ∨ ∃ j ∈ S, a ∈ Fs j
/-- modes in which parts may be put together -/
def Md.seq : Md → Prop
  | .mv (_ :: _) => False
  | _ => True
section
variable {c : Ct} {H0 H H' : Hp} {F0 : List Addr} {env : List (Ent c)} {Fs : Nat → List Addr} {σ : St} {m : Md}
theorem Md.fresh {as : List Addr} (S : Sta H0 F0 env Fs σ H) (nd : as.Nodup) (n : ∀ a ∈ as, H a = none) : m.ok H Fs as := by
  cases m with
  | any => trivial
  | sh => exact fun a ha j => S.new (n a ha) j
  | mv T => exact ⟨nd, fun a ha => .inl (n a ha)⟩
theorem Md.nil : m.ok H Fs [] := by
  cases m with
  | any => trivial
  | sh => exact fun a ha => absurd ha (by simp)
  | mv T => exact ⟨List.nodup_nil, fun a ha => absurd ha (by simp)⟩
theorem Md.sub {as bs : List Addr} (h : m.ok H Fs as) (s : bs.Sublist as) : m.ok H Fs bs := by
  cases m with
  | any => trivial
  | sh => exact fun a ha => h a (s.subset ha)
  | mv T => exact ⟨h.1.sublist s, fun a ha => h.2 a (s.subset ha)⟩
/-- two parts, one behind the other -/
theorem Md.two {as bs : List Addr} (hm : m.seq) (s : Same H H') (h1 : m.ok H Fs as) (h2 : m.ok H' Fs bs) (hd : ∀ a ∈ as, H' a ≠ none) : m.ok H Fs (as ++ bs) := by
  match m, hm with
  | .any, _ => trivial
  | .sh, _ =>
    intro a ha
    rcases List.mem_append.mp ha with z | z
    · exact h1 a z
    · exact h2 a z
  | .mv [], _ =>
    have n1 : ∀ a ∈ as, H a = none := fun a ha => (h1.2 a ha).elim id fun ⟨j, z, _⟩ => absurd z (by simp)
    have n2 : ∀ a ∈ bs, H' a = none := fun a ha => (h2.2 a ha).elim id fun ⟨j, z, _⟩ => absurd z (by simp)
    refine ⟨List.nodup_append.mpr ⟨h1.1, h2.1, fun a ha b hb e => ?_⟩, fun a ha => .inl ?_⟩
    · subst e
      exact hd a ha (n2 a hb)
    · rcases List.mem_append.mp ha with z | z
      · exact n1 a z
      · exact s.free (n2 a z)
/-- the part comes later -/
theorem Md.later {as : List Addr} (s : Same H H') (h : m.ok H' Fs as) : m.ok H Fs as := by
  cases m with
  | any => trivial
  | sh => exact h
  | mv T => exact ⟨h.1, fun a ha => (h.2 a ha).imp (fun z => s.free z) id⟩
end

section
variable {c : Ct}
def WE (m : Md) (env : List (Ent c)) (t : TE) {α : Type} [Rp c α] (R : α → Prop) : Prop :=
  ∀ ⦃H0 : Hp⦄ ⦃F0 : List Addr⦄ ⦃Fs : Nat → List Addr⦄ ⦃σ : St⦄ ⦃H : Hp⦄, Sta H0 F0 env Fs σ H → ∀ Q : VK, (∀ x v H' as, R x → Same H H' → tree c H' v x as → m.ok H Fs as → Q v H') → t σ H Q
def WT (env : List (Ent c)) (t : TT) (R : Bool → Prop) : Prop :=
  ∀ ⦃H0 : Hp⦄ ⦃F0 : List Addr⦄ ⦃Fs : Nat → List Addr⦄ ⦃σ : St⦄ ⦃H : Hp⦄, Sta H0 F0 env Fs σ H → ∀ Q : Bool → Hp → Prop, (∀ b H', R b → Same H H' → Q b H') → t σ H Q
def WO (env : List (Ent c)) (t : TO) (R : Option Int → Prop) : Prop :=
  ∀ ⦃H0 : Hp⦄ ⦃F0 : List Addr⦄ ⦃Fs : Nat → List Addr⦄ ⦃σ : St⦄ ⦃H : Hp⦄, Sta H0 F0 env Fs σ H → ∀ Q : Option Int → Hp → Prop, (∀ b H', R b → Same H H' → Q b H') → t σ H Q
/-- items of one type -/
def WL (m : Md) (env : List (Ent c)) (t : TA) {α : Type} [Rp c α] (R : List α → Prop) : Prop :=
  ∀ ⦃H0 : Hp⦄ ⦃F0 : List Addr⦄ ⦃Fs : Nat → List Addr⦄ ⦃σ : St⦄ ⦃H : Hp⦄, Sta H0 F0 env Fs σ H → ∀ Q : List V → Hp → Prop, (∀ xs vs H' as, R xs → Same H H' → Trees c H' vs xs as → m.ok H Fs as → Q vs H') → t σ H Q
/-- arguments -/
def Args (H : Hp) : List V → List (Ent c) → Prop
  | [], [] => True
  | v :: vs, @Ent.en _ _ α inst x :: es => (∃ as, @Rp.tree c α inst H v x as) ∧ Args H vs es
  | _, _ => False
def WA (env : List (Ent c)) (t : TA) (R : List (Ent c) → Prop) : Prop :=
  ∀ ⦃H0 : Hp⦄ ⦃F0 : List Addr⦄ ⦃Fs : Nat → List Addr⦄ ⦃σ : St⦄ ⦃H : Hp⦄, Sta H0 F0 env Fs σ H → ∀ Q : List V → Hp → Prop, (∀ es vs H', R es → Same H H' → Args H' vs es → Q vs H') → t σ H Q
variable {env : List (Ent c)} {m : Md} {ta tb td te : TE} {α β γ : Type} [Rp c α] [Rp c β] [Rp c γ]
theorem we_mono {R R' : α → Prop} (h : WE m env te R) (k : ∀ x, R x → R' x) : WE m env te R' := fun _ _ _ _ _ S Q q => h S Q fun x v H' as r => q x v H' as (k x r)
theorem we_flat [Flat c α] {R : α → Prop} (h : WE .any env te R) : WE m env te R := fun _ _ _ _ _ S Q q => h S Q fun x v H' as r s t _ => by
  have := Flat.flat t; subst this
  exact q x v H' [] r s t Md.nil
/-! names, constants -/
theorem we_var {i : Nat} {o : Bool} {x : α} {R : α → Prop} (h : env[i]? = some (.en o x)) (q : R x) : WE .any env (tVar i) R := fun _ _ _ _ _ S Q k => by
  obtain ⟨v, as, e, t⟩ := S.var h
  exact ⟨v, e, k x v _ as q (Same.refl _) t trivial⟩
theorem we_varF [Flat c α] {i : Nat} {o : Bool} {x : α} {R : α → Prop} (h : env[i]? = some (.en o x)) (q : R x) : WE m env (tVar i) R := we_flat (we_var h q)
theorem we_varS {i : Nat} {x : α} {R : α → Prop} (h : env[i]? = some (.en false x)) (q : R x) : WE .sh env (tVar i) R := fun _ _ _ _ _ S Q k => by
  obtain ⟨u, h1, _, v, as, e, t, d⟩ := S.at_ h
  exact ⟨v, by rw [h1, e], k x v _ as q (Same.refl _) t d⟩
theorem we_varM {i : Nat} {x : α} {R : α → Prop} (h : env[i]? = some (.en true x)) (q : R x) : WE (.mv [i]) env (tVar i) R := fun _ _ _ _ _ S Q k => by
  obtain ⟨u, h1, v, e, t⟩ := S.at_ h
  exact ⟨v, by rw [h1, e], k x v _ _ q (Same.refl _) t ⟨S.nd i, fun a ha => .inr ⟨i, by simp, ha⟩⟩⟩
theorem we_int {n : Int} {R : Int → Prop} (q : R n) : WE m env (tC (.int n)) R := fun _ _ _ _ _ S Q k => k n _ _ [] q (Same.refl _) ⟨rfl, rfl⟩ Md.nil
theorem we_bl {n : Bool} {R : Bool → Prop} (q : R n) : WE m env (tC (.bl n)) R := fun _ _ _ _ _ S Q k => k n _ _ [] q (Same.refl _) ⟨rfl, rfl⟩ Md.nil
theorem we_str {n : Str} {R : Str → Prop} (q : R n) : WE m env (tC (.str n)) R := fun _ _ _ _ _ S Q k => k n _ _ [] q (Same.refl _) ⟨rfl, rfl⟩ Md.nil
/-! ints -/
theorem we_i0 {g : Int → Int → Int} {R : Int → Prop} (h : WE .any env ta fun a => WE .any env tb fun b => R (g a b)) : WE m env (tOp (rI0 fun i j => .int (g i j)) ta tb) R :=
  fun _ _ _ _ _ S Q k => h S _ fun a v H1 as ra s1 t1 _ => ra (S.same s1) _ fun b u H2 bs rb s2 t2 _ => ⟨a, b, t1.1, t2.1, k _ _ _ [] rb (s1.trans s2) ⟨rfl, rfl⟩ Md.nil⟩
theorem we_add {R : Int → Prop} (h : WE .any env ta fun a => WE .any env tb fun b => R (a + b)) : WE m env (tOp (rI0 fun i j => .int (i + j)) ta tb) R := we_i0 h
theorem we_sub {R : Int → Prop} (h : WE .any env ta fun a => WE .any env tb fun b => R (a - b)) : WE m env (tOp (rI0 fun i j => .int (i - j)) ta tb) R := we_i0 h
theorem we_iC {C : Int → Int → Prop} {g : Int → Int → Int} {R : Int → Prop} (h : WE .any env ta fun a => WE .any env tb fun b => C a b ∧ R (g a b)) : WE m env (tOp (rI C fun i j => .int (g i j)) ta tb) R :=
  fun _ _ _ _ _ S Q k => h S _ fun a v H1 as ra s1 t1 _ => ra (S.same s1) _ fun b u H2 bs rb s2 t2 _ => ⟨a, b, t1.1, t2.1, rb.1, k _ _ _ [] rb.2 (s1.trans s2) ⟨rfl, rfl⟩ Md.nil⟩
theorem we_iB {g : Int → Int → Bool} {R : Bool → Prop} (h : WE .any env ta fun a => WE .any env tb fun b => R (g a b)) : WE m env (tOp (rI0 fun i j => .bl (g i j)) ta tb) R :=
  fun _ _ _ _ _ S Q k => h S _ fun a v H1 as ra s1 t1 _ => ra (S.same s1) _ fun b u H2 bs rb s2 t2 _ => ⟨a, b, t1.1, t2.1, k _ _ _ [] rb (s1.trans s2) ⟨rfl, rfl⟩ Md.nil⟩
theorem we_neg {R : Int → Prop} (h : WE .any env ta fun a => R (-a)) : WE m env (tUn (rU fun i => .int (-i)) ta) R :=
  fun _ _ _ _ _ S Q k => h S _ fun a v H1 as ra s1 t1 _ => ⟨a, t1.1, k _ _ _ [] ra s1 ⟨rfl, rfl⟩ Md.nil⟩
theorem dec_intD (a b : Int) : decide (V.int a = V.int b) = decide (a = b) := by by_cases h : a = b <;> simp [h]
theorem we_eqI {R : Bool → Prop} (h : WE .any env ta fun a : Int => WE .any env tb fun b : Int => R (decide (a = b))) : WE m env (tOp rEq ta tb) R :=
  fun _ _ _ _ _ S Q k => h S _ fun a v H1 as ra s1 t1 _ => ra (S.same s1) _ fun b u H2 bs rb s2 t2 _ => by
    rw [t1.1, t2.1]
    refine ⟨rfl, ?_⟩
    rw [dec_intD]
    exact k _ _ _ [] rb (s1.trans s2) ⟨rfl, rfl⟩ Md.nil
theorem we_neI {R : Bool → Prop} (h : WE .any env ta fun a : Int => WE .any env tb fun b : Int => R (!decide (a = b))) : WE m env (tOp rNe ta tb) R :=
  fun _ _ _ _ _ S Q k => h S _ fun a v H1 as ra s1 t1 _ => ra (S.same s1) _ fun b u H2 bs rb s2 t2 _ => by
    rw [t1.1, t2.1]
    refine ⟨rfl, ?_⟩
    rw [dec_intD]
    exact k _ _ _ [] rb (s1.trans s2) ⟨rfl, rfl⟩ Md.nil
/-- a op b op d -/
theorem we_chain {p q : Int → Int → Bool} {R : Bool → Prop} (h : WE .any env ta fun a => WE .any env tb fun b => (p a b = true → WE .any env td fun d => R (q b d)) ∧ (p a b = false → R false)) :
    WE m env (tChain (rI0 fun i j => .bl (p i j)) (rI0 fun i j => .bl (q i j)) ta tb td) R :=
  fun _ _ _ _ _ S Q k => h S _ fun a v H1 as ra s1 t1 _ => ra (S.same s1) _ fun b u H2 bs rb s2 t2 _ => by
    refine ⟨a, b, t1.1, t2.1, p a b, rfl, ?_⟩
    cases e : p a b with
    | true => exact iteT (rb.1 e (S.same (s1.trans s2)) _ fun d w H3 ds rd s3 t3 _ => ⟨b, d, t2.1, t3.1, k _ _ _ [] rd ((s1.trans s2).trans s3) ⟨rfl, rfl⟩ Md.nil⟩)
    | false => exact iteF (k _ _ _ [] (rb.2 e) (s1.trans s2) ⟨rfl, rfl⟩ Md.nil)

/-! tests -/
theorem wt_test {R : Bool → Prop} (h : WE .any env te R) : WT env (tTest te) R := fun _ _ _ _ _ S Q k => h S _ fun b v H1 as r s t _ => ⟨b, t.1, k b H1 r s⟩
theorem wt_val {R : Bool → Prop} (h : WE .any env te R) : WT env (tB te) R := fun _ _ _ _ _ S Q k => h S _ fun b v H1 as r s t _ => ⟨b, t.1, k b H1 r s⟩
theorem wt_or {t u : TT} {R : Bool → Prop} (h : WT env t fun b => (b = true → R true) ∧ (b = false → WT env u R)) : WT env (tOr t u) R := fun _ _ _ _ _ S Q k => h S _ fun b H1 r s => by
  cases b with
  | true => exact iteT (k true H1 (r.1 rfl) s)
  | false => exact iteF (r.2 rfl (S.same s) _ fun b H2 r2 s2 => k b H2 r2 (s.trans s2))
theorem wt_not {t : TT} {R : Bool → Prop} (h : WT env t fun b => R (!b)) : WT env (tNot t) R := fun _ _ _ _ _ S Q k => h S _ fun b H1 r s => k (!b) H1 r s
theorem we_or {R : Bool → Prop} (h : WE .any env ta fun b : Bool => (b = true → R true) ∧ (b = false → WE .any env tb R)) : WE m env (tOrV ta tb) R := fun _ _ _ _ _ S Q k => h S _ fun b v H1 as r s t _ => by
  refine ⟨b, t.1, ?_⟩
  cases b with
  | true => exact iteT (k true _ H1 [] (r.1 rfl) s ⟨rfl, rfl⟩ Md.nil)
  | false => exact iteF (r.2 rfl (S.same s) _ fun b w H2 bs r2 s2 t2 _ => k b w H2 [] r2 (s.trans s2) ⟨t2.1, rfl⟩ Md.nil)
/-- a list's truth -/
theorem wt_truth {R : Bool → Prop} (h : WE .any env te fun xs : List α => R (!xs.isEmpty)) : WT env (fun σ H Q => te σ H fun x H' => ∃ k, TruV c.K x H' k ∧ Q k H') R := fun _ _ _ _ _ S Q k => h S _ fun xs v H1 as r s t _ => by
  obtain ⟨a, vs, as', rfl, ha, tr, rfl⟩ := t
  refine ⟨!vs.isEmpty, .inl ⟨vs, SqL.of ha, rfl⟩, k _ H1 ?_ s⟩
  have := tr.len
  cases vs <;> cases xs <;> simp_all

/-! lists -/
theorem Trees.at_ {H : Hp} {vs : List V} {xs : List α} {as : List Addr} {i : Int} {x : α} (h : Trees c H vs xs as) (e : atI xs i = some x) : ∃ v a1, atI vs i = some v ∧ tree c H v x a1 ∧ a1.Sublist as := by
  unfold atI at e ⊢
  rw [h.len]
  cases q : ixN xs.length i with
  | none => rw [q] at e; cases e
  | some j =>
    rw [q] at e
    exact h.get (i := j) e
theorem we_ix {R : α → Prop} (h : WE m env ta fun xs : List α => WE .any env tb fun i : Int => ∃ x, atI xs i = some x ∧ R x) : WE m env (tOp (rIxL c.K) ta tb) R :=
  fun _ _ _ _ _ S Q k => h S _ fun xs v H1 as ra s1 t1 o => ra (S.same s1) _ fun i u H2 bs rb s2 t2 _ => by
    obtain ⟨x, e, r⟩ := rb
    obtain ⟨a, vs, as', rfl, ha, tr, rfl⟩ := tree_same t1 s2
    obtain ⟨w, a1, e1, t3, sb⟩ := tr.at_ e
    exact ⟨a, vs, i, w, rfl, t2.1, SqL.of ha, e1, k x w H2 a1 r (s1.trans s2) t3 (Md.sub o (sb.trans (List.sublist_cons_self _ _)))⟩
/-- the script's items -/
theorem we_ixSc {R : Int → Prop} (h : WE .any env ta fun xs : Sc => WE .any env tb fun i : Int => ∃ x, atI xs.ns i = some x ∧ R x) : WE m env (tOp (rIxL c.K) ta tb) R :=
  fun _ _ _ _ _ S Q k => h S _ fun xs v H1 as ra s1 t1 o => ra (S.same s1) _ fun i u H2 bs rb s2 t2 _ => by
    obtain ⟨x, e, r⟩ := rb
    obtain ⟨a, rfl, hs, rfl⟩ := tree_same t1 s2
    exact ⟨a, _, i, .int x, rfl, t2.1, hs.sq, atI_map V.int e, k x _ H2 [] r (s1.trans s2) ⟨rfl, rfl⟩ Md.nil⟩
theorem we_fst {R : α → Prop} (h : WE m env ta fun x : α × β => R x.1) : WE m env (tOp (rIxT c.K) ta (tC (.int 0))) R := fun _ _ _ _ _ S Q k => h S _ fun x v H1 as ra s1 t1 o => by
  obtain ⟨p, v1, v2, a1, a2, rfl, hp, t1, t2, rfl⟩ := t1
  exact ⟨p, _, 0, v1, rfl, rfl, SqT.of hp, rfl, k _ _ _ a1 ra s1 t1 (Md.sub o (List.sublist_append_left _ _))⟩
theorem we_snd {R : β → Prop} (h : WE m env ta fun x : α × β => R x.2) : WE m env (tOp (rIxT c.K) ta (tC (.int 1))) R := fun _ _ _ _ _ S Q k => h S _ fun x v H1 as ra s1 t1 o => by
  obtain ⟨p, v1, v2, a1, a2, rfl, hp, t1, t2, rfl⟩ := t1
  exact ⟨p, _, 1, v2, rfl, rfl, SqT.of hp, rfl, k _ _ _ a2 ra s1 t2 (Md.sub o (List.sublist_append_right _ _))⟩
theorem we_len {R : Int → Prop} (h : WE .any env ta fun xs : List α => R (xs.length : Nat)) : WE m env (tCB (rLen c.K) (tCons ta tNil)) R := fun _ _ _ _ _ S Q k => h S _ fun xs v H1 as ra s1 t1 _ => by
  obtain ⟨a, vs, as', rfl, ha, tr, rfl⟩ := t1
  refine ⟨a, vs, rfl, .inl (SqL.of ha), k _ _ _ [] ra s1 ⟨?_, rfl⟩ Md.nil⟩
  rw [tr.len]
theorem we_lenSc {R : Int → Prop} (h : WE .any env ta fun xs : Sc => R (xs.ns.length : Nat)) : WE m env (tCB (rLen c.K) (tCons ta tNil)) R := fun _ _ _ _ _ S Q k => h S _ fun xs v H1 as ra s1 t1 _ => by
  obtain ⟨a, rfl, hs, rfl⟩ := t1
  refine ⟨a, _, rfl, .inl hs.sq, k _ _ _ [] ra s1 ⟨?_, rfl⟩ Md.nil⟩
  rw [List.length_map]
/-- a new list -/
theorem fresh_list {H0 H H1 : Hp} {F0 : List Addr} {Fs : Nat → List Addr} {σ : St} {Q : VK} {R : List α → Prop} (S : Sta H0 F0 env Fs σ H) (k : ∀ x v H' as, R x → Same H H' → tree c H' v x as → m.ok H Fs as → Q v H') (s : Same H H1)
    {p : Addr} (hp : H1 p = none) {vs : List V} {xs : List α} (t : Trees c H1 vs xs []) (r : R xs) : Q (.ref p) (upd H1 p (.lst vs)) := by
  have sp : Same H1 (upd H1 p (.lst vs)) := Same.new hp
  refine k xs _ _ [p] r (s.trans sp) ⟨p, vs, [], rfl, upd_same, t.same sp, rfl⟩ (Md.fresh S (nodup_one _) fun a ha => ?_)
  have : a = p := by simpa using ha
  subst this
  exact s.free hp
theorem we_list [Flat c α] {R : List α → Prop} (h : WE .any env ta R) : WE m env (tCB (rListOf c.K) (tCons ta tNil)) R := fun _ _ _ _ _ S Q k => h S _ fun xs v H1 as ra s1 t1 _ => by
  obtain ⟨a, vs, as', rfl, ha, tr, rfl⟩ := t1
  have := tr.flat; subst this
  exact ⟨a, vs, rfl, .inl (SqL.of ha), fun l hl => fresh_list S k s1 hl tr ra⟩
theorem we_sorted {R : List Int → Prop} (h : WE .any env ta fun xs : List Int => xs.length < 64 ∧ ∀ ms : List Int, ms.Perm xs → ms.Pairwise (· ≤ ·) → R ms) : WE m env (tCB (rSorted c.K) (tCons ta tNil)) R := fun _ _ _ _ _ S Q k => h S _ fun xs v H1 as ra s1 t1 _ => by
  obtain ⟨a, vs, as', rfl, ha, tr, rfl⟩ := t1
  rw [tr.ints] at ha
  exact ⟨a, xs, rfl, SqL.of ha, ra.1, fun l ms hl p1 p2 => fresh_list S k s1 hl (trees_ints ms) (ra.2 ms p1 p2)⟩
theorem upTo_rng (n : Nat) : upToV n = (rng n).map V.int := by unfold upToV rng; rw [List.map_map]; rfl
theorem we_listRange {R : List Int → Prop} (h : WE .any env ta fun n : Int => (0 ≤ n ∧ n ≤ 100000) ∧ R (rng n.toNat)) :
    WE m env (tCB (fun xs H Q => ∃ (p : Addr) (j : Int), xs = [.ref p] ∧ H p = some (.rng 0 j) ∧ 0 ≤ j ∧ j ≤ 100000 ∧ ∀ l, H l = none → Q (.ref l) (upd H l (.lst (upToV j.toNat))))
      (tCons (tCB (fun xs H Q => ∃ j, xs = [.int j] ∧ ∀ p, H p = none → Q (.ref p) (upd H p (.rng 0 j))) (tCons ta tNil)) tNil)) R := fun _ _ _ _ _ S Q k => h S _ fun n v H1 as ra s1 t1 _ => by
  refine ⟨n, by rw [t1.1], fun p hp => ⟨p, n, rfl, upd_same, ra.1.1, ra.1.2, fun l hl => ?_⟩⟩
  rw [upTo_rng]
  exact fresh_list S k (s1.trans (Same.new hp)) hl (trees_ints _) ra.2
theorem we_cat [Flat c α] {R : List α → Prop} (h : WE .any env ta fun xs : List α => WE .any env tb fun ys : List α => xs.length + ys.length ≤ 1000 ∧ R (xs ++ ys)) : WE m env (tOp rCat ta tb) R :=
  fun _ _ _ _ _ S Q k => h S _ fun xs v H1 as ra s1 t1 _ => ra (S.same s1) _ fun ys u H2 bs rb s2 t2 _ => by
    obtain ⟨a, vs, as', rfl, ha, tr, rfl⟩ := tree_same t1 s2
    obtain ⟨b, ws, bs', rfl, hb, tr2, rfl⟩ := t2
    have := tr.flat; subst this
    have := tr2.flat; subst this
    refine ⟨a, b, vs, ws, rfl, rfl, ha, hb, ?_, fun p hp => fresh_list S k (s1.trans s2) hp (tr.append tr2) rb.2⟩
    rw [tr.len, tr2.len]
    exact Nat.le_of_lt (small1000 rb.1)
def cutL {α : Type} (xs : List α) (lo hi : Option Int) : List α := (xs.drop (HT.sIx xs.length 0 lo)).take (HT.sIx xs.length xs.length hi - HT.sIx xs.length 0 lo)
theorem wo_none {R : Option Int → Prop} (q : R none) : WO env tNoPart R := fun _ _ _ _ _ S Q k => k none _ q (Same.refl _)
theorem wo_some {R : Option Int → Prop} (h : WE .any env te fun n : Int => R (some n)) : WO env (tPart te) R := fun _ _ _ _ _ S Q k => h S _ fun x v H' as r s t _ => ⟨x, t.1, k _ _ r s⟩
theorem we_slice [Flat c α] {tl th : TO} {R : List α → Prop} (h : WE .any env ta fun xs : List α => WO env tl fun lo => WO env th fun hi => R (cutL xs lo hi)) : WE m env (tSl (rSlL c.K) ta tl th) R :=
  fun _ _ _ _ _ S Q k => h S _ fun xs v H1 as ra s1 t1 _ => ra (S.same s1) _ fun lo H2 rb s2 => rb (S.same (s1.trans s2)) _ fun hi H3 rd s3 => by
    obtain ⟨a, vs, as', rfl, ha, tr, rfl⟩ := tree_same t1 (s2.trans s3)
    refine ⟨a, vs, rfl, SqL.of ha, fun p hp => ?_⟩
    have e : Trees c H3 (cutV vs lo hi) (cutL xs lo hi) [] := by
      unfold cutV cutL
      rw [tr.len]
      exact (tr.drop _).take _
    exact fresh_list S k ((s1.trans s2).trans s3) hp e rd
theorem inV_int (n : Int) : ∀ xs : List Int, inV (.int n) (xs.map V.int) = decide (n ∈ xs)
  | [] => rfl
  | x :: xs => by
    have ih := inV_int n xs
    unfold inV at ih ⊢
    rw [List.map_cons, List.any_cons, ih]
    show ((x == n) || _) = _
    by_cases h : x = n
    · subst h; simp
    · have : (x == n) = false := beq_eq_false_iff_ne.mpr h
      simp [this, Ne.symm h]
theorem flat_ints : ∀ xs : List Int, (xs.map V.int).all flatV = true
  | [] => rfl
  | x :: xs => by rw [List.map_cons, List.all_cons, flat_ints xs]; rfl
theorem we_notin {R : Bool → Prop} (h : WE .any env ta fun n : Int => WE .any env tb fun xs : List Int => R (!decide (n ∈ xs))) : WE m env (tOp (rIn c.K true) ta tb) R :=
  fun _ _ _ _ _ S Q k => h S _ fun a v H1 as ra s1 t1 _ => ra (S.same s1) _ fun xs u H2 bs rb s2 t2 _ => by
    obtain ⟨p, vs, as', rfl, hp, tr, rfl⟩ := t2
    rw [t1.1]
    refine ⟨p, vs, rfl, .inl (SqL.of hp), rfl, by rw [tr.ints]; exact flat_ints _, ?_⟩
    rw [tr.ints]
    refine k _ _ _ [] rb (s1.trans s2) ⟨?_, rfl⟩ Md.nil
    rw [if_pos rfl, inV_int]
/-! displays -/
theorem we_tup {R : α × β → Prop} (h : WE m env ta fun a => WE m env tb fun b => R (a, b)) (hm : m.seq) : WE m env (tTup (tCons ta (tCons tb tNil))) R :=
  fun _ _ _ _ _ S Q k => h S _ fun a v H1 as ra s1 t1 o1 => ra (S.same s1) _ fun b u H2 bs rb s2 t2 o2 => by
    refine ⟨by show 2 ≤ sizeLine; decide, fun p hp => ?_⟩
    have sp : Same H2 (upd H2 p (.tup [v, u])) := Same.new hp
    exact k (a, b) _ _ (as ++ bs) rb ((s1.trans s2).trans sp) ⟨p, v, u, as, bs, rfl, upd_same, tree_same t1 (s2.trans sp), tree_same t2 sp, rfl⟩ (Md.two hm s1 o1 o2 fun d hd => tree_dom t1 hd)
theorem wl_nil {R : List α → Prop} (q : R []) : WL m env tNil R := fun _ _ _ _ _ S Q k => k [] [] _ [] q (Same.refl _) rfl Md.nil
theorem wl_cons {t : TA} {R : List α → Prop} (h : WE m env ta fun x => WL m env t fun xs => R (x :: xs)) (hm : m.seq) : WL m env (tCons ta t) R :=
  fun _ _ _ _ _ S Q k => h S _ fun a v H1 as ra s1 t1 o1 => ra (S.same s1) _ fun xs vs H2 bs rb s2 t2 o2 => k (a :: xs) _ _ (as ++ bs) rb (s1.trans s2) ⟨as, bs, tree_same t1 s2, t2, rfl⟩ (Md.two hm s1 o1 o2 fun d hd => tree_dom t1 hd)
theorem Md.cons {H H1 : Hp} {Fs : Nat → List Addr} {as : List Addr} {p : Addr} (hm : m.seq) (hd : ∀ a ∈ as, H1 a ≠ none) (s : Same H H1) (hp : H1 p = none) (hn : ∀ j, p ∉ Fs j) (h : m.ok H Fs as) : m.ok H Fs (p :: as) := by
  cases m with
  | any => trivial
  | sh =>
    intro a ha
    rcases List.mem_cons.mp ha with z | z
    · subst z; exact hn
    · exact h a z
  | mv T =>
    refine ⟨List.nodup_cons.mpr ⟨fun z => hd p z hp, h.1⟩, fun a ha => ?_⟩
    rcases List.mem_cons.mp ha with z | z
    · subst z; exact .inl (s.free hp)
    · exact h.2 a z
theorem we_lst {t : TA} {R : List α → Prop} (h : WL m env t fun xs => xs.length ≤ 1000 ∧ R xs) (hm : m.seq) : WE m env (tLst t) R := fun _ _ _ _ _ S Q k => h S _ fun xs vs H1 as ra s1 t1 o1 => by
  refine ⟨by rw [t1.len]; exact Nat.le_of_lt (small1000 ra.1), fun p hp => ?_⟩
  have sp : Same H1 (upd H1 p (.lst vs)) := Same.new hp
  exact k xs _ _ (p :: as) ra.2 (s1.trans sp) ⟨p, vs, as, rfl, upd_same, t1.same sp, rfl⟩ (Md.cons hm (fun a ha z => by obtain ⟨ys, e, _⟩ := t1.isl a ha; rw [z] at e; cases e) s1 hp (fun j => (S.same s1).new hp j) o1)
theorem we_nil {R : List α → Prop} (q : R []) : WE m env (tLst tNil) R := fun _ _ _ _ _ S Q k => ⟨Nat.zero_le _, fun p hp => fresh_list S k (Same.refl _) hp (xs := []) rfl q⟩
/-! a net's fields -/
theorem we_size {R : Int → Prop} (hc : Cls c.K c.C) (hn : NoAttr c.K c.C "size") (h : WE .any env ta fun N : NetD => R N.n) : WE m env (tFld c.K ta "size") R := fun _ _ _ _ _ S Q k => h S _ fun N v H1 as ra s1 t1 o => by
  obtain ⟨p, r, rfl, N, rfl⟩ := t1
  obtain ⟨dx, hp⟩ := N.ob
  exact ⟨p, _, dx, _, _, rfl, hp, hc, hn, flds_size _ _, k _ _ _ [] ra s1 ⟨rfl, rfl⟩ Md.nil⟩
theorem we_roads {R : List (Int × Int) → Prop} (hc : Cls c.K c.C) (hn : NoAttr c.K c.C "roads") (h : WE m env ta fun N : NetD => R N.rs) : WE m env (tFld c.K ta "roads") R := fun _ _ _ _ _ S Q k => h S _ fun N v H1 as ra s1 t1 o => by
  obtain ⟨p, r, rfl, N, rfl⟩ := t1
  obtain ⟨dx, hp⟩ := N.ob
  exact ⟨p, _, dx, _, _, rfl, hp, hc, hn, flds_roads _ _, k _ _ _ [r] ra s1 (tree_roads N.rd) o⟩
/-! calls -/
theorem wa_nil {R : List (Ent c) → Prop} (q : R []) : WA env tNil R := fun _ _ _ _ _ S Q k => k [] [] _ q (Same.refl _) trivial
theorem wa_cons {t : TA} {R : List (Ent c) → Prop} (h : WE .any env ta fun x : α => WA env t fun es => R (.sh x :: es)) : WA env (tCons ta t) R :=
  fun _ _ _ _ _ S Q k => h S _ fun a v H1 as ra s1 t1 _ => ra (S.same s1) _ fun es vs H2 rb s2 t2 => k (.sh a :: es) _ _ rb (s1.trans s2) ⟨⟨as, tree_same t1 s2⟩, t2⟩
/-- a def's promise over data: what it asks of the arguments and what comes; nothing is changed, what comes is new -/
def spF (c : Ct) {β : Type} [Rp c β] (pre : List (Ent c) → (β → Prop) → Prop) : Sp := fun vs H Q _ => ∃ es R, pre es R ∧ Args H vs es ∧ ∀ x v H' as, R x → Same H H' → tree c H' v x as → as.Nodup → (∀ a ∈ as, H a = none) → Q v H'
theorem we_call {pre : List (Ent c) → (β → Prop) → Prop} {E : XK} {t : TA} {R : β → Prop} (h : WA env t fun es => pre es R) : WE m env (tCall (spF c pre) [] E t) R := fun _ _ _ _ _ S Q k => h S _ fun es vs H1 r s a => by
  rw [List.append_nil]
  exact ⟨es, R, r, a, fun x v H' as rx s2 t nd n => k x v H' as rx (s.trans s2) t (Md.fresh S nd fun d hd => s.free (n d hd))⟩
theorem we_meth {pre : List (Ent c) → (β → Prop) → Prop} {E : XK} {t : TA} {f : Str} {R : β → Prop} (h1 : ¬ f = "roads") (h2 : ¬ f = "size") (h : WE .any env ta fun N : NetD => WA env t fun es => pre (.sh N :: es) R) : WE m env (tMeth c.C f (spF c pre) [] E ta t) R :=
  fun _ _ _ _ _ S Q k => h S _ fun N v H1 as ra s1 t1 _ => by
    obtain ⟨p, r, rfl, hN, rfl⟩ := id t1
    obtain ⟨dx, hp⟩ := hN.ob
    refine ⟨p, dx, _, rfl, hp, flds_no _ _ h1 h2, ra (S.same s1) _ fun es vs H2 r s a => ?_⟩
    rw [List.append_nil]
    exact ⟨_, R, r, ⟨⟨_, tree_same t1 s⟩, a⟩, fun x v H' as rx s2 t nd n => k x v H' as rx ((s1.trans s).trans s2) t (Md.fresh S nd fun d hd => (s1.trans s).free (n d hd))⟩
theorem we_net {E : XK} {R : NetD → Prop} (h : WE .any env ta fun n : Int => (1 ≤ n ∧ n ≤ 8) ∧ R ⟨n, []⟩) : WE m env (tMake c.C (sp_netinit c.C) [] E (tCons ta tNil)) R := fun _ _ _ _ _ S Q k => h S _ fun n v H1 as ra s1 t1 _ => by
  intro x dx nx ndx nex
  have s0 : Same H1 (upd (upd H1 dx (.own x)) x (.ins c.C dx [])) := fun b o e => by
    rw [upd_ne (ne_of_none e nx), upd_ne (ne_of_none e ndx)]
    exact e
  refine ⟨x, dx, n, by rw [t1.1]; rfl, upd_same, ra.1, fun r H2 hr0 N1 kp => ⟨rfl, ?_⟩⟩
  have s2 : Same H1 H2 := fun b o e => kp b o (s0 b o e) (ne_of_none e nx)
  refine k ⟨n, []⟩ _ H2 [r] ra.2 (s1.trans s2) ⟨x, r, rfl, N1, rfl⟩ (Md.fresh S (nodup_one _) fun a ha => ?_)
  have : a = r := by simpa using ha
  subst this
  exact s1.free (s0.free hr0)
end
end L2

set_option Elab.async false
set_option linter.all false
set_option maxRecDepth 100000
set_option maxHeartbeats 4000000
/-! Own rules, part 7: comprehensions, statements and loops over data. -/
namespace L2
open PySem PySem.Spec PyProof.Rows
section
variable {c : Ct}
/-! ### the block of a comprehension -/
def Ent.bor : Ent c → Ent c
  | .no => .no
  | @Ent.en _ _ α inst x => @Ent.en _ false α inst x
def capE (n : Nat) (caps : List Nat) (env : List (Ent c)) : List (Ent c) := List.replicate n .no ++ caps.map fun j => ((env[j]?).map Ent.bor).getD .no
theorem Sta.cap {H0 H : Hp} {F0 : List Addr} {env : List (Ent c)} {Fs : Nat → List Addr} {σ : St} (S : Sta H0 F0 env Fs σ H) (n : Nat) (caps : List Nat) : Sta H [] (capE n caps env) (fun _ => []) (capSt n caps σ) H := by
  refine ⟨by unfold capE capSt; simp, fun i u e h1 h2 => ?_, fun _ _ => rfl, fun _ => List.nodup_nil, fun _ _ _ a ha => absurd ha (by simp), fun _ a ha => absurd ha (by simp), Kp.refl _⟩
  unfold capE at h2
  unfold capSt at h1
  by_cases hi : i < n
  · rw [List.getElem?_append_left (by rw [List.length_replicate]; exact hi), List.getElem?_replicate, if_pos hi] at h2
    cases h2
    exact rfl
  · rw [List.getElem?_append_right (by rw [List.length_replicate]; omega), List.length_replicate, List.getElem?_map] at h1 h2
    cases hj : caps[i - n]? with
    | none => rw [hj] at h2; cases h2
    | some j =>
      rw [hj] at h1 h2
      have e1 : (σ[j]?).join = u := Option.some.inj h1
      have e2 : ((env[j]?).map Ent.bor).getD .no = e := Option.some.inj h2
      cases q : env[j]? with
      | none => rw [q] at e2; subst e2; exact rfl
      | some e' =>
        rw [q] at e2
        cases e' with
        | no => subst e2; exact rfl
        | en o x =>
          have e3 : Ent.en false x = e := e2
          subst e3
          obtain ⟨v, as, hv, t⟩ := S.var q
          rw [hv] at e1
          exact ⟨rfl, v, as, e1.symm, t, fun _ _ _ z => absurd z (by simp)⟩
theorem Sta.set' {α : Type} [Rp c α] {x : α} {v : V} {as : List Addr} {H0 H : Hp} {F0 : List Addr} {env : List (Ent c)} {Fs : Nat → List Addr} {σ : St} (S : Sta H0 F0 env Fs σ H) (i : Nat) (t : tree c H v x as) (d : ∀ a ∈ as, ∀ j, a ∉ Fs j) :
    ∃ Fs', Sta H0 F0 (env.set i (.sh x)) Fs' (σ.set i (some v)) H ∧ ∀ a j, a ∈ Fs' j → a ∈ Fs j := by
  by_cases hi : i < env.length
  · refine ⟨_, S.setS hi t fun a ha j _ => d a ha j, fun a j ha => ?_⟩
    by_cases hj : j = i
    · subst hj; rw [putF_same] at ha; simp at ha
    · rw [putF_ne hj] at ha; exact ha
  · refine ⟨Fs, ?_, fun _ _ z => z⟩
    rw [List.set_eq_of_length_le (by omega), List.set_eq_of_length_le (by rw [S.len]; omega)]
    exact S
/-- where the items come from: B i is the block's state at item i -/
def Src (n : Nat) (caps : List Nat) (g : TG) (σ : St) (H1 : Hp) (J : It) (N : Nat) (B : Nat → List (Ent c)) : Prop :=
  ∀ H2, Same H1 H2 → (∀ i, i < N → J.go i H2 ∧ ∀ x H', J.yld i H2 x H' → Same H2 H' ∧ ∃ σ2 Fs, Sta H' [] (B i) Fs σ2 H' ∧ ∀ P : St → Hp → Prop, P σ2 H' → g x (capSt n caps σ) H' P) ∧ J.stop N H2
theorem comp_src {β : Type} [Rp c β] {n : Nat} {caps : List Nat} {g : TG} {σ : St} {H1 : Hp} {J : It} {N : Nat} {B : Nat → List (Ent c)} {tc : TT} {te : TE} {D : Addr} (src : Src n caps g σ H1 J N B) (hD : H1 D = none) (hN : N ≤ 1000) (G : Nat → List β → Prop) (g0 : G 0 [])
    (gs : ∀ k ys, k < N → G k ys → WT (B k) tc fun b => (b = true → WE .fr (B k) te fun y => G (k + 1) (ys ++ [y])) ∧ (b = false → G (k + 1) ys)) {Rf : Hp → Prop}
    (fin : ∀ ys vs H' as, G N ys → Same H1 H' → H' D = some (.lst vs) → Trees c H' vs ys as → as.Nodup → (∀ a ∈ as, H1 a = none ∧ a ≠ D) → Rf H') :
    ∃ W : Nat → Nat → List V → Hp → Prop, (∃ m, W 0 m [] (upd H1 D (.lst []))) ∧ ∀ i m ys H, W i m ys H →
      (J.stop i H ∧ Rf H) ∨ (J.go i H ∧ ∃ N : List V → Hp → Prop, (∀ ys' H', N ys' H' → ∃ m', m' < m ∧ W (i + 1) m' ys' H') ∧ ∀ x H', J.yld i H x H' →
        g x (capSt n caps σ) H' fun σ2 H2 => tc σ2 H2 fun b H3 => if b = true then te σ2 H3 fun y H4 => H4 D = some (.lst ys) ∧ ys.length < sizeLine ∧ N (ys ++ [y]) (upd H4 D (.lst (ys ++ [y]))) else N ys H3) := by
  refine comp_by N (fun i vs H2 => ∃ ys as, G i ys ∧ i ≤ N ∧ ys.length ≤ i ∧ Same H1 H2 ∧ H2 D = some (.lst vs) ∧ Trees c H2 vs ys as ∧ as.Nodup ∧ ∀ a ∈ as, H1 a = none ∧ a ≠ D) ?_ ?_ ?_
  · exact ⟨[], [], g0, Nat.zero_le _, Nat.zero_le _, Same.new hD, upd_same, rfl, List.nodup_nil, fun a ha => absurd ha (by simp)⟩
  · rintro i vs H2 hi ⟨ys, as, hG, hiN, hl, s2, hD2, tr, nd, fa⟩
    obtain ⟨go, yl⟩ := (src H2 s2).1 i hi
    refine ⟨go, fun x H' y => ?_⟩
    obtain ⟨s3, σ2, Fs, S, hg⟩ := yl x H' y
    refine hg _ (gs i ys hi hG S _ fun b H3 r s4 => ?_)
    cases b with
    | false =>
      refine iteF ⟨ys, as, r.2 rfl, hi, by omega, (s2.trans s3).trans s4, s4 _ _ (s3 _ _ hD2), tr.same (s3.trans s4), nd, fa⟩
    | true =>
      refine iteT (r.1 rfl (S.same s4) _ fun y v H4 bs r2 s5 t5 o5 => ?_)
      have hD4 := s5 _ _ (s4 _ _ (s3 _ _ hD2))
      have n3 : ∀ a ∈ bs, H3 a = none := fun a ha => (o5.2 a ha).elim id fun ⟨j, z, _⟩ => absurd z (by simp)
      have sAll : Same H1 H4 := ((s2.trans s3).trans s4).trans s5
      have ne : ∀ a ∈ bs, a ≠ D := fun a ha e => by
        have := n3 a ha
        rw [e, s4 _ _ (s3 _ _ hD2)] at this
        cases this
      have kp : Kp [D] H4 (upd H4 D (.lst (vs ++ [v]))) := Kp.put hD4
      refine ⟨hD4, by rw [tr.len]; exact small1000 (by omega), ys ++ [y], as ++ bs, r2, hi, by rw [List.length_append]; simp; omega, sAll.put hD, upd_same, ?_, ?_, ?_⟩
      · refine Trees.snoc ((tr.same ((s3.trans s4).trans s5)).kp kp fun a ha => ?_) (tree_kp t5 kp fun a ha => ?_)
        · simpa using (fa a ha).2
        · simpa using ne a ha
      · refine List.nodup_append.mpr ⟨nd, o5.1, fun a ha b hb e => ?_⟩
        subst e
        obtain ⟨zs, hz, _⟩ := tr.isl a ha
        have := n3 a hb
        rw [s4 _ _ (s3 _ _ hz)] at this
        cases this
      · intro a ha
        rcases List.mem_append.mp ha with z | z
        · exact fa a z
        · exact ⟨((s2.trans s3).trans s4).free (n3 a z), ne a z⟩
  · rintro vs H2 ⟨ys, as, hG, _, hl, s2, hD2, tr, nd, fa⟩
    exact ⟨(src H2 s2).2, fin ys vs H2 as hG s2 hD2 tr nd fa⟩
section
variable {env : List (Ent c)} {m : Md} {ta te : TE} {tc : TT} {α β : Type} [Rp c α] [Rp c β] {caps : List Nat}
theorem comp_end {H0 H H1 : Hp} {F0 : List Addr} {Fs : Nat → List Addr} {σ : St} {Q : VK} {R : List β → Prop} (S : Sta H0 F0 env Fs σ H) (k : ∀ x v H' as, R x → Same H H' → tree c H' v x as → m.ok H Fs as → Q v H') (s1 : Same H H1) {D : Addr} (hD : H1 D = none) {G : List β → Prop} (hG : ∀ ys, G ys → R ys) :
    ∀ ys vs H' as, G ys → Same H1 H' → H' D = some (.lst vs) → Trees c H' vs ys as → as.Nodup → (∀ a ∈ as, H1 a = none ∧ a ≠ D) → Q (.ref D) H' := fun ys vs H' as g s hd tr nd fa => by
  refine k ys _ H' (D :: as) (hG ys g) (s1.trans s) ⟨D, vs, as, rfl, hd, tr, rfl⟩ (Md.fresh S (List.nodup_cons.mpr ⟨fun z => (fa D z).2 rfl, nd⟩) fun a ha => ?_)
  rcases List.mem_cons.mp ha with z | z
  · rw [z]; exact s1.free hD
  · exact s1.free (fa a z).1
theorem src_range {H0 H H1 : Hp} {F0 : List Addr} {Fs : Nat → List Addr} {σ : St} (S : Sta H0 F0 env Fs σ H) (s1 : Same H H1) (n : Nat) (caps : List Nat) (lo : Int) (N : Nat) : Src n caps (gName 0) σ H1 (Itr lo N) N (fun i => (capE n caps env).set 0 (.sh (lo + (i : Int)))) := by
  intro H2 s2
  refine ⟨fun i hi => ⟨hi, fun x H' y => ?_⟩, Nat.le_refl _⟩
  obtain ⟨rfl, rfl⟩ := y
  obtain ⟨Fs', q, _⟩ := (((S.same (s1.trans s2)).cap n caps)).set' (α := Int) (x := lo + (i : Int)) (v := V.int (lo + (i : Int))) (as := []) 0 (show tree c _ (V.int _) (_ : Int) [] from ⟨rfl, rfl⟩) (fun a ha => absurd ha (by simp))
  exact ⟨Same.refl _, _, _, q, fun P p => p⟩
/-- [e for k in range(n) if t] -/
theorem we_compR {R : List β → Prop} (h : WE .any env ta fun n : Int => (-(2 ^ 62) ≤ n ∧ n ≤ 1000) ∧ ∃ G : Nat → List β → Prop, G 0 [] ∧
      (∀ (k : Nat) ys, (k : Int) < n → G k ys → WT ((capE 1 caps env).set 0 (.sh (k : Int))) tc fun b => (b = true → WE .fr ((capE 1 caps env).set 0 (.sh (k : Int))) te fun y => G (k + 1) (ys ++ [y])) ∧ (b = false → G (k + 1) ys)) ∧ ∀ ys, G n.toNat ys → R ys) :
    WE m env (tComp 1 caps (iRng1 (tCons ta tNil)) (gName 0) tc te) R := fun _ _ _ _ _ S Q k => h S _ fun n v H1 as ra s1 t1 _ => by
  obtain ⟨⟨hn0, hn⟩, G, g0, gs, ge⟩ := ra
  refine ⟨n, by rw [t1.1], hn0, by omega, fun D hD => comp_src (src_range S s1 1 caps 0 n.toNat) hD (by omega) G g0 (fun i ys hi g => ?_) (comp_end S k s1 hD ge)⟩
  have e : (0 : Int) + (i : Int) = (i : Int) := Int.zero_add _
  rw [e]
  exact gs i ys (by omega) g
/-- [e for x in xs if t] -/
theorem we_compL {R : List β → Prop} (h : WE .any env ta fun xs : List α => xs.length ≤ 1000 ∧ ∃ G : Nat → List β → Prop, G 0 [] ∧
      (∀ (k : Nat) x ys, xs[k]? = some x → G k ys → WT ((capE 1 caps env).set 0 (.sh x)) tc fun b => (b = true → WE .fr ((capE 1 caps env).set 0 (.sh x)) te fun y => G (k + 1) (ys ++ [y])) ∧ (b = false → G (k + 1) ys)) ∧ ∀ ys, G xs.length ys → R ys) :
    WE m env (tComp 1 caps (iList c.K ta) (gName 0) tc te) R := fun _ _ _ _ _ S Q k => h S _ fun xs v H1 as ra s1 t1 _ => by
  obtain ⟨hn, G, g0, gs, ge⟩ := ra
  obtain ⟨a, vs, as', rfl, ha, tr, rfl⟩ := t1
  refine ⟨a, rfl, ⟨vs, SqL.of ha⟩, fun D hD => comp_src (J := Itl c.K a) (N := xs.length) (B := fun i => match xs[i]? with | some x => (capE 1 caps env).set 0 (.sh x) | none => []) (fun H2 s2 => ⟨fun i hi => ?_, ⟨vs, SqL.of (s2 _ _ ha), by rw [tr.len]; exact Nat.le_refl _⟩⟩) hD hn G g0 (fun i ys hi g => ?_) (comp_end S k s1 hD ge)⟩
  · have hx : xs[i]? = some xs[i] := by simp [hi]
    obtain ⟨w, b1, hw, t2, _⟩ := (tr.same s2).get hx
    have hq : SqL c.K H2 a vs := SqL.of (s2 _ _ ha)
    refine ⟨⟨vs, w, hq, hw⟩, fun x H' y => ?_⟩
    obtain ⟨rfl, y⟩ := y
    have ex : x = w := by
      have := y vs hq
      rw [hw] at this
      exact (Option.some.inj this).symm
    subst ex
    obtain ⟨Fs', q, _⟩ := ((S.same (s1.trans s2)).cap 1 caps).set' 0 t2 (fun _ _ _ z => absurd z (by simp))
    refine ⟨Same.refl _, _, Fs', ?_, fun P p => p⟩
    simp only [hx]
    exact q
  · have hx : xs[i]? = some xs[i] := by simp [hi]
    simp only [hx]
    exact gs i xs[i] ys hx g
/-- [e for k, x in enumerate(xs) if t] -/
theorem we_compE {R : List β → Prop} (h : WE .any env ta fun xs : List α => xs.length ≤ 1000 ∧ ∃ G : Nat → List β → Prop, G 0 [] ∧
      (∀ (k : Nat) x ys, xs[k]? = some x → G k ys → WT (((capE 2 caps env).set 0 (.sh (k : Int))).set 1 (.sh x)) tc fun b => (b = true → WE .fr (((capE 2 caps env).set 0 (.sh (k : Int))).set 1 (.sh x)) te fun y => G (k + 1) (ys ++ [y])) ∧ (b = false → G (k + 1) ys)) ∧ ∀ ys, G xs.length ys → R ys) :
    WE m env (tComp 2 caps (iEnum c.K (tCons ta tNil)) (gTup c.K 2 (gCons (gName 0) (gCons (gName 1) gNil))) tc te) R := fun _ _ _ _ _ S Q k => h S _ fun xs v H1 as ra s1 t1 _ => by
  obtain ⟨hn, G, g0, gs, ge⟩ := ra
  obtain ⟨a, vs, as', rfl, ha, tr, rfl⟩ := t1
  refine ⟨a, vs, rfl, SqL.of ha, fun D hD => comp_src (J := Ite c.K a) (N := xs.length) (B := fun i => match xs[i]? with | some x => ((capE 2 caps env).set 0 (.sh (i : Int))).set 1 (.sh x) | none => []) (fun H2 s2 => ⟨fun i hi => ?_, ⟨vs, SqL.of (s2 _ _ ha), by rw [tr.len]; exact Nat.le_refl _⟩⟩) hD hn G g0 (fun i ys hi g => ?_) (comp_end S k s1 hD ge)⟩
  · have hx : xs[i]? = some xs[i] := by simp [hi]
    obtain ⟨w, b1, hw, t2, _⟩ := (tr.same s2).get hx
    have hq : SqL c.K H2 a vs := SqL.of (s2 _ _ ha)
    refine ⟨⟨vs, w, hq, hw⟩, fun x H' y => ?_⟩
    obtain ⟨pp, z, y, hp, rfl, rfl⟩ := y
    have ex : z = w := by
      have := y vs hq
      rw [hw] at this
      exact (Option.some.inj this).symm
    subst ex
    have sp : Same H2 (upd H2 pp (.tup [V.int (i : Nat), z])) := Same.new hp
    obtain ⟨Fs', q, _⟩ := ((S.same ((s1.trans s2).trans sp)).cap 2 caps).set' (α := Int) (x := (i : Int)) (v := V.int (i : Nat)) (as := []) 0 (show tree c _ (V.int _) (_ : Int) [] from ⟨rfl, rfl⟩) (fun a ha => absurd ha (by simp))
    obtain ⟨Fs2, q2, _⟩ := q.set' (x := xs[i]) (v := z) 1 (tree_same t2 sp) (fun b hb j => by
      intro hz
      have := q.up j b hz
      rcases this with q' | q'
      · exact tree_dom (tree_same t2 sp) hb q'
      · simp at q')
    refine ⟨sp, _, Fs2, ?_, fun P p => ⟨pp, _, rfl, SqT.of upd_same, rfl, _, _, rfl, _, _, rfl, rfl, p⟩⟩
    simp only [hx]
    exact q2
  · have hx : xs[i]? = some xs[i] := by simp [hi]
    simp only [hx]
    exact gs i xs[i] ys hx g
end

/-! ### statements -/
structure Rs (c : Ct) (β : Type) where
  nx : List (Ent c) → Prop
  rt : β → Prop
  bk : List (Ent c) → Prop := fun _ => False
  ct : List (Ent c) → Prop := fun _ => False
structure Cts {β : Type} [Rp c β] (R : Rs c β) (H0 : Hp) (F0 : List Addr) (D : Ends) : Prop where
  nx : ∀ env Fs σ H, R.nx env → Sta H0 F0 env Fs σ H → D.nx σ H
  bk : ∀ env Fs σ H, R.bk env → Sta H0 F0 env Fs σ H → D.bk σ H
  ct : ∀ env Fs σ H, R.ct env → Sta H0 F0 env Fs σ H → D.ct σ H
  rt : ∀ x v H as, R.rt x → Kp F0 H0 H → tree c H v x as → as.Nodup → (∀ a ∈ as, H0 a = none ∨ a ∈ F0) → D.rt v H
def WS {β : Type} [Rp c β] (env : List (Ent c)) (t : TS) (R : Rs c β) : Prop :=
  ∀ ⦃H0 : Hp⦄ ⦃F0 : List Addr⦄ ⦃Fs : Nat → List Addr⦄ ⦃σ : St⦄ ⦃H : Hp⦄ ⦃D : Ends⦄, Sta H0 F0 env Fs σ H → Cts R H0 F0 D → t D σ H
section
variable {env : List (Ent c)} {m : Md} {ta tb te : TE} {tc : TT} {t u : TS} {α β γ : Type} [Rp c α] [Rp c β] [Rp c γ] {R : Rs c β}
theorem ws_mono {R' : Rs c β} (h : WS env t R) (h1 : ∀ e, R.nx e → R'.nx e) (h2 : ∀ x, R.rt x → R'.rt x) (h3 : ∀ e, R.bk e → R'.bk e) (h4 : ∀ e, R.ct e → R'.ct e) : WS env t R' := fun _ _ _ _ _ _ S C =>
  h S ⟨fun env Fs σ H r => C.nx env Fs σ H (h1 _ r), fun env Fs σ H r => C.bk env Fs σ H (h3 _ r), fun env Fs σ H r => C.ct env Fs σ H (h4 _ r), fun x v H as r => C.rt x v H as (h2 x r)⟩
theorem ws_seq (h : WS env t { R with nx := fun e => WS e u R }) : WS env (tSeq t u) R := fun _ _ _ _ _ _ S C =>
  h S ⟨fun env Fs σ H r S' => r S' C, C.bk, C.ct, C.rt⟩
theorem ws_next (h : R.nx env) : WS env tNext R := fun _ _ _ _ _ _ S C => C.nx env _ _ _ h S
/-- what comes may have been the names' own -/
theorem ws_ret {S' : List Nat} (h : WE (.mv S') env te R.rt) : WS env (tRet te) R := fun H0 F0 Fs σ H D S C => h S _ fun x v H' as r s t o =>
  C.rt x v H' as r (S.kp.same s) t o.1 fun a ha => by
    rcases o.2 a ha with z | ⟨j, _, z⟩
    · exact .inl (S.kp.free z)
    · exact S.up j a z
theorem ws_retF [Flat c β] (h : WE .any env te R.rt) : WS env (tRet te) R := ws_ret (S' := []) (we_flat h)
theorem ws_drop (h : WE .any env te fun _ : α => R.nx env) : WS env (tDrop te) R := fun _ _ _ _ _ _ S C => h S _ fun x v H' as r s t _ => C.nx env _ _ _ r (S.same s)
/-- x = e, shared -/
theorem ws_set {i : Nat} (h : WE .sh env te fun x : α => R.nx (env.set i (.sh x))) : WS env (tAsg te (gName i)) R := fun _ _ _ _ _ _ S C => h S _ fun x v H' as r s t o => by
  obtain ⟨Fs', S', _⟩ := (S.same s).set' i t o
  exact C.nx _ _ _ _ r S'
theorem ws_setF [Flat c α] {i : Nat} (h : WE .any env te fun x : α => R.nx (env.set i (.sh x))) : WS env (tAsg te (gName i)) R := ws_set (we_flat h)
/-- x = e, its own -/
theorem ws_setO {i : Nat} (h : WE .fr env te fun x : α => Nat.blt i env.length = true ∧ R.nx (env.set i (.ow x))) : WS env (tAsg te (gName i)) R := fun _ _ _ _ _ _ S C => h S _ fun x v H' as r s t o =>
  C.nx _ _ _ _ r.2 (S.setO s (by have := r.1; rwa [Nat.blt_eq] at this) t o.1 fun a ha => (o.2 a ha).elim id fun ⟨j, z, _⟩ => absurd z (by simp))
theorem ws_if (h : WT env tc fun b => (b = true → WS env t R) ∧ (b = false → WS env u R)) : WS env (tIfS tc t u) R := fun _ _ _ _ _ _ S C => h S _ fun b H' r s => by
  cases b with
  | true => exact iteT (r.1 rfl (S.same s) C)
  | false => exact iteF (r.2 rfl (S.same s) C)
/-- the ways meet -/
theorem ws_ifJ (J : List (Ent c) → Prop) (h : WT env tc fun b => (b = true → WS env t { R with nx := J }) ∧ (b = false → WS env u { R with nx := J })) (hJ : ∀ e, J e → R.nx e) : WS env (tIfS tc t u) R :=
  ws_mono (R := { R with nx := J }) (ws_if h) hJ (fun _ z => z) (fun _ z => z) (fun _ z => z)
theorem ws_share {i : Nat} {x : α} (hx : env[i]? = some (.en true x)) (h : WS (env.set i (.sh x)) t R) : WS env t R := fun _ _ _ _ _ _ S C => h (S.share hx) C
/-! ### loops -/
def allF (n : Nat) (Fs : Nat → List Addr) : List Addr := (List.range n).flatMap Fs
theorem mem_allF {n : Nat} {Fs : Nat → List Addr} {a : Addr} : a ∈ allF n Fs ↔ ∃ i, i < n ∧ a ∈ Fs i := by
  unfold allF
  rw [List.mem_flatMap]
  constructor
  · rintro ⟨i, h1, h2⟩; exact ⟨i, List.mem_range.mp h1, h2⟩
  · rintro ⟨i, h1, h2⟩; exact ⟨i, List.mem_range.mpr h1, h2⟩
theorem Sta.lt {H0 H : Hp} {F0 : List Addr} {Fs : Nat → List Addr} {σ : St} (S : Sta H0 F0 env Fs σ H) {i : Nat} {a : Addr} (h : a ∈ Fs i) : i < env.length := by
  by_cases hi : i < env.length
  · exact hi
  · rw [S.out i (by omega)] at h; simp at h
theorem Sta.rebase {H0 H : Hp} {F0 : List Addr} {Fs : Nat → List Addr} {σ : St} (S : Sta H0 F0 env Fs σ H) : Sta H (allF env.length Fs) env Fs σ H :=
  ⟨S.len, S.ok, S.out, S.nd, S.dj, fun i a ha => .inr (mem_allF.mpr ⟨i, S.lt ha, ha⟩), Kp.refl H⟩
theorem Sta.upW {H0 H : Hp} {F0 : List Addr} {Fs : Nat → List Addr} {σ : St} (S : Sta H0 F0 env Fs σ H) {a : Addr} (h : H a = none ∨ a ∈ allF env.length Fs) : H0 a = none ∨ a ∈ F0 := by
  rcases h with z | z
  · exact .inl (S.kp.free z)
  · obtain ⟨i, _, hi⟩ := mem_allF.mp z
    exact S.up i a hi
theorem Sta.unbase {H0 H H' : Hp} {F0 : List Addr} {env' : List (Ent c)} {Fs Fs' : Nat → List Addr} {σ σ' : St} (S : Sta H0 F0 env Fs σ H) (S' : Sta H (allF env.length Fs) env' Fs' σ' H') : Sta H0 F0 env' Fs' σ' H' :=
  ⟨S'.len, S'.ok, S'.out, S'.nd, S'.dj, fun i a ha => S.upW (S'.up i a ha), S.kp.trans S'.kp fun x hx => S.upW (.inr hx)⟩
/-- for k in range(n) -/
theorem ws_for1 {i : Nat} {tb : TS} (h : WE .any env ta fun n : Int => (-(2 ^ 62) ≤ n ∧ n < 2 ^ 62) ∧ ∃ J : Nat → List (Ent c) → Prop, J 0 env ∧
      (∀ (k : Nat) e, (k : Int) < n → J k e → WS (e.set i (.sh (k : Int))) tb { nx := J (k + 1), ct := J (k + 1), bk := R.nx, rt := R.rt }) ∧ ∀ e, J n.toNat e → R.nx e) :
    WS env (tFor (iRng1 (tCons ta tNil)) (gName i) tb) R := fun H0 F0 Fs σ H D S C => h S _ fun n v H1 as ra s1 t1 _ => by
  obtain ⟨⟨hn0, hn1⟩, J, j0, js, je⟩ := ra
  refine ⟨n, by rw [t1.1], hn0, hn1, for_range (fun k σ' H' => ∃ e Fs', J k e ∧ Sta H0 F0 e Fs' σ' H') ⟨env, Fs, j0, S.same s1⟩ ?_ ?_⟩
  · rintro k σ' H' hk ⟨e, Fs', hj, S'⟩
    obtain ⟨Fs2, S2, _⟩ := S'.set' (α := Int) (x := (k : Int)) (v := V.int (0 + (k : Int))) (as := []) i (show tree c _ (V.int _) (_ : Int) [] from ⟨by rw [Int.zero_add], rfl⟩) (fun a ha => absurd ha (by simp))
    exact js k e (by omega) hj S2 ⟨fun e2 F2 σ2 H2 r q => ⟨e2, F2, r, q⟩, C.nx, fun e2 F2 σ2 H2 r q => ⟨e2, F2, r, q⟩, C.rt⟩
  · rintro σ' H' ⟨e, Fs', hj, S'⟩
    exact C.nx e Fs' σ' H' (je e hj) S'
theorem ws_for2 {i : Nat} {tb' : TS} (h : WE .any env ta fun a : Int => WE .any env tb fun n : Int => (-(2 ^ 62) ≤ n ∧ n < 2 ^ 62 ∧ -(2 ^ 62) ≤ a ∧ a < 2 ^ 62) ∧ ∃ J : Nat → List (Ent c) → Prop, J 0 env ∧
      (∀ (k : Nat) e, a + (k : Int) < n → J k e → WS (e.set i (.sh (a + (k : Int)))) tb' { nx := J (k + 1), ct := J (k + 1), bk := R.nx, rt := R.rt }) ∧ ∀ e, J (n - a).toNat e → R.nx e) :
    WS env (tFor (iRng2 (tCons ta (tCons tb tNil))) (gName i) tb') R := fun H0 F0 Fs σ H D S C => h S _ fun a v H1 as ra s1 t1 _ => ra (S.same s1) _ fun n u H2 bs rb s2 t2 _ => by
  obtain ⟨⟨hn0, hn1, ha0, ha1⟩, J, j0, js, je⟩ := rb
  refine ⟨a, n, by rw [t1.1, t2.1], ⟨ha0, ha1, hn0, hn1⟩, for_range (fun k σ' H' => ∃ e Fs', J k e ∧ Sta H0 F0 e Fs' σ' H') ⟨env, Fs, j0, S.same (s1.trans s2)⟩ ?_ ?_⟩
  · rintro k σ' H' hk ⟨e, Fs', hj, S'⟩
    obtain ⟨Fs2, S2, _⟩ := S'.set' (α := Int) (x := a + (k : Int)) (v := V.int (a + (k : Int))) (as := []) i (show tree c _ (V.int _) (_ : Int) [] from ⟨rfl, rfl⟩) (fun a ha => absurd ha (by simp))
    exact js k e (by omega) hj S2 ⟨fun e2 F2 σ2 H2 r q => ⟨e2, F2, r, q⟩, C.nx, fun e2 F2 σ2 H2 r q => ⟨e2, F2, r, q⟩, C.rt⟩
  · rintro σ' H' ⟨e, Fs', hj, S'⟩
    exact C.nx e Fs' σ' H' (je e hj) S'
/-- while -/
theorem ws_while {tb : TS} (J : Nat → List (Ent c) → Prop) (h0 : ∃ k, J k env) (hs : ∀ k e, J k e → WT e tc fun b => (b = true → WS e tb { nx := fun e' => ∃ k', k' < k ∧ J k' e', ct := fun e' => ∃ k', k' < k ∧ J k' e', bk := R.nx, rt := R.rt }) ∧ (b = false → R.nx e)) :
    WS env (tWhile tc tb) R := fun H0 F0 Fs σ H D S C => by
  obtain ⟨k0, j0⟩ := h0
  refine ⟨fun k σ' H' => ∃ e Fs', J k e ∧ Sta H0 F0 e Fs' σ' H', ⟨k0, env, Fs, j0, S⟩, ?_⟩
  rintro k σ' H' ⟨e, Fs', hj, S'⟩
  refine hs k e hj S' _ fun b H1 r s => ?_
  cases b with
  | true => exact iteT ⟨fun σ2 H2 => ∃ k', k' < k ∧ ∃ e Fs', J k' e ∧ Sta H0 F0 e Fs' σ2 H2, fun σ2 H2 ⟨k', hk, q⟩ => ⟨k', hk, q⟩, r.1 rfl (S'.same s) ⟨fun e2 F2 σ2 H2 ⟨k', hk, r⟩ q => ⟨k', hk, e2, F2, r, q⟩, C.nx, fun e2 F2 σ2 H2 ⟨k', hk, r⟩ q => ⟨k', hk, e2, F2, r, q⟩, C.rt⟩⟩
  | false => exact iteF (C.nx e Fs' σ' H1 (r.2 rfl) (S'.same s))

/-! ### a name's own list is changed -/
theorem Kp.sub {F G : List Addr} {H H' : Hp} (k : Kp F H H') (h : ∀ a ∈ F, a ∈ G) : Kp G H H' := ⟨fun b o e q => k.keep b o e (q.imp id fun z y => z (h b y)), k.lst⟩
theorem set_get.{w} {α : Type w} {l : List α} {i : Nat} {x : α} (h : l[i]? = some x) : l.set i x = l := by
  apply List.ext_getElem?
  intro k
  by_cases hk : i = k
  · subst hk; rw [List.getElem?_set_self (List.getElem?_eq_some_iff.mp h).1, h]
  · rw [List.getElem?_set_ne hk]
theorem Sta.own {xs : List α} {H0 H : Hp} {F0 : List Addr} {Fs : Nat → List Addr} {σ : St} (S : Sta H0 F0 env Fs σ H) {i : Nat} (h : env[i]? = some (.ow xs)) : ∃ a vs as, σ[i]? = some (some (.ref a)) ∧ H a = some (.lst vs) ∧ Trees c H vs xs as ∧ Fs i = a :: as := by
  obtain ⟨u, h1, v, e, t⟩ := S.at_ h
  obtain ⟨a, vs, as, rfl, ha, tr, hF⟩ := t
  exact ⟨a, vs, as, by rw [h1, e], ha, tr, hF⟩
theorem smallB {n : Nat} (h : n ≤ 10000000) : n < sizeLine := Nat.lt_of_le_of_lt h (by decide)
/-- xs.append(e) -/
theorem ws_append {i : Nat} {xs : List α} (hx : env[i]? = some (.ow xs)) (h : WE .fr env te fun x : α => xs.length < 10000000 ∧ R.nx (env.set i (.ow (xs ++ [x])))) : WS env (tDrop (tBM c.K "list" rAppend (tVar i) (tCons te tNil))) R := fun H0 F0 Fs σ H D S C => by
  obtain ⟨a, vs, as, hσ, ha, tr, hF⟩ := S.own hx
  refine ⟨_, hσ, .inl ⟨rfl, _, SqL.of ha⟩, h S _ fun x v H' bs r s t o => ?_⟩
  have n : ∀ b ∈ bs, H b = none := fun b hb => (o.2 b hb).elim id fun ⟨j, z, _⟩ => absurd z (by simp)
  have nd := S.nd i
  rw [hF] at nd
  have nd' := List.nodup_cons.mp nd
  have ha' := s _ _ ha
  refine ⟨a, vs, v, rfl, rfl, ha', by rw [tr.len]; exact smallB (by omega), ?_⟩
  have hd : ∀ b ∈ as, H b ≠ none := fun b hb z => by obtain ⟨ys, e, _⟩ := tr.isl b hb; rw [z] at e; cases e
  have dj : ∀ b ∈ as ++ bs, b ∈ as ∨ H b = none := fun b hb => by
    rcases List.mem_append.mp hb with z | z
    · exact .inl z
    · exact .inr (n b z)
  have hna : ∀ b ∈ as ++ bs, b ≠ a := fun b hb e => by
    subst e
    rcases List.mem_append.mp hb with z | z
    · exact nd'.1 z
    · rw [n b z] at ha; cases ha
  have hi : i < env.length := (List.getElem?_eq_some_iff.mp hx).1
  have kp : Kp [a] H' (upd H' a (.lst (vs ++ [v]))) := Kp.put ha'
  have kp2 : Kp (Fs i) H (upd H' a (.lst (vs ++ [v]))) := by
    rw [hF]
    exact Kp.trans (Kp.of_same s) kp fun b hb => .inr (List.mem_cons.mpr (.inl (by simpa using hb)))
  have q := S.put (as := a :: (as ++ bs)) (v := some (.ref a)) (e := .ow (xs ++ [x])) kp2 hi
    ⟨_, rfl, by rw [putF_same]; exact ⟨a, _, as ++ bs, rfl, upd_same, Trees.kp ((tr.same s).snoc t) kp fun b hb => by simpa using hna b hb, rfl⟩⟩
    (List.nodup_cons.mpr ⟨fun z => hna a z rfl, List.nodup_append.mpr ⟨nd'.2, o.1, fun b hb b2 hb2 e => by subst e; exact hd b hb (n b hb2)⟩⟩) (fun b hb => by
      rw [hF]
      rcases List.mem_cons.mp hb with z | z
      · rw [z]; exact .inl List.mem_cons_self
      · exact (dj b z).imp (fun y => List.mem_cons_of_mem _ y) id)
  rw [set_get hσ] at q
  exact C.nx _ _ _ _ r.2 q
/-- net.lay(a, b) -/
theorem ws_lay {i : Nat} {E : XK} {N : NetD} (hx : env[i]? = some (.ow N)) (h : WE .any env ta fun a : Int => WE .any env tb fun b : Int => ((0 ≤ a ∧ a < N.n) ∧ (0 ≤ b ∧ b < N.n) ∧ N.rs.length < 24) ∧ R.nx (env.set i (.ow (⟨N.n, N.rs ++ [(a, b)]⟩ : NetD)))) :
    WS env (tDrop (tMeth c.C "lay" (sp_lay c.C) [] E (tVar i) (tCons ta (tCons tb tNil)))) R := fun H0 F0 Fs σ H D S C => by
  obtain ⟨u, h1, v, e, t⟩ := S.at_ hx
  obtain ⟨p, r, rfl, hN, hF⟩ := t
  obtain ⟨dx, hp⟩ := hN.ob
  refine ⟨_, by rw [h1, e], p, dx, _, rfl, hp, flds_no _ _ (by decide +kernel) (by decide +kernel), h S _ fun a va H1 as ra s1 t1 _ => ra (S.same s1) _ fun b vb H2 bs rb s2 t2 _ => ?_⟩
  have s := s1.trans s2
  refine ⟨p, r, N.n, a, b, N.rs, by rw [t1.1, t2.1]; rfl, hN.same s, rb.1.1, rb.1.2.1, rb.1.2.2, fun q H3 hq N3 kp => ?_⟩
  have hi : i < env.length := (List.getElem?_eq_some_iff.mp hx).1
  obtain ⟨ps, hr, _⟩ := hN.rd
  obtain ⟨ps3, hr3, _⟩ := N3.rd
  have k3 : Kp (Fs i) H H3 := by
    rw [hF]
    refine ⟨fun b o e q => ?_, fun b o e hm => ?_⟩
    · refine kp b o (s b o e) fun z => ?_
      subst z
      rw [hr] at e; cases e
      rcases q with q | q
      · cases q
      · exact q (by simp)
    · by_cases hb : b = r
      · subst hb; exact ⟨_, hr3, rfl⟩
      · exact ⟨o, kp b _ (s b _ e) hb, hm⟩
  have q2 := S.put (as := [r]) (v := some (.ref p)) (e := .ow (⟨N.n, N.rs ++ [(a, b)]⟩ : NetD)) k3 hi ⟨_, rfl, by rw [putF_same]; exact ⟨p, r, rfl, N3, rfl⟩⟩ (nodup_one _) (fun b hb => .inl (by rw [hF]; exact hb))
  rw [set_get (l := σ) (i := i) (x := some (.ref p)) (by rw [h1, e])] at q2
  exact C.nx _ _ _ _ rb.2 q2
end

/-! ### a def -/
theorem args_start {N : List Str} {H : Hp} {vs : List V} {es : List (Ent c)} (h : Args H vs es) : Sta H [] (es.map Ent.bor ++ List.replicate (N.length - vs.length) .no) (fun _ => []) (start N vs) H := by
  have hl : ∀ {vs : List V} {es : List (Ent c)}, Args H vs es → vs.length = es.length := by
    intro vs
    induction vs with
    | nil => intro es h; cases es with | nil => rfl | cons e es => exact (h : False).elim
    | cons v vs ih => intro es h; cases es with
      | nil => exact (h : False).elim
      | cons e es => cases e with
        | no => exact (h : False).elim
        | en o x => rw [List.length_cons, List.length_cons, ih h.2]
  have get : ∀ {vs : List V} {es : List (Ent c)} (i : Nat) (e : Ent c), Args H vs es → es[i]? = some e → ∃ v, vs[i]? = some v ∧ EntOk H (fun _ => []) i (some v) e.bor := by
    intro vs
    induction vs with
    | nil => intro es i e h he; cases es with | nil => simp at he | cons e es => exact (h : False).elim
    | cons v vs ih => intro es i e h he; cases es with
      | nil => exact (h : False).elim
      | cons e' es => cases e' with
        | no => exact (h : False).elim
        | en o x =>
          cases i with
          | zero =>
            simp at he; subst he
            obtain ⟨⟨as, t⟩, _⟩ := h
            exact ⟨v, rfl, rfl, v, as, rfl, t, fun _ _ _ z => absurd z (by simp)⟩
          | succ i =>
            obtain ⟨w, h1, h2⟩ := ih i e h.2 (by simpa using he)
            refine ⟨w, by simpa using h1, ?_⟩
            cases e with
            | no => exact h2
            | en o x => exact h2
  refine ⟨by unfold start; simp [hl h], fun i u e h1 h2 => ?_, fun _ _ => rfl, fun _ => List.nodup_nil, fun _ _ _ a ha => absurd ha (by simp), fun _ a ha => absurd ha (by simp), Kp.refl _⟩
  unfold start at h1
  by_cases hi : i < es.length
  · rw [List.getElem?_append_left (by rw [List.length_map]; exact hi), List.getElem?_map] at h2
    rw [List.getElem?_append_left (by rw [List.length_map, hl h]; exact hi), List.getElem?_map] at h1
    cases q : es[i]? with
    | none => rw [q] at h2; cases h2
    | some e' =>
      rw [q] at h2
      obtain ⟨v, h3, h4⟩ := get i e' h q
      rw [h3] at h1
      cases h1; cases h2
      exact h4
  · rw [List.getElem?_append_right (by rw [List.length_map]; omega), List.getElem?_replicate] at h2
    split at h2
    · cases h2; exact rfl
    · cases h2
/-- a def that keeps a promise over data -/
theorem fn_data {β : Type} [Rp c β] {pre : List (Ent c) → (β → Prop) → Prop} {N : List Str} {t : TS} {vs : List V} {H : Hp} {Q : VK} {E : XK} (h : spF c pre vs H Q E)
    (hb : ∀ es R, pre es R → WS (es.map Ent.bor ++ List.replicate (N.length - es.length) .no) t ({ nx := fun _ => False, rt := R } : Rs c β)) : t { nx := fun _ H' => Q .non H', rt := Q } (start N vs) H := by
  obtain ⟨es, R, hp, ha, k⟩ := h
  have hl : es.length = vs.length := by have := (args_start (N := vs.map fun _ => "") ha).len; simp [start] at this; omega
  have st := args_start (N := N) ha
  rw [← hl] at st
  refine hb es R hp st ⟨fun _ _ _ _ z => z.elim, fun _ _ _ _ z => z.elim, fun _ _ _ _ z => z.elim, fun x v H' as r kp t nd up => k x v H' as r kp.to_same t nd fun a ha => ?_⟩
  rcases up a ha with z | z
  · exact z
  · simp at z
theorem spF_len {β : Type} [Rp c β] {pre : List (Ent c) → (β → Prop) → Prop} {vs : List V} {H : Hp} {Q : VK} {E : XK} (h : spF c pre vs H Q E) {n : Nat} (hp : ∀ es R, pre es R → es.length = n) : vs.length = n := by
  obtain ⟨es, R, p, ha, _⟩ := h
  have := (args_start (N := vs.map fun _ => "") ha).len
  simp [start] at this
  rw [← hp es R p]; omega
end
end L2

set_option Elab.async false
set_option linter.all false
set_option maxRecDepth 100000
set_option maxHeartbeats 4000000
/-! Own rules, part 8: == of data, isinstance, lists within lists, lists taken over. -/
namespace L2
open PySem PySem.Spec PyProof.Rows
section
variable {c : Ct}
/-! ### == of data -/
class EqD (c : Ct) (α : Type) [Rp c α] [DecidableEq α] where
  den : α → PyData
  dep : Nat
  of : ∀ {H : Hp} {v : V} {x : α} {as : List Addr}, tree c H v x as → Den c.K H v (den x)
  lay : ∀ x, PyData.canLay0 (den x) = true
  dp : ∀ x, PyData.depth (den x) ≤ dep
  eqv : ∀ x y, PyData.eqv (den x) (den y) = decide (x = y)
instance : EqD c Int where
  den := .int
  dep := 0
  of := fun h => by rw [h.1]; exact .int _
  lay := fun _ => rfl
  dp := fun _ => Nat.le_refl _
  eqv := fun x y => by
    show (x == y) = _
    by_cases h : x = y <;> simp [h]
instance : EqD c Bool where
  den := .bool
  dep := 0
  of := fun h => by rw [h.1]; exact .bl _
  lay := fun _ => rfl
  dp := fun _ => Nat.le_refl _
  eqv := fun x y => by
    show (x == y) = _
    by_cases h : x = y <;> simp [h]
instance {α β : Type} [Rp c α] [Rp c β] [DecidableEq α] [DecidableEq β] [EqD c α] [EqD c β] : EqD c (α × β) where
  den := fun x => .tuple [EqD.den c x.1, EqD.den c x.2]
  dep := max (EqD.dep c α) (EqD.dep c β) + 1
  of := fun h => by
    obtain ⟨p, v1, v2, a1, a2, rfl, hp, t1, t2, _⟩ := h
    exact .tup (SqT.of hp) (.cons (EqD.of t1) (.cons (EqD.of t2) .nil))
  lay := fun x => by rw [PyData.canLay0, PyData.canLayAll0, PyData.canLayAll0, EqD.lay, EqD.lay]; rfl
  dp := fun x => by
    have h1 := EqD.dp (c := c) x.1
    have h2 := EqD.dp (c := c) x.2
    rw [PyData.depth, PyData.depthAll, PyData.depthAll, PyData.depthAll]
    omega
  eqv := fun x y => by
    rw [PyData.eqv, PyData.eqvAll, PyData.eqvAll, EqD.eqv, EqD.eqv]
    obtain ⟨a, b⟩ := x
    obtain ⟨a', b'⟩ := y
    by_cases h : a = a' <;> by_cases h2 : b = b' <;> simp [h, h2, PyData.eqvAll]
theorem dens_trees {α : Type} [Rp c α] [DecidableEq α] [EqD c α] {H : Hp} : ∀ {vs : List V} {xs : List α} {as : List Addr}, Trees c H vs xs as → Dens c.K H vs (xs.map (EqD.den c))
  | [], [], _, _ => .nil
  | _ :: _, _ :: _, _, ⟨_, _, t, r, _⟩ => .cons (EqD.of t) (dens_trees r)
instance {α : Type} [Rp c α] [DecidableEq α] [EqD c α] : EqD c (List α) where
  den := fun xs => .list (xs.map (EqD.den c))
  dep := EqD.dep c α + 1
  of := fun h => by
    obtain ⟨a, vs, as', rfl, ha, tr, _⟩ := h
    exact .lst (SqL.of ha) (dens_trees tr)
  lay := fun xs => by
    rw [PyData.canLay0]
    induction xs with
    | nil => rfl
    | cons x xs ih => rw [List.map_cons, PyData.canLayAll0, EqD.lay, ih]; rfl
  dp := fun xs => by
    rw [PyData.depth]
    refine Nat.succ_le_succ ?_
    induction xs with
    | nil => exact Nat.zero_le _
    | cons x xs ih =>
      have h1 := EqD.dp (c := c) x
      rw [List.map_cons, PyData.depthAll]
      omega
  eqv := fun xs ys => by
    rw [PyData.eqv]
    induction xs generalizing ys with
    | nil => cases ys <;> simp [PyData.eqvAll]
    | cons x xs ih =>
      cases ys with
      | nil => simp [PyData.eqvAll]
      | cons y ys =>
        rw [List.map_cons, List.map_cons, PyData.eqvAll, EqD.eqv, ih]
        by_cases h : x = y <;> by_cases h2 : xs = ys <;> simp [h, h2]
section
variable {env : List (Ent c)} {m : Md} {ta tb te : TE} {tc : TT} {t u : TS} {α β γ : Type} [Rp c α] [Rp c β] [Rp c γ] {R' : Rs c β}
theorem shaped_D [DecidableEq α] [EqD c α] (h : EqD.dep c α ≤ 64) (x : α) : PySem.SeqAt.shaped (EqD.den c x) = true := by
  unfold PySem.SeqAt.shaped
  rw [EqD.lay, Bool.true_and]
  exact decide_eq_true (Nat.le_trans (EqD.dp x) h)
theorem we_eqD [DecidableEq α] [EqD c α] {R : Bool → Prop} (h : WE .any env ta fun a : α => WE .any env tb fun b : α => R (decide (a = b))) (hd : Nat.ble (EqD.dep c α) 64 = true := by rfl) : WE m env (tOp (rEqD c.K) ta tb) R :=
  fun _ _ _ _ _ S Q k => h S _ fun a v H1 as ra s1 t1 _ => ra (S.same s1) _ fun b u H2 bs rb s2 t2 _ => by
    refine ⟨_, _, EqD.of (tree_same t1 s2), EqD.of t2, shaped_D (Nat.le_of_ble_eq_true hd) _, shaped_D (Nat.le_of_ble_eq_true hd) _, ?_⟩
    rw [EqD.eqv]
    exact k _ _ _ [] rb (s1.trans s2) ⟨rfl, rfl⟩ Md.nil
theorem we_neD [DecidableEq α] [EqD c α] {R : Bool → Prop} (h : WE .any env ta fun a : α => WE .any env tb fun b : α => R (!decide (a = b))) (hd : Nat.ble (EqD.dep c α) 64 = true := by rfl) : WE m env (tOp (rNeD c.K) ta tb) R :=
  fun _ _ _ _ _ S Q k => h S _ fun a v H1 as ra s1 t1 _ => ra (S.same s1) _ fun b u H2 bs rb s2 t2 _ => by
    refine ⟨_, _, EqD.of (tree_same t1 s2), EqD.of t2, shaped_D (Nat.le_of_ble_eq_true hd) _, shaped_D (Nat.le_of_ble_eq_true hd) _, ?_⟩
    rw [EqD.eqv]
    exact k _ _ _ [] rb (s1.trans s2) ⟨rfl, rfl⟩ Md.nil
/-! ### isinstance -/
class TyN (c : Ct) (α : Type) [Rp c α] where
  name : String
  of : ∀ {H : Hp} {v : V} {x : α} {as : List Addr}, tree c H v x as → TyOf c.K H v (.type name)
instance : TyN c Int := ⟨"int", fun h => by rw [h.1]; exact .int _⟩
instance : TyN c Bool := ⟨"bool", fun h => by rw [h.1]; exact .bl _⟩
instance : TyN c Str := ⟨"str", fun h => by rw [h.1]; exact .str _⟩
instance {α : Type} [Rp c α] : TyN c (List α) := ⟨"list", fun h => by
  obtain ⟨a, vs, as', rfl, ha, _⟩ := h
  exact .lst ha⟩
instance {α β : Type} [Rp c α] [Rp c β] : TyN c (α × β) := ⟨"tuple", fun h => by
  obtain ⟨p, v1, v2, a1, a2, rfl, hp, _⟩ := h
  exact .tup hp⟩
/-! ### [x for x in xs if t]: the items are taken over -/
/-! ### lists within a name's own list -/
/-- one of the lists within is now other, at its place -/
theorem Trees.inner [Flat c α] {H : Hp} {ys : List α} {ws : List V} : ∀ {j : Nat} {vs : List V} {xss : List (List α)} {as : List Addr} {xs : List α}, Trees c H vs xss as → as.Nodup → xss[j]? = some xs →
    ∃ b us, vs[j]? = some (.ref b) ∧ H b = some (.lst us) ∧ Trees c H us xs [] ∧ b ∈ as ∧ (Trees c H ws ys [] → Trees c (upd H b (.lst ws)) vs (xss.set j ys) as)
  | _, [], [], _, _, _, _, e => by simp at e
  | 0, v :: vs, x :: xss, as, xs, ⟨a1, a2, t, r, h⟩, nd, e => by
    simp at e; subst e
    obtain ⟨b, us, as', rfl, hb, tr, rfl⟩ := t
    have := tr.flat; subst this
    subst h
    have nd' := List.nodup_append.mp nd
    have kp : Kp [b] H (upd H b (.lst ws)) := Kp.put hb
    refine ⟨b, us, rfl, hb, tr, by simp, fun tw => ⟨[b], a2, ⟨b, ws, [], rfl, upd_same, tw.kp kp (fun z hz => absurd hz (by simp)), rfl⟩, r.kp kp fun z hz => ?_, rfl⟩⟩
    have := nd'.2.2 b (by simp) z hz
    simpa using this.symm
  | j + 1, v :: vs, x :: xss, as, xs, ⟨a1, a2, t, r, h⟩, nd, e => by
    subst h
    have nd' := List.nodup_append.mp nd
    obtain ⟨b, us, h1, h2, h3, h4, h5⟩ := Trees.inner (j := j) r nd'.2.1 (by simpa using e)
    refine ⟨b, us, by simpa using h1, h2, h3, List.mem_append_right _ h4, fun tw => ⟨a1, a2, tree_kp t (Kp.put h2) fun z hz => ?_, h5 tw, rfl⟩⟩
    have := nd'.2.2 z hz b h4
    simpa using this
/-- the state, one of the lists within changed -/
theorem Sta.inner [Flat c α] {H0 H : Hp} {F0 : List Addr} {Fs : Nat → List Addr} {σ : St} (S : Sta H0 F0 env Fs σ H) {i : Nat} {xss : List (List α)} (hx : env[i]? = some (.ow xss)) {j : Nat} {xs : List α} (hj : xss[j]? = some xs) :
    ∃ a vs b us, σ[i]? = some (some (.ref a)) ∧ H a = some (.lst vs) ∧ vs.length = xss.length ∧ vs[j]? = some (.ref b) ∧ H b = some (.lst us) ∧ Trees c H us xs [] ∧
      ∀ {ys : List α} {ws : List V}, Trees c H ws ys [] → Sta H0 F0 (env.set i (.ow (xss.set j ys))) Fs σ (upd H b (.lst ws)) := by
  obtain ⟨a, vs, as, hσ, ha, tr, hF⟩ := S.own hx
  have nd := S.nd i
  rw [hF] at nd
  have nd' := List.nodup_cons.mp nd
  obtain ⟨b, us, h1, h2, h3, h4, _⟩ := tr.inner (ys := []) (ws := []) nd'.2 hj
  refine ⟨a, vs, b, us, hσ, ha, tr.len, h1, h2, h3, fun {ys ws} tw => ?_⟩
  obtain ⟨b', us', h1', _, _, _, h5⟩ := tr.inner (ys := ys) (ws := ws) nd'.2 hj
  rw [h1] at h1'
  cases h1'
  have hi : i < env.length := (List.getElem?_eq_some_iff.mp hx).1
  have kp : Kp [b] H (upd H b (.lst ws)) := Kp.put h2
  have hab : a ≠ b := fun e => by subst e; exact nd'.1 h4
  have q := S.put (as := Fs i) (v := some (.ref a)) (e := .ow (xss.set j ys)) (kp.sub fun z hz => by rw [hF]; exact List.mem_cons_of_mem _ ((show z = b by simpa using hz) ▸ h4)) hi
    ⟨_, rfl, by rw [putF_same, hF]; exact ⟨a, vs, as, rfl, by rw [upd_ne hab]; exact ha, h5 tw, rfl⟩⟩ (S.nd i) (fun z hz => .inl hz)
  rw [set_get hσ] at q
  have e : putF' Fs i (Fs i) = Fs := by
    funext k
    by_cases hk : k = i
    · subst hk; exact putF_same
    · exact putF_ne hk
  rwa [e] at q
theorem atI_of {α : Type} {xs : List α} {i : Int} {j : Nat} {x : α} (h : ixN xs.length i = some j) (e : xs[j]? = some x) : atI xs i = some x := by
  unfold atI
  rw [h]
  exact e
/-- xss[k].append(e) -/
theorem ws_appendI [Flat c α] {i : Nat} {xss : List (List α)} (hx : env[i]? = some (.ow xss)) (h : WE .any env ta fun k : Int => ∃ j xs, ixN xss.length k = some j ∧ xss[j]? = some xs ∧ WE .any env te fun x : α => xs.length < 1000 ∧ R'.nx (env.set i (.ow (xss.set j (xs ++ [x]))))) :
    WS env (tDrop (tBM c.K "list" rAppend (tOp (rIxL c.K) (tVar i) ta) (tCons te tNil))) R' := fun H0 F0 Fs σ H D S C => by
  obtain ⟨a, vs, as, hσ, ha, tr, hF⟩ := S.own hx
  refine ⟨_, hσ, h S _ fun k v H1 ks rk s1 t1 _ => ?_⟩
  obtain ⟨j, xs, hj, hjx, h2⟩ := rk
  obtain ⟨a', vs', b, us, hσ', ha', hlen, hb1, hb2, hb3, upd'⟩ := (S.same s1).inner hx hjx
  rw [hσ] at hσ'
  cases hσ'
  refine ⟨a, vs', k, .ref b, rfl, t1.1, SqL.of ha', atI_of (by rw [hlen]; exact hj) hb1, .inl ⟨rfl, _, SqL.of hb2⟩, h2 (S.same s1) _ fun x w H2 ws r s2 t2 _ => ?_⟩
  have := Flat.flat t2; subst this
  obtain ⟨a2, vs2, b2, us2, hσ2, ha2, hlen2, hb12, hb22, hb32, upd2⟩ := (S.same (s1.trans s2)).inner hx hjx
  rw [hσ] at hσ2
  cases hσ2
  rw [s2 _ _ ha'] at ha2
  cases ha2
  rw [hb1] at hb12
  cases hb12
  exact ⟨b, us2, w, rfl, rfl, hb22, by rw [hb32.len]; exact small1000 (by omega), C.nx _ _ _ _ r.2 (upd2 (hb32.snoc t2))⟩
end
end
end L2

set_option Elab.async false
set_option linter.all false
set_option maxRecDepth 100000
set_option maxHeartbeats 4000000
/-! Own rules, part 9: a dict of lists by ints; lists changed through another name. -/
namespace L2
open PySem PySem.Spec PyProof.Rows
section
variable {c : Ct}
/-- a dict: int keys, lists of ints -/
structure Dc where
  kvs : List (Int × List Int)
def dKeys (kvs : List (Int × List Int)) : List Key := kvs.map fun p => Sum.inl p.1
instance : Rp c Dc where
  tree := fun H v x as => ∃ d vs as', v = .ref d ∧ H d = some (.dK ((dKeys x.kvs).zip vs)) ∧ Trees c H vs (x.kvs.map (·.2)) as' ∧ as = d :: as'
  isl := fun h b hb => by
    obtain ⟨d, vs, as', _, hd, t, rfl⟩ := h
    rcases List.mem_cons.mp hb with z | z
    · rw [z]; exact ⟨_, hd, rfl⟩
    · exact t.isl b z
  frame := fun h k => by
    obtain ⟨d, vs, as', e, hd, t, rfl⟩ := h
    exact ⟨d, vs, as', e, k _ _ hd (.inr List.mem_cons_self), t.frame fun b o e q => k b o e (q.imp id fun z => List.mem_cons_of_mem _ z), rfl⟩
section
variable {env : List (Ent c)} {m : Md} {ta tb te : TE} {tc : TT} {t u : TS} {α β γ : Type} [Rp c α] [Rp c β] [Rp c γ] {R' : Rs c β}
/-! ### through another name -/
end
end
end L2

set_option Elab.async false
set_option linter.all false
set_option maxRecDepth 100000
set_option maxHeartbeats 4000000
/-! What the defs promise, over data. -/
namespace L2
open PySem PySem.Spec PyProof.Rows
section
variable {c : Ct}
def p_drawn : List (Ent c) → (Int → Prop) → Prop := fun es R => ∃ (ns : List Int) (k m : Int), es = [.sh (⟨ns⟩ : Sc), .sh k, .sh m] ∧ (0 ≤ k ∧ k < 4294967296) ∧ 0 < m ∧ ∀ n, 0 ≤ n → n < m → R n
def p_outs (f : Int × Int → Int) : List (Ent c) → (List Int → Prop) → Prop := fun es R => ∃ (N : NetD) (k : Int), es = [.sh N, .sh k] ∧ (0 ≤ k ∧ k < N.n) ∧ N.rs.length ≤ 24 ∧ R ((rng N.rs.length).filter fun j => decide ((N.rs[j.toNat]?).map f = some k))

/-! ### pure facts -/
theorem atI_ge {α : Type} {xs : List α} {i : Int} (h0 : 0 ≤ i) (h1 : i < xs.length) : ∃ v, atI xs i = some v ∧ xs[i.toNat]? = some v ∧ v ∈ xs := by
  obtain ⟨v, h, m⟩ := atI_mem (xs := xs) (i := i) (by omega) h1
  exact ⟨v, h, atI_lt h h0, m⟩
theorem rng_succ (n : Nat) : rng (n + 1) = rng n ++ [(n : Int)] := by unfold rng; rw [List.range_succ, List.map_append]; rfl
theorem rng_get {n i : Nat} (h : i < n) : (rng n)[i]? = some (i : Int) := by unfold rng; rw [List.getElem?_map, List.getElem?_range h]; rfl
/-- the numbers i below n with a property -/
theorem filter_rng_succ (n : Nat) (p : Int → Bool) : (rng (n + 1)).filter p = (rng n).filter p ++ if p n then [(n : Int)] else [] := by
  rw [rng_succ, List.filter_append]
  by_cases h : p n = true
  · rw [if_pos h, List.filter_cons_of_pos h, List.filter_nil]
  · rw [if_neg h, List.filter_cons_of_neg h, List.filter_nil]

theorem wt_true {env : List (Ent c)} {R : Bool → Prop} (h : R true) : WT env tTrue R := fun _ _ _ _ _ S Q k => k true _ h (Same.refl _)
/-- no test: every item is taken -/
theorem wt_all {env : List (Ent c)} {A : Prop} {B : Prop} (h : A) : WT env tTrue fun b => (b = true → A) ∧ (b = false → B) := wt_true ⟨fun _ => h, fun z => by cases z⟩
theorem we_need {env : List (Ent c)} {m : Md} {ta tb : TE} {E : XK} {R : Unit → Prop} (h : WE .any env ta fun N : NetD => WE .any env tb fun k : Int => (0 ≤ k ∧ k < N.n) ∧ R ()) : WE m env (tMeth c.C "need_place" (sp_need c.C) [] E ta (tCons tb tNil)) R :=
  fun _ _ _ _ _ S Q k => h S _ fun N v H1 as ra s1 t1 _ => by
    obtain ⟨p, r, rfl, hN, rfl⟩ := id t1
    obtain ⟨dx, hp⟩ := hN.ob
    refine ⟨p, dx, _, rfl, hp, flds_no _ _ (by decide +kernel) (by decide +kernel), ra (S.same s1) _ fun i u H2 bs rb s2 t2 _ => ?_⟩
    exact ⟨p, r, N.n, i, N.rs, by rw [t2.1]; rfl, hN.same s2, rb.1.1, rb.1.2, k () _ H2 [] rb.2 (s1.trans s2) ⟨rfl, rfl⟩ Md.nil⟩
end
/-! ### a walk that comes back, numbered anew -/
def nm (xs : List Int) (i : Int) : Int := xs.getD i.toNat 0
theorem nm_at {xs : List Int} {i : Int} (h0 : 0 ≤ i) (h1 : i < xs.length) : atI xs i = some (nm xs i) := by
  obtain ⟨v, h, h2, _⟩ := atI_ge (xs := xs) h0 h1
  rw [h]
  unfold nm
  rw [List.getD_eq_getElem?_getD, h2]
  rfl
end L2

set_option Elab.async false
set_option linter.all false
set_option maxRecDepth 100000
set_option maxHeartbeats 4000000
/-! Parts of a net: pure facts. -/
namespace L2
open PySem PySem.Spec PyProof.Rows
def loI (a b : Int) : Int := if b < a then b else a
def hiI (a b : Int) : Int := if b > a then b else a
def relab (name : List Int) (e : Int × Int) : List Int := name.map fun o => if o = hiI (nm name e.1) (nm name e.2) then loI (nm name e.1) (nm name e.2) else o
def names (n : Nat) (rs : List (Int × Int)) : List Int := rs.foldl relab (rng n)
def used (rs : List (Int × Int)) : List Int := rs.map (·.1) ++ rs.map (·.2)
def root (nms : List Int) (rs : List (Int × Int)) (l : Int) : Bool := decide (l ∈ used rs) && decide (nm nms l = l)
def grp (nms : List Int) (rs : List (Int × Int)) (k : Nat) (f : Int) : List Int := (rng k).filter fun p => decide (nm nms p = f) && decide (p ∈ used rs)
def partsD (n : Nat) (rs : List (Int × Int)) : List (List Int) := ((rng n).map fun f => grp (names n rs) rs n f).filter fun xs => decide ((0 : Int) < (xs.length : Nat))
structure NmOk (n : Nat) (rs : List (Int × Int)) (name : List Int) : Prop where
  len : name.length = n
  le : ∀ p : Int, 0 ≤ p → p < n → 0 ≤ nm name p ∧ nm name p ≤ p
  idem : ∀ p : Int, 0 ≤ p → p < n → nm name (nm name p) = nm name p
  us : ∀ p : Int, 0 ≤ p → p < n → p ∈ used rs → nm name p ∈ used rs
  un : ∀ p : Int, 0 ≤ p → p < n → p ∉ used rs → nm name p = p
section
variable {c : Ct}
end
section
variable {c : Ct}
def p_law : List (Ent c) → (Bool → Prop) → Prop := fun es R => ∃ ns : List Int, es = [.sh (⟨ns⟩ : Sc)] ∧ ns.length ≤ 63 ∧ R true
theorem law_sp {vs : List V} {H : Hp} {Q : VK} {E : XK} (h : sp_law c.K vs H Q E) : spF c p_law vs H Q E := by
  obtain ⟨a, ns, rfl, hS, hl, k⟩ := h
  exact ⟨[.sh (⟨ns⟩ : Sc)], fun b => b = true, ⟨ns, rfl, hl, rfl⟩, ⟨⟨[], a, rfl, hS, rfl⟩, trivial⟩, fun x v H' as rx s t nd n => by subst rx; rw [t.1]; exact k H'⟩
end
end L2

set_option Elab.async false
set_option linter.all false
set_option maxRecDepth 100000
set_option maxHeartbeats 4000000
/-! Own rules, part 12: for over enumerate, a name's own data taken over by another, numbers that may be None. -/
namespace L2
open PySem PySem.Spec PyProof.Rows
theorem for_enum {K : PySem.W.Frag} {a : Addr} {xs : List V} {g : TG} {tb : TS} {D : Ends} {σ : St} {H : Hp} (Pv : Nat → St → Hp → Prop) (h0 : Pv 0 σ H) (hl : ∀ i σ H, i ≤ xs.length → Pv i σ H → SqL K H a xs)
    (hs : ∀ i x σ H p, xs[i]? = some x → Pv i σ H → H p = none → g (.ref p) σ (upd H p (.tup [.int ((i : Nat) : Int), x])) fun σ2 H2 => tb { D with nx := Pv (i + 1), ct := Pv (i + 1), bk := D.nx } σ2 H2) (hd : ∀ σ H, Pv xs.length σ H → D.nx σ H) :
    ∃ W : Nat → Nat → St → Hp → Prop, (∃ m, W 0 m σ H) ∧ ∀ i m σ H, W i m σ H →
      ((Ite K a).stop i H ∧ D.nx σ H) ∨ ((Ite K a).go i H ∧ ∃ N : St → Hp → Prop, (∀ σ' H', N σ' H' → ∃ m', m' < m ∧ W (i + 1) m' σ' H') ∧ ∀ x H', (Ite K a).yld i H x H' → g x σ H' fun σ2 H2 => tb { D with nx := N, ct := N, bk := D.nx } σ2 H2) := by
  refine ⟨fun i m σ H => m = xs.length - i ∧ i ≤ xs.length ∧ Pv i σ H, ⟨xs.length, by simp, Nat.zero_le _, h0⟩, ?_⟩
  rintro i m σ H ⟨rfl, hi, p⟩
  have q := hl i σ H hi p
  by_cases hlt : i < xs.length
  · refine .inr ⟨⟨xs, xs[i], q, by simp [hlt]⟩, Pv (i + 1), fun σ' H' p' => ⟨xs.length - (i + 1), by omega, rfl, hlt, p'⟩, fun x H' y => ?_⟩
    obtain ⟨pp, z, hz, hn, rfl, rfl⟩ := y
    exact hs i z σ H pp (hz xs q) p hn
  · have e : i = xs.length := by omega
    subst e
    exact .inl ⟨⟨xs, q, Nat.le_refl _⟩, hd σ H p⟩
section
variable {c : Ct} {env : List (Ent c)} {m : Md} {ta tb te : TE} {α β γ : Type} [Rp c α] [Rp c β] [Rp c γ] {R : Rs c γ}
/-- for k, x in enumerate(xs) -/
theorem ws_forE {i j : Nat} {tb : TS} (h : WE .sh env ta fun xs : List α => ∃ J : Nat → List (Ent c) → Prop, J 0 env ∧
      (∀ (k : Nat) x e, xs[k]? = some x → J k e → WS ((e.set i (.sh (k : Int))).set j (.sh x)) tb { nx := J (k + 1), ct := J (k + 1), bk := R.nx, rt := R.rt }) ∧ ∀ e, J xs.length e → R.nx e) :
    WS env (tFor (iEnum c.K (tCons ta tNil)) (gTup c.K 2 (gCons (gName i) (gCons (gName j) gNil))) tb) R := fun H0 F0 Fs σ H D S C => h S _ fun xs v H1 as ra s1 t1 o => by
  obtain ⟨J, j0, js, je⟩ := ra
  have S1 := S.same s1
  have out : ∀ a ∈ as, a ∉ allF env.length Fs := fun a ha z => by
    obtain ⟨j, _, hj⟩ := mem_allF.mp z
    exact o a ha j hj
  obtain ⟨a, vs, as', rfl, ha, tr, rfl⟩ := id t1
  refine ⟨a, vs, rfl, SqL.of ha, for_enum (xs := vs) (fun k σ' H' => ∃ e Fs', J k e ∧ Sta H1 (allF env.length Fs) e Fs' σ' H') ⟨env, Fs, j0, S1.rebase⟩ ?_ ?_ ?_⟩
  · rintro k σ' H' _ ⟨e, Fs', _, S'⟩
    exact SqL.of (S'.kp.keep a _ ha (.inr (out a List.mem_cons_self)))
  · rintro k x σ' H' p hx ⟨e, Fs', hj, S'⟩ hp
    have sp : Same H' (upd H' p (.tup [.int ((k : Nat) : Int), x])) := Same.new hp
    have hk : k < xs.length := by rw [← tr.len]; exact (List.getElem?_eq_some_iff.mp hx).1
    have hk' : xs[k]? = some xs[k] := by simp [hk]
    have tr' := (tr.kp S'.kp fun b hb => out b (List.mem_cons_of_mem _ hb)).same sp
    obtain ⟨w, b1, hw, t2, sb⟩ := tr'.get hk'
    rw [hx] at hw
    cases hw
    have dj : ∀ b ∈ b1, ∀ q, b ∉ Fs' q := fun b hb q hz => by
      have hb' : b ∈ a :: as' := List.mem_cons_of_mem _ (sb.subset hb)
      rcases S'.up q b hz with y | y
      · exact tree_dom t1 hb' y
      · exact out b hb' y
    obtain ⟨Fs2, S2, sub2⟩ := (S'.same sp).set' (α := Int) (x := (k : Int)) (v := V.int ((k : Nat) : Int)) (as := []) i (show tree c _ (V.int _) (_ : Int) [] from ⟨rfl, rfl⟩) (fun b hb => absurd hb (by simp))
    obtain ⟨Fs3, S3, _⟩ := S2.set' j t2 fun b hb q hz => dj b hb q (sub2 b q hz)
    exact ⟨p, _, rfl, SqT.of upd_same, rfl, _, _, rfl, _, _, rfl, rfl, js k _ e hk' hj S3 ⟨fun e2 F2 σ2 H2 r q => ⟨e2, F2, r, q⟩, fun e2 F2 σ2 H2 r q => C.nx e2 F2 σ2 H2 r (S1.unbase q), fun e2 F2 σ2 H2 r q => ⟨e2, F2, r, q⟩,
      fun y w H2 bs r k2 t3 nd up => C.rt y w H2 bs r (S1.kp.trans k2 fun x hx => S1.upW (.inr hx)) t3 nd fun b hb => S1.upW (up b hb)⟩⟩
  · rintro σ' H' ⟨e, Fs', hj, S'⟩
    rw [tr.len] at hj
    exact C.nx e Fs' σ' H' (je e hj) (S1.unbase S')
end
end L2

set_option Elab.async false
set_option linter.all false
set_option maxRecDepth 100000
set_option maxHeartbeats 4000000
/-! Rounds and orders: pure facts. -/
namespace L2
open PySem PySem.Spec PyProof.Rows
def sp (rs : List (Int × Int)) (r : Int) : Int := (rs.getD r.toNat (0, 0)).1
def en (rs : List (Int × Int)) (r : Int) : Int := (rs.getD r.toNat (0, 0)).2
theorem rd_at {rs : List (Int × Int)} {r : Int} (h0 : 0 ≤ r) (h1 : r < rs.length) : atI rs r = some (sp rs r, en rs r) := by
  obtain ⟨v, h, h2, _⟩ := atI_ge (xs := rs) h0 h1
  rw [h]
  unfold sp en
  rw [List.getD_eq_getElem?_getD, h2]
  rfl
theorem rd_get {rs : List (Int × Int)} {r : Int} (h0 : 0 ≤ r) (h1 : r < rs.length) : rs[r.toNat]? = some (sp rs r, en rs r) := atI_lt (rd_at h0 h1) h0
theorem rd_in {rs : List (Int × Int)} {n r : Int} (hin : InNet n rs) (h0 : 0 ≤ r) (h1 : r < rs.length) : (0 ≤ sp rs r ∧ sp rs r < n) ∧ 0 ≤ en rs r ∧ en rs r < n := hin _ (List.mem_of_getElem? (rd_get h0 h1))
section
variable {rs : List (Int × Int)} {cs : List Int}
theorem IsR.len (h : IsR rs cs) : cs.length = rs.length := by rw [h.1.length_eq, rng_len]
theorem IsR.mem (h : IsR rs cs) {x : Int} (hx : x ∈ cs) : 0 ≤ x ∧ x < rs.length := mem_rng.mp (h.1.mem_iff.mp hx)
theorem IsR.step (h : IsR rs cs) {k : Nat} {x y : Int} (hx : cs[k]? = some x) (hy : cs[k + 1]? = some y) : en rs x = sp rs y := by
  have hk : k + 1 < cs.length := (List.getElem?_eq_some_iff.mp hy).1
  obtain ⟨a, b, e, f, h1, h2, h3, h4, h5⟩ := h.2 (k + 1) hk
  have ea : a = x := by
    have : atI cs (k : Int) = some x := atI_nat hx
    rw [show (((k + 1 : Nat) : Int) - 1) = (k : Int) by omega, this] at h1
    exact (Option.some.inj h1).symm
  have eb : b = y := by rw [hy] at h2; exact (Option.some.inj h2).symm
  subst ea; subst eb
  have mx := h.mem (List.mem_of_getElem? hx)
  have my := h.mem (List.mem_of_getElem? hy)
  rw [rd_at mx.1 mx.2] at h3
  rw [rd_at my.1 my.2] at h4
  cases h3; cases h4
  exact h5
theorem IsR.close (h : IsR rs cs) {x y : Int} (hx : cs[0]? = some x) (hy : cs[cs.length - 1]? = some y) : en rs y = sp rs x := by
  have hk : 0 < cs.length := (List.getElem?_eq_some_iff.mp hx).1
  obtain ⟨a, b, e, f, h1, h2, h3, h4, h5⟩ := h.2 0 hk
  have ea : a = y := by
    unfold atI ixN at h1
    rw [if_neg (by omega), if_pos (by omega)] at h1
    have h1' : cs[(((0 : Nat) : Int) - 1 + (cs.length : Int)).toNat]? = some a := h1
    rw [show (((0 : Nat) : Int) - 1 + (cs.length : Int)).toNat = cs.length - 1 by omega, hy] at h1'
    exact (Option.some.inj h1').symm
  have eb : b = x := by rw [hx] at h2; exact (Option.some.inj h2).symm
  subst ea; subst eb
  have mx := h.mem (List.mem_of_getElem? hx)
  have my := h.mem (List.mem_of_getElem? hy)
  rw [rd_at my.1 my.2] at h3
  rw [rd_at mx.1 mx.2] at h4
  cases h3; cases h4
  exact h5
theorem IsR.shift (h : IsR rs cs) : cs.map (en rs) = (cs.map (sp rs)).drop 1 ++ (cs.map (sp rs)).take 1 := by
  cases hc : cs with
  | nil => rfl
  | cons x xs =>
    rw [← hc]
    have hx : cs[0]? = some x := by rw [hc]; rfl
    have hl : 0 < cs.length := by rw [hc]; simp
    apply List.ext_getElem?
    intro k
    by_cases hk : k < cs.length
    · have h1 : cs[k]? = some cs[k] := by simp [hk]
      rw [List.getElem?_map, h1]
      by_cases hk1 : k + 1 < cs.length
      · have h2 : cs[k + 1]? = some cs[k + 1] := by simp [hk1]
        rw [List.getElem?_append_left (by rw [List.length_drop, List.length_map]; omega), List.getElem?_drop, List.getElem?_map, show 1 + k = k + 1 by omega, h2]
        show some (en rs cs[k]) = some (sp rs cs[k + 1])
        rw [h.step h1 h2]
      · have ek : k = cs.length - 1 := by omega
        rw [List.getElem?_append_right (by rw [List.length_drop, List.length_map]; omega), List.length_drop, List.length_map, show k - (cs.length - 1) = 0 by omega, List.getElem?_take_of_lt (by omega), List.getElem?_map, hx]
        show some (en rs cs[k]) = some (sp rs x)
        rw [h.close hx (by rw [← ek]; exact h1)]
    · rw [List.getElem?_eq_none (by rw [List.length_map]; omega), List.getElem?_eq_none (by rw [List.length_append, List.length_drop, List.length_take, List.length_map]; omega)]
theorem IsR.even (h : IsR rs cs) (p : Int) : (cs.filter fun r => decide (sp rs r = p)).length = (cs.filter fun r => decide (en rs r = p)).length := by
  have e1 : ∀ (f : Int → Int), (cs.filter fun r => decide (f r = p)).length = ((cs.map f).filter fun x => decide (x = p)).length := fun f => by
    rw [List.filter_map, List.length_map]
    rfl
  rw [e1, e1, h.shift, List.filter_append, List.length_append, Nat.add_comm, ← List.length_append, ← List.filter_append, List.take_append_drop]
/-- the roads from (to) a place -/
theorem outs_eq {f : Int × Int → Int} {g : Int → Int} {p : Int} (hg : ∀ r : Int, 0 ≤ r → r < rs.length → (rs[r.toNat]?).map f = some (g r)) : ((rng rs.length).filter fun j => decide ((rs[j.toNat]?).map f = some p)) = (rng rs.length).filter fun j => decide (g j = p) :=
  List.filter_congr fun j hj => by
    have := mem_rng.mp hj
    rw [hg j this.1 this.2]
    by_cases e : g j = p <;> simp [e]
theorem outs_sp (p : Int) : ((rng rs.length).filter fun j => decide ((rs[j.toNat]?).map (·.1) = some p)) = (rng rs.length).filter fun j => decide (sp rs j = p) :=
  outs_eq fun r h0 h1 => by rw [rd_get h0 h1]; rfl
theorem outs_en (p : Int) : ((rng rs.length).filter fun j => decide ((rs[j.toNat]?).map (·.2) = some p)) = (rng rs.length).filter fun j => decide (en rs j = p) :=
  outs_eq fun r h0 h1 => by rw [rd_get h0 h1]; rfl
theorem IsR.evenO (h : IsR rs cs) (p : Int) : ((rng rs.length).filter fun j => decide ((rs[j.toNat]?).map (·.1) = some p)).length = ((rng rs.length).filter fun j => decide ((rs[j.toNat]?).map (·.2) = some p)).length := by
  rw [outs_sp, outs_en, ← (h.1.filter _).length_eq, ← (h.1.filter _).length_eq]
  exact h.even p
end
/-! ### orders -/
def rowsOf (n : Nat) (rs : List (Int × Int)) (cs : List Int) : List (List Int) := (rng n).map fun p => cs.filter fun r => decide (sp rs r = p)
/-! ### walks by orders -/
def tot (w : List (List Int)) : Nat := (w.map List.length).sum
def walkF (rs : List (Int × Int)) : Nat → List (List Int) → Int → List Int
  | 0, _, _ => []
  | f + 1, w, p => match w.getD p.toNat [] with
    | [] => []
    | r :: rest => r :: walkF rs f (w.set p.toNat rest) (en rs r)
theorem tot_set : ∀ {w : List (List Int)} {j : Nat} {r : Int} {rest : List Int}, w[j]? = some (r :: rest) → tot (w.set j rest) + 1 = tot w
  | [], _, _, _, h => by simp at h
  | x :: w, 0, r, rest, h => by
    simp at h; subst h
    unfold tot
    simp
    omega
  | x :: w, j + 1, r, rest, h => by
    have ih := tot_set (w := w) (j := j) (r := r) (rest := rest) (by simpa using h)
    unfold tot at ih ⊢
    simp only [List.set_cons_succ, List.map_cons, List.sum_cons] at ih ⊢
    omega
theorem getD_some {w : List (List Int)} {j : Nat} {r : Int} {rest : List Int} (h : w.getD j [] = r :: rest) : w[j]? = some (r :: rest) := by
  rw [List.getD_eq_getElem?_getD] at h
  cases e : w[j]? with
  | none => rw [e] at h; cases h
  | some x => rw [e] at h; exact congrArg some h
/-- the walk, with all the roads that there are -/
def walkD (rs : List (Int × Int)) (w : List (List Int)) (p : Int) : List Int := walkF rs (tot w) w p
theorem walkD_nil {rs : List (Int × Int)} {w : List (List Int)} {p : Int} (h : w.getD p.toNat [] = []) : walkD rs w p = [] := by
  unfold walkD
  cases e : tot w with
  | zero => rfl
  | succ f =>
    show (match w.getD p.toNat [] with | [] => [] | r :: rest => _) = _
    rw [h]
theorem walkD_cons {rs : List (Int × Int)} {w : List (List Int)} {p r : Int} {rest : List Int} (h : w.getD p.toNat [] = r :: rest) : walkD rs w p = r :: walkD rs (w.set p.toNat rest) (en rs r) := by
  have ht := tot_set (getD_some h)
  unfold walkD
  rw [← ht]
  show (match w.getD p.toNat [] with | [] => [] | r :: rest => r :: walkF rs (tot (w.set p.toNat _)) (w.set p.toNat rest) (en rs r)) = _
  rw [h]
/-! ### rounds, begun elsewhere -/
theorem IsR.of_cyc {rs : List (Int × Int)} {cs : List Int} (hp : cs.Perm (rng rs.length)) (h : ∀ (i : Nat) (x y : Int), cs[i]? = some x → cs[(i + 1) % cs.length]? = some y → en rs x = sp rs y) : IsR rs cs := by
  have hm : ∀ {x : Int}, x ∈ cs → 0 ≤ x ∧ x < rs.length := fun hx => mem_rng.mp (hp.mem_iff.mp hx)
  refine ⟨hp, fun k hk => ?_⟩
  have hb : cs[k]? = some cs[k] := by simp [hk]
  have mb := hm (List.mem_of_getElem? hb)
  by_cases h0 : k = 0
  · subst h0
    have ha : cs[cs.length - 1]? = some (cs[cs.length - 1]'(by omega)) := by simp
    have ma := hm (List.mem_of_getElem? ha)
    refine ⟨_, _, _, _, ?_, hb, rd_at ma.1 ma.2, rd_at mb.1 mb.2, h (cs.length - 1) _ _ ha ?_⟩
    · unfold atI ixN
      rw [if_neg (by omega), if_pos (by omega)]
      show cs[_]? = _
      rw [show (((0 : Nat) : Int) - 1 + (cs.length : Int)).toNat = cs.length - 1 by omega]
      exact ha
    · rw [show cs.length - 1 + 1 = cs.length by omega, Nat.mod_self]
      exact hb
  · have ha : cs[k - 1]? = some (cs[k - 1]'(by omega)) := by simp
    have ma := hm (List.mem_of_getElem? ha)
    refine ⟨_, _, _, _, ?_, hb, rd_at ma.1 ma.2, rd_at mb.1 mb.2, h (k - 1) _ _ ha ?_⟩
    · rw [show (k : Int) - 1 = ((k - 1 : Nat) : Int) by omega]
      exact atI_nat ha
    · rw [show k - 1 + 1 = k by omega, Nat.mod_eq_of_lt hk]
      exact hb
theorem cut_from {α : Type} {xs : List α} {t : Int} (h0 : 0 ≤ t) (h1 : t ≤ xs.length) : cutL xs (some t) none = xs.drop t.toNat := by
  obtain ⟨t, rfl⟩ := Int.eq_ofNat_of_zero_le h0
  unfold cutL
  rw [HT.sIx_nat, HT.sIx_none, Nat.min_eq_left (by omega)]
  exact List.take_of_length_le (by rw [List.length_drop]; omega)
theorem cut_to {α : Type} {xs : List α} {t : Int} (h0 : 0 ≤ t) (h1 : t ≤ xs.length) : cutL xs none (some t) = xs.take t.toNat := by
  obtain ⟨t, rfl⟩ := Int.eq_ofNat_of_zero_le h0
  unfold cutL
  rw [HT.sIx_nat, HT.sIx_none, Nat.min_eq_left (by omega)]
  rfl
/-! ### promises -/
def outsD (rs : List (Int × Int)) (p : Int) : List Int := (rng rs.length).filter fun j => decide ((rs[j.toNat]?).map (·.1) = some p)
def insD (rs : List (Int × Int)) (p : Int) : List Int := (rng rs.length).filter fun j => decide ((rs[j.toNat]?).map (·.2) = some p)
def oddD (n : Nat) (rs : List (Int × Int)) : List Int := (rng n).filter fun p => !decide (((outsD rs p).length : Int) = ((insD rs p).length : Int))
theorem outsD_len (rs : List (Int × Int)) (p : Int) : (outsD rs p).length ≤ rs.length := by
  have := List.length_filter_le (fun j => decide ((rs[j.toNat]?).map (·.1) = some p)) (rng rs.length)
  rwa [rng_len] at this
/-- orders: for each place its roads, each once -/
def Good (n : Nat) (rs : List (Int × Int)) (rows : List (List Int)) : Prop := rows.length = n ∧ ∀ (j : Nat) (row : List Int), rows[j]? = some row → row.Perm (outsD rs j)
theorem Good.mem {n : Nat} {rs : List (Int × Int)} {rows : List (List Int)} (h : Good n rs rows) {row : List Int} (hr : row ∈ rows) : (∀ r ∈ row, 0 ≤ r ∧ r < rs.length) ∧ row.length ≤ rs.length := by
  obtain ⟨j, hj, e⟩ := List.mem_iff_getElem.mp hr
  have p := h.2 j row (by rw [List.getElem?_eq_getElem hj, e])
  refine ⟨fun r hr => mem_rng.mp (List.mem_filter.mp (p.mem_iff.mp hr)).1, ?_⟩
  rw [p.length_eq]
  exact outsD_len rs j
def lastD (n : Nat) (rs : List (Int × Int)) (cs : List Int) : List (Option Int) := match cs with
  | [] => (rowsOf n rs cs).map List.getLast?
  | x :: _ => ((rowsOf n rs cs).map List.getLast?).set (sp rs x).toNat none
section
variable {c : Ct}
def p_isround : List (Ent c) → (Bool → Prop) → Prop := fun es R => ∃ (N : NetD) (cs : List Int), es = [.sh N, .sh cs] ∧ N.rs.length ≤ 24 ∧ cs.length < 64 ∧ ∀ b : Bool, (b = true ↔ IsR N.rs cs) → R b
def p_odd : List (Ent c) → (List Int → Prop) → Prop := fun es R => ∃ N : NetD, es = [.sh N] ∧ (1 ≤ N.n ∧ N.n ≤ 8) ∧ N.rs.length ≤ 24 ∧ R (oddD N.n.toNat N.rs)
end
theorem tot_le : ∀ {w : List (List Int)} {b : Nat}, (∀ x ∈ w, x.length ≤ b) → tot w ≤ w.length * b
  | [], _, _ => Nat.zero_le _
  | x :: w, b, h => by
    have ih := tot_le (w := w) (b := b) fun y hy => h y (List.mem_cons_of_mem _ hy)
    have hx := h x List.mem_cons_self
    unfold tot at ih ⊢
    simp only [List.map_cons, List.sum_cons, List.length_cons]
    rw [Nat.succ_mul]
    omega
end L2

set_option Elab.async false
set_option linter.all false
set_option maxRecDepth 100000
set_option maxHeartbeats 4000000
/-! The last roads of a round lead to where it begins. -/
namespace L2
open PySem PySem.Spec PyProof.Rows
section
variable {rs : List (Int × Int)} {cs : List Int} {n : Nat} {x : Int}
/-- where the last road from p stands in the round -/
def spot (rs : List (Int × Int)) (cs : List Int) (n : Nat) (p : Int) : Nat := match ((lastD n rs cs)[p.toNat]?).join with
  | some r => cs.idxOf r
  | none => 0
end
section
variable {c : Ct}
end
end L2

set_option Elab.async false
set_option linter.all false
set_option maxRecDepth 100000
set_option maxHeartbeats 4000000
/-! Own rules, part 15: a def that changes the data of its last argument, which is its own. -/
namespace L2
open PySem PySem.Spec PyProof.Rows
section
variable {c : Ct}
/-- data that lie at a known value -/
structure Pin (v0 : V) (γ : Type) where
  w : γ
instance {v0 : V} {γ : Type} [Rp c γ] : Rp c (Pin v0 γ) where
  tree := fun H v x as => v = v0 ∧ tree c H v x.w as
  isl := fun h => Rp.isl (c := c) h.2
  frame := fun h k => ⟨h.1, Rp.frame (c := c) h.2 k⟩
/-- what comes, and what lies at a known value -/
structure Wt (v0 : V) (β γ : Type) where
  x : β
  w : γ
instance {v0 : V} {β γ : Type} [Rp c β] [Rp c γ] : Rp c (Wt v0 β γ) where
  tree := fun H v x as => ∃ a b, tree c H v x.x a ∧ tree c H v0 x.w b ∧ as = a ++ b
  isl := fun h z hz => by
    obtain ⟨a, b, h1, h2, rfl⟩ := h
    rcases List.mem_append.mp hz with q | q
    · exact Rp.isl h1 z q
    · exact Rp.isl h2 z q
  frame := fun h k => by
    obtain ⟨a, b, h1, h2, rfl⟩ := h
    exact ⟨a, b, Rp.frame h1 fun z o e q => k z o e (q.imp id fun y => List.mem_append_left _ y), Rp.frame h2 fun z o e q => k z o e (q.imp id fun y => List.mem_append_right _ y), rfl⟩
/-- arguments apart from some addresses -/
def ArgsD (H : Hp) (as : List Addr) : List V → List (Ent c) → Prop
  | [], [] => True
  | v :: vs, @Ent.en _ _ α inst x :: es => (∃ bs, @Rp.tree c α inst H v x bs ∧ ∀ b ∈ bs, b ∉ as) ∧ ArgsD H as vs es
  | _, _ => False
theorem ArgsD.len {H : Hp} {as : List Addr} : ∀ {vs : List V} {es : List (Ent c)}, ArgsD H as vs es → vs.length = es.length
  | [], [], _ => rfl
  | _ :: _, @Ent.en _ _ α inst x :: _, h => by rw [List.length_cons, List.length_cons, ArgsD.len h.2]
theorem ArgsD.get {H : Hp} {as : List Addr} : ∀ {vs : List V} {es : List (Ent c)} {i : Nat} {e : Ent c}, ArgsD H as vs es → es[i]? = some e →
    ∃ v, vs[i]? = some v ∧ ∀ Fs : Nat → List Addr, Fs i = [] → (∀ j, ∀ a ∈ Fs j, a ∈ as) → EntOk H Fs i (some v) e.bor
  | [], [], _, _, _, he => by simp at he
  | v :: _, @Ent.en _ o α inst x :: _, 0, e, h, he => by
    simp at he; subst he
    obtain ⟨⟨bs, t, d⟩, _⟩ := h
    exact ⟨v, rfl, fun Fs h1 h2 => ⟨h1, v, bs, rfl, t, fun a ha j hj => d a ha (h2 j a hj)⟩⟩
  | _ :: vs, @Ent.en _ o α inst x :: es, i + 1, e, h, he => by
    obtain ⟨w, h1, h2⟩ := ArgsD.get (i := i) (e := e) h.2 (by simpa using he)
    refine ⟨w, by simpa using h1, fun Fs f1 f2 => ?_⟩
    have := h2 (fun j => if j = i then [] else as) (by simp) (fun j a ha => by
      have ha' : a ∈ (if j = i then [] else as) := ha
      split at ha' <;> simp_all)
    cases e with
    | no => exact f1
    | en o x =>
      obtain ⟨_, v, bs, e1, t, d⟩ := this
      refine ⟨f1, v, bs, e1, t, fun a ha j hj => ?_⟩
      have : ¬ a ∈ (if i + 1 = i then [] else as) := d a ha (i + 1)
      rw [if_neg (by omega)] at this
      exact this (f2 j a hj)
/-- a def's promise over data, the last argument its own and changed -/
def spM (c : Ct) {β γ : Type} [Rp c β] [Rp c γ] (pre : List (Ent c) → γ → (β → γ → Prop) → Prop) : Sp := fun vs H Q _ => ∃ vs0 v es w as R, vs = vs0 ++ [v] ∧ pre es w R ∧ tree c H v w as ∧ as.Nodup ∧ ArgsD H as vs0 es ∧
  ∀ x u H' bs w' as', R x w' → Kp as H H' → tree c H' u x bs → tree c H' v w' as' → (bs ++ as').Nodup → (∀ a ∈ bs ++ as', H a = none ∨ a ∈ as) → Q u H'
theorem spM_len {β γ : Type} [Rp c β] [Rp c γ] {pre : List (Ent c) → γ → (β → γ → Prop) → Prop} {vs : List V} {H : Hp} {Q : VK} {E : XK} (h : spM c pre vs H Q E) {n : Nat} (hp : ∀ es w R, pre es w R → es.length + 1 = n) : vs.length = n := by
  obtain ⟨vs0, v, es, w, as, R, rfl, p, _, _, ha, _⟩ := h
  rw [← hp es w R p, List.length_append, ha.len]; rfl
theorem argsD_start {γ : Type} [Rp c γ] {N : List Str} {H : Hp} {vs : List V} {es : List (Ent c)} {v : V} {w : γ} {as : List Addr} (h : ArgsD H as vs es) (t : tree c H v w as) (nd : as.Nodup) :
    Sta H as (es.map Ent.bor ++ (.ow (⟨w⟩ : Pin v γ) :: List.replicate (N.length - (es.length + 1)) .no)) (fun i => if i = es.length then as else []) (start N (vs ++ [v])) H := by
  have hl := h.len
  refine ⟨by unfold start; simp [hl], fun i u e h1 h2 => ?_, fun i hi => ?_, fun i => ?_, fun i j hij a ha => ?_, fun i a ha => ?_, Kp.refl _⟩
  · unfold start at h1
    by_cases hi : i < es.length
    · rw [List.getElem?_append_left (by rw [List.length_map]; exact hi), List.getElem?_map] at h2
      rw [List.getElem?_append_left (by rw [List.length_map, List.length_append, hl]; simp; omega), List.getElem?_map, List.getElem?_append_left (by omega)] at h1
      cases q : es[i]? with
      | none => rw [q] at h2; cases h2
      | some e' =>
        rw [q] at h2
        obtain ⟨v', h3, h4⟩ := h.get q
        rw [h3] at h1
        cases h1; cases h2
        exact h4 _ (if_neg (by omega)) (fun j a ha => by
          by_cases hj : j = es.length
          · rwa [if_pos hj] at ha
          · rw [if_neg hj] at ha; simp at ha)
    · by_cases hie : i = es.length
      · subst hie
        rw [List.getElem?_append_right (by rw [List.length_map]; omega), List.length_map, Nat.sub_self] at h2
        rw [List.getElem?_append_left (by rw [List.length_map, List.length_append, hl]; simp), List.getElem?_map, List.getElem?_append_right (by omega), hl, Nat.sub_self] at h1
        cases h1; cases h2
        exact ⟨v, rfl, by show Rp.tree c H v _ (if es.length = es.length then as else []); rw [if_pos rfl]; exact ⟨rfl, t⟩⟩
      · rw [List.getElem?_append_right (by rw [List.length_map]; omega), List.length_map, show i - es.length = (i - es.length - 1) + 1 by omega, List.getElem?_cons_succ, List.getElem?_replicate] at h2
        split at h2
        · cases h2; exact if_neg hie
        · cases h2
  · rw [List.length_append, List.length_map, List.length_cons] at hi
    exact if_neg (by omega)
  · show (if i = es.length then as else []).Nodup
    split
    · exact nd
    · exact List.nodup_nil
  · have ha' : a ∈ (if i = es.length then as else []) := ha
    show ¬ a ∈ (if j = es.length then as else [])
    split at ha'
    · rw [if_neg (by omega)]; simp
    · simp at ha'
  · have ha' : a ∈ (if i = es.length then as else []) := ha
    split at ha'
    · exact .inr ha'
    · simp at ha'
theorem fn_dataM {β γ : Type} [Rp c β] [Rp c γ] {pre : List (Ent c) → γ → (β → γ → Prop) → Prop} {N : List Str} {t : TS} {vs : List V} {H : Hp} {Q : VK} {E : XK} (h : spM c pre vs H Q E)
    (hb : ∀ es w R v0, pre es w R → WS (es.map Ent.bor ++ (.ow (⟨w⟩ : Pin v0 γ) :: List.replicate (N.length - (es.length + 1)) .no)) t ({ nx := fun _ => False, rt := fun z => R z.x z.w } : Rs c (Wt v0 β γ))) : t { nx := fun _ H' => Q .non H', rt := Q } (start N vs) H := by
  obtain ⟨vs0, v, es, w, as, R, rfl, hp, tw, nd, ha, k⟩ := h
  refine hb es w R v hp (argsD_start ha tw nd) ⟨fun _ _ _ _ z => z.elim, fun _ _ _ _ z => z.elim, fun _ _ _ _ z => z.elim, fun x u H' as' r kp t nd up => ?_⟩
  obtain ⟨a, b, t1, t2, rfl⟩ := t
  exact k x.x u H' a x.w b r kp t1 t2 nd up
section
variable {env : List (Ent c)} {m : Md} {ta tb te : TE} {tc : TT} {t u : TS} {α β γ : Type} [Rp c α] [Rp c β] [Rp c γ] {v0 : V}
theorem we_varP {i : Nat} {o : Bool} {x : γ} {R : γ → Prop} (h : env[i]? = some (.en o (⟨x⟩ : Pin v0 γ))) (q : R x) : WE .any env (tVar i) R := fun _ _ _ _ _ S Q k => by
  obtain ⟨v, as, e, t⟩ := S.var h
  exact ⟨v, e, k x v _ as q (Same.refl _) t.2 trivial⟩
/-- return, with what lies in the own argument -/
theorem ws_retM {S' : List Nat} {R : Rs c (Wt v0 β γ)} {i : Nat} {w : γ} (hi : env[i]? = some (.ow (⟨w⟩ : Pin v0 γ))) (hS : i ∉ S') (h : WE (.mv S') env te fun x : β => R.rt ⟨x, w⟩) : WS env (tRet te) R := fun H0 F0 Fs σ H D S C => h S _ fun x v H' as r s t o => by
  obtain ⟨u, h1, v', e, tv⟩ := S.at_ hi
  obtain ⟨rfl, tw⟩ := tv
  refine C.rt ⟨x, w⟩ v H' (as ++ Fs i) r (S.kp.same s) ⟨as, Fs i, t, tree_same tw s, rfl⟩ (List.nodup_append.mpr ⟨o.1, S.nd i, fun a ha b hb z => ?_⟩) fun a ha => ?_
  · subst z
    rcases o.2 a ha with q | ⟨j, hj, q⟩
    · obtain ⟨o', e', _⟩ := S.isl hb
      rw [q] at e'; cases e'
    · exact S.dj j i (fun z => hS (z ▸ hj)) a q hb
  · rcases List.mem_append.mp ha with z | z
    · rcases o.2 a z with q | ⟨j, _, q⟩
      · exact .inl (S.kp.free q)
      · exact S.up j a q
    · exact S.up i a z
theorem putF_id {Fs : Nat → List Addr} {i : Nat} : putF' Fs i (Fs i) = Fs := by
  funext k
  by_cases hk : k = i
  · subst hk; exact putF_same
  · exact putF_ne hk
theorem Sta.unpin {H0 H : Hp} {F0 : List Addr} {Fs : Nat → List Addr} {σ : St} (S : Sta H0 F0 env Fs σ H) {i : Nat} {w : γ} (h : env[i]? = some (.ow (⟨w⟩ : Pin v0 γ))) : Sta H0 F0 (env.set i (.ow w)) Fs σ H ∧ σ[i]? = some (some v0) := by
  have hi : i < env.length := (List.getElem?_eq_some_iff.mp h).1
  obtain ⟨u, h1, v, e, t⟩ := S.at_ h
  obtain ⟨rfl, tw⟩ := t
  have q := S.put (as := Fs i) (v := some v) (e := .ow w) (Kp.refl H) hi ⟨_, rfl, by rw [putF_same]; exact tw⟩ (S.nd i) (fun z hz => .inl hz)
  rw [set_get (l := σ) (by rw [h1, e]), putF_id] at q
  exact ⟨q, by rw [h1, e]⟩
theorem Sta.pin {H0 H : Hp} {F0 : List Addr} {Fs : Nat → List Addr} {σ : St} (S : Sta H0 F0 env Fs σ H) {i : Nat} {w : γ} (h : env[i]? = some (.ow w)) (hv : σ[i]? = some (some v0)) : Sta H0 F0 (env.set i (.ow (⟨w⟩ : Pin v0 γ))) Fs σ H := by
  have hi : i < env.length := (List.getElem?_eq_some_iff.mp h).1
  obtain ⟨u, h1, v, e, t⟩ := S.at_ h
  rw [hv] at h1
  cases h1; cases e
  have q := S.put (as := Fs i) (v := some v0) (e := .ow (⟨w⟩ : Pin v0 γ)) (Kp.refl H) hi ⟨_, rfl, by rw [putF_same]; exact ⟨rfl, t⟩⟩ (S.nd i) (fun z hz => .inl hz)
  rw [set_get (l := σ) hv, putF_id] at q
  exact q
/-- y = xss[k].pop(0), xss at a known value -/
theorem ws_popIP [Flat c α] {R' : Rs c β} {i l : Nat} {xss : List (List α)} (hx : env[i]? = some (.ow (⟨xss⟩ : Pin v0 (List (List α))))) (hli : l ≠ i) (h : WE .any env ta fun k : Int => ∃ j x xs, ixN xss.length k = some j ∧ xss[j]? = some (x :: xs) ∧ R'.nx ((env.set i (.ow (⟨xss.set j xs⟩ : Pin v0 (List (List α))))).set l (.sh x))) :
    WS env (tAsg (tBM c.K "list" rPopAt (tOp (rIxL c.K) (tVar i) ta) (tCons (tC (.int 0)) tNil)) (gName l)) R' := fun H0 F0 Fs σ H D S C => by
  have hi : i < env.length := (List.getElem?_eq_some_iff.mp hx).1
  obtain ⟨SU, hv⟩ := S.unpin hx
  have hx' : (env.set i (.ow xss))[i]? = some (.ow xss) := List.getElem?_set_self hi
  obtain ⟨a, vs, as, hσ, ha, tr, hF⟩ := SU.own hx'
  refine ⟨_, hσ, h S _ fun k v H1 ks rk s1 t1 _ => ?_⟩
  obtain ⟨j, x, xs, hj, hjx, r⟩ := rk
  obtain ⟨a', vs', b, us, hσ', ha', hlen, hb1, hb2, hb3, upd'⟩ := (SU.same s1).inner hx' hjx
  rw [hσ] at hσ'
  cases hσ'
  cases us with
  | nil => exact (hb3 : False).elim
  | cons w ws =>
    obtain ⟨a1, a2, tw, tws, e⟩ := hb3
    have := Flat.flat tw; subst this
    have := tws.flat; subst this
    refine ⟨a, vs', k, .ref b, rfl, t1.1, SqL.of ha', atI_of (by rw [hlen]; exact hj) hb1, .inl ⟨rfl, _, SqL.of hb2⟩, b, w :: ws, 0, 0, w, rfl, rfl, hb2, by decide, by decide, ?_, rfl, ?_⟩
    · unfold seqIndex?
      simp
    · have S2 := upd' tws
      have t2 : tree c (upd H1 b (.lst ws)) w x [] := tree_kp tw (Kp.put hb2) (fun z hz => absurd hz (by simp))
      have S3 := S2.pin (i := i) (w := xss.set j xs) (by rw [List.set_set]; exact List.getElem?_set_self hi) hv
      rw [List.set_set, List.set_set] at S3
      obtain ⟨Fs', S4, _⟩ := S3.set' l t2 (fun z hz => absurd hz (by simp))
      exact C.nx _ _ _ _ r S4
/-- arguments, the last one new -/
def WAT (env : List (Ent c)) (t : TA) {γ : Type} [Rp c γ] (R : List (Ent c) → γ → Prop) : Prop :=
  ∀ ⦃H0 : Hp⦄ ⦃F0 : List Addr⦄ ⦃Fs : Nat → List Addr⦄ ⦃σ : St⦄ ⦃H : Hp⦄, Sta H0 F0 env Fs σ H → ∀ Q : List V → Hp → Prop, (∀ es w vs v H' as, R es w → Same H H' → ArgsD H' as vs es → tree c H' v w as → as.Nodup → (∀ a ∈ as, H a = none) → Q (vs ++ [v]) H') → t σ H Q
theorem wat_last {R : List (Ent c) → γ → Prop} (h : WE .fr env te fun w : γ => R [] w) : WAT env (tCons te tNil) R := fun _ _ _ _ _ S Q k => h S _ fun w v H1 as r s t o =>
  k [] w [] v H1 as r s trivial t o.1 fun a ha => (o.2 a ha).elim id fun ⟨j, hj, _⟩ => absurd hj (by simp)
theorem wat_cons {t : TA} {R : List (Ent c) → γ → Prop} (h : WE .any env ta fun x : α => WAT env t fun es w => R (.sh x :: es) w) : WAT env (tCons ta t) R := fun _ _ _ _ _ S Q k => h S _ fun x v H1 as r s1 t1 _ =>
  r (S.same s1) _ fun es w vs u H2 bs r2 s2 a2 t2 nd n => k (.sh x :: es) w (v :: vs) u H2 bs r2 (s1.trans s2) ⟨⟨as, tree_same t1 s2, fun b hb hz => tree_dom t1 hb (n b hz)⟩, a2⟩ t2 nd fun a ha => s1.free (n a ha)
theorem we_callT {pre : List (Ent c) → γ → (β → γ → Prop) → Prop} {E : XK} {t : TA} {R : β → Prop} (h : WAT env t fun es w => pre es w fun x _ => R x) : WE m env (tCall (spM c pre) [] E t) R := fun _ _ _ _ _ S Q k => h S _ fun es w vs v H1 as r s a t nd n => by
  rw [List.append_nil]
  refine ⟨vs, v, es, w, as, _, rfl, r, t, nd, a, fun x u H' bs w' as' rx kp tx tw nd' up => ?_⟩
  have s' : Same _ H' := fun b o e => kp.keep b o (s b o e) (.inr fun z => by rw [n b z] at e; cases e)
  refine k x u H' bs rx s' tx (Md.fresh S (List.nodup_append.mp nd').1 fun d hd => ?_)
  rcases up d (List.mem_append_left _ hd) with z | z
  · exact s.free z
  · exact n d z
end
end
/-- a walk from p by the lists w: the roads taken, the lists left, where it ends -/
inductive WkR (rs : List (Int × Int)) : List (List Int) → Int → List Int → List (List Int) → Int → Prop
  | nil {w : List (List Int)} {p : Int} : w.getD p.toNat [] = [] → WkR rs w p [] w p
  | cons {w : List (List Int)} {p r q : Int} {rest path : List Int} {w' : List (List Int)} : w.getD p.toNat [] = r :: rest → WkR rs (w.set p.toNat rest) (en rs r) path w' q → WkR rs w p (r :: path) w' q
theorem WkR.eq {rs : List (Int × Int)} {w w' : List (List Int)} {p q : Int} {path : List Int} (h : WkR rs w p path w' q) : path = walkD rs w p := by
  induction h with
  | nil h => exact (walkD_nil h).symm
  | cons h _ ih => rw [walkD_cons h, ih]
section
variable {c : Ct}
def p_walkon : List (Ent c) → List (List Int) → (List Int → List (List Int) → Prop) → Prop := fun es w R => ∃ (N : NetD) (start : Int), es = [.sh N, .sh start] ∧ (1 ≤ N.n ∧ N.n ≤ 8) ∧ InNet N.n N.rs ∧ N.rs.length ≤ 24 ∧ (0 ≤ start ∧ start < N.n) ∧ (w.length : Int) = N.n ∧
  (∀ row ∈ w, (∀ r ∈ row, 0 ≤ r ∧ r < N.rs.length) ∧ row.length ≤ 24) ∧ ∀ path w' q, WkR N.rs w start path w' q → R path w'
end
end L2

set_option Elab.async false
set_option linter.all false
set_option maxRecDepth 100000
set_option maxHeartbeats 4000000
/-! Own rules, part 20: own exceptions: raised, passed on through a def's frame. -/
namespace L2
open PySem PySem.Spec PyProof.Rows
section
variable {P : Program} {w : World} {H H' : Hp} {h h' : Heap} {a : Addr} {o : HO}
theorem ObjOk.there (x : ObjOk P w H h a o) : ∃ ob, h.get? a = some ob := by
  cases o with
  | lst xs => obtain ⟨_, _, _, _, e⟩ := x; exact ⟨_, e⟩
  | tup xs => obtain ⟨_, _, _, ob, e, _⟩ := x; exact ⟨_, e⟩
  | dK kvs => obtain ⟨_, _, _, _, o, _, _, e, _⟩ := x; exact ⟨_, e⟩
  | dT kvs => obtain ⟨_, _, _, _, o, _, _, e, _⟩ := x; exact ⟨_, e⟩
  | set S n => obtain ⟨o, _, _, _, e, _⟩ := x; exact ⟨_, e⟩
  | ins C dx fs => obtain ⟨_, _, _, e, _⟩ := x; exact ⟨_, e⟩
  | own y => obtain ⟨_, e⟩ := x; exact ⟨_, e⟩
  | xd fs => obtain ⟨_, ⟨_, _, _, e, _⟩, _⟩ := x; exact ⟨_, e⟩
  | rng lo hi => obtain ⟨_, _, _, e⟩ := x; exact ⟨_, e⟩
  | frz ob u => obtain ⟨e, _⟩ := x; exact ⟨_, e⟩
  | tbl ps => exact ⟨_, (show h.get? a = some _ from x)⟩
  | met f y => exact ⟨_, (show h.get? a = some _ from x)⟩
  | ext φ => obtain ⟨_, e, _⟩ := x; exact e
/-- what is tracked is kept: the description holds -/
theorem HOk.on (x : HOk P w H h) (k : ∀ b u o, H b = some u → h.get? b = some o → h'.get? b = some o) : HOk P w H h' := fun a o e =>
  (x a o e).stay (fun b u hb q => by
    rcases hb with rfl | hb
    · exact k _ _ _ e q
    · exact k _ _ _ hb q) (fun _ q => q) fun _ _ q => q
end
/-- what is known of an exception that flies behind a call: B holds all that was, but for the frames -/
structure Fly (P : Program) (w : World) (outer : List Env) (H : Hp) (s : Shared) (E : XK) (e : Value) (s' : Shared) (a : Addr) (cls a0 : Value) (B : Heap) (H' : Hp) : Prop where
  is : e = .ref a
  os : s'.os = s.os
  bare : AllBare s'.gens
  un : Un (frs outer) [] H H' s.heap s'.heap
  hok : HOk P w H' s'.heap
  fly : Heap.FlyingW B outer a cls a0 s'.heap
  trk : ∀ b u, H' b = some u → ∃ o, B.get? b = some o
  old : ∀ b o, s.heap.get? b = some o → H b = none → b ∉ frs outer → B.get? b = some o
  dom : ∀ b u, H b = some u → ∃ u', H' b = some u'
  new : H' a = none
  ok : E cls none H'
def CXX (P : Program) (w : World) : CXT := fun outer H s E e s' => ∃ a cls a0 B H', Fly P w outer H s E e s' a cls a0 B H'
/-- all that was tracked is tracked -/
def Dom (H H' : Hp) : Prop := ∀ b u, H b = some u → ∃ u', H' b = some u'
section
variable {P : Program} {w : World} {K : PySem.W.Frag} {mg : Str → Option Value} {base : Heap} {N : List Str} {qual : Str} {scope : Scope} {f : Addr} {cdv : Value} {A : Around} {outer : List Env} {s0 : Shared} {H0 : Hp} {E : XK}
/-- the frames that run, of a def's body -/
theorem frs_cons {env : Env} {L : Addr} {l : List Env} (hf : env.frame = some L) : frs (env :: l) = L :: frs l := by
  unfold frs
  rw [List.filterMap_cons, hf]
theorem noFields {h : Heap} {B : Heap} {l : List Env} {b : Addr} {o : Obj} (F : h.FunFrames B l) (hb : b ∈ frs l) (e : h.get? b = some o) : ∀ vs, o.data ≠ .fields vs := by
  obtain ⟨_, o', e', hd⟩ := F.mem hb
  rw [e] at e'
  cases e'
  exact hd
/-- an exception made here leaves -/
theorem leave_made {pins : List (Addr × Obj)} {σ : St} {H : Hp} {s : Shared} {h' : Heap} {e : Addr} {cls : Value} {vs : List Value}
    (I : Inv (cxOf (CXX P w) P w K mg base N qual scope f cdv A outer s0 H0 E) pins σ H s) (hx : Heap.MadeExcOf s.heap h' e cls vs) (dom : Dom H0 H) (ok : E cls none H) :
    (cxOf (CXX P w) P w K mg base N qual scope f cdv A outer s0 H0 E).xe (.ref e) { s with heap := h' } := by
  have hL : frs (cxOf (CXX P w) P w K mg base N qual scope f cdv A outer s0 H0 E).stack = s0.heap.objs.size :: frs outer := frs_cons rfl
  have hin : ∀ env ∈ (cxOf (CXX P w) P w K mg base N qual scope f cdv A outer s0 H0 E).stack, ∀ b, env.frame = some b → b ∈ frs (cxOf (CXX P w) P w K mg base N qual scope f cdv A outer s0 H0 E).stack := fun env he b hb => List.mem_filterMap.mpr ⟨env, he, hb⟩
  have FF := I.stack
  have inB : ∀ b o, s.heap.get? b = some o → b ∉ frs (cxOf (CXX P w) P w K mg base N qual scope f cdv A outer s0 H0 E).stack → (PySem.W.hideAll s.heap (frs (cxOf (CXX P w) P w K mg base N qual scope f cdv A outer s0 H0 E).stack)).get? b = some o := fun b o q n => PySem.W.hideAll_get _ q n
  refine wpAny_leaves_madeW (base := PySem.W.hideAll s.heap (frs (cxOf (CXX P w) P w K mg base N qual scope f cdv A outer s0 H0 E).stack)) (outer := outer) (L := s0.heap.objs.size) I.ok.frames rfl (fun b o q => PySem.W.of_hideAll _ q) (PySem.W.funFrames_hide FF hin) hx fun h'' t fl _ _ up => ?_
  have notin : ∀ {b : Addr} {o : Obj}, s0.heap.get? b = some o → b ∉ frs outer → b ∉ frs (cxOf (CXX P w) P w K mg base N qual scope f cdv A outer s0 H0 E).stack := fun {b o} q n z => by
    rw [hL] at z
    rcases List.mem_cons.mp z with y | y
    · exact absurd (Heap.lt_size q) (by rw [y]; exact Nat.lt_irrefl _)
    · exact n y
  have slot' : ∀ {b : Addr} {o : Obj}, b ∈ frs (cxOf (CXX P w) P w K mg base N qual scope f cdv A outer s0 H0 E).stack → s.heap.get? b = some o → ∃ sl, h''.get? b = some { o with slots := sl } := fun {b o} hb q => up b o (hx.keeps b o q) (noFields FF hb q)
  refine ⟨e, cls, .ref t, _, H, ⟨rfl, I.os, I.bare, ⟨fun b o q n hb _ => ?_, fun b o q n hb _ => ?_, fun b o q n _ => I.base.free b o q n (fun z => absurd z (List.not_mem_nil)), fun b o q _ => ?_, I.base.tups, I.base.frzs, I.base.tbls⟩, ?_, fl, fun b u hu => ?_, fun b o q n hb => ?_, dom, ?_, ok⟩⟩
  · exact fl.1 b o (inB b o (I.base.keep b o q n hb (fun z => absurd z (List.not_mem_nil))) (notin q hb))
  · obtain ⟨sl, q1⟩ := I.base.slot b o q n hb (fun z => absurd z (List.not_mem_nil))
    obtain ⟨sl', q2⟩ := slot' (by rw [hL]; exact List.mem_cons_of_mem _ hb) q1
    exact ⟨sl', q2⟩
  · obtain ⟨o', q1⟩ := I.base.there b o q (fun z => absurd z (List.not_mem_nil))
    by_cases hb : b ∈ frs (cxOf (CXX P w) P w K mg base N qual scope f cdv A outer s0 H0 E).stack
    · obtain ⟨sl, q2⟩ := slot' hb q1
      exact ⟨_, q2⟩
    · exact ⟨_, fl.1 b o' (inB b o' q1 hb)⟩
  · refine I.hok.on fun b u o hu q => fl.1 b o (inB b o q fun z => ?_)
    rw [I.stkFree b z] at hu
    cases hu
  · obtain ⟨o, q⟩ := (I.hok b u hu).there
    refine ⟨o, inB b o q fun z => ?_⟩
    rw [I.stkFree b z] at hu
    cases hu
  · exact inB b o (I.base.keep b o q n hb (fun z => absurd z (List.not_mem_nil))) (notin q hb)
  · cases q : H e with
    | none => rfl
    | some u =>
      obtain ⟨o, q1⟩ := (I.hok e u q).there
      rw [hx.new] at q1
      cases q1
/-- an exception of a callee passes on -/
theorem leave_on {pins : List (Addr × Obj)} {σ : St} {H : Hp} {s s' : Shared} {e : Value}
    (I : Inv (cxOf (CXX P w) P w K mg base N qual scope f cdv A outer s0 H0 E) pins σ H s) (dom : Dom H0 H) (hx : CXX P w (cxOf (CXX P w) P w K mg base N qual scope f cdv A outer s0 H0 E).stack H s E e s') :
    (cxOf (CXX P w) P w K mg base N qual scope f cdv A outer s0 H0 E).xe e s' := by
  obtain ⟨a, cls, a0, B, H', F⟩ := hx
  obtain ⟨ie, os, bare, un, hok, fly, trk, old, dom', new, ok⟩ := F
  subst ie
  have hL : frs (cxOf (CXX P w) P w K mg base N qual scope f cdv A outer s0 H0 E).stack = s0.heap.objs.size :: frs outer := frs_cons rfl
  refine wpAny_leaves_onW (outer := outer) (L := s0.heap.objs.size) I.ok.frames rfl fly fun h'' fl up => ?_
  have notin : ∀ {b : Addr} {o : Obj}, s0.heap.get? b = some o → b ∉ frs outer → b ∉ frs (cxOf (CXX P w) P w K mg base N qual scope f cdv A outer s0 H0 E).stack := fun {b o} q n z => by
    rw [hL] at z
    rcases List.mem_cons.mp z with y | y
    · exact absurd (Heap.lt_size q) (by rw [y]; exact Nat.lt_irrefl _)
    · exact n y
  have no : ∀ b : Addr, b ∉ ([] : List Addr) := fun b z => absurd z (List.not_mem_nil)
  have slot' : ∀ {b : Addr} {o : Obj}, b ∈ frs (cxOf (CXX P w) P w K mg base N qual scope f cdv A outer s0 H0 E).stack → s'.heap.get? b = some o → ∃ sl, h''.get? b = some { o with slots := sl } := fun {b o} hb q => up b o q (noFields fly.2.2.1 hb q)
  refine ⟨a, cls, a0, B, H', ⟨rfl, os.trans I.os, bare, ⟨fun b o q n hb _ => ?_, fun b o q n hb _ => ?_, fun b o q n _ => ?_, fun b o q _ => ?_, fun b xs q => un.tups b xs (I.base.tups b xs q), fun b o xs q => un.frzs b o xs (I.base.frzs b o xs q), fun b ps q => ?_⟩, ?_, fl, trk, fun b o q n hb => ?_, fun b u hu => ?_, new, ok⟩⟩
  · exact fl.1 b o (old b o (I.base.keep b o q n hb (no b)) (I.base.free b o q n (no b)) (notin q hb))
  · obtain ⟨sl, q1⟩ := I.base.slot b o q n hb (no b)
    have hb' : b ∈ frs (cxOf (CXX P w) P w K mg base N qual scope f cdv A outer s0 H0 E).stack := by rw [hL]; exact List.mem_cons_of_mem _ hb
    obtain ⟨sl2, q2⟩ := un.slot b _ q1 (I.base.free b o q n (no b)) hb' (no b)
    obtain ⟨sl3, q3⟩ := slot' hb' q2
    exact ⟨sl3, q3⟩
  · obtain ⟨o1, q1⟩ := I.base.there b o q (no b)
    exact un.free b o1 q1 (I.base.free b o q n (no b)) (no b)
  · obtain ⟨o1, q1⟩ := I.base.there b o q (no b)
    cases hb : H b with
    | none =>
      by_cases hs : b ∈ frs (cxOf (CXX P w) P w K mg base N qual scope f cdv A outer s0 H0 E).stack
      · obtain ⟨sl2, q2⟩ := un.slot b _ q1 hb hs (no b)
        obtain ⟨sl3, q3⟩ := slot' hs q2
        exact ⟨_, q3⟩
      · exact ⟨_, fl.1 b o1 (old b o1 q1 hb hs)⟩
    | some u =>
      obtain ⟨u', hu⟩ := dom' b u hb
      obtain ⟨o2, q2⟩ := trk b u' hu
      exact ⟨_, fl.1 b o2 q2⟩
  · obtain ⟨m1, e1⟩ := I.base.tbls b ps q
    obtain ⟨m2, e2⟩ := un.tbls b _ e1
    exact ⟨m1 ++ m2, by rw [e2, Array.append_assoc]⟩
  · refine hok.on fun b u o hu q => ?_
    obtain ⟨o2, q2⟩ := trk b u hu
    have := fly.1 b o2 q2
    rw [q] at this
    cases this
    exact fl.1 b o q2
  · exact old b o (I.base.keep b o q n hb (no b)) (I.base.free b o q n (no b)) (notin q hb)
  · obtain ⟨u1, h1⟩ := dom b u hu
    exact dom' b u1 h1
end
/-! ### raise -/
abbrev VE : List Value := [.type "ValueError", .type "Exception", .type "BaseException", .type "object"]
/-- an own class of refusals without an __init__ of its own -/
def XCls (K : PySem.W.Frag) (C : Addr) : Prop := PySem.W.excIn K C VE "ValueError.__new__" = true
theorem XCls.obj {K : PySem.W.Frag} {C : Addr} (q : XCls K C) {h : Heap} (X : K.In h) : ∃ bm N nm q bs hdct sn sub ab col dd k0 k1 k2 k3 k5 mN,
    h.get? C = some (excClassObj nm q C N bs bm hdct sn sub ab col dd k0 k1 k2 k3 k5 "ValueError.__new__") ∧ h.Ns N mN ∧ mN "__init__" = none ∧ OwnTail h VE bm := by
  unfold XCls PySem.W.excIn at q
  split at q
  · rename_i dd cd sl ho
    split at q
    · rename_i C' bm k0 k1 k2 k3 n k5 hm hs
      simp only [Bool.and_eq_true, beq_iff_eq, Bool.not_eq_true'] at q
      obtain ⟨⟨⟨⟨⟨rfl, rfl⟩, hdel⟩, ht⟩, hok⟩, hni⟩ := q
      obtain ⟨nm, bs, mro, ns, qn, hd, sn, sub, ab, col, del⟩ := cd
      dsimp only at hm hdel hok hni
      subst hm hdel
      have hsl : sl = #[k0, k1, k2, k3, some (.builtin "ValueError.__new__"), k5] := by
        obtain ⟨l⟩ := sl
        simp only at hs
        rw [hs]
      subst hsl
      exact ⟨bm, ns, nm, qn, bs, hd, sn, sub, ab, col, dd, k0, k1, k2, k3, k5, _, X _ _ ho, .of_isNs (PySem.W.isNs_of_in X hok), PySem.W.nsMap_none_of_in X hok hni, PySem.W.tail_of_in X ht⟩
    · cases q
  · cases q
/-- what an exception made here must meet -/
def Made (X : Cx) (C : Addr) (G : St → Hp → Prop) : Prop := ∀ (pins : List (Addr × Obj)) (σ : St) (H : Hp) (s : Shared) (h' : Heap) (e : Addr) (vs : List Value), Inv X pins σ H s → G σ H → Heap.MadeExcOf s.heap h' e (.ref C) vs → X.xe (.ref e) { s with heap := h' }
def tRaise (t : TA) (G : St → Hp → Prop) : TS := fun _ σ H => t σ H fun vs H1 => vs.length ≤ sizeLine ∧ G σ H1
theorem ps_raise {X : Cx} {C : Addr} {x : Str} {np cpos pos : Pos} {e : Expr} {es : List Expr} {t : TA} {G : St → Hp → Prop} (hc : X.calm = true) (xc : XCls X.K C) (hg : Gl X x) (hm : X.mg x = some (.ref C)) (ha : PA X (e :: es) t) (hX : Made X C G)
    (hdb : (x == ("__debug__" : Str)) = false := by decide) (he : starEach (e :: es) X.env = (false, eval e X.env) :: starEach es X.env := by rfl) (hpl : (backTo cpos (starEach es X.env)).any (·.1) = false := by rfl) :
    PS X (.Raise (some (.Call (.Name x np) (e :: es) [] cpos)) none pos) (tRaise t G) := by
  intro pins s σ H D I h
  obtain ⟨bm, N, nm, q, bs, hdct, sn, sub, ab, col, dd, k0, k1, k2, k3, k5, mN, hC, hN, hni, T⟩ := xc.obj I.mod.kin
  have hbase : VE.contains (.type "BaseException") = true := by decide
  refine wpAny_Raise_call_subT (C := C) (nm := nm) (q := q) (N := N) (bs := bs) (bm := bm) (hdct := hdct) (sn := sn) (sub := sub) (ab := ab) (col := col) (dd := dd) (k0 := k0) (k1 := k1) (k2 := k2) (k3 := k3) (k5 := k5) (bmB := VE)
    PySem.F.excBase_ValueError (mN := mN) (T.hasType hbase) (I.ok.hd hc) (by rw [he]; show (false || (backTo cpos (starEach es X.env)).any (·.1)) = false; rw [hpl]; rfl) hni (ld_glob I hg hm ⟨rfl, ?_⟩ hdb)
  have h2 := ha cpos pins s σ H _ I h
  rw [he] at h2 ⊢
  refine Calls.evalArgs_plain (thn h2 fun us s1 ⟨vs, H1, I1, r, hl, g⟩ => ?_)
  exact ⟨rfl, by rw [← r.length]; exact hl, I1.bk _ _ hC, hN.keeps I1.bk, T.keeps I1.bk, fun h' e hm => hX pins σ H1 s1 h' e us I1 g hm⟩
/-- in a def's body -/
theorem made_def {P : Program} {w : World} {K : PySem.W.Frag} {mg : Str → Option Value} {base : Heap} {N : List Str} {qual : Str} {scope : Scope} {f : Addr} {cdv : Value} {A : Around} {outer : List Env} {s0 : Shared} {H0 : Hp} {E : XK} {C : Addr} :
    Made (cxOf (CXX P w) P w K mg base N qual scope f cdv A outer s0 H0 E) C (fun _ H => Dom H0 H ∧ E (.ref C) none H) := fun _ _ _ _ _ _ _ I g hm => leave_made I hm g.1 g.2
/-! ### calls that may raise -/
/-- an exception of a callee reaches what this body wants, where G holds ahead of the call -/
def PassesG (CX : CXT) (X : Cx) (E : XK) (G : St → Hp → Prop) : Prop := ∀ (pins : List (Addr × Obj)) (σ : St) (H : Hp) (s : Shared) (e : Value) (s' : Shared), Inv X pins σ H s → G σ H → CX X.stack H s E e s' → X.xe e s'
theorem passG_def {P : Program} {w : World} {K : PySem.W.Frag} {mg : Str → Option Value} {base : Heap} {N : List Str} {qual : Str} {scope : Scope} {f : Addr} {cdv : Value} {A : Around} {outer : List Env} {s0 : Shared} {H0 : Hp} {E : XK} :
    PassesG (CXX P w) (cxOf (CXX P w) P w K mg base N qual scope f cdv A outer s0 H0 E) E (fun _ H => Dom H0 H) := fun _ _ _ _ _ _ I g hx => leave_on I g hx
section
variable {X : Cx} {CX : CXT} {k : Nat} {f C : Addr} {fd : FuncData} {ps : List Str} {sp : Sp} {dvs : List V} {ds : List Value} {E : XK} {G : St → Hp → Prop} {x m : Str} {p pos apos : Pos} {e o : Expr} {es : List Expr} {ta : TE} {t : TA}
theorem run_fnG {pins : List (Addr × Obj)} {σ : St} {H : Hp} {s : Shared} {Q : VK} {us : List Value} {vs : List V} (F : FnOk X.prog X.w X.K X.mg X.base CX k f fd ps sp) (hr : Room k X.A) (hb : Binds X.K fd ps ds) (hd : Vals dvs ds) (hx : PassesG CX X E G)
    (I : Inv X pins σ H s) (g : G σ H) (r : Vals vs us) (h : sp (vs ++ dvs) H Q E) : wpAny (model X.prog X.w) X.A (call (.ref f) us) (EP X pins σ Q) X.xe s := by
  have r2 : Vals (vs ++ dvs) (us ++ ds) := r.append hd
  have hl : (us ++ ds).length = ps.length := by rw [← r2.length]; exact F.len _ _ _ _ h
  refine wpAny_call (codeAny_mono (F.run X.A X.stack s H ⟨us, []⟩ (us ++ ds) (vs ++ dvs) Q E hr I.env0 (hb s us I.kIn hl) r2 h) fun r s' hq => ?_)
  cases r with
  | error e => exact hx pins σ H s e s' I g hq
  | ok fl =>
    cases fl with
    | ret u => exact I.after hq
    | next => exact False.elim hq
    | brk => exact False.elim hq
    | cont => exact False.elim hq
def tCallG (sp : Sp) (dvs : List V) (E : XK) (G : St → Hp → Prop) (t : TA) : TE := fun σ H Q => t σ H fun vs H1 => G σ H1 ∧ sp (vs ++ dvs) H1 Q E
theorem pe_callG (F : FnOk X.prog X.w X.K X.mg X.base CX k f fd ps sp) (hr : Room k X.A) (hg : Gl X x) (hm : X.mg x = some (.ref f)) (hk : PySem.W.keepIn X.K (.ref f) = true) (hb : Binds X.K fd ps ds) (hd : Vals dvs ds) (hx : PassesG CX X E G)
    (ha : PA X (e :: es) t) (hdb : (x == ("__debug__" : Str)) = false := by decide) (he : starEach (e :: es) X.env = (false, eval e X.env) :: starEach es X.env := by rfl) (hpl : (backTo pos (starEach es X.env)).any (·.1) = false := by rfl) :
    PE X (.Call (.Name x p) (e :: es) [] pos) (tCallG sp dvs E G t) := by
  intro pins s σ H Q I h
  refine wpAny_Call_Name_kw (ld_glob I hg hm ?_ hdb)
  refine PySem.W.callWith_K (h₀ := X.base) I.ok.mod.kin hk (thn (ha pos pins s σ H _ I h) fun us s1 ⟨vs, H1, I1, r, g, q⟩ => ⟨I1.kIn, ?_⟩) he hpl
  exact run_fnG F hr hb hd hx I1 g r q
def tMethG (C : Addr) (m : Str) (sp : Sp) (dvs : List V) (E : XK) (G : St → Hp → Prop) (ta : TE) (t : TA) : TE := fun σ H Q => ta σ H fun x H1 => ∃ a dx fs, x = .ref a ∧ H1 a = some (.ins C dx fs) ∧ fs.lookup m = none ∧
  t σ H1 fun vs H2 => G σ H2 ∧ sp (x :: (vs ++ dvs)) H2 Q E
theorem pe_methG {pl : Sem Bool} (he : PE X o ta) (c : Cls X.K C) (hm : Meth X.K C m f) (F : FnOk X.prog X.w X.K X.mg X.base CX k f fd ps sp) (hr : Room k X.A) (hb : Binds X.K fd ps ds) (hd : Vals dvs ds) (hx : PassesG CX X E G) (ha : PA X (e :: es) t)
    (hst : starEach (e :: es) X.env = (false, eval e X.env) :: starEach es X.env := by rfl) (hpl : (backTo pos (starEach es X.env)).any (·.1) = false := by rfl)
    (ht : eval (.Call (.Attribute o m apos) (e :: es) [] pos) X.env = (do
      let ov ← eval o X.env
      standAt apos.atName
      let (f, first) ← holding [ov] (getMethod ov m pl)
      callWith pos f first (backTo pos (starEach (e :: es) X.env)) (backToKw pos (keywordEach [] X.env))) := by rfl) :
    PE X (.Call (.Attribute o m apos) (e :: es) [] pos) (tMethG C m sp dvs E G ta t) := by
  intro pins s σ H Q I h
  refine PySem.W.methodCall_KW (pl := pl) (thn (he pins s σ H _ I h) fun u s1 ⟨x, H1, I1, rx, a, dx, fs, ex, ea, l, q⟩ => ?_) ht
  subst ex
  obtain rfl : u = Value.ref a := rx
  refine getmeth_ok I1 ea c hm l ?_
  refine PySem.W.callWith_K (first := [.ref a]) (h₀ := X.base) I.ok.mod.kin hm.kp (thn (ha pos pins s1 σ H1 _ I1 q) fun us s2 ⟨vs, H2, I2, r, g, q2⟩ => ⟨I2.kIn, ?_⟩) hst hpl
  exact run_fnG (us := .ref a :: us) (vs := .ref a :: vs) F hr hb hd hx I2 g (.cons rfl r) q2
end
/-- THE RULE for a def that may raise -/
theorem Fun.okX {P : Program} {w : World} {K : PySem.W.Frag} {mg : Str → Option Value} {base : Heap} {x qual : Str} {st : Stmt} {f : Addr} {fd : FuncData} {N ps : List Str} {k : Nat} {sp : Sp} (F : Fun K x qual st f fd) (S : FnScope N ps (defScope st)) (len : ∀ vs H Q E, sp vs H Q E → vs.length = ps.length)
    (hbody : ∀ (cdv : Value) (A : Around) (outer : List Env) (s : Shared) (H : Hp) (vs : List V) (Q : VK) (E : XK), Room k (A.deeper (envOfC qual (defScope st) s.heap.objs.size f cdv)) → sp vs H Q E →
      ∃ t, PSs (cxOf (CXX P w) P w K mg base N qual (defScope st) f cdv A outer s H E) (defBody st) t ∧ t { nx := fun _ H' => Q .non H', rt := Q } (start N vs) H) : FnOk P w K mg base (CXX P w) (k + 1) f fd ps sp := by
  obtain ⟨oc, od, kV, doc, pm, an, cdv, ct, osl, rfl, lk, hcd⟩ := F.ex
  exact fn_of lk hcd S len fun A outer s H vs Q E hr hsp => hbody cdv A outer s H vs Q E hr hsp
end L2

set_option Elab.async false
set_option linter.all false
set_option maxRecDepth 100000
set_option maxHeartbeats 4000000
/-! Own rules, part 21: try, except an own class. -/
namespace L2
open PySem PySem.Spec PyProof.Rows
/-- the state as the exception lands -/
theorem land {X : Cx} {pins : List (Addr × Obj)} {σ : St} {H1 : Hp} {s1 : Shared} (I : Inv X pins σ H1 s1) {E : XK} {e : Value} {s' : Shared} {a : Addr} {cls a0 : Value} {B : Heap} {H' : Hp} (F : Fly X.prog X.w X.stack H1 s1 E e s' a cls a0 B H')
    {h : Heap} (st : B.StaysIn h) (up : s'.heap.UpToSlots h) : Inv X pins σ H' { s' with heap := h } := by
  have no : ∀ b : Addr, b ∉ ([] : List Addr) := fun b z => absurd z (List.not_mem_nil)
  have slot' : ∀ {b : Addr} {o : Obj}, b ∈ frs X.stack → s'.heap.get? b = some o → ∃ sl, h.get? b = some { o with slots := sl } := fun {b o} hb q => up b o q (noFields F.fly.2.2.1 hb q)
  refine I.call' (ch := []) F.os ⟨fun b o q n hb _ => st b o (F.old b o q n hb), fun b o q n hb _ => ?_, F.un.free, fun b o q _ => ?_, F.un.tups, F.un.frzs, F.un.tbls⟩ (F.hok.on fun b u o hu q => ?_) F.bare (fun b z => absurd z (no b))
  · obtain ⟨sl2, q2⟩ := F.un.slot b o q n hb (no b)
    obtain ⟨sl3, q3⟩ := slot' hb q2
    exact ⟨sl3, q3⟩
  · cases hb : H1 b with
    | none =>
      by_cases hs : b ∈ frs X.stack
      · obtain ⟨sl2, q2⟩ := F.un.slot b o q hb hs (no b)
        obtain ⟨sl3, q3⟩ := slot' hs q2
        exact ⟨_, q3⟩
      · exact ⟨_, st b o (F.old b o q hb hs)⟩
    | some u =>
      obtain ⟨u', hu⟩ := F.dom b u hb
      obtain ⟨o2, q2⟩ := F.trk b u' hu
      exact ⟨_, st b o2 q2⟩
  · obtain ⟨o2, q2⟩ := F.trk b u hu
    have := F.fly.1 b o2 q2
    rw [q] at this
    cases this
    exact st b o q2
/-- the context of a try's body: the exceptions are wanted -/
abbrev tryCx (X : Cx) (pins : List (Addr × Obj)) (σ : St) (E : XK) : Cx := { X with pn := X.pn ++ pins, xe := fun e s' => ∃ H1 s1, Inv X pins σ H1 s1 ∧ CXX X.prog X.w X.stack H1 s1 E e s' }
/-- the context of an except suite -/
abbrev supCx (X : Cx) (a : Addr) : Cx := { X with A := X.A.mark (some (.ref a)), calm := false, xe := fun _ _ => False }
section
variable {X : Cx}
theorem Inv.toTry {pins : List (Addr × Obj)} {σ σ' : St} {H : Hp} {s : Shared} {E : XK} (I : Inv X pins σ H s) : Inv (tryCx X pins σ' E) [] σ H s :=
  ⟨⟨I.ok.mod, I.ok.kind, I.ok.glob, I.ok.blt, I.ok.above, I.ok.inj, I.ok.has, I.ok.cab, I.ok.hd, I.ok.frames, I.ok.stk, I.ok.exf, I.ok.bs, I.ok.bsz, I.ok.noex, I.ok.exfs, I.ok.funs, I.ok.frf⟩, I.os, I.bare, I.base, I.loc, I.cell, I.free, I.freeC,
    fun p hp => I.pin p (by rw [List.append_nil] at hp; exact hp), I.hok, I.len⟩
theorem Inv.ofTry {pins pins' : List (Addr × Obj)} {σ σ' : St} {H : Hp} {s : Shared} {E : XK} (I : Inv (tryCx X pins σ' E) pins' σ H s) : Inv X pins σ H s :=
  ⟨⟨I.ok.mod, I.ok.kind, I.ok.glob, I.ok.blt, I.ok.above, I.ok.inj, I.ok.has, I.ok.cab, I.ok.hd, I.ok.frames, I.ok.stk, I.ok.exf, I.ok.bs, I.ok.bsz, I.ok.noex, I.ok.exfs, I.ok.funs, I.ok.frf⟩, I.os, I.bare, I.base, I.loc, I.cell, I.free, I.freeC,
    fun p hp => I.pin p (List.mem_append_left _ hp), I.hok, I.len⟩
theorem Inv.toSup {pins : List (Addr × Obj)} {σ : St} {H : Hp} {s : Shared} (a : Addr) (I : Inv X pins σ H s) : Inv (supCx X a) pins σ H s :=
  ⟨⟨I.ok.mod, I.ok.kind, I.ok.glob, I.ok.blt, I.ok.above, I.ok.inj, I.ok.has, I.ok.cab, fun z => absurd (show false = true from z) Bool.false_ne_true, I.ok.frames, I.ok.stk, I.ok.exf, I.ok.bs, I.ok.bsz, I.ok.noex, I.ok.exfs, I.ok.funs, I.ok.frf⟩, I.os, I.bare, I.base, I.loc, I.cell, I.free, I.freeC, I.pin, I.hok, I.len⟩
theorem Inv.ofSup {pins : List (Addr × Obj)} {σ : St} {H : Hp} {s : Shared} {a : Addr} (ok : X.Ok) (I : Inv (supCx X a) pins σ H s) : Inv X pins σ H s :=
  ⟨ok, I.os, I.bare, I.base, I.loc, I.cell, I.free, I.freeC, I.pin, I.hok, I.len⟩
theorem SP.ofSup {pins : List (Addr × Obj)} {a : Addr} {D : Ends} {f : Flow} {s : Shared} (ok : X.Ok) (h : SP (supCx X a) pins D f s) : SP X pins D f s := by
  cases f with
  | next => obtain ⟨σ', H', I, q⟩ := h; exact ⟨σ', H', I.ofSup ok, q⟩
  | brk => obtain ⟨σ', H', I, q⟩ := h; exact ⟨σ', H', I.ofSup ok, q⟩
  | cont => obtain ⟨σ', H', I, q⟩ := h; exact ⟨σ', H', I.ofSup ok, q⟩
  | ret u => obtain ⟨v, σ', H', I, r, q⟩ := h; exact ⟨v, σ', H', I.ofSup ok, r, q⟩
/-! ### the classes -/
theorem excMatches_own {M : Model} {A : Around} {E : Value → Shared → Prop} {K : PySem.W.Frag} {C D : Addr} {b : Bool} (xC : XCls K C) (xD : XCls K D) (sub : PySem.W.mroIn K D (.ref C) = some b) {s : Shared} (X : K.In s.heap) {e : Addr} {oe : Obj}
    (he : s.heap.get? e = some oe) (hcls : oe.cls = .ref D) {Q : Bool → Shared → Prop} (hq : Q b s) : wpAny M A (excMatches (.ref e) (.ref C)) Q E s := by
  obtain ⟨bm, N, nm, q, bs, hdct, sn, sub1, ab, col, dd, k0, k1, k2, k3, k5, mN, hC, hN, hni, T⟩ := xC.obj X
  obtain ⟨bmD, ND, nmD, qD, bsD, hdctD, snD, subD, abD, colD, ddD, k0D, k1D, k2D, k3D, k5D, mND, hD, hND, hniD, TD⟩ := xD.obj X
  have hb : (Value.ref D :: bmD).contains (.ref C) = b := by
    unfold PySem.W.mroIn at sub
    obtain ⟨cd, a1, a2⟩ := Option.bind_eq_some_iff.mp sub
    unfold PySem.W.clsIn at a1
    split at a1
    · rename_i ho
      have z := X _ _ ho
      rw [hD] at z
      cases z
      cases a1
      simpa using a2
    · cases a1
  have hcB : (Value.ref C :: bm).contains (.type "BaseException") = true := by rw [List.contains_cons, T.hasType (show VE.contains (.type "BaseException") = true by decide), Bool.or_true]
  have f := tc_notTuple
  obtain ⟨h, g, d, t, os⟩ := s
  unfold excMatches
  repeat (first | (with_reducible refine wpAny_loadPart_at he ?_; rw [hcls]) | with_reducible refine wpAny_loadPart_at hC ?_ | (with_reducible refine wpAny_isSubtype_exc hC ?_; rw [hcB]) | (with_reducible refine wpAny_isSubtype_exc hD ?_; rw [hb]) | wp_step)
  cases b <;> (wp_walk; exact hq)
/-- the handlers, for an exception of the class at D -/
def HD (X : Cx) (hs : List ExceptHandler) (D : Addr) (t : TS) : Prop := ∀ (pins : List (Addr × Obj)) (s1 : Shared) (σ : St) (H1 : Hp) (E : XK) (e : Value) (s' : Shared) (a : Addr) (a0 : Value) (B : Heap) (H' : Hp) (h : Heap) (De : Ends),
  Inv X pins σ H1 s1 → Fly X.prog X.w X.stack H1 s1 E e s' a (.ref D) a0 B H' → Heap.FlyingW B X.stack a (.ref D) a0 h → s'.heap.UpToSlots h → t De σ H' → wpAny (model X.prog X.w) X.A (handleBy (.ref a) X.env hs) (SP X pins De) X.xe { s' with heap := h }
end
end L2

set_option Elab.async false
set_option linter.all false
set_option maxRecDepth 100000
set_option maxHeartbeats 4000000
/-! Own rules, part 22: except .. as e, isinstance(e, C). -/
namespace L2
open PySem PySem.Spec PyProof.Rows
/-- an exception of the own class at D -/
def XO (a D : Addr) : HO := .ext fun h => ∃ o, h.get? a = some o ∧ o.cls = .ref D
theorem xo_ok {P : Program} {w : World} {H : Hp} {h : Heap} {a D : Addr} {o : Obj} (e : h.get? a = some o) (c : o.cls = .ref D) : ObjOk P w H h a (XO a D) :=
  ⟨⟨o, e, c⟩, ⟨o, e⟩, fun h1 h2 ⟨o, e, c⟩ k => ⟨o, k _ e, c⟩⟩
section
variable {X : Cx}
/-- an exception that flies is new -/
theorem Fly.fresh {H1 : Hp} {s1 : Shared} {E : XK} {e : Value} {s' : Shared} {a : Addr} {cls a0 : Value} {B : Heap} {H' : Hp} (F : Fly X.prog X.w X.stack H1 s1 E e s' a cls a0 B H') : s1.heap.get? a = none := by
  cases q : s1.heap.get? a with
  | none => rfl
  | some o =>
    exfalso
    cases hb : H1 a with
    | some u =>
      obtain ⟨u', hu⟩ := F.dom a u hb
      rw [F.new] at hu
      cases hu
    | none =>
      by_cases hs : a ∈ frs X.stack
      · obtain ⟨oe, vs, T, oT, ts, he, _, hd, _⟩ := F.fly.2.2.2
        exact noFields F.fly.2.2.1 hs he vs hd
      · have := F.old a o q hb hs
        rw [F.fly.2.1] at this
        cases this
/-- the state as the exception lands, with the exception -/
theorem landX {pins : List (Addr × Obj)} {σ : St} {H1 : Hp} {s1 : Shared} (I : Inv X pins σ H1 s1) {E : XK} {e : Value} {s' : Shared} {a D : Addr} {a0 : Value} {B : Heap} {H' : Hp} (F : Fly X.prog X.w X.stack H1 s1 E e s' a (.ref D) a0 B H')
    {h : Heap} (st : B.StaysIn h) (up : s'.heap.UpToSlots h) {o : Obj} (ha : h.get? a = some o) (hc : o.cls = .ref D) : Inv X pins σ (upd H' a (XO a D)) { s' with heap := h } := by
  have no : ∀ b : Addr, b ∉ ([] : List Addr) := fun b z => absurd z (List.not_mem_nil)
  have slot' : ∀ {b : Addr} {o : Obj}, b ∈ frs X.stack → s'.heap.get? b = some o → ∃ sl, h.get? b = some { o with slots := sl } := fun {b o} hb q => up b o q (noFields F.fly.2.2.1 hb q)
  have nw : ∀ {b : Addr} {o : Obj}, s1.heap.get? b = some o → b ≠ a := fun {b o} q z => by
    rw [z, F.fresh] at q
    cases q
  refine I.call' (ch := []) F.os ⟨fun b o q n hb _ => st b o (F.old b o q n hb), fun b o q n hb _ => ?_, fun b o q n _ => ?_, fun b o q _ => ?_, fun b xs q => ?_, fun b o xs q => ?_, fun b ps q => ?_⟩ (fun b u hu => ?_) F.bare (fun b z => absurd z (no b))
  · obtain ⟨sl2, q2⟩ := F.un.slot b o q n hb (no b)
    obtain ⟨sl3, q3⟩ := slot' hb q2
    exact ⟨sl3, q3⟩
  · rw [upd_ne (nw q)]
    exact F.un.free b o q n (no b)
  · cases hb : H1 b with
    | none =>
      by_cases hs : b ∈ frs X.stack
      · obtain ⟨sl2, q2⟩ := F.un.slot b o q hb hs (no b)
        obtain ⟨sl3, q3⟩ := slot' hs q2
        exact ⟨_, q3⟩
      · exact ⟨_, st b o (F.old b o q hb hs)⟩
    | some u =>
      obtain ⟨u', hu⟩ := F.dom b u hb
      obtain ⟨o2, q2⟩ := F.trk b u' hu
      exact ⟨_, st b o2 q2⟩
  · have := F.un.tups b xs q
    rw [upd_ne (ne_of_none this F.new)]
    exact this
  · have := F.un.frzs b o xs q
    rw [upd_ne (ne_of_none this F.new)]
    exact this
  · obtain ⟨m, this⟩ := F.un.tbls b ps q
    exact ⟨m, by rw [upd_ne (ne_of_none this F.new)]; exact this⟩
  · by_cases hb : b = a
    · subst hb
      rw [upd_same] at hu
      cases hu
      exact xo_ok ha hc
    · rw [upd_ne hb] at hu
      refine (F.hok b u hu).stay (fun c v hcv q => ?_) (fun c q => by rw [upd_ne (ne_of_none q F.new)]; exact q) fun c xs q => by rw [upd_ne (ne_of_none q F.new)]; exact q
      have : ∃ u', H' c = some u' := by
        rcases hcv with rfl | z
        · exact ⟨_, hu⟩
        · exact ⟨_, z⟩
      obtain ⟨u', hu'⟩ := this
      obtain ⟨o2, q2⟩ := F.trk c u' hu'
      have := F.fly.1 c o2 q2
      rw [q] at this
      cases this
      exact st c _ q2
/-- behind the suite the name goes -/
theorem unbind_ok {pins : List (Addr × Obj)} {σ : St} {H : Hp} {s : Shared} {M : Model} {A : Around} {E : Value → Shared → Prop} {i : Nat} {x : Str} {pos : Pos} {Q : Unit → Shared → Prop} (I : Inv X pins σ H s) (hN : X.N.Nodup) (hi : X.N[i]? = some x) (hx : X.env.scope.names.lookup x = some .local)
    (h : ∀ s', Inv X pins (σ.set i none) H s' → Q () s') : wpAny M A (do bindName X.env x .none; unbindBehindTheSuite X.env x pos) Q E s := by
  refine wpAny_bind (wpAny_bindName (store_ok (v := .non) I hN hi (.inl hx) rfl (fun s1 I1 => ?_) (.inr hx)))
  have hcls : (X.env.scope.kind == .class || (X.env.scope.kind == .module && X.env.locals != X.env.globals)) = false := by rw [I.ok.kind]; rfl
  have hiσ : i < σ.length := by rw [I.len]; exact (List.getElem?_eq_some_iff.mp hi).1
  obtain ⟨m, hn, hl⟩ := id I1.loc
  obtain ⟨u, r, lk⟩ := hl i x .non hi (List.getElem?_set_self hiσ) (by first | exact .inl (.inl hx) | exact .inl hx | exact Or.inl hx)
  have cne := I1.cne
  unfold unbindBehindTheSuite
  have hm : m x = some u := by
    rcases lk with ⟨_, z⟩ | ⟨k, _⟩
    · exact z
    · have hx' : X.env.kindOf x = some .local := hx
      rw [hx'] at k
      rcases k with k | k <;> cases k
  refine wpAny_onRaise (wpAny_unbindName_local hx hn hm hcls fun h' u' hn' hs => ?_)
  obtain ⟨oL, _, _, hoL, _⟩ := id hn
  refine h _ ⟨I1.ok, I1.os, I1.bare, ⟨fun b o e n hb hx => ?_, fun b o e n hb hx => ?_, I1.base.free, fun b o e hx => ?_, I1.base.tups, I1.base.frzs, I1.base.tbls⟩, ⟨_, hn', fun j y v' e1 e2 e3 => ?_⟩, fun y c e => ?_, I1.free, I1.freeC, fun p hp => ?_, fun b ob e => ?_, by simpa using I.len⟩
  · exact (hs.2 b (Nat.ne_of_lt (Nat.lt_of_lt_of_le (Heap.lt_size e) I.ok.above))).trans (I1.base.keep b o e n hb hx)
  · obtain ⟨sl, e1⟩ := I1.base.slot b o e n hb hx
    exact ⟨sl, (hs.2 b (Nat.ne_of_lt (Nat.lt_of_lt_of_le (Heap.lt_size e) I.ok.above))).trans e1⟩
  · obtain ⟨o', e1⟩ := I1.base.there b o e hx
    exact ⟨o', (hs.2 b (Nat.ne_of_lt (Nat.lt_of_lt_of_le (Heap.lt_size e) I.ok.above))).trans e1⟩
  · by_cases hj : j = i
    · subst hj
      rw [List.getElem?_set_self hiσ] at e2
      cases e2
    · rw [List.getElem?_set_ne (Ne.symm hj)] at e2
      obtain ⟨u', r', q⟩ := hl j y v' e1 (by rw [List.getElem?_set_ne (Ne.symm hj)]; exact e2) e3
      refine ⟨u', r', ?_⟩
      rcases q with ⟨k, e⟩ | ⟨k, c, e, z⟩
      · refine .inl ⟨k, ?_⟩
        have : y ≠ x := fun e => hj (nodup_ix hN e1 (e ▸ hi))
        simp [this, e]
      · exact .inr ⟨k, c, e, z.sameBut hs (cne y c e)⟩
  · obtain ⟨w', z⟩ := I1.cell y c e
    exact ⟨w', z.sameBut hs (cne y c e)⟩
  · obtain ⟨e, n, ne, nf, d⟩ := I1.pin p hp
    exact ⟨(hs.2 p.1 ne).trans e, n, ne, nf, d⟩
  · refine (I1.hok b ob e).stay (fun c w' hc q => (hs.2 c ?_).trans q) (fun _ q => q) fun _ _ q => q
    rintro rfl
    rcases hc with hc | hc
    · rw [← hc, I1.free] at e; cases e
    · rw [I1.free] at hc; cases hc
/-- what is wanted behind a suite whose name goes -/
def goEnds (i : Nat) (D : Ends) : Ends := { nx := fun σ H => D.nx (σ.set i none) H, rt := D.rt, bk := fun σ H => D.bk (σ.set i none) H, ct := fun σ H => D.ct (σ.set i none) H }
/-- a handler with a name, of the class -/
def tAs (i : Nat) (D : Addr) (t : TS) : TS := fun De σ H => ∀ a, H a = none → t (goEnds i De) (σ.set i (some (.ref a))) (upd H a (XO a D))
theorem hd_as {i : Nat} {x n : Str} {np pos : Pos} {C D : Addr} {b₀ : Stmt} {suite : List Stmt} {rest : List ExceptHandler} {t : TS} (hg : Gl X x) (hm : X.mg x = some (.ref C)) (xC : XCls X.K C) (xD : XCls X.K D) (sub : PySem.W.mroIn X.K D (.ref C) = some true)
    (hN : X.N.Nodup) (hi : X.N[i]? = some n) (hx : X.env.scope.names.lookup n = some .local) (hs : ∀ a, PSs (supCx X a) (b₀ :: suite) t) (hdb : (x == ("__debug__" : Str)) = false := by decide) : HD X (.ExceptHandler (some (.Name x np)) (some n) (b₀ :: suite) pos :: rest) D (tAs i D t) := by
  intro pins s1 σ H1 E e s' a a0 B H' h De I F fl up ht
  have I2 := land I F fl.1 up
  obtain ⟨oe, he, hc⟩ := fl.there
  refine wpAny_handleBy_cons (codeAny_handlers_test (ld_glob (X := supCx X a) (I2.toSup a) hg hm ?_ hdb)) (by intro q; cases q)
  refine excMatches_own xC xD sub I2.kIn he hc (codeAny_handlers_suite_as ?_)
  refine lands_againW fl fun h2 fl2 up2 => ?_
  obtain ⟨oe2, he2, hc2⟩ := fl2.there
  have I3 := landX I F fl2.1 (up.trans up2) he2 hc2
  refine store_ok (X := supCx X a) (v := .ref a) (I3.toSup a) hN hi (.inl hx) rfl (fun s4 I4 => ?_) (.inr hx)
  refine wpAny_mono (hs a pins _ _ _ (goEnds i De) I4 (ht a F.new)) (fun f s5 hf => ?_) fun _ _ z => False.elim z
  have hf' := hf.ofSup I.ok
  cases f with
  | next => obtain ⟨σ', H', I5, q⟩ := hf'; exact unbind_ok I5 hN hi hx fun s6 I6 => ⟨_, _, I6, q⟩
  | brk => obtain ⟨σ', H', I5, q⟩ := hf'; exact unbind_ok I5 hN hi hx fun s6 I6 => ⟨_, _, I6, q⟩
  | cont => obtain ⟨σ', H', I5, q⟩ := hf'; exact unbind_ok I5 hN hi hx fun s6 I6 => ⟨_, _, I6, q⟩
  | ret u => obtain ⟨v, σ', H', I5, r, q⟩ := hf'; exact unbind_ok I5 hN hi hx fun s6 I6 => ⟨v, _, _, I6, r, q⟩
end
/-! ### isinstance(e, C), where it is one -/
section
variable {K : PySem.W.Frag}
end
end L2

set_option Elab.async false
set_option linter.all false
set_option maxRecDepth 100000
set_option maxHeartbeats 4000000
/-! Own rules, part 23: exceptions over data. -/
namespace L2
open PySem PySem.Spec PyProof.Rows
/-- an exception, by its class -/
structure Xv where
  D : Addr
section
variable {c : Ct}
instance : Rp c Xv where
  tree := fun H v x as => ∃ a, v = .ref a ∧ H a = some (XO a x.D) ∧ as = []
  isl := fun h a ha => by
    obtain ⟨_, _, _, z⟩ := h
    rw [z] at ha; simp at ha
  frame := fun h k => by
    obtain ⟨a, e, s, z⟩ := h
    exact ⟨a, e, k _ _ s (.inl rfl), z⟩
instance : Flat c Xv := ⟨fun h => let ⟨_, _, _, z⟩ := h; z⟩
/-- a def's promise over data, one that may raise: what comes, and the classes that may be raised -/
def spX (c : Ct) {β : Type} [Rp c β] (pre : List (Ent c) → (β → Prop) → (Addr → Prop) → Prop) : Sp := fun vs H Q E => ∃ es R X, pre es R X ∧ Args H vs es ∧ (∀ x v H' as, R x → Same H H' → tree c H' v x as → as.Nodup → (∀ a ∈ as, H a = none) → Q v H') ∧ ∀ C H', X C → Same H H' → E (.ref C) none H'
theorem spX_len {β : Type} [Rp c β] {pre : List (Ent c) → (β → Prop) → (Addr → Prop) → Prop} {vs : List V} {H : Hp} {Q : VK} {E : XK} (h : spX c pre vs H Q E) {n : Nat} (hp : ∀ es R X, pre es R X → es.length = n) : vs.length = n := by
  obtain ⟨es, R, X, p, ha, _⟩ := h
  have := (args_start (N := vs.map fun _ => "") ha).len
  simp [start] at this
  rw [← hp es R X p]; omega
/-- where P holds -/
def tG (P : St → Hp → Prop) (t : TE) : TE := fun σ H Q => P σ H → t σ H Q
def sG (P : St → Hp → Prop) (t : TS) : TS := fun D σ H => P σ H → t D σ H
/-- what is raised where P holds is taken care of -/
structure Xp (P G : St → Hp → Prop) (E : XK) (XX : Addr → Prop) : Prop where
  same : ∀ {σ H H'}, P σ H → Same H H' → P σ H'
  go : ∀ {σ H}, P σ H → G σ H
  ex : ∀ {C σ H}, XX C → P σ H → E (.ref C) none H
variable {env : List (Ent c)} {m : Md} {ta tb te : TE} {tc : TT} {t u : TS} {α β γ : Type} [Rp c α] [Rp c β] [Rp c γ] {R : Rs c β} {P G : St → Hp → Prop} {E : XK} {XX : Addr → Prop}
theorem wg_call {pre : List (Ent c) → (α → Prop) → (Addr → Prop) → Prop} {t : TA} {R : α → Prop} (xp : Xp P G E XX) (h : WA env t fun es => ∃ X, pre es R X ∧ ∀ C, X C → XX C) : WE m env (tG P (tCallG (spX c pre) [] E G t)) R := fun _ _ _ σ H S Q k hP =>
  h S _ fun es vs H1 r s a => by
    obtain ⟨X, hp, hX⟩ := r
    rw [List.append_nil]
    exact ⟨xp.go (xp.same hP s), es, R, X, hp, a, fun x v H' as rx s2 t nd n => k x v H' as rx (s.trans s2) t (Md.fresh S nd fun d hd => s.free (n d hd)), fun C H' hC s2 => xp.ex (hX C hC) (xp.same hP (s.trans s2))⟩
theorem wg_meth {pre : List (Ent c) → (α → Prop) → (Addr → Prop) → Prop} {t : TA} {f : Str} {R : α → Prop} (xp : Xp P G E XX) (h1 : ¬ f = "roads") (h2 : ¬ f = "size") (h : WE .any env ta fun N : NetD => WA env t fun es => ∃ X, pre (.sh N :: es) R X ∧ ∀ C, X C → XX C) :
    WE m env (tG P (tMethG c.C f (spX c pre) [] E G ta t)) R := fun _ _ _ _ _ S Q k hP => h S _ fun N v H1 as ra s1 t1 _ => by
    obtain ⟨p, r, rfl, hN, rfl⟩ := id t1
    obtain ⟨dx, hp⟩ := hN.ob
    refine ⟨p, dx, _, rfl, hp, flds_no _ _ h1 h2, ra (S.same s1) _ fun es vs H2 r s a => ?_⟩
    obtain ⟨X, hp, hX⟩ := r
    rw [List.append_nil]
    exact ⟨xp.go (xp.same hP (s1.trans s)), _, R, X, hp, ⟨⟨_, tree_same t1 s⟩, a⟩, fun x v H' as rx s2 t nd n => k x v H' as rx ((s1.trans s).trans s2) t (Md.fresh S nd fun d hd => (s1.trans s).free (n d hd)), fun C H' hC s2 => xp.ex (hX C hC) (xp.same hP ((s1.trans s).trans s2))⟩
theorem wg_drop (h : WE .any env (tG P te) fun _ : α => R.nx env) : WS env (sG P (tDrop te)) R := fun _ _ _ _ _ _ S C => ws_drop h S C
theorem wg_setF [Flat c α] {i : Nat} (h : WE .any env (tG P te) fun x : α => R.nx (env.set i (.sh x))) : WS env (sG P (tAsg te (gName i))) R := fun _ _ _ _ _ _ S C => ws_setF h S C
theorem wg_setO {i : Nat} (h : WE .fr env (tG P te) fun x : α => Nat.blt i env.length = true ∧ R.nx (env.set i (.ow x))) : WS env (sG P (tAsg te (gName i))) R := fun _ _ _ _ _ _ S C => ws_setO h S C
/-! ### the body of a def that may raise -/
abbrev PD (H0 : Hp) : St → Hp → Prop := fun _ H => Same H0 H
def WSx (H0 : Hp) (env : List (Ent c)) (t : TS) (R : Rs c β) : Prop := ∀ ⦃Fs : Nat → List Addr⦄ ⦃σ : St⦄ ⦃H : Hp⦄ ⦃D : Ends⦄, Sta H0 [] env Fs σ H → Cts R H0 [] D → t D σ H
variable {H0 : Hp}
theorem wx_of (h : WS env t R) : WSx H0 env t R := fun _ _ _ _ S C => h S C
theorem wx_g (h : WS env (sG (PD H0) t) R) : WSx H0 env t R := fun _ _ _ _ S C => h S C S.kp.to_same
theorem wx_seq (h : WSx H0 env t { R with nx := fun e => WSx H0 e u R }) : WSx H0 env (tSeq t u) R := fun _ _ _ _ S C => h S ⟨fun env Fs σ H r S' => r S' C, C.bk, C.ct, C.rt⟩
/-- a first statement that raises nothing -/
theorem wx_seqS (h : WS env t { R with nx := fun e => WSx H0 e u R }) : WSx H0 env (tSeq t u) R := wx_seq (wx_of h)
theorem wx_if (h : WT env tc fun b => (b = true → WSx H0 env t R) ∧ (b = false → WSx H0 env u R)) : WSx H0 env (tIfS tc t u) R := fun _ _ _ _ S C => h S _ fun b H' r s => by
  cases b with
  | true => exact iteT (r.1 rfl (S.same s) C)
  | false => exact iteF (r.2 rfl (S.same s) C)
theorem wx_next (h : R.nx env) : WSx H0 env tNext R := wx_of (ws_next h)
theorem wx_drop (h : WE .any env (tG (PD H0) te) fun _ : α => R.nx env) : WSx H0 env (tDrop te) R := wx_g (wg_drop h)
theorem wx_setF [Flat c α] {i : Nat} (h : WE .any env (tG (PD H0) te) fun x : α => R.nx (env.set i (.sh x))) : WSx H0 env (tAsg te (gName i)) R := wx_g (wg_setF h)
theorem wx_setO {i : Nat} (h : WE .fr env (tG (PD H0) te) fun x : α => Nat.blt i env.length = true ∧ R.nx (env.set i (.ow x))) : WSx H0 env (tAsg te (gName i)) R := wx_g (wg_setO h)
theorem xp_def (h : ∀ C H', XX C → Same H0 H' → E (.ref C) none H') : Xp (PD H0) (fun _ H => Dom H0 H) E XX := ⟨fun p s => Same.trans p s, fun p b u e => ⟨u, p b u e⟩, fun hC p => h _ _ hC p⟩
theorem wx_raise {C : Addr} (xp : Xp (PD H0) (fun _ H => Dom H0 H) E XX) (hC : XX C) (h : WE .any env te fun _ : α => True) : WSx H0 env (tRaise (tCons te tNil) fun _ H => Dom H0 H ∧ E (.ref C) none H) R := fun _ _ _ _ S _ =>
  h S _ fun x v H' as _ s _ _ => ⟨by show 1 ≤ sizeLine; decide, xp.go (σ := []) (xp.same (σ := []) (S.kp.to_same) s), xp.ex (σ := []) hC (xp.same (σ := []) (S.kp.to_same) s)⟩
theorem fnx_data {pre : List (Ent c) → (β → Prop) → (Addr → Prop) → Prop} {N : List Str} {t : TS} {vs : List V} {H : Hp} {Q : VK} {E : XK} (h : spX c pre vs H Q E)
    (hb : ∀ es R X, pre es R X → Xp (PD H) (fun _ H' => Dom H H') E X → WSx H (es.map Ent.bor ++ List.replicate (N.length - es.length) .no) t ({ nx := fun _ => False, rt := R } : Rs c β)) : t { nx := fun _ H' => Q .non H', rt := Q } (start N vs) H := by
  obtain ⟨es, R, X, hp, ha, k, kx⟩ := h
  have hl : es.length = vs.length := by have := (args_start (N := vs.map fun _ => "") ha).len; simp [start] at this; omega
  have st := args_start (N := N) ha
  rw [← hl] at st
  refine hb es R X hp (xp_def kx) st ⟨fun _ _ _ _ z => z.elim, fun _ _ _ _ z => z.elim, fun _ _ _ _ z => z.elim, fun x v H' as r kp t nd up => k x v H' as r kp.to_same t nd fun a ha => ?_⟩
  rcases up a ha with z | z
  · exact z
  · simp at z
theorem fnx_dataU {pre : List (Ent c) → (Unit → Prop) → (Addr → Prop) → Prop} {N : List Str} {t : TS} {vs : List V} {H : Hp} {Q : VK} {E : XK} (h : spX c pre vs H Q E)
    (hb : ∀ es R X, pre es R X → Xp (PD H) (fun _ H' => Dom H H') E X → WSx H (es.map Ent.bor ++ List.replicate (N.length - es.length) .no) t ({ nx := fun _ => R (), rt := R } : Rs c Unit)) : t { nx := fun _ H' => Q .non H', rt := Q } (start N vs) H := by
  obtain ⟨es, R, X, hp, ha, k, kx⟩ := h
  have hl : es.length = vs.length := by have := (args_start (N := vs.map fun _ => "") ha).len; simp [start] at this; omega
  have st := args_start (N := N) ha
  rw [← hl] at st
  refine hb es R X hp (xp_def kx) st ⟨fun _ _ _ H' r S => k () _ H' [] r S.kp.to_same ⟨rfl, rfl⟩ List.nodup_nil (fun a ha => absurd ha (by simp)), fun _ _ _ _ z => z.elim, fun _ _ _ _ z => z.elim, fun x v H' as r kp t nd up => k x v H' as r kp.to_same t nd fun a ha => ?_⟩
  rcases up a ha with z | z
  · exact z
  · simp at z

/-! ### try -/
/-- a suite with a name -/
theorem ws_as {i : Nat} {D : Addr} (hi : Nat.blt i env.length = true) (h : WS (env.set i (.sh (⟨D⟩ : Xv))) t { nx := fun e => e.length = env.length ∧ R.nx (e.set i .no), rt := R.rt, bk := fun e => e.length = env.length ∧ R.bk (e.set i .no), ct := fun e => e.length = env.length ∧ R.ct (e.set i .no) }) : WS env (tAs i D t) R := fun H0 F0 Fs σ H De S C a ha => by
  have hi' : i < env.length := by rwa [Nat.blt_eq] at hi
  have s1 : Same H (upd H a (XO a D)) := Same.new ha
  have q := (S.same s1).setS (x := (⟨D⟩ : Xv)) (v := .ref a) (as := []) hi' ⟨a, rfl, upd_same, rfl⟩ (fun b hb => absurd hb (by simp))
  have go : ∀ (e : List (Ent c)) (Fs' : Nat → List Addr) (σ' : St) (H' : Hp), e.length = env.length → Sta H0 F0 e Fs' σ' H' → Sta H0 F0 (e.set i .no) (putF' Fs' i []) (σ'.set i none) H' := fun e Fs' σ' H' hl S' =>
    S'.put (v := none) (e := .no) (Kp.refl H') (by rw [hl]; exact hi') putF_same List.nodup_nil (fun a ha => absurd ha (by simp))
  exact h q ⟨fun e Fs' σ' H' r S' => C.nx _ _ _ _ r.2 (go e Fs' σ' H' r.1 S'), fun e Fs' σ' H' r S' => C.bk _ _ _ _ r.2 (go e Fs' σ' H' r.1 S'), fun e Fs' σ' H' r S' => C.ct _ _ _ _ r.2 (go e Fs' σ' H' r.1 S'), C.rt⟩
end
end L2

set_option Elab.async false
set_option linter.all false
set_option maxRecDepth 100000
set_option maxHeartbeats 4000000
/-! Own rules, part 24: promises of defs that refuse with NoRound. -/
namespace L2
open PySem PySem.Spec PyProof.Rows
section
variable {c : Ct}
def p_xround (a : Addr) : List (Ent c) → (Unit → Prop) → (Addr → Prop) → Prop := fun es R X => ∃ (N : NetD) (cs : List Int), es = [.sh N, .sh cs] ∧ N.rs.length ≤ 24 ∧ cs.length < 64 ∧ (IsR N.rs cs → R ()) ∧ (¬ IsR N.rs cs → X a)
def p_xbad (a : Addr) {β : Type} : List (Ent c) → (β → Prop) → (Addr → Prop) → Prop := fun es R X => ∃ (N : NetD) (cs : List Int), es = [.sh N, .sh cs] ∧ N.rs.length ≤ 24 ∧ cs.length < 64 ∧ ¬ IsR N.rs cs ∧ X a
end
end L2

set_option Elab.async false
set_option linter.all false
set_option maxRecDepth 100000
set_option maxHeartbeats 4000000
/-! Own rules, part 25: exchanges of stretches: the mathematics. -/
namespace L2
open PySem PySem.Spec PyProof.Rows
section
variable {rs : List (Int × Int)}
/-- a walk along roads from place to place -/
def Path (rs : List (Int × Int)) : Int → List Int → Int → Prop
  | p, [], q => p = q
  | p, x :: xs, q => sp rs x = p ∧ Path rs (en rs x) xs q
end
end L2

set_option Elab.async false
set_option linter.all false
set_option maxRecDepth 100000
set_option maxHeartbeats 4000000
/-! Own rules, part 26: exchanges by their bounds. -/
namespace L2
open PySem PySem.Spec PyProof.Rows
section
variable {rs : List (Int × Int)} {cs gs : List Int} {a b c d : Nat}
def seg (cs : List Int) (i j : Nat) : List Int := (cs.drop i).take (j - i)
def exch (cs : List Int) (a b c d : Nat) : List Int := cs.take a ++ (seg cs c d ++ (seg cs b c ++ (seg cs a b ++ cs.drop d)))
end
end L2

set_option Elab.async false
set_option linter.all false
set_option maxRecDepth 100000
set_option maxHeartbeats 4000000
/-! Own rules, part 27: long chains of comparisons, four numbers, not in a pair of lists. -/
namespace L2
open PySem PySem.Spec PyProof.Rows
section
variable {X : Cx}
def PCk (X : Cx) (ops : List CmpOp) (bs : List Expr) (t : V → TT) : Prop := ∀ (pos : Pos) (pins : List (Addr × Obj)) (s : Shared) (σ : St) (H : Hp) (x : V) (v : Value) (Q : Bool → Hp → Prop), Inv X pins σ H s → RelV x v → t x σ H Q → wpAny (model X.prog X.w) X.A (testChain pos v ops (evalEach bs X.env)) (TP X pins σ Q) X.xe s
def tLast (r : R2) (tb : TE) : V → TT := fun x σ H Q => tb σ H fun y H1 => r x y H1 fun z H2 => ∃ k, z = .bl k ∧ Q k H2
def tLink (r : R2) (tb : TE) (t : V → TT) : V → TT := fun x σ H Q => tb σ H fun y H1 => r x y H1 fun z H2 => ∃ k, z = .bl k ∧ (if k = true then t y σ H2 Q else Q false H2)
theorem pk_last {op : CmpOp} {r : R2} {b : Expr} {tb : TE} (ho : OpR X (compareOp op) r) (hb : PE X b tb) : PCk X [op] [b] (tLast r tb) := by
  intro pos pins s σ H x v Q I rx h
  refine test_last (thn (hb pins s σ H _ I h) fun u s2 ⟨y, H2, I2, r2, q2⟩ => thn (ho pins s2 σ H2 x y v u _ I2 rx r2 q2) fun d' s5 ⟨z2, H5, I5, r5, k2, e2, q5⟩ => ?_)
  subst e2
  cases r5
  exact wpAny_truthy_bool ⟨H5, I5, q5⟩
theorem pk_link {op op' : CmpOp} {ops : List CmpOp} {b b' : Expr} {bs : List Expr} {r : R2} {tb : TE} {t : V → TT} (ho : OpR X (compareOp op) r) (hb : PE X b tb) (hk : PCk X (op' :: ops) (b' :: bs) t) : PCk X (op :: op' :: ops) (b :: b' :: bs) (tLink r tb t) := by
  intro pos pins s σ H x v Q I rx h
  refine test_link (thn (hb pins s σ H _ I h) fun u s2 ⟨y, H2, I2, r2, q2⟩ => thn (ho pins s2 σ H2 x y v u _ I2 rx r2 q2) fun d' s3 ⟨z2, H3, I3, r3, k2, e2, q3⟩ => ?_)
  subst e2
  cases r3
  refine wpAny_truthy_bool ?_
  cases k2 with
  | false => exact ite_ff ⟨H3, I3, q3⟩
  | true => exact ite_tt (hk pos pins s3 σ H3 y u Q I3 r2 q3)
def tChN (ta : TE) (t : V → TT) : TT := fun σ H Q => ta σ H fun x H1 => t x σ H1 Q
theorem pt_chainN {op op' : CmpOp} {ops : List CmpOp} {a b b' : Expr} {bs : List Expr} {ta : TE} {t : V → TT} {pos : Pos} (ha : PE X a ta) (hk : PCk X (op :: op' :: ops) (b :: b' :: bs) t) (hm : lastMarks (op :: op' :: ops) (b :: b' :: bs) = false := by with_unfolding_all rfl) :
    PT X (.Compare a (op :: op' :: ops) (b :: b' :: bs) pos) (tChN ta t) := by
  intro pins s σ H Q I h
  exact isTrue_chain (thn (ha pins s σ H _ I h) fun v s1 ⟨x, H1, I1, r1, q1⟩ => hk pos pins s1 σ H1 x v Q I1 r1 q1) hm
end
/-- four numbers -/
structure Q4 where
  a : Int
  b : Int
  c : Int
  d : Int
section
variable {c : Ct}
instance : Rp c Q4 where
  tree := fun H v x as => ∃ p, v = .ref p ∧ H p = some (.tup [.int x.a, .int x.b, .int x.c, .int x.d]) ∧ as = []
  isl := fun h a ha => by
    obtain ⟨_, _, _, z⟩ := h
    rw [z] at ha; simp at ha
  frame := fun h k => by
    obtain ⟨a, e, s, z⟩ := h
    exact ⟨a, e, k _ _ s (.inl rfl), z⟩
instance : Flat c Q4 := ⟨fun h => let ⟨_, _, _, z⟩ := h; z⟩
variable {env : List (Ent c)} {m : Md} {ta tb tc td te : TE} {α β γ : Type} [Rp c α] [Rp c β] [Rp c γ]
theorem we_q4 {R : Q4 → Prop} (h : WE .any env ta fun x : Int => WE .any env tb fun y : Int => WE .any env tc fun z : Int => WE .any env td fun w : Int => R ⟨x, y, z, w⟩) : WE m env (tTup (tCons ta (tCons tb (tCons tc (tCons td tNil))))) R :=
  fun _ _ _ _ _ S Q k => h S _ fun x1 v1 H1 a1 r1 s1 t1 _ => r1 (S.same s1) _ fun x2 v2 H2 a2 r2 s2 t2 _ => r2 (S.same (s1.trans s2)) _ fun x3 v3 H3 a3 r3 s3 t3 _ => r3 (S.same ((s1.trans s2).trans s3)) _ fun x4 v4 H4 a4 r4 s4 t4 _ => by
    refine ⟨by show 4 ≤ sizeLine; decide, fun p hp => ?_⟩
    have s := ((s1.trans s2).trans s3).trans s4
    rw [t1.1, t2.1, t3.1, t4.1]
    exact k ⟨x1, x2, x3, x4⟩ _ _ [] r4 (s.trans (Same.new hp)) ⟨p, rfl, upd_same, rfl⟩ Md.nil
theorem we_q1 {R : Int → Prop} (h : WE .any env ta fun x : Q4 => R x.a) : WE m env (tOp (rIxT c.K) ta (tC (.int 0))) R := fun _ _ _ _ _ S Q k => h S _ fun x v H1 as ra s1 t1 o => by
  obtain ⟨p, rfl, hp, rfl⟩ := t1
  exact ⟨p, _, 0, _, rfl, rfl, SqT.of hp, rfl, k _ _ _ [] ra s1 ⟨rfl, rfl⟩ Md.nil⟩
theorem we_q2 {R : Int → Prop} (h : WE .any env ta fun x : Q4 => R x.b) : WE m env (tOp (rIxT c.K) ta (tC (.int 1))) R := fun _ _ _ _ _ S Q k => h S _ fun x v H1 as ra s1 t1 o => by
  obtain ⟨p, rfl, hp, rfl⟩ := t1
  exact ⟨p, _, 1, _, rfl, rfl, SqT.of hp, rfl, k _ _ _ [] ra s1 ⟨rfl, rfl⟩ Md.nil⟩
theorem we_q3 {R : Int → Prop} (h : WE .any env ta fun x : Q4 => R x.c) : WE m env (tOp (rIxT c.K) ta (tC (.int 2))) R := fun _ _ _ _ _ S Q k => h S _ fun x v H1 as ra s1 t1 o => by
  obtain ⟨p, rfl, hp, rfl⟩ := t1
  exact ⟨p, _, 2, _, rfl, rfl, SqT.of hp, rfl, k _ _ _ [] ra s1 ⟨rfl, rfl⟩ Md.nil⟩
theorem we_q4th {R : Int → Prop} (h : WE .any env ta fun x : Q4 => R x.d) : WE m env (tOp (rIxT c.K) ta (tC (.int 3))) R := fun _ _ _ _ _ S Q k => h S _ fun x v H1 as ra s1 t1 o => by
  obtain ⟨p, rfl, hp, rfl⟩ := t1
  exact ⟨p, _, 3, _, rfl, rfl, SqT.of hp, rfl, k _ _ _ [] ra s1 ⟨rfl, rfl⟩ Md.nil⟩
/-! chains -/
def WK (env : List (Ent c)) (t : V → TT) (x : Int) (R : Bool → Prop) : Prop :=
  ∀ ⦃H0 : Hp⦄ ⦃F0 : List Addr⦄ ⦃Fs : Nat → List Addr⦄ ⦃σ : St⦄ ⦃H : Hp⦄, Sta H0 F0 env Fs σ H → ∀ Q : Bool → Hp → Prop, (∀ b H', R b → Same H H' → Q b H') → t (.int x) σ H Q
theorem wk_last {g : Int → Int → Bool} {x : Int} {R : Bool → Prop} (h : WE .any env tb fun y : Int => R (g x y)) : WK env (tLast (rI0 fun i j => .bl (g i j)) tb) x R := fun _ _ _ _ _ S Q k => h S _ fun y v H1 as r s t _ =>
  ⟨x, y, rfl, t.1, _, rfl, k _ _ r s⟩
theorem wk_link {g : Int → Int → Bool} {x : Int} {t : V → TT} {R : Bool → Prop} (h : WE .any env tb fun y : Int => (g x y = true → WK env t y R) ∧ (g x y = false → R false)) : WK env (tLink (rI0 fun i j => .bl (g i j)) tb t) x R := fun _ _ _ _ _ S Q k => h S _ fun y v H1 as r s t' _ => by
  refine ⟨x, y, rfl, t'.1, _, rfl, ?_⟩
  cases e : g x y with
  | true =>
    refine iteT ?_
    rw [t'.1]
    exact r.1 e (S.same s) Q fun b H' rb s2 => k b H' rb (s.trans s2)
  | false => exact iteF (k _ _ (r.2 e) s)
theorem wt_chainN {t : V → TT} {R : Bool → Prop} (h : WE .any env ta fun x : Int => WK env t x R) : WT env (tChN ta t) R := fun _ _ _ _ _ S Q k => h S _ fun x v H1 as r s t' _ => by
  rw [t'.1]
  exact r (S.same s) Q fun b H' rb s2 => k b H' rb (s.trans s2)
end
end L2

set_option Elab.async false
set_option linter.all false
set_option maxRecDepth 100000
set_option maxHeartbeats 4000000
/-! Own rules, part 28: the bounds that the chain takes. -/
namespace L2
open PySem PySem.Spec PyProof.Rows
section
variable {rs : List (Int × Int)} {cs gs : List Int}
structure Bd (rs : List (Int × Int)) (cs gs : List Int) (a b c d : Nat) : Prop where
  pos : 0 < a
  pre : cs.take a = gs.take a
  won : ∃ w, gs[a]? = some w ∧ cs[c]? = some w
  ab : a < b
  bc : b ≤ c
  cd : c < d
  dl : d ≤ cs.length
  end' : ∃ y z, cs[b - 1]? = some y ∧ cs[d - 1]? = some z ∧ en rs y = en rs z
end
end L2

set_option Elab.async false
set_option linter.all false
set_option maxRecDepth 100000
set_option maxHeartbeats 4000000
/-! Own rules, part 29: promises of the defs of exchanges. -/
namespace L2
open PySem PySem.Spec PyProof.Rows
section
variable {c : Ct}
def q4 (a b c d : Nat) : Q4 := ⟨a, b, c, d⟩
/-- a round that begins with road 0 -/
def IsR0 (rs : List (Int × Int)) (cs : List Int) : Prop := IsR rs cs ∧ (cs = [] ∨ cs[0]? = some 0)
/-- one comes of the other by an exchange -/
def Ex1 (cs ds : List Int) : Prop := ∃ a b c d : Nat, (a < b ∧ b ≤ c ∧ c < d ∧ d ≤ cs.length) ∧ ds = exch cs a b c d
structure Chn (rs : List (Int × Int)) (one : List Int) (ts : List (List Int)) : Prop where
  fst : ts[0]? = some one
  rnd : ∀ t ∈ ts, IsR0 rs t
  stp : ∀ (k : Nat) (x y : List Int), ts[k]? = some x → ts[k + 1]? = some y → Ex1 x y
end
end L2

set_option Elab.async false
set_option linter.all false
set_option maxRecDepth 100000
set_option maxHeartbeats 4000000
/-! Own rules, part 30: a change through another name; walks by orders; an exchange looked at. -/
namespace L2
open PySem PySem.Spec PyProof.Rows
section
variable {c : Ct} {env : List (Ent c)} {ta tk tx : TE} {α β : Type} [Rp c α] [Rp c β] {R' : Rs c β}
end
end L2

set_option Elab.async false
set_option linter.all false
set_option maxRecDepth 100000
set_option maxHeartbeats 4000000
/-! Own rules, part 31: walks by orders that take every road are rounds; what the law's looks find. -/
namespace L2
open PySem PySem.Spec PyProof.Rows
section
variable {rs : List (Int × Int)}
theorem fill_perm : ∀ {xs ys : List Int}, xs.Nodup → (∀ x ∈ xs, x ∈ ys) → ∃ zs, (xs ++ zs).Perm ys
  | [], ys, _, _ => ⟨ys, List.Perm.refl _⟩
  | x :: xs, ys, nd, h => by
    have nd' := List.nodup_cons.mp nd
    have hx := h x List.mem_cons_self
    obtain ⟨zs, hz⟩ := fill_perm (xs := xs) (ys := ys.erase x) nd'.2 fun y hy => (List.mem_erase_of_ne (fun e => by subst e; exact nd'.1 hy)).mpr (h y (List.mem_cons_of_mem _ hy))
    exact ⟨zs, (hz.cons x).trans (List.perm_cons_erase hx).symm⟩
theorem perm_full {xs ys : List Int} (nd : xs.Nodup) (h : ∀ x ∈ xs, x ∈ ys) (hl : xs.length = ys.length) : xs.Perm ys := by
  obtain ⟨zs, hz⟩ := fill_perm nd h
  have := hz.length_eq
  rw [List.length_append] at this
  have e : zs = [] := List.length_eq_zero_iff.mp (by omega)
  subst e
  rwa [List.append_nil] at hz
/-- what holds along a walk by orders -/
structure Wk (rs : List (Int × Int)) (n : Nat) (rows : List (List Int)) (start : Int) (taken : List Int) (here : Int) (path : List Int) : Prop where
  len : taken.length = n
  rg : ∀ (j : Nat) (t : Int) (row : List Int), taken[j]? = some t → rows[j]? = some row → (0 ≤ t ∧ t ≤ row.length) ∧ path.filter (fun r => decide (sp rs r = (j : Int))) = row.take t.toNat
  mem : ∀ r ∈ path, 0 ≤ r ∧ r < rs.length
  pth : Path rs start path here
  at_ : 0 ≤ here ∧ here < n
variable {n : Nat} {rows : List (List Int)} {start here : Int} {taken path : List Int}
end
end L2

set_option Elab.async false
set_option linter.all false
set_option maxRecDepth 100000
set_option maxHeartbeats 4000000
/-! Own rules, part 32: promises of the law's defs about chains. -/
namespace L2
open PySem PySem.Spec PyProof.Rows
section
variable {c : Ct}
variable {env : List (Ent c)} {α : Type} [Rp c α]
end
section
variable {cs : List Int} {a b c d : Nat}
end
end L2

set_option Elab.async false
set_option linter.all false
set_option maxRecDepth 100000
set_option maxHeartbeats 4000000
/-! Own rules, part 33: a new list put into an own list of lists; chains that are refused. -/
namespace L2
open PySem PySem.Spec PyProof.Rows
section
variable {c : Ct} {env : List (Ent c)} {ta tb te : TE} {α β : Type} [Rp c α] [Rp c β] {R : Rs c β}
end
end L2

set_option Elab.async false
set_option linter.all false
set_option maxRecDepth 100000
set_option maxHeartbeats 4000000
/-! Own rules, part 34: isinstance(e, C) of an exception, whichever way it ends. -/
namespace L2
open PySem PySem.Spec PyProof.Rows PySem.W Builtin Builtin.ObjectAttr Builtin.Getset_descriptor
/-- what stands on an exception's class -/
structure XKf (K : PySem.W.Frag) (D : Addr) : Prop where
  ga : findIn K (.ref D) "__getattribute__" = some (some (.builtin "BaseException.__getattribute__"))
  gh : findIn K (.ref D) "__getattr__" = some none
  cl : findIn K (.ref D) "__class__" = some (some (.builtin "object.__class__"))
  hn : specialIn K (.builtin "object.__class__") "__get__" = some (some (.builtin "getset_descriptor.__get__"))
  tk : takesIn K (.builtin "object.__class__") = some true
  mo : mroIn K D (.type "object") = some true
  mb : mroIn K D (.type "BaseException") = some true
section
variable {prog : Program} {w : World} {A : Around} {E : Value → Shared → Prop} {K : PySem.W.Frag} {x D : Addr} {o : Obj}
theorem exc_get {R : Result → Shared → Prop} {s : Shared} (G : XKf K D) (X : K.In s.heap) (hx : s.heap.get? x = some o) (hc : o.cls = .ref D) {tp : Value} (q : R (.ok (.ret (.ref D))) s) :
    codeAny (model prog w) A (.call (.builtin "getset_descriptor.__get__") ⟨[.builtin "object.__class__", .ref x, tp], []⟩) R s := by
  obtain ⟨hh, g, dr, t, os⟩ := s
  have T0 : Looks (model prog w) hh (typeOf (.ref x)) (.ref D) := hc ▸ (Looks.ld hx).andThen .now
  have T1 := looks_mroIn (M := model prog w) X G.mo
  refine codeAny_call_builtin KF.slot_gs.plain KF.entry_gs ?_
  refine KF.slot_gs.check _ _ _ _ _ _ _ _ KF.type_class (KF.args_gs _ _ _) ?_
  unfold Builtin.«getset_descriptor.__get__»
  unfold descrGet
  rw [dga_obj]
  refine wpAny_bind ?_
  refine wpAny_pure ?_
  unfold descrGetter
  unfold descrCheckInstance
  unfold descrNameAndClass
  unfold isInstance
  simp only [KF.owner_class]
  repeat lk
  refine ⟨Code.quiet_builtin _ (by decide +kernel), ?_⟩
  refine codeAny_builtin KF.entry_class ?_
  unfold Builtin.«object.__class__»
  unfold shownTypeOf
  repeat lk
  exact q
theorem exc_find {M : Model} {h : Heap} (G : XKf K D) (X : K.In h) : Looks M h (find (.ref x) (.ref D) "__class__") (.bind (.builtin "getset_descriptor.__get__") (.builtin "object.__class__")) := by
  have T1 := looks_findIn (M := M) X G.cl
  have T2 : Looks M h (getOf (some (.builtin "object.__class__"))) (some (.builtin "getset_descriptor.__get__")) := looks_specialIn X G.hn
  have T3 := looks_takesIn (M := M) X G.tk
  have T4 : Looks M h (dataDescriptor? (some (.builtin "object.__class__")) (some (.builtin "getset_descriptor.__get__"))) (some (.builtin "getset_descriptor.__get__", .builtin "object.__class__")) := T3.andThen .now
  exact T1.andThen (T2.andThen (T4.andThen (Looks.tag .now)))
theorem exc_entry {tk : Tok} {Q : Fin → Shared → Prop} {s : Shared} (G : XKf K D) (X : K.In s.heap) (hx : s.heap.get? x = some o) (hc : o.cls = .ref D) (q : Q (.done (.ret (.ref D))) s) :
    wpAny (model prog w) A (Builtin.«object.__getattribute__» ⟨[.ref x, .str "__class__" tk], []⟩) Q E s := by
  obtain ⟨hh, g, dr, t, os⟩ := s
  have T0 : Looks (model prog w) hh (typeOf (.ref x)) (.ref D) := hc ▸ (Looks.ld hx).andThen .now
  have T1 := exc_find (x := x) (M := model prog w) G X
  unfold Builtin.«object.__getattribute__»
  refine wpAny_bind (wpAny_pure ?_)
  refine wpAny_bind (wpAny_pure ?_)
  refine wpAny_bind (T0.at (wpAny_bind (T1.at ?_)))
  show wpAny _ _ (bindTo _ _ _ _) _ _ _
  unfold bindTo
  refine wpAny_bind (wpAny_holding ?_)
  exact wpAny_call (exc_get G X hx hc (wpAny_pure q))
theorem exc_check {M : Model} {nv : Value} {Q : Unit → Shared → Prop} {s : Shared} (G : XKf K D) (X : K.In s.heap) (hx : s.heap.get? x = some o) (hc : o.cls = .ref D) (q : Q () s) :
    wpAny M A (checkBuiltinCall "BaseException.__getattribute__" ⟨[.ref x, nv], []⟩) Q E s := by
  obtain ⟨hh, g, dr, t, os⟩ := s
  have kd : builtinKind "BaseException.__getattribute__" = some .slot := by decide +kernel
  have sp : splitId "BaseException.__getattribute__" = some ("BaseException", "__getattribute__") := by decide +kernel
  have T0 : Looks M hh (typeOf (.ref x)) (.ref D) := hc ▸ (Looks.ld hx).andThen .now
  have T1 := looks_mroIn (M := M) X G.mb
  have T2 : Looks M hh (isInstance (.ref x) (.type "BaseException")) true := T0.andThen T1
  have ar := F.args_bexc_ga (.ref x) nv
  simp only [checkBuiltinCall, kd, sp]
  refine wpAny_bind (T2.at ?_)
  repeat (first | exact q | wp_step)
theorem exc_class {Q : Option Value → Shared → Prop} {s : Shared} (G : XKf K D) (X : K.In s.heap) (hx : s.heap.get? x = some o) (hc : o.cls = .ref D) (q : Q (some (.ref D)) { s with toks := s.toks + 1 }) :
    wpAny (model prog w) A (getAttr? (.ref x) "__class__") Q E s := by
  obtain ⟨hh, g, dr, t, os⟩ := s
  have T0 : Looks (model prog w) hh (typeOf (.ref x)) (.ref D) := hc ▸ (Looks.ld hx).andThen .now
  have T1 := looks_findIn (M := model prog w) X G.ga
  have T2 := looks_findIn (M := model prog w) X G.gh
  have n2 : (Value.builtin "BaseException.__getattribute__" == Value.builtin "object.__getattribute__") = false := by decide +kernel
  have n1 : (onTheHeap (Value.ref D) && Value.builtin "BaseException.__getattribute__" == Value.builtin "object.__getattribute__") = false := by
    rw [n2]
    rfl
  unfold getAttr?
  refine wpAny_bind (wpAny_mkText ?_)
  unfold getAttrBy?
  refine wpAny_bind (wpAny_attempt ?_)
  unfold getAttrBy
  refine wpAny_holding (wpAny_bind (T0.at (wpAny_bind (T1.at ?_))))
  show wpAny _ _ (if (onTheHeap (Value.ref D) && Value.builtin "BaseException.__getattribute__" == Value.builtin "object.__getattribute__") = true then _ else _) _ _ _
  rw [n1]
  show wpAny _ _ (getAttrByItsOwn _ _ _ _ _ _) _ _ _
  unfold getAttrByItsOwn
  refine wpAny_bind (T2.at (wpAny_bind (wpAny_attempt (wpAny_holding ?_))))
  show wpAny _ _ (boundAndCalled _ _ _) _ _ _
  unfold boundAndCalled
  rw [F.excAttr_ValueError.ga.bind (.ref x)]
  refine wpAny_bind (wpAny_pure ?_)
  refine wpAny_call (codeAny_call_builtin F.excAttr_ValueError.ga.plain F.entry_bexc_ga ?_)
  refine exc_check G X hx hc (exc_entry G X hx hc ?_)
  repeat (first | exact q | wp_step)
theorem exc_kit (G : XKf K D) : KitX K (.ref x) (.ref D) (fun h => ∃ o, h.get? x = some o ∧ o.cls = .ref D) where
  ty := fun M h _ p => by
    obtain ⟨o, hx, hc⟩ := p
    exact hc ▸ (Looks.ld hx).andThen .now
  it := fun M h X _ => by
    obtain ⟨cd, hd, _⟩ := Option.bind_eq_some_iff.mp G.mo
    unfold clsIn at hd
    split at hd
    · rename_i ho
      intro A' Q' E' s' k q
      unfold isType
      unfold loadHead
      exact wpAny_bind (wpAny_loadPart (k _ _ (X _ _ ho)) (wpAny_pure q))
    · cases hd
  ne := fun h tp dd its n sl X htp => by
    obtain ⟨cd, hd, _⟩ := Option.bind_eq_some_iff.mp G.mo
    refine Bool.eq_false_iff.mpr fun q => ?_
    cases Value.ref.inj (beq_iff_eq.mp q)
    unfold clsIn at hd
    split at hd
    · rename_i ho
      cases (X _ _ ho).symm.trans htp
    · cases hd
  ca := fun X p k => by
    obtain ⟨o, hx, hc⟩ := p
    exact exc_class G X hx hc k
end
section
variable {K : PySem.W.Frag}
theorem isinst_y {X : Cx} {pins : List (Addr × Obj)} {σ : St} {H : Hp} {s : Shared} {A : Around} {E : Value → Shared → Prop} {Q : Value → Shared → Prop} {c : Value} {a D : Addr} {b : Bool} (I : Inv X pins σ H s) (ha : H a = some (XO a D)) (G : XKf X.K D) (e : PySem.W.kitOne X.K (.ref D) c = some b)
    (h : ∀ tk, Q (.bool b) { s with toks := tk }) : wpAny (model X.prog X.w) A (call (.builtin "isinstance") [.ref a, c]) Q E s := by
  obtain ⟨⟨o, q1, q2⟩, _, _⟩ := (show ObjOk X.prog X.w H s.heap a (XO a D) from I.hok a _ ha)
  exact kia_one (exc_kit G) I.kIn ⟨o, q1, q2⟩ e (fun z => nomatch z) h
def rIsiY (K : PySem.W.Frag) : List V → Hp → VK → Prop := fun xs H Q => ∃ a D c b, xs = [.ref a, c] ∧ H a = some (XO a D) ∧ (∃ n, c = .ty n ∨ ∃ a, c = .ref a) ∧ XKf K D ∧ PySem.W.kitOne K (.ref D) (clsV c) = some b ∧ Q (.bl b) H
theorem call_isiY {X : Cx} (hK : X.K = K) : CallR X (.builtin "isinstance") (rIsiY K) := by
  subst hK
  intro pins s σ H xs us Q I r h
  obtain ⟨a, D, c, b, rfl, ha, ⟨n, hc⟩, G, hk, q⟩ := h
  obtain ⟨u, u2, rfl, ru, ru2⟩ := vals2 r
  have e : u2 = clsV c := by
    rcases hc with rfl | ⟨a, rfl⟩
    · exact ru2
    · exact ru2
  subst e
  cases (show u = Value.ref a from ru)
  exact isinst_y I ha G hk fun tk => ⟨.bl b, H, I.tok _, rfl, q⟩
end
section
variable {c : Ct} {env : List (Ent c)} {m : Md} {ta : TE}
end
end L2

set_option Elab.async false
set_option linter.all false
set_option maxRecDepth 100000
set_option maxHeartbeats 4000000
/-! Own rules, part 35: tuple(list), four numbers in a list or a tuple, None or a list. -/
namespace L2
open PySem PySem.Spec PyProof.Rows
section
variable {X : Cx} {K : PySem.W.Frag}
end
/-- four numbers, in a list or a tuple -/
structure B4 where
  a : Int
  b : Int
  c : Int
  d : Int
section
variable {c : Ct}
instance : Rp c B4 where
  tree := fun H v x as => ∃ p, v = .ref p ∧ ((H p = some (.tup [.int x.a, .int x.b, .int x.c, .int x.d]) ∧ as = []) ∨ (H p = some (.lst [.int x.a, .int x.b, .int x.c, .int x.d]) ∧ as = [p]))
  isl := fun h a ha => by
    obtain ⟨p, _, ⟨_, z⟩ | ⟨e, z⟩⟩ := h
    · rw [z] at ha; simp at ha
    · rw [z] at ha
      have : a = p := by simpa using ha
      subst this
      exact ⟨_, e, rfl⟩
  frame := fun h k => by
    obtain ⟨p, e, ⟨s, z⟩ | ⟨s, z⟩⟩ := h
    · exact ⟨p, e, .inl ⟨k _ _ s (.inl rfl), z⟩⟩
    · exact ⟨p, e, .inr ⟨k _ _ s (.inr (by rw [z]; simp)), z⟩⟩
variable {env : List (Ent c)} {m : Md} {ta tb te : TE} {α β γ : Type} [Rp c α] [Rp c β] [Rp c γ]
/-- the bounds of two stretches -/
def Bok (l : Nat) (x : Q4) : Prop := 0 ≤ x.a ∧ x.a < x.b ∧ x.b ≤ x.c ∧ x.c < x.d ∧ x.d ≤ l
instance (l : Nat) (x : Q4) : Decidable (Bok l x) := by unfold Bok; infer_instance
def exQ (cs : List Int) (x : Q4) : List Int := exch cs x.a.toNat x.b.toNat x.c.toNat x.d.toNat
def p_xneedb (a : Addr) : List (Ent c) → (Unit → Prop) → (Addr → Prop) → Prop := fun es R X => ∃ (cs : List Int) (x : Q4), es = [.sh cs, .sh x] ∧ (Bok cs.length x → R ()) ∧ (¬ Bok cs.length x → X a)
/-- what is told of an exchange -/
structure Told (rs : List (Int × Int)) (cs : List Int) (x : Q4) (fd : List Bool × (Unit ⊕ List Int)) : Prop where
  no : ¬ IsR rs cs → fd = ([true, false, true], .inl ())
  ok : IsR rs cs → Bok cs.length x → IsR rs (exQ cs x) → fd = ([], .inr (exQ cs x))
  ex : IsR rs cs → ¬ (Bok cs.length x ∧ IsR rs (exQ cs x)) → fd = ([false, true, true], .inl ())
end
end L2

set_option Elab.async false
set_option linter.all false
set_option maxRecDepth 100000
set_option maxHeartbeats 4000000
/-! Own rules, part 36: expressions that change the data of a name. -/
namespace L2
open PySem PySem.Spec PyProof.Rows
section
variable {c : Ct}
end
end L2

set_option Elab.async false
set_option linter.all false
set_option maxRecDepth 100000
set_option maxHeartbeats 4000000
/-! Own rules, part 37: calls that change the data of a name handed to them. -/
namespace L2
open PySem PySem.Spec PyProof.Rows
section
variable {c : Ct}
theorem argsN_start {γ : Type} [Rp c γ] {N : List Str} {H : Hp} {vs1 vs2 : List V} {es1 es2 : List (Ent c)} {v : V} {w : γ} {as : List Addr} (h1 : ArgsD H as vs1 es1) (h2 : ArgsD H as vs2 es2) (t : tree c H v w as) (nd : as.Nodup) :
    Sta H as (es1.map Ent.bor ++ (.ow (⟨w⟩ : Pin v γ) :: (es2.map Ent.bor ++ List.replicate (N.length - (es1.length + (es2.length + 1))) .no))) (fun i => if i = es1.length then as else []) (start N (vs1 ++ v :: vs2)) H := by
  have l1 := h1.len
  have l2 := h2.len
  have fi : ∀ (i : Nat), i ≠ es1.length → (fun i => if i = es1.length then as else []) i = ([] : List Addr) := fun i hi => if_neg hi
  have fs : ∀ j, ∀ a ∈ (fun i => if i = es1.length then as else ([] : List Addr)) j, j = es1.length ∧ a ∈ as := fun j a ha => by
    have ha' : a ∈ (if j = es1.length then as else []) := ha
    split at ha'
    · rename_i q; exact ⟨q, ha'⟩
    · simp at ha'
  refine ⟨by unfold start; simp [l1, l2], fun i u e h3 h4 => ?_, fun i hi => ?_, fun i => ?_, fun i j hij a ha hz => ?_, fun i a ha => .inr (fs i a ha).2, Kp.refl _⟩
  · unfold start at h3
    rw [List.map_append, List.map_cons, List.append_assoc, List.cons_append] at h3
    by_cases hi : i < es1.length
    · rw [List.getElem?_append_left (by rw [List.length_map]; exact hi), List.getElem?_map] at h4
      rw [List.getElem?_append_left (by rw [List.length_map, l1]; exact hi), List.getElem?_map] at h3
      cases q : es1[i]? with
      | none => rw [q] at h4; cases h4
      | some e' =>
        rw [q] at h4
        obtain ⟨v', y1, y2⟩ := h1.get q
        rw [y1] at h3
        cases h3; cases h4
        exact y2 _ (fi i (by omega)) (fun j a ha => (fs j a ha).2)
    · rw [List.getElem?_append_right (by rw [List.length_map]; omega), List.length_map] at h4
      rw [List.getElem?_append_right (by rw [List.length_map, l1]; omega), List.length_map, l1] at h3
      by_cases hie : i = es1.length
      · subst hie
        rw [Nat.sub_self] at h3 h4
        cases h3; cases h4
        exact ⟨v, rfl, by show Rp.tree c H v _ (if es1.length = es1.length then as else []); rw [if_pos rfl]; exact ⟨rfl, t⟩⟩
      · rw [show i - es1.length = (i - es1.length - 1) + 1 by omega, List.getElem?_cons_succ] at h3 h4
        generalize hk : i - es1.length - 1 = k at h3 h4
        by_cases hk2 : k < es2.length
        · rw [List.getElem?_append_left (by rw [List.length_map]; exact hk2), List.getElem?_map] at h4
          rw [List.getElem?_append_left (by rw [List.length_map, l2]; exact hk2), List.getElem?_map] at h3
          cases q : es2[k]? with
          | none => rw [q] at h4; cases h4
          | some e' =>
            rw [q] at h4
            obtain ⟨v', y1, y2⟩ := h2.get q
            rw [y1] at h3
            cases h3; cases h4
            have y3 := y2 (fun _ => []) rfl (fun _ a ha => absurd ha (by simp))
            obtain ⟨_, y4, y5⟩ := h2.get q
            cases e' with
            | no => exact fi i hie
            | en o x =>
              have y6 := y5 (fun j => if j = k then [] else as) (if_pos rfl) (fun j a ha => by
                have ha' : a ∈ (if j = k then [] else as) := ha
                split at ha' <;> simp_all)
              rw [y1] at y4
              cases y4
              obtain ⟨_, v2, bs, e1, t2, d⟩ := y6
              refine ⟨fi i hie, v2, bs, e1, t2, fun a ha j hj => ?_⟩
              have := d a ha (k + 1)
              have e3 : (fun j => if j = k then ([] : List Addr) else as) (k + 1) = as := if_neg (by omega)
              rw [e3] at this
              exact this (fs j a hj).2
        · rw [List.getElem?_append_right (by rw [List.length_map]; omega), List.getElem?_replicate] at h4
          split at h4
          · cases h4; exact fi i hie
          · cases h4
  · simp at hi
    exact fi i (by omega)
  · show (if i = es1.length then as else []).Nodup
    split
    · exact nd
    · exact List.nodup_nil
  · have e1 := (fs i a ha).1
    have e2 := (fs j a hz).1
    omega
/-- apart from what the name i owns -/
def WEA (i : Nat) (env : List (Ent c)) (t : TE) {α : Type} [Rp c α] (R : α → Prop) : Prop :=
  ∀ ⦃H0 : Hp⦄ ⦃F0 : List Addr⦄ ⦃Fs : Nat → List Addr⦄ ⦃σ : St⦄ ⦃H : Hp⦄, Sta H0 F0 env Fs σ H → ∀ Q : VK, (∀ x v H' as, R x → Same H H' → tree c H' v x as → (∀ a ∈ as, a ∉ Fs i) → Q v H') → t σ H Q
def WAQ (i : Nat) (env : List (Ent c)) (t : TA) (R : List (Ent c) → Prop) : Prop :=
  ∀ ⦃H0 : Hp⦄ ⦃F0 : List Addr⦄ ⦃Fs : Nat → List Addr⦄ ⦃σ : St⦄ ⦃H : Hp⦄, Sta H0 F0 env Fs σ H → ∀ Q : List V → Hp → Prop, (∀ es vs H', R es → Same H H' → ArgsD H' (Fs i) vs es → Q vs H') → t σ H Q
def WAM (i : Nat) (env : List (Ent c)) (t : TA) (R : List (Ent c) → List (Ent c) → Prop) : Prop :=
  ∀ ⦃H0 : Hp⦄ ⦃F0 : List Addr⦄ ⦃Fs : Nat → List Addr⦄ ⦃σ : St⦄ ⦃H : Hp⦄, Sta H0 F0 env Fs σ H → ∀ Q : List V → Hp → Prop, (∀ es1 es2 vs1 v vs2 H', R es1 es2 → Same H H' → σ[i]? = some (some v) → ArgsD H' (Fs i) vs1 es1 → ArgsD H' (Fs i) vs2 es2 → Q (vs1 ++ v :: vs2) H') → t σ H Q
variable {env : List (Ent c)} {m : Md} {ta tb tg te : TE} {tc : TT} {t u : TS} {α β γ δ : Type} [Rp c α] [Rp c β] [Rp c γ] [Rp c δ] {v0 : V}
theorem wea_flat [Flat c α] {i : Nat} {R : α → Prop} (h : WE .any env te R) : WEA i env te R := fun _ _ _ _ _ S Q k => h S Q fun x v H' as r s t _ => by
  have := Flat.flat t; subst this
  exact k x v H' [] r s t (fun a ha => absurd ha (by simp))
theorem wea_var {i j : Nat} {o : Bool} {x : α} {R : α → Prop} (h : env[j]? = some (.en o x)) (hj : j ≠ i) (q : R x) : WEA i env (tVar j) R := fun _ _ _ _ _ S Q k => by
  cases o with
  | false =>
    obtain ⟨u, h1, _, v, as, e, t, d⟩ := S.at_ h
    exact ⟨v, by rw [h1, e], k x v _ as q (Same.refl _) t fun a ha => d a ha i⟩
  | true =>
    obtain ⟨u, h1, v, e, t⟩ := S.at_ h
    exact ⟨v, by rw [h1, e], k x v _ _ q (Same.refl _) t fun a ha => S.dj j i hj a ha⟩
theorem waq_nil {i : Nat} {R : List (Ent c) → Prop} (q : R []) : WAQ i env tNil R := fun _ _ _ _ _ S Q k => k [] [] _ q (Same.refl _) trivial
theorem waq_cons {i : Nat} {t : TA} {R : List (Ent c) → Prop} (h : WEA i env ta fun x : α => WAQ i env t fun es => R (.sh x :: es)) : WAQ i env (tCons ta t) R :=
  fun _ _ _ _ _ S Q k => h S _ fun x v H1 as r s1 t1 d => r (S.same s1) _ fun es vs H2 r2 s2 a2 => k (.sh x :: es) (v :: vs) H2 r2 (s1.trans s2) ⟨⟨as, tree_same t1 s2, d⟩, a2⟩
theorem wam_self {i : Nat} {o : Bool} {x : α} {t : TA} {R : List (Ent c) → List (Ent c) → Prop} (hi : env[i]? = some (.en o x)) (h : WAQ i env t fun es => R [] es) : WAM i env (tCons (tVar i) t) R := fun _ _ _ _ _ S Q k => by
  obtain ⟨v, _, e, _⟩ := S.var hi
  exact ⟨v, e, h S _ fun es vs H' r s a => k [] es [] v vs H' r s e trivial a⟩
end
end L2

set_option Elab.async false
set_option linter.all false
set_option maxRecDepth 100000
set_option maxHeartbeats 4000000
/-! Walks by waiting lists: pure facts. -/
namespace L2
open PySem PySem.Spec PyProof.Rows
section
variable {rs : List (Int × Int)} {n : Int}
def cO (rs : List (Int × Int)) (l : List Int) (p : Int) : Nat := l.countP fun r => decide (sp rs r = p)
def cI (rs : List (Int × Int)) (l : List Int) (p : Int) : Nat := l.countP fun r => decide (en rs r = p)
/-- lists of roads that wait at their places -/
structure Wo (rs : List (Int × Int)) (n : Int) (w : List (List Int)) : Prop where
  len : (w.length : Int) = n
  row : ∀ (j : Nat) (row : List Int), w[j]? = some row → ∀ r ∈ row, (0 ≤ r ∧ r < rs.length) ∧ sp rs r = (j : Int)
  sz : ∀ row ∈ w, row.length ≤ 24
/-- what a walk does -/
structure Wkd (rs : List (Int × Int)) (n : Int) (w : List (List Int)) (p : Int) (path : List Int) (w' : List (List Int)) (q : Int) : Prop where
  pth : Path rs p path q
  perm : (path ++ w'.flatten).Perm w.flatten
  wo : Wo rs n w'
  at_ : 0 ≤ q ∧ q < n
  last : w'.getD q.toNat [] = []
  stay : ∀ j : Nat, w.getD j [] = [] → w'.getD j [] = []
  fst : path = [] → w.getD p.toNat [] = []
  hd : ∀ r rest, w.getD p.toNat [] = r :: rest → path[0]? = some r
/-- as many roads wait from each place as to it -/
def Ev (rs : List (Int × Int)) (l : List Int) : Prop := ∀ p, cO rs l p = cI rs l p
/-- a walk with its bends -/
structure Bent (rs : List (Int × Int)) (n : Int) (a b : Int) (path : List Int) (w : List (List Int)) (whole : List Int) (w' : List (List Int)) : Prop where
  pth : Path rs a whole b
  perm : (whole ++ w'.flatten).Perm (path ++ w.flatten)
  wo : Wo rs n w'
  ev : Ev rs w'.flatten
  non : ∀ r ∈ whole, w'.getD (sp rs r).toNat [] = []
  stay : ∀ j : Nat, w.getD j [] = [] → w'.getD j [] = []
  fst : ∀ r, path[0]? = some r → w.getD (sp rs r).toNat [] = [] → whole[0]? = some r
  sub : ∀ r ∈ path, r ∈ whole
/-- on the way -/
structure Bnd (rs : List (Int × Int)) (n : Int) (a b : Int) (path : List Int) (w0 : List (List Int)) (whole : List Int) (w : List (List Int)) (k : Nat) : Prop where
  pth : Path rs a whole b
  perm : (whole ++ w.flatten).Perm (path ++ w0.flatten)
  wo : Wo rs n w
  ev : Ev rs w.flatten
  le : k ≤ whole.length
  non : ∀ (i : Nat) (r : Int), i < k → whole[i]? = some r → w.getD (sp rs r).toNat [] = []
  stay : ∀ j : Nat, w0.getD j [] = [] → w.getD j [] = []
  fst : ∀ r, path[0]? = some r → w0.getD (sp rs r).toNat [] = [] → whole[0]? = some r
  sub : ∀ r ∈ path, r ∈ whole
/-- the lists at the start -/
def waits (n : Nat) (rs : List (Int × Int)) : List (List Int) := (rng n).map (outsD rs)
theorem mem_outs {r p : Int} : r ∈ outsD rs p ↔ (0 ≤ r ∧ r < rs.length) ∧ sp rs r = p := by
  unfold outsD
  rw [outs_sp, List.mem_filter, mem_rng]
  simp
end
end L2

set_option Elab.async false
set_option linter.all false
set_option maxRecDepth 100000
set_option maxHeartbeats 4000000
/-! Own rules, part 39: what changes a name's data, appended and in a comprehension; sum. -/
namespace L2
open PySem PySem.Spec PyProof.Rows
section
variable {X : Cx} {K : PySem.W.Frag}
end
section
variable {c : Ct}
variable {env : List (Ent c)} {m : Md} {ta tb te : TE} {tc : TT} {α β γ : Type} [Rp c α] [Rp c β] [Rp c γ]
end
end L2

set_option Elab.async false
set_option linter.all false
set_option maxRecDepth 100000
set_option maxHeartbeats 4000000
/-! Rides: pure facts. -/
namespace L2
open PySem PySem.Spec PyProof.Rows
/-! sums -/
def sm {α : Type} (l : List α) (f : α → Nat) : Nat := (l.map f).sum
section
variable {α β : Type}
end
section
variable {rs : List (Int × Int)} {n : Nat}
/-- all the roads -/
def allR (rs : List (Int × Int)) : List Int := rng rs.length
def sur (rs : List (Int × Int)) (p : Int) : Nat := cO rs (allR rs) p - cI rs (allR rs) p
theorem cO_rng (p : Int) : cO rs (allR rs) p = (outsD rs p).length := by
  unfold cO allR outsD
  rw [outs_sp, List.countP_eq_length_filter]
theorem cI_rng (p : Int) : cI rs (allR rs) p = (insD rs p).length := by
  unfold cI allR insD
  rw [outs_en, List.countP_eq_length_filter]
/-- walks from the places with more roads from than to: x is done so and so often -/
structure Sw (rs : List (Int × Int)) (n : Nat) (k : Int → Nat) (ws : List (List Int)) (w : List (List Int)) : Prop where
  wo : Wo rs n w
  perm : (ws.flatten ++ w.flatten).Perm (allR rs)
  walk : ∀ x ∈ ws, x ≠ [] ∧ ∃ a b, Path rs a x b ∧ (0 ≤ b ∧ b < n) ∧ w.getD b.toNat [] = [] ∧ 0 < sur rs a
  le : ∀ p, k p ≤ sur rs p
  low : ∀ p, cO rs (allR rs) p ≤ cI rs (allR rs) p → cO rs w.flatten p ≤ cI rs w.flatten p
  high : ∀ p, 0 < sur rs p → cO rs w.flatten p + k p = cI rs w.flatten p + sur rs p
  from_ : ∀ p, 0 < k p → ∃ x ∈ ws, ∃ b, Path rs p x b
end
end L2

set_option Elab.async false
set_option linter.all false
set_option maxRecDepth 100000
set_option maxHeartbeats 4000000
/-! Rides and parts: pure facts. -/
namespace L2
open PySem PySem.Spec PyProof.Rows
section
variable {rs : List (Int × Int)} {n : Nat}
/-! labels -/
/-! the rides so far: each road is in one of them, or waits -/
structure Rw (rs : List (Int × Int)) (n : Nat) (A : Int → Prop) (ts w : List (List Int)) : Prop where
  wo : Wo rs n w
  ev : Ev rs w.flatten
  perm : (ts.flatten ++ w.flatten).Perm (allR rs)
  ride : ∀ y ∈ ts, y ≠ [] ∧ ∃ a b, Path rs a y b ∧ (∀ r ∈ y, w.getD (sp rs r).toNat [] = []) ∧ w.getD b.toNat [] = [] ∧ A a
  from_ : ∀ p, 0 < sur rs p → ∃ y ∈ ts, ∃ b, Path rs p y b
/-- a part without a place with more roads from it than to it -/
def lone (n : Nat) (rs : List (Int × Int)) (f : Int) : Prop := root (names n rs) rs f = true ∧ sm (grp (names n rs) rs n f) (sur rs) = 0
instance (f : Int) : Decidable (lone n rs f) := by unfold lone; infer_instance
/-! how many are needed -/
def needN (n : Nat) (rs : List (Int × Int)) : Nat := sm (partsD n rs) fun part => max 1 (sm part (sur rs))
/-! the bends set in, walk by walk -/
structure Cb (rs : List (Int × Int)) (n : Nat) (ws : List (List Int)) (k : Nat) (ys w : List (List Int)) : Prop where
  wo : Wo rs n w
  ev : Ev rs w.flatten
  perm : (ys.flatten ++ ((ws.drop k).flatten ++ w.flatten)).Perm (allR rs)
  len : ys.length = k
  ride : ∀ y ∈ ys, y ≠ [] ∧ ∃ a b, Path rs a y b ∧ (∀ r ∈ y, w.getD (sp rs r).toNat [] = []) ∧ w.getD b.toNat [] = [] ∧ 0 < sur rs a
  rest : ∀ x ∈ ws.drop k, x ≠ [] ∧ ∃ a b, Path rs a x b ∧ (0 ≤ b ∧ b < n) ∧ w.getD b.toNat [] = [] ∧ 0 < sur rs a
  from_ : ∀ p, 0 < sur rs p → (∃ y ∈ ys, ∃ b, Path rs p y b) ∨ ∃ x ∈ ws.drop k, ∃ b, Path rs p x b
/-- what is told at the end -/
structure Rides (rs : List (Int × Int)) (n : Nat) (ts : List (List Int)) : Prop where
  perm : ts.flatten.Perm (allR rs)
  ride : ∀ y ∈ ts, y ≠ [] ∧ ∃ a b, Path rs a y b
  len : ts.length = needN n rs
end
end L2

set_option Elab.async false
set_option linter.all false
set_option maxRecDepth 100000
set_option maxHeartbeats 4000000
/-! Two nets beside each other: pure facts; promises of rides. -/
namespace L2
open PySem PySem.Spec PyProof.Rows
section
variable {rs qs : List (Int × Int)} {n m : Nat}
theorem map_sp : (rng rs.length).map (sp rs) = rs.map (·.1) := by
  apply List.ext_getElem?
  intro i
  rw [List.getElem?_map, List.getElem?_map]
  by_cases h : i < rs.length
  · rw [rng_get h, List.getElem?_eq_getElem h]
    show some (sp rs (i : Int)) = _
    unfold sp
    rw [Int.toNat_natCast, List.getD_eq_getElem?_getD, List.getElem?_eq_getElem h]
    rfl
  · rw [List.getElem?_eq_none (by rw [rng_len]; omega), List.getElem?_eq_none (by omega)]
    rfl
theorem map_en : (rng rs.length).map (en rs) = rs.map (·.2) := by
  apply List.ext_getElem?
  intro i
  rw [List.getElem?_map, List.getElem?_map]
  by_cases h : i < rs.length
  · rw [rng_get h, List.getElem?_eq_getElem h]
    show some (en rs (i : Int)) = _
    unfold en
    rw [Int.toNat_natCast, List.getD_eq_getElem?_getD, List.getElem?_eq_getElem h]
    rfl
  · rw [List.getElem?_eq_none (by rw [rng_len]; omega), List.getElem?_eq_none (by omega)]
    rfl
theorem cO_pairs (p : Int) : cO rs (allR rs) p = rs.countP fun e => decide (e.1 = p) := by
  have h := congrArg (List.countP fun x => decide (x = p)) (map_sp (rs := rs))
  rw [List.countP_map, List.countP_map] at h
  exact h
theorem cI_pairs (p : Int) : cI rs (allR rs) p = rs.countP fun e => decide (e.2 = p) := by
  have h := congrArg (List.countP fun x => decide (x = p)) (map_en (rs := rs))
  rw [List.countP_map, List.countP_map] at h
  exact h
end
section
variable {c : Ct}
end
end L2

set_option Elab.async false
set_option linter.all false
set_option maxRecDepth 100000
set_option maxHeartbeats 4000000
/-! No net of so many rides needs more: pure facts; promises of k14. -/
namespace L2
open PySem PySem.Spec PyProof.Rows
section
variable {rs : List (Int × Int)} {n : Nat}
end
section
variable {c : Ct} {env : List (Ent c)} {ta tb td : TE} {α β γ : Type} [Rp c α] [Rp c β] [Rp c γ]
end
end L2

set_option Elab.async false
set_option linter.all false
set_option maxRecDepth 100000
set_option maxHeartbeats 4000000
/-! Where there is a round, one is found: pure facts. -/
namespace L2
open PySem PySem.Spec PyProof.Rows
section
variable {rs : List (Int × Int)} {n : Nat}
end
section
variable {c : Ct}
end
end L2

set_option Elab.async false
set_option linter.all false
set_option maxRecDepth 100000
set_option maxHeartbeats 4000000
/-! Own rules, part 45: set(list), its length; windows and rings. -/
namespace L2
open PySem PySem.Spec PyProof.Rows
/-- how many different ones -/
def fm (ns : List Int) : List Int := firstMet (fun i => ns.getD i 0) ns.length
section
variable {X : Cx} {K : PySem.W.Frag}
def rSetOf (K : PySem.W.Frag) : List V → Hp → VK → Prop := fun xs H Q => ∃ p, ∃ ns : List Int, xs = [.ref p] ∧ SqL K H p (ns.map V.int) ∧ ns.length ≤ 1000 ∧ ∀ l, H l = none → Q (.ref l) (upd H l (.set (fun k => (fm ns).any (· == k)) (fm ns).length))
theorem call_setK (hK : X.K = K) (hc : X.calm = true) : CallR X (.type "set") (rSetOf K) := by
  subst hK
  intro pins s σ H xs us Q I r h
  obtain ⟨p, ns, rfl, hq, hn, q⟩ := h
  obtain ⟨u, rfl, ru⟩ := vals1 r
  cases ru
  obtain ⟨its, rv, pl, hz⟩ := I.list hq
  have hl : ns.length = its.length := by have := rv.length; rwa [List.length_map] at this
  refine PySem.call_set_list (items := its.toArray) (ns := ns) (I.ok.hd hc) pl.isList (intsAre_of rv) (by show its.length + 1 < scanBound; unfold scanBound; omega) fun h' tk hS hk => ?_
  have e : its.toArray.size = ns.length := by simp [hl]
  rw [e] at hS
  exact ⟨.ref s.heap.objs.size, _, I.laid (t' := tk) (o := .set (fun k => (fm ns).any (· == k)) (fm ns).length) (fun b o z => hk b o (Heap.lt_size z) z) (Nat.le_refl _) hS, rfl, q _ (I.hok.fresh (Nat.le_refl _))⟩
def rLenS : List V → Hp → VK → Prop := fun xs H Q => ∃ p S n, xs = [.ref p] ∧ H p = some (.set S n) ∧ Q (.int (n : Nat)) H
theorem call_lenS : CallR X (.builtin "len") rLenS := by
  intro pins s σ H xs us Q I r h
  obtain ⟨p, S, n, rfl, hp, q⟩ := h
  obtain ⟨u, rfl, ru⟩ := vals1 r
  cases ru
  obtain ⟨o, es, ep, t, ho, hex, hd, _, _, hb, hf, rfl⟩ := (show s.heap.SetOf (intKind X.prog X.w) p S n from I.hok p _ hp)
  refine PySem.call_len_set ho hex hd hf (by unfold scanBound at hb; omega) ⟨.int _, H, I.tok _, ⟨_, rfl⟩, q⟩
end
/-- a set of numbers -/
structure Sd where
  ns : List Int
section
variable {c : Ct}
instance : Rp c Sd where
  tree := fun H v x as => ∃ p, v = .ref p ∧ H p = some (.set (fun k => (fm x.ns).any (· == k)) (fm x.ns).length) ∧ as = []
  isl := fun h a ha => by
    obtain ⟨_, _, _, z⟩ := h
    rw [z] at ha; simp at ha
  frame := fun h k => by
    obtain ⟨a, e, s, z⟩ := h
    exact ⟨a, e, k _ _ s (.inl rfl), z⟩
variable {env : List (Ent c)} {m : Md} {ta : TE}
theorem we_set {R : Sd → Prop} (h : WE .any env ta fun xs : List Int => xs.length ≤ 1000 ∧ R ⟨xs⟩) : WE m env (tCB (rSetOf c.K) (tCons ta tNil)) R := fun _ _ _ _ _ S Q k => h S _ fun xs v H1 as ra s1 t1 _ => by
  obtain ⟨a, vs, as', rfl, ha, tr, rfl⟩ := t1
  have := tr.ints
  subst this
  exact ⟨a, xs, rfl, SqL.of ha, ra.1, fun l hl => k ⟨xs⟩ _ _ [] ra.2 (s1.trans (Same.new hl)) ⟨l, rfl, upd_same, rfl⟩ Md.nil⟩
theorem we_lenS {R : Int → Prop} (h : WE .any env ta fun x : Sd => R ((fm x.ns).length : Nat)) : WE m env (tCB rLenS (tCons ta tNil)) R := fun _ _ _ _ _ S Q k => h S _ fun x v H1 as ra s1 t1 _ => by
  obtain ⟨p, rfl, hp, rfl⟩ := t1
  exact ⟨p, _, _, rfl, hp, k _ _ _ [] ra s1 ⟨rfl, rfl⟩ Md.nil⟩
end
theorem fm_take {ns : List Int} (nd : ns.Nodup) : ∀ i, i ≤ ns.length → firstMet (fun i => ns.getD i 0) i = ns.take i
  | 0, _ => by rw [firstMet_zero, List.take_zero]
  | i + 1, h => by
    have hi : i < ns.length := by omega
    rw [firstMet_succ, fm_take nd i (by omega), List.take_add_one, List.getElem?_eq_getElem hi]
    have e : ns.getD i 0 = ns[i] := by rw [List.getD_eq_getElem?_getD, List.getElem?_eq_getElem hi]; rfl
    rw [e]
    unfold step_dedup
    have hno : ¬ (ns.take i).any (· == ns[i]) = true := fun z => by
      obtain ⟨x, hx, e2⟩ := List.any_eq_true.mp z
      have e3 : x = ns[i] := by simpa using e2
      subst e3
      obtain ⟨j, hj, ej⟩ := List.mem_iff_getElem.mp hx
      rw [List.length_take] at hj
      rw [List.getElem_take] at ej
      have := (List.getElem_inj nd).mp ej
      omega
    rw [if_neg hno]
    rfl
theorem fm_nodup {ns : List Int} (nd : ns.Nodup) : (fm ns).length = ns.length := by
  unfold fm
  rw [fm_take nd _ (Nat.le_refl _), List.take_length]
/-! windows -/
section
variable {a l : Nat}
/-- the roads of the net of windows -/
def wn (a l : Nat) : List (Int × Int) := (rng (a ^ l)).map fun w => (w / (a : Int), w % ((a ^ (l - 1) : Nat) : Int))
/-- an item, read round -/
def rd (told : List Int) (i : Int) : Int := nm told (i % (told.length : Int))
/-- so many signs from i on, as a number -/
def numR (a : Nat) (told : List Int) (i : Int) : Nat → Int
  | 0 => 0
  | k + 1 => numR a told i k * (a : Int) + rd told (i + (k : Int))
theorem rd_mem {told : List Int} (h : 0 < told.length) (i : Int) : ∃ x, told[(i % (told.length : Int)).toNat]? = some x ∧ rd told i = x := by
  have h1 := Int.emod_nonneg i (show (told.length : Int) ≠ 0 by omega)
  have h2 := Int.emod_lt_of_pos i (show (0 : Int) < told.length by omega)
  obtain ⟨x, _, g, _⟩ := atI_ge (xs := told) h1 h2
  refine ⟨x, g, ?_⟩
  unfold rd nm
  rw [List.getD_eq_getElem?_getD, g]
  rfl
end
end L2

set_option Elab.async false
set_option linter.all false
set_option maxRecDepth 100000
set_option maxHeartbeats 4000000
/-! Own rules, part 46: extend, isinstance of a net; the windows of the law. -/
namespace L2
open PySem PySem.Spec PyProof.Rows
/-- what stands on the class of nets -/
structure NetK (K : PySem.W.Frag) (C : Addr) : Prop where
  cl : PySem.W.findIn K (.ref C) "__class__" = some (some (.builtin "object.__class__"))
  hn : PySem.W.specialIn K (.builtin "object.__class__") "__get__" = some (some (.builtin "getset_descriptor.__get__"))
  tk : PySem.W.takesIn K (.builtin "object.__class__") = some true
  mo : PySem.W.mroIn K C (.type "object") = some true
  is_ : PySem.W.kitOne K (.ref C) (.ref C) = some true
section
variable {c : Ct} {env : List (Ent c)} {m : Md} {ta te : TE} {α β : Type} [Rp c α] [Rp c β] {R : Rs c β}
end
section
variable {c : Ct} {env : List (Ent c)} {m : Md} {ta tb : TE}
end
/-! the windows of the law -/
def numL (a : Int) (row : List Int) : Int := row.foldl (fun n s => n * a + s) 0
def rowsAll (a : Nat) : Nat → List (List Int)
  | 0 => [[]]
  | l + 1 => (rowsAll a l).flatMap fun row => (rng a).map fun s => row ++ [s]
def winC (p : Nat × Nat) : Bool :=
  decide (1 ≤ p.1) && decide (p.1 ≤ 24) && decide (1 ≤ p.2) && decide (p.2 ≤ 30) && decide (p.1 ^ p.2 ≤ 24) && decide (1 ≤ p.1 ^ (p.2 - 1)) && decide (p.1 ^ (p.2 - 1) ≤ 8) && decide (p.1 ^ (p.2 - 1) * p.1 = p.1 ^ p.2) &&
  (wn p.1 p.2).all (fun e => decide (0 ≤ e.1) && decide (e.1 < (p.1 ^ (p.2 - 1) : Nat)) && decide (0 ≤ e.2) && decide (e.2 < (p.1 ^ (p.2 - 1) : Nat))) &&
  (oddD (p.1 ^ (p.2 - 1)) (wn p.1 p.2)).isEmpty && decide ((partsD (p.1 ^ (p.2 - 1)) (wn p.1 p.2)).length ≤ 1) &&
  decide ((rowsAll p.1 p.2).length = p.1 ^ p.2) && decide ((rowsAll p.1 p.2).map (fun row => (numL p.1 (cutL row none (some (-1))), numL p.1 (cutL row (some 1) none))) = wn p.1 p.2) && (rowsAll p.1 p.2).all (fun row => decide (row.length = p.2) && row.all (fun s => decide (0 ≤ s) && decide (s < p.1)))
structure Win (a l : Nat) : Prop where
  a1 : 1 ≤ a
  a2 : a ≤ 24
  l1 : 1 ≤ l
  l2 : l ≤ 30
  cnt : a ^ l ≤ 24
  p1 : 1 ≤ a ^ (l - 1)
  p8 : a ^ (l - 1) ≤ 8
  mul : a ^ (l - 1) * a = a ^ l
  net : InNet ((a ^ (l - 1) : Nat) : Int) (wn a l)
  odd : oddD (a ^ (l - 1)) (wn a l) = []
  one : (partsD (a ^ (l - 1)) (wn a l)).length ≤ 1
  rows : (rowsAll a l).length = a ^ l
  road : (rowsAll a l).map (fun row => (numL a (cutL row none (some (-1))), numL a (cutL row (some 1) none))) = wn a l
  row : ∀ r ∈ rowsAll a l, r.length = l ∧ ∀ s ∈ r, 0 ≤ s ∧ s < a
section
variable {c : Ct}
def p_wend : List (Ent c) → (Int → Prop) → Prop := fun es R => ∃ (a l : Nat) (told : List Int) (i : Int), es = [.sh (a : Int), .sh (l : Int), .sh told, .sh i] ∧ (1 ≤ a ∧ a ≤ 24) ∧ l ≤ 1000 ∧ (0 < told.length ∧ told.length ≤ 1000) ∧ (0 ≤ i ∧ i ≤ 1000) ∧ R (numR a told (i - (l : Int) + 1) l)
end
end L2

set_option Elab.async false
set_option linter.all false
set_option maxRecDepth 100000
set_option maxHeartbeats 4000000
/-! Own rules, part 47: own data that move to another name; rings read round. -/
namespace L2
open PySem PySem.Spec PyProof.Rows
section
variable {c : Ct} {env : List (Ent c)} {m : Md} {te : TE} {α β : Type} [Rp c α] [Rp c β]
end
section
variable {a l : Nat}
theorem rot_perm {cs : List Int} (nd : cs.Nodup) (t : Int) : ((rng cs.length).map fun i => rd cs (i + t)).Perm cs := by
  refine perm_full ?_ (fun x hx => ?_) (by rw [List.length_map, rng_len])
  · refine List.pairwise_map.mpr ?_
    have hs : (rng cs.length).Pairwise (· < ·) := by
      unfold rng
      refine List.pairwise_map.mpr ?_
      refine List.Pairwise.imp ?_ List.pairwise_lt_range
      intro x y hxy
      omega
    refine List.Pairwise.imp_of_mem ?_ hs
    intro i j hi hj hij e
    have hi' := mem_rng.mp hi
    have hj' := mem_rng.mp hj
    have hpos : 0 < cs.length := by omega
    obtain ⟨x, gx, ex⟩ := rd_mem hpos (i + t)
    obtain ⟨y, gy, ey⟩ := rd_mem hpos (j + t)
    have m1 := Int.emod_nonneg (i + t) (show (cs.length : Int) ≠ 0 by omega)
    have m2 := Int.emod_nonneg (j + t) (show (cs.length : Int) ≠ 0 by omega)
    have hxy : x = y := by rw [← ex, ← ey]; exact e
    subst hxy
    have hix := (List.getElem?_eq_some_iff.mp gx)
    have hiy := (List.getElem?_eq_some_iff.mp gy)
    obtain ⟨l1, e1⟩ := hix
    obtain ⟨l2, e2⟩ := hiy
    have e3 := (List.getElem_inj nd).mp (e1.trans e2.symm)
    have e4 : (i + t) % (cs.length : Int) = (j + t) % (cs.length : Int) := by omega
    have e5 := (Int.emod_emod_of_dvd (j + t - (i + t)) (Int.dvd_refl (cs.length : Int)))
    have e6 : ((j + t) - (i + t)) % (cs.length : Int) = 0 := by
      rw [Int.sub_emod, ← e4, Int.sub_self, Int.zero_emod]
    rw [show (j + t) - (i + t) = j - i by omega, Int.emod_eq_of_lt (by omega) (by omega)] at e6
    omega
  · obtain ⟨i, hi, rfl⟩ := List.mem_map.mp hx
    have hi' := mem_rng.mp hi
    obtain ⟨y, g, e⟩ := rd_mem (told := cs) (by omega) (i + t)
    rw [e]
    exact List.mem_of_getElem? g
end
end L2

set_option Elab.async false
set_option linter.all false
set_option maxRecDepth 100000
set_option maxHeartbeats 4000000
/-! Own rules, part 48: a loop that may raise; walking a text, int(text); a list handed over to a def. -/
namespace L2
open PySem PySem.Spec PyProof.Rows
section
variable {c : Ct} {env : List (Ent c)} {ta tb te : TE} {t u : TS} {β : Type} [Rp c β] {R : Rs c β} {H0 : Hp}
theorem wx_for1 {i : Nat} {tb : TS} (h : WE .any env ta fun n : Int => (-(2 ^ 62) ≤ n ∧ n < 2 ^ 62) ∧ ∃ J : Nat → List (Ent c) → Prop, J 0 env ∧
      (∀ (k : Nat) e, (k : Int) < n → J k e → WSx H0 (e.set i (.sh (k : Int))) tb { nx := J (k + 1), ct := J (k + 1), bk := R.nx, rt := R.rt }) ∧ ∀ e, J n.toNat e → R.nx e) :
    WSx H0 env (tFor (iRng1 (tCons ta tNil)) (gName i) tb) R := fun Fs σ H D S C => h S _ fun n v H1 as ra s1 t1 _ => by
  obtain ⟨⟨hn0, hn1⟩, J, j0, js, je⟩ := ra
  refine ⟨n, by rw [t1.1], hn0, hn1, for_range (fun k σ' H' => ∃ e Fs', J k e ∧ Sta H0 [] e Fs' σ' H') ⟨env, Fs, j0, S.same s1⟩ ?_ ?_⟩
  · rintro k σ' H' hk ⟨e, Fs', hj, S'⟩
    obtain ⟨Fs2, S2, _⟩ := S'.set' (α := Int) (x := (k : Int)) (v := V.int (0 + (k : Int))) (as := []) i (show tree c _ (V.int _) (_ : Int) [] from ⟨by rw [Int.zero_add], rfl⟩) (fun a ha => absurd ha (by simp))
    exact js k e (by omega) hj S2 ⟨fun e2 F2 σ2 H2 r q => ⟨e2, F2, r, q⟩, C.nx, fun e2 F2 σ2 H2 r q => ⟨e2, F2, r, q⟩, C.rt⟩
  · rintro σ' H' ⟨e, Fs', hj, S'⟩
    exact C.nx e Fs' σ' H' (je e hj) S'
end
/-! ### a text, sign by sign -/
section
variable {X : Cx} {K : PySem.W.Frag}
end
section
variable {c : Ct} {env : List (Ent c)} {m : Md} {ta te : TE} {tc : TT} {α β γ : Type} [Rp c α] [Rp c β] [Rp c γ] {caps : List Nat}
/-! ### data handed over to a def -/
end

/-! ### the windows of a row -/
theorem firstMet_mem {val : Nat → Int} : ∀ (i : Nat) {x : Int}, x ∈ firstMet val i → ∃ j, j < i ∧ x = val j
  | 0, x, h => by rw [firstMet_zero] at h; simp at h
  | i + 1, x, h => by
    rw [firstMet_succ] at h
    unfold step_dedup at h
    split at h
    · obtain ⟨j, hj, e⟩ := firstMet_mem i h
      exact ⟨j, by omega, e⟩
    · rcases List.mem_append.mp h with z | z
      · obtain ⟨j, hj, e⟩ := firstMet_mem i z
        exact ⟨j, by omega, e⟩
      · exact ⟨i, by omega, by simpa using z⟩
theorem firstMet_nodup {val : Nat → Int} : ∀ i : Nat, (firstMet val i).Nodup
  | 0 => by rw [firstMet_zero]; exact List.nodup_nil
  | i + 1 => by
    rw [firstMet_succ]
    unfold step_dedup
    split
    · exact firstMet_nodup i
    · rename_i h
      refine List.nodup_append.mpr ⟨firstMet_nodup i, List.nodup_cons.mpr ⟨by simp, List.nodup_nil⟩, fun a ha b hb e => ?_⟩
      have : b = val i := by simpa using hb
      subst this
      subst e
      exact h (List.any_eq_true.mpr ⟨_, ha, by simp⟩)
theorem fm_full {ns : List Int} (h : (fm ns).length = ns.length) : ns.Nodup := by
  have p : (fm ns).Perm ns := by
    refine perm_full (firstMet_nodup _) (fun x hx => ?_) h
    obtain ⟨j, hj, e⟩ := firstMet_mem _ hx
    rw [e, List.getD_eq_getElem?_getD, List.getElem?_eq_getElem hj]
    exact List.getElem_mem hj
  exact p.nodup_iff.mp (firstMet_nodup _)
theorem numR_mod {a : Nat} {told : List Int} {i : Int} (d : Int) : ∀ k : Nat, numR a told (i + (told.length : Int) * d) k = numR a told i k
  | 0 => rfl
  | k + 1 => by
    show numR a told (i + (told.length : Int) * d) k * (a : Int) + rd told (i + (told.length : Int) * d + (k : Int)) = numR a told i k * (a : Int) + rd told (i + (k : Int))
    rw [numR_mod d k]
    unfold rd
    rw [show i + (told.length : Int) * d + (k : Int) = i + (k : Int) + (told.length : Int) * d by omega, Int.add_mul_emod_self_left]
/-- the windows read round, from a turn on -/
def wins (a l : Nat) (told : List Int) (t : Int) : List Int := (rng told.length).map fun i => numR a told (i + t) l
theorem wins_len {a l : Nat} {told : List Int} {t : Int} : (wins a l told t).length = told.length := by unfold wins; rw [List.length_map, rng_len]
theorem wins_rd {a l : Nat} {told : List Int} {t i : Int} (h : 0 < told.length) : rd (wins a l told t) i = numR a told (i + t) l := by
  have m0 := Int.emod_nonneg i (show (told.length : Int) ≠ 0 by omega)
  have m1 := Int.emod_lt_of_pos i (show (0 : Int) < told.length by omega)
  unfold rd nm
  rw [wins_len]
  unfold wins
  rw [List.getD_eq_getElem?_getD, List.getElem?_map, rng_get (by omega)]
  show numR a told (((i % (told.length : Int)).toNat : Int) + t) l = _
  rw [Int.toNat_of_nonneg m0]
  have e := Int.emod_add_mul_ediv i (told.length : Int)
  rw [show i + t = i % (told.length : Int) + t + (told.length : Int) * (i / (told.length : Int)) by omega, numR_mod]
theorem wins_turn {a l : Nat} {told : List Int} (h : 0 < told.length) (t u : Int) : wins a l told u = (rng (wins a l told t).length).map fun i => rd (wins a l told t) (i + (u - t)) := by
  rw [wins_len]
  show (rng told.length).map _ = _
  refine List.map_congr_left fun i _ => ?_
  rw [wins_rd h, show i + (u - t) + t = i + u by omega]
theorem wins_nodup {a l : Nat} {told : List Int} (h : 0 < told.length) {t : Int} (u : Int) (nd : (wins a l told t).Nodup) : (wins a l told u).Nodup := by
  rw [wins_turn h t u]
  exact (rot_perm nd (u - t)).nodup_iff.mpr nd
/-- a ring: each window once -/
def Rg (a l : Nat) (told : List Int) : Prop := told.length = a ^ l ∧ (∀ x ∈ told, 0 ≤ x ∧ x < (a : Int)) ∧ (wins a l told 0).Nodup
/-! sizes -/
def szs2 : List (Nat × Nat) := [(2, 2), (2, 3), (2, 4), (3, 2), (4, 2)] ++ ((List.range 23).map fun k => (k + 2, 1)) ++ (List.range 30).map fun k => (1, k + 1)
theorem win_all2 : szs2.all winC = true := by decide +kernel
theorem win_of2 {a l : Nat} (h : (a, l) ∈ szs2) : Win a l := by
  have := List.all_eq_true.mp win_all2 _ h
  unfold winC at this
  simp only [Bool.and_eq_true, decide_eq_true_iff, List.all_eq_true] at this
  obtain ⟨⟨⟨⟨⟨⟨⟨⟨⟨⟨⟨⟨⟨h1, h2⟩, h3⟩, h4⟩, h5⟩, h6⟩, h7⟩, h8⟩, h9⟩, h10⟩, h11⟩, h12⟩, h13⟩, h14⟩ := this
  refine ⟨h1, h2, h3, h4, h5, h6, h7, h8, fun e he => ?_, List.isEmpty_iff.mp h10, h11, h12, h13, fun r hr => ?_⟩
  · obtain ⟨⟨⟨q1, q2⟩, q3⟩, q4⟩ := h9 e he
    exact ⟨⟨q1, q2⟩, q3, q4⟩
  · obtain ⟨q1, q2⟩ := h14 r hr
    exact ⟨q1, fun s hs => q2 s hs⟩
theorem sz_all : ((List.range 25).all fun a => (List.range 31).all fun l => !(decide (1 ≤ a) && decide (1 ≤ l) && decide (a ^ l ≤ 24)) || decide ((a, l) ∈ szs2)) = true := by decide +kernel
theorem win_ok {a l : Nat} (ha : 1 ≤ a) (hl : 1 ≤ l) (hl2 : l ≤ 30) (h : a ^ l ≤ 24) : Win a l := by
  have ha2 : a ≤ a ^ l := by
    conv => lhs; rw [← Nat.pow_one a]
    exact Nat.pow_le_pow_right ha hl
  have := List.all_eq_true.mp (List.all_eq_true.mp sz_all a (List.mem_range.mpr (by omega))) l (List.mem_range.mpr (by omega))
  rw [decide_eq_true ha, decide_eq_true hl, decide_eq_true h] at this
  exact win_of2 (of_decide_eq_true (by simpa using this))
/-- there are such windows, and not too many -/
def Wk2 (s l : Int) : Prop := 1 ≤ s ∧ 1 ≤ l ∧ s.toNat ^ l.toNat ≤ 24
instance (s l : Int) : Decidable (Wk2 s l) := by unfold Wk2; infer_instance
theorem wk_nat {a l : Nat} : Wk2 (a : Int) (l : Int) ↔ 1 ≤ a ∧ 1 ≤ l ∧ a ^ l ≤ 24 := by
  unfold Wk2
  rw [Int.toNat_natCast, Int.toNat_natCast]
  constructor
  · rintro ⟨h1, h2, h3⟩; exact ⟨by omega, by omega, h3⟩
  · rintro ⟨h1, h2, h3⟩; exact ⟨by omega, by omega, h3⟩
section
variable {c : Ct}
def p_xwcount (n : Addr) : List (Ent c) → (Int → Prop) → (Addr → Prop) → Prop := fun es R X => ∃ s l : Int, es = [.sh s, .sh l] ∧ s ≤ 100 ∧ l ≤ 100 ∧ (Wk2 s l → R ((s.toNat ^ l.toNat : Nat) : Int)) ∧ (¬ Wk2 s l → X n)
def Sgn (a : Int) (n : Int) (told : List Int) : Prop := (told.length : Int) = n ∧ ∀ x ∈ told, 0 ≤ x ∧ x < a
def p_xnsigns (r : Addr) : List (Ent c) → (Unit → Prop) → (Addr → Prop) → Prop := fun es R X => ∃ (a n : Int) (told : List Int), es = [.sh a, .sh n, .sh told] ∧ told.length ≤ 1000 ∧ (Sgn a n told → R ()) ∧ (¬ Sgn a n told → X r)
def p_xring (n r : Addr) : List (Ent c) → (List Int → Prop) → (Addr → Prop) → Prop := fun es R X => ∃ (s l : Int) (told : List Int), es = [.sh s, .sh l, .sh told] ∧ s ≤ 100 ∧ l ≤ 30 ∧ told.length ≤ 1000 ∧ (¬ Wk2 s l → X n) ∧ (Wk2 s l → Rg s.toNat l.toNat told → ∀ cs, R cs) ∧ (Wk2 s l → ¬ Rg s.toNat l.toNat told → X r)
/-- what is told of windows and a row -/
structure Rtold (s l : Int) (told : List Int) (way : Int) (fd : List Bool) : Prop where
  no : ¬ Wk2 s l → fd = [true, false, true]
  net : Wk2 s l → way = 0 → fd = []
  ok : Wk2 s l → way ≠ 0 → Rg s.toNat l.toNat told → fd = []
  bad : Wk2 s l → way ≠ 0 → ¬ Rg s.toNat l.toNat told → fd = [false, true, true]
end
end L2

set_option Elab.async false
set_option linter.all false
set_option maxRecDepth 100000
set_option maxHeartbeats 4000000
/-! Own rules, part 49: nets that are refused, roads that are refused, told as pairs. -/
namespace L2
open PySem PySem.Spec PyProof.Rows
/-- anything -/
structure Anyv where
section
variable {c : Ct}
instance : Rp c Anyv where
  tree := fun _ _ _ as => as = []
  isl := fun h a ha => by rw [show _ = [] from h] at ha; simp at ha
  frame := fun h _ => h
instance : Flat c Anyv := ⟨fun h => h⟩
end
/-! ### C(..) that may raise -/
section
variable {X : Cx} {CX : CXT} {k : Nat} {f C : Addr} {fd : FuncData} {ps : List Str} {sp : Sp} {dvs : List V} {ds : List Value} {E : XK} {G : St → Hp → Prop} {x : Str} {p pos : Pos} {e : Expr} {es : List Expr} {t : TA}
theorem run_makeG {pins : List (Addr × Obj)} {σ : St} {H : Hp} {s : Shared} {Q : VK} {us : List Value} {vs : List V} (M : Mk X.K C f) (F : FnOk X.prog X.w X.K X.mg X.base CX k f fd ps sp) (hr : Room (k + 1) X.A) (hb : Binds X.K fd ps ds) (hd : Vals dvs ds)
    (hx : PassesG CX X E G) (I : Inv X pins σ H s) (r : Vals vs us)
    (h : ∀ x dx, H x = none → H dx = none → dx ≠ x → G σ (upd (upd H dx (.own x)) x (.ins C dx [])) ∧ sp (.ref x :: (vs ++ dvs)) (upd (upd H dx (.own x)) x (.ins C dx [])) (fun v H2 => v = .non ∧ Q (.ref x) H2) E) :
    wpAny (model X.prog X.w) X.A (call (.ref C) us) (EP X pins σ Q) X.xe s := by
  obtain ⟨g, hq⟩ := h (s.heap.objs.size + 1) s.heap.objs.size (I.hok.fresh (Nat.le_succ _)) (I.hok.fresh (Nat.le_refl _)) (Nat.ne_of_lt (Nat.lt_succ_self _))
  have I2 := Inv.made (C := C) I
  have r2 : Vals (V.ref (s.heap.objs.size + 1) :: (vs ++ dvs)) (Value.ref (s.heap.objs.size + 1) :: (us ++ ds)) := .cons rfl (r.append hd)
  have hl : (Value.ref (s.heap.objs.size + 1) :: us ++ ds).length = ps.length := by
    have e := r2.length
    rw [F.len _ _ _ _ hq] at e
    exact e.symm
  refine wpAny_call (make_map (f := f) I.kIn M.makes M.init (beq_iff_eq.mp M.fn) (codeAny_mono (F.run _ X.stack _ _ ⟨Value.ref (s.heap.objs.size + 1) :: us, []⟩ (Value.ref (s.heap.objs.size + 1) :: (us ++ ds)) _ _ E (hr.make C us [])
    (I2.env0.make C us []) (hb _ (Value.ref (s.heap.objs.size + 1) :: us) I2.kIn hl) r2 hq) fun r s' hq' => ?_))
  cases r with
  | error e => exact hx pins σ _ _ e s' I2 g hq'
  | ok fl =>
    cases fl with
    | ret u =>
      obtain ⟨v, H', I3, rv, ev, q3⟩ := I2.after hq'
      subst ev
      exact ⟨rv, ⟨V.ref (s.heap.objs.size + 1), H', I3, rfl, q3⟩⟩
    | next => exact False.elim hq'
    | brk => exact False.elim hq'
    | cont => exact False.elim hq'
def tMakeG (C : Addr) (sp : Sp) (dvs : List V) (E : XK) (G : St → Hp → Prop) (t : TA) : TE := fun σ H Q => t σ H fun vs H1 => ∀ x dx, H1 x = none → H1 dx = none → dx ≠ x →
  G σ (upd (upd H1 dx (.own x)) x (.ins C dx [])) ∧ sp (.ref x :: (vs ++ dvs)) (upd (upd H1 dx (.own x)) x (.ins C dx [])) (fun v H2 => v = .non ∧ Q (.ref x) H2) E
theorem pe_makeG (M : Mk X.K C f) (F : FnOk X.prog X.w X.K X.mg X.base CX k f fd ps sp) (hr : Room (k + 1) X.A) (hg : Gl X x) (hm : X.mg x = some (.ref C)) (hb : Binds X.K fd ps ds) (hd : Vals dvs ds) (hx : PassesG CX X E G)
    (ha : PA X (e :: es) t) (hdb : (x == ("__debug__" : Str)) = false := by decide) (he : starEach (e :: es) X.env = (false, eval e X.env) :: starEach es X.env := by rfl) (hpl : (backTo pos (starEach es X.env)).any (·.1) = false := by rfl) :
    PE X (.Call (.Name x p) (e :: es) [] pos) (tMakeG C sp dvs E G t) := by
  intro pins s σ H Q I h
  refine wpAny_Call_Name_kw (ld_glob I hg hm ?_ hdb)
  refine PySem.W.callWith_K (h₀ := X.base) I.ok.mod.kin M.kp (thn (ha pos pins s σ H _ I h) fun us s1 ⟨vs, H1, I1, r, q⟩ => ⟨I1.kIn, ?_⟩) he hpl
  exact run_makeG M F hr hb hd hx I1 r q
end
/-! ### promises that refuse -/
def InP (n a b : Int) : Prop := (0 ≤ a ∧ a < n) ∧ (0 ≤ b ∧ b < n)
instance (n a b : Int) : Decidable (InP n a b) := by unfold InP; infer_instance
section
variable {c : Ct} {env : List (Ent c)} {m : Md} {ta tb te : TE} {tc : TT} {t u : TS} {α β γ : Type} [Rp c α] [Rp c β] [Rp c γ] {P G : St → Hp → Prop} {E : XK} {XX : Addr → Prop} {v0 : V}
def p_xinit (tm : Addr) : List (Ent c) → (Unit → Prop) → (Addr → Prop) → Prop := fun es R X => ∃ (y : Anyv) (n : Int), es = [.sh y, .sh n] ∧ ¬ (1 ≤ n ∧ n ≤ 8) ∧ X tm
def p_xneed (np : Addr) : List (Ent c) → (Unit → Prop) → (Addr → Prop) → Prop := fun es R X => ∃ (N : NetD) (k : Int), es = [.sh N, .sh k] ∧ (¬ (0 ≤ k ∧ k < N.n) → X np) ∧ ((0 ≤ k ∧ k < N.n) → R ())
/-- Net(n), refused -/
theorem wg_netX {pre : List (Ent c) → (Unit → Prop) → (Addr → Prop) → Prop} {R : Unit → Prop} (xp : Xp P G E XX) (h : WE .any env ta fun n : Int => ∃ X, pre [.sh (⟨⟩ : Anyv), .sh n] (fun _ => False) X ∧ ∀ C, X C → XX C) :
    WE m env (tG P (tMakeG c.C (spX c pre) [] E G (tCons ta tNil))) R := fun _ _ _ σ H S Q k hP => h S _ fun n v H1 as ra s1 t1 _ => by
  intro x dx nx ndx nex
  obtain ⟨X, hp, hX⟩ := ra
  have s0 : Same H1 (upd (upd H1 dx (.own x)) x (.ins c.C dx [])) := fun b o e => by
    rw [upd_ne (ne_of_none e nx), upd_ne (ne_of_none e ndx)]
    exact e
  refine ⟨xp.go (xp.same hP (s1.trans s0)), ?_⟩
  refine ⟨[.sh (⟨⟩ : Anyv), .sh n], fun _ => False, X, hp, ⟨⟨[], rfl⟩, ⟨[], t1.1, rfl⟩, trivial⟩, fun _ _ _ _ z => z.elim, fun C H' hC s => xp.ex (hX C hC) (xp.same hP ((s1.trans s0).trans s))⟩
/-! ### told as pairs -/
abbrev LtT : Type := Str × (Int ⊕ Str)
def okS : Int ⊕ Str → Bool
  | .inl _ => true
  | .inr x => PyData.canLay0 (.str x)
/-! ### the law's own -/
abbrev ltR : LtT := ("refused", .inr "place")
abbrev ltM : LtT := ("refused", .inr "many")
abbrev ltL (n : Nat) : LtT := ("laid", .inl (n : Int))
/-- what is told of a road, and the net behind it -/
inductive Lt (N : NetD) (a b : Int) : LtT → NetD → Prop
  | no : ¬ InP N.n a b → Lt N a b ltR N
  | many : InP N.n a b → 24 ≤ N.rs.length → Lt N a b ltM N
  | laid : InP N.n a b → N.rs.length < 24 → Lt N a b (ltL N.rs.length) ⟨N.n, N.rs ++ [(a, b)]⟩
end
end L2

set_option Elab.async false
set_option linter.all false
set_option maxRecDepth 100000
set_option maxHeartbeats 4000000
/-! Own rules, part 50: texts: f'..', str(n), +, join, split; dicts by texts. -/
namespace L2
open PySem PySem.Spec PyProof.Rows
section
variable {X : Cx} {e e1 e2 : Expr} {es : List Expr} {te : TE} {tj : Str → TE} {pos : Pos}
def PJ (X : Cx) (es : List Expr) (t : Str → TE) : Prop := ∀ (pins : List (Addr × Obj)) (s : Shared) (σ : St) (H : Hp) (Q : VK) (out : Str), Inv X pins σ H s → t out σ H Q → wpAny (model X.prog X.w) X.A (joinParts out (evalEach es X.env)) (EP X pins σ Q) X.xe s
def tjNil : Str → TE := fun out _ H Q => out.length ≤ sizeLine ∧ Q (.str out) H
def tjCons (te : TE) (t : Str → TE) : Str → TE := fun out σ H Q => te σ H fun v H1 => ∃ y, v = .str y ∧ (out ++ y).length ≤ sizeLine ∧ t (out ++ y) σ H1 Q
theorem pj_nil : PJ X [] tjNil := fun pins s σ H Q out I h => joinParts_nil ⟨.str out, H, I.tok _, ⟨_, rfl⟩, h.2⟩ h.1
theorem pj_cons (he : PE X e te) (h : PJ X es tj) : PJ X (e :: es) (tjCons te tj) := fun pins s σ H Q out I hh =>
  joinParts_cons (thn (he pins s σ H _ I hh) fun u s1 ⟨v, H1, I1, r, y, ev, hz, q⟩ => by
    subst ev
    obtain ⟨t, rfl⟩ := r
    exact ⟨hz, h pins s1 σ H1 Q _ I1 q⟩)
theorem pe_jstr (h : PJ X (e1 :: e2 :: es) tj) : PE X (.JoinedStr (e1 :: e2 :: es) pos) (tj Str.empty) := fun pins s σ H Q I hh => JoinedStr_many (h pins s σ H Q _ I hh)
def tFmt (te : TE) : TE := fun σ H Q => te σ H fun v H1 => ∃ i : Int, v = .int i ∧ i.natAbs.log2 < 1920 ∧ Q (.str (toString i)) H1
theorem pe_fmt (he : PE X e te) : PE X (.FormattedValue e (-1) none pos) (tFmt te) := fun pins s σ H Q I hh =>
  FormattedValue_plain (thn (he pins s σ H _ I hh) fun u s1 ⟨v, H1, I1, r, i, ev, hz, q⟩ => by
    subst ev
    obtain ⟨t, rfl⟩ := r
    exact formatField_int_small hz ⟨.str _, H1, I1.tok _, ⟨_, rfl⟩, q⟩)
/-! join and split -/
theorem vals_strs : ∀ (tk : Nat) (xs : List Str), Vals (xs.map V.str) (strsFrom tk xs)
  | _, [] => .nil
  | tk, x :: xs => .cons ⟨tk, rfl⟩ (vals_strs (tk + 1) xs)
def rSplit : V → List V → Hp → VK → Prop := fun x vs H Q => ∃ (z y : Str), x = .str z ∧ vs = [.str y] ∧ (y.length == 0) = false ∧ z.length ≤ 1000 ∧
  ∀ l, H l = none → Q (.ref l) (upd H l (.lst ((Txt.split z y).map V.str)))
theorem split_count (z y : Str) : (Txt.split z y).length ≤ z.length + 2 := by
  unfold Txt.split
  split
  · simp
  · split
    · simp
    · rw [length_partsBetween]
      have := StrLaws.occ_length_le z y 0 z.length (z.length + 1)
      omega
theorem mt_split : MtR X "str.split" rSplit := by
  intro pins s σ H x vs v us Q I rx rv h
  obtain ⟨z, y, rfl, rfl, hy, hz, q⟩ := h
  obtain ⟨t, rfl⟩ := rx
  obtain ⟨u0, rfl, ru⟩ := vals1 rv
  obtain ⟨u, rfl⟩ := ru
  have hsz : z.length ≤ sizeLine := Nat.le_of_lt (small1000 (by omega))
  have go : ∀ (its : List Value) (tk : Nat), Vals ((Txt.split z y).map V.str) its → EP X pins σ Q (.ref s.heap.objs.size) { s with toks := tk, heap := s.heap.push { cls := .type "list", data := .seq its.toArray } } := fun its tk hv => by
    refine ⟨.ref s.heap.objs.size, _, I.laid (a := s.heap.objs.size) (o := .lst ((Txt.split z y).map V.str)) (t' := tk) (fun _ _ e => Heap.get?_push_of_some _ e) (Nat.le_refl _) ⟨?_, its, 0, hv, Heap.get?_push_size _ rfl⟩, rfl, q _ (I.hok.fresh (Nat.le_refl _))⟩
    rw [List.length_map]
    have := split_count z y
    exact Nat.le_trans this (by rw [sizeLine_eq]; omega)
  have hn : (Builtin.Str.partsBetween z (Builtin.Str.occurrences z y 0 z.length (z.length + 1)) y.length).length ≤ sizeLine := by
    rw [length_partsBetween]
    have := StrLaws.occ_length_le z y 0 z.length (z.length + 1)
    rw [sizeLine_eq]
    omega
  cases h1 : (decide (z.length < y.length) || decide (Builtin.Str.strKind z < Builtin.Str.strKind y)) with
  | true =>
    have e : Txt.split z y = [z] := by unfold Txt.split; rw [if_pos h1]
    rw [e] at go
    exact call_meets F.slot_str_split (typeIs_str _ _ _) F.entry_str_split (F.args_str_split_2 _ _) (meets_str_split_cannot_occur z y t u h1) (go [.str z t] s.toks (.cons ⟨t, rfl⟩ .nil))
  | false =>
    cases hf : (Builtin.Str.occurrences z y 0 z.length (z.length + 1)).isEmpty with
    | true =>
      have e : Txt.split z y = [z] := by unfold Txt.split; rw [if_neg (by rw [h1]; exact Bool.false_ne_true), if_pos hf]
      rw [e] at go
      exact call_meets F.slot_str_split (typeIs_str _ _ _) F.entry_str_split (F.args_str_split_2 _ _) (meets_str_split_not_found z y t u h1 hy hf) (go [.str z t] s.toks (.cons ⟨t, rfl⟩ .nil))
    | false =>
      have e : Txt.split z y = Builtin.Str.partsBetween z (Builtin.Str.occurrences z y 0 z.length (z.length + 1)) y.length := by unfold Txt.split; rw [if_neg (by rw [h1]; exact Bool.false_ne_true), if_neg (by rw [hf]; exact Bool.false_ne_true)]
      rw [e] at go
      exact call_meets F.slot_str_split (typeIs_str _ _ _) F.entry_str_split (F.args_str_split_2 _ _) (meets_str_split_sep z y t u h1 hy hf hsz hn) (go _ _ (vals_strs _ _))
/-! dicts by texts -/
def rDGetT : R2 := fun x y H Q => ∃ (d : Addr) (kv : List (Key × V)) (z : Str) (v : V), x = .ref d ∧ y = .str z ∧ H d = some (.dK kv) ∧ dGet kv (.inr z) = some v ∧ Q v H
def rDNotT : R2 := fun x y H Q => ∃ (d : Addr) (kv : List (Key × V)) (z : Str), x = .str z ∧ y = .ref d ∧ H d = some (.dK kv) ∧ Q (.bl (!(dGet kv (.inr z)).isSome)) H
theorem relO_isSome {o : Option V} {o' : Option Value} (r : RelO o o') : o.isSome = o'.isSome := by
  cases o with
  | none => cases o' with
    | none => rfl
    | some _ => exact (show False from r).elim
  | some _ => cases o' with
    | none => exact (show False from r).elim
    | some _ => rfl
theorem ix_dT : IxR X rDGetT := by
  intro value slice pins s σ H x y v u Q I rx ry h hs
  obtain ⟨d, kv, z, w, rfl, rfl, hH, hg, q⟩ := h
  cases rx
  obtain ⟨t, rfl⟩ := ry
  obtain ⟨hz, hd, ws, rel, dd⟩ := (show ObjOk X.prog X.w H s.heap d (.dK kv) from I.hok d _ hH)
  have ro := dGet_rel rel (.inr z)
  rw [hg] at ro
  cases e : valueAt ws (.inr z) with
  | none => rw [e] at ro; exact (show False from ro).elim
  | some w' =>
    rw [e] at ro
    exact tail_any dd.typeIs PySem.F.slot_dict_getitem.lookup (wpAny_getItem_of (mixKind_str X.prog X.w z t) dd.mapOf e ⟨w, H, I.tok _, ro, q⟩) hs
theorem op_dNotT : OpR X (compareOp .NotIn) rDNotT := by
  intro pins s σ H x y v u Q I rx ry h
  obtain ⟨d, kv, z, rfl, rfl, hH, q⟩ := h
  obtain ⟨t, rfl⟩ := rx
  cases ry
  obtain ⟨hz, hd, ws, rel, dd⟩ := (show ObjOk X.prog X.w H s.heap d (.dK kv) from I.hok d _ hH)
  refine wpAny_notIn_of (mixKind_str X.prog X.w z t) hd dd.mapOf ⟨.bl (!(valueAt ws (.inr z)).isSome), H, I.tok _, rfl, ?_⟩
  have e := relO_isSome (dGet_rel rel (.inr z))
  show Q (.bl (!(valueAt ws (.inr z)).isSome)) H
  rw [← e]
  exact q
def sDPutT (td ty tv : TE) : TS := fun D σ H => tv σ H fun v H1 => td σ H1 fun x H2 => ty σ H2 fun y H3 => ∃ (d : Addr) (kv : List (Key × V)) (z : Str), x = .ref d ∧ y = .str z ∧ H3 d = some (.dK kv) ∧ kv.length < sizeLine ∧ dGet kv (.inr z) = none ∧ D.nx σ (upd H3 d (.dK (kv ++ [(.inr z, v)])))
theorem ps_dputT {o i value : Expr} {pos' : Pos} {td ty tv : TE} (ho : PE X o td) (hi : PE X i ty) (hv : PE X value tv) (hs : swapsWith value (some (.Subscript o i pos')) pos.line X.env = pure false := by rfl) :
    PS X (.Assign [.Subscript o i pos'] value pos) (sDPutT td ty tv) := by
  intro pins s σ H D I h
  refine wpAny_Assign_Subscript (thn (hv pins s σ H _ I h) fun r s1 ⟨v, H1, I1, rv, q1⟩ => thn (ho pins s1 σ H1 _ I1 q1) fun u s2 ⟨x, H2, I2, rx, q2⟩ => thn (hi pins s2 σ H2 _ I2 q2) fun iv s3 ⟨y, H3, I3, ry, d, kv, z, ex, ey, hH, hl, hn, q3⟩ => ?_) hs
  subst ex; subst ey
  obtain rfl : u = Value.ref d := rx
  obtain ⟨t, rfl⟩ := ry
  obtain ⟨hz, hd, ws, rel, dd⟩ := (show ObjOk X.prog X.w H3 s3.heap d (.dK kv) from I3.hok d _ hH)
  have hlen : kv.length = ws.length := Paired.length rel
  have ro := dGet_rel rel (.inr z)
  rw [hn] at ro
  have en : valueAt ws (.inr z) = none := by
    cases e : valueAt ws (.inr z) with
    | none => rfl
    | some _ => rw [e] at ro; exact (show False from ro).elim
  refine wpAny_setItem_pairs (hsz := by omega) (mixKind_str X.prog X.w z t) dd fun h' dd' hs' => ⟨σ, _, ?_, q3⟩
  rw [stored_new en] at dd'
  have he : ∃ q, h'.get? d = some q := let ⟨q, _, _, hq, _⟩ := dd'; ⟨q, hq⟩
  exact I3.write (x := d) (e := d) (by rw [hH]; exact True.intro) (.inl rfl) (fun b q hb y => (hs'.2 b hb).trans y) he ⟨by rw [List.length_append]; simp; omega, hd, _, Paired.snoc rel ⟨rfl, rv⟩, dd'⟩
end
/-! ### over data -/
section
variable {c : Ct} {env : List (Ent c)} {m : Md} {ta tb td te : TE} {tc : TT} {t u : TS} {α β γ : Type} [Rp c α] [Rp c β] [Rp c γ]
def WJ (env : List (Ent c)) (tj : Str → TE) (out : Str) (R : Str → Prop) : Prop := WE .any env (tj out) R
theorem we_jstr {tj : Str → TE} {R : Str → Prop} (h : WJ env tj Str.empty R) : WE m env (tj Str.empty) R := we_flat h
theorem wj_nil {out : Str} {R : Str → Prop} (hl : out.length ≤ sizeLine) (h : R out) : WJ env tjNil out R := fun _ _ _ _ _ S Q k => ⟨hl, k out _ _ [] h (Same.refl _) ⟨rfl, rfl⟩ trivial⟩
theorem wj_cons {tj : Str → TE} {out : Str} {R : Str → Prop} (h : WE .any env te fun y : Str => (out ++ y).length ≤ sizeLine ∧ WJ env tj (out ++ y) R) : WJ env (tjCons te tj) out R := fun _ _ _ _ _ S Q k => h S _ fun y v H1 as r s1 t1 _ =>
  ⟨y, t1.1, r.1, r.2 (S.same s1) _ fun x v' H' as' r' s' t' o => k x v' H' as' r' (s1.trans s') t' trivial⟩
theorem we_fmt {R : Str → Prop} (h : WE .any env ta fun i : Int => i.natAbs.log2 < 1920 ∧ R (toString i)) : WE m env (tFmt ta) R := fun _ _ _ _ _ S Q k => h S _ fun i v H1 as r s1 t1 _ => ⟨i, t1.1, r.1, k _ _ _ [] r.2 s1 ⟨rfl, rfl⟩ Md.nil⟩
theorem we_strI {R : Str → Prop} (h : WE .any env ta fun i : Int => i.natAbs.log2 < 1920 ∧ R (toString i)) : WE m env (tCB (fun xs H Q => ∃ i : Int, xs = [.int i] ∧ i.natAbs.log2 < 1920 ∧ Q (.str (toString i)) H) (tCons ta tNil)) R := fun _ _ _ _ _ S Q k => h S _ fun i v H1 as r s1 t1 _ => ⟨i, by rw [t1.1], r.1, k _ _ _ [] r.2 s1 ⟨rfl, rfl⟩ Md.nil⟩
theorem we_catS {R : Str → Prop} (h : WE .any env ta fun a : Str => WE .any env tb fun b : Str => a.length + b.length ≤ sizeLine ∧ R (a ++ b)) : WE m env (tOp (fun x y H Q => ∃ i j, x = .str i ∧ y = .str j ∧ i.length + j.length ≤ sizeLine ∧ Q (.str (i ++ j)) H) ta tb) R :=
  fun _ _ _ _ _ S Q k => h S _ fun a v H1 as ra s1 t1 _ => ra (S.same s1) _ fun b u H2 bs rb s2 t2 _ => ⟨a, b, t1.1, t2.1, rb.1, k _ _ _ [] rb.2 (s1.trans s2) ⟨rfl, rfl⟩ Md.nil⟩
theorem trees_strs {H : Hp} : ∀ (xs : List Str), Trees c H (xs.map V.str) xs []
  | [] => rfl
  | x :: xs => ⟨[], [], ⟨rfl, rfl⟩, trees_strs xs, rfl⟩
theorem we_split {R : List Str → Prop} (h : WE .any env ta fun z : Str => WE .any env tb fun y : Str => (y.length == 0) = false ∧ z.length ≤ 1000 ∧ R (Txt.split z y)) : WE m env (tBM c.K "str" rSplit ta (tCons tb tNil)) R :=
  fun _ _ _ _ _ S Q k => h S _ fun z v H1 as ra s1 t1 _ => by
    have e1 := t1.1
    subst e1
    refine ⟨rfl, ra (S.same s1) _ fun y u H2 bs rb s2 t2 _ => ?_⟩
    have e2 := t2.1
    subst e2
    exact ⟨z, y, rfl, rfl, rb.1, rb.2.1, fun l hl => fresh_list S k (s1.trans s2) hl (trees_strs _) rb.2.2⟩
/-- a dict by texts -/
structure TD (α : Type) where
  kvs : List (Str × α)
def TKs (c : Ct) {α : Type} [Rp c α] (H : Hp) : List (Key × V) → List (Str × α) → Prop
  | [], [] => True
  | kv :: r, xa :: q => kv.1 = .inr xa.1 ∧ tree c H kv.2 xa.2 [] ∧ TKs c H r q
  | _, _ => False
theorem TKs.frame {H H' : Hp} {as : List Addr} (k : ∀ b o, H b = some o → (Mu o = false ∨ b ∈ as) → H' b = some o) : ∀ {kv : List (Key × V)} {xs : List (Str × α)}, TKs c H kv xs → TKs c H' kv xs
  | [], [], _ => trivial
  | _ :: _, _ :: _, ⟨h1, h2, h3⟩ => ⟨h1, Rp.frame h2 fun b o e q => k b o e (q.imp id fun z => absurd z (by simp)), TKs.frame k h3⟩
theorem TKs.len {H : Hp} : ∀ {kv : List (Key × V)} {xs : List (Str × α)}, TKs c H kv xs → kv.length = xs.length
  | [], [], _ => rfl
  | _ :: _, _ :: _, ⟨_, _, h⟩ => by rw [List.length_cons, List.length_cons, h.len]
theorem TKs.snoc {H : Hp} {z : Str} {v : V} {x : α} (t : tree c H v x []) : ∀ {kv : List (Key × V)} {xs : List (Str × α)}, TKs c H kv xs → TKs c H (kv ++ [(.inr z, v)]) (xs ++ [(z, x)])
  | [], [], _ => ⟨rfl, t, trivial⟩
  | _ :: _, _ :: _, ⟨h1, h2, h3⟩ => ⟨h1, h2, TKs.snoc t h3⟩
def tget (kvs : List (Str × α)) (z : Str) : Option α := (kvs.find? fun p => decide (p.1 = z)).map (·.2)
omit [Rp c α] in
theorem tget_cons (p : Str × α) (r : List (Str × α)) (k : Str) : tget (p :: r) k = if p.1 = k then some p.2 else tget r k := by
  unfold tget
  rw [List.find?_cons]
  by_cases e : p.1 = k
  · simp [e]
  · simp [e]
theorem TKs.get {H : Hp} (z : Str) : ∀ {kv : List (Key × V)} {xs : List (Str × α)}, TKs c H kv xs → (tget xs z = none ∧ dGet kv (.inr z) = none) ∨ ∃ x v, tget xs z = some x ∧ dGet kv (.inr z) = some v ∧ tree c H v x []
  | [], [], _ => .inl ⟨rfl, rfl⟩
  | p :: _, q :: _, ⟨h1, h2, h3⟩ => by
    rw [tget_cons, dGet_cons]
    by_cases e : q.1 = z
    · rw [if_pos e, if_pos (by rw [h1, e])]
      exact .inr ⟨_, _, rfl, rfl, h2⟩
    · rw [if_neg e, if_neg (by rw [h1]; intro z; cases z; exact e rfl)]
      exact TKs.get z h3
instance : Rp c (TD α) where
  tree := fun H v x as => ∃ d kv, v = .ref d ∧ H d = some (.dK kv) ∧ TKs c H kv x.kvs ∧ as = [d]
  isl := fun h a ha => by
    obtain ⟨d, kv, rfl, hd, t, rfl⟩ := h
    have : a = d := by simpa using ha
    subst this
    exact ⟨_, hd, rfl⟩
  frame := fun h k => by
    obtain ⟨d, kv, e, hd, t, rfl⟩ := h
    exact ⟨d, kv, e, k _ _ hd (.inr (by simp)), TKs.frame k t, rfl⟩
theorem we_newT {R : TD α → Prop} (h : R ⟨[]⟩) : WE m env tNewD R := fun _ _ _ _ _ S Q k p hp =>
  k ⟨[]⟩ _ _ [p] h (Same.new hp) ⟨p, [], rfl, upd_same, trivial, rfl⟩ (Md.fresh S (nodup_one _) fun a ha => by
    have : a = p := by simpa using ha
    subst this
    exact hp)
theorem we_getT [Flat c α] {R : α → Prop} (h : WE .any env ta fun d : TD α => WE .any env tb fun z : Str => ∃ x, tget d.kvs z = some x ∧ R x) : WE m env (tOp rDGetT ta tb) R :=
  fun _ _ _ _ _ S Q k => h S _ fun d v H1 as ra s1 t1 _ => ra (S.same s1) _ fun z u H2 bs rb s2 t2 _ => by
    obtain ⟨x, hx, r⟩ := rb
    obtain ⟨a, kv, rfl, ha, tk, rfl⟩ := tree_same t1 s2
    rcases tk.get z with ⟨y1, _⟩ | ⟨x', v', y1, y2, y3⟩
    · rw [hx] at y1; cases y1
    · rw [hx] at y1; cases y1
      exact ⟨a, kv, z, v', rfl, t2.1, ha, y2, k x v' _ [] r (s1.trans s2) y3 Md.nil⟩
theorem we_notT {R : Bool → Prop} (h : WE .any env ta fun z : Str => WE .any env tb fun d : TD α => R (!(tget d.kvs z).isSome)) : WE m env (tOp rDNotT ta tb) R :=
  fun _ _ _ _ _ S Q k => h S _ fun z v H1 as ra s1 t1 _ => ra (S.same s1) _ fun d u H2 bs rb s2 t2 _ => by
    obtain ⟨a, kv, rfl, ha, tk, rfl⟩ := t2
    refine ⟨a, kv, z, t1.1, rfl, ha, ?_⟩
    have e : (dGet kv (.inr z)).isSome = (tget d.kvs z).isSome := by
      rcases tk.get z with ⟨y1, y2⟩ | ⟨x', v', y1, y2, y3⟩
      · rw [y1, y2]; rfl
      · rw [y1, y2]; rfl
    rw [e]
    exact k _ _ _ [] rb (s1.trans s2) ⟨rfl, rfl⟩ Md.nil
theorem ws_dputT [Flat c α] {R : Rs c β} {i : Nat} {kvs : List (Str × α)} (hx : env[i]? = some (.ow (⟨kvs⟩ : TD α))) (h : WE .any env ta fun x : α => WE .any env tb fun z : Str => tget kvs z = none ∧ kvs.length < 1000 ∧ R.nx (env.set i (.ow (⟨kvs ++ [(z, x)]⟩ : TD α)))) :
    WS env (sDPutT (tVar i) tb ta) R := fun H0 F0 Fs σ H D S C => h S _ fun x v H1 as ra s1 t1 _ => by
  have := Flat.flat t1; subst this
  have S1 := S.same s1
  obtain ⟨u, h1, w, e, tw⟩ := S1.at_ hx
  obtain ⟨d, kv, rfl, hd, tk, hF⟩ := tw
  refine ⟨_, by rw [h1, e], ra S1 _ fun z y H2 bs rb s2 t2 _ => ?_⟩
  have hi : i < env.length := (List.getElem?_eq_some_iff.mp hx).1
  have hd2 := s2 _ _ hd
  have tk2 : TKs c H2 kv kvs := TKs.frame (as := []) (fun b o e _ => s2 b o e) tk
  have en : dGet kv (.inr z) = none := by
    rcases tk2.get z with ⟨_, y2⟩ | ⟨x', v', y1, _, _⟩
    · exact y2
    · rw [rb.1] at y1; cases y1
  refine ⟨d, kv, z, rfl, t2.1, hd2, by rw [tk2.len]; exact small1000 (by have := rb.2.1; omega), en, ?_⟩
  have kp : Kp [d] H2 (upd H2 d (.dK (kv ++ [(.inr z, v)]))) := Kp.putM hd2 rfl rfl
  have kp2 : Kp (Fs i) H1 (upd H2 d (.dK (kv ++ [(.inr z, v)]))) := by
    rw [hF]
    exact Kp.trans (Kp.of_same s2) kp fun b hb => .inr hb
  have tk3 : TKs c (upd H2 d (.dK (kv ++ [(.inr z, v)]))) (kv ++ [(.inr z, v)]) (kvs ++ [(z, x)]) := by
    refine TKs.frame (as := []) (H := H2) (fun b o eb q => ?_) (TKs.snoc (tree_same t1 s2) tk2)
    rcases q with q | q
    · rw [upd_ne]
      · exact eb
      · intro zb
        subst zb
        rw [hd2] at eb; cases eb; cases q
    · simp at q
  have q2 := S1.put (as := [d]) (v := some (.ref d)) (e := .ow (⟨kvs ++ [(z, x)]⟩ : TD α)) kp2 hi ⟨_, rfl, by rw [putF_same]; exact ⟨d, _, rfl, upd_same, tk3, rfl⟩⟩ (nodup_one _) (fun b hb => .inl (by rw [hF]; exact hb))
  rw [set_get (l := σ) (i := i) (x := some (.ref d)) (by rw [h1, e])] at q2
  exact C.nx _ _ _ _ rb.2.2 q2
end
/-! ### texts -/
abbrev sI (i : Int) : Str := (toString i : String)
theorem sI_len {i : Int} (h0 : 0 ≤ i) (h1 : i < 10) : (sI i).length ≤ 1 := toString_length_le (k := 1) h0 (by decide) (by simpa using h1)
theorem split_ne (x y : Str) : Txt.split x y ≠ [] := by
  unfold Txt.split
  split
  · simp
  · split
    · simp
    · intro h
      have := length_partsBetween x (Builtin.Str.occurrences x y 0 x.length (x.length + 1)) y.length
      rw [h] at this
      simp at this
/-- the notes of a net -/
def snote (n : Int) : Str := ("net " : Str) ++ sI n
def rnote (e : Int × Int) : Str := sI e.1 ++ (">" : Str) ++ sI e.2
abbrev nl : Str := "\n"
theorem nl_is : nl = ⟨#[10]⟩ := by decide +kernel

theorem sI_dig {i : Int} (h0 : 0 ≤ i) (h1 : i < 10) : sI i = ⟨#[48 + i.toNat]⟩ := by
  have : i = 0 ∨ i = 1 ∨ i = 2 ∨ i = 3 ∨ i = 4 ∨ i = 5 ∨ i = 6 ∨ i = 7 ∨ i = 8 ∨ i = 9 := by omega
  rcases this with rfl | rfl | rfl | rfl | rfl | rfl | rfl | rfl | rfl | rfl <;> decide +kernel
theorem small_dig {i : Int} (h0 : 0 ≤ i) (h1 : i < 10) : i.natAbs.log2 < 1920 := by
  have h : i.natAbs < 2 ^ 10 := by omega
  have : i.natAbs.log2 < 10 := by
    by_cases h0 : i.natAbs = 0
    · rw [h0]; decide
    · exact (Nat.log2_lt h0).mpr h
  omega
theorem snote_is {n : Int} (h0 : 0 ≤ n) (h1 : n < 10) : snote n = ⟨#[110, 101, 116, 32, 48 + n.toNat]⟩ := by
  unfold snote
  rw [sI_dig h0 h1, show (("net " : String) : Str) = ⟨#[110, 101, 116, 32]⟩ by decide +kernel]
  exact Str.ext' (by rw [Str.cps_append]; rfl)
theorem rnote_is {e : Int × Int} (h0 : 0 ≤ e.1) (h1 : e.1 < 10) (h2 : 0 ≤ e.2) (h3 : e.2 < 10) : rnote e = ⟨#[48 + e.1.toNat, 62, 48 + e.2.toNat]⟩ := by
  unfold rnote
  rw [sI_dig h0 h1, sI_dig h2 h3, show ((">" : String) : Str) = ⟨#[62]⟩ by decide +kernel]
  exact Str.ext' (by rw [Str.cps_append, Str.cps_append]; rfl)
theorem snote_inj {n k : Int} (h0 : 0 ≤ n) (h1 : n < 10) (h2 : 0 ≤ k) (h3 : k < 10) (h : snote n = snote k) : n = k := by
  rw [snote_is h0 h1, snote_is h2 h3] at h
  simp at h
  omega
theorem rnote_inj {e f : Int × Int} (he : (0 ≤ e.1 ∧ e.1 < 10) ∧ (0 ≤ e.2 ∧ e.2 < 10)) (hf : (0 ≤ f.1 ∧ f.1 < 10) ∧ (0 ≤ f.2 ∧ f.2 < 10)) (h : rnote e = rnote f) : e = f := by
  rw [rnote_is he.1.1 he.1.2 he.2.1 he.2.2, rnote_is hf.1.1 hf.1.2 hf.2.1 hf.2.2] at h
  simp at h
  obtain ⟨a, b⟩ := e
  obtain ⟨c, d⟩ := f
  dsimp only at *
  rw [show a = c by omega, show b = d by omega]
/-- the tables of notes -/
def sizeT : List (Str × Int) := (rng 8).map fun i => (snote (1 + i), 1 + i)
def roadT (ps : List (Int × Int)) : List (Str × (Int × Int)) := ps.map fun e => (rnote e, e)
def pairsOf (n k : Nat) : List (Int × Int) := ((rng k).map fun a => (rng n).map fun b => (a, b)).flatten
theorem tget_none {α : Type} {z : Str} : ∀ {l : List (Str × α)}, (∀ p ∈ l, p.1 ≠ z) → tget l z = none
  | [], _ => rfl
  | p :: r, h => by
    rw [tget_cons, if_neg (h p (by simp))]
    exact tget_none fun q hq => h q (List.mem_cons_of_mem _ hq)
theorem tget_some {α : Type} {z : Str} {x : α} : ∀ {l : List (Str × α)}, (z, x) ∈ l → (∀ p ∈ l, p.1 = z → p.2 = x) → tget l z = some x
  | [], h, _ => by simp at h
  | p :: r, h, u => by
    rw [tget_cons]
    by_cases e : p.1 = z
    · rw [if_pos e, u p (by simp) e]
    · rw [if_neg e]
      rcases List.mem_cons.mp h with q | q
      · rw [← q] at e; exact absurd rfl e
      · exact tget_some q fun q hq => u q (List.mem_cons_of_mem _ hq)
theorem sizeT_get {n : Int} (h0 : 1 ≤ n) (h1 : n ≤ 8) : tget sizeT (snote n) = some n := by
  refine tget_some (List.mem_map.mpr ⟨n - 1, mem_rng.mpr ⟨by omega, by omega⟩, by rw [show 1 + (n - 1) = n by omega]⟩) fun p hp e => ?_
  obtain ⟨i, hi, rfl⟩ := List.mem_map.mp hp
  have := mem_rng.mp hi
  exact snote_inj (by omega) (by omega) (by omega) (by omega) e
theorem mem_pairs {n k : Nat} {e : Int × Int} : e ∈ pairsOf n k ↔ (0 ≤ e.1 ∧ e.1 < k) ∧ (0 ≤ e.2 ∧ e.2 < n) := by
  unfold pairsOf
  rw [List.mem_flatten]
  constructor
  · rintro ⟨l, hl, he⟩
    obtain ⟨a, ha, rfl⟩ := List.mem_map.mp hl
    obtain ⟨b, hb, rfl⟩ := List.mem_map.mp he
    exact ⟨mem_rng.mp ha, mem_rng.mp hb⟩
  · rintro ⟨h1, h2⟩
    exact ⟨_, List.mem_map.mpr ⟨e.1, mem_rng.mpr h1, rfl⟩, List.mem_map.mpr ⟨e.2, mem_rng.mpr h2, rfl⟩⟩
theorem pairs_len (n : Nat) : ∀ k, (pairsOf n k).length ≤ k * n
  | 0 => by show 0 ≤ _; omega
  | k + 1 => by
    have ih := pairs_len n k
    have e : pairsOf n (k + 1) = pairsOf n k ++ (rng n).map fun b => ((k : Int), b) := by
      unfold pairsOf
      rw [rng_succ, List.map_append, List.flatten_append]
      simp
    rw [e, List.length_append, List.length_map, rng_len, Nat.succ_mul]
    omega
theorem roadT_get {ps : List (Int × Int)} {e : Int × Int} (h : ∀ p ∈ ps, (0 ≤ p.1 ∧ p.1 < 10) ∧ (0 ≤ p.2 ∧ p.2 < 10)) (he : e ∈ ps) : tget (roadT ps) (rnote e) = some e := by
  refine tget_some (List.mem_map.mpr ⟨e, he, rfl⟩) fun p hp q => ?_
  obtain ⟨f, hf, rfl⟩ := List.mem_map.mp hp
  exact rnote_inj (h f hf) (h e he) q
theorem roadT_none {ps : List (Int × Int)} {e : Int × Int} (h : ∀ p ∈ ps, (0 ≤ p.1 ∧ p.1 < 10) ∧ (0 ≤ p.2 ∧ p.2 < 10)) (he : (0 ≤ e.1 ∧ e.1 < 10) ∧ (0 ≤ e.2 ∧ e.2 < 10)) (hn : e ∉ ps) : tget (roadT ps) (rnote e) = none := by
  refine tget_none fun p hp q => ?_
  obtain ⟨f, hf, rfl⟩ := List.mem_map.mp hp
  exact hn (rnote_inj (h f hf) he q ▸ hf)
section
variable {c : Ct}
def p_snote : List (Ent c) → (Str → Prop) → Prop := fun es R => ∃ n : Int, es = [.sh n] ∧ (0 ≤ n ∧ n < 10) ∧ R (snote n)
def p_rnote : List (Ent c) → (Str → Prop) → Prop := fun es R => ∃ a b : Int, es = [.sh a, .sh b] ∧ (0 ≤ a ∧ a < 10) ∧ (0 ≤ b ∧ b < 10) ∧ R (rnote (a, b))
def p_sizesN : List (Ent c) → (TD Int → Prop) → Prop := fun es R => es = [] ∧ R ⟨sizeT⟩
def p_roadsN : List (Ent c) → (TD (Int × Int) → Prop) → Prop := fun es R => ∃ n : Int, es = [.sh n] ∧ (1 ≤ n ∧ n ≤ 8) ∧ R ⟨roadT (pairsOf n.toNat n.toNat)⟩
end
end L2

set_option Elab.async false
set_option linter.all false
set_option maxRecDepth 100000
set_option maxHeartbeats 4000000
/-! Own rules, part 51: more of texts; a loop over a list that may raise. -/
namespace L2
open PySem PySem.Spec PyProof.Rows
/-- which note tells which -/
theorem sizeT_iff {z : Str} {n : Int} : tget sizeT z = some n ↔ (1 ≤ n ∧ n ≤ 8) ∧ z = snote n := by
  constructor
  · intro h
    unfold tget at h
    obtain ⟨p, hp, e⟩ := Option.map_eq_some_iff.mp h
    have h1 := List.find?_some hp
    have h2 := List.mem_of_find?_eq_some hp
    unfold sizeT at h2
    obtain ⟨i, hi, rfl⟩ := List.mem_map.mp h2
    have := mem_rng.mp hi
    have e2 : 1 + i = n := e
    subst e2
    exact ⟨by omega, (of_decide_eq_true h1).symm⟩
  · rintro ⟨h, rfl⟩
    exact sizeT_get h.1 h.2
theorem roadT_iff {m : Nat} {z : Str} {e : Int × Int} (hm : m ≤ 8) : tget (roadT (pairsOf m m)) z = some e ↔ ((0 ≤ e.1 ∧ e.1 < m) ∧ (0 ≤ e.2 ∧ e.2 < m)) ∧ z = rnote e := by
  constructor
  · intro h
    unfold tget at h
    obtain ⟨p, hp, e⟩ := Option.map_eq_some_iff.mp h
    have h1 := List.find?_some hp
    have h2 := List.mem_of_find?_eq_some hp
    unfold roadT at h2
    obtain ⟨f, hf, rfl⟩ := List.mem_map.mp h2
    have := mem_pairs.mp hf
    have e2 : f = _ := e
    subst e2
    exact ⟨this, (of_decide_eq_true h1).symm⟩
  · rintro ⟨h, rfl⟩
    exact roadT_get (fun p hp => by have := mem_pairs.mp hp; omega) (mem_pairs.mpr h)
/-- what a text tells -/
def tellsR (n : Int) : List Str → Option (List (Int × Int))
  | [] => some []
  | z :: r => match tget (roadT (pairsOf n.toNat n.toNat)) z with
    | none => none
    | some e => (tellsR n r).map fun q => e :: q
def tells (L : List Str) : Option (Int × List (Int × Int)) := match L with
  | [] => none
  | z :: r => match tget sizeT z with
    | none => none
    | some n => if 24 < r.length then none else (tellsR n r).map fun q => (n, q)
theorem tellsR_snoc (n : Int) : ∀ (L : List Str) (z : Str) (q : List (Int × Int)), tellsR n L = some q → tellsR n (L ++ [z]) = (tget (roadT (pairsOf n.toNat n.toNat)) z).map fun e => q ++ [e]
  | [], z, q, h => by
    cases h
    show (match tget (roadT (pairsOf n.toNat n.toNat)) z with | none => none | some e => (some []).map fun q => e :: q) = _
    cases tget (roadT (pairsOf n.toNat n.toNat)) z <;> rfl
  | y :: r, z, q, h => by
    have h' : (match tget (roadT (pairsOf n.toNat n.toNat)) y with | none => none | some e => (tellsR n r).map fun q => e :: q) = some q := h
    show (match tget (roadT (pairsOf n.toNat n.toNat)) y with | none => none | some e => (tellsR n (r ++ [z])).map fun q => e :: q) = _
    cases hy : tget (roadT (pairsOf n.toNat n.toNat)) y with
    | none => rw [hy] at h'; cases h'
    | some e =>
      rw [hy] at h'
      obtain ⟨q', hq, rfl⟩ := Option.map_eq_some_iff.mp h'
      dsimp only
      rw [tellsR_snoc n r z q' hq]
      cases tget (roadT (pairsOf n.toNat n.toNat)) z <;> rfl
theorem tellsR_none (n : Int) : ∀ (L : List Str) (z : Str) (R : List Str), tget (roadT (pairsOf n.toNat n.toNat)) z = none → tellsR n (L ++ z :: R) = none
  | [], z, R, h => by
    show (match tget (roadT (pairsOf n.toNat n.toNat)) z with | none => none | some e => (tellsR n R).map fun q => e :: q) = none
    rw [h]
  | y :: r, z, R, h => by
    show (match tget (roadT (pairsOf n.toNat n.toNat)) y with | none => none | some e => (tellsR n (r ++ z :: R)).map fun q => e :: q) = none
    rw [tellsR_none n r z R h]
    cases tget (roadT (pairsOf n.toNat n.toNat)) y <;> rfl
/-! ### texts cut, read, looked into -/
section
variable {X : Cx}
end
section
variable {c : Ct} {env : List (Ent c)} {m : Md} {ta tb td te : TE} {tc : TT} {t u : TS} {α β γ : Type} [Rp c α] [Rp c β] [Rp c γ]
end
/-! ### a loop over a list that may raise -/
section
variable {c : Ct} {env : List (Ent c)} {m : Md} {ta tb te : TE} {tc : TT} {t u : TS} {α β : Type} [Rp c α] [Rp c β] {R : Rs c β} {H0 : Hp}
structure Bs (H0 Hb : Hp) (Fb : List Addr) : Prop where
  same : Same H0 Hb
  new : ∀ a ∈ Fb, H0 a = none
theorem Bs.kp {H0 Hb H : Hp} {Fb : List Addr} (b : Bs H0 Hb Fb) (k : Kp Fb Hb H) : Same H0 H := fun a o e => k.keep a o (b.same a o e) (.inr fun z => by rw [b.new a z] at e; cases e)
def WSy (H0 : Hp) (env : List (Ent c)) (t : TS) (R : Rs c β) : Prop := ∀ ⦃Hb : Hp⦄ ⦃Fb : List Addr⦄ ⦃Fs : Nat → List Addr⦄ ⦃σ : St⦄ ⦃H : Hp⦄ ⦃D : Ends⦄, Bs H0 Hb Fb → Sta Hb Fb env Fs σ H → Cts R Hb Fb D → t D σ H
theorem wy_of (h : WS env t R) : WSy H0 env t R := fun _ _ _ _ _ _ _ S C => h S C
theorem wy_g (h : WS env (sG (PD H0) t) R) : WSy H0 env t R := fun _ _ _ _ _ _ B S C => h S C (B.kp S.kp)
theorem wy_seq (h : WSy H0 env t { R with nx := fun e => WSy H0 e u R }) : WSy H0 env (tSeq t u) R := fun _ _ _ _ _ _ B S C => h B S ⟨fun env Fs σ H r S' => r B S' C, C.bk, C.ct, C.rt⟩
theorem wx_forL {i : Nat} {tb : TS} (h : WE .sh env ta fun xs : List α => ∃ J : Nat → List (Ent c) → Prop, J 0 env ∧
      (∀ (k : Nat) x e, xs[k]? = some x → J k e → WSy H0 (e.set i (.sh x)) tb { nx := J (k + 1), ct := J (k + 1), bk := R.nx, rt := R.rt }) ∧ ∀ e, J xs.length e → R.nx e) :
    WSx H0 env (tFor (iList c.K ta) (gName i) tb) R := fun Fs σ H D S C => h S _ fun xs v H1 as ra s1 t1 o => by
  obtain ⟨J, j0, js, je⟩ := ra
  have S1 := S.same s1
  have out : ∀ a ∈ as, a ∉ allF env.length Fs := fun a ha z => by
    obtain ⟨j, _, hj⟩ := mem_allF.mp z
    exact o a ha j hj
  have B : Bs H0 H1 (allF env.length Fs) := ⟨S1.kp.to_same, fun a ha => by
    obtain ⟨j, _, hj⟩ := mem_allF.mp ha
    rcases S.up j a hj with z | z
    · exact z
    · simp at z⟩
  obtain ⟨a, vs, as', rfl, ha, tr, rfl⟩ := id t1
  refine ⟨a, rfl, ⟨vs, SqL.of ha⟩, for_list (xs := vs) (fun k σ' H' => ∃ e Fs', J k e ∧ Sta H1 (allF env.length Fs) e Fs' σ' H') ⟨env, Fs, j0, S1.rebase⟩ ?_ ?_ ?_⟩
  · rintro k σ' H' _ ⟨e, Fs', _, S'⟩
    exact SqL.of (S'.kp.keep a _ ha (.inr (out a List.mem_cons_self)))
  · rintro k x σ' H' hx ⟨e, Fs', hj, S'⟩
    have hk : k < xs.length := by rw [← tr.len]; exact (List.getElem?_eq_some_iff.mp hx).1
    have hk' : xs[k]? = some xs[k] := by simp [hk]
    have tr' := tr.kp S'.kp fun b hb => out b (List.mem_cons_of_mem _ hb)
    obtain ⟨w, b1, hw, t2, sb⟩ := tr'.get hk'
    rw [hx] at hw
    cases hw
    obtain ⟨Fs2, S2, _⟩ := S'.set' i t2 fun b hb j hz => by
      have hb' : b ∈ a :: as' := List.mem_cons_of_mem _ (sb.subset hb)
      rcases S'.up j b hz with q | q
      · exact tree_dom t1 hb' q
      · exact out b hb' q
    exact js k _ e hk' hj B S2 ⟨fun e2 F2 σ2 H2 r q => ⟨e2, F2, r, q⟩, fun e2 F2 σ2 H2 r q => C.nx e2 F2 σ2 H2 r (S1.unbase q), fun e2 F2 σ2 H2 r q => ⟨e2, F2, r, q⟩,
      fun y w H2 bs r k2 t3 nd up => C.rt y w H2 bs r (S1.kp.trans k2 fun x hx => S1.upW (.inr hx)) t3 nd fun b hb => S1.upW (up b hb)⟩
  · rintro σ' H' ⟨e, Fs', hj, S'⟩
    rw [tr.len] at hj
    exact C.nx e Fs' σ' H' (je e hj) (S1.unbase S')
/-- Net(e), e may raise -/
theorem wg_net {P : St → Hp → Prop} {E : XK} {R : NetD → Prop} (h : WE .any env (tG P ta) fun n : Int => (1 ≤ n ∧ n ≤ 8) ∧ R ⟨n, []⟩) : WE m env (tG P (tMake c.C (sp_netinit c.C) [] E (tCons ta tNil))) R := fun _ _ _ _ _ S Q k hP => h S _ (fun n v H1 as ra s1 t1 _ => by
  intro x dx nx ndx nex
  have s0 : Same H1 (upd (upd H1 dx (.own x)) x (.ins c.C dx [])) := fun b o e => by
    rw [upd_ne (ne_of_none e nx), upd_ne (ne_of_none e ndx)]
    exact e
  refine ⟨x, dx, n, by rw [t1.1]; rfl, upd_same, ra.1, fun r H2 hr0 N1 kp => ⟨rfl, ?_⟩⟩
  have s2 : Same H1 H2 := fun b o e => kp b o (s0 b o e) (ne_of_none e nx)
  refine k ⟨n, []⟩ _ H2 [r] ra.2 (s1.trans s2) ⟨x, r, rfl, N1, rfl⟩ (Md.fresh S (nodup_one _) fun a ha => ?_)
  have : a = r := by simpa using ha
  subst this
  exact s1.free (s0.free hr0)) hP
end
/-- signs of texts -/
theorem tellsR_len (n : Int) : ∀ (L : List Str) (q : List (Int × Int)), tellsR n L = some q → q.length = L.length
  | [], q, h => by cases h; rfl
  | y :: r, q, h => by
    have h' : (match tget (roadT (pairsOf n.toNat n.toNat)) y with | none => none | some e => (tellsR n r).map fun q => e :: q) = some q := h
    cases hy : tget (roadT (pairsOf n.toNat n.toNat)) y with
    | none => rw [hy] at h'; cases h'
    | some e =>
      rw [hy] at h'
      obtain ⟨q', hq, rfl⟩ := Option.map_eq_some_iff.mp h'
      rw [List.length_cons, List.length_cons, tellsR_len n r q' hq]
theorem tells_no {z0 : Str} {r : List Str} (h : tget sizeT z0 = none) : tells (z0 :: r) = none := by
  show (match tget sizeT z0 with | none => none | some n => _) = none
  rw [h]
theorem tells_many {z0 : Str} {r : List Str} (h : 24 < r.length) : tells (z0 :: r) = none := by
  show (match tget sizeT z0 with | none => none | some n => if 24 < r.length then none else (tellsR n r).map fun q => (n, q)) = none
  cases tget sizeT z0 with
  | none => rfl
  | some n => dsimp only; rw [if_pos h]
theorem tells_yes {z0 : Str} {r : List Str} {n : Int} (h : tget sizeT z0 = some n) (hl : r.length ≤ 24) : tells (z0 :: r) = (tellsR n r).map fun q => (n, q) := by
  show (match tget sizeT z0 with | none => none | some n => if 24 < r.length then none else (tellsR n r).map fun q => (n, q)) = _
  rw [h]
  dsimp only
  rw [if_neg (by omega)]
section
variable {c : Ct} {β : Type} [Rp c β]
end
section
variable {c : Ct}
def p_xrsize (nn : Addr) : List (Ent c) → (Int → Prop) → (Addr → Prop) → Prop := fun es R X => ∃ z : Str, es = [.sh z] ∧ (∀ n, tget sizeT z = some n → R n) ∧ (tget sizeT z = none → X nn)
def p_xrroad (nn : Addr) : List (Ent c) → (Int × Int → Prop) → (Addr → Prop) → Prop := fun es R X => ∃ (d : TD (Int × Int)) (z : Str), es = [.sh d, .sh z] ∧ (∀ e, tget d.kvs z = some e → R e) ∧ (tget d.kvs z = none → X nn)
def p_xread (nn : Addr) : List (Ent c) → (NetD → Prop) → (Addr → Prop) → Prop := fun es R X => ∃ z : Str, es = [.sh z] ∧ z.length ≤ 1000 ∧ (∀ p, tells (Txt.split z nl) = some p → R ⟨p.1, p.2⟩) ∧ (tells (Txt.split z nl) = none → X nn)
end
end L2

set_option Elab.async false
set_option linter.all false
set_option maxRecDepth 100000
set_option maxHeartbeats 4000000
/-! Own rules, part 52: an own exception with an __init__ of its own: made, its attribute set. -/
namespace L2
open PySem PySem.Spec PyProof.Rows
/-- what is known of its class: fI is its __init__, the bases have none of their own -/
def excI (K : PySem.W.Frag) (C fI : Addr) : Bool := (K.lookup C).any fun o => (o.cls == .type "type") && (match o.data with
  | .cls cd => (match cd.mro with
    | .ref c' :: bm => (c' == C) && PySem.W.tailIn K VE bm && PySem.W.nsOkIn K cd.ns && (PySem.W.nsIn K cd.ns "__init__" == some (some (.ref fI))) && !cd.hasDel && cd.hasDict && (match o.slots.toList with
      | [_, _, _, _, some (.builtin n), _] => n == "ValueError.__new__"
      | _ => false)
    | _ => false)
  | _ => false)
theorem ns_some_in {K : PySem.W.Frag} {h : Heap} {N : Addr} {x : Str} {v : Value} (X : K.In h) (ok : PySem.W.nsOkIn K N = true) (q : PySem.W.nsIn K N x = some (some v)) : h.nsMap N x = some v := by
  obtain ⟨o, es, ep, ho, hd, _, hf⟩ := Heap.Ns.of_isNs (PySem.W.isNs_of_in X ok)
  unfold PySem.W.nsIn at q
  split at q
  · rename_i c d es' n' sl hl
    have z := X _ _ hl
    rw [ho] at z
    cases z
    cases hd
    split at q
    · rename_i en he
      cases q
      rw [← hf]
      unfold nsFind findBy
      rw [← Array.find?_toList, he]
      rfl
    · split at q <;> cases q
  · cases q
theorem excI_obj {K : PySem.W.Frag} {C fI : Addr} (q : excI K C fI = true) {h : Heap} (X : K.In h) : ∃ bm N nm qn bs sn sub ab col dd k0 k1 k2 k3 k5 mN,
    h.get? C = some (excClassObj nm qn C N bs bm true sn sub ab col dd k0 k1 k2 k3 k5 "ValueError.__new__") ∧ h.Ns N mN ∧ mN "__init__" = some (.ref fI) ∧ OwnTail h VE bm := by
  unfold excI at q
  obtain ⟨o, ho, q⟩ := PySem.W.any_some q
  obtain ⟨oc, od, odt, ⟨sl⟩⟩ := o
  dsimp only at q
  rw [Bool.and_eq_true] at q
  obtain ⟨hcls, q⟩ := q
  have hcls := eq_of_beq hcls
  subst hcls
  split at q
  · rename_i cd
    split at q
    · rename_i c' bm hm
      simp only [Bool.and_eq_true, beq_iff_eq, Bool.not_eq_true'] at q
      obtain ⟨⟨⟨⟨⟨⟨hc, ht⟩, hok⟩, hi⟩, hdel⟩, hdict⟩, hs⟩ := q
      split at hs
      · rename_i k0 k1 k2 k3 n k5
        have hs := eq_of_beq hs
        subst hs
        obtain ⟨nm, bs, mro, ns, qn, hd, sn, sub, ab, col, del⟩ := cd
        dsimp only at hm hdel hok hi hdict
        subst hc hm hdel hdict
        exact ⟨bm, ns, nm, qn, bs, sn, sub, ab, col, od, k0, k1, k2, k3, k5, _, X _ _ ho, .of_isNs (PySem.W.isNs_of_in X hok), ns_some_in X hok hi, PySem.W.tail_of_in X ht⟩
      · cases hs
    · cases q
  · cases q
/-! ### C(..), its own __init__ run -/
/-- an exception as it is made -/
abbrev excO (C t : Addr) : Obj := { cls := .ref C, data := .fields #[.ref t, .none, .none, .none, .bool false, .none] }
section
variable {prog : Program} {w : World} {A : Around} {E : Value → Shared → Prop} {h : Heap} {g : Array GenState} {d : Drawn} {t : Nat} {os : OsState} {K : PySem.W.Frag} {C fI : Addr}
theorem tc_excI {rest : List Value} {Q : Fin → Shared → Prop} (X : K.In h) (xi : excI K C fI = true) (hf : PySem.W.isFn K (.ref fI) = true)
    (hq : ∀ h' e, e = h.objs.size + 1 → Heap.MadeExcOf h h' e (.ref C) rest → wpAny (model prog w) A (call (.ref fI) (.ref e :: rest)) (fun r s' => r = .none ∧ Q (.done (.ret (.ref e))) s') E ⟨h', g, d, t, os⟩)
    (hrest : rest.length ≤ sizeLine) : wpAny (model prog w) A (Builtin.«type.__call__» ⟨.ref C :: rest, []⟩) Q E ⟨h, g, d, t, os⟩ := by
  have F := PySem.F.excBase_ValueError
  obtain ⟨bm, N, nm, qn, bs, sn, sub, ab, col, dd, k0, k1, k2, k3, k5, mN, hC, hn, hi, T⟩ := excI_obj xi X
  repeat (first | with_reducible refine wpAny_madeBy_exc hC ?_ | with_reducible refine wpAny_loadPart_at hC ?_ | wp_step)
  refine codeAny_call_builtin_code (Code.quiet_builtin _ F.quiet) (wpAny_check_new_subT F T hC (codeAny_exc_new_subT F T hC ?_ hrest))
  show wpAny _ _ _ _ _ _
  have kp : ∀ b o, h.get? b = some o → ((h.push { cls := .type "tuple", data := .seq rest.toArray }).push { cls := .ref C, data := .fields #[.ref h.objs.size, .none, .none, .none, .bool false, .none] }).get? b = some o := fun b o q => Heap.get?_push_of_some _ (Heap.get?_push_of_some _ q)
  have hC1 := kp _ _ hC
  have hn1 := hn.keeps kp
  have T1 := T.keeps kp
  have X1 : K.In ((h.push { cls := .type "tuple", data := .seq rest.toArray }).push { cls := .ref C, data := .fields #[.ref h.objs.size, .none, .none, .none, .bool false, .none] }) := fun b o q => kp b o (X b o q)
  have he : ((h.push { cls := .type "tuple", data := .seq rest.toArray }).push { cls := .ref C, data := .fields #[.ref h.objs.size, .none, .none, .none, .bool false, .none] }).get? (h.objs.size + 1) = some { cls := .ref C, data := .fields #[.ref h.objs.size, .none, .none, .none, .bool false, .none] } := Heap.get?_push_at (by simp only [Heap.size_push]) rfl
  have hcc : (Value.ref C :: bm).contains (.ref C) = true := by simp
  unfold isInstance
  repeat (first | (with_reducible refine wpAny_isSubtype_exc hC1 ?_; rw [hcc]) | with_reducible refine wpAny_loadPart_at he ?_ | wp_step)
  show wpAny _ _ (typeLookup (.ref C) "__init__") _ _ _
  refine wpAny_typeLookup_tail hC1 hn1 T1 F.mroIs F.init.lookup ?_
  rw [hi]
  refine wpAny_holding (wpAny_bind ((PySem.W.bind_fn X1 (.ref (h.objs.size + 1)) (beq_iff_eq.mp hf)).here ?_))
  refine wpAny_bind (wpAny_mono (hq _ (h.objs.size + 1) rfl ⟨kp, Heap.get?_none_of_le (Nat.le_succ _), h.objs.size, he, Heap.get?_none_of_le (Nat.le_refl _), ?_⟩) (fun r s' z => ?_) fun _ _ z => z)
  · exact Heap.get?_push_of_some _ (Heap.get?_push_at rfl rfl)
  · obtain ⟨rfl, z⟩ := z
    wp_walk
    exact z
theorem call_excI {rest : List Value} {Q : Value → Shared → Prop} (X : K.In h) (xi : excI K C fI = true) (hf : PySem.W.isFn K (.ref fI) = true)
    (hq : ∀ h' e, e = h.objs.size + 1 → Heap.MadeExcOf h h' e (.ref C) rest → wpAny (model prog w) (A.under (.builtin "type.__call__" ⟨.ref C :: rest, []⟩)) (call (.ref fI) (.ref e :: rest)) (fun r s' => r = .none ∧ Q (.ref e) s') E ⟨h', g, d, t, os⟩)
    (hrest : rest.length ≤ sizeLine) : wpAny (model prog w) A (call (.ref C) rest) Q E ⟨h, g, d, t, os⟩ := by
  obtain ⟨bm, N, nm, qn, bs, sn, sub, ab, col, dd, k0, k1, k2, k3, k5, mN, hC, hn, hi, T⟩ := excI_obj xi X
  have f1 := tc_lookup
  have f2 := tc_bind (.ref C)
  have hT : (⟨h, g, d, t, os⟩ : Shared).TypeIs (.ref C) "type" := ⟨_, hC, rfl⟩
  refine wpAny_call (codeAny_of_tree ?_)
  show wpAny _ _ (callAny (.ref C) ⟨rest, []⟩) _ _ _
  repeat (any_goals (first | assumption | with_reducible refine wpAny_loadPart_at hC ?_ | wp_step))
  refine ⟨rfl, codeAny_call_builtin_at (Code.quiet_builtin _ (by decide +kernel)) entry_typeCall (wpAny_check_type_call_sub hC (tc_excI X xi hf (fun h' e ez z => ?_) hrest))⟩
  exact hq h' e ez z
/-- B.__init__(e, x), B an own base without an __init__ of its own: the args are put anew -/
theorem call_binit {a t0 : Addr} {u : Value} {Q : Value → Shared → Prop} (X : K.In h) (xi : excI K C fI = true) (ha : h.get? a = some (excO C t0))
    (hq : ∀ h' t1, h'.get? a = some (excO C t1) → (∀ b o, b ≠ a → h.get? b = some o → h'.get? b = some o) → Q .none ⟨h', g, d, t, os⟩) :
    wpAny (model prog w) A (call (.builtin "ValueError.__init__") [.ref a, u]) Q E ⟨h, g, d, t, os⟩ := by
  have F := PySem.F.excBase_ValueError
  obtain ⟨bm, N, nm, qn, bs, sn, sub, ab, col, dd, k0, k1, k2, k3, k5, mN, hC, hn, hi, T⟩ := excI_obj xi X
  refine wpAny_call (codeAny_call_builtin F.init.plain F.initEntry (wpAny_check_init_subT F T hC ha rfl ?_))
  have ha' : h.get? a = some { cls := .ref C, data := .fields #[.ref t0, .none, .none, .none, .bool false, .none] } := ha
  have ha2 : (h.push { cls := .type "tuple", data := .seq [u].toArray }).get? a = some { cls := .ref C, data := .fields #[.ref t0, .none, .none, .none, .bool false, .none] } := Heap.get?_push_of_some _ ha'
  wp_walk
  refine hq _ h.objs.size ?_ fun b o hb q => ?_
  · rw [Heap.get?_update_self _ ha2 rfl]
    rfl
  · rw [Heap.get?_update_other _ _ (Ne.symm hb)]
    exact Heap.get?_push_of_some _ q
end
end L2

set_option Elab.async false
set_option linter.all false
set_option maxRecDepth 100000
set_option maxHeartbeats 4000000
/-! Own rules, part 53: the attribute of an own exception; raise. -/
namespace L2
open PySem PySem.Spec PyProof.Rows
theorem refuse_tail {h : Heap} {bm : List Value} (T : OwnTail h VE bm) (self : Value) : refuseLoop self "__setattr__" bm = pure () := by
  induction T with
  | base => exact PySem.F.store_ValueError.passes self
  | own _ _ _ _ ih => rw [refuseLoop_ref]; exact ih
section
variable {prog : Program} {w : World} {A : Around} {E : Value → Shared → Prop} {s : Shared} {K : PySem.W.Frag} {C fI : Addr}
theorem exc_store {a t0 : Addr} {name : Str} {v : Value} {Q : Unit → Shared → Prop} (X : K.In s.heap) (xi : excI K C fI = true) (ha : s.heap.get? a = some (excO C t0))
    (hs : PySem.W.findIn K (.ref C) "__setattr__" = some (some (.builtin "object.__setattr__"))) (hn : PySem.W.findIn K (.ref C) name = some none) (ho : PySem.W.mroIn K C (.type "object") = some true)
    (hq : ∀ h' tk, h'.get? a = some { excO C t0 with dict := some s.heap.objs.size } → h'.Ns1 s.heap.objs.size (fun y => if y = name then some v else none) → (∀ b o, b ≠ a → s.heap.get? b = some o → h'.get? b = some o) → Q () { s with heap := h', toks := tk }) :
    wpAny (model prog w) A (setAttr (.ref a) name v) Q E s := by
  have SF := PySem.F.store_ValueError
  obtain ⟨bm, N, nm, qn, bs, sn, sub, ab, col, dd, k0, k1, k2, k3, k5, mN, hC, _, _, T⟩ := excI_obj xi X
  have I : PySem.W.InstAt s.heap a (excO C t0) C none := ⟨ha, rfl, rfl, trivial⟩
  refine PySem.W.set_plain X I hs ?_
  have X' : K.In ({ s with toks := s.toks + 1 } : Shared).heap := X
  have sub : PySem.W.Looks (model prog w) s.heap (isInstance (.ref a) (.type "object")) true := I.type.andThen (PySem.W.looks_mroIn X ho)
  refine codeAny_call_builtin SF.slot.plain SF.entry (@PySem.W.check_slot (model prog w) _ _ { s with toks := s.toks + 1 } "object.__setattr__" "object" "__setattr__" (.ref a) [.str name s.toks, v] [] _ SF.kind SF.split sub (SF.args (.ref a) (.str name s.toks) v) ?_)
  rw [PySem.W.osa_eq, refuse_eq]
  refine wpAny_bind (wpAny_bind (I.type _ _ _ _ (fun _ _ e => e) (wpAny_bind (wpAny_mroOf_exc hC ?_))))
  rw [refuseLoop_ref, refuse_tail T]
  refine wpAny_pure (wpAny_bind (I.type _ _ _ _ (fun _ _ e => e) (wpAny_bind (PySem.W.looks_findIn X hn _ _ _ _ (fun _ _ e => e) ?_))))
  refine wpAny_bind (wpAny_pure ?_)
  dsimp only
  unfold Builtin.ObjectAttr.storeInOwnDict
  generalize hst : Builtin.ObjectAttr.storeInDict = st
  have ha' : s.heap.get? a = some { cls := .ref C, data := .fields #[.ref t0, .none, .none, .none, .bool false, .none] } := ha
  repeat (first | with_reducible refine wpAny_loadPart_at ha' ?_ | with_reducible refine wpAny_loadPart_at hC ?_ | wp_step)
  subst hst
  have hne : a ≠ s.heap.objs.size := Nat.ne_of_lt (Heap.lt_size ha)
  have a1 : (s.heap.push { cls := .type "dict", data := .dict #[] }).get? a = some { cls := .ref C, data := .fields #[.ref t0, .none, .none, .none, .bool false, .none] } := Heap.get?_push_of_some _ ha'
  have d1 : ((s.heap.push { cls := .type "dict", data := .dict #[] }).update a fun o => { cls := o.cls, dict := some s.heap.objs.size, data := o.data, slots := o.slots }).get? s.heap.objs.size = some { cls := .type "dict", data := .dict #[] } :=
    (Heap.get?_update_ne _ _ _ _ hne.symm).trans (Heap.get?_push_at rfl rfl)
  have n1 : ((s.heap.push { cls := .type "dict", data := .dict #[] }).update a fun o => { cls := o.cls, dict := some s.heap.objs.size, data := o.data, slots := o.slots }).Ns s.heap.objs.size (fun _ => none) := ⟨_, #[], _, d1, rfl, fun e he => absurd he (by simp), fun _ => rfl⟩
  unfold Builtin.ObjectAttr.storeInDict Builtin.ObjectAttr.newKeyGuard
  refine wpAny_bind (wpAny_pure (wpAny_bind (wpAny_nsSet1 (Heap.Ns1.of_empty n1) fun h2 hn2 hs2 => ?_)))
  obtain ⟨oD, eD, pD, g1, g2, g3⟩ := hn2.count (Within.cons name v Within.nil)
  refine wpAny_bind (wpAny_lookBehind g1 (by rw [g2]; exact pastItsLine_dict (Nat.le_trans g3 (by rw [List.length_cons, List.length_nil, sizeLine_eq]; omega))) ?_)
  wp_walk
  refine hq h2 _ ?_ ?_ fun b o hb q => ?_
  · refine (hs2.2 a hne).trans ?_
    rw [Heap.get?_update_self _ a1 rfl]
  · exact hn2
  · exact (hs2.2 b (Nat.ne_of_lt (Heap.lt_size q))).trans ((Heap.get?_update_ne _ _ _ _ hb).trans (Heap.get?_push_of_some _ q))
end
/-- an exception as it is made; with its own dict -/
def XM (a C : Addr) : HO := .ext fun h => ∃ t, h.get? a = some (excO C t)
def XN (a C dx : Addr) : HO := .ext fun h => ∃ t, h.get? a = some { excO C t with dict := some dx }
theorem xm_ok {P : Program} {w : World} {H : Hp} {h : Heap} {a C t : Addr} (e : h.get? a = some (excO C t)) : ObjOk P w H h a (XM a C) := ⟨⟨t, e⟩, ⟨_, e⟩, fun _ _ ⟨t, e⟩ k => ⟨t, k _ e⟩⟩
theorem xn_ok {P : Program} {w : World} {H : Hp} {h : Heap} {a C t dx : Addr} (e : h.get? a = some { excO C t with dict := some dx }) : ObjOk P w H h a (XN a C dx) := ⟨⟨t, e⟩, ⟨_, e⟩, fun _ _ ⟨t, e⟩ k => ⟨t, k _ e⟩⟩
theorem upd_id {H : Hp} {a : Addr} {o : HO} (h : H a = some o) : upd H a o = H := by
  funext b
  by_cases hb : b = a
  · subst hb; rw [upd_same, h]
  · rw [upd_ne hb]
section
variable {X : Cx} {k : Nat} {C fI R : Addr} {fd : FuncData} {ps : List Str} {sp : Sp} {x : Str} {np cpos pos apos : Pos} {e : Expr} {es : List Expr} {t : TA} {ta tv : TE}
theorem run_init {pins : List (Addr × Obj)} {σ : St} {H : Hp} {s : Shared} {Q : VK} {us : List Value} {vs : List V} (xi : excI X.K C fI = true) (hf : PySem.W.isFn X.K (.ref fI) = true) (F : FnOk X.prog X.w X.K X.mg X.base CX0 k fI fd ps sp) (hr : Room (k + 1) X.A) (hb : Binds X.K fd ps [])
    (I : Inv X pins σ H s) (r : Vals vs us) (hl : us.length ≤ sizeLine) (h : ∀ a, H a = none → sp (.ref a :: vs) (upd H a (XM a C)) (fun v H2 => v = .non ∧ Q (.ref a) H2) E0) :
    wpAny (model X.prog X.w) X.A (call (.ref C) us) (EP X pins σ Q) X.xe s := by
  obtain ⟨hp, g, d, tk, os⟩ := s
  refine call_excI I.kIn xi hf (fun h' a ea hm => ?_) hl
  subst ea
  obtain ⟨t, he, _, _⟩ := hm.there
  have I2 : Inv X pins σ (upd H (hp.objs.size + 1) (XM (hp.objs.size + 1) C)) ⟨h', g, d, tk, os⟩ := I.laid (a := hp.objs.size + 1) (o := XM (hp.objs.size + 1) C) (t' := tk) hm.keeps (Nat.le_succ _) (xm_ok he)
  have hq := h (hp.objs.size + 1) (I.hok.fresh (Nat.le_succ _))
  have r2 : Vals (V.ref (hp.objs.size + 1) :: vs) (Value.ref (hp.objs.size + 1) :: us ++ []) := by rw [List.append_nil]; exact .cons rfl r
  have hl2 : (Value.ref (hp.objs.size + 1) :: us ++ []).length = ps.length := by rw [← r2.length]; exact F.len _ _ _ _ hq
  refine wpAny_call (codeAny_mono (F.run _ X.stack _ _ ⟨Value.ref (hp.objs.size + 1) :: us, []⟩ _ _ _ E0 (hr.make C us []) (I2.env0.make C us []) (hb _ (Value.ref (hp.objs.size + 1) :: us) I2.kIn hl2) r2 hq) fun r s' z => ?_)
  cases r with
  | error e => exact (show False from z).elim
  | ok fl =>
    cases fl with
    | ret u =>
      obtain ⟨v, H', I3, rv, ev, q3⟩ := I2.after z
      subst ev
      exact ⟨rv, ⟨V.ref (hp.objs.size + 1), H', I3, rfl, q3⟩⟩
    | next => exact False.elim z
    | brk => exact False.elim z
    | cont => exact False.elim z
/-- what is raised was made and is there -/
theorem raised_any {M : Model} {A : Around} {E : Value → Shared → Prop} {env : Env} {s : Shared} {y : Sem Value} {Q : Flow → Shared → Prop} {K : PySem.W.Frag} (xi : excI K C fI = true) (hh : A.handled = none)
    (h : wpAny M A y (fun v s1 => ∃ a t dx, v = .ref a ∧ K.In s1.heap ∧ s1.heap.get? a = some { excO C t with dict := dx } ∧ E (.ref a) s1) E s) : wpAny M A (raiseStmt env (some y) none) Q E s := by
  unfold raiseStmt
  refine wpAny_bind (wpAny_mono h (fun v s1 z => ?_) fun _ _ z => z)
  obtain ⟨a, t, dx, rfl, X, ha, hE⟩ := z
  have ha : s1.heap.get? a = some { cls := .ref C, dict := dx, data := .fields #[.ref t, .none, .none, .none, .bool false, .none] } := ha
  obtain ⟨bm, N, nm, qn, bs, sn, sub, ab, col, dd, k0, k1, k2, k3, k5, mN, hC, _, _, T⟩ := excI_obj xi X
  have hb : (Value.ref C :: bm).contains (.type "BaseException") = true := by rw [List.contains_cons, T.hasType (show VE.contains (.type "BaseException") = true by decide), Bool.or_true]
  obtain ⟨hp, g, d, tk, os⟩ := s1
  repeat (first | with_reducible refine wpAny_loadPart_at ha ?_ | with_reducible refine wpAny_loadPart_at hC ?_ | (with_reducible refine wpAny_isSubtype_exc hC ?_; rw [hb]) | wp_step)
  exact wpAny_raiseNew_none hh hE
/-- the raise's reading: what it is called with, then __init__'s promise at the new exception -/
def QI (C : Addr) (G : Addr → St → Hp → Prop) (σ : St) : VK := fun v H2 => ∃ b dx, v = .ref b ∧ H2 b = some (XN b C dx) ∧ G b σ H2
def tRaiseI (C : Addr) (t : TA) (sp : Sp) (G : Addr → St → Hp → Prop) : TS := fun _ σ H => t σ H fun vs H1 => vs.length ≤ sizeLine ∧ ∀ a, H1 a = none → sp (.ref a :: vs) (upd H1 a (XM a C)) (fun v H2 => v = .non ∧ QI C G σ (.ref a) H2) E0
def MadeI (X : Cx) (C : Addr) (G : Addr → St → Hp → Prop) : Prop := ∀ (pins : List (Addr × Obj)) (σ : St) (H : Hp) (s : Shared) (a dx : Addr), Inv X pins σ H s → H a = some (XN a C dx) → G a σ H → X.xe (.ref a) s
theorem ps_raiseI {G : Addr → St → Hp → Prop} (hc : X.calm = true) (xi : excI X.K C fI = true) (hf : PySem.W.isFn X.K (.ref fI) = true) (hg : Gl X x) (hm : X.mg x = some (.ref C)) (F : FnOk X.prog X.w X.K X.mg X.base CX0 k fI fd ps sp) (hr : Room (k + 1) X.A) (hb : Binds X.K fd ps []) (kp : PySem.W.keepIn X.K (.ref C) = true)
    (ha : PA X (e :: es) t) (hX : MadeI X C G) (hdb : (x == ("__debug__" : Str)) = false := by decide) (he : starEach (e :: es) X.env = (false, eval e X.env) :: starEach es X.env := by rfl) (hpl : (backTo cpos (starEach es X.env)).any (·.1) = false := by rfl) :
    PS X (.Raise (some (.Call (.Name x np) (e :: es) [] cpos)) none pos) (tRaiseI C t sp G) := by
  intro pins s σ H D I h
  rw [arm_exec_Raise]
  refine wpAny_bind (wpAny_standAt (raised_any xi (I.ok.hd hc) (wpAny_bind (wpAny_mono (wpAny_Call_ofName (ld_glob I hg hm ?_ hdb)) (fun v s3 z => wpAny_bind (wpAny_standAt (wpAny_pure z))) fun _ _ z => z))))
  refine PySem.W.callWith_K (h₀ := X.base) I.ok.mod.kin kp (thn (ha cpos pins s σ H _ I h) fun us s1 ⟨vs, H1, I1, r, hl, q⟩ => ⟨I1.kIn, ?_⟩) he hpl
  refine wpAny_mono (run_init (us := us) (Q := QI C G σ) xi hf F hr hb I1 r (by rw [← r.length]; exact hl) q) (fun v s2 z => ?_) fun _ _ z => z
  obtain ⟨y, H2, I2, ry, a, dx, rfl, hN, g⟩ := z
  obtain rfl : v = Value.ref a := ry
  obtain ⟨⟨t, e1⟩, _, _⟩ := (show ObjOk X.prog X.w H2 s2.heap a (XN a C dx) from I2.hok a _ hN)
  exact ⟨a, t, some dx, rfl, I2.kIn, e1, hX pins σ H2 s2 a dx I2 hN g⟩
end
end L2

set_option Elab.async false
set_option linter.all false
set_option maxRecDepth 100000
set_option maxHeartbeats 4000000
/-! Own rules, part 54: the body of an own exception's __init__; the exception leaves. -/
namespace L2
open PySem PySem.Spec PyProof.Rows
/-- an own base without an __init__ of its own -/
structure BInit (K : PySem.W.Frag) (R : Addr) : Prop where
  ga : PySem.W.specialIn K (.ref R) "__getattribute__" = some (some (.builtin "type.__getattribute__"))
  rd : PySem.W.readsIn K R (.type "type") = true
  fd : PySem.W.findCls K (.ref R) (.type "type") "__init__" = some (.val (.builtin "ValueError.__init__"))
/-- an own exception whose attribute f may be set -/
structure XAttr (K : PySem.W.Frag) (C : Addr) (f : Str) : Prop where
  sa : PySem.W.findIn K (.ref C) "__setattr__" = some (some (.builtin "object.__setattr__"))
  no : PySem.W.findIn K (.ref C) f = some none
  ob : PySem.W.mroIn K C (.type "object") = some true
section
variable {X : Cx} {C fI R : Addr} {x f : Str} {np cpos pos pos' apos : Pos} {e o value : Expr} {es : List Expr} {t : TA} {ta tv : TE}
def tXI (C : Addr) (t : TA) : TE := fun σ H Q => t σ H fun vs H1 => ∃ a v, vs = [.ref a, v] ∧ H1 a = some (XM a C) ∧ Q .non H1
theorem pe_binit {pl : Sem Bool} (xi : excI X.K C fI = true) (bi : BInit X.K R) (hg : Gl X x) (hm : X.mg x = some (.ref R)) (ha : PA X (e :: es) t) (hdb : (x == ("__debug__" : Str)) = false := by decide)
    (hst : starEach (e :: es) X.env = (false, eval e X.env) :: starEach es X.env := by rfl) (hpl : (backTo cpos (starEach es X.env)).any (·.1) = false := by rfl)
    (ht : eval (.Call (.Attribute (.Name x np) "__init__" apos) (e :: es) [] cpos) X.env = (do
      let ov ← eval (.Name x np) X.env
      standAt apos.atName
      let (f, first) ← holding [ov] (getMethod ov "__init__" pl)
      callWith cpos f first (backTo cpos (starEach (e :: es) X.env)) (backToKw cpos (keywordEach [] X.env))) := by rfl) :
    PE X (.Call (.Attribute (.Name x np) "__init__" apos) (e :: es) [] cpos) (tXI C t) := by
  intro pins s σ H Q I h
  refine PySem.W.methodCall_KW (pl := pl) (ld_glob I hg hm ?_ hdb) ht
  refine PySem.W.method_cls I.kIn bi.ga (PySem.W.cls_value I.kIn bi.rd bi.fd (by decide +kernel) ?_)
  have I1 : Inv X pins σ H { s with toks := s.toks + 1 } := I.tok _
  have hA := ha cpos pins _ σ H _ I1 h
  rw [hst] at hA ⊢
  refine Calls.callWith_builtin (by show (false || (backTo cpos (starEach es X.env)).any (·.1)) = false; rw [hpl]; rfl) (Calls.evalArgs_plain ?_)
  refine thn hA fun us s2 ⟨vs, H2, I2, r2, a, v, ev, hM, q⟩ => ?_
  subst ev
  obtain ⟨u1, u2, rfl, r1, ru⟩ := vals2 r2
  cases r1
  obtain ⟨⟨t0, ea⟩, _, _⟩ := (show ObjOk X.prog X.w H2 s2.heap a (XM a C) from I2.hok a _ hM)
  obtain ⟨hp, g, d, tk, os⟩ := s2
  refine call_binit I2.kIn xi ea fun h' t1 e1 kp => ?_
  have I3 : Inv X pins σ (upd H2 a (XM a C)) ⟨h', g, d, tk, os⟩ := I2.write (x := a) (e := a) (t' := tk) (by rw [hM]; exact True.intro) (.inl rfl) (fun b q hb z => kp b q hb z) ⟨_, e1⟩ (xm_ok e1)
  rw [upd_id hM] at I3
  exact ⟨.non, H2, I3, rfl, q⟩
def sXFld (C : Addr) (f : Str) (ta tv : TE) : TS := fun D σ H => tv σ H fun y H1 => ta σ H1 fun x H2 => ∃ a, x = .ref a ∧ H2 a = some (XM a C) ∧ ∀ dx, H2 dx = none → dx ≠ a → D.nx σ (upd (upd H2 dx (.xd [(f, y)])) a (XN a C dx))
theorem ps_xfld (xi : excI X.K C fI = true) (xa : XAttr X.K C f) (ha : PE X o ta) (hv : PE X value tv) (hs : swapsWith value (some (.Attribute o f pos')) pos.line X.env = pure false) : PS X (.Assign [.Attribute o f pos'] value pos) (sXFld C f ta tv) := by
  intro pins s σ H D I h
  refine plainObj_wpAny_Assign_Attribute (thn (hv pins s σ H _ I h) fun u s1 ⟨y, H1, I1, ry, q⟩ => thn (ha pins s1 σ H1 _ I1 q) fun ov s2 ⟨z, H2, I2, rz, a, ez, hM, q2⟩ => ?_) hs
  subst ez
  obtain rfl : ov = Value.ref a := rz
  obtain ⟨⟨t0, ea⟩, _, _⟩ := (show ObjOk X.prog X.w H2 s2.heap a (XM a C) from I2.hok a _ hM)
  refine exc_store I2.kIn xi ea xa.sa xa.no xa.ob fun h' tk e1 n1 kp => ?_
  have hne : s2.heap.objs.size ≠ a := Nat.ne_of_gt (Heap.lt_size ea)
  have nb : ∀ b, b ≠ a → (h'.update a fun _ => excO C t0).get? b = h'.get? b := fun b hb => Heap.get?_update_other _ _ (Ne.symm hb)
  have na : (h'.update a fun _ => excO C t0).get? a = some (excO C t0) := Heap.get?_update_self _ e1 rfl
  have I3 : Inv X pins σ (upd H2 s2.heap.objs.size (.xd [(f, y)])) { s2 with heap := h'.update a fun _ => excO C t0, toks := tk } := I2.laid (a := s2.heap.objs.size) (o := .xd [(f, y)]) (t' := tk) (fun b ob z => by
    by_cases hb : b = a
    · subst hb
      rw [ea] at z
      cases z
      exact na
    · rw [nb b hb]; exact kp b ob hb z) (Nat.le_refl _) (by
    obtain ⟨oD, eD, pD, g1, g2⟩ := n1
    refine ⟨_, ⟨oD, eD, pD, (nb _ hne).trans g1, g2⟩, fun g => ?_⟩
    by_cases hg : g = f
    · subst hg
      rw [if_pos rfl, List.lookup_cons_self]
      exact ry
    · rw [if_neg hg, List.lookup_cons, show (g == f) = false from beq_eq_false_iff_ne.mpr hg]
      exact True.intro)
  have hM3 : (upd H2 s2.heap.objs.size (.xd [(f, y)])) a = some (XM a C) := by rw [upd_ne (Ne.symm hne)]; exact hM
  have I4 : Inv X pins σ (upd (upd H2 s2.heap.objs.size (.xd [(f, y)])) a (XN a C s2.heap.objs.size)) { s2 with heap := h', toks := tk } := I3.write (x := a) (e := a) (t' := tk) (by rw [hM3]; exact True.intro) (.inl rfl) (fun b q hb z => by rw [nb b hb] at z; exact z) ⟨_, e1⟩ (xn_ok e1)
  exact ⟨σ, _, I4, q2 _ (I2.hok.fresh (Nat.le_refl _)) hne⟩
end
/-! ### the exception leaves the def that made it -/
def del (H : Hp) (a : Addr) : Hp := fun b => if b = a then none else H b
theorem del_same {H : Hp} {a : Addr} : del H a a = none := if_pos rfl
theorem del_ne {H : Hp} {a b : Addr} (h : b ≠ a) : del H a b = H b := if_neg h
theorem del_some {H : Hp} {a b : Addr} {u : HO} (h : del H a b = some u) : b ≠ a ∧ H b = some u := by
  by_cases hb : b = a
  · subst hb; rw [del_same] at h; cases h
  · exact ⟨hb, by rw [del_ne hb] at h; exact h⟩
section
variable {P : Program} {w : World} {K : PySem.W.Frag} {mg : Str → Option Value} {base : Heap} {N : List Str} {qual : Str} {scope : Scope} {f : Addr} {cdv : Value} {A : Around} {outer : List Env} {s0 : Shared} {H0 : Hp} {E : XK}
end
end L2

set_option Elab.async false
set_option linter.all false
set_option maxRecDepth 100000
set_option maxHeartbeats 4000000
/-! Own rules, part 55: an own def called within an except suite. -/
namespace L2
open PySem PySem.Spec PyProof.Rows
structure RoomS (k : Nat) (A : Around) : Prop where
  dp : A.depth + 3 * k + 5 < recursionLimit
  un : A.units + 16 * k + 200 < cLine
theorem Room.sup {k : Nat} {A : Around} {v : Option Value} (r : Room k A) : RoomS k (A.mark v) := ⟨r.dp, r.un⟩
theorem RoomS.deeper {k : Nat} {A : Around} (r : RoomS (k + 1) A) (env : Env) : RoomS k (A.deeper env) :=
  ⟨by have := r.dp; show A.depth + 1 + 3 * k + 5 < _; omega, by have := r.un; show A.units + 3 + 16 * k + 200 < _; omega⟩
/-- the context of a def's body that runs below an except suite -/
abbrev cxS (P : Program) (w : World) (K : PySem.W.Frag) (mg : Str → Option Value) (base : Heap) (N : List Str) (qual : Str) (scope : Scope) (f : Addr) (cd : Value) (A : Around) (outer : List Env) (s : Shared) (H : Hp) : Cx :=
  { cxOf CX0 P w K mg base N qual scope f cd A outer s H E0 with calm := false, xe := fun _ _ => False }
structure FnOkS (P : Program) (w : World) (K : PySem.W.Frag) (mg : Str → Option Value) (base : Heap) (k : Nat) (f : Addr) (fd : FuncData) (ps : List Str) (sp : Sp) : Prop where
  len : ∀ vs H Q E, sp vs H Q E → vs.length = ps.length
  run : ∀ (A : Around) (outer : List Env) (s : Shared) (H : Hp) (args : PySem.Args) (us : List Value) (vs : List V) (Q : VK), RoomS k A → Env0 P w K mg base A outer s H → BindsTo s fd args (ps.zip us) → Vals vs us → sp vs H Q E0 →
    codeAny (model P w) A (.call (.ref f) args) (CR CX0 outer P w H s Q E0) s
section
variable {P : Program} {w : World} {K : PySem.W.Frag} {mg : Str → Option Value} {base : Heap}
theorem inv_startS {N ps : List Str} {qual : Str} {scope : Scope} {f : Addr} {cd : Value} {A : Around} {outer : List Env} {s s1 : Shared} {H : Hp} {us : List Value} {vs : List V} (S : FnScope N ps scope) (e0 : Env0 P w K mg base A outer s H) (hl : vs.length = ps.length) (r : Vals vs us)
    (x : InCallC s s.heap.objs.size (bindL (envOfC qual scope s.heap.objs.size f cd).kindOf (ps.zip us) fun _ => none) (cellsFrom (s.heap.objs.size + 1) scope.names []) (bindC (envOfC qual scope s.heap.objs.size f cd).kindOf (ps.zip us) fun _ => none) s1) :
    Inv (cxS P w K mg base N qual scope f cd A outer s H) [] (start N vs) H s1 := by
  have e1 : Env0 P w K mg base ({ A with handled := none } : Around) outer s H := ⟨e0.frames, e0.mod, e0.bs, e0.bsz, e0.funs, e0.frf, e0.hok, e0.bare⟩
  have I := inv_start (CX := CX0) (E := E0) (A := { A with handled := none }) S rfl e1 hl r x
  exact ⟨⟨I.ok.mod, I.ok.kind, I.ok.glob, I.ok.blt, I.ok.above, I.ok.inj, I.ok.has, I.ok.cab, fun z => absurd (show false = true from z) Bool.false_ne_true, Around.frames_deeper e0.frames, I.ok.stk, I.ok.exf, I.ok.bs, I.ok.bsz, I.ok.noex, I.ok.exfs, I.ok.funs, I.ok.frf⟩, I.os, I.bare, I.base, I.loc, I.cell, I.free, I.freeC, I.pin, I.hok, I.len⟩
theorem fn_ofS {k : Nat} {f : Addr} {name qual : Str} {params : Arguments} {body : List Stmt} {scope : Scope} {dV kV doc pm cdv ct oc : Value} {an od : Option Addr}
    {osl : Array (Option Value)} {N ps : List Str} {sp : Sp} (lk : K.lookup f = some ⟨oc, od, .func (PySem.W.fnOf name qual params body scope dV kV doc pm an cdv ct), osl⟩) (hcd : PySem.W.codeIn K cdv qual = true) (S : FnScope N ps scope)
    (len : ∀ vs H Q E, sp vs H Q E → vs.length = ps.length)
    (hbody : ∀ (A : Around) (outer : List Env) (s : Shared) (H : Hp) (vs : List V) (Q : VK), RoomS k (A.deeper (envOfC qual scope s.heap.objs.size f cdv)) → sp vs H Q E0 →
      ∃ t, PSs (cxS P w K mg base N qual scope f cdv A outer s H) body t ∧ t { nx := fun _ H' => Q .non H', rt := Q } (start N vs) H) :
    FnOkS P w K mg base (k + 1) f (PySem.W.fnOf name qual params body scope dV kV doc pm an cdv ct) ps sp := by
  refine ⟨len, fun A outer s H args us vs Q hr e0 hb r hsp => ?_⟩
  have hl := len _ _ _ _ hsp
  have KX : K.In s.heap := e0.mod.kin.keeps fun b o e => (e0.bs b o e).1
  have lim : s.heap.NoLimit := e0.mod.nolimit.keeps fun b o e => (e0.bs b o e).1
  have hkind : ∀ y ∈ ps.zip us, scope.names.lookup y.1 = some .local ∨ (scope.names.lookup y.1 = some .cell ∧ ((cellsFrom (s.heap.objs.size + 1) scope.names []).lookup y.1).isSome = true) := fun ⟨n, v⟩ hy => by
    rcases S.par n (List.of_mem_zip hy).1 with q | q
    · exact .inl q
    · exact .inr ⟨q, PySem.W.cellsFrom_some _ _ _ (.inl q)⟩
  refine codeAny_call_function (by have := hr.dp; omega) (KX _ _ lk) rfl S.co S.gen rfl (PySem.W.codeRec_of KX hcd) (hb _ _ _ _ ?_)
  refine wpAny_newFunctionEnv_cells S.kind hkind fun env he s1 x => ?_
  subst he
  refine ⟨lim.keeps x.toInCall.keep, codeAny_func ?_⟩
  obtain ⟨t, ht, hq⟩ := hbody A outer s H vs Q (hr.deeper _) hsp
  have I : Inv (cxS P w K mg base N qual scope f cdv A outer s H) [] (start N vs) H s1 := inv_startS S e0 hl r x
  refine wpAny_mono (ht [] s1 (start N vs) H _ I hq) (fun fl s' hs => ?_) fun e s' hs => False.elim hs
  have fin : ∀ {σ' : St} {H' : Hp} {v : V} {u : Value}, Inv (cxS P w K mg base N qual scope f cdv A outer s H) [] σ' H' s' → RelV v u → Q v H' → CE outer P w H s Q u s' :=
    fun {σ' H' v u} J rv q => ⟨v, H', J.os, J.bare, J.base, J.hok, rv, q⟩
  cases fl with
  | ret u =>
    obtain ⟨v, σ', H', J, rv, q⟩ := hs
    exact fin J rv q
  | next =>
    obtain ⟨σ', H', J, q⟩ := hs
    exact fin (v := V.non) (u := Value.none) J rfl q
  | brk =>
    obtain ⟨_, _, _, q⟩ := hs
    exact False.elim q
  | cont =>
    obtain ⟨_, _, _, q⟩ := hs
    exact False.elim q
theorem Fun.okS {x qual : Str} {st : Stmt} {f : Addr} {fd : FuncData} {N ps : List Str} {k : Nat} {sp : Sp} (F : Fun K x qual st f fd) (S : FnScope N ps (defScope st)) (len : ∀ vs H Q E, sp vs H Q E → vs.length = ps.length)
    (hbody : ∀ (cdv : Value) (A : Around) (outer : List Env) (s : Shared) (H : Hp) (vs : List V) (Q : VK), RoomS k (A.deeper (envOfC qual (defScope st) s.heap.objs.size f cdv)) → sp vs H Q E0 →
      ∃ t, PSs (cxS P w K mg base N qual (defScope st) f cdv A outer s H) (defBody st) t ∧ t { nx := fun _ H' => Q .non H', rt := Q } (start N vs) H) : FnOkS P w K mg base (k + 1) f fd ps sp := by
  obtain ⟨oc, od, kV, doc, pm, an, cdv, ct, osl, rfl, lk, hcd⟩ := F.ex
  exact fn_ofS lk hcd S len fun A outer s H vs Q hr hsp => hbody cdv A outer s H vs Q hr hsp
end
section
variable {X : Cx} {k : Nat} {f : Addr} {fd : FuncData} {ps : List Str} {sp : Sp} {x : Str} {p pos : Pos} {e : Expr} {es : List Expr} {t : TA}
theorem pe_callS (F : FnOkS X.prog X.w X.K X.mg X.base k f fd ps sp) (hr : RoomS k X.A) (hg : Gl X x) (hm : X.mg x = some (.ref f)) (hk : PySem.W.keepIn X.K (.ref f) = true) (hb : Binds X.K fd ps [])
    (ha : PA X (e :: es) t) (hdb : (x == ("__debug__" : Str)) = false := by decide) (he : starEach (e :: es) X.env = (false, eval e X.env) :: starEach es X.env := by rfl) (hpl : (backTo pos (starEach es X.env)).any (·.1) = false := by rfl) :
    PE X (.Call (.Name x p) (e :: es) [] pos) (tCall sp [] E0 t) := by
  intro pins s σ H Q I h
  refine wpAny_Call_Name_kw (ld_glob I hg hm ?_ hdb)
  refine PySem.W.callWith_K (h₀ := X.base) I.ok.mod.kin hk (thn (ha pos pins s σ H _ I h) fun us s1 ⟨vs, H1, I1, r, q⟩ => ⟨I1.kIn, ?_⟩) he hpl
  have r2 : Vals (vs ++ []) (us ++ []) := by rw [List.append_nil, List.append_nil]; exact r
  have hl : (us ++ []).length = ps.length := by rw [← r2.length]; exact F.len _ _ _ _ q
  refine wpAny_call (codeAny_mono (F.run X.A X.stack s1 H1 ⟨us, []⟩ (us ++ []) (vs ++ []) Q hr I1.env0 (hb s1 us I1.kIn hl) r2 q) fun r s' z => ?_)
  cases r with
  | error e => exact (show False from z).elim
  | ok fl =>
    cases fl with
    | ret u => exact I1.after z
    | next => exact False.elim z
    | brk => exact False.elim z
    | cont => exact False.elim z
end
end L2

set_option Elab.async false
set_option linter.all false
set_option maxRecDepth 100000
set_option maxHeartbeats 4000000
/-! Own rules, part 56: an exception's flight, what is true of its object kept. -/
namespace L2
open PySem PySem.Spec PyProof.Rows
/-- what a new traceback leaves true -/
def Gst (G : Obj → Prop) : Prop := ∀ (o : Obj) (vs : Array Value) (v : Value), o.data = .fields vs → G o → G (Obj.mapFields (·.setIfInBounds 1 v) o)
def TrG (h B : Heap) (e : Addr) (G : Obj → Prop) (fl : Value) : Prop :=
  ∃ oe vs T oT ts, h.get? e = some oe ∧ G oe ∧ oe.data = .fields vs ∧ vs[1]? = some (.ref T) ∧ B.get? T = none ∧ T ≠ e ∧ h.get? T = some oT ∧ oT.data = .fields ts ∧ ts[3]? = some fl
section
variable {M : Model} {A : Around} {E : Value → Shared → Prop} {s : Shared} {B : Heap} {env : Env} {outer l : List Env} {L e : Addr} {G : Obj → Prop} {Q : Unit → Shared → Prop}
/-- the entry's object -/
abbrev tbO (hd : Value) (L : Addr) (pl : List Value) : Obj := { cls := .type "traceback", dict := none, data := .fields ([hd, .ref L, .none, rawInt L, .none] ++ (if pl.isEmpty then List.replicate 6 Value.none else pl)).toArray }
theorem g_entry {oe : Obj} {vs : Array Value} {hd : Value} {nx : Bool} (gs : Gst G) (fr : A.frames = some (env :: outer)) (ff : s.heap.FunFrames B (env :: outer)) (ef : env.frame = some L) (ge : s.heap.get? e = some oe) (g : G oe) (kb : B.StaysIn s.heap) (en : B.get? e = none) (de : oe.data = .fields vs) (sz : 1 < vs.size)
    (hq : ∀ h', B.StaysIn h' → h'.FunFrames B (env :: outer) → TrG h' B e G (rawInt L) → s.heap.UpToSlots h' → Q () { s with heap := h' }) :
    wpAny M A (do let a ← frameOf env; let pl ← entryPlaceOf L nx; let b ← EntryCells.newEntry hd a .none (rawInt L) .none pl; setField (.ref e) 1 b) Q E s := by
  have ne : e ∉ (env :: outer).filterMap (·.frame) := fun z => by
    obtain ⟨_, o, ho, hn⟩ := ff.mem z
    rw [ge] at ho
    cases ho
    exact hn vs de
  refine wpAny_bind (wpAny_frameOf_fun fr ff ef fun h1 q1 => wpAny_bind (wpAny_entryPlaceOf fun pl hpl => ?_))
  unfold EntryCells.newEntry newFields
  refine wpAny_bind (wpAny_newObj_type ?_ (hpl.sizeOk5 _ _ _ _ _))
  have e1 : h1.get? e = some oe := (q1.2.1 e ne).trans ge
  have k1 : B.StaysIn h1 := fun b o z => (q1.2.1 b fun y => by rw [(ff.mem y).1] at z; cases z).trans (kb b o z)
  have e2 : (h1.push (tbO hd L pl)).get? e = some oe := Heap.get?_push_of_some _ e1
  have nT : h1.objs.size ≠ e := Nat.ne_of_gt (Heap.lt_size e1)
  have keep : ∀ b o, b ≠ e → h1.get? b = some o → ((h1.push (tbO hd L pl)).update e (Obj.mapFields (·.setIfInBounds 1 (Value.ref h1.objs.size)))).get? b = some o := fun b o hb z => (Heap.get?_update_other _ _ (Ne.symm hb)).trans (Heap.get?_push_of_some _ z)
  have other : ∀ b o, s.heap.get? b = some o → (∀ vs, o.data ≠ .fields vs) → b ≠ e := fun b o z hn y => by
    subst y
    rw [ge] at z
    cases z
    exact hn vs de
  refine wpAny_setField e2 de sz (hq _ ?_ ?_ ?_ ?_)
  · exact fun b o z => keep b o (fun y => by rw [y, en] at z; cases z) (k1 b o z)
  · refine ff.of_keeps fun b o z hn => ?_
    obtain ⟨sl, hs⟩ := q1.2.2 b o z
    exact ⟨_, keep b _ (other b o z hn) hs, rfl⟩
  · have d3 := Obj.data_mapFields de (·.setIfInBounds 1 (Value.ref h1.objs.size))
    refine ⟨_, _, h1.objs.size, tbO hd L pl, _, Heap.get?_update_self _ e2 (Obj.isFreed_of_fields d3), gs oe vs _ de g, d3, by simp [sz], k1.fresh, nT, (Heap.get?_update_other _ _ (Ne.symm nT)).trans (Heap.get?_push_size h1 rfl), rfl, ?_⟩
    first | (simp; done) | (rcases hpl with rfl | ⟨_, _, _, _, _, _, _, rfl⟩ <;> simp)
  · intro b o z hn
    obtain ⟨sl, hs⟩ := q1.2.2 b o z
    exact ⟨sl, keep b _ (other b o z hn) hs⟩
/-- no traceback yet -/
theorem g_first {oe : Obj} {vs : Array Value} (gs : Gst G) (fr : A.frames = some (env :: outer)) (ff : s.heap.FunFrames B (env :: outer)) (ef : env.frame = some L) (ge : s.heap.get? e = some oe) (g : G oe) (kb : B.StaysIn s.heap) (en : B.get? e = none) (de : oe.data = .fields vs) (h1 : vs[1]? = some .none)
    (hq : ∀ h', B.StaysIn h' → h'.FunFrames B (env :: outer) → TrG h' B e G (rawInt L) → s.heap.UpToSlots h' → Q () { s with heap := h' }) : wpAny M A (noteFrame (.ref e) env) Q E s := by
  unfold noteFrame
  simp only [ef]
  refine wpAny_bind (wpAny_field ge de h1 ?_)
  rw [if_neg (by decide)]
  exact g_entry gs fr ff ef ge g kb en de (Array.getElem?_eq_some_iff.mp h1).1 hq
theorem g_next (gs : Gst G) (fr : A.frames = some (env :: outer)) (ff : s.heap.FunFrames B (env :: outer)) (ef : env.frame = some L) (tr : TrG s.heap B e G .none) (kb : B.StaysIn s.heap) (en : B.get? e = none)
    (hq : ∀ h', B.StaysIn h' → h'.FunFrames B (env :: outer) → TrG h' B e G (rawInt L) → s.heap.UpToSlots h' → Q () { s with heap := h' }) : wpAny M A (noteFrame (.ref e) env) Q E s := by
  obtain ⟨oe, vs, T, oT, ts, ge, g, de, v1, nT, Te, gT, dT, t3⟩ := tr
  unfold noteFrame
  simp only [ef]
  refine wpAny_bind (wpAny_field ge de v1 ?_)
  rw [if_pos (show (Value.ref T != Value.none) = true from by simp)]
  refine wpAny_bind (wpAny_field gT dT t3 ?_)
  rw [if_neg (show ¬ ((Value.none == rawInt L) = true) from by simp [rawInt])]
  refine wpAny_bind (wpAny_setField gT dT (Array.getElem?_eq_some_iff.mp t3).1 ?_)
  have ot : ∀ b, b ≠ T → (s.heap.update T (Obj.mapFields (·.setIfInBounds 3 Value.none))).get? b = s.heap.get? b := fun b hb => Heap.get?_update_other _ _ (Ne.symm hb)
  have nr : ∀ b o, s.heap.get? b = some o → (∀ vs, o.data ≠ .fields vs) → b ≠ T := fun b o z hn y => by
    subst y
    rw [gT] at z
    cases z
    exact hn ts dT
  refine g_entry gs fr (ff.of_keeps fun b o z hn => ⟨o, (ot b (nr b o z hn)).trans z, rfl⟩) ef ((ot e (Ne.symm Te)).trans ge) g (fun b o z => (ot b fun y => by rw [y, nT] at z; cases z).trans (kb b o z)) en de (Array.getElem?_eq_some_iff.mp v1).1 fun h' x1 x2 x3 x4 => ?_
  exact hq h' x1 x2 x3 fun b o z hn => x4 b o ((ot b (nr b o z hn)).trans z) hn
theorem g_flight {fl : Value} (kb : B.StaysIn s.heap) (ff : s.heap.FunFrames B l) (tr : TrG s.heap B e G fl)
    (hq : ∀ h', B.StaysIn h' → h'.FunFrames B l → TrG h' B e G .none → (∀ b o, s.heap.get? b = some o → (∀ vs, o.data ≠ .fields vs) → h'.get? b = some o) → Q () { s with heap := h' }) : wpAny M A (setFlight (.ref e) none) Q E s := by
  obtain ⟨oe, vs, T, oT, ts, ge, g, de, v1, nT, Te, gT, dT, t3⟩ := tr
  have z3 : 3 < ts.size := (Array.getElem?_eq_some_iff.mp t3).1
  have ot : ∀ b, b ≠ T → (s.heap.update T (Obj.mapFields (·.setIfInBounds 3 ((none : Option Addr).elim Value.none fun f => rawInt f)))).get? b = s.heap.get? b := fun b hb => Heap.get?_update_other _ _ (Ne.symm hb)
  have nr : ∀ b o, s.heap.get? b = some o → (∀ vs, o.data ≠ .fields vs) → b ≠ T := fun b o z hn y => by
    subst y
    rw [gT] at z
    cases z
    exact hn ts dT
  unfold setFlight
  refine wpAny_bind (wpAny_field ge de v1 ?_)
  rw [if_pos (show (Value.ref T != Value.none) = true from by simp)]
  refine wpAny_setField gT dT z3 (hq _ (fun b o z => (ot b fun y => by rw [y, nT] at z; cases z).trans (kb b o z)) (ff.of_keeps fun b o z hn => ⟨o, (ot b (nr b o z hn)).trans z, rfl⟩) ?_ fun b o z hn => (ot b (nr b o z hn)).trans z)
  exact ⟨oe, vs, T, _, _, (ot e (Ne.symm Te)).trans ge, g, de, v1, nT, Te, Heap.get?_update_self _ gT (Obj.isFreed_of_fields (Obj.data_mapFields dT _)), Obj.data_mapFields dT _, by simp [z3]⟩
end
end L2

set_option Elab.async false
set_option linter.all false
set_option maxRecDepth 100000
set_option maxHeartbeats 4000000
/-! Own rules, part 57: an exception that bears data: raised, passed by, caught. -/
namespace L2
open PySem PySem.Spec PyProof.Rows
/-- of the class at C, with its own dict at dx, its context none -/
def GN (C dx : Addr) (o : Obj) : Prop := o.cls = .ref C ∧ o.dict = some dx ∧ ∃ vs a0, o.data = .fields vs ∧ vs[0]? = some a0 ∧ vs[2]? = some .none
theorem gn_st (C dx : Addr) : Gst (GN C dx) := fun o vs v hd ⟨h1, h2, ws, a0, h3, h4, h5⟩ => by
  rw [hd] at h3
  cases h3
  refine ⟨(Obj.cls_mapFields _ _).trans h1, ?_, _, a0, Obj.data_mapFields hd _, ?_, ?_⟩
  · obtain ⟨oc, od, odt, osl⟩ := o
    cases hd
    exact h2
  · rw [Array.getElem?_setIfInBounds_ne (by decide)]; exact h4
  · rw [Array.getElem?_setIfInBounds_ne (by decide)]; exact h5
structure FlyD (P : Program) (w : World) (outer : List Env) (H : Hp) (s : Shared) (E : XK) (e : Value) (s' : Shared) (a C dx : Addr) (B : Heap) (H' : Hp) : Prop where
  is : e = .ref a
  os : s'.os = s.os
  bare : AllBare s'.gens
  un : Un (frs outer) [] H H' s.heap s'.heap
  hok : HOk P w H' s'.heap
  st : B.StaysIn s'.heap
  hen : B.get? a = none
  ff : s'.heap.FunFrames B outer
  tr : TrG s'.heap B a (GN C dx) .none
  trk : ∀ b u, H' b = some u → ∃ o, B.get? b = some o
  old : ∀ b o, s.heap.get? b = some o → H b = none → b ∉ frs outer → B.get? b = some o
  dom : ∀ b u, H b = some u → ∃ u', H' b = some u'
  new : H' a = none
  ok : E (.ref C) (some dx) H'
theorem tr_w {h B : Heap} {e C dx : Addr} (t : TrG h B e (GN C dx) .none) : ∃ a0, h.TracedW B e (.ref C) a0 := by
  obtain ⟨oe, vs, T, oT, ts, ge, ⟨g1, g2, ws, a0, g3, g4, g5⟩, de, v1, nT, Te, gT, dT, t3⟩ := t
  rw [de] at g3
  cases g3
  exact ⟨a0, oe, vs, T, oT, ts, ge, ⟨g1, g4⟩, de, v1, nT, Te, gT, dT, t3⟩
theorem FlyD.toFly {P : Program} {w : World} {outer : List Env} {H : Hp} {s : Shared} {E : XK} {e : Value} {s' : Shared} {a C dx : Addr} {B : Heap} {H' : Hp} (F : FlyD P w outer H s E e s' a C dx B H') : ∃ a0, Fly P w outer H s (fun _ _ _ => True) e s' a (.ref C) a0 B H' := by
  obtain ⟨a0, t⟩ := tr_w F.tr
  exact ⟨a0, F.is, F.os, F.bare, F.un, F.hok, ⟨F.st, F.hen, F.ff, t⟩, F.trk, F.old, F.dom, F.new, trivial⟩
def CXD (P : Program) (w : World) : CXT := fun outer H s E e s' => CXX P w outer H s E e s' ∨ ∃ a C dx B H', FlyD P w outer H s E e s' a C dx B H'
section
variable {P : Program} {w : World} {K : PySem.W.Frag} {mg : Str → Option Value} {base : Heap} {N : List Str} {qual : Str} {scope : Scope} {f : Addr} {cdv : Value} {A : Around} {outer : List Env} {s0 : Shared} {H0 : Hp} {E : XK}
/-- what passes a def without data passes one with -/
theorem xe_D {e : Value} {s : Shared} (h : (cxOf (CXX P w) P w K mg base N qual scope f cdv A outer s0 H0 E).xe e s) : (cxOf (CXD P w) P w K mg base N qual scope f cdv A outer s0 H0 E).xe e s :=
  wpAny_mono h (fun _ _ z => .inl z) fun _ _ z => .inl z
theorem passG_defD : PassesG (CXX P w) (cxOf (CXD P w) P w K mg base N qual scope f cdv A outer s0 H0 E) E (fun _ H => Dom H0 H) := fun pins σ H s e s' I g hx =>
  xe_D (passG_def (P := P) (w := w) pins σ H s e s' (show Inv (cxOf (CXX P w) P w K mg base N qual scope f cdv A outer s0 H0 E) pins σ H s from I.wish _) g hx)
theorem leave_initedD {pins : List (Addr × Obj)} {σ : St} {H : Hp} {s : Shared} {a C dx : Addr}
    (I : Inv (cxOf (CXD P w) P w K mg base N qual scope f cdv A outer s0 H0 E) pins σ H s) (hN : H a = some (XN a C dx)) (dom : Dom H0 H) (hn0 : H0 a = none) (ok : E (.ref C) (some dx) (del H a)) :
    (cxOf (CXD P w) P w K mg base N qual scope f cdv A outer s0 H0 E).xe (.ref a) s := by
  obtain ⟨⟨t, ea⟩, _, _⟩ := (show ObjOk P w H s.heap a (XN a C dx) from I.hok a _ hN)
  have hL : frs (cxOf (CXD P w) P w K mg base N qual scope f cdv A outer s0 H0 E).stack = s0.heap.objs.size :: frs outer := frs_cons rfl
  have no : ∀ b : Addr, b ∉ ([] : List Addr) := fun b z => absurd z (List.not_mem_nil)
  have FF := I.stack
  have ns0 : ∀ {b : Addr} {o : Obj}, s0.heap.get? b = some o → b ≠ a := fun {b o} q z => by
    subst z
    have := I.base.free b o q hn0 (no b)
    rw [hN] at this
    cases this
  have hin : ∀ env ∈ (cxOf (CXD P w) P w K mg base N qual scope f cdv A outer s0 H0 E).stack, ∀ b, env.frame = some b → b ∈ a :: frs (cxOf (CXD P w) P w K mg base N qual scope f cdv A outer s0 H0 E).stack := fun env he b hb => List.mem_cons_of_mem _ (List.mem_filterMap.mpr ⟨env, he, hb⟩)
  have inB : ∀ b o, s.heap.get? b = some o → b ≠ a → b ∉ frs (cxOf (CXD P w) P w K mg base N qual scope f cdv A outer s0 H0 E).stack → (PySem.W.hideAll s.heap (a :: frs (cxOf (CXD P w) P w K mg base N qual scope f cdv A outer s0 H0 E).stack)).get? b = some o := fun b o q n1 n2 => PySem.W.hideAll_get _ q fun z => (List.mem_cons.mp z).elim n1 n2
  have hen : (PySem.W.hideAll s.heap (a :: frs (cxOf (CXD P w) P w K mg base N qual scope f cdv A outer s0 H0 E).stack)).get? a = none := PySem.W.hideAll_none _ List.mem_cons_self
  show wpAny _ _ (leaving _ (.ref a)) _ _ s
  unfold leaving
  refine wpAny_bind (g_first (B := PySem.W.hideAll s.heap (a :: frs (cxOf (CXD P w) P w K mg base N qual scope f cdv A outer s0 H0 E).stack)) (outer := outer) (L := s0.heap.objs.size) (gn_st C dx) I.ok.frames (PySem.W.funFrames_hide FF hin) rfl ea ⟨rfl, rfl, _, _, rfl, rfl, rfl⟩ (fun b o q => PySem.W.of_hideAll _ q) hen rfl rfl fun h1 k1 k2 k3 k4 => ?_)
  refine g_flight k1 k2 k3 fun h'' x1 x2 x3 x4 => .inr ?_
  have up : s.heap.UpToSlots h'' := fun b o q hn => by
    obtain ⟨sl, q1⟩ := k4 b o q hn
    exact ⟨sl, x4 b _ q1 hn⟩
  have notin : ∀ {b : Addr} {o : Obj}, s0.heap.get? b = some o → b ∉ frs outer → b ∉ frs (cxOf (CXD P w) P w K mg base N qual scope f cdv A outer s0 H0 E).stack := fun {b o} q n z => by
    rw [hL] at z
    rcases List.mem_cons.mp z with y | y
    · exact absurd (Heap.lt_size q) (by rw [y]; exact Nat.lt_irrefl _)
    · exact n y
  have slot' : ∀ {b : Addr} {o : Obj}, b ∈ frs (cxOf (CXD P w) P w K mg base N qual scope f cdv A outer s0 H0 E).stack → s.heap.get? b = some o → ∃ sl, h''.get? b = some { o with slots := sl } := fun {b o} hb q => up b o q (noFields FF hb q)
  have keptO : ∀ {b : Addr} {u : HO} {o : Obj}, H b = some u → b ≠ a → s.heap.get? b = some o → h''.get? b = some o := fun {b u o} hu hb q => x1 b o (inB b o q hb fun z => by rw [I.stkFree b z] at hu; cases hu)
  have noX : ∀ {b : Addr} {u : HO}, H b = some u → u ≠ XN a C dx → b ≠ a := fun {b u} q n z => by
    subst z
    rw [hN] at q
    exact n (Option.some.inj q).symm
  refine ⟨a, C, dx, _, del H a, ⟨rfl, I.os, I.bare, ⟨fun b o q n hb _ => ?_, fun b o q n hb _ => ?_, fun b o q n _ => ?_, fun b o q _ => ?_, fun b xs q => ?_, fun b o xs q => ?_, fun b ps q => ?_⟩, fun b u hu => ?_, x1, hen, x2.2.2, x3, fun b u hu => ?_, fun b o q n hb => ?_, fun b u hu => ?_, del_same, ok⟩⟩
  · exact x1 b o (inB b o (I.base.keep b o q n hb (no b)) (ns0 q) (notin q hb))
  · obtain ⟨sl, q1⟩ := I.base.slot b o q n hb (no b)
    obtain ⟨sl', q2⟩ := slot' (by rw [hL]; exact List.mem_cons_of_mem _ hb) q1
    exact ⟨sl', q2⟩
  · rw [del_ne (ns0 q)]
    exact I.base.free b o q n (no b)
  · obtain ⟨o', q1⟩ := I.base.there b o q (no b)
    by_cases hb : b ∈ frs (cxOf (CXD P w) P w K mg base N qual scope f cdv A outer s0 H0 E).stack
    · obtain ⟨sl, q2⟩ := slot' hb q1
      exact ⟨_, q2⟩
    · exact ⟨_, x1 b o' (inB b o' q1 (ns0 q) hb)⟩
  · have z := I.base.tups b xs q
    rw [del_ne (noX z (by intro y; cases y))]
    exact z
  · have z := I.base.frzs b o xs q
    rw [del_ne (noX z (by intro y; cases y))]
    exact z
  · obtain ⟨m1, e1⟩ := I.base.tbls b ps q
    refine ⟨m1, ?_⟩
    rw [del_ne (noX e1 (by intro y; cases y))]
    exact e1
  · obtain ⟨hb, hu⟩ := del_some hu
    refine (I.hok b u hu).stay (fun c q hc z => ?_) (fun c z => ?_) fun c xs z => ?_
    · rcases hc with rfl | hc
      · exact keptO hu hb z
      · exact keptO hc (noX hc (by intro y; cases y)) z
    · rw [del_ne (noX z (by intro y; cases y))]; exact z
    · rw [del_ne (noX z (by intro y; cases y))]; exact z
  · obtain ⟨hb, hu⟩ := del_some hu
    obtain ⟨o, q⟩ := (I.hok b u hu).there
    exact ⟨o, inB b o q hb fun z => by rw [I.stkFree b z] at hu; cases hu⟩
  · exact inB b o (I.base.keep b o q n hb (no b)) (ns0 q) (notin q hb)
  · have hb : b ≠ a := fun z => by rw [z, hn0] at hu; cases hu
    obtain ⟨u', hu'⟩ := dom b u hu
    exact ⟨u', by rw [del_ne hb]; exact hu'⟩
/-- THE RULE for a def that may raise an exception with data -/
theorem Fun.okD {x qual : Str} {st : Stmt} {f : Addr} {fd : FuncData} {N ps : List Str} {k : Nat} {sp : Sp} (F : Fun K x qual st f fd) (S : FnScope N ps (defScope st)) (len : ∀ vs H Q E, sp vs H Q E → vs.length = ps.length)
    (hbody : ∀ (cdv : Value) (A : Around) (outer : List Env) (s : Shared) (H : Hp) (vs : List V) (Q : VK) (E : XK), Room k (A.deeper (envOfC qual (defScope st) s.heap.objs.size f cdv)) → sp vs H Q E →
      ∃ t, PSs (cxOf (CXD P w) P w K mg base N qual (defScope st) f cdv A outer s H E) (defBody st) t ∧ t { nx := fun _ H' => Q .non H', rt := Q } (start N vs) H) : FnOk P w K mg base (CXD P w) (k + 1) f fd ps sp := by
  obtain ⟨oc, od, kV, doc, pm, an, cdv, ct, osl, rfl, lk, hcd⟩ := F.ex
  exact fn_of lk hcd S len fun A outer s H vs Q E hr hsp => hbody cdv A outer s H vs Q E hr hsp
end
/-! ### try -/
abbrev tryCxD (X : Cx) (pins : List (Addr × Obj)) (σ : St) (E : XK) : Cx := { X with pn := X.pn ++ pins, xe := fun e s' => ∃ H1 s1, Inv X pins σ H1 s1 ∧ CXD X.prog X.w X.stack H1 s1 E e s' }
section
variable {X : Cx}
theorem passG_tryD {pins : List (Addr × Obj)} {σ : St} {E : XK} : PassesG (CXD X.prog X.w) (tryCxD X pins σ E) E (fun σ' _ => σ' = σ) := fun pins' σ' H s e s' I g hx => by
  subst g
  exact ⟨H, s, (show Inv (tryCx X pins σ' E) pins' σ' H s from I.wish _).ofTry, hx⟩
/-- the handlers, for an exception with data -/
def HDD (X : Cx) (hs : List ExceptHandler) (C dx : Addr) (t : TS) : Prop := ∀ (pins : List (Addr × Obj)) (s1 : Shared) (σ : St) (H1 : Hp) (E : XK) (e : Value) (s' : Shared) (a : Addr) (B : Heap) (H' : Hp) (h : Heap) (De : Ends),
  Inv X pins σ H1 s1 → FlyD X.prog X.w X.stack H1 s1 E e s' a C dx B H' → B.StaysIn h → h.FunFrames B X.stack → TrG h B a (GN C dx) .none → s'.heap.UpToSlots h → t De σ H' → wpAny (model X.prog X.w) X.A (handleBy (.ref a) X.env hs) (SP X pins De) X.xe { s' with heap := h }
def tTryD (X : Cx) (body : List Stmt) (hs : List ExceptHandler) : TS := fun D σ H => ∃ (E : XK) (tb : TS), (∀ pins, PSs (tryCxD X pins σ E) body tb) ∧ tb D σ H ∧ (∀ cls H', E cls none H' → ∃ Dc t, cls = .ref Dc ∧ HD X hs Dc t ∧ t D σ H') ∧ ∀ C dx H', E (.ref C) (some dx) H' → ∃ t, HDD X hs C dx t ∧ t D σ H'
theorem ps_tryD {body : List Stmt} {h₀ : ExceptHandler} {hs : List ExceptHandler} {pos : Pos} (hst : X.stack = X.env :: X.outer) (hfr : X.env.frame = some X.env.locals) : PS X (.Try body (h₀ :: hs) [] [] pos) (tTryD X body (h₀ :: hs)) := by
  intro pins s σ H D I h
  obtain ⟨E, tb, hb, ht, hx, hxd⟩ := h
  have It : Inv (tryCxD X pins σ E) [] σ H s := (show Inv (tryCxD X pins σ E) [] σ H s from (Inv.toTry (σ' := σ) (E := E) I).wish _)
  refine wpAny_Try_except (wpAny_mono (hb pins [] s σ H D It ht) (fun f s1 hf => ?_) fun e s' he => ?_)
  · have hf' : SP X pins D f s1 := by
      cases f with
      | next => obtain ⟨σ', H', J, q⟩ := hf; exact ⟨σ', H', (show Inv (tryCx X pins σ E) [] σ' H' s1 from J.wish _).ofTry, q⟩
      | brk => obtain ⟨σ', H', J, q⟩ := hf; exact ⟨σ', H', (show Inv (tryCx X pins σ E) [] σ' H' s1 from J.wish _).ofTry, q⟩
      | cont => obtain ⟨σ', H', J, q⟩ := hf; exact ⟨σ', H', (show Inv (tryCx X pins σ E) [] σ' H' s1 from J.wish _).ofTry, q⟩
      | ret u => obtain ⟨v, σ', H', J, r, q⟩ := hf; exact ⟨v, σ', H', (show Inv (tryCx X pins σ E) [] σ' H' s1 from J.wish _).ofTry, r, q⟩
    cases f with
    | next => exact wpAny_execs_nil hf'
    | brk => exact hf'
    | cont => exact hf'
    | ret u => exact hf'
  · obtain ⟨H1, s1, I1, z | ⟨a, C, dx, B, H', F⟩⟩ := he
    · obtain ⟨a, cls, a0, B, H', F⟩ := z
      obtain ⟨Dc, t, rfl, hd, htt⟩ := hx cls H' F.ok
      have ie := F.is
      subst ie
      have fl0 : Heap.FlyingW B (X.env :: X.outer) a (.ref Dc) a0 s'.heap := by rw [← hst]; exact F.fly
      refine wpAny_looks_onW (by rw [← hst]; exact I.ok.frames) hfr fl0 fun h2 held up2 => wpAny_landsW held fun h3 fl3 up3 => ?_
      exact hd pins s1 σ H1 E _ s' a a0 B H' h3 D I1 F (by rw [hst]; exact fl3) (up2.trans up3) htt
    · obtain ⟨t, hd, htt⟩ := hxd C dx H' F.ok
      have ie := F.is
      subst ie
      refine g_next (gn_st C dx) (by rw [← hst]; exact I.ok.frames) (by rw [← hst]; exact F.ff) hfr F.tr F.st F.hen fun h2 k1 k2 k3 k4 => ?_
      refine g_flight k1 k2 k3 fun h3 x1 x2 x3 x4 => ?_
      exact hd pins s1 σ H1 E _ s' a B H' h3 D I1 F x1 (by rw [hst]; exact x2) x3 (k4.trans fun b o q hn => ⟨o.slots, x4 b o q hn⟩) htt
theorem excMatches_ownI {M : Model} {A : Around} {E : Value → Shared → Prop} {K : PySem.W.Frag} {C D fI : Addr} {b : Bool} (xC : XCls K C ∨ ∃ f, excI K C f = true) (xD : excI K D fI = true) (sub : PySem.W.mroIn K D (.ref C) = some b) {s : Shared} (X : K.In s.heap) {e : Addr} {oe : Obj}
    (he : s.heap.get? e = some oe) (hcls : oe.cls = .ref D) {Q : Bool → Shared → Prop} (hq : Q b s) : wpAny M A (excMatches (.ref e) (.ref C)) Q E s := by
  have hCo : ∃ bm N nm q bs hdct sn sub ab col dd k0 k1 k2 k3 k5, s.heap.get? C = some (excClassObj nm q C N bs bm hdct sn sub ab col dd k0 k1 k2 k3 k5 "ValueError.__new__") ∧ OwnTail s.heap VE bm := by
    rcases xC with xC | ⟨f, xC⟩
    · obtain ⟨bm, N, nm, q, bs, hdct, sn, sub1, ab, col, dd, k0, k1, k2, k3, k5, mN, hC, hN, hni, T⟩ := xC.obj X
      exact ⟨_, _, _, _, _, _, _, _, _, _, _, _, _, _, _, _, hC, T⟩
    · obtain ⟨bm, N, nm, q, bs, sn, sub1, ab, col, dd, k0, k1, k2, k3, k5, mN, hC, hN, hni, T⟩ := excI_obj xC X
      exact ⟨_, _, _, _, _, _, _, _, _, _, _, _, _, _, _, _, hC, T⟩
  obtain ⟨bm, N, nm, q, bs, hdct, sn, sub1, ab, col, dd, k0, k1, k2, k3, k5, hC, T⟩ := hCo
  obtain ⟨bmD, ND, nmD, qD, bsD, snD, subD, abD, colD, ddD, k0D, k1D, k2D, k3D, k5D, mND, hD, hND, hiD, TD⟩ := excI_obj xD X
  have hb : (Value.ref D :: bmD).contains (.ref C) = b := by
    unfold PySem.W.mroIn at sub
    obtain ⟨cd, a1, a2⟩ := Option.bind_eq_some_iff.mp sub
    unfold PySem.W.clsIn at a1
    split at a1
    · rename_i ho
      have z := X _ _ ho
      rw [hD] at z
      cases z
      cases a1
      simpa using a2
    · cases a1
  have hcB : (Value.ref C :: bm).contains (.type "BaseException") = true := by rw [List.contains_cons, T.hasType (show VE.contains (.type "BaseException") = true by decide), Bool.or_true]
  have f := tc_notTuple
  obtain ⟨h, g, d, t, os⟩ := s
  unfold excMatches
  repeat (first | (with_reducible refine wpAny_loadPart_at he ?_; rw [hcls]) | with_reducible refine wpAny_loadPart_at hC ?_ | (with_reducible refine wpAny_isSubtype_exc hC ?_; rw [hcB]) | (with_reducible refine wpAny_isSubtype_exc hD ?_; rw [hb]) | wp_step)
  cases b <;> (wp_walk; exact hq)
end
end L2

set_option Elab.async false
set_option linter.all false
set_option maxRecDepth 100000
set_option maxHeartbeats 4000000
/-! Own rules, part 58: except .. as e, e with data. -/
namespace L2
open PySem PySem.Spec PyProof.Rows
/-- an exception of the class at C, its own dict at dx -/
def XOD (a C dx : Addr) : HO := .ext fun h => ∃ o, h.get? a = some o ∧ o.cls = .ref C ∧ o.dict = some dx ∧ ∃ vs, o.data = .fields vs
theorem xod_ok {P : Program} {w : World} {H : Hp} {h : Heap} {a C dx : Addr} {o : Obj} (e : h.get? a = some o) (c : o.cls = .ref C) (d : o.dict = some dx) {vs : Array Value} (f : o.data = .fields vs) : ObjOk P w H h a (XOD a C dx) :=
  ⟨⟨o, e, c, d, vs, f⟩, ⟨o, e⟩, fun _ _ ⟨o, e, c⟩ k => ⟨o, k _ e, c⟩⟩
section
variable {X : Cx}
theorem landU {pins : List (Addr × Obj)} {σ : St} {H1 : Hp} {s1 : Shared} (I : Inv X pins σ H1 s1) {E : XK} {e : Value} {s' : Shared} {a : Addr} {cls a0 : Value} {B : Heap} {H' : Hp} (F : Fly X.prog X.w X.stack H1 s1 E e s' a cls a0 B H')
    {h : Heap} (st : B.StaysIn h) (up : s'.heap.UpToSlots h) {u : HO} (hu0 : ObjOk X.prog X.w (upd H' a u) h a u) : Inv X pins σ (upd H' a u) { s' with heap := h } := by
  have no : ∀ b : Addr, b ∉ ([] : List Addr) := fun b z => absurd z (List.not_mem_nil)
  have slot' : ∀ {b : Addr} {o : Obj}, b ∈ frs X.stack → s'.heap.get? b = some o → ∃ sl, h.get? b = some { o with slots := sl } := fun {b o} hb q => up b o q (noFields F.fly.2.2.1 hb q)
  have nw : ∀ {b : Addr} {o : Obj}, s1.heap.get? b = some o → b ≠ a := fun {b o} q z => by
    rw [z, F.fresh] at q
    cases q
  refine I.call' (ch := []) F.os ⟨fun b o q n hb _ => st b o (F.old b o q n hb), fun b o q n hb _ => ?_, fun b o q n _ => ?_, fun b o q _ => ?_, fun b xs q => ?_, fun b o xs q => ?_, fun b ps q => ?_⟩ (fun b v hv => ?_) F.bare (fun b z => absurd z (no b))
  · obtain ⟨sl2, q2⟩ := F.un.slot b o q n hb (no b)
    obtain ⟨sl3, q3⟩ := slot' hb q2
    exact ⟨sl3, q3⟩
  · rw [upd_ne (nw q)]
    exact F.un.free b o q n (no b)
  · cases hb : H1 b with
    | none =>
      by_cases hs : b ∈ frs X.stack
      · obtain ⟨sl2, q2⟩ := F.un.slot b o q hb hs (no b)
        obtain ⟨sl3, q3⟩ := slot' hs q2
        exact ⟨_, q3⟩
      · exact ⟨_, st b o (F.old b o q hb hs)⟩
    | some v =>
      obtain ⟨u', hu⟩ := F.dom b v hb
      obtain ⟨o2, q2⟩ := F.trk b u' hu
      exact ⟨_, st b o2 q2⟩
  · have := F.un.tups b xs q
    rw [upd_ne (ne_of_none this F.new)]
    exact this
  · have := F.un.frzs b o xs q
    rw [upd_ne (ne_of_none this F.new)]
    exact this
  · obtain ⟨m, this⟩ := F.un.tbls b ps q
    exact ⟨m, by rw [upd_ne (ne_of_none this F.new)]; exact this⟩
  · by_cases hb : b = a
    · subst hb
      rw [upd_same] at hv
      cases hv
      exact hu0
    · rw [upd_ne hb] at hv
      refine (F.hok b v hv).stay (fun c v' hcv q => ?_) (fun c q => by rw [upd_ne (ne_of_none q F.new)]; exact q) fun c xs q => by rw [upd_ne (ne_of_none q F.new)]; exact q
      have : ∃ u', H' c = some u' := by
        rcases hcv with rfl | z
        · exact ⟨_, hv⟩
        · exact ⟨_, z⟩
      obtain ⟨u', hu'⟩ := this
      obtain ⟨o2, q2⟩ := F.trk c u' hu'
      have := F.fly.1 c o2 q2
      rw [q] at this
      cases this
      exact st c _ q2
def tAsD (i : Nat) (C dx : Addr) (t : TS) : TS := fun De σ H => ∀ a, H a = none → t (goEnds i De) (σ.set i (some (.ref a))) (upd H a (XOD a C dx))
theorem hdd_as {i : Nat} {x n : Str} {np pos : Pos} {C D dx fI : Addr} {b₀ : Stmt} {suite : List Stmt} {rest : List ExceptHandler} {t : TS} (hg : Gl X x) (hm : X.mg x = some (.ref C)) (xC : XCls X.K C ∨ ∃ f, excI X.K C f = true) (xD : excI X.K D fI = true) (sub : PySem.W.mroIn X.K D (.ref C) = some true)
    (hN : X.N.Nodup) (hi : X.N[i]? = some n) (hx : X.env.scope.names.lookup n = some .local) (hs : ∀ a, PSs (supCx X a) (b₀ :: suite) t) (hdb : (x == ("__debug__" : Str)) = false := by decide) : HDD X (.ExceptHandler (some (.Name x np)) (some n) (b₀ :: suite) pos :: rest) D dx (tAsD i D dx t) := by
  intro pins s1 σ H1 E e s' a B H' h De I F st ff tr up ht
  obtain ⟨a0, FF⟩ := F.toFly
  have I2 := land I FF st up
  obtain ⟨oe, vs, T, oT, ts, ge, g, _⟩ := id tr
  refine wpAny_handleBy_cons (codeAny_handlers_test (ld_glob (X := supCx X a) (I2.toSup a) hg hm ?_ hdb)) (by intro q; cases q)
  refine excMatches_ownI xC xD sub I2.kIn ge g.1 (codeAny_handlers_suite_as ?_)
  refine g_flight st ff tr fun h2 k1 k2 k3 k4 => ?_
  have up2 : h.UpToSlots h2 := fun b o q hn => ⟨o.slots, k4 b o q hn⟩
  obtain ⟨oe2, vs2, T2, oT2, ts2, ge2, g2, _⟩ := id k3
  have I3 := landU I FF k1 (up.trans up2) (u := XOD a D dx) (xod_ok ge2 g2.1 g2.2.1 g2.2.2.choose_spec.choose_spec.1)
  refine store_ok (X := supCx X a) (v := .ref a) (I3.toSup a) hN hi (.inl hx) rfl (fun s4 I4 => ?_) (.inr hx)
  refine wpAny_mono (hs a pins _ _ _ (goEnds i De) I4 (ht a F.new)) (fun f s5 hf => ?_) fun _ _ z => False.elim z
  have hf' := hf.ofSup I.ok
  cases f with
  | next => obtain ⟨σ', H', I5, q⟩ := hf'; exact unbind_ok I5 hN hi hx fun s6 I6 => ⟨_, _, I6, q⟩
  | brk => obtain ⟨σ', H', I5, q⟩ := hf'; exact unbind_ok I5 hN hi hx fun s6 I6 => ⟨_, _, I6, q⟩
  | cont => obtain ⟨σ', H', I5, q⟩ := hf'; exact unbind_ok I5 hN hi hx fun s6 I6 => ⟨_, _, I6, q⟩
  | ret u => obtain ⟨v, σ', H', I5, r, q⟩ := hf'; exact unbind_ok I5 hN hi hx fun s6 I6 => ⟨v, _, _, I6, r, q⟩
end
end L2

set_option Elab.async false
set_option linter.all false
set_option maxRecDepth 100000
set_option maxHeartbeats 4000000
/-! Own rules, part 59: the attribute of an exception read; isinstance of one with data. -/
namespace L2
open PySem PySem.Spec PyProof.Rows PySem.W Builtin Builtin.ObjectAttr Builtin.Getset_descriptor
section
variable {prog : Program} {w : World} {A : Around} {E : Value → Shared → Prop} {K : PySem.W.Frag} {x D fI dx : Addr} {o : Obj} {f : Str} {v : Value}
end
/-- what is known of the class of an exception with data -/
structure XD (K : PySem.W.Frag) (D fI : Addr) (f : Str) : Prop where
  xi : excI K D fI = true
  xk : XKf K D
  no : PySem.W.findIn K (.ref D) f = some none
section
variable {X : Cx} {fI : Addr} {f : Str} {e : Expr} {pos : Pos} {ta : TE}
end
section
variable {K : PySem.W.Frag}
def rIsiZ (K : PySem.W.Frag) : List V → Hp → VK → Prop := fun xs H Q => ∃ a D dx c b, xs = [.ref a, c] ∧ H a = some (XOD a D dx) ∧ (∃ n, c = .ty n ∨ ∃ a, c = .ref a) ∧ XKf K D ∧ PySem.W.kitOne K (.ref D) (clsV c) = some b ∧ Q (.bl b) H
theorem call_isiZ {X : Cx} (hK : X.K = K) : CallR X (.builtin "isinstance") (rIsiZ K) := by
  subst hK
  intro pins s σ H xs us Q I r h
  obtain ⟨a, D, dx, c, b, rfl, ha, ⟨n, hc⟩, G, hk, q⟩ := h
  obtain ⟨u, u2, rfl, ru, ru2⟩ := vals2 r
  have e : u2 = clsV c := by
    rcases hc with rfl | ⟨a, rfl⟩
    · exact ru2
    · exact ru2
  subst e
  cases (show u = Value.ref a from ru)
  obtain ⟨⟨o, q1, q2, _⟩, _, _⟩ := (show ObjOk X.prog X.w H s.heap a (XOD a D dx) from I.hok a _ ha)
  exact kia_one (exc_kit G) I.kIn ⟨o, q1, q2⟩ hk (fun z => nomatch z) fun tk => ⟨.bl b, H, I.tok _, rfl, q⟩
end
end L2

set_option Elab.async false
set_option linter.all false
set_option maxRecDepth 100000
set_option maxHeartbeats 4000000
/-! Own rules, part 60: exceptions that bear a list of numbers, over data. -/
namespace L2
open PySem PySem.Spec PyProof.Rows
/-- an exception with a list of its own, by its class -/
structure Xd where
  D : Addr
  xs : List Int
/-- the exception's dict at dx holds the list at l -/
def Bears (H : Hp) (dx l : Addr) (xs : List Int) : Prop := H dx = some (.xd [("left", .ref l)]) ∧ H l = some (.lst (xs.map V.int))
section
variable {c : Ct}
instance : Rp c Xd where
  tree := fun H v x as => ∃ a dx l, v = .ref a ∧ H a = some (XOD a x.D dx) ∧ Bears H dx l x.xs ∧ as = [l]
  isl := fun h b hb => by
    obtain ⟨a, dx, l, _, _, h2, rfl⟩ := h
    cases (show b = l by simpa using hb)
    exact ⟨_, h2.2, rfl⟩
  frame := fun h k => by
    obtain ⟨a, dx, l, e, h1, h2, rfl⟩ := h
    exact ⟨a, dx, l, e, k _ _ h1 (.inl rfl), ⟨k _ _ h2.1 (.inl rfl), k _ _ h2.2 (.inr (by simp))⟩, rfl⟩
/-- a def's promise, one that may raise an exception with data -/
def spD (c : Ct) {β : Type} [Rp c β] (pre : List (Ent c) → (β → Prop) → (Addr → Prop) → (Addr → List Int → Prop) → Prop) : Sp := fun vs H Q E => ∃ es R X Y, pre es R X Y ∧ Args H vs es ∧ (∀ x v H' as, R x → Same H H' → tree c H' v x as → as.Nodup → (∀ a ∈ as, H a = none) → Q v H') ∧
  (∀ C H', X C → Same H H' → E (.ref C) none H') ∧ ∀ C xs dx l H', Y C xs → Same H H' → Bears H' dx l xs → H l = none → E (.ref C) (some dx) H'
theorem spD_len {β : Type} [Rp c β] {pre : List (Ent c) → (β → Prop) → (Addr → Prop) → (Addr → List Int → Prop) → Prop} {vs : List V} {H : Hp} {Q : VK} {E : XK} (h : spD c pre vs H Q E) {n : Nat} (hp : ∀ es R X Y, pre es R X Y → es.length = n) : vs.length = n := by
  obtain ⟨es, R, X, Y, p, ha, _⟩ := h
  have := (args_start (N := vs.map fun _ => "") ha).len
  simp [start] at this
  rw [← hp es R X Y p]; omega
structure XpD (P G : St → Hp → Prop) (E : XK) (XX : Addr → Prop) (YY : Addr → List Int → Prop) : Prop extends Xp P G E XX where
  ey : ∀ {C xs dx l σ H H'}, YY C xs → P σ H → Same H H' → Bears H' dx l xs → H l = none → E (.ref C) (some dx) H'
variable {env : List (Ent c)} {m : Md} {ta tb te : TE} {tc : TT} {t u : TS} {α β γ : Type} [Rp c α] [Rp c β] [Rp c γ] {R : Rs c β} {P G : St → Hp → Prop} {E : XK} {XX : Addr → Prop} {YY : Addr → List Int → Prop}
theorem wgD_call {pre : List (Ent c) → (α → Prop) → (Addr → Prop) → (Addr → List Int → Prop) → Prop} {t : TA} {R : α → Prop} (xp : XpD P G E XX YY) (h : WA env t fun es => ∃ X Y, pre es R X Y ∧ (∀ C, X C → XX C) ∧ ∀ C xs, Y C xs → YY C xs) : WE m env (tG P (tCallG (spD c pre) [] E G t)) R := fun _ _ _ σ H S Q k hP =>
  h S _ fun es vs H1 r s a => by
    obtain ⟨X, Y, hp, hX, hY⟩ := r
    rw [List.append_nil]
    exact ⟨xp.go (xp.same hP s), es, R, X, Y, hp, a, fun x v H' as rx s2 t nd n => k x v H' as rx (s.trans s2) t (Md.fresh S nd fun d hd => s.free (n d hd)), fun C H' hC s2 => xp.ex (hX C hC) (xp.same hP (s.trans s2)),
      fun C xs dx l H' hC s2 b n => xp.ey (hY C xs hC) (xp.same hP s) s2 b n⟩
variable {H0 : Hp}
theorem xpD_def (h : ∀ C H', XX C → Same H0 H' → E (.ref C) none H') (hy : ∀ C xs dx l H', YY C xs → Same H0 H' → Bears H' dx l xs → H0 l = none → E (.ref C) (some dx) H') : XpD (PD H0) (fun _ H => Dom H0 H) E XX YY :=
  ⟨xp_def h, fun hC p s b n => hy _ _ _ _ _ hC (Same.trans p s) b (Same.free p n)⟩
theorem fnD_data {pre : List (Ent c) → (β → Prop) → (Addr → Prop) → (Addr → List Int → Prop) → Prop} {N : List Str} {t : TS} {vs : List V} {H : Hp} {Q : VK} {E : XK} (h : spD c pre vs H Q E)
    (hb : ∀ es R X Y, pre es R X Y → XpD (PD H) (fun _ H' => Dom H H') E X Y → WSx H (es.map Ent.bor ++ List.replicate (N.length - es.length) .no) t ({ nx := fun _ => False, rt := R } : Rs c β)) : t { nx := fun _ H' => Q .non H', rt := Q } (start N vs) H := by
  obtain ⟨es, R, X, Y, hp, ha, k, kx, ky⟩ := h
  have hl : es.length = vs.length := by have := (args_start (N := vs.map fun _ => "") ha).len; simp [start] at this; omega
  have st := args_start (N := N) ha
  rw [← hl] at st
  refine hb es R X Y hp (xpD_def kx ky) st ⟨fun _ _ _ _ z => z.elim, fun _ _ _ _ z => z.elim, fun _ _ _ _ z => z.elim, fun x v H' as r kp t nd up => k x v H' as r kp.to_same t nd fun a ha => ?_⟩
  rcases up a ha with z | z
  · exact z
  · simp at z
/-! ### made and raised -/
/-- the promise of an __init__ that keeps a copy of the list -/
def sp_keepl (c : Ct) (C : Addr) : Sp := fun vs H Q _ => ∃ (a : Addr) (v : V) (xs : List Int) (as : List Addr), vs = [.ref a, v] ∧ H a = some (XM a C) ∧ tree c H v xs as ∧ ∀ dx l, H l = none → H dx = none → l ≠ dx → Q .non (upd (upd (upd H l (.lst (xs.map V.int))) dx (.xd [("left", .ref l)])) a (XN a C dx))
theorem keepl_body {C : Addr} {H : Hp} {Q : VK} {E : XK} {vs : List V} {tx : Str} (h : sp_keepl c C vs H Q E) :
    tSeq (tDrop (tXI C (tCons (tVar 0) (tCons (tC (.str tx)) tNil)))) (sXFld C "left" (tVar 0) (tCB (rListOf c.K) (tCons (tVar 1) tNil))) { nx := fun _ H' => Q .non H', rt := Q } (start ["self", "left"] vs) H := by
  obtain ⟨a, v, xs, as, rfl, ha, t, k⟩ := h
  obtain ⟨p, ws, as', rfl, hp, tr, rfl⟩ := t
  have hw := tr.ints
  subst hw
  refine ⟨.ref a, rfl, a, .str tx, rfl, ha, .ref p, rfl, p, _, rfl, .inl (SqL.of hp), fun l hl => ⟨.ref a, rfl, a, rfl, ?_, fun dx hdx hne => ?_⟩⟩
  · have : l ≠ a := fun z => by rw [z, ha] at hl; cases hl
    rw [upd_ne (Ne.symm this)]; exact ha
  · have hld : l ≠ dx := fun z => by rw [← z, upd_same] at hdx; cases hdx
    rw [upd_ne (Ne.symm hld)] at hdx
    exact k dx l hl hdx hld
theorem keepl_len {C : Addr} {vs : List V} {H : Hp} {Q : VK} {E : XK} (h : sp_keepl c C vs H Q E) : vs.length = 2 := by
  obtain ⟨a, v, xs, as, rfl, _⟩ := h
  rfl
abbrev GD (C : Addr) (E : XK) (H0 : Hp) : Addr → St → Hp → Prop := fun a _ H => Dom H0 H ∧ H0 a = none ∧ ∃ dx, H a = some (XN a C dx) ∧ E (.ref C) (some dx) (del H a)
theorem made_defE {P : Program} {w : World} {K : PySem.W.Frag} {mg : Str → Option Value} {base : Heap} {N : List Str} {qual : Str} {scope : Scope} {f : Addr} {cdv : Value} {A : Around} {outer : List Env} {s0 : Shared} {H0 : Hp} {E : XK} {C : Addr} :
    MadeI (cxOf (CXD P w) P w K mg base N qual scope f cdv A outer s0 H0 E) C (GD C E H0) := fun _ _ _ _ _ _ I _ g => by
  obtain ⟨g1, g2, dx, hN, ge⟩ := g
  exact leave_initedD I hN g1 g2 ge
theorem wx_raiseD {C : Addr} (xp : XpD (PD H0) (fun _ H => Dom H0 H) E XX YY) (h : WE .any env te fun xs : List Int => YY C xs) : WSx H0 env (tRaiseI C (tCons te tNil) (sp_keepl c C) (GD C E H0)) R := fun _ _ _ _ S _ =>
  h S _ fun xs v H1 as hC s t _ => ⟨by show 1 ≤ sizeLine; decide, fun a ha => ⟨a, v, xs, as, rfl, upd_same, tree_same t (Same.new ha), fun dx l hl hdx hld => by
    have s0 : Same H0 H1 := Same.trans S.kp.to_same s
    have la : l ≠ a := fun z => by rw [z, upd_same] at hl; cases hl
    have da : dx ≠ a := fun z => by rw [z, upd_same] at hdx; cases hdx
    rw [upd_ne la] at hl
    rw [upd_ne da] at hdx
    have s1 : Same H1 (del (upd (upd (upd (upd H1 a (XM a C)) l (HO.lst (List.map V.int xs))) dx (HO.xd [("left", V.ref l)])) a (XN a C dx)) a) := fun b o q => by
      have hb : b ≠ a := fun z => by rw [z, ha] at q; cases q
      have hb1 : b ≠ l := fun z => by rw [z, hl] at q; cases q
      have hb2 : b ≠ dx := fun z => by rw [z, hdx] at q; cases q
      rw [del_ne hb, upd_ne hb, upd_ne hb2, upd_ne hb1, upd_ne hb]
      exact q
    refine ⟨rfl, a, dx, rfl, upd_same, fun b u q => ?_, Same.free s0 ha, dx, upd_same, xp.ey (σ := []) hC s0 s1 ⟨?_, ?_⟩ hl⟩
    · have z := s0 b u q
      have hb : b ≠ a := fun y => by rw [y, ha] at z; cases z
      have := s1 b u z
      rw [del_ne hb] at this
      exact ⟨u, this⟩
    · rw [del_ne da, upd_ne da, upd_same]
    · rw [del_ne la, upd_ne la, upd_ne hld, upd_same]⟩⟩
/-! ### try -/
/-! ### reading it -/
end
end L2

set_option Elab.async false
set_option linter.all false
set_option maxRecDepth 100000
set_option maxHeartbeats 4000000
/-! Own rules, part 61: lists within a list handed to a def changed in it; list.count. -/
namespace L2
open PySem PySem.Spec PyProof.Rows
section
variable {X : Cx} {K : PySem.W.Frag}
end
section
variable {c : Ct} {env : List (Ent c)} {m : Md} {ta tb te : TE} {tc : TT} {t u : TS} {α β γ : Type} [Rp c α] [Rp c β] [Rp c γ] {v0 : V} {R : List (Ent c) → Prop}
/-- a statement that binds no name -/
def WU (env : List (Ent c)) (t : TS) (R : List (Ent c) → Prop) : Prop := ∀ ⦃H0 : Hp⦄ ⦃F0 : List Addr⦄ ⦃Fs : Nat → List Addr⦄ ⦃σ : St⦄ ⦃H : Hp⦄, Sta H0 F0 env Fs σ H → ∀ D : Ends, (∀ e Fs' H', R e → Sta H0 F0 e Fs' σ H' → D.nx σ H') → t D σ H
theorem ws_u {R : Rs c β} (h : WU env t R.nx) : WS env t R := fun _ _ _ _ _ D S C => h S D fun e Fs' H' r S' => C.nx e Fs' _ H' r S'
theorem wu_pin {i : Nat} {w : γ} (hi : env[i]? = some (.ow (⟨w⟩ : Pin v0 γ))) (h : WU (env.set i (.ow w)) t fun e => ∃ w' : γ, e[i]? = some (.ow w') ∧ R (e.set i (.ow (⟨w'⟩ : Pin v0 γ)))) : WU env t R := fun H0 F0 Fs σ H S D k => by
  obtain ⟨S', hv⟩ := S.unpin hi
  exact h S' D fun e Fs' H' r S2 => by
    obtain ⟨w', h1, r⟩ := r
    exact k _ _ _ r (S2.pin h1 hv)
end
end L2

set_option Elab.async false
set_option linter.all false
set_option maxRecDepth 100000
set_option maxHeartbeats 4000000
/-! Own rules, part 62: orders walked or refused. -/
namespace L2
open PySem PySem.Spec PyProof.Rows
/-- the rows, each sorted, are the roads of each place just where the orders are good -/
theorem good_iff {n : Nat} {rs : List (Int × Int)} {rows ys : List (List Int)} (hl : ys.length = rows.length) (hs : ∀ (j : Nat) (ms : List Int), ys[j]? = some ms → ∃ row, rows[j]? = some row ∧ ms.Perm row ∧ ms.Pairwise (· ≤ ·)) : ys = (rng n).map (outsD rs) ↔ Good n rs rows := by
  constructor
  · intro e
    subst e
    refine ⟨by rw [← hl, List.length_map, rng_len], fun j row hj => ?_⟩
    have hjl := (List.getElem?_eq_some_iff.mp hj).1
    rw [← hl, List.length_map, rng_len] at hjl
    obtain ⟨row', h1, h2, _⟩ := hs j (outsD rs (j : Int)) (by rw [List.getElem?_map, rng_get hjl]; rfl)
    rw [hj] at h1
    cases h1
    exact h2.symm
  · intro g
    refine List.ext_getElem? fun j => ?_
    by_cases hj : j < n
    · rw [List.getElem?_map, rng_get hj]
      have hjl : j < ys.length := by rw [hl, g.1]; exact hj
      obtain ⟨row, h1, h2, h3⟩ := hs j _ (List.getElem?_eq_getElem hjl)
      rw [List.getElem?_eq_getElem hjl]
      show _ = some _
      rw [perm_same (h2.trans (g.2 j row h1)) h3 ((rng_sorted _).sublist List.filter_sublist)]
    · rw [List.getElem?_eq_none (by rw [hl, g.1]; omega), List.getElem?_eq_none (by rw [List.length_map, rng_len]; omega)]
/-- the roads that a walk leaves out -/
def leftD (rs : List (Int × Int)) (path : List Int) : List Int := (rng rs.length).filter fun r => !decide (r ∈ path)
section
variable {c : Ct}
def p_xneedorders (no : Addr) : List (Ent c) → (Unit → Prop) → (Addr → Prop) → Prop := fun es R X => ∃ (N : NetD) (rows : List (List Int)), es = [.sh N, .sh rows] ∧ (1 ≤ N.n ∧ N.n ≤ 8) ∧ N.rs.length ≤ 24 ∧ rows.length ≤ 100 ∧ (∀ row ∈ rows, row.length < 64) ∧ (Good N.n.toNat N.rs rows → R ()) ∧ (¬ Good N.n.toNat N.rs rows → X no)
def p_xneedeven (ne : Addr) : List (Ent c) → (Unit → Prop) → (Addr → Prop) → Prop := fun es R X => ∃ N : NetD, es = [.sh N] ∧ (1 ≤ N.n ∧ N.n ≤ 8) ∧ N.rs.length ≤ 24 ∧ (oddD N.n.toNat N.rs = [] → R ()) ∧ (oddD N.n.toNat N.rs ≠ [] → X ne)
/-- what comes of a walk by orders: which way it ends -/
structure ByO (N : NetD) (st : Int) (rows : List (List Int)) (r0 r1 r2 : Prop) (r3 r4 : List Int → Prop) : Prop where
  np : ¬ (0 ≤ st ∧ st < N.n) → r0
  no : (0 ≤ st ∧ st < N.n) → ¬ Good N.n.toNat N.rs rows → r1
  ne : (0 ≤ st ∧ st < N.n) → Good N.n.toNat N.rs rows → oddD N.n.toNat N.rs ≠ [] → r2
  nw : (0 ≤ st ∧ st < N.n) → Good N.n.toNat N.rs rows → oddD N.n.toNat N.rs = [] → leftD N.rs (walkD N.rs rows st) ≠ [] → r3 (leftD N.rs (walkD N.rs rows st))
  ok : (0 ≤ st ∧ st < N.n) → Good N.n.toNat N.rs rows → oddD N.n.toNat N.rs = [] → leftD N.rs (walkD N.rs rows st) = [] → r4 (walkD N.rs rows st)
/-- what is asked of what is handed in -/
def ByI (N : NetD) (rows : List (List Int)) : Prop := (1 ≤ N.n ∧ N.n ≤ 8) ∧ InNet N.n N.rs ∧ N.rs.length ≤ 24 ∧ rows.length ≤ 100 ∧ ∀ row ∈ rows, row.length < 64
def p_byD (np no ne nw : Addr) : List (Ent c) → (List Int → Prop) → (Addr → Prop) → (Addr → List Int → Prop) → Prop := fun es R X Y => ∃ (N : NetD) (st : Int) (rows : List (List Int)), es = [.sh N, .sh st, .sh rows] ∧ ByI N rows ∧ ByO N st rows (X np) (X no) (X ne) (Y nw) R
end
/-! ### the walk with counts -/
/-- what is left of the rows -/
structure WkT (rs : List (Int × Int)) (rows : List (List Int)) (st : Int) (tk : List Int) (h : Int) (p : List Int) (w : List (List Int)) : Prop where
  len : w.length = rows.length
  at_ : ∀ (j : Nat) (t : Int) (row : List Int), tk[j]? = some t → rows[j]? = some row → w[j]? = some (row.drop t.toNat)
  go : ∀ path2 w' q, WkR rs w h path2 w' q → WkR rs rows st (p ++ path2) w' q
end L2

set_option Elab.async false
set_option linter.all false
set_option maxRecDepth 100000
set_option maxHeartbeats 4000000
/-! Own rules, part 63: a loop over a range while an exception is handled. -/
namespace L2
open PySem PySem.Spec PyProof.Rows
/-- what is handled has no context -/
def Hdl (A : Around) (h : Heap) (a : Addr) (oe : Obj) : Prop := A.handled = some (.ref a) ∧ h.get? a = some oe ∧ ∃ vs, oe.data = .fields vs ∧ vs[2]? = some .none
section
variable {prog : Program} {w : World} {A : Around} {E : Value → Shared → Prop} {s : Shared}
end
section
variable {X : Cx} {tg : Expr}
end
end L2

set_option Elab.async false
set_option linter.all false
set_option maxRecDepth 100000
set_option maxHeartbeats 4000000
/-! Own rules, part 64: an own def with loops called in an except suite. -/
namespace L2
open PySem PySem.Spec PyProof.Rows
/-- what is handled, at a call: no name of the program's data, no frame -/
def Hnd (A : Around) (outer : List Env) (s : Shared) (H : Hp) : Prop := ∃ a oe, Hdl A s.heap a oe ∧ H a = none ∧ a ∉ frs outer
structure FnOkH (P : Program) (w : World) (K : PySem.W.Frag) (mg : Str → Option Value) (base : Heap) (k : Nat) (f : Addr) (fd : FuncData) (ps : List Str) (sp : Sp) : Prop where
  len : ∀ vs H Q E, sp vs H Q E → vs.length = ps.length
  run : ∀ (A : Around) (outer : List Env) (s : Shared) (H : Hp) (args : PySem.Args) (us : List Value) (vs : List V) (Q : VK), RoomS k A → Env0 P w K mg base A outer s H → Hnd A outer s H → BindsTo s fd args (ps.zip us) → Vals vs us → sp vs H Q E0 →
    codeAny (model P w) A (.call (.ref f) args) (CR CX0 outer P w H s Q E0) s
section
variable {P : Program} {w : World} {K : PySem.W.Frag} {mg : Str → Option Value} {base : Heap}
end
section
variable {X : Cx}
end
section
variable {X : Cx} {k : Nat} {f a : Addr} {oe : Obj} {vs0 : Array Value} {fd : FuncData} {ps : List Str} {sp : Sp} {x : Str} {p pos : Pos} {e : Expr} {es : List Expr} {t : TA}
end
section
variable {c : Ct} {env : List (Ent c)} {β : Type} [Rp c β] {R : Rs c β}
end
end L2

set_option Elab.async false
set_option linter.all false
set_option maxRecDepth 100000
set_option maxHeartbeats 4000000
/-! Last roads decide: pure facts. -/
namespace L2
open PySem PySem.Spec PyProof.Rows
section
variable {rs : List (Int × Int)} {n : Nat} {rows : List (List Int)} {st : Int}
/-- even nets -/
theorem odd_of_counts (h : ∀ p : Int, rs.countP (fun e => decide (e.1 = p)) = rs.countP fun e => decide (e.2 = p)) : oddD n rs = [] := List.filter_eq_nil_iff.mpr fun p _ => by
  rw [← cO_rng, ← cI_rng, cO_pairs, cI_pairs, h p]
  simp
theorem IsR.counts {cs : List Int} (h : IsR rs cs) (p : Int) : rs.countP (fun e => decide (e.1 = p)) = rs.countP fun e => decide (e.2 = p) := by
  rw [← cO_pairs, ← cI_pairs, cO_rng, cI_rng]
  exact h.evenO p
end
section
variable {c : Ct}
end
end L2

set_option Elab.async false
set_option linter.all false
set_option maxRecDepth 100000
set_option maxHeartbeats 4000000
/-! Own rules, part 66: exceptions of either kind; a def that raises behind a change of its argument. -/
namespace L2
open PySem PySem.Spec PyProof.Rows
/-! ### an exception of either kind -/
structure Xg where
  D : Addr
def XEi (H : Hp) (a D : Addr) : Prop := H a = some (XO a D) ∨ ∃ dx, H a = some (XOD a D dx)
section
variable {K : PySem.W.Frag}
def rIsiG (K : PySem.W.Frag) : List V → Hp → VK → Prop := fun xs H Q => ∃ a D c b, xs = [.ref a, c] ∧ XEi H a D ∧ (∃ n, c = .ty n ∨ ∃ a, c = .ref a) ∧ XKf K D ∧ PySem.W.kitOne K (.ref D) (clsV c) = some b ∧ Q (.bl b) H
theorem call_isiG {X : Cx} (hK : X.K = K) : CallR X (.builtin "isinstance") (rIsiG K) := by
  subst hK
  intro pins s σ H xs us Q I r h
  obtain ⟨a, D, c, b, rfl, ha, hc, G, hk, q⟩ := h
  rcases ha with ha | ⟨dx, ha⟩
  · exact call_isiY rfl pins s σ H _ us Q I r ⟨a, D, c, b, rfl, ha, hc, G, hk, q⟩
  · exact call_isiZ rfl pins s σ H _ us Q I r ⟨a, D, dx, c, b, rfl, ha, hc, G, hk, q⟩
end
section
variable {c : Ct}
instance : Rp c Xg where
  tree := fun H v x as => ∃ a, v = .ref a ∧ XEi H a x.D ∧ as = []
  isl := fun h a ha => by
    obtain ⟨_, _, _, z⟩ := h
    rw [z] at ha; simp at ha
  frame := fun h k => by
    obtain ⟨a, e, s, z⟩ := h
    exact ⟨a, e, s.imp (fun s => k _ _ s (.inl rfl)) fun ⟨dx, s⟩ => ⟨dx, k _ _ s (.inl rfl)⟩, z⟩
instance : Flat c Xg := ⟨fun h => let ⟨_, _, _, z⟩ := h; z⟩
variable {env : List (Ent c)} {m : Md} {ta tb te : TE} {tc : TT} {t u : TS} {α β γ : Type} [Rp c α] [Rp c β] [Rp c γ]
theorem we_isiG {cv : V} {R : Bool → Prop} (hcv : ∃ n, cv = .ty n ∨ ∃ a, cv = .ref a) (h : WE .any env ta fun x : Xg => XKf c.K x.D ∧ ∃ b, PySem.W.kitOne c.K (.ref x.D) (clsV cv) = some b ∧ R b) : WE m env (tCB (rIsiG c.K) (tCons ta (tCons (tC cv) tNil))) R :=
  fun _ _ _ _ _ S Q k => h S _ fun x v H1 as ra s1 t1 _ => by
    obtain ⟨a, rfl, ha, rfl⟩ := t1
    obtain ⟨G, b, hb, r⟩ := ra
    exact ⟨a, x.D, cv, b, rfl, ha, hcv, G, hb, k _ _ _ [] r s1 ⟨rfl, rfl⟩ Md.nil⟩
theorem we_gX {R : Xg → Prop} (h : WE .any env te fun x : Xv => R ⟨x.D⟩) : WE .any env te R := fun _ _ _ _ _ S Q k => h S _ fun x v H1 as r s t _ => by
  obtain ⟨a, rfl, ha, rfl⟩ := t
  exact k _ _ _ [] r s ⟨a, rfl, .inl ha, rfl⟩ trivial
theorem we_gD {R : Xg → Prop} (h : WE .any env te fun x : Xd => R ⟨x.D⟩) : WE .any env te R := fun _ _ _ _ _ S Q k => h S _ fun x v H1 as r s t _ => by
  obtain ⟨a, dx, l, rfl, ha, _, rfl⟩ := t
  exact k _ _ _ [] r s ⟨a, rfl, .inr ⟨dx, ha⟩, rfl⟩ trivial
end
/-! ### an exception with data passes on -/
section
variable {P : Program} {w : World} {K : PySem.W.Frag} {mg : Str → Option Value} {base : Heap} {N : List Str} {qual : Str} {scope : Scope} {f : Addr} {cdv : Value} {A : Around} {outer : List Env} {s0 : Shared} {H0 : Hp} {E : XK}
theorem leave_onD {pins : List (Addr × Obj)} {σ : St} {H : Hp} {s s' : Shared} {e : Value} {a C dx : Addr} {B : Heap} {H' : Hp}
    (I : Inv (cxOf (CXD P w) P w K mg base N qual scope f cdv A outer s0 H0 E) pins σ H s) (dom : Dom H0 H) (F : FlyD P w (cxOf (CXD P w) P w K mg base N qual scope f cdv A outer s0 H0 E).stack H s E e s' a C dx B H') :
    (cxOf (CXD P w) P w K mg base N qual scope f cdv A outer s0 H0 E).xe e s' := by
  obtain ⟨ie, os, bare, un, hok, fst, fhen, fff, ftr, trk, old, dom', new, ok⟩ := F
  subst ie
  have hL : frs (cxOf (CXD P w) P w K mg base N qual scope f cdv A outer s0 H0 E).stack = s0.heap.objs.size :: frs outer := frs_cons rfl
  show wpAny _ _ (leaving _ (.ref a)) _ _ s'
  unfold leaving
  refine wpAny_bind (g_next (B := B) (outer := outer) (L := s0.heap.objs.size) (gn_st C dx) I.ok.frames fff rfl ftr fst fhen fun h1 k1 k2 k3 k4 => ?_)
  refine g_flight k1 k2 k3 fun h'' x1 x2 x3 x4 => .inr ?_
  have up : s'.heap.UpToSlots h'' := fun b o q hn => by
    obtain ⟨sl, q1⟩ := k4 b o q hn
    exact ⟨sl, x4 b _ q1 hn⟩
  have notin : ∀ {b : Addr} {o : Obj}, s0.heap.get? b = some o → b ∉ frs outer → b ∉ frs (cxOf (CXD P w) P w K mg base N qual scope f cdv A outer s0 H0 E).stack := fun {b o} q n z => by
    rw [hL] at z
    rcases List.mem_cons.mp z with y | y
    · exact absurd (Heap.lt_size q) (by rw [y]; exact Nat.lt_irrefl _)
    · exact n y
  have no : ∀ b : Addr, b ∉ ([] : List Addr) := fun b z => absurd z (List.not_mem_nil)
  have slot' : ∀ {b : Addr} {o : Obj}, b ∈ frs (cxOf (CXD P w) P w K mg base N qual scope f cdv A outer s0 H0 E).stack → s'.heap.get? b = some o → ∃ sl, h''.get? b = some { o with slots := sl } := fun {b o} hb q => up b o q (noFields fff hb q)
  refine ⟨a, C, dx, B, H', ⟨rfl, os.trans I.os, bare, ⟨fun b o q n hb _ => ?_, fun b o q n hb _ => ?_, fun b o q n _ => ?_, fun b o q _ => ?_, fun b xs q => un.tups b xs (I.base.tups b xs q), fun b o xs q => un.frzs b o xs (I.base.frzs b o xs q), fun b ps q => ?_⟩, ?_, x1, fhen, x2.2.2, x3, trk, fun b o q n hb => ?_, fun b u hu => ?_, new, ok⟩⟩
  · exact x1 b o (old b o (I.base.keep b o q n hb (no b)) (I.base.free b o q n (no b)) (notin q hb))
  · obtain ⟨sl, q1⟩ := I.base.slot b o q n hb (no b)
    have hb' : b ∈ frs (cxOf (CXD P w) P w K mg base N qual scope f cdv A outer s0 H0 E).stack := by rw [hL]; exact List.mem_cons_of_mem _ hb
    obtain ⟨sl2, q2⟩ := un.slot b _ q1 (I.base.free b o q n (no b)) hb' (no b)
    obtain ⟨sl3, q3⟩ := slot' hb' q2
    exact ⟨sl3, q3⟩
  · obtain ⟨o1, q1⟩ := I.base.there b o q (no b)
    exact un.free b o1 q1 (I.base.free b o q n (no b)) (no b)
  · obtain ⟨o1, q1⟩ := I.base.there b o q (no b)
    cases hb : H b with
    | none =>
      by_cases hs : b ∈ frs (cxOf (CXD P w) P w K mg base N qual scope f cdv A outer s0 H0 E).stack
      · obtain ⟨sl2, q2⟩ := un.slot b _ q1 hb hs (no b)
        obtain ⟨sl3, q3⟩ := slot' hs q2
        exact ⟨_, q3⟩
      · exact ⟨_, x1 b o1 (old b o1 q1 hb hs)⟩
    | some u =>
      obtain ⟨u', hu⟩ := dom' b u hb
      obtain ⟨o2, q2⟩ := trk b u' hu
      exact ⟨_, x1 b o2 q2⟩
  · obtain ⟨m1, e1⟩ := I.base.tbls b ps q
    obtain ⟨m2, e2⟩ := un.tbls b _ e1
    exact ⟨m1 ++ m2, by rw [e2, Array.append_assoc]⟩
  · refine hok.on fun b u o hu q => ?_
    obtain ⟨o2, q2⟩ := trk b u hu
    have := fst b o2 q2
    rw [q] at this
    cases this
    exact x1 b o q2
  · exact old b o (I.base.keep b o q n hb (no b)) (I.base.free b o q n (no b)) (notin q hb)
  · obtain ⟨u1, h1⟩ := dom b u hu
    exact dom' b u1 h1
theorem passG_defDD : PassesG (CXD P w) (cxOf (CXD P w) P w K mg base N qual scope f cdv A outer s0 H0 E) E (fun _ H => Dom H0 H) := fun pins σ H s e s' I g hx => by
  rcases hx with hx | ⟨a, C, dx, B, H', F⟩
  · exact passG_defD pins σ H s e s' I g hx
  · exact leave_onD I g F
end
/-! ### lists that share their items -/
def Md.shy : Md → Prop
  | .mv _ => False
  | _ => True
section
variable {c : Ct} {env : List (Ent c)} {m : Md} {ta tb te : TE} {tc : TT} {t u : TS} {α β γ : Type} [Rp c α] [Rp c β] [Rp c γ] {v0 : V}
theorem Trees.takeE {H : Hp} : ∀ (n : Nat) {vs : List V} {xs : List α} {as : List Addr}, Trees c H vs xs as → ∃ bs, Trees c H (vs.take n) (xs.take n) bs ∧ bs.Sublist as
  | 0, _, _, _, _ => ⟨[], rfl, List.nil_sublist _⟩
  | _ + 1, [], [], _, h => ⟨[], rfl, List.nil_sublist _⟩
  | n + 1, _ :: _, _ :: _, _, h => by
    obtain ⟨a1, a2, t, r, rfl⟩ := h
    obtain ⟨bs, hb, hs⟩ := Trees.takeE n r
    exact ⟨a1 ++ bs, ⟨a1, bs, t, hb, rfl⟩, (List.Sublist.refl _).append hs⟩
theorem Trees.dropE {H : Hp} : ∀ (n : Nat) {vs : List V} {xs : List α} {as : List Addr}, Trees c H vs xs as → ∃ bs, Trees c H (vs.drop n) (xs.drop n) bs ∧ bs.Sublist as
  | 0, _, _, as, h => ⟨as, h, List.Sublist.refl _⟩
  | _ + 1, [], [], _, h => ⟨[], rfl, List.nil_sublist _⟩
  | n + 1, _ :: _, _ :: _, _, h => by
    obtain ⟨a1, a2, t, r, rfl⟩ := h
    obtain ⟨bs, hb, hs⟩ := Trees.dropE n r
    exact ⟨bs, hb, hs.trans (List.sublist_append_right _ _)⟩
theorem list_shy {H0 H H1 : Hp} {F0 : List Addr} {Fs : Nat → List Addr} {σ : St} {Q : VK} {R : List α → Prop} (hm : m.shy) (S : Sta H0 F0 env Fs σ H) (k : ∀ x v H' as, R x → Same H H' → tree c H' v x as → m.ok H Fs as → Q v H') (s : Same H H1)
    {p : Addr} (hp : H1 p = none) {vs : List V} {xs : List α} {as : List Addr} (t : Trees c H1 vs xs as) (o : m.ok H Fs as) (r : R xs) : Q (.ref p) (upd H1 p (.lst vs)) := by
  have sp : Same H1 (upd H1 p (.lst vs)) := Same.new hp
  refine k xs _ _ (p :: as) r (s.trans sp) ⟨p, vs, as, rfl, upd_same, t.same sp, rfl⟩ ?_
  cases m with
  | any => trivial
  | sh =>
    intro a ha j
    rcases List.mem_cons.mp ha with z | z
    · subst z; exact S.new (s.free hp) j
    · exact o a z j
  | mv T => exact hm.elim
theorem Md.app {H : Hp} {Fs : Nat → List Addr} {as bs : List Addr} (hm : m.shy) (h1 : m.ok H Fs as) (h2 : m.ok H Fs bs) : m.ok H Fs (as ++ bs) := by
  cases m with
  | any => trivial
  | sh =>
    intro a ha
    rcases List.mem_append.mp ha with z | z
    · exact h1 a z
    · exact h2 a z
  | mv T => exact hm.elim
theorem we_catA {R : List α → Prop} (hm : m.shy) (h : WE m env ta fun xs : List α => WE m env tb fun ys : List α => xs.length + ys.length ≤ 1000 ∧ R (xs ++ ys)) : WE m env (tOp rCat ta tb) R :=
  fun _ _ _ _ _ S Q k => h S _ fun xs v H1 as ra s1 t1 o1 => ra (S.same s1) _ fun ys u H2 bs rb s2 t2 o2 => by
    obtain ⟨a, vs, as', rfl, ha, tr, rfl⟩ := tree_same t1 s2
    obtain ⟨b, ws, bs', rfl, hb, tr2, rfl⟩ := t2
    refine ⟨a, b, vs, ws, rfl, rfl, ha, hb, ?_, fun p hp => list_shy hm S k (s1.trans s2) hp (tr.append tr2) (Md.app hm (Md.sub o1 (List.sublist_cons_self _ _)) (Md.later s1 (Md.sub o2 (List.sublist_cons_self _ _)))) rb.2⟩
    rw [tr.len, tr2.len]
    exact Nat.le_of_lt (small1000 rb.1)
theorem we_sliceA {tl th : TO} {R : List α → Prop} (hm : m.shy) (h : WE m env ta fun xs : List α => WO env tl fun lo => WO env th fun hi => R (cutL xs lo hi)) : WE m env (tSl (rSlL c.K) ta tl th) R :=
  fun _ _ _ _ _ S Q k => h S _ fun xs v H1 as ra s1 t1 o1 => ra (S.same s1) _ fun lo H2 rb s2 => rb (S.same (s1.trans s2)) _ fun hi H3 rd s3 => by
    obtain ⟨a, vs, as', rfl, ha, tr, rfl⟩ := tree_same t1 (s2.trans s3)
    refine ⟨a, vs, rfl, SqL.of ha, fun p hp => ?_⟩
    obtain ⟨b1, h1, h2⟩ := tr.dropE (HT.sIx xs.length 0 lo)
    obtain ⟨b2, h3, h4⟩ := h1.takeE (HT.sIx xs.length xs.length hi - HT.sIx xs.length 0 lo)
    have e : Trees c H3 (cutV vs lo hi) (cutL xs lo hi) b2 := by
      unfold cutV cutL
      rw [tr.len]
      exact h3
    exact list_shy hm S k ((s1.trans s2).trans s3) hp e (Md.sub o1 ((h4.trans h2).trans (List.sublist_cons_self _ _))) rd
/-! ### roads laid -/
theorem Sta.lay {H0 H H3 : Hp} {F0 : List Addr} {Fs : Nat → List Addr} {σ : St} (S : Sta H0 F0 env Fs σ H) {i : Nat} {N : NetD} (hx : env[i]? = some (.ow N)) {p r : Addr} {a b : Int} (hσ : σ[i]? = some (some (.ref p))) (hN : NetAt c.C H p r N.n N.rs) (hF : Fs i = [r]) (N3 : NetAt c.C H3 p r N.n (N.rs ++ [(a, b)]))
    (kp : ∀ b o, H b = some o → b ≠ r → H3 b = some o) : Sta H0 F0 (env.set i (.ow (⟨N.n, N.rs ++ [(a, b)]⟩ : NetD))) Fs σ H3 := by
  have hi : i < env.length := (List.getElem?_eq_some_iff.mp hx).1
  obtain ⟨ps, hr, _⟩ := hN.rd
  obtain ⟨ps3, hr3, _⟩ := N3.rd
  have k3 : Kp (Fs i) H H3 := by
    rw [hF]
    refine ⟨fun b o e q => ?_, fun b o e hm => ?_⟩
    · refine kp b o e fun z => ?_
      subst z
      rw [hr] at e; cases e
      rcases q with q | q
      · cases q
      · exact q (by simp)
    · by_cases hb : b = r
      · subst hb; exact ⟨_, hr3, rfl⟩
      · exact ⟨o, kp b _ e hb, hm⟩
  have q2 := S.put (as := Fs i) (v := some (.ref p)) (e := .ow (⟨N.n, N.rs ++ [(a, b)]⟩ : NetD)) k3 hi ⟨_, rfl, by rw [putF_same, hF]; exact ⟨p, r, rfl, N3, rfl⟩⟩ (S.nd i) (fun b hb => .inl hb)
  rw [set_get (l := σ) (i := i) (x := some (.ref p)) hσ, putF_id] at q2
  exact q2
/-- net.lay(a, b), within an expression or statement -/
theorem lay_at {E : XK} {i : Nat} {N : NetD} (hx : env[i]? = some (.ow N)) {H0 H : Hp} {F0 : List Addr} {Fs : Nat → List Addr} {σ : St} {Q : VK} (S : Sta H0 F0 env Fs σ H)
    (h : WE .any env ta fun a : Int => WE .any env tb fun b : Int => ((0 ≤ a ∧ a < N.n) ∧ (0 ≤ b ∧ b < N.n) ∧ N.rs.length < 24) ∧
      ∀ (r : Addr) (H2 H3 : Hp), Same H H2 → Fs i = [r] → (∀ b o, H2 b = some o → b ≠ r → H3 b = some o) → Sta H0 F0 (env.set i (.ow (⟨N.n, N.rs ++ [(a, b)]⟩ : NetD))) Fs σ H3 → Q (.int (N.rs.length : Nat)) H3) :
    tMeth c.C "lay" (sp_lay c.C) [] E (tVar i) (tCons ta (tCons tb tNil)) σ H Q := by
  obtain ⟨u, h1, v, e, t⟩ := S.at_ hx
  obtain ⟨p, r, rfl, hN, hF⟩ := t
  obtain ⟨dx, hp⟩ := hN.ob
  refine ⟨_, by rw [h1, e], p, dx, _, rfl, hp, flds_no _ _ (by decide +kernel) (by decide +kernel), h S _ fun a va H1 as ra s1 t1 _ => ra (S.same s1) _ fun b vb H2 bs rb s2 t2 _ => ?_⟩
  have s := s1.trans s2
  refine ⟨p, r, N.n, a, b, N.rs, by rw [t1.1, t2.1]; rfl, hN.same s, rb.1.1, rb.1.2.1, rb.1.2.2, fun q H3 hq N3 kp => ?_⟩
  exact rb.2 r H2 H3 s hF (fun b o e z => kp b o e z) ((S.same s).lay hx (by rw [h1, e]) (hN.same s) hF N3 fun b o e z => kp b o e z)
theorem wu_lay {R : List (Ent c) → Prop} {i : Nat} {E : XK} {N : NetD} (hx : env[i]? = some (.ow N)) (h : WE .any env ta fun a : Int => WE .any env tb fun b : Int => ((0 ≤ a ∧ a < N.n) ∧ (0 ≤ b ∧ b < N.n) ∧ N.rs.length < 24) ∧ R (env.set i (.ow (⟨N.n, N.rs ++ [(a, b)]⟩ : NetD)))) :
    WU env (tDrop (tMeth c.C "lay" (sp_lay c.C) [] E (tVar i) (tCons ta (tCons tb tNil)))) R := fun _ _ _ _ _ S D C =>
  lay_at hx S (we_mono h fun a ha => we_mono ha fun b hb => ⟨hb.1, fun _ _ _ _ _ _ S3 => C _ _ _ hb.2 S3⟩)
/-- x = net.lay(a, b) -/
theorem ws_layA {R : Rs c β} {i l : Nat} {E : XK} {N : NetD} (hx : env[i]? = some (.ow N)) (h : WE .any env ta fun a : Int => WE .any env tb fun b : Int => ((0 ≤ a ∧ a < N.n) ∧ (0 ≤ b ∧ b < N.n) ∧ N.rs.length < 24) ∧ R.nx ((env.set i (.ow (⟨N.n, N.rs ++ [(a, b)]⟩ : NetD))).set l (.sh ((N.rs.length : Nat) : Int)))) :
    WS env (tAsg (tMeth c.C "lay" (sp_lay c.C) [] E (tVar i) (tCons ta (tCons tb tNil))) (gName l)) R := fun _ _ _ _ _ D S C =>
  lay_at hx S (we_mono h fun a ha => we_mono ha fun b hb => ⟨hb.1, fun _ _ _ _ _ _ S3 => by
    obtain ⟨Fs', S4, _⟩ := S3.set' (α := Int) (x := ((N.rs.length : Nat) : Int)) (v := .int (N.rs.length : Nat)) (as := []) l (by exact ⟨rfl, rfl⟩) (fun z hz => absurd hz (by simp))
    exact C.nx _ _ _ _ hb.2 S4⟩)
/-- xss[k].append(net.lay(a, b)) -/
theorem ws_appendLay {R : Rs c β} {i l : Nat} {E : XK} {N : NetD} {tk : TE} {xss : List (List Int)} (hx : env[i]? = some (.ow xss)) (hl : env[l]? = some (.ow N)) (hil : i ≠ l)
    (h : WE .any env tk fun k : Int => ∃ j xs, ixN xss.length k = some j ∧ xss[j]? = some xs ∧ xs.length < 1000 ∧ WE .any env ta fun a : Int => WE .any env tb fun b : Int => ((0 ≤ a ∧ a < N.n) ∧ (0 ≤ b ∧ b < N.n) ∧ N.rs.length < 24) ∧ R.nx ((env.set l (.ow (⟨N.n, N.rs ++ [(a, b)]⟩ : NetD))).set i (.ow (xss.set j (xs ++ [((N.rs.length : Nat) : Int)]))))) :
    WS env (tDrop (tBM c.K "list" rAppend (tOp (rIxL c.K) (tVar i) tk) (tCons (tMeth c.C "lay" (sp_lay c.C) [] E (tVar l) (tCons ta (tCons tb tNil))) tNil))) R := fun H0 F0 Fs σ H D S C => by
  obtain ⟨a, vs, as, hσ, ha, tr, hF⟩ := S.own hx
  refine ⟨_, hσ, h S _ fun k v H1 ks rk s1 t1 _ => ?_⟩
  obtain ⟨j, xs, hj, hjx, hxl, h2⟩ := rk
  obtain ⟨a', vs', b, us, hσ', ha', hlen, hb1, hb2, hb3, _⟩ := (S.same s1).inner hx hjx
  rw [hσ] at hσ'
  cases hσ'
  refine ⟨a, vs', k, .ref b, rfl, t1.1, SqL.of ha', atI_of (by rw [hlen]; exact hj) hb1, .inl ⟨rfl, _, SqL.of hb2⟩, lay_at hl (S.same s1) (we_mono h2 fun x hx' => we_mono hx' fun y hy => ⟨hy.1, fun r H2 H3 s2 hFl kp S3 => ?_⟩)⟩
  have hx3 : (env.set l (.ow (⟨N.n, N.rs ++ [(x, y)]⟩ : NetD)))[i]? = some (.ow xss) := by rw [List.getElem?_set_ne (Ne.symm hil)]; exact hx
  obtain ⟨a4, vs4, b4, us4, hσ4, ha4, hlen4, hd1, hd2, hd3, upd4⟩ := S3.inner hx3 hjx
  rw [hσ] at hσ4
  cases hσ4
  have har : a ≠ r := fun z => by
    have : a ∈ Fs i := by rw [hF]; exact List.mem_cons_self
    exact S.dj i l hil a this (by rw [hFl, z]; exact List.mem_cons_self)
  rw [kp a _ (s2 _ _ ha') har] at ha4
  cases ha4
  rw [hb1] at hd1
  cases hd1
  exact ⟨b, us4, .int (N.rs.length : Nat), rfl, rfl, hd2, by rw [hd3.len]; exact small1000 (by omega), C.nx _ _ _ _ hy.2 (upd4 (hd3.snoc ⟨rfl, rfl⟩))⟩
/-! ### a def that raises behind a change of its first argument -/
def spZ (c : Ct) {γ : Type} [Rp c γ] (pre : γ → List (Ent c) → (Addr → Prop) → (Addr → List Int → Prop) → Prop) : Sp := fun vs H _ E => ∃ v vs2 es2 w as X Y, vs = v :: vs2 ∧ pre w es2 X Y ∧ tree c H v w as ∧ as.Nodup ∧ ArgsD H as vs2 es2 ∧
  (∀ C H', X C → Kp as H H' → E (.ref C) none H') ∧ ∀ C xs dx l H', Y C xs → Kp as H H' → Bears H' dx l xs → H l = none → E (.ref C) (some dx) H'
theorem spZ_len {pre : γ → List (Ent c) → (Addr → Prop) → (Addr → List Int → Prop) → Prop} {vs : List V} {H : Hp} {Q : VK} {E : XK} (h : spZ c pre vs H Q E) {n : Nat} (hp : ∀ w es X Y, pre w es X Y → es.length + 1 = n) : vs.length = n := by
  obtain ⟨v, vs2, es2, w, as, X, Y, rfl, p, _, _, a2, _⟩ := h
  rw [← hp w es2 X Y p, List.length_cons, a2.len]
abbrev PZ (H0 : Hp) (F0 : List Addr) : St → Hp → Prop := fun _ H => Kp F0 H0 H
def WSz (H0 : Hp) (F0 : List Addr) (env : List (Ent c)) (t : TS) (R : Rs c β) : Prop := ∀ ⦃Fs : Nat → List Addr⦄ ⦃σ : St⦄ ⦃H : Hp⦄ ⦃D : Ends⦄, Sta H0 F0 env Fs σ H → Cts R H0 F0 D → t D σ H
variable {H0 : Hp} {F0 : List Addr} {R : Rs c β}
theorem wz_of (h : WS env t R) : WSz H0 F0 env t R := fun _ _ _ _ S C => h S C
theorem wz_g (h : WS env (sG (PZ H0 F0) t) R) : WSz H0 F0 env t R := fun _ _ _ _ S C => h S C S.kp
theorem wz_seq (h : WSz H0 F0 env t { R with nx := fun e => WSz H0 F0 e u R }) : WSz H0 F0 env (tSeq t u) R := fun _ _ _ _ S C => h S ⟨fun env Fs σ H r S' => r S' C, C.bk, C.ct, C.rt⟩
theorem wz_if (h : WT env tc fun b => (b = true → WSz H0 F0 env t R) ∧ (b = false → WSz H0 F0 env u R)) : WSz H0 F0 env (tIfS tc t u) R := fun _ _ _ _ S C => h S _ fun b H' r s => by
  cases b with
  | true => exact iteT (r.1 rfl (S.same s) C)
  | false => exact iteF (r.2 rfl (S.same s) C)
theorem Kp.dom {F : List Addr} {H H' : Hp} (k : Kp F H H') : Dom H H' := fun b u e => by
  cases hm : Mu u with
  | true => obtain ⟨o', q, _⟩ := k.lst b u e hm; exact ⟨o', q⟩
  | false => exact ⟨u, k.keep b u e (.inl hm)⟩
theorem fnZ_data {pre : γ → List (Ent c) → (Addr → Prop) → (Addr → List Int → Prop) → Prop} {N : List Str} {t : TS} {vs : List V} {H : Hp} {Q : VK} {E : XK} (h : spZ c pre vs H Q E)
    (hb : ∀ w es2 X Y v0 as, pre w es2 X Y → XpD (PZ H as) (fun _ H' => Dom H H') E X Y → WSz H as (([] : List (Ent c)).map Ent.bor ++ (.ow (⟨w⟩ : Pin v0 γ) :: (es2.map Ent.bor ++ List.replicate (N.length - (([] : List (Ent c)).length + (es2.length + 1))) .no))) t ({ nx := fun _ => False, rt := fun _ => False } : Rs c Unit)) : t { nx := fun _ H' => Q .non H', rt := Q } (start N vs) H := by
  obtain ⟨v, vs2, es2, w, as, X, Y, rfl, hp, tw, nd, a2, kx, ky⟩ := h
  refine hb w es2 X Y v as hp ⟨⟨fun p s => Kp.same p s, fun p => Kp.dom p, fun hC p => kx _ _ hC p⟩, fun hC p s b n => ky _ _ _ _ _ hC (Kp.same p s) b (Kp.free p n)⟩ (argsN_start (vs1 := []) (es1 := []) trivial a2 tw nd) ⟨fun _ _ _ _ z => z.elim, fun _ _ _ _ z => z.elim, fun _ _ _ _ z => z.elim, fun _ _ _ _ z => z.elim⟩
/-- a name is forgotten, its data changed -/
theorem Sta.kpDrop {H H' : Hp} {Fs : Nat → List Addr} {σ : St} (S : Sta H0 F0 env Fs σ H) {i : Nat} (hi : i < env.length) (kp : Kp (Fs i) H H') : Sta H0 F0 (env.set i .no) (putF' Fs i []) σ H' := by
  have q := S.put (v := σ[i]'(by rw [S.len]; exact hi)) (e := .no) kp hi putF_same List.nodup_nil (fun a ha => absurd ha (by simp))
  rwa [List.set_getElem_self] at q
theorem ws_tryZ {X : Cx} {body : List Stmt} {hs : List ExceptHandler} {pre : γ → List (Ent c) → (Addr → Prop) → (Addr → List Int → Prop) → Prop} {ta : TA} {i j : Nat} {w : γ} (hw : env[i]? = some (.ow w)) (hj : Nat.blt j env.length = true) (hij : i ≠ j) (XX : Addr → Prop) (YY : Addr → List Int → Prop)
    (hb : ∀ σ E pins, PSs (tryCxD X pins σ E) body (tDrop (tCallG (spZ c pre) [] E (fun σ' _ => σ' = σ) ta)))
    (hx : ∀ C, XX C → ∃ t, HD X hs C t ∧ WS (env.set i .no) t R)
    (hy : ∀ C xs, YY C xs → ∃ t, (∀ dx, HDD X hs C dx (tAsD j C dx t)) ∧ WS ((env.set j (.ow (⟨C, xs⟩ : Xd))).set i .no) t { nx := fun e => e.length = env.length ∧ R.nx (e.set j .no), rt := R.rt, bk := fun e => e.length = env.length ∧ R.bk (e.set j .no), ct := fun e => e.length = env.length ∧ R.ct (e.set j .no) })
    (h : WAM i env ta fun es1 es2 => es1 = [] ∧ pre w es2 XX YY) : WS env (tTryD X body hs) R := fun H0 F0 Fs σ H D S C => by
  have hi' : i < env.length := (List.getElem?_eq_some_iff.mp hw).1
  have hj' : j < env.length := by rwa [Nat.blt_eq] at hj
  refine ⟨fun cls od H' => match od with
    | none => ∃ Dc t, cls = .ref Dc ∧ HD X hs Dc t ∧ t D σ H'
    | some dx => ∃ Dc t, cls = .ref Dc ∧ HDD X hs Dc dx t ∧ t D σ H', _, fun pins => hb σ _ pins, ?_, fun cls H' he => he, fun C' dx H' he => ?_⟩
  · refine h S _ fun es1 es2 vs1 v vs2 H1 r s hv a1 a2 => ?_
    obtain ⟨rfl, hp⟩ := r
    have hvs1 : vs1 = [] := by
      cases vs1 with
      | nil => rfl
      | cons _ _ => exact a1.elim
    subst hvs1
    obtain ⟨u, h1, v', e, tw⟩ := S.at_ hw
    have hvv : v = v' := by
      rw [h1, e] at hv
      exact (Option.some.inj (Option.some.inj hv)).symm
    subst hvv
    refine ⟨rfl, v, vs2, es2, w, Fs i, XX, YY, by rw [List.nil_append, List.append_nil], hp, tree_same tw s, S.nd i, a2, fun C' H' hC kp => ?_, fun C' xs dx l H' hC kp b n => ?_⟩
    · obtain ⟨t, hd, ws⟩ := hx C' hC
      exact ⟨C', t, rfl, hd, ws ((S.same s).kpDrop hi' kp) C⟩
    · obtain ⟨t, hd, ws⟩ := hy C' xs hC
      refine ⟨C', _, rfl, hd dx, fun a ha => ?_⟩
      have hnl : l ≠ a := fun z => by rw [← z, b.2] at ha; cases ha
      have hnd : dx ≠ a := fun z => by rw [← z, b.1] at ha; cases ha
      have ha1 : H1 a = none := kp.free ha
      have fin : ∀ b o, upd H' a (XOD a C' dx) b = some o → b ≠ a → H' b = some o := fun b o q z => by rwa [upd_ne z] at q
      -- the heap with what is new alone
      let Hm : Hp := fun z => if z = l ∨ z = dx ∨ z = a then upd H' a (XOD a C' dx) z else H1 z
      have mIn : ∀ z, (z = l ∨ z = dx ∨ z = a) → Hm z = upd H' a (XOD a C' dx) z := fun z q => if_pos q
      have mOut : ∀ z, ¬ (z = l ∨ z = dx ∨ z = a) → Hm z = H1 z := fun z q => if_neg q
      have sm : Same H1 Hm := fun z o q => by
        by_cases y : z = l ∨ z = dx ∨ z = a
        · rw [mIn z y]
          rcases y with y | y | y
          · rw [y, n] at q; cases q
          · subst y
            rw [upd_ne hnd]
            have hmo : Mu o = false := by
              cases hm : Mu o with
              | false => rfl
              | true =>
                obtain ⟨o', q', hm'⟩ := kp.lst z o q hm
                rw [b.1] at q'
                cases q'
                cases hm'
            exact kp.keep z o q (.inl hmo)
          · rw [y, ha1] at q; cases q
        · rw [mOut z y]; exact q
      have km : Kp (Fs i) Hm (upd H' a (XOD a C' dx)) := ⟨fun z o q hz => by
        by_cases y : z = l ∨ z = dx ∨ z = a
        · rw [← mIn z y]; exact q
        · rw [mOut z y] at q
          rw [upd_ne (fun k => y (.inr (.inr k)))]
          exact kp.keep z o q hz, fun z o q hz => by
        by_cases y : z = l ∨ z = dx ∨ z = a
        · exact ⟨o, by rw [← mIn z y]; exact q, hz⟩
        · rw [mOut z y] at q
          obtain ⟨o', q', hm'⟩ := kp.lst z o q hz
          exact ⟨o', by rw [upd_ne (fun k => y (.inr (.inr k)))]; exact q', hm'⟩⟩
      have q := (S.same s).setO (x := (⟨C', xs⟩ : Xd)) (v := .ref a) (as := [l]) sm hj' ⟨a, dx, l, rfl, by rw [mIn a (.inr (.inr rfl)), upd_same], ⟨by rw [mIn dx (.inr (.inl rfl)), upd_ne hnd]; exact b.1, by rw [mIn l (.inl rfl), upd_ne hnl]; exact b.2⟩, rfl⟩ (nodup_one l) (fun d hd => by rw [show d = l by simpa using hd]; exact n)
      have q2 := q.kpDrop (i := i) (by rw [List.length_set]; exact hi') (by rw [putF_ne hij]; exact km)
      have go : ∀ (e : List (Ent c)) (Fs' : Nat → List Addr) (σ' : St) (H' : Hp), e.length = env.length → Sta H0 F0 e Fs' σ' H' → Sta H0 F0 (e.set j .no) (putF' Fs' j []) (σ'.set j none) H' := fun e Fs' σ' H' hl S' =>
        S'.put (v := none) (e := .no) (Kp.refl H') (by rw [hl]; exact hj') putF_same List.nodup_nil (fun a ha => absurd ha (by simp))
      exact ws q2 ⟨fun e Fs' σ' H' r S' => C.nx _ _ _ _ r.2 (go e Fs' σ' H' r.1 S'), fun e Fs' σ' H' r S' => C.bk _ _ _ _ r.2 (go e Fs' σ' H' r.1 S'), fun e Fs' σ' H' r S' => C.ct _ _ _ _ r.2 (go e Fs' σ' H' r.1 S'), C.rt⟩
  · obtain ⟨Dc, t, e, hd, ht⟩ := he
    cases e
    exact ⟨t, hd, ht⟩
end
end L2

set_option Elab.async false
set_option linter.all false
set_option maxRecDepth 100000
set_option maxHeartbeats 4000000
/-! Rings with one road more; what is refused: pure facts and promises. -/
namespace L2
open PySem PySem.Spec PyProof.Rows
section
variable {rs : List (Int × Int)} {n : Nat} {rows : List (List Int)}
theorem outsD_snoc (e : Int × Int) (p : Int) : outsD (rs ++ [e]) p = outsD rs p ++ if e.1 = p then [((rs.length : Nat) : Int)] else [] := by
  unfold outsD
  rw [List.length_append, List.length_singleton, filter_rng_succ, Int.toNat_natCast, List.getElem?_append_right (Nat.le_refl _), Nat.sub_self]
  congr 1
  · refine List.filter_congr fun j hj => ?_
    have := mem_rng.mp hj
    rw [List.getElem?_append_left (by omega)]
  · by_cases h : e.1 = p <;> simp [h]
theorem Good.lay (hg : Good n rs rows) {a : Nat} {b : Int} {row : List Int} (hr : rows[a]? = some row) : Good n (rs ++ [((a : Int), b)]) (rows.set a (row ++ [((rs.length : Nat) : Int)])) := by
  refine ⟨by rw [List.length_set]; exact hg.1, fun j r hj => ?_⟩
  rw [outsD_snoc]
  by_cases e : j = a
  · subst e
    rw [List.getElem?_set_self (List.getElem?_eq_some_iff.mp hr).1] at hj
    cases hj
    rw [if_pos rfl]
    exact (hg.2 j row hr).append_right _
  · rw [List.getElem?_set_ne (Ne.symm e)] at hj
    rw [if_neg (fun z => e (by omega)), List.append_nil]
    exact hg.2 j r hj
theorem Good.nil (n : Nat) : Good n [] (List.replicate n []) := ⟨List.length_replicate, fun j row hj => by
  rw [(List.mem_replicate.mp (List.mem_of_getElem? hj)).2]
  exact List.Perm.refl _⟩
/-- a ring of s places -/
def Ring (s : Nat) (rs : List (Int × Int)) : Prop := ∀ j : Nat, j < rs.length → rs[j]? = some (((j % s : Nat) : Int), (((j + 1) % s : Nat) : Int))
theorem Ring.snoc {s j : Nat} (h : Ring s rs) (hj : rs.length % s = j) {k : Nat} (hk : (j + 1) % s = k) : Ring s (rs ++ [((j : Int), (k : Int))]) := fun i hi => by
  rw [List.length_append, List.length_singleton] at hi
  by_cases e : i < rs.length
  · rw [List.getElem?_append_left e]
    exact h i e
  · have e' : i = rs.length := by omega
    subst e'
    rw [List.getElem?_append_right (Nat.le_refl _), Nat.sub_self, hj, ← hk, ← hj, Nat.mod_add_mod]
    rfl
theorem Ring.at_ {s : Nat} (h : Ring s rs) {r : Int} (h0 : 0 ≤ r) (h1 : r < rs.length) : sp rs r = ((r.toNat % s : Nat) : Int) ∧ en rs r = (((r.toNat + 1) % s : Nat) : Int) := by
  have g := rd_get h0 h1
  rw [h r.toNat (by omega)] at g
  have := Option.some.inj g
  exact ⟨(congrArg Prod.fst this).symm, (congrArg Prod.snd this).symm⟩
theorem Ring.isR {s : Nat} (h : Ring s rs) (hd : rs.length % s = 0) : IsR rs (rng rs.length) := by
  refine IsR.of_cyc (List.Perm.refl _) fun i x y hx hy => ?_
  rw [rng_len] at hy
  have hi : i < rs.length := by have := (List.getElem?_eq_some_iff.mp hx).1; rwa [rng_len] at this
  have hm : (i + 1) % rs.length < rs.length := Nat.mod_lt _ (by omega)
  rw [rng_get hi] at hx
  rw [rng_get hm] at hy
  have ex := Option.some.inj hx
  have ey := Option.some.inj hy
  rw [← ex, ← ey, (h.at_ (by omega) (by omega)).2, (h.at_ (by omega) (by omega)).1, Int.toNat_natCast, Int.toNat_natCast, Nat.mod_mod_of_dvd _ (Nat.dvd_of_mod_eq_zero hd)]
theorem Ring.inNet {s : Nat} (h : Ring s rs) (hs : 0 < s) {N : Int} (hN : (s : Int) ≤ N) : InNet N rs := fun e he => by
  obtain ⟨i, hi, ei⟩ := List.mem_iff_getElem.mp he
  have := h i hi
  rw [List.getElem?_eq_getElem hi] at this
  have e1 := Option.some.inj this
  rw [← ei, e1]
  have a := Nat.mod_lt i hs
  have b := Nat.mod_lt (i + 1) hs
  refine ⟨⟨?_, ?_⟩, ?_, ?_⟩ <;> dsimp only <;> omega
theorem oddD_cons_ne (ev : ∀ p : Int, rs.countP (fun e => decide (e.1 = p)) = rs.countP fun e => decide (e.2 = p)) (hn : 0 < n) : oddD n (rs ++ [(0, 1)]) ≠ [] := fun z => by
  have := List.filter_eq_nil_iff.mp z 0 (mem_rng.mpr ⟨by omega, by omega⟩)
  rw [← cO_rng, ← cI_rng, cO_pairs, cI_pairs, List.countP_append, List.countP_append, ev 0] at this
  simp at this
  omega
theorem oddD_loop (ev : ∀ p : Int, rs.countP (fun e => decide (e.1 = p)) = rs.countP fun e => decide (e.2 = p)) (s : Int) : oddD n (rs ++ [(s, s)]) = [] := odd_of_counts fun p => by
  rw [List.countP_append, List.countP_append, ev p]
  congr 1
/-- a loop walked by itself leaves the rest out -/
theorem loop_left {s : Nat} (hg : Good n (rs ++ [((s : Int), (s : Int))]) rows) (hs : s < n) (hno : outsD rs (s : Int) = []) (hpos : 0 < rs.length) : leftD (rs ++ [((s : Int), (s : Int))]) (walkD (rs ++ [((s : Int), (s : Int))]) rows (s : Int)) ≠ [] := by
  have hsl : s < rows.length := by rw [hg.1]; exact hs
  have hp := hg.2 s _ (List.getElem?_eq_getElem hsl)
  rw [outsD_snoc, hno, if_pos rfl, List.nil_append] at hp
  have hrow : rows[s] = [((rs.length : Nat) : Int)] := List.perm_singleton.mp hp
  have e1 : rows.getD (s : Int).toNat [] = [((rs.length : Nat) : Int)] := by rw [Int.toNat_natCast, List.getD_eq_getElem?_getD, List.getElem?_eq_getElem hsl, hrow]; rfl
  have hen : en (rs ++ [((s : Int), (s : Int))]) ((rs.length : Nat) : Int) = (s : Int) := by
    unfold en
    rw [Int.toNat_natCast, List.getD_eq_getElem?_getD, List.getElem?_append_right (Nat.le_refl _), Nat.sub_self]
    rfl
  rw [walkD_cons e1, walkD_nil (by rw [hen, Int.toNat_natCast, List.getD_eq_getElem?_getD, List.getElem?_set_self hsl]; rfl)]
  intro z
  have := List.filter_eq_nil_iff.mp z 0 (mem_rng.mpr ⟨by omega, by rw [List.length_append]; omega⟩)
  simp at this
  omega
end
/-- what a deed is handed -/
structure DeedI (N : NetD) (way : Int) (rows : List (List Int)) (cs : List Int) : Prop where
  n : 3 ≤ N.n ∧ N.n ≤ 8
  net : InNet N.n N.rs
  rl : N.rs.length < 24
  len : (rows.length : Int) = N.n
  rw_ : ∀ row ∈ rows, row.length < 60
  cl : 1 ≤ cs.length ∧ cs.length < 60
  d2 : way = 2 → ¬ IsR N.rs (cs.drop 1)
  d3 : way = 3 → ¬ Good N.n.toNat N.rs (rows.take (rows.length - 1) ++ [[]])
  d4 : way = 4 → ∀ row, rows[0]? = some row → Good N.n.toNat (N.rs ++ [(0, 1)]) ([row ++ [((N.rs.length : Nat) : Int)]] ++ rows.drop 1) ∧ oddD N.n.toNat (N.rs ++ [(0, 1)]) ≠ []
  d5 : way = 5 → Good N.n.toNat N.rs rows ∧ oddD N.n.toNat N.rs = [] ∧ leftD N.rs (walkD N.rs rows (N.n - 1)) ≠ []
  d6 : way = 6 → IsR N.rs cs
section
variable {c : Ct}
def p_deed (k : Int → Addr) : NetD → List (Ent c) → (Addr → Prop) → (Addr → List Int → Prop) → Prop := fun N es X Y => ∃ (way : Int) (rows : List (List Int)) (cs : List Int), es = [.sh way, .sh rows, .sh cs] ∧ DeedI N way rows cs ∧ (0 ≤ way ∧ way < 10) ∧ (way ≠ 5 → X (k way)) ∧ (way = 5 → ∀ l, Y (k 5) l)
def marksD (way : Int) : List Bool := (rng 11).map fun k => decide (k = way) || decide (k = 10)
def p_marks (k : Int → Addr) : List (Ent c) → (List Bool → Prop) → Prop := fun es R => ∃ (x : Xg) (way : Int), es = [.sh x] ∧ (0 ≤ way ∧ way < 10) ∧ x.D = k way ∧ R (marksD way)
def p_xlay0 (np : Addr) : List (Ent c) → (Int → Prop) → (Addr → Prop) → Prop := fun es R X => ∃ (N : NetD) (a b : Int), es = [.sh N, .sh a, .sh b] ∧ ¬ (0 ≤ b ∧ b < N.n) ∧ X np
def p_xexch0 (e : Addr) : List (Ent c) → (List Int → Prop) → (Addr → Prop) → Prop := fun es R X => ∃ (N : NetD) (cs : List Int) (x : Q4), es = [.sh N, .sh cs, .sh x] ∧ N.rs.length ≤ 24 ∧ cs.length < 64 ∧ IsR N.rs cs ∧ ¬ Bok cs.length x ∧ X e
def p_xwnet0 (n : Addr) : List (Ent c) → (NetD → Prop) → (Addr → Prop) → Prop := fun es R X => ∃ s l : Int, es = [.sh s, .sh l] ∧ s ≤ 100 ∧ l ≤ 30 ∧ ¬ Wk2 s l ∧ X n
end
theorem ring_bad : ¬ Rg 2 2 [0, 1, 0, 1] := fun h => absurd h.2.2 (by decide +kernel)
theorem read_bad {n : Int} (h : 3 ≤ n ∧ n ≤ 8) : tells (Txt.split (((("net " : String) : Str) ++ ((toString n : String) : Str)) ++ nl) nl) = none ∧ (((("net " : String) : Str) ++ ((toString n : String) : Str)) ++ nl).length ≤ 1000 := by
  have : n = 3 ∨ n = 4 ∨ n = 5 ∨ n = 6 ∨ n = 7 ∨ n = 8 := by omega
  rcases this with rfl | rfl | rfl | rfl | rfl | rfl <;> exact ⟨by decide +kernel, by decide +kernel⟩
theorem way_cases {way : Int} (h : 0 ≤ way ∧ way < 10) : way = 0 ∨ way = 1 ∨ way = 2 ∨ way = 3 ∨ way = 4 ∨ way = 5 ∨ way = 6 ∨ way = 7 ∨ way = 8 ∨ way = 9 := by omega
end L2

set_option Elab.async false
set_option linter.all false
set_option maxRecDepth 100000
set_option maxHeartbeats 4000000
namespace Mine
set_option genInjectivity false
set_option genSizeOfSpec false
set_option genSizeOf false
open PySem L2

def top (i : Nat) : Stmt := PySem.Challenge.pw_everyroad_k20_refusals_apart.main.body.getD i (.Pass ⟨0, 0, 0, 0⟩)
abbrev s_Net_init : Stmt := inClass (top 15) 0
abbrev s_Net_need_place : Stmt := inClass (top 15) 1
abbrev s_Net_lay : Stmt := inClass (top 15) 2
abbrev s_Net_outs : Stmt := inClass (top 15) 3
abbrev s_Net_ins : Stmt := inClass (top 15) 4
abbrev s_NotWhole_init : Stmt := inClass (top 7) 0
abbrev s_walk_on : Stmt := top 17
abbrev s_is_round : Stmt := top 19
abbrev s_need_round : Stmt := top 20
abbrev s_odd_places : Stmt := top 21
abbrev s_need_bounds : Stmt := top 23
abbrev s_exchanged : Stmt := top 25
abbrev s_size_note : Stmt := top 27
abbrev s_road_note : Stmt := top 28
abbrev s_sizes_by_note : Stmt := top 29
abbrev s_roads_by_note : Stmt := top 30
abbrev s_read_size : Stmt := top 31
abbrev s_read_road : Stmt := top 32
abbrev s_read : Stmt := top 33
abbrev s_orders : Stmt := top 35
abbrev s_need_orders : Stmt := top 36
abbrev s_need_even : Stmt := top 37
abbrev s_by_orders : Stmt := top 38
abbrev s_window_count : Stmt := top 40
abbrev s_window_net : Stmt := top 41
abbrev s_window_ending : Stmt := top 42
abbrev s_need_signs : Stmt := top 43
abbrev s_ring_round : Stmt := top 44
abbrev s_q_drawn : Stmt := top 46
abbrev s_q_marks : Stmt := top 47
abbrev s_q_deed : Stmt := top 48
abbrev s_law : Stmt := top 49
/-- where things stand behind the top -/
structure Adr where
  c_Net : Addr
  c_RoadError : Addr
  c_NoPlace : Addr
  c_TooMany : Addr
  c_NoRound : Addr
  c_NoOrders : Addr
  c_NotEven : Addr
  c_NoExchange : Addr
  c_NoWindows : Addr
  c_NoRing : Addr
  c_NoNote : Addr
  c_NotWhole : Addr
  a_Net_init : Addr
  d_Net_init : FuncData
  a_Net_need_place : Addr
  d_Net_need_place : FuncData
  a_Net_lay : Addr
  d_Net_lay : FuncData
  a_Net_outs : Addr
  d_Net_outs : FuncData
  a_Net_ins : Addr
  d_Net_ins : FuncData
  a_NotWhole_init : Addr
  d_NotWhole_init : FuncData
  a_walk_on : Addr
  d_walk_on : FuncData
  a_is_round : Addr
  d_is_round : FuncData
  a_need_round : Addr
  d_need_round : FuncData
  a_odd_places : Addr
  d_odd_places : FuncData
  a_need_bounds : Addr
  d_need_bounds : FuncData
  a_exchanged : Addr
  d_exchanged : FuncData
  a_size_note : Addr
  d_size_note : FuncData
  a_road_note : Addr
  d_road_note : FuncData
  a_sizes_by_note : Addr
  d_sizes_by_note : FuncData
  a_roads_by_note : Addr
  d_roads_by_note : FuncData
  a_read_size : Addr
  d_read_size : FuncData
  a_read_road : Addr
  d_read_road : FuncData
  a_read : Addr
  d_read : FuncData
  a_orders : Addr
  d_orders : FuncData
  a_need_orders : Addr
  d_need_orders : FuncData
  a_need_even : Addr
  d_need_even : FuncData
  a_by_orders : Addr
  d_by_orders : FuncData
  a_window_count : Addr
  d_window_count : FuncData
  a_window_net : Addr
  d_window_net : FuncData
  a_window_ending : Addr
  d_window_ending : FuncData
  a_need_signs : Addr
  d_need_signs : FuncData
  a_ring_round : Addr
  d_ring_round : FuncData
  a_q_drawn : Addr
  d_q_drawn : FuncData
  a_q_marks : Addr
  d_q_marks : FuncData
  a_q_deed : Addr
  d_q_deed : FuncData
  a_law : Addr
  d_law : FuncData
structure Tx (K : PySem.W.Frag) (mg : Str → Option Value) (t : Adr) : Prop where
  c_Net : Cls K t.c_Net
  m_Net : mg "Net" = some (.ref t.c_Net)
  k_Net : Mk K t.c_Net t.a_Net_init
  n_Net_size : NoAttr K t.c_Net "size"
  n_Net_roads : NoAttr K t.c_Net "roads"
  F_Net_init : Fun K "__init__" "Net.__init__" s_Net_init t.a_Net_init t.d_Net_init
  b_Net_init : Binds K t.d_Net_init ["self", "size"] []
  F_Net_need_place : Fun K "need_place" "Net.need_place" s_Net_need_place t.a_Net_need_place t.d_Net_need_place
  b_Net_need_place : Binds K t.d_Net_need_place ["self", "place"] []
  t_Net_need_place : Meth K t.c_Net "need_place" t.a_Net_need_place
  F_Net_lay : Fun K "lay" "Net.lay" s_Net_lay t.a_Net_lay t.d_Net_lay
  b_Net_lay : Binds K t.d_Net_lay ["self", "start", "goal"] []
  t_Net_lay : Meth K t.c_Net "lay" t.a_Net_lay
  F_Net_outs : Fun K "outs" "Net.outs" s_Net_outs t.a_Net_outs t.d_Net_outs
  b_Net_outs : Binds K t.d_Net_outs ["self", "place"] []
  t_Net_outs : Meth K t.c_Net "outs" t.a_Net_outs
  F_Net_ins : Fun K "ins" "Net.ins" s_Net_ins t.a_Net_ins t.d_Net_ins
  b_Net_ins : Binds K t.d_Net_ins ["self", "place"] []
  t_Net_ins : Meth K t.c_Net "ins" t.a_Net_ins
  F_NotWhole_init : Fun K "__init__" "NotWhole.__init__" s_NotWhole_init t.a_NotWhole_init t.d_NotWhole_init
  b_NotWhole_init : Binds K t.d_NotWhole_init ["self", "left"] []
  F_walk_on : Fun K "walk_on" "walk_on" s_walk_on t.a_walk_on t.d_walk_on
  b_walk_on : Binds K t.d_walk_on ["net", "start", "waiting"] []
  m_walk_on : mg "walk_on" = some (.ref t.a_walk_on)
  F_is_round : Fun K "is_round" "is_round" s_is_round t.a_is_round t.d_is_round
  b_is_round : Binds K t.d_is_round ["net", "circuit"] []
  m_is_round : mg "is_round" = some (.ref t.a_is_round)
  F_need_round : Fun K "need_round" "need_round" s_need_round t.a_need_round t.d_need_round
  b_need_round : Binds K t.d_need_round ["net", "circuit"] []
  m_need_round : mg "need_round" = some (.ref t.a_need_round)
  F_odd_places : Fun K "odd_places" "odd_places" s_odd_places t.a_odd_places t.d_odd_places
  b_odd_places : Binds K t.d_odd_places ["net"] []
  m_odd_places : mg "odd_places" = some (.ref t.a_odd_places)
  F_need_bounds : Fun K "need_bounds" "need_bounds" s_need_bounds t.a_need_bounds t.d_need_bounds
  b_need_bounds : Binds K t.d_need_bounds ["circuit", "bounds"] []
  m_need_bounds : mg "need_bounds" = some (.ref t.a_need_bounds)
  F_exchanged : Fun K "exchanged" "exchanged" s_exchanged t.a_exchanged t.d_exchanged
  b_exchanged : Binds K t.d_exchanged ["net", "circuit", "bounds"] []
  m_exchanged : mg "exchanged" = some (.ref t.a_exchanged)
  F_size_note : Fun K "size_note" "size_note" s_size_note t.a_size_note t.d_size_note
  b_size_note : Binds K t.d_size_note ["size"] []
  m_size_note : mg "size_note" = some (.ref t.a_size_note)
  F_road_note : Fun K "road_note" "road_note" s_road_note t.a_road_note t.d_road_note
  b_road_note : Binds K t.d_road_note ["start", "goal"] []
  m_road_note : mg "road_note" = some (.ref t.a_road_note)
  F_sizes_by_note : Fun K "sizes_by_note" "sizes_by_note" s_sizes_by_note t.a_sizes_by_note t.d_sizes_by_note
  b_sizes_by_note : Binds K t.d_sizes_by_note [] []
  m_sizes_by_note : mg "sizes_by_note" = some (.ref t.a_sizes_by_note)
  F_roads_by_note : Fun K "roads_by_note" "roads_by_note" s_roads_by_note t.a_roads_by_note t.d_roads_by_note
  b_roads_by_note : Binds K t.d_roads_by_note ["size"] []
  m_roads_by_note : mg "roads_by_note" = some (.ref t.a_roads_by_note)
  F_read_size : Fun K "read_size" "read_size" s_read_size t.a_read_size t.d_read_size
  b_read_size : Binds K t.d_read_size ["row"] []
  m_read_size : mg "read_size" = some (.ref t.a_read_size)
  F_read_road : Fun K "read_road" "read_road" s_read_road t.a_read_road t.d_read_road
  b_read_road : Binds K t.d_read_road ["roads", "row"] []
  m_read_road : mg "read_road" = some (.ref t.a_read_road)
  F_read : Fun K "read" "read" s_read t.a_read t.d_read
  b_read : Binds K t.d_read ["text"] []
  m_read : mg "read" = some (.ref t.a_read)
  F_orders : Fun K "orders" "orders" s_orders t.a_orders t.d_orders
  b_orders : Binds K t.d_orders ["net", "circuit"] []
  m_orders : mg "orders" = some (.ref t.a_orders)
  F_need_orders : Fun K "need_orders" "need_orders" s_need_orders t.a_need_orders t.d_need_orders
  b_need_orders : Binds K t.d_need_orders ["net", "rows"] []
  m_need_orders : mg "need_orders" = some (.ref t.a_need_orders)
  F_need_even : Fun K "need_even" "need_even" s_need_even t.a_need_even t.d_need_even
  b_need_even : Binds K t.d_need_even ["net"] []
  m_need_even : mg "need_even" = some (.ref t.a_need_even)
  F_by_orders : Fun K "by_orders" "by_orders" s_by_orders t.a_by_orders t.d_by_orders
  b_by_orders : Binds K t.d_by_orders ["net", "start", "rows"] []
  m_by_orders : mg "by_orders" = some (.ref t.a_by_orders)
  F_window_count : Fun K "window_count" "window_count" s_window_count t.a_window_count t.d_window_count
  b_window_count : Binds K t.d_window_count ["signs", "length"] []
  m_window_count : mg "window_count" = some (.ref t.a_window_count)
  F_window_net : Fun K "window_net" "window_net" s_window_net t.a_window_net t.d_window_net
  b_window_net : Binds K t.d_window_net ["signs", "length"] []
  m_window_net : mg "window_net" = some (.ref t.a_window_net)
  F_window_ending : Fun K "window_ending" "window_ending" s_window_ending t.a_window_ending t.d_window_ending
  b_window_ending : Binds K t.d_window_ending ["signs", "length", "told", "spot"] []
  m_window_ending : mg "window_ending" = some (.ref t.a_window_ending)
  F_need_signs : Fun K "need_signs" "need_signs" s_need_signs t.a_need_signs t.d_need_signs
  b_need_signs : Binds K t.d_need_signs ["signs", "count", "told"] []
  m_need_signs : mg "need_signs" = some (.ref t.a_need_signs)
  F_ring_round : Fun K "ring_round" "ring_round" s_ring_round t.a_ring_round t.d_ring_round
  b_ring_round : Binds K t.d_ring_round ["signs", "length", "told"] []
  m_ring_round : mg "ring_round" = some (.ref t.a_ring_round)
  F_q_drawn : Fun K "_law_drawn" "_law_drawn" s_q_drawn t.a_q_drawn t.d_q_drawn
  b_q_drawn : Binds K t.d_q_drawn ["script", "k", "many"] []
  m_q_drawn : mg "_law_drawn" = some (.ref t.a_q_drawn)
  F_q_marks : Fun K "_law_marks" "_law_marks" s_q_marks t.a_q_marks t.d_q_marks
  b_q_marks : Binds K t.d_q_marks ["e"] []
  m_q_marks : mg "_law_marks" = some (.ref t.a_q_marks)
  F_q_deed : Fun K "_law_deed" "_law_deed" s_q_deed t.a_q_deed t.d_q_deed
  b_q_deed : Binds K t.d_q_deed ["net", "way", "rows", "circuit"] []
  m_q_deed : mg "_law_deed" = some (.ref t.a_q_deed)
  F_law : Fun K "law" "law" s_law t.a_law t.d_law
  b_law : Binds K t.d_law ["script"] []
  m_law : mg "law" = some (.ref t.a_law)
  x_RoadError : XCls K t.c_RoadError
  m_RoadError : mg "RoadError" = some (.ref t.c_RoadError)
  x_NoPlace : XCls K t.c_NoPlace
  m_NoPlace : mg "NoPlace" = some (.ref t.c_NoPlace)
  x_TooMany : XCls K t.c_TooMany
  m_TooMany : mg "TooMany" = some (.ref t.c_TooMany)
  x_NoRound : XCls K t.c_NoRound
  m_NoRound : mg "NoRound" = some (.ref t.c_NoRound)
  x_NoOrders : XCls K t.c_NoOrders
  m_NoOrders : mg "NoOrders" = some (.ref t.c_NoOrders)
  x_NotEven : XCls K t.c_NotEven
  m_NotEven : mg "NotEven" = some (.ref t.c_NotEven)
  x_NoExchange : XCls K t.c_NoExchange
  m_NoExchange : mg "NoExchange" = some (.ref t.c_NoExchange)
  x_NoWindows : XCls K t.c_NoWindows
  m_NoWindows : mg "NoWindows" = some (.ref t.c_NoWindows)
  x_NoRing : XCls K t.c_NoRing
  m_NoRing : mg "NoRing" = some (.ref t.c_NoRing)
  x_NoNote : XCls K t.c_NoNote
  m_NoNote : mg "NoNote" = some (.ref t.c_NoNote)
  x_NotWhole : excI K t.c_NotWhole t.a_NotWhole_init = true
  if_NotWhole : PySem.W.isFn K (.ref t.a_NotWhole_init) = true
  m_NotWhole : mg "NotWhole" = some (.ref t.c_NotWhole)
  kp_NotWhole : PySem.W.keepIn K (.ref t.c_NotWhole) = true
  xa_NotWhole : XAttr K t.c_NotWhole "left"
  bi_RoadError : BInit K t.c_RoadError
  s_NoPlace_RoadError : PySem.W.mroIn K t.c_NoPlace (.ref t.c_RoadError) = some true
  s_TooMany_RoadError : PySem.W.mroIn K t.c_TooMany (.ref t.c_RoadError) = some true
  s_NoRound_RoadError : PySem.W.mroIn K t.c_NoRound (.ref t.c_RoadError) = some true
  s_NoOrders_RoadError : PySem.W.mroIn K t.c_NoOrders (.ref t.c_RoadError) = some true
  s_NotEven_RoadError : PySem.W.mroIn K t.c_NotEven (.ref t.c_RoadError) = some true
  s_NotWhole_RoadError : PySem.W.mroIn K t.c_NotWhole (.ref t.c_RoadError) = some true
  s_NoExchange_RoadError : PySem.W.mroIn K t.c_NoExchange (.ref t.c_RoadError) = some true
  s_NoWindows_RoadError : PySem.W.mroIn K t.c_NoWindows (.ref t.c_RoadError) = some true
  s_NoRing_RoadError : PySem.W.mroIn K t.c_NoRing (.ref t.c_RoadError) = some true
  s_NoNote_RoadError : PySem.W.mroIn K t.c_NoNote (.ref t.c_RoadError) = some true
  i_NoPlace_NoPlace : PySem.W.kitOne K (.ref t.c_NoPlace) (.ref t.c_NoPlace) = some true
  i_NoPlace_TooMany : PySem.W.kitOne K (.ref t.c_NoPlace) (.ref t.c_TooMany) = some false
  i_NoPlace_NoRound : PySem.W.kitOne K (.ref t.c_NoPlace) (.ref t.c_NoRound) = some false
  i_NoPlace_NoOrders : PySem.W.kitOne K (.ref t.c_NoPlace) (.ref t.c_NoOrders) = some false
  i_NoPlace_NotEven : PySem.W.kitOne K (.ref t.c_NoPlace) (.ref t.c_NotEven) = some false
  i_NoPlace_NotWhole : PySem.W.kitOne K (.ref t.c_NoPlace) (.ref t.c_NotWhole) = some false
  i_NoPlace_NoExchange : PySem.W.kitOne K (.ref t.c_NoPlace) (.ref t.c_NoExchange) = some false
  i_NoPlace_NoWindows : PySem.W.kitOne K (.ref t.c_NoPlace) (.ref t.c_NoWindows) = some false
  i_NoPlace_NoRing : PySem.W.kitOne K (.ref t.c_NoPlace) (.ref t.c_NoRing) = some false
  i_NoPlace_NoNote : PySem.W.kitOne K (.ref t.c_NoPlace) (.ref t.c_NoNote) = some false
  i_NoPlace_ValueError : PySem.W.kitOne K (.ref t.c_NoPlace) (.type "ValueError") = some true
  i_TooMany_NoPlace : PySem.W.kitOne K (.ref t.c_TooMany) (.ref t.c_NoPlace) = some false
  i_TooMany_TooMany : PySem.W.kitOne K (.ref t.c_TooMany) (.ref t.c_TooMany) = some true
  i_TooMany_NoRound : PySem.W.kitOne K (.ref t.c_TooMany) (.ref t.c_NoRound) = some false
  i_TooMany_NoOrders : PySem.W.kitOne K (.ref t.c_TooMany) (.ref t.c_NoOrders) = some false
  i_TooMany_NotEven : PySem.W.kitOne K (.ref t.c_TooMany) (.ref t.c_NotEven) = some false
  i_TooMany_NotWhole : PySem.W.kitOne K (.ref t.c_TooMany) (.ref t.c_NotWhole) = some false
  i_TooMany_NoExchange : PySem.W.kitOne K (.ref t.c_TooMany) (.ref t.c_NoExchange) = some false
  i_TooMany_NoWindows : PySem.W.kitOne K (.ref t.c_TooMany) (.ref t.c_NoWindows) = some false
  i_TooMany_NoRing : PySem.W.kitOne K (.ref t.c_TooMany) (.ref t.c_NoRing) = some false
  i_TooMany_NoNote : PySem.W.kitOne K (.ref t.c_TooMany) (.ref t.c_NoNote) = some false
  i_TooMany_ValueError : PySem.W.kitOne K (.ref t.c_TooMany) (.type "ValueError") = some true
  i_NoRound_NoPlace : PySem.W.kitOne K (.ref t.c_NoRound) (.ref t.c_NoPlace) = some false
  i_NoRound_TooMany : PySem.W.kitOne K (.ref t.c_NoRound) (.ref t.c_TooMany) = some false
  i_NoRound_NoRound : PySem.W.kitOne K (.ref t.c_NoRound) (.ref t.c_NoRound) = some true
  i_NoRound_NoOrders : PySem.W.kitOne K (.ref t.c_NoRound) (.ref t.c_NoOrders) = some false
  i_NoRound_NotEven : PySem.W.kitOne K (.ref t.c_NoRound) (.ref t.c_NotEven) = some false
  i_NoRound_NotWhole : PySem.W.kitOne K (.ref t.c_NoRound) (.ref t.c_NotWhole) = some false
  i_NoRound_NoExchange : PySem.W.kitOne K (.ref t.c_NoRound) (.ref t.c_NoExchange) = some false
  i_NoRound_NoWindows : PySem.W.kitOne K (.ref t.c_NoRound) (.ref t.c_NoWindows) = some false
  i_NoRound_NoRing : PySem.W.kitOne K (.ref t.c_NoRound) (.ref t.c_NoRing) = some false
  i_NoRound_NoNote : PySem.W.kitOne K (.ref t.c_NoRound) (.ref t.c_NoNote) = some false
  i_NoRound_ValueError : PySem.W.kitOne K (.ref t.c_NoRound) (.type "ValueError") = some true
  i_NoOrders_NoPlace : PySem.W.kitOne K (.ref t.c_NoOrders) (.ref t.c_NoPlace) = some false
  i_NoOrders_TooMany : PySem.W.kitOne K (.ref t.c_NoOrders) (.ref t.c_TooMany) = some false
  i_NoOrders_NoRound : PySem.W.kitOne K (.ref t.c_NoOrders) (.ref t.c_NoRound) = some false
  i_NoOrders_NoOrders : PySem.W.kitOne K (.ref t.c_NoOrders) (.ref t.c_NoOrders) = some true
  i_NoOrders_NotEven : PySem.W.kitOne K (.ref t.c_NoOrders) (.ref t.c_NotEven) = some false
  i_NoOrders_NotWhole : PySem.W.kitOne K (.ref t.c_NoOrders) (.ref t.c_NotWhole) = some false
  i_NoOrders_NoExchange : PySem.W.kitOne K (.ref t.c_NoOrders) (.ref t.c_NoExchange) = some false
  i_NoOrders_NoWindows : PySem.W.kitOne K (.ref t.c_NoOrders) (.ref t.c_NoWindows) = some false
  i_NoOrders_NoRing : PySem.W.kitOne K (.ref t.c_NoOrders) (.ref t.c_NoRing) = some false
  i_NoOrders_NoNote : PySem.W.kitOne K (.ref t.c_NoOrders) (.ref t.c_NoNote) = some false
  i_NoOrders_ValueError : PySem.W.kitOne K (.ref t.c_NoOrders) (.type "ValueError") = some true
  i_NotEven_NoPlace : PySem.W.kitOne K (.ref t.c_NotEven) (.ref t.c_NoPlace) = some false
  i_NotEven_TooMany : PySem.W.kitOne K (.ref t.c_NotEven) (.ref t.c_TooMany) = some false
  i_NotEven_NoRound : PySem.W.kitOne K (.ref t.c_NotEven) (.ref t.c_NoRound) = some false
  i_NotEven_NoOrders : PySem.W.kitOne K (.ref t.c_NotEven) (.ref t.c_NoOrders) = some false
  i_NotEven_NotEven : PySem.W.kitOne K (.ref t.c_NotEven) (.ref t.c_NotEven) = some true
  i_NotEven_NotWhole : PySem.W.kitOne K (.ref t.c_NotEven) (.ref t.c_NotWhole) = some false
  i_NotEven_NoExchange : PySem.W.kitOne K (.ref t.c_NotEven) (.ref t.c_NoExchange) = some false
  i_NotEven_NoWindows : PySem.W.kitOne K (.ref t.c_NotEven) (.ref t.c_NoWindows) = some false
  i_NotEven_NoRing : PySem.W.kitOne K (.ref t.c_NotEven) (.ref t.c_NoRing) = some false
  i_NotEven_NoNote : PySem.W.kitOne K (.ref t.c_NotEven) (.ref t.c_NoNote) = some false
  i_NotEven_ValueError : PySem.W.kitOne K (.ref t.c_NotEven) (.type "ValueError") = some true
  i_NotWhole_NoPlace : PySem.W.kitOne K (.ref t.c_NotWhole) (.ref t.c_NoPlace) = some false
  i_NotWhole_TooMany : PySem.W.kitOne K (.ref t.c_NotWhole) (.ref t.c_TooMany) = some false
  i_NotWhole_NoRound : PySem.W.kitOne K (.ref t.c_NotWhole) (.ref t.c_NoRound) = some false
  i_NotWhole_NoOrders : PySem.W.kitOne K (.ref t.c_NotWhole) (.ref t.c_NoOrders) = some false
  i_NotWhole_NotEven : PySem.W.kitOne K (.ref t.c_NotWhole) (.ref t.c_NotEven) = some false
  i_NotWhole_NotWhole : PySem.W.kitOne K (.ref t.c_NotWhole) (.ref t.c_NotWhole) = some true
  i_NotWhole_NoExchange : PySem.W.kitOne K (.ref t.c_NotWhole) (.ref t.c_NoExchange) = some false
  i_NotWhole_NoWindows : PySem.W.kitOne K (.ref t.c_NotWhole) (.ref t.c_NoWindows) = some false
  i_NotWhole_NoRing : PySem.W.kitOne K (.ref t.c_NotWhole) (.ref t.c_NoRing) = some false
  i_NotWhole_NoNote : PySem.W.kitOne K (.ref t.c_NotWhole) (.ref t.c_NoNote) = some false
  i_NotWhole_ValueError : PySem.W.kitOne K (.ref t.c_NotWhole) (.type "ValueError") = some true
  i_NoExchange_NoPlace : PySem.W.kitOne K (.ref t.c_NoExchange) (.ref t.c_NoPlace) = some false
  i_NoExchange_TooMany : PySem.W.kitOne K (.ref t.c_NoExchange) (.ref t.c_TooMany) = some false
  i_NoExchange_NoRound : PySem.W.kitOne K (.ref t.c_NoExchange) (.ref t.c_NoRound) = some false
  i_NoExchange_NoOrders : PySem.W.kitOne K (.ref t.c_NoExchange) (.ref t.c_NoOrders) = some false
  i_NoExchange_NotEven : PySem.W.kitOne K (.ref t.c_NoExchange) (.ref t.c_NotEven) = some false
  i_NoExchange_NotWhole : PySem.W.kitOne K (.ref t.c_NoExchange) (.ref t.c_NotWhole) = some false
  i_NoExchange_NoExchange : PySem.W.kitOne K (.ref t.c_NoExchange) (.ref t.c_NoExchange) = some true
  i_NoExchange_NoWindows : PySem.W.kitOne K (.ref t.c_NoExchange) (.ref t.c_NoWindows) = some false
  i_NoExchange_NoRing : PySem.W.kitOne K (.ref t.c_NoExchange) (.ref t.c_NoRing) = some false
  i_NoExchange_NoNote : PySem.W.kitOne K (.ref t.c_NoExchange) (.ref t.c_NoNote) = some false
  i_NoExchange_ValueError : PySem.W.kitOne K (.ref t.c_NoExchange) (.type "ValueError") = some true
  i_NoWindows_NoPlace : PySem.W.kitOne K (.ref t.c_NoWindows) (.ref t.c_NoPlace) = some false
  i_NoWindows_TooMany : PySem.W.kitOne K (.ref t.c_NoWindows) (.ref t.c_TooMany) = some false
  i_NoWindows_NoRound : PySem.W.kitOne K (.ref t.c_NoWindows) (.ref t.c_NoRound) = some false
  i_NoWindows_NoOrders : PySem.W.kitOne K (.ref t.c_NoWindows) (.ref t.c_NoOrders) = some false
  i_NoWindows_NotEven : PySem.W.kitOne K (.ref t.c_NoWindows) (.ref t.c_NotEven) = some false
  i_NoWindows_NotWhole : PySem.W.kitOne K (.ref t.c_NoWindows) (.ref t.c_NotWhole) = some false
  i_NoWindows_NoExchange : PySem.W.kitOne K (.ref t.c_NoWindows) (.ref t.c_NoExchange) = some false
  i_NoWindows_NoWindows : PySem.W.kitOne K (.ref t.c_NoWindows) (.ref t.c_NoWindows) = some true
  i_NoWindows_NoRing : PySem.W.kitOne K (.ref t.c_NoWindows) (.ref t.c_NoRing) = some false
  i_NoWindows_NoNote : PySem.W.kitOne K (.ref t.c_NoWindows) (.ref t.c_NoNote) = some false
  i_NoWindows_ValueError : PySem.W.kitOne K (.ref t.c_NoWindows) (.type "ValueError") = some true
  i_NoRing_NoPlace : PySem.W.kitOne K (.ref t.c_NoRing) (.ref t.c_NoPlace) = some false
  i_NoRing_TooMany : PySem.W.kitOne K (.ref t.c_NoRing) (.ref t.c_TooMany) = some false
  i_NoRing_NoRound : PySem.W.kitOne K (.ref t.c_NoRing) (.ref t.c_NoRound) = some false
  i_NoRing_NoOrders : PySem.W.kitOne K (.ref t.c_NoRing) (.ref t.c_NoOrders) = some false
  i_NoRing_NotEven : PySem.W.kitOne K (.ref t.c_NoRing) (.ref t.c_NotEven) = some false
  i_NoRing_NotWhole : PySem.W.kitOne K (.ref t.c_NoRing) (.ref t.c_NotWhole) = some false
  i_NoRing_NoExchange : PySem.W.kitOne K (.ref t.c_NoRing) (.ref t.c_NoExchange) = some false
  i_NoRing_NoWindows : PySem.W.kitOne K (.ref t.c_NoRing) (.ref t.c_NoWindows) = some false
  i_NoRing_NoRing : PySem.W.kitOne K (.ref t.c_NoRing) (.ref t.c_NoRing) = some true
  i_NoRing_NoNote : PySem.W.kitOne K (.ref t.c_NoRing) (.ref t.c_NoNote) = some false
  i_NoRing_ValueError : PySem.W.kitOne K (.ref t.c_NoRing) (.type "ValueError") = some true
  i_NoNote_NoPlace : PySem.W.kitOne K (.ref t.c_NoNote) (.ref t.c_NoPlace) = some false
  i_NoNote_TooMany : PySem.W.kitOne K (.ref t.c_NoNote) (.ref t.c_TooMany) = some false
  i_NoNote_NoRound : PySem.W.kitOne K (.ref t.c_NoNote) (.ref t.c_NoRound) = some false
  i_NoNote_NoOrders : PySem.W.kitOne K (.ref t.c_NoNote) (.ref t.c_NoOrders) = some false
  i_NoNote_NotEven : PySem.W.kitOne K (.ref t.c_NoNote) (.ref t.c_NotEven) = some false
  i_NoNote_NotWhole : PySem.W.kitOne K (.ref t.c_NoNote) (.ref t.c_NotWhole) = some false
  i_NoNote_NoExchange : PySem.W.kitOne K (.ref t.c_NoNote) (.ref t.c_NoExchange) = some false
  i_NoNote_NoWindows : PySem.W.kitOne K (.ref t.c_NoNote) (.ref t.c_NoWindows) = some false
  i_NoNote_NoRing : PySem.W.kitOne K (.ref t.c_NoNote) (.ref t.c_NoRing) = some false
  i_NoNote_NoNote : PySem.W.kitOne K (.ref t.c_NoNote) (.ref t.c_NoNote) = some true
  i_NoNote_ValueError : PySem.W.kitOne K (.ref t.c_NoNote) (.type "ValueError") = some true
  y_NoPlace : XKf K t.c_NoPlace
  y_TooMany : XKf K t.c_TooMany
  y_NoRound : XKf K t.c_NoRound
  y_NoOrders : XKf K t.c_NoOrders
  y_NotEven : XKf K t.c_NotEven
  y_NotWhole : XKf K t.c_NotWhole
  y_NoExchange : XKf K t.c_NoExchange
  y_NoWindows : XKf K t.c_NoWindows
  y_NoRing : XKf K t.c_NoRing
  y_NoNote : XKf K t.c_NoNote
  z_ValueError : mg "ValueError" = none
  z_enumerate : mg "enumerate" = none
  z_isinstance : mg "isinstance" = none
  z_len : mg "len" = none
  z_list : mg "list" = none
  z_range : mg "range" = none
  z_set : mg "set" = none
  z_sorted : mg "sorted" = none
  z_str : mg "str" = none
  g_MOST_PLACES : ∃ u, mg "MOST_PLACES" = some (Value.int 8 u)
  g_MOST_ROADS : ∃ u, mg "MOST_ROADS" = some (Value.int 24 u)
theorem sc_Net_init : FnScope ["self", "size"] ["self", "size"] (defScope s_Net_init) := ⟨rfl, rfl, rfl, by decide +kernel, rfl, by decide +kernel, by decide +kernel⟩
theorem sc_Net_need_place : FnScope ["self", "place"] ["self", "place"] (defScope s_Net_need_place) := ⟨rfl, rfl, rfl, by decide +kernel, rfl, by decide +kernel, by decide +kernel⟩
theorem sc_Net_lay : FnScope ["self", "start", "goal"] ["self", "start", "goal"] (defScope s_Net_lay) := ⟨rfl, rfl, rfl, by decide +kernel, rfl, by decide +kernel, by decide +kernel⟩
theorem sc_Net_outs : FnScope ["self", "place"] ["self", "place"] (defScope s_Net_outs) := ⟨rfl, rfl, rfl, by decide +kernel, rfl, by decide +kernel, by decide +kernel⟩
theorem sc_Net_ins : FnScope ["self", "place"] ["self", "place"] (defScope s_Net_ins) := ⟨rfl, rfl, rfl, by decide +kernel, rfl, by decide +kernel, by decide +kernel⟩
theorem sc_NotWhole_init : FnScope ["self", "left"] ["self", "left"] (defScope s_NotWhole_init) := ⟨rfl, rfl, rfl, by decide +kernel, rfl, by decide +kernel, by decide +kernel⟩
theorem sc_walk_on : FnScope ["net", "start", "waiting", "place", "path", "road"] ["net", "start", "waiting"] (defScope s_walk_on) := ⟨rfl, rfl, rfl, by decide +kernel, rfl, by decide +kernel, by decide +kernel⟩
theorem sc_is_round : FnScope ["net", "circuit", "spot", "road", "ahead"] ["net", "circuit"] (defScope s_is_round) := ⟨rfl, rfl, rfl, by decide +kernel, rfl, by decide +kernel, by decide +kernel⟩
theorem sc_need_round : FnScope ["net", "circuit"] ["net", "circuit"] (defScope s_need_round) := ⟨rfl, rfl, rfl, by decide +kernel, rfl, by decide +kernel, by decide +kernel⟩
theorem sc_odd_places : FnScope ["net"] ["net"] (defScope s_odd_places) := ⟨rfl, rfl, rfl, by decide +kernel, rfl, by decide +kernel, by decide +kernel⟩
theorem sc_need_bounds : FnScope ["circuit", "bounds"] ["circuit", "bounds"] (defScope s_need_bounds) := ⟨rfl, rfl, rfl, by decide +kernel, rfl, by decide +kernel, by decide +kernel⟩
theorem sc_exchanged : FnScope ["net", "circuit", "bounds", "changed"] ["net", "circuit", "bounds"] (defScope s_exchanged) := ⟨rfl, rfl, rfl, by decide +kernel, rfl, by decide +kernel, by decide +kernel⟩
theorem sc_size_note : FnScope ["size"] ["size"] (defScope s_size_note) := ⟨rfl, rfl, rfl, by decide +kernel, rfl, by decide +kernel, by decide +kernel⟩
theorem sc_road_note : FnScope ["start", "goal"] ["start", "goal"] (defScope s_road_note) := ⟨rfl, rfl, rfl, by decide +kernel, rfl, by decide +kernel, by decide +kernel⟩
theorem sc_sizes_by_note : FnScope ["sizes", "size"] [] (defScope s_sizes_by_note) := ⟨rfl, rfl, rfl, by decide +kernel, rfl, by decide +kernel, by decide +kernel⟩
theorem sc_roads_by_note : FnScope ["size", "roads", "start", "goal"] ["size"] (defScope s_roads_by_note) := ⟨rfl, rfl, rfl, by decide +kernel, rfl, by decide +kernel, by decide +kernel⟩
theorem sc_read_size : FnScope ["row", "sizes"] ["row"] (defScope s_read_size) := ⟨rfl, rfl, rfl, by decide +kernel, rfl, by decide +kernel, by decide +kernel⟩
theorem sc_read_road : FnScope ["roads", "row"] ["roads", "row"] (defScope s_read_road) := ⟨rfl, rfl, rfl, by decide +kernel, rfl, by decide +kernel, by decide +kernel⟩
theorem sc_read : FnScope ["text", "rows", "net", "roads", "row", "road"] ["text"] (defScope s_read) := ⟨rfl, rfl, rfl, by decide +kernel, rfl, by decide +kernel, by decide +kernel⟩
theorem sc_orders : FnScope ["net", "circuit", "rows", "road"] ["net", "circuit"] (defScope s_orders) := ⟨rfl, rfl, rfl, by decide +kernel, rfl, by decide +kernel, by decide +kernel⟩
theorem sc_need_orders : FnScope ["net", "rows"] ["net", "rows"] (defScope s_need_orders) := ⟨rfl, rfl, rfl, by decide +kernel, rfl, by decide +kernel, by decide +kernel⟩
theorem sc_need_even : FnScope ["net"] ["net"] (defScope s_need_even) := ⟨rfl, rfl, rfl, by decide +kernel, rfl, by decide +kernel, by decide +kernel⟩
theorem sc_by_orders : FnScope ["net", "start", "rows", "path", "left"] ["net", "start", "rows"] (defScope s_by_orders) := ⟨rfl, rfl, rfl, by decide +kernel, rfl, by decide +kernel, by decide +kernel⟩
theorem sc_window_count : FnScope ["signs", "length", "count", "turn"] ["signs", "length"] (defScope s_window_count) := ⟨rfl, rfl, rfl, by decide +kernel, rfl, by decide +kernel, by decide +kernel⟩
theorem sc_window_net : FnScope ["signs", "length", "count", "places", "net", "window"] ["signs", "length"] (defScope s_window_net) := ⟨rfl, rfl, rfl, by decide +kernel, rfl, by decide +kernel, by decide +kernel⟩
theorem sc_window_ending : FnScope ["signs", "length", "told", "spot", "window", "at"] ["signs", "length", "told", "spot"] (defScope s_window_ending) := ⟨rfl, rfl, rfl, by decide +kernel, rfl, by decide +kernel, by decide +kernel⟩
theorem sc_need_signs : FnScope ["signs", "count", "told"] ["signs", "count", "told"] (defScope s_need_signs) := ⟨rfl, rfl, rfl, by decide +kernel, rfl, by decide +kernel, by decide +kernel⟩
theorem sc_ring_round : FnScope ["signs", "length", "told", "count", "circuit"] ["signs", "length", "told"] (defScope s_ring_round) := ⟨rfl, rfl, rfl, by decide +kernel, rfl, by decide +kernel, by decide +kernel⟩
theorem sc_q_drawn : FnScope ["script", "k", "many", "cell", "mixed"] ["script", "k", "many"] (defScope s_q_drawn) := ⟨rfl, rfl, rfl, by decide +kernel, rfl, by decide +kernel, by decide +kernel⟩
theorem sc_q_marks : FnScope ["e", "found"] ["e"] (defScope s_q_marks) := ⟨rfl, rfl, rfl, by decide +kernel, rfl, by decide +kernel, by decide +kernel⟩
theorem sc_q_deed : FnScope ["net", "way", "rows", "circuit"] ["net", "way", "rows", "circuit"] (defScope s_q_deed) := ⟨rfl, rfl, rfl, by decide +kernel, rfl, by decide +kernel, by decide +kernel⟩
theorem sc_law : FnScope ["script", "size", "many", "way", "net", "circuit", "rows", "lap", "place", "number", "found", "e"] ["script"] (defScope s_law) := ⟨rfl, rfl, rfl, by decide +kernel, rfl, by decide +kernel, by decide +kernel⟩
theorem iteDn {c A B : Prop} [Decidable c] (h : ¬ c) (b : B) : if decide c = true then A else B := by
  rw [decide_eq_false h]
  exact iteF b
theorem iteDp {c A B : Prop} [Decidable c] (h : c) (a : A) : if decide c = true then A else B := by
  rw [decide_eq_true h]
  exact iteT a
local macro_rules | `(tactic| walk_at "rd") => `(tactic| repeat (first | refine ⟨_, rfl, ?_⟩ | refine ⟨_, _, rfl, rfl, ?_⟩))
section
variable {P : Program} {w : World} {K : PySem.W.Frag} {mg : Str → Option Value} {base : Heap} {t : Adr}
theorem ok_Net_init (T : Tx K mg t) : FnOk P w K mg base CX0 1 t.a_Net_init t.d_Net_init ["self", "size"] (sp_netinit t.c_Net) := by
  refine T.F_Net_init.ok sc_Net_init (fun vs H Q E h => ?_) (fun cdv A outer s H vs Q E hr h => ?_)
  · obtain ⟨p, dx, n, rfl, _⟩ := h
    rfl
  · obtain ⟨p, dx, n, rfl, hp, ⟨h1, h2⟩, k⟩ := h
    refine ⟨_, (pss_cons (ps_if (pt_not (pt_chain op_le op_le pe_int (pv 1) (pe_glob (v := .int 8) rfl T.g_MOST_PLACES.choose_spec ⟨_, rfl⟩)))
        (pss_one ps_never)
        pss_nil)
      (pss_cons (ps_fld (pv 0) (pv 1) rfl)
      (pss_one (ps_fld (pv 0) (pe_lst pa_nil) rfl)))), ?_⟩
    walk_at "rd"
    refine iteDp h1 ?_
    walk_at "rd"
    refine iteNS h2 ?_
    refine ⟨_, rfl, _, rfl, p, _, dx, [], rfl, hp, T.c_Net, T.n_Net_size, (by show 0 < 1000; decide), ?_⟩
    refine ⟨Nat.zero_le _, fun r hr0 => ?_⟩
    have nrp : r ≠ p := by
      intro z
      subst z
      rw [upd_same] at hr0
      cases hr0
    have hr1 : H r = none := by rw [upd_ne nrp] at hr0; exact hr0
    refine ⟨_, rfl, p, _, dx, _, rfl, (by rw [upd_ne nrp.symm, upd_same]), T.c_Net, T.n_Net_roads, (by show 1 < 1000; decide), ?_⟩
    refine k r _ hr1 ⟨⟨dx, upd_same⟩, [], (by rw [upd_ne nrp, upd_same]; rfl), .nil⟩ fun b o e hb => ?_
    rw [upd_ne hb, upd_ne (ne_of_none e hr1), upd_ne hb]
    exact e
theorem ok_Net_need_place (T : Tx K mg t) : FnOk P w K mg base CX0 1 t.a_Net_need_place t.d_Net_need_place ["self", "place"] (sp_need t.c_Net) := by
  refine T.F_Net_need_place.ok sc_Net_need_place (fun vs H Q E h => ?_) (fun cdv A outer s H vs Q E hr h => ?_)
  · obtain ⟨p, r, n, k, rs, rfl, _⟩ := h
    rfl
  · obtain ⟨p, r, n, k, rs, rfl, N, h0, h1, q⟩ := h
    obtain ⟨dx, hp⟩ := N.ob
    refine ⟨_, (pss_one (ps_if (pt_not (pt_chain op_le op_lt pe_int (pv 1) (pe_fldK (K := K) rfl (pv 0) rfl)))
        (pss_one ps_never)
        pss_nil)), ?_⟩
    walk_at "rd"
    refine iteDp h0 ?_
    refine ⟨_, rfl, p, _, dx, _, _, rfl, hp, T.c_Net, T.n_Net_size, flds_size _ _, ?_⟩
    walk_at "rd"
    exact iteNS h1 q
theorem ok_Net_lay (T : Tx K mg t) : FnOk P w K mg base CX0 2 t.a_Net_lay t.d_Net_lay ["self", "start", "goal"] (sp_lay t.c_Net) := by
  refine T.F_Net_lay.ok sc_Net_lay (fun vs H Q E h => ?_) (fun cdv A outer s H vs Q E hr h => ?_)
  · obtain ⟨p, r, n, a, b, rs, rfl, _⟩ := h
    rfl
  · obtain ⟨p, r, n, a, b, rs, rfl, N, ⟨ha0, ha1⟩, ⟨hb0, hb1⟩, hl, k⟩ := h
    obtain ⟨dx, hp⟩ := id N.ob
    obtain ⟨ps, hr1, hps⟩ := id N.rd
    have hlen := hps.len
    refine ⟨_, (pss_cons (ps_expr (pe_meth (pv 0) T.c_Net T.t_Net_need_place (ok_Net_need_place T) (hr.mono (by decide)) T.b_Net_need_place .nil pass0 (pa_cons (pv 1) pa_nil)))
      (pss_cons (ps_expr (pe_meth (pv 0) T.c_Net T.t_Net_need_place (ok_Net_need_place T) (hr.mono (by decide)) T.b_Net_need_place .nil pass0 (pa_cons (pv 2) pa_nil)))
      (pss_cons (ps_if (pt_cmpR op_ge (pe_callB (call_lenK (K := K) rfl) rfl T.z_len PySem.boot_len (pa_cons (pe_fldK (K := K) rfl (pv 0) rfl) pa_nil)) (pe_glob (v := .int 24) rfl T.g_MOST_ROADS.choose_spec ⟨_, rfl⟩) (nomark _))
        (pss_one ps_never)
        pss_nil)
      (pss_cons (ps_expr (pe_bmK (K := K) rfl PySem.F.plainAttrs_list PySem.F.slot_list_append PySem.F.type_list_append mt_append (pe_fldK (K := K) rfl (pv 0) rfl) (pa_cons (pe_tup (pa_cons (pv 1) (pa_cons (pv 2) pa_nil))) pa_nil)))
      (pss_one (ps_ret (pe_op op_sub (pe_callB (call_lenK (K := K) rfl) rfl T.z_len PySem.boot_len (pa_cons (pe_fldK (K := K) rfl (pv 0) rfl) pa_nil)) pe_int))))))), ?_⟩
    refine ⟨_, rfl, p, dx, _, rfl, hp, flds_no _ _ (by decide +kernel) (by decide +kernel), _, rfl, p, r, n, a, rs, rfl, N, ha0, ha1, ?_⟩
    refine ⟨_, rfl, p, dx, _, rfl, hp, flds_no _ _ (by decide +kernel) (by decide +kernel), _, rfl, p, r, n, b, rs, rfl, N, hb0, hb1, ?_⟩
    refine ⟨_, rfl, p, _, dx, _, _, rfl, hp, T.c_Net, T.n_Net_roads, flds_roads _ _, r, _, rfl, .inl (SqL.of hr1), ?_⟩
    walk_at "rd"
    refine iteDn (by rw [List.length_map]; omega) ?_
    refine ⟨_, rfl, p, _, dx, _, _, rfl, hp, T.c_Net, T.n_Net_roads, flds_roads _ _, .inl ⟨rfl, _, SqL.of hr1⟩, _, rfl, _, rfl, (by show 2 ≤ sizeLine; decide), fun q hq => ?_⟩
    have nrq : r ≠ q := ne_of_none hr1 hq
    have npq : p ≠ q := ne_of_none hp hq
    have nrp : p ≠ r := ne_of hp hr1 (by intro z; cases z)
    refine ⟨r, _, _, rfl, rfl, (by rw [upd_ne nrq]; exact hr1), (by rw [List.length_map]; exact small1000 (by omega)), ?_⟩
    have hp2 : (upd (upd H q (.tup [.int a, .int b])) r (.lst (ps.map V.ref ++ [V.ref q]))) p = some (.ins t.c_Net dx (flds n r)) := by rw [upd_ne nrp, upd_ne npq]; exact hp
    refine ⟨_, rfl, p, _, dx, _, _, rfl, hp2, T.c_Net, T.n_Net_roads, flds_roads _ _, r, _, rfl, .inl (SqL.of upd_same), ?_⟩
    walk_at "rd"
    have e1 : (((ps.map V.ref ++ [V.ref q]).length : Nat) : Int) - 1 = (rs.length : Int) := by rw [List.length_append, List.length_map]; simp; omega
    show Q (V.int (((ps.map V.ref ++ [V.ref q]).length : Nat) - 1)) _
    rw [e1]
    have tk : TupKeep H (upd (upd H q (.tup [.int a, .int b])) r (.lst (ps.map V.ref ++ [V.ref q]))) :=
      TupKeep.put (TupKeep.new (fun _ _ e => e) hq) (u := .lst (ps.map V.ref)) (by rw [upd_ne nrq]; exact hr1) (fun xs z => by cases z)
    refine k q _ hq ⟨⟨dx, hp2⟩, ps ++ [q], (by rw [upd_same, List.map_append]; rfl), RoadsP.snoc (hps.mono tk) ?_⟩ fun c o e hc => ?_
    · rw [upd_ne (Ne.symm nrq), upd_same]
    · rw [upd_ne hc, upd_ne (ne_of_none e hq)]
      exact e

abbrev cc (K : PySem.W.Frag) (t : Adr) : Ct := ⟨K, t.c_Net⟩
theorem ok_q_drawn (T : Tx K mg t) : FnOk P w K mg base CX0 1 t.a_q_drawn t.d_q_drawn ["script", "k", "many"] (spF (cc K t) p_drawn) := by
  refine T.F_q_drawn.ok sc_q_drawn (fun vs H Q E h => spF_len h (by rintro es R ⟨ns, k, m, rfl, _⟩; rfl)) (fun cdv A outer s H vs Q E hr h => ⟨_, (pss_cons (ps_set (i := 3) sc_q_drawn.nd rfl (by first | exact Or.inl rfl | exact Or.inr rfl) pe_int)
      (pss_cons (ps_if (pt_cmpR op_gt (pe_callB (call_lenK (K := K) rfl) rfl T.z_len PySem.boot_len (pa_cons (pv 0) pa_nil)) pe_int (nomark _))
        (pss_one (ps_set (i := 3) sc_q_drawn.nd rfl (by first | exact Or.inl rfl | exact Or.inr rfl) (pe_ix (ix_listK (K := K) rfl) (pv 0) (pe_op op_mod (pv 1) (pe_callB (call_lenK (K := K) rfl) rfl T.z_len PySem.boot_len (pa_cons (pv 0) pa_nil))) (fun _ _ => rfl))))
        pss_nil)
      (pss_cons (ps_set (i := 4) sc_q_drawn.nd rfl (by first | exact Or.inl rfl | exact Or.inr rfl) (pe_op op_add (pe_op op_add (pe_op op_mul (pv 3) (pe_op op_add pe_int (pe_op op_mul pe_int (pe_op op_mod (pv 1) pe_int)))) (pe_op op_mul (pe_op op_mul (pe_op op_add (pv 1) pe_int) (pe_op op_add (pv 1) pe_int)) pe_int)) (pe_callB (call_lenK (K := K) rfl) rfl T.z_len PySem.boot_len (pa_cons (pv 0) pa_nil))))
      (pss_one (ps_ret (pe_op op_mod (pe_op op_fdiv (pe_op op_mod (pv 4) pe_int) pe_int) (pv 2))))))), fn_data h ?_⟩)
  rintro es R ⟨ns, k, m, rfl, ⟨hk0, hk1⟩, hm, q⟩
  have c1 : (-(2 ^ 64) : Int) < 48271 + 9973 * (k % 97) ∧ (48271 + 9973 * (k % 97) : Int) < 2 ^ 64 := by omega
  refine ws_seq (ws_setF (we_int ?_))
  refine ws_seq (ws_ifJ (fun e => ∃ z : Int, e = [.sh (⟨ns⟩ : Sc), .sh k, .sh m, .sh z, .no]) (wt_test (we_iB (we_lenSc (we_var rfl (we_int ⟨fun hb => ?_, fun _ => ws_next ⟨_, rfl⟩⟩))))) ?_)
  · have hb' : (0 : Int) < (ns.length : Int) := of_decide_eq_true hb
    obtain ⟨z, hz, _⟩ := atI_mem (xs := ns) (i := k % (ns.length : Int)) (by have := Int.emod_nonneg k (show (ns.length : Int) ≠ 0 by omega); omega) (Int.emod_lt_of_pos _ (by omega))
    exact ws_setF (we_ixSc (we_var rfl (we_iC (we_var rfl (we_lenSc (we_var rfl ⟨(show (0 : Int) < (ns.length : Int) from hb'), ⟨_, hz, ⟨z, rfl⟩⟩⟩))))))
  · rintro e ⟨z, rfl⟩
    refine ws_seq (ws_setF (we_add (we_add (we_iC (we_var rfl (we_add (we_int (we_iC (we_int (we_iC (we_var rfl (we_int ⟨(show (0 : Int) < 97 by decide), ⟨.inl ⟨by decide, by decide⟩, ⟨.inr c1, (we_iC (we_iC (we_add (we_var rfl (we_int (we_add (we_var rfl (we_int ⟨.inl ⟨by omega, by omega⟩, (we_int ⟨.inr ⟨by decide, by decide⟩, (we_lenSc (we_var rfl ?_))⟩)⟩))))))))⟩⟩⟩))))))))))))
    exact ws_retF (we_iC (we_iC (we_iC (we_var rfl (we_int ⟨(show (0 : Int) < 2147483647 by decide), (we_int ⟨⟨by decide, by decide⟩, (we_var rfl ⟨hm, q _ (Int.emod_nonneg _ (by omega)) (Int.emod_lt_of_pos _ hm)⟩)⟩)⟩)))))
theorem ok_Net_outs (T : Tx K mg t) : FnOk P w K mg base CX0 2 t.a_Net_outs t.d_Net_outs ["self", "place"] (spF (cc K t) (p_outs (·.1))) := by
  refine T.F_Net_outs.ok sc_Net_outs (fun vs H Q E h => spF_len h (by rintro es R ⟨N, k, rfl, _⟩; rfl)) (fun cdv A outer s H vs Q E hr h => ⟨_, (pss_cons (ps_expr (pe_meth (pv 0) T.c_Net T.t_Net_need_place (ok_Net_need_place T) (hr.mono (by decide)) T.b_Net_need_place .nil pass0 (pa_cons (pv 1) pa_nil)))
      (pss_one (ps_ret (pe_comp (comp_mk ["number", "road"] ["place"] [1] rfl (pi_enumK (K := K) rfl rfl T.z_enumerate (pa_cons (pe_fldK (K := K) rfl (pv 0) rfl) pa_nil)) (fun _ _ _ _ => (pg_tupK (K := K) rfl rfl (pgs_cons (pg_name (i := 0) (show (([("number" : Str), ("road" : Str)] : List Str) ++ ([("place" : Str)] : List Str)).Nodup by decide +kernel) rfl (by first | exact Or.inl rfl | exact Or.inr rfl)) (pgs_cons (pg_name (i := 1) (show (([("number" : Str), ("road" : Str)] : List Str) ++ ([("place" : Str)] : List Str)).Nodup by decide +kernel) rfl (by first | exact Or.inl rfl | exact Or.inr rfl)) pgs_nil)))) own_pair (fun _ _ _ _ => (pts_one (pt_cmpR op_eq (pe_ix (ix_tupK (K := K) rfl) (pv 1) pe_int (fun _ _ => rfl)) (pv 2) (nomark _)))) (fun _ _ _ _ => (pv 0))))))), fn_data h ?_⟩)
  rintro es R ⟨N, p, rfl, hp, hl, q⟩
  refine ws_seq (ws_drop (we_need (we_var rfl (we_var rfl ⟨hp, ?_⟩))))
  refine ws_ret (S' := []) (we_compE (we_roads T.c_Net T.n_Net_roads (we_var rfl ⟨by omega, fun k ys => ys = (rng k).filter fun j => decide ((N.rs[j.toNat]?).map (·.1) = some p), rfl, ?_, ?_⟩)))
  · rintro k x ys hx rfl
    have e : (rng (k + 1)).filter (fun j => decide ((N.rs[j.toNat]?).map (·.1) = some p)) = (rng k).filter (fun j => decide ((N.rs[j.toNat]?).map (·.1) = some p)) ++ if x.1 = p then [(k : Int)] else [] := by
      rw [filter_rng_succ, Int.toNat_natCast, hx]
      by_cases h : x.1 = p <;> simp [h]
    refine (wt_test (we_eqI (we_fst (we_var rfl (we_var rfl ⟨fun h => we_varF rfl ?_, fun h => ?_⟩)))))
    · dsimp only
      rw [e, if_pos (of_decide_eq_true h)]
    · dsimp only
      rw [e, if_neg (of_decide_eq_false h), List.append_nil]
  · rintro ys rfl
    exact q
theorem ok_Net_ins (T : Tx K mg t) : FnOk P w K mg base CX0 2 t.a_Net_ins t.d_Net_ins ["self", "place"] (spF (cc K t) (p_outs (·.2))) := by
  refine T.F_Net_ins.ok sc_Net_ins (fun vs H Q E h => spF_len h (by rintro es R ⟨N, k, rfl, _⟩; rfl)) (fun cdv A outer s H vs Q E hr h => ⟨_, (pss_cons (ps_expr (pe_meth (pv 0) T.c_Net T.t_Net_need_place (ok_Net_need_place T) (hr.mono (by decide)) T.b_Net_need_place .nil pass0 (pa_cons (pv 1) pa_nil)))
      (pss_one (ps_ret (pe_comp (comp_mk ["number", "road"] ["place"] [1] rfl (pi_enumK (K := K) rfl rfl T.z_enumerate (pa_cons (pe_fldK (K := K) rfl (pv 0) rfl) pa_nil)) (fun _ _ _ _ => (pg_tupK (K := K) rfl rfl (pgs_cons (pg_name (i := 0) (show (([("number" : Str), ("road" : Str)] : List Str) ++ ([("place" : Str)] : List Str)).Nodup by decide +kernel) rfl (by first | exact Or.inl rfl | exact Or.inr rfl)) (pgs_cons (pg_name (i := 1) (show (([("number" : Str), ("road" : Str)] : List Str) ++ ([("place" : Str)] : List Str)).Nodup by decide +kernel) rfl (by first | exact Or.inl rfl | exact Or.inr rfl)) pgs_nil)))) own_pair (fun _ _ _ _ => (pts_one (pt_cmpR op_eq (pe_ix (ix_tupK (K := K) rfl) (pv 1) pe_int (fun _ _ => rfl)) (pv 2) (nomark _)))) (fun _ _ _ _ => (pv 0))))))), fn_data h ?_⟩)
  rintro es R ⟨N, p, rfl, hp, hl, q⟩
  refine ws_seq (ws_drop (we_need (we_var rfl (we_var rfl ⟨hp, ?_⟩))))
  refine ws_ret (S' := []) (we_compE (we_roads T.c_Net T.n_Net_roads (we_var rfl ⟨by omega, fun k ys => ys = (rng k).filter fun j => decide ((N.rs[j.toNat]?).map (·.2) = some p), rfl, ?_, ?_⟩)))
  · rintro k x ys hx rfl
    have e : (rng (k + 1)).filter (fun j => decide ((N.rs[j.toNat]?).map (·.2) = some p)) = (rng k).filter (fun j => decide ((N.rs[j.toNat]?).map (·.2) = some p)) ++ if x.2 = p then [(k : Int)] else [] := by
      rw [filter_rng_succ, Int.toNat_natCast, hx]
      by_cases h : x.2 = p <;> simp [h]
    refine (wt_test (we_eqI (we_snd (we_var rfl (we_var rfl ⟨fun h => we_varF rfl ?_, fun h => ?_⟩)))))
    · dsimp only
      rw [e, if_pos (of_decide_eq_true h)]
    · dsimp only
      rw [e, if_neg (of_decide_eq_false h), List.append_nil]
  · rintro ys rfl
    exact q

theorem lenOk {a b : Str} {p q : Nat} (ha : a.length ≤ p) (hb : b.length ≤ q) (h : p + q ≤ 900) : a.length + b.length ≤ sizeLine := Nat.le_of_lt (small1000 (by omega))
theorem lenOk1 {a : Str} {p : Nat} (ha : a.length ≤ p) (h : p ≤ 900) : a.length ≤ sizeLine := Nat.le_of_lt (small1000 (by omega))
theorem lenCat {a b : Str} {p q : Nat} (ha : a.length ≤ p) (hb : b.length ≤ q) : (a ++ b).length ≤ p + q := by rw [Str.length_append]; omega
theorem at0 {α : Type} (x : α) (xs : List α) : atI (x :: xs) 0 = some x := by
  unfold atI ixN
  rw [if_pos (by decide), if_pos (by rw [List.length_cons]; omega)]
  rfl
theorem len_net : (("net " : String) : Str).length ≤ 4 := by decide +kernel
theorem len_gt : ((">" : String) : Str).length ≤ 1 := by decide +kernel
theorem len_nl : nl.length ≤ 1 := by rw [nl_is]; decide
theorem len_em : Str.empty.length ≤ 0 := by decide
theorem ok_size_note (T : Tx K mg t) : FnOk P w K mg base CX0 1 t.a_size_note t.d_size_note ["size"] (spF (cc K t) p_snote) := by
  refine T.F_size_note.ok sc_size_note (fun vs H Q E h => spF_len h (by rintro es R ⟨n, rfl, _⟩; rfl)) (fun cdv A outer s H vs Q E hr h => ⟨_, (pss_one (ps_ret (pe_jstr (pj_cons pe_str (pj_cons (pe_fmt (pv 0)) pj_nil))))), fn_data h ?_⟩)
  rintro es R ⟨n, rfl, hn, q⟩
  have l1 := lenCat len_em len_net
  have l2 := lenCat l1 (sI_len hn.1 hn.2)
  refine ws_retF (we_jstr (wj_cons (we_str ⟨lenOk1 l1 (by decide), (wj_cons (we_fmt (we_var rfl ⟨small_dig hn.1 hn.2, ⟨lenOk1 l2 (by decide), (wj_nil (lenOk1 l2 (by decide)) ?_)⟩⟩)))⟩)))
  rw [Str.empty_append]
  exact q
theorem ok_road_note (T : Tx K mg t) : FnOk P w K mg base CX0 1 t.a_road_note t.d_road_note ["start", "goal"] (spF (cc K t) p_rnote) := by
  refine T.F_road_note.ok sc_road_note (fun vs H Q E h => spF_len h (by rintro es R ⟨a, b, rfl, _⟩; rfl)) (fun cdv A outer s H vs Q E hr h => ⟨_, (pss_one (ps_ret (pe_jstr (pj_cons (pe_fmt (pv 0)) (pj_cons pe_str (pj_cons (pe_fmt (pv 1)) pj_nil)))))), fn_data h ?_⟩)
  rintro es R ⟨a, b, rfl, ha, hb, q⟩
  have l1 := lenCat len_em (sI_len ha.1 ha.2)
  have l2 := lenCat l1 len_gt
  have l3 := lenCat l2 (sI_len hb.1 hb.2)
  refine ws_retF (we_jstr (wj_cons (we_fmt (we_var rfl ⟨small_dig ha.1 ha.2, ⟨lenOk1 l1 (by decide), (wj_cons (we_str ⟨lenOk1 l2 (by decide), (wj_cons (we_fmt (we_var rfl ⟨small_dig hb.1 hb.2, ⟨lenOk1 l3 (by decide), (wj_nil (lenOk1 l3 (by decide)) ?_)⟩⟩)))⟩))⟩⟩))))
  rw [Str.empty_append]
  exact q
theorem ok_sizes_by_note (T : Tx K mg t) : FnOk P w K mg base CX0 2 t.a_sizes_by_note t.d_sizes_by_note [] (spF (cc K t) p_sizesN) := by
  refine T.F_sizes_by_note.ok sc_sizes_by_note (fun vs H Q E h => spF_len h (by rintro es R ⟨rfl, _⟩; rfl)) (fun cdv A outer s H vs Q E hr h => ⟨_, (pss_cons (ps_set (i := 0) sc_sizes_by_note.nd rfl (by first | exact Or.inl rfl | exact Or.inr rfl) pe_newD)
      (pss_cons (ps_for PassesOwn.never rfl (pi_range2 rfl T.z_range (pa_cons pe_int (pa_cons (pe_op op_add (pe_glob (v := .int 8) rfl T.g_MOST_PLACES.choose_spec ⟨_, rfl⟩) pe_int) pa_nil))) (pg_name (i := 1) sc_sizes_by_note.nd rfl (by first | exact Or.inl rfl | exact Or.inr rfl))
        (pss_one (ps_dputT (pv 0) (pe_call (ok_size_note T) (hr.mono (by decide)) rfl T.m_size_note T.F_size_note.kp T.b_size_note .nil pass0 (pa_cons (pv 1) pa_nil)) (pv 1))))
      (pss_one (ps_ret (pv 0))))), fn_data h ?_⟩)
  rintro es R ⟨rfl, q⟩
  refine ws_seq (ws_setO (α := TD Int) (we_newT ⟨rfl, ?_⟩))
  refine ws_seq (ws_for2 (we_int (we_add (we_int (we_int ⟨⟨by decide, by decide, by decide, by decide⟩, fun k e => ∃ o, e = [.ow (⟨sizeT.take k⟩ : TD Int), o], ⟨_, rfl⟩, ?_, ?_⟩)))))
  · rintro k e hk ⟨o, rfl⟩
    have hk8 : k < 8 := by omega
    refine ws_dputT rfl (we_var rfl (we_call (wa_cons (we_var rfl (wa_nil ⟨_, rfl, ⟨by omega, by omega⟩, ⟨?_, ?_, ?_⟩⟩)))))
    · refine tget_none fun p hp z => ?_
      obtain ⟨j, hj, rfl⟩ := List.mem_iff_getElem.mp hp
      rw [List.length_take] at hj
      have hj8 : j < 8 := by
        have : sizeT.length = 8 := rfl
        omega
      have e1 : (sizeT.take k)[j] = (snote (1 + (j : Int)), 1 + (j : Int)) := by
        rw [List.getElem_take]
        unfold sizeT
        rw [List.getElem_map]
        have := rng_get hj8
        have e2 : (rng 8)[j]'(by rw [rng_len]; exact hj8) = (j : Int) := by
          have h3 := List.getElem?_eq_getElem (l := rng 8) (i := j) (by rw [rng_len]; exact hj8)
          rw [this] at h3
          exact (Option.some.inj h3).symm
        rw [e2]
      rw [e1] at z
      have := snote_inj (by omega) (by omega) (by omega) (by omega) z
      omega
    · rw [List.length_take]
      omega
    · refine ⟨.sh (1 + (k : Int)), ?_⟩
      have e1 : sizeT.take (k + 1) = sizeT.take k ++ [(snote (1 + (k : Int)), 1 + (k : Int))] := by
        rw [List.take_add_one]
        congr 1
        unfold sizeT
        rw [List.getElem?_map, rng_get hk8]
        rfl
      rw [e1]
      rfl
  rintro e ⟨o, rfl⟩
  exact ws_ret (we_varM rfl q)
theorem ok_roads_by_note (T : Tx K mg t) : FnOk P w K mg base CX0 2 t.a_roads_by_note t.d_roads_by_note ["size"] (spF (cc K t) p_roadsN) := by
  refine T.F_roads_by_note.ok sc_roads_by_note (fun vs H Q E h => spF_len h (by rintro es R ⟨n, rfl, _⟩; rfl)) (fun cdv A outer s H vs Q E hr h => ⟨_, (pss_cons (ps_set (i := 1) sc_roads_by_note.nd rfl (by first | exact Or.inl rfl | exact Or.inr rfl) pe_newD)
      (pss_cons (ps_for PassesOwn.never rfl (pi_range1 rfl T.z_range (pa_cons (pv 0) pa_nil)) (pg_name (i := 2) sc_roads_by_note.nd rfl (by first | exact Or.inl rfl | exact Or.inr rfl))
        (pss_one (ps_for PassesOwn.never rfl (pi_range1 rfl T.z_range (pa_cons (pv 0) pa_nil)) (pg_name (i := 3) sc_roads_by_note.nd rfl (by first | exact Or.inl rfl | exact Or.inr rfl))
        (pss_one (ps_dputT (pv 1) (pe_call (ok_road_note T) (hr.mono (by decide)) rfl T.m_road_note T.F_road_note.kp T.b_road_note .nil pass0 (pa_cons (pv 2) (pa_cons (pv 3) pa_nil))) (pe_tup (pa_cons (pv 2) (pa_cons (pv 3) pa_nil))))))))
      (pss_one (ps_ret (pv 1))))), fn_data h ?_⟩)
  rintro es R ⟨n, rfl, hn, q⟩
  obtain ⟨m, rfl⟩ := Int.eq_ofNat_of_zero_le (show 0 ≤ n by omega)
  rw [Int.toNat_natCast] at q
  have hm : m ≤ 8 := by omega
  have rin : ∀ k : Nat, k ≤ 8 → ∀ p ∈ pairsOf m k, (0 ≤ p.1 ∧ p.1 < 10) ∧ (0 ≤ p.2 ∧ p.2 < 10) := fun k hk p hp => by
    have := mem_pairs.mp hp
    omega
  refine ws_seq (ws_setO (α := TD (Int × Int)) (we_newT ⟨rfl, ?_⟩))
  refine ws_seq (ws_for1 (we_var rfl ⟨⟨by omega, by omega⟩, fun k e => ∃ o1 o2, e = [.sh (m : Int), .ow (⟨roadT (pairsOf m k)⟩ : TD (Int × Int)), o1, o2], ⟨_, _, rfl⟩, ?_, ?_⟩))
  · rintro k e hk ⟨o1, o2, rfl⟩
    have hk : k < m := by omega
    refine ws_for1 (we_var rfl ⟨⟨by omega, by omega⟩, fun j e => ∃ o2, e = [.sh (m : Int), .ow (⟨roadT (pairsOf m k ++ (rng j).map fun b => ((k : Int), b))⟩ : TD (Int × Int)), .sh (k : Int), o2], ⟨_, by rw [show (rng 0).map (fun b => ((k : Int), b)) = [] from rfl, List.append_nil]; rfl⟩, ?_, ?_⟩)
    · rintro j e hj ⟨o2, rfl⟩
      have hj : j < m := by omega
      refine ws_dputT rfl (we_tup (we_var rfl (we_var rfl (we_call (wa_cons (we_var rfl (wa_cons (we_var rfl (wa_nil ⟨_, _, rfl, ⟨by omega, by omega⟩, ⟨by omega, by omega⟩, ⟨?_, ?_, ?_⟩⟩)))))))) trivial)
      · refine roadT_none (fun p hp => ?_) (by dsimp only; omega) fun z => ?_
        · rcases List.mem_append.mp hp with z | z
          · exact rin k (by omega) p z
          · obtain ⟨b, hb, rfl⟩ := List.mem_map.mp z
            have := mem_rng.mp hb
            dsimp only
            omega
        · rcases List.mem_append.mp z with z | z
          · have := (mem_pairs.mp z).1.2
            dsimp only at this
            omega
          · obtain ⟨b, hb, e⟩ := List.mem_map.mp z
            have := mem_rng.mp hb
            have e2 : b = (j : Int) := by simpa using e
            omega
      · unfold roadT
        rw [List.length_map, List.length_append, List.length_map, rng_len]
        have : (pairsOf m k).length ≤ k * m := pairs_len m k
        have : k * m ≤ 8 * 8 := Nat.mul_le_mul (by omega) (by omega)
        omega
      · refine ⟨.sh (j : Int), ?_⟩
        rw [show roadT (pairsOf m k ++ (rng (j + 1)).map fun b => ((k : Int), b)) = roadT (pairsOf m k ++ (rng j).map fun b => ((k : Int), b)) ++ [(rnote ((k : Int), (j : Int)), ((k : Int), (j : Int)))] by
          rw [rng_succ, List.map_append, ← List.append_assoc]
          unfold roadT
          rw [List.map_append]
          rfl]
        rfl
    rintro e ⟨o2, rfl⟩
    refine ⟨.sh (k : Int), o2, ?_⟩
    rw [Int.toNat_natCast, show pairsOf m (k + 1) = pairsOf m k ++ (rng m).map fun b => ((k : Int), b) by
      unfold pairsOf
      rw [rng_succ, List.map_append, List.flatten_append]
      simp]
  rintro e ⟨o1, o2, rfl⟩
  rw [Int.toNat_natCast]
  exact ws_ret (we_varM rfl q)
theorem ok_is_round (T : Tx K mg t) : FnOk P w K mg base CX0 1 t.a_is_round t.d_is_round ["net", "circuit"] (spF (cc K t) p_isround) := by
  refine T.F_is_round.ok sc_is_round (fun vs H Q E h => spF_len h (by rintro es R ⟨N, cs, rfl, _⟩; rfl)) (fun cdv A outer s H vs Q E hr h => ⟨_, (pss_cons (ps_if (pt_cmpR (op_neDK (K := K) rfl hr.units) (pe_callB (call_sortedK (K := K) rfl) rfl T.z_sorted PyProof.Rows.boot_sorted (pa_cons (pv 1) pa_nil)) (pe_callTy (call_listRange rfl) rfl T.z_list (by decide +kernel) (pa_cons (pe_callTy call_rangeV rfl T.z_range (by decide +kernel) (pa_cons (pe_callB (call_lenK (K := K) rfl) rfl T.z_len PySem.boot_len (pa_cons (pe_fldK (K := K) rfl (pv 0) rfl) pa_nil)) pa_nil)) pa_nil)) (nomark _))
        (pss_one (ps_ret pe_bl))
        pss_nil)
      (pss_cons (ps_for PassesOwn.never rfl (pi_enumK (K := K) rfl rfl T.z_enumerate (pa_cons (pv 1) pa_nil)) (pg_tupK (K := K) rfl rfl (pgs_cons (pg_name (i := 2) sc_is_round.nd rfl (by first | exact Or.inl rfl | exact Or.inr rfl)) (pgs_cons (pg_name (i := 3) sc_is_round.nd rfl (by first | exact Or.inl rfl | exact Or.inr rfl)) pgs_nil)))
        (pss_cons (ps_set (i := 4) sc_is_round.nd rfl (by first | exact Or.inl rfl | exact Or.inr rfl) (pe_ix (ix_listK (K := K) rfl) (pv 1) (pe_op op_sub (pv 2) pe_int) (fun _ _ => rfl)))
      (pss_one (ps_if (pt_cmpR op_ne (pe_ix (ix_tupK (K := K) rfl) (pe_ix (ix_listK (K := K) rfl) (pe_fldK (K := K) rfl (pv 0) rfl) (pv 4) (fun _ _ => rfl)) pe_int (fun _ _ => rfl)) (pe_ix (ix_tupK (K := K) rfl) (pe_ix (ix_listK (K := K) rfl) (pe_fldK (K := K) rfl (pv 0) rfl) (pv 3) (fun _ _ => rfl)) pe_int (fun _ _ => rfl)) (nomark _))
        (pss_one (ps_ret pe_bl))
        pss_nil))))
      (pss_one (ps_ret pe_bl)))), fn_data h ?_⟩)
  rintro es R ⟨N, cs, rfl, hrl, hcl, q⟩
  refine ws_seq (ws_if (wt_test (we_neD (we_sorted (we_var rfl ⟨hcl, fun ms p1 p2 => we_listRange (we_len (we_roads T.c_Net T.n_Net_roads (we_var rfl ⟨⟨by omega, by omega⟩, ⟨fun h => ?_, fun h => ?_⟩⟩)))⟩)))))
  · have hne : ¬ ms = rng N.rs.length := by simpa using h
    exact ws_retF (we_bl (q false ⟨fun z => (by cases z), fun z => absurd ((sorted_rng p1 p2).mpr z.1) hne⟩))
  · have he : ms = rng N.rs.length := by simpa using h
    have hP : cs.Perm (rng N.rs.length) := (sorted_rng p1 p2).mp he
    refine ws_next (ws_seq (ws_forE (we_varS rfl ⟨fun k e => (∃ a b d, e = [.sh N, .sh cs, a, b, d]) ∧ ∀ j, j < k → Joined N.rs cs j, ⟨⟨_, _, _, rfl⟩, fun j hj => absurd hj (by omega)⟩, ?_, ?_⟩)))
    · rintro k x e hx ⟨⟨a, b, d, rfl⟩, hj⟩
      have hk : k < cs.length := (List.getElem?_eq_some_iff.mp hx).1
      obtain ⟨a', b', e', f', h1, h2, h3, h4⟩ := look_at hP hk
      rw [hx] at h2
      cases h2
      refine ws_seq (ws_setF (we_ix (we_var rfl (we_sub (we_var rfl (we_int ⟨_, h1, ?_⟩))))))
      refine ws_if (wt_test (we_neI (we_snd (we_ix (we_roads T.c_Net T.n_Net_roads (we_var rfl (we_var rfl ⟨_, h3, (we_fst (we_ix (we_roads T.c_Net T.n_Net_roads (we_var rfl (we_var rfl ⟨_, h4, ⟨fun h => ?_, fun h => ws_next ?_⟩⟩)))))⟩)))))))
      · have hne : ¬ e'.2 = f'.1 := by simpa using h
        refine ws_retF (we_bl (q false ⟨fun z => (by cases z), fun z => ?_⟩))
        obtain ⟨a2, b2, e2, f2, g1, g2, g3, g4, g5⟩ := z.2 k hk
        rw [h1] at g1; cases g1
        rw [hx] at g2; cases g2
        rw [h3] at g3; cases g3
        rw [h4] at g4; cases g4
        exact absurd g5 hne
      · have he2 : e'.2 = f'.1 := by simpa using h
        refine ⟨⟨_, _, _, rfl⟩, fun j hj2 => ?_⟩
        by_cases ej : j = k
        · subst ej
          exact ⟨_, _, _, _, h1, hx, h3, h4, he2⟩
        · exact hj j (by omega)
    · rintro e ⟨⟨a, b, d, rfl⟩, hj⟩
      exact ws_retF (we_bl (q true ⟨fun _ => ⟨hP, hj⟩, fun _ => rfl⟩))
theorem ok_odd_places (T : Tx K mg t) : FnOk P w K mg base CX0 3 t.a_odd_places t.d_odd_places ["net"] (spF (cc K t) p_odd) := by
  refine T.F_odd_places.ok sc_odd_places (fun vs H Q E h => spF_len h (by rintro es R ⟨N, rfl, _⟩; rfl)) (fun cdv A outer s H vs Q E hr h => ⟨_, (pss_one (ps_ret (pe_comp (comp_mk ["place"] ["net"] [0] rfl (pi_range1 rfl T.z_range (pa_cons (pe_fldK (K := K) rfl (pv 0) rfl) pa_nil)) (fun _ _ _ _ => (pg_name (i := 0) (show (([("place" : Str)] : List Str) ++ ([("net" : Str)] : List Str)).Nodup by decide +kernel) rfl (by first | exact Or.inl rfl | exact Or.inr rfl))) own_name (fun _ _ _ _ => (pts_one (pt_cmpR op_ne (pe_callB (call_lenK (K := K) rfl) rfl T.z_len PySem.boot_len (pa_cons (pe_meth (pv 1) T.c_Net T.t_Net_outs (ok_Net_outs T) (hr.mono (by decide)) T.b_Net_outs .nil pass0 (pa_cons (pv 0) pa_nil)) pa_nil)) (pe_callB (call_lenK (K := K) rfl) rfl T.z_len PySem.boot_len (pa_cons (pe_meth (pv 1) T.c_Net T.t_Net_ins (ok_Net_ins T) (hr.mono (by decide)) T.b_Net_ins .nil pass0 (pa_cons (pv 0) pa_nil)) pa_nil)) (nomark _)))) (fun _ _ _ _ => (pv 0)))))), fn_data h ?_⟩)
  rintro es R ⟨N, rfl, hn, hrl, q⟩
  refine ws_ret (S' := []) (we_compR (we_size T.c_Net T.n_Net_size (we_var rfl ⟨⟨by omega, by omega⟩, fun k ys => ys = oddD k N.rs, rfl, ?_, ?_⟩)))
  · rintro k ys hk rfl
    refine (wt_test (we_neI (we_len (we_meth (by decide +kernel) (by decide +kernel) (we_var rfl (wa_cons (we_var rfl (wa_nil ⟨N, (k : Int), rfl, ⟨by omega, hk⟩, hrl, (we_len (we_meth (by decide +kernel) (by decide +kernel) (we_var rfl (wa_cons (we_var rfl (wa_nil ⟨N, (k : Int), rfl, ⟨by omega, hk⟩, hrl, ⟨fun h => we_varF rfl ?_, fun h => ?_⟩⟩))))))⟩))))))))
    · show _ = oddD (k + 1) N.rs
      unfold oddD
      rw [filter_rng_succ, if_pos]
      exact h
    · show _ = oddD (k + 1) N.rs
      unfold oddD
      rw [filter_rng_succ, if_neg, List.append_nil]
      unfold outsD insD
      rw [h]
      exact Bool.false_ne_true
  · rintro ys rfl
    exact q

theorem ok_walk_on (T : Tx K mg t) : FnOk P w K mg base CX0 1 t.a_walk_on t.d_walk_on ["net", "start", "waiting"] (spM (cc K t) p_walkon) := by
  refine T.F_walk_on.ok sc_walk_on (fun vs H Q E h => spM_len h (by rintro es w R ⟨N, st, rfl, _⟩; rfl)) (fun cdv A outer s H vs Q E hr h => ⟨_, (pss_cons (ps_set (i := 3) sc_walk_on.nd rfl (by first | exact Or.inl rfl | exact Or.inr rfl) (pv 1))
      (pss_cons (ps_set (i := 4) sc_walk_on.nd rfl (by first | exact Or.inl rfl | exact Or.inr rfl) (pe_lst pa_nil))
      (pss_cons (ps_while PassesOwn.never (pt_truthK (K := K) rfl (pe_ix (ix_listK (K := K) rfl) (pv 2) (pv 3) (fun _ _ => rfl)) (fun _ => rfl))
        (pss_cons (ps_set (i := 5) sc_walk_on.nd rfl (by first | exact Or.inl rfl | exact Or.inr rfl) (pe_bmK (K := K) rfl PySem.F.plainAttrs_list PySem.F.slot_list_pop PySem.F.type_list_pop mt_popAt (pe_ix (ix_listK (K := K) rfl) (pv 2) (pv 3) (fun _ _ => rfl)) (pa_cons pe_int pa_nil)))
      (pss_cons (ps_expr (pe_bmK (K := K) rfl PySem.F.plainAttrs_list PySem.F.slot_list_append PySem.F.type_list_append mt_append (pv 4) (pa_cons (pv 5) pa_nil)))
      (pss_one (ps_set (i := 3) sc_walk_on.nd rfl (by first | exact Or.inl rfl | exact Or.inr rfl) (pe_ix (ix_tupK (K := K) rfl) (pe_ix (ix_listK (K := K) rfl) (pe_fldK (K := K) rfl (pv 0) rfl) (pv 5) (fun _ _ => rfl)) pe_int (fun _ _ => rfl)))))))
      (pss_one (ps_ret (pv 4)))))), fn_dataM h ?_⟩)
  rintro es rows R v0 ⟨N, st, rfl, hn, hin, hrl, hst, hlen, hrows, q⟩
  have hlen' : rows.length ≤ 8 := by omega
  refine ws_seq (ws_setF (we_var rfl ?_))
  refine ws_seq (ws_setO (α := List Int) (we_nil ⟨rfl, ?_⟩))
  have ht : tot rows ≤ 200 := by
    have := tot_le (w := rows) (b := 24) fun x hx => (hrows x hx).2
    have : rows.length * 24 ≤ 8 * 24 := Nat.mul_le_mul_right _ hlen'
    omega
  refine ws_seq (ws_while (fun k e => ∃ w p path o, e = [.sh N, .sh st, .ow (⟨w⟩ : Pin v0 (List (List Int))), .sh p, .ow path, o] ∧ tot w = k ∧ path.length + tot w ≤ 200 ∧ (0 ≤ p ∧ p < N.n) ∧ (w.length : Int) = N.n ∧ (∀ row ∈ w, ∀ r ∈ row, 0 ≤ r ∧ r < N.rs.length) ∧ ∀ path2 w' q, WkR N.rs w p path2 w' q → WkR N.rs rows st (path ++ path2) w' q)
    ⟨_, rows, st, [], _, rfl, rfl, by simpa using ht, hst, hlen, fun row hr => (hrows row hr).1, fun _ _ _ h => h⟩ ?_)
  rintro k e ⟨w, p, path, o, rfl, hk, hpl, hp, hwl, hw, he⟩
  obtain ⟨row, hrow, hrow2, hrm⟩ := atI_ge (xs := w) (i := p) hp.1 (by omega)
  have hgd : w.getD p.toNat [] = row := by rw [List.getD_eq_getElem?_getD, hrow2]; rfl
  refine wt_truth (we_ix (we_varP (γ := List (List Int)) rfl (we_var rfl ⟨_, hrow, ⟨fun h => ?_, fun h => ?_⟩⟩)))
  · cases row with
    | nil => cases h
    | cons r rest =>
      have hr := hw _ hrm r List.mem_cons_self
      have hrd := rd_in hin hr.1 hr.2
      have ht2 := tot_set hrow2
      refine ws_seq (ws_popIP rfl (by decide) (we_var rfl ⟨p.toNat, r, rest, ?_, hrow2, ?_⟩))
      · unfold ixN
        rw [if_pos hp.1, if_pos (by omega)]
      refine ws_seq (ws_append rfl (we_varF rfl ⟨by omega, ?_⟩))
      refine ws_setF (we_snd (we_ix (we_roads T.c_Net T.n_Net_roads (we_var rfl (we_var rfl ⟨_, rd_at hr.1 hr.2, ?_⟩)))))
      refine ⟨tot (w.set p.toNat rest), by omega, w.set p.toNat rest, en N.rs r, path ++ [r], _, rfl, rfl, ?_, hrd.2, by rw [List.length_set]; exact hwl, fun row hrw x hx => ?_, fun path2 w' q h2 => ?_⟩
      · rw [List.length_append]
        simp
        omega
      · rcases List.mem_or_eq_of_mem_set hrw with z | z
        · exact hw row z x hx
        · subst z
          exact hw _ hrm x (List.mem_cons_of_mem _ hx)
      · rw [List.append_assoc]
        exact he _ _ _ (.cons hgd h2)
  · have hr0 : row = [] := by cases row with | nil => rfl | cons _ _ => cases h
    subst hr0
    have h2 := he [] w p (.nil hgd)
    rw [List.append_nil] at h2
    exact ws_retM (i := 2) (S' := [4]) rfl (by decide) (we_varM rfl (q _ _ _ h2))

theorem okX_Net_init (T : Tx K mg t) : FnOk P w K mg base (CXX P w) 1 t.a_Net_init t.d_Net_init ["self", "size"] (spX (cc K t) (p_xinit t.c_TooMany)) := by
  refine T.F_Net_init.okX sc_Net_init (fun vs H Q E h => spX_len h (by rintro es R X ⟨y, n, rfl, _⟩; rfl)) (fun cdv A outer s H vs Q E hr h => ⟨_, (pss_cons (ps_if (pt_not (pt_chain op_le op_le pe_int (pv 1) (pe_glob (v := .int 8) rfl T.g_MOST_PLACES.choose_spec ⟨_, rfl⟩)))
        (pss_one (ps_raise rfl T.x_TooMany rfl T.m_TooMany (pa_cons pe_str pa_nil) made_def))
        pss_nil)
      (pss_cons (ps_fld (pv 0) (pv 1) rfl)
      (pss_one (ps_fld (pv 0) (pe_lst pa_nil) rfl)))), fnx_dataU h ?_⟩)
  rintro es R X ⟨y, n, rfl, hn, hX⟩ xp
  have no : ∀ {e : List (Ent (cc K t))} {n : Str} {R' : Rs (cc K t) Unit}, WSx H e (tRaise (tCons (tC (.str n)) tNil) fun _ H' => Dom H H' ∧ E (.ref t.c_TooMany) none H') R' := fun {e n R'} => wx_raise xp hX (we_str (m := .any) (n := n) trivial)
  refine wx_seq (wx_if (wt_not (wt_test (we_chain (we_int (we_var rfl ⟨fun h => we_int ⟨fun _ => no, fun h2 => ?_⟩, fun h => ⟨fun _ => no, fun z => (by cases z)⟩⟩))))))
  have h1 := of_decide_eq_true h
  have h2' : decide (n ≤ 8) = true := by simpa using h2
  exact absurd ⟨h1, of_decide_eq_true h2'⟩ hn

theorem okX_Net_need_place (T : Tx K mg t) : FnOk P w K mg base (CXX P w) 1 t.a_Net_need_place t.d_Net_need_place ["self", "place"] (spX (cc K t) (p_xneed t.c_NoPlace)) := by
  refine T.F_Net_need_place.okX sc_Net_need_place (fun vs H Q E h => spX_len h (by rintro es R X ⟨y, n, rfl, _⟩; rfl)) (fun cdv A outer s H vs Q E hr h => ⟨_, (pss_one (ps_if (pt_not (pt_chain op_le op_lt pe_int (pv 1) (pe_fldK (K := K) rfl (pv 0) rfl)))
        (pss_one (ps_raise rfl T.x_NoPlace rfl T.m_NoPlace (pa_cons pe_str pa_nil) made_def))
        pss_nil)), fnx_dataU h ?_⟩)
  rintro es R X ⟨N, k, rfl, q1, q2⟩ xp
  have no : X t.c_NoPlace → ∀ {e : List (Ent (cc K t))} {n : Str} {R' : Rs (cc K t) Unit}, WSx H e (tRaise (tCons (tC (.str n)) tNil) fun _ H' => Dom H H' ∧ E (.ref t.c_NoPlace) none H') R' := fun hX {e n R'} => wx_raise xp hX (we_str (m := .any) (n := n) trivial)
  refine wx_if (wt_not (wt_test (we_chain (we_int (we_var rfl ⟨fun h => we_size T.c_Net T.n_Net_size (we_var rfl ⟨fun h2 => no (q1 fun z => ?_), fun h2 => wx_next (q2 ?_)⟩), fun h => ⟨fun _ => no (q1 fun z => ?_), fun z => (by cases z)⟩⟩)))))
  · rw [decide_eq_true z.2] at h2
    cases h2
  · have h2' : decide (k < N.n) = true := by simpa using h2
    exact ⟨of_decide_eq_true h, of_decide_eq_true h2'⟩
  · rw [decide_eq_true z.1] at h
    cases h

theorem okX_Net_lay (T : Tx K mg t) : FnOk P w K mg base (CXX P w) 2 t.a_Net_lay t.d_Net_lay ["self", "start", "goal"] (spX (cc K t) (p_xlay0 t.c_NoPlace)) := by
  refine T.F_Net_lay.okX sc_Net_lay (fun vs H Q E h => spX_len h (by rintro es R X ⟨N, a, b, rfl, _⟩; rfl)) (fun cdv A outer s H vs Q E hr h => ⟨_, (pss_cons (ps_expr (pe_methG (pv 0) T.c_Net T.t_Net_need_place (okX_Net_need_place T) (hr.mono (by decide)) T.b_Net_need_place .nil passG_def (pa_cons (pv 1) pa_nil)))
      (pss_cons (ps_expr (pe_methG (pv 0) T.c_Net T.t_Net_need_place (okX_Net_need_place T) (hr.mono (by decide)) T.b_Net_need_place .nil passG_def (pa_cons (pv 2) pa_nil)))
      (pss_cons (ps_if (pt_cmpR op_ge (pe_callB (call_lenK (K := K) rfl) rfl T.z_len PySem.boot_len (pa_cons (pe_fldK (K := K) rfl (pv 0) rfl) pa_nil)) (pe_glob (v := .int 24) rfl T.g_MOST_ROADS.choose_spec ⟨_, rfl⟩) (nomark _))
        (pss_one (ps_raise rfl T.x_TooMany rfl T.m_TooMany (pa_cons pe_str pa_nil) made_def))
        pss_nil)
      (pss_cons (ps_expr (pe_bmK (K := K) rfl PySem.F.plainAttrs_list PySem.F.slot_list_append PySem.F.type_list_append mt_append (pe_fldK (K := K) rfl (pv 0) rfl) (pa_cons (pe_tup (pa_cons (pv 1) (pa_cons (pv 2) pa_nil))) pa_nil)))
      (pss_one (ps_ret (pe_op op_sub (pe_callB (call_lenK (K := K) rfl) rfl T.z_len PySem.boot_len (pa_cons (pe_fldK (K := K) rfl (pv 0) rfl) pa_nil)) pe_int))))))), fnx_data h ?_⟩)
  rintro es R X ⟨N, a, b, rfl, hb, q⟩ xp
  refine wx_seq (wx_drop (α := Unit) (wg_meth xp (by decide +kernel) (by decide +kernel) (we_var rfl (wa_cons (we_var rfl (wa_nil ⟨X, ⟨N, a, rfl, fun _ => q, fun _ => ?_⟩, fun C h => h⟩))))))
  exact wx_seq (wx_drop (α := Unit) (wg_meth xp (by decide +kernel) (by decide +kernel) (we_var rfl (wa_cons (we_var rfl (wa_nil ⟨X, ⟨N, b, rfl, fun _ => q, fun z => absurd z hb⟩, fun C h => h⟩))))))
theorem okX_need_orders (T : Tx K mg t) : FnOk P w K mg base (CXX P w) 3 t.a_need_orders t.d_need_orders ["net", "rows"] (spX (cc K t) (p_xneedorders t.c_NoOrders)) := by
  refine T.F_need_orders.okX sc_need_orders (fun vs H Q E h => spX_len h (by rintro es R X ⟨N, rows, rfl, _⟩; rfl)) (fun cdv A outer s H vs Q E hr h => ⟨_, (pss_one (ps_if (pt_cmpR (op_neDK (K := K) rfl hr.units) (pe_comp (comp_mk ["row"] [] [] rfl (pi_listK (K := K) rfl (pv 1)) (fun _ _ _ _ => (pg_name (i := 0) (show (([("row" : Str)] : List Str) ++ ([] : List Str)).Nodup by decide +kernel) rfl (by first | exact Or.inl rfl | exact Or.inr rfl))) own_name (fun _ _ _ _ => pts_nil) (fun _ _ _ _ => (pe_callB (call_sortedK (K := K) rfl) rfl T.z_sorted PyProof.Rows.boot_sorted (pa_cons (pv 0) pa_nil))))) (pe_comp (comp_mk ["place"] ["net"] [0] rfl (pi_range1 rfl T.z_range (pa_cons (pe_fldK (K := K) rfl (pv 0) rfl) pa_nil)) (fun _ _ _ _ => (pg_name (i := 0) (show (([("place" : Str)] : List Str) ++ ([("net" : Str)] : List Str)).Nodup by decide +kernel) rfl (by first | exact Or.inl rfl | exact Or.inr rfl))) own_name (fun _ _ _ _ => pts_nil) (fun _ _ _ _ => (pe_meth (pv 1) T.c_Net T.t_Net_outs (ok_Net_outs T) (hr.mono (by decide)) T.b_Net_outs .nil pass0 (pa_cons (pv 0) pa_nil))))) (nomark _))
        (pss_one (ps_raise rfl T.x_NoOrders rfl T.m_NoOrders (pa_cons pe_str pa_nil) made_def))
        pss_nil)), fnx_dataU h ?_⟩)
  rintro es R X ⟨N, rows, rfl, hn, hrl, hl, hw, q1, q2⟩ xp
  refine wx_if (wt_test (we_neD (we_compL (α := List Int) (β := List Int) (we_var rfl ⟨by omega, fun k ys => ys.length = k ∧ ∀ (j : Nat) (ms : List Int), ys[j]? = some ms → ∃ row, rows[j]? = some row ∧ ms.Perm row ∧ ms.Pairwise (· ≤ ·), ⟨rfl, fun j ms hj => (by simp at hj)⟩, ?_, ?_⟩))))
  · rintro k x ys hx ⟨hk, hs⟩
    refine wt_all (we_sorted (we_var rfl ⟨hw x (List.mem_of_getElem? hx), fun ms p1 p2 => ⟨by rw [List.length_append, hk]; rfl, fun j m hj => ?_⟩⟩))
    by_cases e : j < k
    · rw [List.getElem?_append_left (by omega)] at hj
      exact hs j m hj
    · rw [List.getElem?_append_right (by omega)] at hj
      have e0 : j = k := by
        have := (List.getElem?_eq_some_iff.mp hj).1
        simp at this
        omega
      subst e0
      rw [hk, Nat.sub_self] at hj
      cases hj
      exact ⟨x, hx, p1, p2⟩
  rintro ys ⟨hyl, hys⟩
  have hgi := good_iff (n := N.n.toNat) (rs := N.rs) hyl hys
  refine we_compR (we_size T.c_Net T.n_Net_size (we_var rfl ⟨⟨by omega, by omega⟩, fun k ys => ys = (rng k).map (outsD N.rs), rfl, ?_, ?_⟩))
  · rintro k ys hk rfl
    refine wt_all (we_meth (by decide +kernel) (by decide +kernel) (we_var rfl (wa_cons (we_var rfl (wa_nil ⟨N, (k : Int), rfl, ⟨by omega, hk⟩, hrl, ?_⟩)))))
    dsimp only
    rw [rng_succ, List.map_append]
    rfl
  rintro zs rfl
  refine ⟨fun h => wx_raise xp (q2 fun g => ?_) (we_str trivial), fun h => wx_next (q1 (hgi.mp ?_))⟩
  · rw [decide_eq_true (hgi.mpr g)] at h
    cases h
  · have h' : decide (ys = (rng N.n.toNat).map (outsD N.rs)) = true := by simpa using h
    exact of_decide_eq_true h'
theorem okX_need_even (T : Tx K mg t) : FnOk P w K mg base (CXX P w) 4 t.a_need_even t.d_need_even ["net"] (spX (cc K t) (p_xneedeven t.c_NotEven)) := by
  refine T.F_need_even.okX sc_need_even (fun vs H Q E h => spX_len h (by rintro es R X ⟨N, rfl, _⟩; rfl)) (fun cdv A outer s H vs Q E hr h => ⟨_, (pss_one (ps_if (pt_truthK (K := K) rfl (pe_call (ok_odd_places T) (hr.mono (by decide)) rfl T.m_odd_places T.F_odd_places.kp T.b_odd_places .nil pass0 (pa_cons (pv 0) pa_nil)) (fun _ => rfl))
        (pss_one (ps_raise rfl T.x_NotEven rfl T.m_NotEven (pa_cons pe_str pa_nil) made_def))
        pss_nil)), fnx_dataU h ?_⟩)
  rintro es R X ⟨N, rfl, hn, hrl, q1, q2⟩ xp
  refine wx_if (wt_truth (we_call (wa_cons (we_var rfl (wa_nil ⟨N, rfl, hn, hrl, ⟨fun h => wx_raise xp (q2 fun z => ?_) (we_str trivial), fun h => wx_next (q1 ?_)⟩⟩)))))
  · rw [z] at h
    cases h
  · cases e : oddD N.n.toNat N.rs with
    | nil => rfl
    | cons x xs =>
      rw [e] at h
      cases h
theorem ok_NotWhole_init (T : Tx K mg t) : FnOk P w K mg base CX0 1 t.a_NotWhole_init t.d_NotWhole_init ["self", "left"] (sp_keepl (cc K t) t.c_NotWhole) :=
  T.F_NotWhole_init.ok sc_NotWhole_init (fun vs H Q E h => keepl_len h) (fun cdv A outer s H vs Q E hr h => ⟨_, (pss_cons (ps_expr (pe_binit T.x_NotWhole T.bi_RoadError rfl T.m_RoadError (pa_cons (pv 0) (pa_cons pe_str pa_nil))))
      (pss_one (ps_xfld T.x_NotWhole T.xa_NotWhole (pv 0) (pe_callTy (call_listK (K := K) rfl) rfl T.z_list (by decide +kernel) (pa_cons (pv 1) pa_nil)) rfl))), keepl_body h⟩)
theorem okX_by_orders (T : Tx K mg t) : FnOk P w K mg base (CXD P w) 5 t.a_by_orders t.d_by_orders ["net", "start", "rows"] (spD (cc K t) (p_byD t.c_NoPlace t.c_NoOrders t.c_NotEven t.c_NotWhole)) := by
  refine T.F_by_orders.okD sc_by_orders (fun vs H Q E h => spD_len h (by rintro es R X Y ⟨N, st, rows, rfl, _⟩; rfl)) (fun cdv A outer s H vs Q E hr h => ⟨_, (pss_cons (ps_expr (pe_methG (pv 0) T.c_Net T.t_Net_need_place (okX_Net_need_place T) (hr.mono (by decide)) T.b_Net_need_place .nil passG_defD (pa_cons (pv 1) pa_nil)))
      (pss_cons (ps_expr (pe_callG (okX_need_orders T) (hr.mono (by decide)) rfl T.m_need_orders T.F_need_orders.kp T.b_need_orders .nil passG_defD (pa_cons (pv 0) (pa_cons (pv 2) pa_nil))))
      (pss_cons (ps_expr (pe_callG (okX_need_even T) (hr.mono (by decide)) rfl T.m_need_even T.F_need_even.kp T.b_need_even .nil passG_defD (pa_cons (pv 0) pa_nil)))
      (pss_cons (ps_set (i := 3) sc_by_orders.nd rfl (by first | exact Or.inl rfl | exact Or.inr rfl) (pe_call (ok_walk_on T) (hr.mono (by decide)) rfl T.m_walk_on T.F_walk_on.kp T.b_walk_on .nil pass0 (pa_cons (pv 0) (pa_cons (pv 1) (pa_cons (pe_comp (comp_mk ["row"] [] [] rfl (pi_listK (K := K) rfl (pv 2)) (fun _ _ _ _ => (pg_name (i := 0) (show (([("row" : Str)] : List Str) ++ ([] : List Str)).Nodup by decide +kernel) rfl (by first | exact Or.inl rfl | exact Or.inr rfl))) own_name (fun _ _ _ _ => pts_nil) (fun _ _ _ _ => (pe_callTy (call_listK (K := K) rfl) rfl T.z_list (by decide +kernel) (pa_cons (pv 0) pa_nil))))) pa_nil)))))
      (pss_cons (ps_setComp (i := 4) sc_by_orders.nd rfl rfl (comp_mk ["road"] ["path"] [3] rfl (pi_range1 rfl T.z_range (pa_cons (pe_callB (call_lenK (K := K) rfl) rfl T.z_len PySem.boot_len (pa_cons (pe_fldK (K := K) rfl (pv 0) rfl) pa_nil)) pa_nil)) (fun _ _ _ _ => (pg_name (i := 0) (show (([("road" : Str)] : List Str) ++ ([("path" : Str)] : List Str)).Nodup by decide +kernel) rfl (by first | exact Or.inl rfl | exact Or.inr rfl))) own_name (fun _ _ _ _ => (pts_one (pt_cmpR (op_notInK (K := K) rfl) (pv 0) (pv 1) (by with_unfolding_all rfl)))) (fun _ _ _ _ => (pv 0))))
      (pss_cons (ps_if (pt_truthK (K := K) rfl (pv 4) (fun _ => rfl))
        (pss_one (ps_raiseI rfl T.x_NotWhole T.if_NotWhole rfl T.m_NotWhole (ok_NotWhole_init T) (hr.mono (by decide)) T.b_NotWhole_init T.kp_NotWhole (pa_cons (pv 4) pa_nil) made_defE))
        pss_nil)
      (pss_one (ps_ret (pv 3))))))))), fnD_data h ?_⟩)
  rintro es R X Y ⟨N, st, rows, rfl, ⟨hn, hin, hrl, hl, hw⟩, bo⟩ xp
  refine wx_seq (wx_drop (wg_meth xp.toXp (by decide +kernel) (by decide +kernel) (we_var rfl (wa_cons (we_var rfl (wa_nil ⟨X, ⟨N, st, rfl, fun z => bo.np z, fun hst => ?_⟩, fun C h => h⟩))))))
  refine wx_seq (wx_drop (wg_call xp.toXp (wa_cons (we_var rfl (wa_cons (we_var rfl (wa_nil ⟨X, ⟨N, rows, rfl, hn, hrl, hl, hw, fun hg => ?_, fun hg => bo.no hst hg⟩, fun C h => h⟩)))))))
  refine wx_seq (wx_drop (wg_call xp.toXp (wa_cons (we_var rfl (wa_nil ⟨X, ⟨N, rfl, hn, hrl, fun ho => ?_, fun ho => bo.ne hst hg ho⟩, fun C h => h⟩)))))
  have hg1 := hg.1
  refine wx_seqS (ws_setO (α := List Int) (we_callT (wat_cons (we_var rfl (wat_cons (we_var rfl (wat_last (we_compL (α := List Int) (β := List Int) (we_var rfl ⟨by omega, fun k ys => ys = rows.take k, rfl, ?_, ?_⟩)))))))))
  · rintro k x ys hx rfl
    refine wt_all (we_list (we_var rfl ?_))
    dsimp only
    rw [List.take_add_one, hx]
    rfl
  rintro ys rfl
  rw [List.take_length]
  refine ⟨N, st, rfl, hn, hin, hrl, hst, by omega, fun row hr => ⟨(hg.mem hr).1, by have := (hg.mem hr).2; omega⟩, fun path w' pe hwk => ⟨rfl, ?_⟩⟩
  have hpe := hwk.eq
  subst hpe
  refine wx_seqS (ws_setO (α := List Int) (we_compR (β := Int) (we_len (we_roads T.c_Net T.n_Net_roads (we_var rfl ⟨⟨by omega, by omega⟩, fun k ys => ys = (rng k).filter fun r => !decide (r ∈ walkD N.rs rows st), rfl, ?_, ?_⟩)))))
  · rintro k ys hk rfl
    refine (wt_test (we_notin (we_var rfl (we_var rfl ⟨fun h => we_varF rfl ?_, fun h => ?_⟩))))
    · dsimp only
      rw [filter_rng_succ, if_pos h]
    · dsimp only
      rw [filter_rng_succ, if_neg (by rw [h]; decide), List.append_nil]
  · rintro ys rfl
    refine ⟨rfl, ?_⟩
    rw [Int.toNat_natCast]
    refine wx_seq (wx_if (wt_truth (we_var rfl ⟨fun h => wx_raiseD xp (we_var rfl (bo.nw hst hg ho fun z => ?_)), fun h => wx_next ?_⟩)))
    · rw [show (rng N.rs.length).filter (fun r => !decide (r ∈ walkD N.rs rows st)) = [] from z] at h
      cases h
    · refine wx_of (ws_ret (we_varM rfl (bo.ok hst hg ho ?_)))
      unfold leftD
      cases e : (rng N.rs.length).filter (fun r => !decide (r ∈ walkD N.rs rows st)) with
      | nil => rfl
      | cons x xs =>
        rw [e] at h
        cases h

theorem okX_need_round (T : Tx K mg t) : FnOk P w K mg base (CXX P w) 2 t.a_need_round t.d_need_round ["net", "circuit"] (spX (cc K t) (p_xround t.c_NoRound)) := by
  refine T.F_need_round.okX sc_need_round (fun vs H Q E h => spX_len h (by rintro es R X ⟨N, cs, rfl, _⟩; rfl)) (fun cdv A outer s H vs Q E hr h => ⟨_, (pss_one (ps_if (pt_not (pt_val (pe_call (ok_is_round T) (hr.mono (by decide)) rfl T.m_is_round T.F_is_round.kp T.b_is_round .nil pass0 (pa_cons (pv 0) (pa_cons (pv 1) pa_nil)))))
        (pss_one (ps_raise rfl T.x_NoRound rfl T.m_NoRound (pa_cons pe_str pa_nil) made_def))
        pss_nil)), fnx_dataU h ?_⟩)
  rintro es R X ⟨N, cs, rfl, hrl, hcl, q1, q2⟩ xp
  refine wx_if (wt_not (wt_val (we_call (wa_cons (we_var rfl (wa_cons (we_var rfl (wa_nil ⟨N, cs, rfl, hrl, hcl, fun b hb => ⟨fun h => ?_, fun h => ?_⟩⟩))))))))
  · refine wx_raise xp (q2 fun z => ?_) (we_str trivial)
    rw [hb.mpr z] at h
    cases h
  · exact wx_next (q1 (hb.mp (by simpa using h)))

theorem okX_need_bounds (T : Tx K mg t) : FnOk P w K mg base (CXX P w) 1 t.a_need_bounds t.d_need_bounds ["circuit", "bounds"] (spX (cc K t) (p_xneedb t.c_NoExchange)) := by
  refine T.F_need_bounds.okX sc_need_bounds (fun vs H Q E h => spX_len h (by rintro es R X ⟨cs, x, rfl, _⟩; rfl)) (fun cdv A outer s H vs Q E hr h => ⟨_, (pss_one (ps_if (pt_not (pt_chainN pe_int (pk_link op_le (pe_ix (ix_tupK (K := K) rfl) (pv 1) pe_int (fun _ _ => rfl)) (pk_link op_lt (pe_ix (ix_tupK (K := K) rfl) (pv 1) pe_int (fun _ _ => rfl)) (pk_link op_le (pe_ix (ix_tupK (K := K) rfl) (pv 1) pe_int (fun _ _ => rfl)) (pk_link op_lt (pe_ix (ix_tupK (K := K) rfl) (pv 1) pe_int (fun _ _ => rfl)) (pk_last op_le (pe_callB (call_lenK (K := K) rfl) rfl T.z_len PySem.boot_len (pa_cons (pv 0) pa_nil)))))))))
        (pss_one (ps_raise rfl T.x_NoExchange rfl T.m_NoExchange (pa_cons pe_str pa_nil) made_def))
        pss_nil)), fnx_dataU h ?_⟩)
  rintro es R X ⟨cs, x, rfl, q1, q2⟩ xp
  have no : ∀ {b : Bool}, (b = true → False) → ¬ Bok cs.length x → WSx H [.sh cs, .sh x] (tRaise (tCons (tC (.str "these are not the bounds of two stretches of the round")) tNil) fun _ H' => Dom H H' ∧ E (.ref t.c_NoExchange) none H') ({ nx := fun _ => R (), rt := R } : Rs (cc K t) Unit) := fun _ h => wx_raise xp (q2 h) (we_str trivial)
  refine wx_if (wt_not (wt_chainN (we_int (wk_link (we_q1 (we_var rfl ⟨fun h1 => wk_link (we_q2 (we_var rfl ⟨fun h2 => wk_link (we_q3 (we_var rfl ⟨fun h3 => wk_link (we_q4th (we_var rfl ⟨fun h4 => wk_last (we_len (we_var rfl ⟨fun h => ?_, fun h => ?_⟩)), fun h4 => ⟨fun _ => ?_, fun z => (by cases z)⟩⟩)), fun h3 => ⟨fun _ => ?_, fun z => (by cases z)⟩⟩)), fun h2 => ⟨fun _ => ?_, fun z => (by cases z)⟩⟩)), fun h1 => ⟨fun _ => ?_, fun z => (by cases z)⟩⟩))))))
  · exact wx_raise xp (q2 fun z => by simp [z.2.2.2.2] at h) (we_str trivial)
  · refine wx_next (q1 ⟨of_decide_eq_true h1, of_decide_eq_true h2, of_decide_eq_true h3, of_decide_eq_true h4, ?_⟩)
    simpa using h
  · exact wx_raise xp (q2 fun z => by simp [z.2.2.2.1] at h4) (we_str trivial)
  · exact wx_raise xp (q2 fun z => by simp [z.2.2.1] at h3) (we_str trivial)
  · exact wx_raise xp (q2 fun z => by simp [z.2.1] at h2) (we_str trivial)
  · exact wx_raise xp (q2 fun z => by simp [z.1] at h1) (we_str trivial)

theorem okX_exchanged (T : Tx K mg t) : FnOk P w K mg base (CXX P w) 3 t.a_exchanged t.d_exchanged ["net", "circuit", "bounds"] (spX (cc K t) (p_xexch0 t.c_NoExchange)) := by
  refine T.F_exchanged.okX sc_exchanged (fun vs H Q E h => spX_len h (by rintro es R X ⟨N, cs, x, rfl, _⟩; rfl)) (fun cdv A outer s H vs Q E hr h => ⟨_, (pss_cons (ps_expr (pe_callG (okX_need_round T) (hr.mono (by decide)) rfl T.m_need_round T.F_need_round.kp T.b_need_round .nil passG_def (pa_cons (pv 0) (pa_cons (pv 1) pa_nil))))
      (pss_cons (ps_expr (pe_callG (okX_need_bounds T) (hr.mono (by decide)) rfl T.m_need_bounds T.F_need_bounds.kp T.b_need_bounds .nil passG_def (pa_cons (pv 1) (pa_cons (pv 2) pa_nil))))
      (pss_cons ps_never
      (pss_cons ps_never
      (pss_one ps_never))))), fnx_data h ?_⟩)
  rintro es R X ⟨N, cs, x, rfl, hrl, hcl, hR, hb, q⟩ xp
  refine wx_seq (wx_drop (α := Unit) (wg_call xp (wa_cons (we_var rfl (wa_cons (we_var rfl (wa_nil ⟨X, ⟨N, cs, rfl, hrl, hcl, fun _ => ?_, fun z => absurd hR z⟩, fun C h => h⟩)))))))
  exact wx_seq (wx_drop (α := Unit) (wg_call xp (wa_cons (we_var rfl (wa_cons (we_var rfl (wa_nil ⟨X, ⟨cs, x, rfl, fun z => absurd z hb, fun _ => q⟩, fun C h => h⟩)))))))
theorem okX_orders (T : Tx K mg t) : FnOk P w K mg base (CXX P w) 3 t.a_orders t.d_orders ["net", "circuit"] (spX (cc K t) (β := List (List Int)) (p_xbad t.c_NoRound)) := by
  refine T.F_orders.okX sc_orders (fun vs H Q E h => spX_len h (by rintro es R X ⟨N, cs, rfl, _⟩; rfl)) (fun cdv A outer s H vs Q E hr h => ⟨_, (pss_cons (ps_expr (pe_callG (okX_need_round T) (hr.mono (by decide)) rfl T.m_need_round T.F_need_round.kp T.b_need_round .nil passG_def (pa_cons (pv 0) (pa_cons (pv 1) pa_nil))))
      (pss_cons ps_never
      (pss_cons ps_never
      (pss_one ps_never)))), fnx_data h ?_⟩)
  rintro es R X ⟨N, cs, rfl, hrl, hcl, hno, q⟩ xp
  exact wx_seq (wx_drop (wg_call xp (wa_cons (we_var rfl (wa_cons (we_var rfl (wa_nil ⟨X, ⟨N, cs, rfl, hrl, hcl, fun z => absurd z hno, fun _ => q⟩, fun C h => h⟩)))))))

theorem nat2 {s l : Int} (h : Wk2 s l) (hl : l ≤ 30) : ∃ a k : Nat, s = (a : Int) ∧ l = (k : Int) ∧ Win a k := by
  refine ⟨s.toNat, l.toNat, by have := h.1; omega, by have := h.2.1; omega, win_ok ?_ ?_ ?_ h.2.2⟩
  · have := h.1; omega
  · have := h.2.1; omega
  · omega
theorem okX_window_count (T : Tx K mg t) : FnOk P w K mg base (CXX P w) 1 t.a_window_count t.d_window_count ["signs", "length"] (spX (cc K t) (p_xwcount t.c_NoWindows)) := by
  refine T.F_window_count.okX sc_window_count (fun vs H Q E h => spX_len h (by rintro es R X ⟨s, l, rfl, _⟩; rfl)) (fun cdv A outer s H vs Q E hr h => ⟨_, (pss_cons (ps_if (PW.pt (pw_or (pt_cmpR op_lt (pv 0) pe_int (nomark _)) (pw_or1 (pt_cmpR op_lt (pv 1) pe_int (nomark _)))))
        (pss_one (ps_raise rfl T.x_NoWindows rfl T.m_NoWindows (pa_cons pe_str pa_nil) made_def))
        pss_nil)
      (pss_cons (ps_set (i := 2) sc_window_count.nd rfl (by first | exact Or.inl rfl | exact Or.inr rfl) pe_int)
      (pss_cons (ps_for PassesOwn.leaving rfl (pi_range1 rfl T.z_range (pa_cons (pv 1) pa_nil)) (pg_name (i := 3) sc_window_count.nd rfl (by first | exact Or.inl rfl | exact Or.inr rfl))
        (pss_cons (ps_set (i := 2) sc_window_count.nd rfl (by first | exact Or.inl rfl | exact Or.inr rfl) (pe_op op_mul (pv 2) (pv 0)))
      (pss_one (ps_if (pt_cmpR op_gt (pv 2) (pe_glob (v := .int 24) rfl T.g_MOST_ROADS.choose_spec ⟨_, rfl⟩) (nomark _))
        (pss_one (ps_raise rfl T.x_NoWindows rfl T.m_NoWindows (pa_cons pe_str pa_nil) made_def))
        pss_nil))))
      (pss_one (ps_ret (pv 2)))))), fnx_data h ?_⟩)
  rintro es R X ⟨s, l, rfl, hs, hl, q1, q2⟩ xp
  have no : ¬ Wk2 s l → ∀ {e : List (Ent (cc K t))} {n : Str} {R' : Rs (cc K t) Int}, WSx H e (tRaise (tCons (tC (.str n)) tNil) fun _ H' => Dom H H' ∧ E (.ref t.c_NoWindows) none H') R' := fun h {e n R'} => wx_raise xp (q2 h) (we_str (m := .any) (n := n) trivial)
  refine wx_seq (wx_if (wt_or (wt_test (we_iB (we_var rfl (we_int ⟨fun h => ⟨fun _ => no ?_, fun z => (by cases z)⟩, fun h1 => (wt_test (we_iB (we_var rfl (we_int ⟨fun h => no ?_, fun h2 => wx_next ?_⟩))))⟩))))))
  · rintro ⟨z, _⟩
    have := of_decide_eq_true h
    omega
  · rintro ⟨_, z, _⟩
    have := of_decide_eq_true h
    omega
  have h1 := of_decide_eq_false h1
  have h2 := of_decide_eq_false h2
  obtain ⟨a, rfl⟩ := Int.eq_ofNat_of_zero_le (show 0 ≤ s by omega)
  obtain ⟨n, rfl⟩ := Int.eq_ofNat_of_zero_le (show 0 ≤ l by omega)
  rw [Int.toNat_natCast, Int.toNat_natCast] at q1
  refine wx_seqS (ws_setF (we_int ?_))
  refine wx_seq (wx_for1 (we_var rfl ⟨⟨by omega, by omega⟩, fun k e => ∃ o, e = [.sh (a : Int), .sh (n : Int), .sh ((a ^ k : Nat) : Int), o] ∧ k ≤ n ∧ a ^ k ≤ 24, ⟨_, rfl, by omega, by show 1 ≤ 24; decide⟩, ?_, ?_⟩))
  · rintro k e hk ⟨o, rfl, _, hp⟩
    have e1 : ((a ^ k : Nat) : Int) * (a : Int) = ((a ^ (k + 1) : Nat) : Int) := by rw [Nat.pow_succ]; exact (Int.natCast_mul _ _).symm
    refine wx_seqS (ws_setF (α := Int) (we_iC (we_var rfl (we_var rfl ⟨.inl ⟨by omega, by omega⟩, ?_⟩))))
    rw [e1]
    refine wx_if (wt_test (we_iB (we_var rfl (we_int ⟨fun h => no ?_, fun h => wx_next ⟨_, rfl, by omega, ?_⟩⟩))))
    · intro z
      have z3 := (wk_nat.mp z).2.2
      have hp2 : a ^ (k + 1) ≤ a ^ n := Nat.pow_le_pow_right (by omega) (by omega)
      have := of_decide_eq_true h
      omega
    · have := of_decide_eq_false h
      omega
  · rintro e ⟨o, rfl, _, hp⟩
    rw [Int.toNat_natCast] at hp ⊢
    exact wx_of (ws_retF (we_var rfl (q1 (wk_nat.mpr ⟨by omega, by omega, hp⟩))))
theorem ok_window_ending (T : Tx K mg t) : FnOk P w K mg base CX0 1 t.a_window_ending t.d_window_ending ["signs", "length", "told", "spot"] (spF (cc K t) p_wend) := by
  refine T.F_window_ending.ok sc_window_ending (fun vs H Q E h => spF_len h (by rintro es R ⟨a, l, told, i, rfl, _⟩; rfl)) (fun cdv A outer s H vs Q E hr h => ⟨_, (pss_cons (ps_set (i := 4) sc_window_ending.nd rfl (by first | exact Or.inl rfl | exact Or.inr rfl) pe_int)
      (pss_cons (ps_for PassesOwn.never rfl (pi_range2 rfl T.z_range (pa_cons (pe_op op_add (pe_op op_sub (pv 3) (pv 1)) pe_int) (pa_cons (pe_op op_add (pv 3) pe_int) pa_nil))) (pg_name (i := 5) sc_window_ending.nd rfl (by first | exact Or.inl rfl | exact Or.inr rfl))
        (pss_one (ps_set (i := 4) sc_window_ending.nd rfl (by first | exact Or.inl rfl | exact Or.inr rfl) (pe_op op_add (pe_op op_mul (pv 4) (pv 0)) (pe_ix (ix_listK (K := K) rfl) (pv 2) (pe_op op_mod (pv 5) (pe_callB (call_lenK (K := K) rfl) rfl T.z_len PySem.boot_len (pa_cons (pv 2) pa_nil))) (fun _ _ => rfl))))))
      (pss_one (ps_ret (pv 4))))), fn_data h ?_⟩)
  rintro es R ⟨a, l, told, i, rfl, ha, hl, ht, hi, q⟩
  refine ws_seq (ws_setF (we_int ?_))
  refine ws_seq (ws_for2 (we_add (we_sub (we_var rfl (we_var rfl (we_int (we_add (we_var rfl (we_int ⟨⟨by omega, by omega, by omega, by omega⟩, fun k e => ∃ o, e = [.sh (a : Int), .sh (l : Int), .sh told, .sh i, .sh (numR a told (i - (l : Int) + 1) k), o], ⟨_, rfl⟩, ?_, ?_⟩)))))))))
  · rintro k e hk ⟨o, rfl⟩
    have j0 := Int.emod_nonneg (i - (l : Int) + 1 + (k : Int)) (show (told.length : Int) ≠ 0 by omega)
    have j1 := Int.emod_lt_of_pos (i - (l : Int) + 1 + (k : Int)) (show (0 : Int) < told.length by omega)
    refine ws_setF (α := Int) (we_add (we_iC (we_var rfl (we_var rfl ⟨.inr ⟨by omega, by omega⟩, (we_ix (we_var rfl (we_iC (we_var rfl (we_len (we_var rfl ⟨by omega, ⟨_, nm_at j0 j1, ?_⟩⟩))))))⟩))))
    exact ⟨_, rfl⟩
  · rintro e ⟨o, rfl⟩
    rw [show (i + 1 - (i - (l : Int) + 1)).toNat = l by omega]
    exact ws_retF (we_var rfl q)
theorem okX_need_signs (T : Tx K mg t) : FnOk P w K mg base (CXX P w) 1 t.a_need_signs t.d_need_signs ["signs", "count", "told"] (spX (cc K t) (p_xnsigns t.c_NoRing)) := by
  refine T.F_need_signs.okX sc_need_signs (fun vs H Q E h => spX_len h (by rintro es R X ⟨a, n, told, rfl, _⟩; rfl)) (fun cdv A outer s H vs Q E hr h => ⟨_, (pss_cons (ps_if (pt_cmpR op_ne (pe_callB (call_lenK (K := K) rfl) rfl T.z_len PySem.boot_len (pa_cons (pv 2) pa_nil)) (pv 1) (nomark _))
        (pss_one (ps_raise rfl T.x_NoRing rfl T.m_NoRing (pa_cons pe_str pa_nil) made_def))
        pss_nil)
      (pss_one (ps_if (pt_truthK (K := K) rfl (pe_comp (comp_mk ["sign"] ["signs"] [0] rfl (pi_listK (K := K) rfl (pv 2)) (fun _ _ _ _ => (pg_name (i := 0) (show (([("sign" : Str)] : List Str) ++ ([("signs" : Str)] : List Str)).Nodup by decide +kernel) rfl (by first | exact Or.inl rfl | exact Or.inr rfl))) own_name (fun _ _ _ _ => (pts_one (pt_not (pt_chain op_le op_lt pe_int (pv 0) (pv 1))))) (fun _ _ _ _ => (pv 0)))) (fun _ => rfl))
        (pss_one (ps_raise rfl T.x_NoRing rfl T.m_NoRing (pa_cons pe_str pa_nil) made_def))
        pss_nil))), fnx_dataU h ?_⟩)
  rintro es R X ⟨a, n, told, rfl, hl, q1, q2⟩ xp
  refine wx_seq (wx_if (wt_test (we_neI (we_len (we_var rfl (we_var rfl ⟨fun h => wx_raise xp (q2 fun z => ?_) (we_str (m := .any) trivial), fun h1 => wx_next ?_⟩))))))
  · rw [decide_eq_true z.1] at h
    cases h
  have h1 : (told.length : Int) = n := by simpa using h1
  refine wx_if (wt_truth (we_compL (α := Int) (β := Int) (we_var rfl ⟨by omega, fun k ys => (ys = [] ↔ ∀ x ∈ told.take k, 0 ≤ x ∧ x < a), by simp, ?_, ?_⟩)))
  · rintro k x ys hx hys
    have ht : told.take (k + 1) = told.take k ++ [x] := by rw [List.take_add_one, hx]; rfl
    have bad : ¬ (0 ≤ x ∧ x < a) → (ys ++ [x] = [] ↔ ∀ x ∈ told.take (k + 1), 0 ≤ x ∧ x < a) := fun h => by
      refine ⟨fun z => by simp at z, fun z => absurd (z x ?_) h⟩
      rw [ht]
      simp
    refine wt_not (wt_test (we_chain (we_int (we_var rfl ⟨fun h => we_var rfl ⟨fun h2 => we_varF rfl (bad ?_), fun h2 => ?_⟩, fun h => ⟨fun _ => we_varF rfl (bad ?_), fun z => (by cases z)⟩⟩))))
    · rintro ⟨_, z⟩
      rw [decide_eq_true z] at h2
      cases h2
    · show ys = [] ↔ ∀ x ∈ told.take (k + 1), 0 ≤ x ∧ x < a
      rw [ht]
      refine ⟨fun z y hy => ?_, fun z => hys.mpr fun y hy => z y (List.mem_append_left _ hy)⟩
      rcases List.mem_append.mp hy with u | u
      · exact hys.mp z y u
      · have : y = x := by simpa using u
        subst this
        exact ⟨of_decide_eq_true h, by simpa using h2⟩
    · rintro ⟨z, _⟩
      rw [decide_eq_true z] at h
      cases h
  rintro ys hys
  rw [List.take_length] at hys
  refine ⟨fun h => wx_raise xp (q2 fun z => ?_) (we_str (m := .any) trivial), fun h => wx_next (q1 ⟨h1, ?_⟩)⟩
  · rw [hys.mpr z.2] at h
    cases h
  · refine hys.mp ?_
    cases ys with
    | nil => rfl
    | cons _ _ => cases h
theorem okX_ring_round (T : Tx K mg t) : FnOk P w K mg base (CXX P w) 2 t.a_ring_round t.d_ring_round ["signs", "length", "told"] (spX (cc K t) (p_xring t.c_NoWindows t.c_NoRing)) := by
  refine T.F_ring_round.okX sc_ring_round (fun vs H Q E h => spX_len h (by rintro es R X ⟨s, l, told, rfl, _⟩; rfl)) (fun cdv A outer s H vs Q E hr h => ⟨_, (pss_cons (ps_set (i := 3) sc_ring_round.nd rfl (by first | exact Or.inl rfl | exact Or.inr rfl) (pe_callG (okX_window_count T) (hr.mono (by decide)) rfl T.m_window_count T.F_window_count.kp T.b_window_count .nil passG_def (pa_cons (pv 0) (pa_cons (pv 1) pa_nil))))
      (pss_cons (ps_expr (pe_callG (okX_need_signs T) (hr.mono (by decide)) rfl T.m_need_signs T.F_need_signs.kp T.b_need_signs .nil passG_def (pa_cons (pv 0) (pa_cons (pv 3) (pa_cons (pv 2) pa_nil)))))
      (pss_cons (ps_setComp (i := 4) sc_ring_round.nd rfl rfl (comp_mk ["spot"] ["signs", "length", "told"] [0, 1, 2] rfl (pi_range1 rfl T.z_range (pa_cons (pv 3) pa_nil)) (fun _ _ _ _ => (pg_name (i := 0) (show (([("spot" : Str)] : List Str) ++ ([("signs" : Str), ("length" : Str), ("told" : Str)] : List Str)).Nodup by decide +kernel) rfl (by first | exact Or.inl rfl | exact Or.inr rfl))) own_name (fun _ _ _ _ => pts_nil) (fun _ _ _ _ => (pe_call (ok_window_ending T) (hr.mono (by decide)) rfl T.m_window_ending T.F_window_ending.kp T.b_window_ending .nil pass0 (pa_cons (pv 1) (pa_cons (pv 2) (pa_cons (pv 3) (pa_cons (pv 0) pa_nil))))))))
      (pss_cons (ps_if (pt_cmpR op_ne (pe_callB call_lenS rfl T.z_len PySem.boot_len (pa_cons (pe_callTy (call_setK (K := K) rfl rfl) rfl T.z_set (by decide +kernel) (pa_cons (pv 4) pa_nil)) pa_nil)) (pv 3) (nomark _))
        (pss_one (ps_raise rfl T.x_NoRing rfl T.m_NoRing (pa_cons pe_str pa_nil) made_def))
        pss_nil)
      (pss_one (ps_ret (pv 4))))))), fnx_data h ?_⟩)
  rintro es R X ⟨s, l, told, rfl, hs, hl, htl, q0, q1, q2⟩ xp
  refine wx_seq (wx_setF (α := Int) (wg_call xp (wa_cons (we_var rfl (wa_cons (we_var rfl (wa_nil ⟨X, ⟨s, l, rfl, hs, by omega, fun hk => ?_, q0⟩, fun C h => h⟩)))))))
  obtain ⟨a, l, rfl, rfl, W⟩ := nat2 hk hl
  have q1 := q1 hk
  have q2 := q2 hk
  rw [Int.toNat_natCast, Int.toNat_natCast] at q1 q2 ⊢
  have w1 := W.a1; have w2 := W.l1; have w3 := W.l2; have w4 := W.cnt; have w8 := W.a2
  have hpos : 0 < a ^ l := Nat.pow_pos w1
  refine wx_seq (wx_drop (α := Unit) (wg_call xp (wa_cons (we_var rfl (wa_cons (we_var rfl (wa_cons (we_var rfl (wa_nil ⟨X, ⟨(a : Int), ((a ^ l : Nat) : Int), told, rfl, htl, fun hg => ?_, fun hg => q2 fun z => hg ⟨by rw [z.1], z.2.1⟩⟩, fun C h => h⟩)))))))))
  have hlen : told.length = a ^ l := by have := hg.1; omega
  refine wx_seqS (ws_setO (α := List Int) (we_compR (β := Int) (we_var rfl ⟨⟨by omega, by omega⟩, fun k ys => ys = (wins a l told (1 - (l : Int))).take k, rfl, ?_, ?_⟩)))
  · rintro k ys hk rfl
    refine wt_all (we_call (wa_cons (we_var rfl (wa_cons (we_var rfl (wa_cons (we_var rfl (wa_cons (we_var rfl (wa_nil ⟨a, l, told, (k : Int), rfl, ⟨w1, w8⟩, by omega, ⟨by omega, by omega⟩, ⟨by omega, by omega⟩, ?_⟩))))))))))
    dsimp only
    rw [List.take_add_one]
    unfold wins
    rw [List.getElem?_map, rng_get (by omega), show (k : Int) - (l : Int) + 1 = (k : Int) + (1 - (l : Int)) by omega]
    rfl
  rintro ys rfl
  have ew : (wins a l told (1 - (l : Int))).take ((a ^ l : Nat) : Int).toNat = wins a l told (1 - (l : Int)) := by
    rw [Int.toNat_natCast, ← hlen, ← wins_len (a := a) (l := l) (told := told) (t := 1 - (l : Int)), List.take_length]
  rw [ew]
  refine ⟨rfl, ?_⟩
  have wl := wins_len (a := a) (l := l) (told := told) (t := 1 - (l : Int))
  refine wx_seq (wx_if (wt_test (we_neI (we_lenS (we_set (we_var rfl ⟨by omega, we_var rfl ⟨fun h => wx_raise xp (q2 fun z => ?_) (we_str (m := .any) trivial), fun h => wx_next ?_⟩⟩))))))
  · have nd := wins_nodup (by omega) (1 - (l : Int)) z.2.2
    rw [fm_nodup nd, wl, hlen, decide_eq_true rfl] at h
    cases h
  have h' : (((fm (wins a l told (1 - (l : Int)))).length : Nat) : Int) = ((a ^ l : Nat) : Int) := by simpa using h
  have nd := fm_full (ns := wins a l told (1 - (l : Int))) (by omega)
  exact wx_of (ws_ret (we_varM rfl (q1 ⟨hlen, hg.2, wins_nodup (by omega) 0 nd⟩ _)))

theorem okX_window_net (T : Tx K mg t) : FnOk P w K mg base (CXX P w) 2 t.a_window_net t.d_window_net ["signs", "length"] (spX (cc K t) (p_xwnet0 t.c_NoWindows)) := by
  refine T.F_window_net.okX sc_window_net (fun vs H Q E h => spX_len h (by rintro es R X ⟨s, l, rfl, _⟩; rfl)) (fun cdv A outer s H vs Q E hr h => ⟨_, (pss_cons (ps_set (i := 2) sc_window_net.nd rfl (by first | exact Or.inl rfl | exact Or.inr rfl) (pe_callG (okX_window_count T) (hr.mono (by decide)) rfl T.m_window_count T.F_window_count.kp T.b_window_count .nil passG_def (pa_cons (pv 0) (pa_cons (pv 1) pa_nil))))
      (pss_cons ps_never
      (pss_cons ps_never
      (pss_cons ps_never
      (pss_one ps_never))))), fnx_data h ?_⟩)
  rintro es R X ⟨s, l, rfl, hs, hl, hk, q⟩ xp
  exact wx_seq (wx_setF (α := Int) (wg_call xp (wa_cons (we_var rfl (wa_cons (we_var rfl (wa_nil ⟨X, ⟨s, l, rfl, hs, by omega, fun z => absurd z hk, fun _ => q⟩, fun C h => h⟩)))))))
theorem okX_read_size (T : Tx K mg t) : FnOk P w K mg base (CXX P w) 3 t.a_read_size t.d_read_size ["row"] (spX (cc K t) (p_xrsize t.c_NoNote)) := by
  refine T.F_read_size.okX sc_read_size (fun vs H Q E h => spX_len h (by rintro es R X ⟨z, rfl, _⟩; rfl)) (fun cdv A outer s H vs Q E hr h => ⟨_, (pss_cons (ps_set (i := 1) sc_read_size.nd rfl (by first | exact Or.inl rfl | exact Or.inr rfl) (pe_call0 (ok_sizes_by_note T) (hr.mono (by decide)) rfl T.m_sizes_by_note T.F_sizes_by_note.kp T.b_sizes_by_note .nil pass0))
      (pss_cons (ps_if (pt_cmpR op_dNotT (pv 0) (pv 1) (by with_unfolding_all rfl))
        (pss_one (ps_raise rfl T.x_NoNote rfl T.m_NoNote (pa_cons pe_str pa_nil) made_def))
        pss_nil)
      (pss_one (ps_ret (pe_ix ix_dT (pv 1) (pv 0) (fun _ _ => rfl)))))), fnx_data h ?_⟩)
  rintro es R X ⟨z, rfl, q1, q2⟩ xp
  refine wx_seqS (ws_setO (α := TD Int) (we_call (wa_nil ⟨rfl, ⟨rfl, ?_⟩⟩)))
  refine wx_seq (wx_if (wt_test (we_notT (α := Int) (we_var rfl (we_var rfl ⟨fun h => ?_, fun h => wx_next ?_⟩)))))
  · refine wx_raise xp (q2 ?_) (we_str (m := .any) trivial)
    cases e : tget sizeT z with
    | none => rfl
    | some n => rw [e] at h; cases h
  cases e : tget sizeT z with
  | none => rw [e] at h; cases h
  | some n => exact wx_of (ws_retF (we_getT (α := Int) (we_var rfl (we_var rfl ⟨n, e, q1 n e⟩))))
theorem okX_read_road (T : Tx K mg t) : FnOk P w K mg base (CXX P w) 1 t.a_read_road t.d_read_road ["roads", "row"] (spX (cc K t) (p_xrroad t.c_NoNote)) := by
  refine T.F_read_road.okX sc_read_road (fun vs H Q E h => spX_len h (by rintro es R X ⟨d, z, rfl, _⟩; rfl)) (fun cdv A outer s H vs Q E hr h => ⟨_, (pss_cons (ps_if (pt_cmpR op_dNotT (pv 1) (pv 0) (by with_unfolding_all rfl))
        (pss_one (ps_raise rfl T.x_NoNote rfl T.m_NoNote (pa_cons pe_str pa_nil) made_def))
        pss_nil)
      (pss_one (ps_ret (pe_ix ix_dT (pv 0) (pv 1) (fun _ _ => rfl))))), fnx_data h ?_⟩)
  rintro es R X ⟨d, z, rfl, q1, q2⟩ xp
  refine wx_seq (wx_if (wt_test (we_notT (α := Int × Int) (we_var rfl (we_var rfl ⟨fun h => ?_, fun h => wx_next ?_⟩)))))
  · refine wx_raise xp (q2 ?_) (we_str (m := .any) trivial)
    cases e : tget d.kvs z with
    | none => rfl
    | some n => rw [e] at h; cases h
  cases e : tget d.kvs z with
  | none => rw [e] at h; cases h
  | some n => exact wx_of (ws_retF (we_getT (α := Int × Int) (we_var rfl (we_var rfl ⟨n, e, q1 n e⟩))))
theorem okX_read (T : Tx K mg t) : FnOk P w K mg base (CXX P w) 4 t.a_read t.d_read ["text"] (spX (cc K t) (p_xread t.c_NoNote)) := by
  refine T.F_read.okX sc_read (fun vs H Q E h => spX_len h (by rintro es R X ⟨z, rfl, _⟩; rfl)) (fun cdv A outer s H vs Q E hr h => ⟨_, (pss_cons (ps_set (i := 1) sc_read.nd rfl (by first | exact Or.inl rfl | exact Or.inr rfl) (pe_bmK (K := K) rfl PySem.F.plainAttrs_str PySem.F.slot_str_split PySem.F.type_str_split mt_split (pv 0) (pa_cons pe_str pa_nil)))
      (pss_cons (ps_set (i := 2) sc_read.nd rfl (by first | exact Or.inl rfl | exact Or.inr rfl) (pe_make T.k_Net (ok_Net_init T) (hr.mono (by decide)) rfl T.m_Net T.b_Net_init .nil pass0 (pa_cons (pe_callG (okX_read_size T) (hr.mono (by decide)) rfl T.m_read_size T.F_read_size.kp T.b_read_size .nil passG_def (pa_cons (pe_ix (ix_listK (K := K) rfl) (pv 1) pe_int (fun _ _ => rfl)) pa_nil)) pa_nil)))
      (pss_cons (ps_if (pt_cmpR op_gt (pe_op op_sub (pe_callB (call_lenK (K := K) rfl) rfl T.z_len PySem.boot_len (pa_cons (pv 1) pa_nil)) pe_int) (pe_glob (v := .int 24) rfl T.g_MOST_ROADS.choose_spec ⟨_, rfl⟩) (nomark _))
        (pss_one (ps_raise rfl T.x_NoNote rfl T.m_NoNote (pa_cons pe_str pa_nil) made_def))
        pss_nil)
      (pss_cons (ps_set (i := 3) sc_read.nd rfl (by first | exact Or.inl rfl | exact Or.inr rfl) (pe_call (ok_roads_by_note T) (hr.mono (by decide)) rfl T.m_roads_by_note T.F_roads_by_note.kp T.b_roads_by_note .nil pass0 (pa_cons (pe_fldK (K := K) rfl (pv 2) rfl) pa_nil)))
      (pss_cons (ps_for PassesOwn.leaving rfl (pi_listK (K := K) rfl (pe_slice (sl_listK (K := K) rfl) (pv 1) (po_some pe_int) po_none)) (pg_name (i := 4) sc_read.nd rfl (by first | exact Or.inl rfl | exact Or.inr rfl))
        (pss_cons (ps_set (i := 5) sc_read.nd rfl (by first | exact Or.inl rfl | exact Or.inr rfl) (pe_callG (okX_read_road T) (hr.mono (by decide)) rfl T.m_read_road T.F_read_road.kp T.b_read_road .nil passG_def (pa_cons (pv 3) (pa_cons (pv 4) pa_nil))))
      (pss_one (ps_expr (pe_meth (pv 2) T.c_Net T.t_Net_lay (ok_Net_lay T) (hr.mono (by decide)) T.b_Net_lay .nil pass0 (pa_cons (pe_ix (ix_tupK (K := K) rfl) (pv 5) pe_int (fun _ _ => rfl)) (pa_cons (pe_ix (ix_tupK (K := K) rfl) (pv 5) pe_int (fun _ _ => rfl)) pa_nil)))))))
      (pss_one (ps_ret (pv 2)))))))), fnx_data h ?_⟩)
  rintro es R X ⟨z, rfl, hz, q1, q2⟩ xp
  refine wx_seqS (ws_setO (α := List Str) (we_split (we_var rfl (we_str ⟨by decide +kernel, hz, rfl, ?_⟩))))
  have hne := split_ne z nl
  have hcnt := split_count z nl
  show WSx H [.sh z, .ow (Txt.split z nl), .no, .no, .no, .no] _ _
  generalize Txt.split z nl = L at hne hcnt q1 q2 ⊢
  obtain ⟨z0, r, rfl⟩ : ∃ z0 r, L = z0 :: r := by
    cases L with
    | nil => exact absurd rfl hne
    | cons a b => exact ⟨a, b, rfl⟩
  refine wx_seq (wx_setO (wg_net (wg_call xp (wa_cons (we_ix (we_var rfl (we_int ⟨z0, at0 z0 r, wa_nil ⟨fun C => C = t.c_NoNote ∧ tget sizeT z0 = none, ⟨z0, rfl, fun n hn => ⟨(sizeT_iff.mp hn).1, rfl, ?_⟩, fun hn => ⟨rfl, hn⟩⟩, ?_⟩⟩)))))))
  rotate_left
  · rintro C ⟨rfl, hn⟩
    exact q2 (tells_no hn)
  have hn8 := (sizeT_iff.mp hn).1
  refine wx_seq (wx_if (wt_test (we_iB (we_sub (we_len (we_var rfl (we_int (we_int ⟨fun h => ?_, fun h => wx_next ?_⟩))))))))
  · have h' := of_decide_eq_true h
    rw [List.length_cons] at h'
    exact wx_raise xp (q2 (tells_many (by omega))) (we_str (m := .any) trivial)
  have hr24 : r.length ≤ 24 := by
    have h' := of_decide_eq_false h
    rw [List.length_cons] at h'
    omega
  rw [tells_yes hn hr24] at q1 q2
  refine wx_seqS (ws_setO (α := TD (Int × Int)) (we_call (wa_cons (we_size T.c_Net T.n_Net_size (we_var rfl (wa_nil ⟨n, rfl, hn8, ⟨rfl, ?_⟩⟩))))))
  have hcut : cutL (z0 :: r) (some 1) none = r := by
    rw [cut_from (xs := z0 :: r) (by decide) (by rw [List.length_cons]; omega)]
    rfl
  refine wx_seq (wx_forL (α := Str) (we_slice (we_var rfl (wo_some (we_int (wo_none ⟨fun k e => ∃ (q : List (Int × Int)) (o1 o2 : Ent (cc K t)), tellsR n (r.take k) = some q ∧ e = [.sh z, .ow (List.cons z0 r), .ow (⟨n, q⟩ : NetD), .ow (⟨roadT (pairsOf n.toNat n.toNat)⟩ : TD (Int × Int)), o1, o2], ⟨[], _, _, rfl, rfl⟩, ?_, ?_⟩))))))
  · rintro k x e hx ⟨q, o1, o2, hq, rfl⟩
    rw [hcut] at hx
    have hk : k < r.length := (List.getElem?_eq_some_iff.mp hx).1
    have hql := tellsR_len n _ q hq
    rw [List.length_take] at hql
    refine wy_seq (wy_g (wg_setF (α := Int × Int) (wg_call xp (wa_cons (we_var rfl (wa_cons (we_var rfl (wa_nil ⟨fun C => C = t.c_NoNote ∧ tget (roadT (pairsOf n.toNat n.toNat)) x = none, ⟨⟨roadT (pairsOf n.toNat n.toNat)⟩, x, rfl, fun e he => ?_, fun hno => ⟨rfl, hno⟩⟩, ?_⟩))))))))
    · obtain ⟨b, _⟩ := (roadT_iff (by omega)).mp he
      refine wy_of (ws_lay rfl (we_fst (we_var rfl (we_snd (we_var rfl ⟨⟨⟨b.1.1, by show e.1 < n; omega⟩, ⟨b.2.1, by show e.2 < n; omega⟩, by show q.length < 24; omega⟩, q ++ [e], _, _, ?_, rfl⟩)))))
      rw [List.take_add_one, hx]
      show tellsR n (r.take k ++ [x]) = _
      rw [tellsR_snoc n _ x q hq, he]
      rfl
    · rintro C ⟨rfl, hno⟩
      refine q2 ?_
      have e1 : r = r.take k ++ x :: r.drop (k + 1) := by
        have h1 := List.take_append_drop k r
        rw [List.drop_eq_getElem_cons hk] at h1
        rw [List.getElem?_eq_getElem hk] at hx
        cases hx
        exact h1.symm
      rw [e1, tellsR_none n _ x _ hno]
      rfl
  rintro e ⟨q, o1, o2, hq, rfl⟩
  rw [hcut, List.take_length] at hq
  refine wx_of (ws_ret (we_varM rfl (q1 (n, q) ?_)))
  rw [hq]
  rfl

abbrev kcl (t : Adr) (w : Int) : Addr := match w.toNat with
  | 0 => t.c_NoPlace
  | 1 => t.c_TooMany
  | 2 => t.c_NoRound
  | 3 => t.c_NoOrders
  | 4 => t.c_NotEven
  | 5 => t.c_NotWhole
  | 6 => t.c_NoExchange
  | 7 => t.c_NoWindows
  | 8 => t.c_NoRing
  | _ => t.c_NoNote
theorem okS_q_marks (T : Tx K mg t) : FnOkS P w K mg base 1 t.a_q_marks t.d_q_marks ["e"] (spF (cc K t) (p_marks (kcl t))) := by
  refine T.F_q_marks.okS sc_q_marks (fun vs H Q E h => spF_len h (by rintro es R ⟨x, way, rfl, _⟩; rfl)) (fun cdv A outer s H vs Q hr h => ⟨_, (pss_cons (ps_set (i := 1) sc_q_marks.nd rfl (by first | exact Or.inl rfl | exact Or.inr rfl) (pe_lst (pa_cons (pe_callB (call_isiG (K := K) rfl) rfl T.z_isinstance (by decide +kernel) (pa_cons (pv 0) (pa_cons (pe_glob (v := .ref _) rfl T.m_NoPlace rfl) pa_nil))) (pa_cons (pe_callB (call_isiG (K := K) rfl) rfl T.z_isinstance (by decide +kernel) (pa_cons (pv 0) (pa_cons (pe_glob (v := .ref _) rfl T.m_TooMany rfl) pa_nil))) (pa_cons (pe_callB (call_isiG (K := K) rfl) rfl T.z_isinstance (by decide +kernel) (pa_cons (pv 0) (pa_cons (pe_glob (v := .ref _) rfl T.m_NoRound rfl) pa_nil))) (pa_cons (pe_callB (call_isiG (K := K) rfl) rfl T.z_isinstance (by decide +kernel) (pa_cons (pv 0) (pa_cons (pe_glob (v := .ref _) rfl T.m_NoOrders rfl) pa_nil))) pa_nil))))))
      (pss_cons (ps_set (i := 1) sc_q_marks.nd rfl (by first | exact Or.inl rfl | exact Or.inr rfl) (pe_op op_cat (pv 1) (pe_lst (pa_cons (pe_callB (call_isiG (K := K) rfl) rfl T.z_isinstance (by decide +kernel) (pa_cons (pv 0) (pa_cons (pe_glob (v := .ref _) rfl T.m_NotEven rfl) pa_nil))) (pa_cons (pe_callB (call_isiG (K := K) rfl) rfl T.z_isinstance (by decide +kernel) (pa_cons (pv 0) (pa_cons (pe_glob (v := .ref _) rfl T.m_NotWhole rfl) pa_nil))) (pa_cons (pe_callB (call_isiG (K := K) rfl) rfl T.z_isinstance (by decide +kernel) (pa_cons (pv 0) (pa_cons (pe_glob (v := .ref _) rfl T.m_NoExchange rfl) pa_nil))) pa_nil))))))
      (pss_one (ps_ret (pe_op op_cat (pv 1) (pe_lst (pa_cons (pe_callB (call_isiG (K := K) rfl) rfl T.z_isinstance (by decide +kernel) (pa_cons (pv 0) (pa_cons (pe_glob (v := .ref _) rfl T.m_NoWindows rfl) pa_nil))) (pa_cons (pe_callB (call_isiG (K := K) rfl) rfl T.z_isinstance (by decide +kernel) (pa_cons (pv 0) (pa_cons (pe_glob (v := .ref _) rfl T.m_NoRing rfl) pa_nil))) (pa_cons (pe_callB (call_isiG (K := K) rfl) rfl T.z_isinstance (by decide +kernel) (pa_cons (pv 0) (pa_cons (pe_glob (v := .ref _) rfl T.m_NoNote rfl) pa_nil))) (pa_cons (pe_callB (call_isiG (K := K) rfl) rfl T.z_isinstance (by decide +kernel) (pa_cons (pv 0) (pa_cons (pe_bltn (v := .ty "ValueError") rfl T.z_ValueError (by decide +kernel) rfl) pa_nil))) pa_nil)))))))))), fn_data h ?_⟩)
  rintro es R ⟨⟨D⟩, way, rfl, hw, hD, q⟩
  have hD : D = kcl t way := hD
  subst hD
  rcases way_cases hw with rfl | rfl | rfl | rfl | rfl | rfl | rfl | rfl | rfl | rfl
  · refine ws_seq (ws_setO (α := List Bool) (we_lst (wl_cons (we_isiG ⟨"", .inr ⟨_, rfl⟩⟩ (we_var rfl ⟨T.y_NoPlace, _, T.i_NoPlace_NoPlace, (wl_cons (we_isiG ⟨"", .inr ⟨_, rfl⟩⟩ (we_var rfl ⟨T.y_NoPlace, _, T.i_NoPlace_TooMany, (wl_cons (we_isiG ⟨"", .inr ⟨_, rfl⟩⟩ (we_var rfl ⟨T.y_NoPlace, _, T.i_NoPlace_NoRound, (wl_cons (we_isiG ⟨"", .inr ⟨_, rfl⟩⟩ (we_var rfl ⟨T.y_NoPlace, _, T.i_NoPlace_NoOrders, (wl_nil ⟨(by show 4 ≤ 1000; decide), ⟨rfl, ?_⟩⟩)⟩)) trivial)⟩)) trivial)⟩)) trivial)⟩)) trivial) trivial))
    refine ws_seq (ws_setO (α := List Bool) (we_cat (we_var rfl (we_lst (wl_cons (we_isiG ⟨"", .inr ⟨_, rfl⟩⟩ (we_var rfl ⟨T.y_NoPlace, _, T.i_NoPlace_NotEven, (wl_cons (we_isiG ⟨"", .inr ⟨_, rfl⟩⟩ (we_var rfl ⟨T.y_NoPlace, _, T.i_NoPlace_NotWhole, (wl_cons (we_isiG ⟨"", .inr ⟨_, rfl⟩⟩ (we_var rfl ⟨T.y_NoPlace, _, T.i_NoPlace_NoExchange, (wl_nil ⟨(by show 3 ≤ 1000; decide), ⟨by show 4 + 3 ≤ 1000; decide, rfl, ?_⟩⟩)⟩)) trivial)⟩)) trivial)⟩)) trivial) trivial))))
    exact ws_ret (S' := []) (we_cat (we_var rfl (we_lst (wl_cons (we_isiG ⟨"", .inr ⟨_, rfl⟩⟩ (we_var rfl ⟨T.y_NoPlace, _, T.i_NoPlace_NoWindows, (wl_cons (we_isiG ⟨"", .inr ⟨_, rfl⟩⟩ (we_var rfl ⟨T.y_NoPlace, _, T.i_NoPlace_NoRing, (wl_cons (we_isiG ⟨"", .inr ⟨_, rfl⟩⟩ (we_var rfl ⟨T.y_NoPlace, _, T.i_NoPlace_NoNote, (wl_cons (we_isiG ⟨_, .inl rfl⟩ (we_var rfl ⟨T.y_NoPlace, _, T.i_NoPlace_ValueError, (wl_nil ⟨(by show 4 ≤ 1000; decide), ⟨by show 7 + 4 ≤ 1000; decide, q⟩⟩)⟩)) trivial)⟩)) trivial)⟩)) trivial)⟩)) trivial) trivial)))
  · refine ws_seq (ws_setO (α := List Bool) (we_lst (wl_cons (we_isiG ⟨"", .inr ⟨_, rfl⟩⟩ (we_var rfl ⟨T.y_TooMany, _, T.i_TooMany_NoPlace, (wl_cons (we_isiG ⟨"", .inr ⟨_, rfl⟩⟩ (we_var rfl ⟨T.y_TooMany, _, T.i_TooMany_TooMany, (wl_cons (we_isiG ⟨"", .inr ⟨_, rfl⟩⟩ (we_var rfl ⟨T.y_TooMany, _, T.i_TooMany_NoRound, (wl_cons (we_isiG ⟨"", .inr ⟨_, rfl⟩⟩ (we_var rfl ⟨T.y_TooMany, _, T.i_TooMany_NoOrders, (wl_nil ⟨(by show 4 ≤ 1000; decide), ⟨rfl, ?_⟩⟩)⟩)) trivial)⟩)) trivial)⟩)) trivial)⟩)) trivial) trivial))
    refine ws_seq (ws_setO (α := List Bool) (we_cat (we_var rfl (we_lst (wl_cons (we_isiG ⟨"", .inr ⟨_, rfl⟩⟩ (we_var rfl ⟨T.y_TooMany, _, T.i_TooMany_NotEven, (wl_cons (we_isiG ⟨"", .inr ⟨_, rfl⟩⟩ (we_var rfl ⟨T.y_TooMany, _, T.i_TooMany_NotWhole, (wl_cons (we_isiG ⟨"", .inr ⟨_, rfl⟩⟩ (we_var rfl ⟨T.y_TooMany, _, T.i_TooMany_NoExchange, (wl_nil ⟨(by show 3 ≤ 1000; decide), ⟨by show 4 + 3 ≤ 1000; decide, rfl, ?_⟩⟩)⟩)) trivial)⟩)) trivial)⟩)) trivial) trivial))))
    exact ws_ret (S' := []) (we_cat (we_var rfl (we_lst (wl_cons (we_isiG ⟨"", .inr ⟨_, rfl⟩⟩ (we_var rfl ⟨T.y_TooMany, _, T.i_TooMany_NoWindows, (wl_cons (we_isiG ⟨"", .inr ⟨_, rfl⟩⟩ (we_var rfl ⟨T.y_TooMany, _, T.i_TooMany_NoRing, (wl_cons (we_isiG ⟨"", .inr ⟨_, rfl⟩⟩ (we_var rfl ⟨T.y_TooMany, _, T.i_TooMany_NoNote, (wl_cons (we_isiG ⟨_, .inl rfl⟩ (we_var rfl ⟨T.y_TooMany, _, T.i_TooMany_ValueError, (wl_nil ⟨(by show 4 ≤ 1000; decide), ⟨by show 7 + 4 ≤ 1000; decide, q⟩⟩)⟩)) trivial)⟩)) trivial)⟩)) trivial)⟩)) trivial) trivial)))
  · refine ws_seq (ws_setO (α := List Bool) (we_lst (wl_cons (we_isiG ⟨"", .inr ⟨_, rfl⟩⟩ (we_var rfl ⟨T.y_NoRound, _, T.i_NoRound_NoPlace, (wl_cons (we_isiG ⟨"", .inr ⟨_, rfl⟩⟩ (we_var rfl ⟨T.y_NoRound, _, T.i_NoRound_TooMany, (wl_cons (we_isiG ⟨"", .inr ⟨_, rfl⟩⟩ (we_var rfl ⟨T.y_NoRound, _, T.i_NoRound_NoRound, (wl_cons (we_isiG ⟨"", .inr ⟨_, rfl⟩⟩ (we_var rfl ⟨T.y_NoRound, _, T.i_NoRound_NoOrders, (wl_nil ⟨(by show 4 ≤ 1000; decide), ⟨rfl, ?_⟩⟩)⟩)) trivial)⟩)) trivial)⟩)) trivial)⟩)) trivial) trivial))
    refine ws_seq (ws_setO (α := List Bool) (we_cat (we_var rfl (we_lst (wl_cons (we_isiG ⟨"", .inr ⟨_, rfl⟩⟩ (we_var rfl ⟨T.y_NoRound, _, T.i_NoRound_NotEven, (wl_cons (we_isiG ⟨"", .inr ⟨_, rfl⟩⟩ (we_var rfl ⟨T.y_NoRound, _, T.i_NoRound_NotWhole, (wl_cons (we_isiG ⟨"", .inr ⟨_, rfl⟩⟩ (we_var rfl ⟨T.y_NoRound, _, T.i_NoRound_NoExchange, (wl_nil ⟨(by show 3 ≤ 1000; decide), ⟨by show 4 + 3 ≤ 1000; decide, rfl, ?_⟩⟩)⟩)) trivial)⟩)) trivial)⟩)) trivial) trivial))))
    exact ws_ret (S' := []) (we_cat (we_var rfl (we_lst (wl_cons (we_isiG ⟨"", .inr ⟨_, rfl⟩⟩ (we_var rfl ⟨T.y_NoRound, _, T.i_NoRound_NoWindows, (wl_cons (we_isiG ⟨"", .inr ⟨_, rfl⟩⟩ (we_var rfl ⟨T.y_NoRound, _, T.i_NoRound_NoRing, (wl_cons (we_isiG ⟨"", .inr ⟨_, rfl⟩⟩ (we_var rfl ⟨T.y_NoRound, _, T.i_NoRound_NoNote, (wl_cons (we_isiG ⟨_, .inl rfl⟩ (we_var rfl ⟨T.y_NoRound, _, T.i_NoRound_ValueError, (wl_nil ⟨(by show 4 ≤ 1000; decide), ⟨by show 7 + 4 ≤ 1000; decide, q⟩⟩)⟩)) trivial)⟩)) trivial)⟩)) trivial)⟩)) trivial) trivial)))
  · refine ws_seq (ws_setO (α := List Bool) (we_lst (wl_cons (we_isiG ⟨"", .inr ⟨_, rfl⟩⟩ (we_var rfl ⟨T.y_NoOrders, _, T.i_NoOrders_NoPlace, (wl_cons (we_isiG ⟨"", .inr ⟨_, rfl⟩⟩ (we_var rfl ⟨T.y_NoOrders, _, T.i_NoOrders_TooMany, (wl_cons (we_isiG ⟨"", .inr ⟨_, rfl⟩⟩ (we_var rfl ⟨T.y_NoOrders, _, T.i_NoOrders_NoRound, (wl_cons (we_isiG ⟨"", .inr ⟨_, rfl⟩⟩ (we_var rfl ⟨T.y_NoOrders, _, T.i_NoOrders_NoOrders, (wl_nil ⟨(by show 4 ≤ 1000; decide), ⟨rfl, ?_⟩⟩)⟩)) trivial)⟩)) trivial)⟩)) trivial)⟩)) trivial) trivial))
    refine ws_seq (ws_setO (α := List Bool) (we_cat (we_var rfl (we_lst (wl_cons (we_isiG ⟨"", .inr ⟨_, rfl⟩⟩ (we_var rfl ⟨T.y_NoOrders, _, T.i_NoOrders_NotEven, (wl_cons (we_isiG ⟨"", .inr ⟨_, rfl⟩⟩ (we_var rfl ⟨T.y_NoOrders, _, T.i_NoOrders_NotWhole, (wl_cons (we_isiG ⟨"", .inr ⟨_, rfl⟩⟩ (we_var rfl ⟨T.y_NoOrders, _, T.i_NoOrders_NoExchange, (wl_nil ⟨(by show 3 ≤ 1000; decide), ⟨by show 4 + 3 ≤ 1000; decide, rfl, ?_⟩⟩)⟩)) trivial)⟩)) trivial)⟩)) trivial) trivial))))
    exact ws_ret (S' := []) (we_cat (we_var rfl (we_lst (wl_cons (we_isiG ⟨"", .inr ⟨_, rfl⟩⟩ (we_var rfl ⟨T.y_NoOrders, _, T.i_NoOrders_NoWindows, (wl_cons (we_isiG ⟨"", .inr ⟨_, rfl⟩⟩ (we_var rfl ⟨T.y_NoOrders, _, T.i_NoOrders_NoRing, (wl_cons (we_isiG ⟨"", .inr ⟨_, rfl⟩⟩ (we_var rfl ⟨T.y_NoOrders, _, T.i_NoOrders_NoNote, (wl_cons (we_isiG ⟨_, .inl rfl⟩ (we_var rfl ⟨T.y_NoOrders, _, T.i_NoOrders_ValueError, (wl_nil ⟨(by show 4 ≤ 1000; decide), ⟨by show 7 + 4 ≤ 1000; decide, q⟩⟩)⟩)) trivial)⟩)) trivial)⟩)) trivial)⟩)) trivial) trivial)))
  · refine ws_seq (ws_setO (α := List Bool) (we_lst (wl_cons (we_isiG ⟨"", .inr ⟨_, rfl⟩⟩ (we_var rfl ⟨T.y_NotEven, _, T.i_NotEven_NoPlace, (wl_cons (we_isiG ⟨"", .inr ⟨_, rfl⟩⟩ (we_var rfl ⟨T.y_NotEven, _, T.i_NotEven_TooMany, (wl_cons (we_isiG ⟨"", .inr ⟨_, rfl⟩⟩ (we_var rfl ⟨T.y_NotEven, _, T.i_NotEven_NoRound, (wl_cons (we_isiG ⟨"", .inr ⟨_, rfl⟩⟩ (we_var rfl ⟨T.y_NotEven, _, T.i_NotEven_NoOrders, (wl_nil ⟨(by show 4 ≤ 1000; decide), ⟨rfl, ?_⟩⟩)⟩)) trivial)⟩)) trivial)⟩)) trivial)⟩)) trivial) trivial))
    refine ws_seq (ws_setO (α := List Bool) (we_cat (we_var rfl (we_lst (wl_cons (we_isiG ⟨"", .inr ⟨_, rfl⟩⟩ (we_var rfl ⟨T.y_NotEven, _, T.i_NotEven_NotEven, (wl_cons (we_isiG ⟨"", .inr ⟨_, rfl⟩⟩ (we_var rfl ⟨T.y_NotEven, _, T.i_NotEven_NotWhole, (wl_cons (we_isiG ⟨"", .inr ⟨_, rfl⟩⟩ (we_var rfl ⟨T.y_NotEven, _, T.i_NotEven_NoExchange, (wl_nil ⟨(by show 3 ≤ 1000; decide), ⟨by show 4 + 3 ≤ 1000; decide, rfl, ?_⟩⟩)⟩)) trivial)⟩)) trivial)⟩)) trivial) trivial))))
    exact ws_ret (S' := []) (we_cat (we_var rfl (we_lst (wl_cons (we_isiG ⟨"", .inr ⟨_, rfl⟩⟩ (we_var rfl ⟨T.y_NotEven, _, T.i_NotEven_NoWindows, (wl_cons (we_isiG ⟨"", .inr ⟨_, rfl⟩⟩ (we_var rfl ⟨T.y_NotEven, _, T.i_NotEven_NoRing, (wl_cons (we_isiG ⟨"", .inr ⟨_, rfl⟩⟩ (we_var rfl ⟨T.y_NotEven, _, T.i_NotEven_NoNote, (wl_cons (we_isiG ⟨_, .inl rfl⟩ (we_var rfl ⟨T.y_NotEven, _, T.i_NotEven_ValueError, (wl_nil ⟨(by show 4 ≤ 1000; decide), ⟨by show 7 + 4 ≤ 1000; decide, q⟩⟩)⟩)) trivial)⟩)) trivial)⟩)) trivial)⟩)) trivial) trivial)))
  · refine ws_seq (ws_setO (α := List Bool) (we_lst (wl_cons (we_isiG ⟨"", .inr ⟨_, rfl⟩⟩ (we_var rfl ⟨T.y_NotWhole, _, T.i_NotWhole_NoPlace, (wl_cons (we_isiG ⟨"", .inr ⟨_, rfl⟩⟩ (we_var rfl ⟨T.y_NotWhole, _, T.i_NotWhole_TooMany, (wl_cons (we_isiG ⟨"", .inr ⟨_, rfl⟩⟩ (we_var rfl ⟨T.y_NotWhole, _, T.i_NotWhole_NoRound, (wl_cons (we_isiG ⟨"", .inr ⟨_, rfl⟩⟩ (we_var rfl ⟨T.y_NotWhole, _, T.i_NotWhole_NoOrders, (wl_nil ⟨(by show 4 ≤ 1000; decide), ⟨rfl, ?_⟩⟩)⟩)) trivial)⟩)) trivial)⟩)) trivial)⟩)) trivial) trivial))
    refine ws_seq (ws_setO (α := List Bool) (we_cat (we_var rfl (we_lst (wl_cons (we_isiG ⟨"", .inr ⟨_, rfl⟩⟩ (we_var rfl ⟨T.y_NotWhole, _, T.i_NotWhole_NotEven, (wl_cons (we_isiG ⟨"", .inr ⟨_, rfl⟩⟩ (we_var rfl ⟨T.y_NotWhole, _, T.i_NotWhole_NotWhole, (wl_cons (we_isiG ⟨"", .inr ⟨_, rfl⟩⟩ (we_var rfl ⟨T.y_NotWhole, _, T.i_NotWhole_NoExchange, (wl_nil ⟨(by show 3 ≤ 1000; decide), ⟨by show 4 + 3 ≤ 1000; decide, rfl, ?_⟩⟩)⟩)) trivial)⟩)) trivial)⟩)) trivial) trivial))))
    exact ws_ret (S' := []) (we_cat (we_var rfl (we_lst (wl_cons (we_isiG ⟨"", .inr ⟨_, rfl⟩⟩ (we_var rfl ⟨T.y_NotWhole, _, T.i_NotWhole_NoWindows, (wl_cons (we_isiG ⟨"", .inr ⟨_, rfl⟩⟩ (we_var rfl ⟨T.y_NotWhole, _, T.i_NotWhole_NoRing, (wl_cons (we_isiG ⟨"", .inr ⟨_, rfl⟩⟩ (we_var rfl ⟨T.y_NotWhole, _, T.i_NotWhole_NoNote, (wl_cons (we_isiG ⟨_, .inl rfl⟩ (we_var rfl ⟨T.y_NotWhole, _, T.i_NotWhole_ValueError, (wl_nil ⟨(by show 4 ≤ 1000; decide), ⟨by show 7 + 4 ≤ 1000; decide, q⟩⟩)⟩)) trivial)⟩)) trivial)⟩)) trivial)⟩)) trivial) trivial)))
  · refine ws_seq (ws_setO (α := List Bool) (we_lst (wl_cons (we_isiG ⟨"", .inr ⟨_, rfl⟩⟩ (we_var rfl ⟨T.y_NoExchange, _, T.i_NoExchange_NoPlace, (wl_cons (we_isiG ⟨"", .inr ⟨_, rfl⟩⟩ (we_var rfl ⟨T.y_NoExchange, _, T.i_NoExchange_TooMany, (wl_cons (we_isiG ⟨"", .inr ⟨_, rfl⟩⟩ (we_var rfl ⟨T.y_NoExchange, _, T.i_NoExchange_NoRound, (wl_cons (we_isiG ⟨"", .inr ⟨_, rfl⟩⟩ (we_var rfl ⟨T.y_NoExchange, _, T.i_NoExchange_NoOrders, (wl_nil ⟨(by show 4 ≤ 1000; decide), ⟨rfl, ?_⟩⟩)⟩)) trivial)⟩)) trivial)⟩)) trivial)⟩)) trivial) trivial))
    refine ws_seq (ws_setO (α := List Bool) (we_cat (we_var rfl (we_lst (wl_cons (we_isiG ⟨"", .inr ⟨_, rfl⟩⟩ (we_var rfl ⟨T.y_NoExchange, _, T.i_NoExchange_NotEven, (wl_cons (we_isiG ⟨"", .inr ⟨_, rfl⟩⟩ (we_var rfl ⟨T.y_NoExchange, _, T.i_NoExchange_NotWhole, (wl_cons (we_isiG ⟨"", .inr ⟨_, rfl⟩⟩ (we_var rfl ⟨T.y_NoExchange, _, T.i_NoExchange_NoExchange, (wl_nil ⟨(by show 3 ≤ 1000; decide), ⟨by show 4 + 3 ≤ 1000; decide, rfl, ?_⟩⟩)⟩)) trivial)⟩)) trivial)⟩)) trivial) trivial))))
    exact ws_ret (S' := []) (we_cat (we_var rfl (we_lst (wl_cons (we_isiG ⟨"", .inr ⟨_, rfl⟩⟩ (we_var rfl ⟨T.y_NoExchange, _, T.i_NoExchange_NoWindows, (wl_cons (we_isiG ⟨"", .inr ⟨_, rfl⟩⟩ (we_var rfl ⟨T.y_NoExchange, _, T.i_NoExchange_NoRing, (wl_cons (we_isiG ⟨"", .inr ⟨_, rfl⟩⟩ (we_var rfl ⟨T.y_NoExchange, _, T.i_NoExchange_NoNote, (wl_cons (we_isiG ⟨_, .inl rfl⟩ (we_var rfl ⟨T.y_NoExchange, _, T.i_NoExchange_ValueError, (wl_nil ⟨(by show 4 ≤ 1000; decide), ⟨by show 7 + 4 ≤ 1000; decide, q⟩⟩)⟩)) trivial)⟩)) trivial)⟩)) trivial)⟩)) trivial) trivial)))
  · refine ws_seq (ws_setO (α := List Bool) (we_lst (wl_cons (we_isiG ⟨"", .inr ⟨_, rfl⟩⟩ (we_var rfl ⟨T.y_NoWindows, _, T.i_NoWindows_NoPlace, (wl_cons (we_isiG ⟨"", .inr ⟨_, rfl⟩⟩ (we_var rfl ⟨T.y_NoWindows, _, T.i_NoWindows_TooMany, (wl_cons (we_isiG ⟨"", .inr ⟨_, rfl⟩⟩ (we_var rfl ⟨T.y_NoWindows, _, T.i_NoWindows_NoRound, (wl_cons (we_isiG ⟨"", .inr ⟨_, rfl⟩⟩ (we_var rfl ⟨T.y_NoWindows, _, T.i_NoWindows_NoOrders, (wl_nil ⟨(by show 4 ≤ 1000; decide), ⟨rfl, ?_⟩⟩)⟩)) trivial)⟩)) trivial)⟩)) trivial)⟩)) trivial) trivial))
    refine ws_seq (ws_setO (α := List Bool) (we_cat (we_var rfl (we_lst (wl_cons (we_isiG ⟨"", .inr ⟨_, rfl⟩⟩ (we_var rfl ⟨T.y_NoWindows, _, T.i_NoWindows_NotEven, (wl_cons (we_isiG ⟨"", .inr ⟨_, rfl⟩⟩ (we_var rfl ⟨T.y_NoWindows, _, T.i_NoWindows_NotWhole, (wl_cons (we_isiG ⟨"", .inr ⟨_, rfl⟩⟩ (we_var rfl ⟨T.y_NoWindows, _, T.i_NoWindows_NoExchange, (wl_nil ⟨(by show 3 ≤ 1000; decide), ⟨by show 4 + 3 ≤ 1000; decide, rfl, ?_⟩⟩)⟩)) trivial)⟩)) trivial)⟩)) trivial) trivial))))
    exact ws_ret (S' := []) (we_cat (we_var rfl (we_lst (wl_cons (we_isiG ⟨"", .inr ⟨_, rfl⟩⟩ (we_var rfl ⟨T.y_NoWindows, _, T.i_NoWindows_NoWindows, (wl_cons (we_isiG ⟨"", .inr ⟨_, rfl⟩⟩ (we_var rfl ⟨T.y_NoWindows, _, T.i_NoWindows_NoRing, (wl_cons (we_isiG ⟨"", .inr ⟨_, rfl⟩⟩ (we_var rfl ⟨T.y_NoWindows, _, T.i_NoWindows_NoNote, (wl_cons (we_isiG ⟨_, .inl rfl⟩ (we_var rfl ⟨T.y_NoWindows, _, T.i_NoWindows_ValueError, (wl_nil ⟨(by show 4 ≤ 1000; decide), ⟨by show 7 + 4 ≤ 1000; decide, q⟩⟩)⟩)) trivial)⟩)) trivial)⟩)) trivial)⟩)) trivial) trivial)))
  · refine ws_seq (ws_setO (α := List Bool) (we_lst (wl_cons (we_isiG ⟨"", .inr ⟨_, rfl⟩⟩ (we_var rfl ⟨T.y_NoRing, _, T.i_NoRing_NoPlace, (wl_cons (we_isiG ⟨"", .inr ⟨_, rfl⟩⟩ (we_var rfl ⟨T.y_NoRing, _, T.i_NoRing_TooMany, (wl_cons (we_isiG ⟨"", .inr ⟨_, rfl⟩⟩ (we_var rfl ⟨T.y_NoRing, _, T.i_NoRing_NoRound, (wl_cons (we_isiG ⟨"", .inr ⟨_, rfl⟩⟩ (we_var rfl ⟨T.y_NoRing, _, T.i_NoRing_NoOrders, (wl_nil ⟨(by show 4 ≤ 1000; decide), ⟨rfl, ?_⟩⟩)⟩)) trivial)⟩)) trivial)⟩)) trivial)⟩)) trivial) trivial))
    refine ws_seq (ws_setO (α := List Bool) (we_cat (we_var rfl (we_lst (wl_cons (we_isiG ⟨"", .inr ⟨_, rfl⟩⟩ (we_var rfl ⟨T.y_NoRing, _, T.i_NoRing_NotEven, (wl_cons (we_isiG ⟨"", .inr ⟨_, rfl⟩⟩ (we_var rfl ⟨T.y_NoRing, _, T.i_NoRing_NotWhole, (wl_cons (we_isiG ⟨"", .inr ⟨_, rfl⟩⟩ (we_var rfl ⟨T.y_NoRing, _, T.i_NoRing_NoExchange, (wl_nil ⟨(by show 3 ≤ 1000; decide), ⟨by show 4 + 3 ≤ 1000; decide, rfl, ?_⟩⟩)⟩)) trivial)⟩)) trivial)⟩)) trivial) trivial))))
    exact ws_ret (S' := []) (we_cat (we_var rfl (we_lst (wl_cons (we_isiG ⟨"", .inr ⟨_, rfl⟩⟩ (we_var rfl ⟨T.y_NoRing, _, T.i_NoRing_NoWindows, (wl_cons (we_isiG ⟨"", .inr ⟨_, rfl⟩⟩ (we_var rfl ⟨T.y_NoRing, _, T.i_NoRing_NoRing, (wl_cons (we_isiG ⟨"", .inr ⟨_, rfl⟩⟩ (we_var rfl ⟨T.y_NoRing, _, T.i_NoRing_NoNote, (wl_cons (we_isiG ⟨_, .inl rfl⟩ (we_var rfl ⟨T.y_NoRing, _, T.i_NoRing_ValueError, (wl_nil ⟨(by show 4 ≤ 1000; decide), ⟨by show 7 + 4 ≤ 1000; decide, q⟩⟩)⟩)) trivial)⟩)) trivial)⟩)) trivial)⟩)) trivial) trivial)))
  · refine ws_seq (ws_setO (α := List Bool) (we_lst (wl_cons (we_isiG ⟨"", .inr ⟨_, rfl⟩⟩ (we_var rfl ⟨T.y_NoNote, _, T.i_NoNote_NoPlace, (wl_cons (we_isiG ⟨"", .inr ⟨_, rfl⟩⟩ (we_var rfl ⟨T.y_NoNote, _, T.i_NoNote_TooMany, (wl_cons (we_isiG ⟨"", .inr ⟨_, rfl⟩⟩ (we_var rfl ⟨T.y_NoNote, _, T.i_NoNote_NoRound, (wl_cons (we_isiG ⟨"", .inr ⟨_, rfl⟩⟩ (we_var rfl ⟨T.y_NoNote, _, T.i_NoNote_NoOrders, (wl_nil ⟨(by show 4 ≤ 1000; decide), ⟨rfl, ?_⟩⟩)⟩)) trivial)⟩)) trivial)⟩)) trivial)⟩)) trivial) trivial))
    refine ws_seq (ws_setO (α := List Bool) (we_cat (we_var rfl (we_lst (wl_cons (we_isiG ⟨"", .inr ⟨_, rfl⟩⟩ (we_var rfl ⟨T.y_NoNote, _, T.i_NoNote_NotEven, (wl_cons (we_isiG ⟨"", .inr ⟨_, rfl⟩⟩ (we_var rfl ⟨T.y_NoNote, _, T.i_NoNote_NotWhole, (wl_cons (we_isiG ⟨"", .inr ⟨_, rfl⟩⟩ (we_var rfl ⟨T.y_NoNote, _, T.i_NoNote_NoExchange, (wl_nil ⟨(by show 3 ≤ 1000; decide), ⟨by show 4 + 3 ≤ 1000; decide, rfl, ?_⟩⟩)⟩)) trivial)⟩)) trivial)⟩)) trivial) trivial))))
    exact ws_ret (S' := []) (we_cat (we_var rfl (we_lst (wl_cons (we_isiG ⟨"", .inr ⟨_, rfl⟩⟩ (we_var rfl ⟨T.y_NoNote, _, T.i_NoNote_NoWindows, (wl_cons (we_isiG ⟨"", .inr ⟨_, rfl⟩⟩ (we_var rfl ⟨T.y_NoNote, _, T.i_NoNote_NoRing, (wl_cons (we_isiG ⟨"", .inr ⟨_, rfl⟩⟩ (we_var rfl ⟨T.y_NoNote, _, T.i_NoNote_NoNote, (wl_cons (we_isiG ⟨_, .inl rfl⟩ (we_var rfl ⟨T.y_NoNote, _, T.i_NoNote_ValueError, (wl_nil ⟨(by show 4 ≤ 1000; decide), ⟨by show 7 + 4 ≤ 1000; decide, q⟩⟩)⟩)) trivial)⟩)) trivial)⟩)) trivial)⟩)) trivial) trivial)))
theorem cut_init {xs : List (List Int)} (h : 1 ≤ xs.length) : cutL xs none (some (-1)) = xs.take (xs.length - 1) := by
  show (xs.drop 0).take ((if (-1 : Int) < 0 then ((-1 : Int) + (xs.length : Int)).toNat else min (-1 : Int).toNat xs.length) - 0) = _
  rw [if_pos (by decide), List.drop_zero]
  congr 1
  omega
theorem okX_q_deed (T : Tx K mg t) : FnOk P w K mg base (CXD P w) 6 t.a_q_deed t.d_q_deed ["net", "way", "rows", "circuit"] (spZ (cc K t) (p_deed (kcl t))) := by
  refine T.F_q_deed.okD sc_q_deed (fun vs H Q E h => spZ_len h (by rintro w es X Y ⟨way, rows, cs, rfl, _⟩; rfl)) (fun cdv A outer s H vs Q E hr h => ⟨_, (pss_one (ps_if (pt_cmpR op_eq (pv 1) pe_int (nomark _))
        (pss_one (ps_expr (pe_methG (pv 0) T.c_Net T.t_Net_lay (okX_Net_lay T) (hr.mono (by decide)) T.b_Net_lay .nil passG_defD (pa_cons pe_int (pa_cons (pe_fldK (K := K) rfl (pv 0) rfl) pa_nil)))))
        (pss_one (ps_if (pt_cmpR op_eq (pv 1) pe_int (nomark _))
        (pss_one (ps_expr (pe_makeG T.k_Net (okX_Net_init T) (hr.mono (by decide)) rfl T.m_Net T.b_Net_init .nil passG_defD (pa_cons pe_int pa_nil))))
        (pss_one (ps_if (pt_cmpR op_eq (pv 1) pe_int (nomark _))
        (pss_one (ps_expr (pe_callG (okX_orders T) (hr.mono (by decide)) rfl T.m_orders T.F_orders.kp T.b_orders .nil passG_defD (pa_cons (pv 0) (pa_cons (pe_slice (sl_listK (K := K) rfl) (pv 3) (po_some pe_int) po_none) pa_nil)))))
        (pss_one (ps_if (pt_cmpR op_eq (pv 1) pe_int (nomark _))
        (pss_one (ps_expr (pe_callG (okX_by_orders T) (hr.mono (by decide)) rfl T.m_by_orders T.F_by_orders.kp T.b_by_orders .nil passG_defDD (pa_cons (pv 0) (pa_cons pe_int (pa_cons (pe_op op_cat (pe_slice (sl_listK (K := K) rfl) (pv 2) po_none (po_some (pe_un un_neg pe_int))) (pe_lst (pa_cons (pe_lst pa_nil) pa_nil))) pa_nil))))))
        (pss_one (ps_if (pt_cmpR op_eq (pv 1) pe_int (nomark _))
        (pss_cons (ps_expr (pe_meth (pv 0) T.c_Net T.t_Net_lay (ok_Net_lay T) (hr.mono (by decide)) T.b_Net_lay .nil pass0 (pa_cons pe_int (pa_cons pe_int pa_nil))))
      (pss_one (ps_expr (pe_callG (okX_by_orders T) (hr.mono (by decide)) rfl T.m_by_orders T.F_by_orders.kp T.b_by_orders .nil passG_defDD (pa_cons (pv 0) (pa_cons pe_int (pa_cons (pe_op op_cat (pe_lst (pa_cons (pe_op op_cat (pe_ix (ix_listK (K := K) rfl) (pv 2) pe_int (fun _ _ => rfl)) (pe_lst (pa_cons (pe_op op_sub (pe_callB (call_lenK (K := K) rfl) rfl T.z_len PySem.boot_len (pa_cons (pe_fldK (K := K) rfl (pv 0) rfl) pa_nil)) pe_int) pa_nil))) pa_nil)) (pe_slice (sl_listK (K := K) rfl) (pv 2) (po_some pe_int) po_none)) pa_nil)))))))
        (pss_one (ps_if (pt_cmpR op_eq (pv 1) pe_int (nomark _))
        (pss_one (ps_expr (pe_callG (okX_by_orders T) (hr.mono (by decide)) rfl T.m_by_orders T.F_by_orders.kp T.b_by_orders .nil passG_defDD (pa_cons (pv 0) (pa_cons (pe_op op_sub (pe_fldK (K := K) rfl (pv 0) rfl) pe_int) (pa_cons (pv 2) pa_nil))))))
        (pss_one (ps_if (pt_cmpR op_eq (pv 1) pe_int (nomark _))
        (pss_one (ps_expr (pe_callG (okX_exchanged T) (hr.mono (by decide)) rfl T.m_exchanged T.F_exchanged.kp T.b_exchanged .nil passG_defD (pa_cons (pv 0) (pa_cons (pv 3) (pa_cons (pe_tup (pa_cons pe_int (pa_cons pe_int (pa_cons pe_int (pa_cons pe_int pa_nil))))) pa_nil))))))
        (pss_one (ps_if (pt_cmpR op_eq (pv 1) pe_int (nomark _))
        (pss_one (ps_expr (pe_callG (okX_window_net T) (hr.mono (by decide)) rfl T.m_window_net T.F_window_net.kp T.b_window_net .nil passG_defD (pa_cons pe_int (pa_cons pe_int pa_nil)))))
        (pss_one (ps_if (pt_cmpR op_eq (pv 1) pe_int (nomark _))
        (pss_one (ps_expr (pe_callG (okX_ring_round T) (hr.mono (by decide)) rfl T.m_ring_round T.F_ring_round.kp T.b_ring_round .nil passG_defD (pa_cons pe_int (pa_cons pe_int (pa_cons (pe_lst (pa_cons pe_int (pa_cons pe_int (pa_cons pe_int (pa_cons pe_int pa_nil))))) pa_nil))))))
        (pss_one (ps_expr (pe_callG (okX_read T) (hr.mono (by decide)) rfl T.m_read T.F_read.kp T.b_read .nil passG_defD (pa_cons (pe_op op_add_str (pe_op op_add_str pe_str (pe_callTy call_str_int rfl T.z_str (by decide +kernel) (pa_cons (pe_fldK (K := K) rfl (pv 0) rfl) pa_nil))) pe_str) pa_nil)))))))))))))))))))))), fnZ_data h ?_⟩)
  rintro N es X Y v0 as ⟨way, rows, cs, rfl, dI, hw, qX, qY⟩ xp
  have hn := dI.n
  have hrl := dI.rl
  have hcl := dI.cl
  have hlen := dI.len
  refine wz_if (wt_test (we_eqI (we_var rfl (we_int ⟨fun h => ?_, fun h0 => ?_⟩))))
  · have e := of_decide_eq_true h
    subst e
    exact wz_g (wg_drop (α := Int) (wg_meth xp.toXp (by decide +kernel) (by decide +kernel) (we_varP (γ := NetD) rfl (wa_cons (we_int (wa_cons (we_size T.c_Net T.n_Net_size (we_varP (γ := NetD) rfl (wa_nil ⟨X, ⟨N, 0, N.n, rfl, fun z => (by omega), qX (by decide)⟩, fun C h => h⟩)))))))))
  refine wz_if (wt_test (we_eqI (we_var rfl (we_int ⟨fun h => ?_, fun h1 => ?_⟩))))
  · have e := of_decide_eq_true h
    subst e
    exact wz_g (wg_drop (α := Unit) (wg_netX xp.toXp (we_int ⟨X, ⟨⟨⟩, 9, rfl, by decide, qX (by decide)⟩, fun C h => h⟩)))
  refine wz_if (wt_test (we_eqI (we_var rfl (we_int ⟨fun h => ?_, fun h2 => ?_⟩))))
  · have e := of_decide_eq_true h
    subst e
    have hc : cutL cs (some 1) none = cs.drop 1 := cut_from (by decide) (by omega)
    refine wz_g (wg_drop (α := List (List Int)) (wg_call xp.toXp (wa_cons (we_varP (γ := NetD) rfl (wa_cons (we_slice (we_var rfl (wo_some (we_int (wo_none (wa_nil ⟨X, ⟨N, _, rfl, by omega, ?_, ?_, qX (by decide)⟩, fun C h => h⟩)))))))))))
    · rw [hc, List.length_drop]; omega
    · rw [hc]; exact dI.d2 rfl
  refine wz_if (wt_test (we_eqI (we_var rfl (we_int ⟨fun h => ?_, fun h3 => ?_⟩))))
  · have e := of_decide_eq_true h
    subst e
    have hc := cut_init (xs := rows) (by omega)
    refine wz_g (wg_drop (α := List Int) (wgD_call xp (wa_cons (we_varP (γ := NetD) rfl (wa_cons (we_int (wa_cons (α := List (List Int)) (we_catA trivial (we_sliceA trivial (we_var rfl (wo_none (wo_some (we_neg (we_int (we_lst (wl_cons (we_nil (wl_nil ⟨by show 1 ≤ 1000; decide, ?_, wa_nil ⟨X, Y, ⟨N, 0, _, rfl, ?_, ?_⟩, fun C h => h, fun C xs h => h⟩⟩)) trivial) trivial)))))))))))))))
    · rw [hc, List.length_take]
      show _ + 1 ≤ 1000
      omega
    · rw [hc]
      refine ⟨by omega, dI.net, by omega, ?_, fun row hr => ?_⟩
      · rw [List.length_append, List.length_take]
        show _ + 1 ≤ 100
        omega
      · rcases List.mem_append.mp hr with z | z
        · have := dI.rw_ row (List.mem_of_mem_take z)
          omega
        · rw [show row = [] by simpa using z]; decide
    · rw [hc]
      have hno := dI.d3 rfl
      exact ⟨fun z => absurd ⟨by decide, by omega⟩ z, fun _ _ => qX (by decide), fun _ g => absurd g hno, fun _ g => absurd g hno, fun _ g => absurd g hno⟩
  refine wz_if (wt_test (we_eqI (we_var rfl (we_int ⟨fun h => ?_, fun h4 => ?_⟩))))
  · have e := of_decide_eq_true h
    subst e
    obtain ⟨row, g1, g1', m1⟩ := atI_ge (xs := rows) (i := 0) (by decide) (by omega)
    obtain ⟨hg, ho⟩ := dI.d4 rfl row g1'
    have hrow := dI.rw_ row m1
    have hc : cutL rows (some 1) none = rows.drop 1 := cut_from (by decide) (by omega)
    have hl : (((N.rs ++ [((0 : Int), (1 : Int))]).length : Nat) : Int) - 1 = ((N.rs.length : Nat) : Int) := by
      rw [List.length_append]
      show ((N.rs.length + 1 : Nat) : Int) - 1 = _
      omega
    refine wz_seq (wz_of (ws_u (wu_pin (γ := NetD) (i := 0) rfl (wu_lay rfl (we_int (we_int ⟨⟨⟨by decide, by omega⟩, ⟨by decide, by omega⟩, by omega⟩, ⟨_, rfl, ?_⟩⟩))))))
    refine wz_g (wg_drop (α := List Int) (wgD_call xp (wa_cons (we_varP (γ := NetD) rfl (wa_cons (we_int (wa_cons (α := List (List Int)) (we_catA trivial (we_lst (wl_cons (we_cat (α := Int) (we_ix (we_var rfl (we_int ⟨row, g1, we_lst (wl_cons (we_sub (we_len (we_roads T.c_Net T.n_Net_roads (we_varP (γ := NetD) rfl (we_int (wl_nil ⟨by show 1 ≤ 1000; decide, ?_, wl_nil ⟨by show 1 ≤ 1000; decide, we_sliceA trivial (we_var rfl (wo_some (we_int (wo_none ⟨?_, wa_nil ⟨X, Y, ⟨⟨N.n, N.rs ++ [(0, 1)]⟩, 0, _, rfl, ?_, ?_⟩, fun C h => h, fun C xs h => h⟩⟩))))⟩⟩)))))) trivial) trivial⟩)))) trivial) trivial)))))))))
    · show row.length + 1 ≤ 1000
      omega
    · rw [hc, List.length_drop]
      show 1 + _ ≤ 1000
      omega
    · rw [hc, hl]
      refine ⟨by show 1 ≤ N.n ∧ N.n ≤ 8; omega, fun e he => ?_, by show (N.rs ++ [((0 : Int), (1 : Int))]).length ≤ 24; rw [List.length_append]; show N.rs.length + 1 ≤ 24; omega, ?_, fun r hr => ?_⟩
      · rcases List.mem_append.mp he with z | z
        · exact dI.net e z
        · rw [show e = ((0 : Int), (1 : Int)) by simpa using z]
          exact ⟨⟨by decide, by show (0 : Int) < N.n; omega⟩, by decide, by show (1 : Int) < N.n; omega⟩
      · rw [List.length_append, List.length_drop]
        show 1 + _ ≤ 100
        omega
      · rcases List.mem_append.mp hr with z | z
        · rw [show r = row ++ [((N.rs.length : Nat) : Int)] by simpa using z, List.length_append]
          show row.length + 1 < 64
          omega
        · have := dI.rw_ r (List.mem_of_mem_drop z)
          omega
    · rw [hc, hl]
      exact ⟨fun z => absurd ⟨by decide, by show (0 : Int) < N.n; omega⟩ z, fun _ g => absurd hg g, fun _ _ _ => qX (by decide), fun _ _ o => absurd o ho, fun _ _ o => absurd o ho⟩
  refine wz_if (wt_test (we_eqI (we_var rfl (we_int ⟨fun h => ?_, fun h5 => ?_⟩))))
  · have e := of_decide_eq_true h
    subst e
    obtain ⟨hg, ho, hlf⟩ := dI.d5 rfl
    exact wz_g (wg_drop (α := List Int) (wgD_call xp (wa_cons (we_varP (γ := NetD) rfl (wa_cons (we_sub (we_size T.c_Net T.n_Net_size (we_varP (γ := NetD) rfl (we_int (wa_cons (α := List (List Int)) (we_var rfl (wa_nil ⟨X, Y, ⟨N, N.n - 1, rows, rfl, ⟨by omega, dI.net, by omega, by omega, fun r hr => (by have := dI.rw_ r hr; omega)⟩,
      ⟨fun z => absurd ⟨by omega, by omega⟩ z, fun _ g => absurd hg g, fun _ _ o => absurd ho o, fun _ _ _ _ => qY rfl _, fun _ _ _ l => absurd l hlf⟩⟩, fun C h => h, fun C xs h => h⟩))))))))))))
  refine wz_if (wt_test (we_eqI (we_var rfl (we_int ⟨fun h => ?_, fun h6 => ?_⟩))))
  · have e := of_decide_eq_true h
    subst e
    exact wz_g (wg_drop (α := List Int) (wg_call xp.toXp (wa_cons (we_varP (γ := NetD) rfl (wa_cons (we_var rfl (wa_cons (α := Q4) (we_q4 (we_int (we_int (we_int (we_int (wa_nil ⟨X, ⟨N, cs, ⟨1, 0, 1, 2⟩, rfl, by omega, by omega, dI.d6 rfl, fun z => absurd z.2.1 (by decide), qX (by decide)⟩, fun C h => h⟩)))))))))))))
  refine wz_if (wt_test (we_eqI (we_var rfl (we_int ⟨fun h => ?_, fun h7 => ?_⟩))))
  · have e := of_decide_eq_true h
    subst e
    exact wz_g (wg_drop (α := NetD) (wg_call xp.toXp (wa_cons (we_int (wa_cons (we_int (wa_nil ⟨X, ⟨0, 2, rfl, by decide, by decide, by decide, qX (by decide)⟩, fun C h => h⟩)))))))
  refine wz_if (wt_test (we_eqI (we_var rfl (we_int ⟨fun h => ?_, fun h8 => ?_⟩))))
  · have e := of_decide_eq_true h
    subst e
    exact wz_g (wg_drop (α := List Int) (wg_call xp.toXp (wa_cons (we_int (wa_cons (we_int (wa_cons (α := List Int) (we_lst (wl_cons (we_int (wl_cons (we_int (wl_cons (we_int (wl_cons (we_int (wl_nil ⟨(by show 4 ≤ 1000; decide), (wa_nil ⟨X, ⟨2, 2, [0, 1, 0, 1], rfl, by decide, by decide, by decide, fun z => absurd (by decide) z, fun _ g => absurd g ring_bad, fun _ _ => qX (by decide)⟩, fun C h => h⟩)⟩)) trivial)) trivial)) trivial)) trivial) trivial))))))))
  · have e : way = 9 := by
      have a0 := of_decide_eq_false h0
      have a1 := of_decide_eq_false h1
      have a2 := of_decide_eq_false h2
      have a3 := of_decide_eq_false h3
      have a4 := of_decide_eq_false h4
      have a5 := of_decide_eq_false h5
      have a6 := of_decide_eq_false h6
      have a7 := of_decide_eq_false h7
      have a8 := of_decide_eq_false h8
      omega
    subst e
    obtain ⟨r1, r2⟩ := read_bad hn
    exact wz_g (wg_drop (α := NetD) (wg_call xp.toXp (wa_cons (α := Str) (we_catS (we_catS (we_str (we_strI (we_size T.c_Net T.n_Net_size (we_varP (γ := NetD) rfl ⟨small_dig (by omega) (by omega), ⟨lenOk len_net (sI_len (by omega) (by omega)) (by decide), (we_str ⟨lenOk (lenCat len_net (sI_len (by omega) (by omega))) len_nl (by decide), (wa_nil ⟨X, ⟨_, rfl, r2, fun p z => (by rw [r1] at z; cases z), fun _ => qX (by decide)⟩, fun C h => h⟩)⟩)⟩⟩)))))))))
theorem ok_lawD (T : Tx K mg t) : FnOk P w K mg base CX0 7 t.a_law t.d_law ["script"] (spF (cc K t) p_law) := by
  refine T.F_law.ok sc_law (fun vs H Q E h => spF_len h (by rintro es R ⟨ns, rfl, _⟩; rfl)) (fun cdv A outer s H vs Q E hr h => ⟨_, (pss_cons (ps_set (i := 1) sc_law.nd rfl (by first | exact Or.inl rfl | exact Or.inr rfl) (pe_op op_add pe_int (pe_call (ok_q_drawn T) (hr.mono (by decide)) rfl T.m_q_drawn T.F_q_drawn.kp T.b_q_drawn .nil pass0 (pa_cons (pv 0) (pa_cons pe_int (pa_cons pe_int pa_nil))))))
      (pss_cons (ps_set (i := 2) sc_law.nd rfl (by first | exact Or.inl rfl | exact Or.inr rfl) (pe_op op_add pe_int (pe_call (ok_q_drawn T) (hr.mono (by decide)) rfl T.m_q_drawn T.F_q_drawn.kp T.b_q_drawn .nil pass0 (pa_cons (pv 0) (pa_cons pe_int (pa_cons pe_int pa_nil))))))
      (pss_cons (ps_set (i := 3) sc_law.nd rfl (by first | exact Or.inl rfl | exact Or.inr rfl) (pe_call (ok_q_drawn T) (hr.mono (by decide)) rfl T.m_q_drawn T.F_q_drawn.kp T.b_q_drawn .nil pass0 (pa_cons (pv 0) (pa_cons pe_int (pa_cons pe_int pa_nil)))))
      (pss_cons (ps_set (i := 4) sc_law.nd rfl (by first | exact Or.inl rfl | exact Or.inr rfl) (pe_make T.k_Net (ok_Net_init T) (hr.mono (by decide)) rfl T.m_Net T.b_Net_init .nil pass0 (pa_cons (pe_op op_add (pv 1) pe_int) pa_nil)))
      (pss_cons (ps_set (i := 5) sc_law.nd rfl (by first | exact Or.inl rfl | exact Or.inr rfl) (pe_lst pa_nil))
      (pss_cons (ps_setComp (i := 6) sc_law.nd rfl rfl (comp_mk ["place"] [] [] rfl (pi_range1 rfl T.z_range (pa_cons (pe_op op_add (pv 1) pe_int) pa_nil)) (fun _ _ _ _ => (pg_name (i := 0) (show (([("place" : Str)] : List Str) ++ ([] : List Str)).Nodup by decide +kernel) rfl (by first | exact Or.inl rfl | exact Or.inr rfl))) own_name (fun _ _ _ _ => pts_nil) (fun _ _ _ _ => (pe_lst pa_nil))))
      (pss_cons (ps_for PassesOwn.never rfl (pi_range1 rfl T.z_range (pa_cons (pv 2) pa_nil)) (pg_name (i := 7) sc_law.nd rfl (by first | exact Or.inl rfl | exact Or.inr rfl))
        (pss_one (ps_for PassesOwn.never rfl (pi_range1 rfl T.z_range (pa_cons (pv 1) pa_nil)) (pg_name (i := 8) sc_law.nd rfl (by first | exact Or.inl rfl | exact Or.inr rfl))
        (pss_cons (ps_set (i := 9) sc_law.nd rfl (by first | exact Or.inl rfl | exact Or.inr rfl) (pe_meth (pv 4) T.c_Net T.t_Net_lay (ok_Net_lay T) (hr.mono (by decide)) T.b_Net_lay .nil pass0 (pa_cons (pv 8) (pa_cons (pe_op op_mod (pe_op op_add (pv 8) pe_int) (pv 1)) pa_nil))))
      (pss_cons (ps_expr (pe_bmK (K := K) rfl PySem.F.plainAttrs_list PySem.F.slot_list_append PySem.F.type_list_append mt_append (pv 5) (pa_cons (pv 9) pa_nil)))
      (pss_one (ps_expr (pe_bmK (K := K) rfl PySem.F.plainAttrs_list PySem.F.slot_list_append PySem.F.type_list_append mt_append (pe_ix (ix_listK (K := K) rfl) (pv 6) (pv 8) (fun _ _ => rfl)) (pa_cons (pv 9) pa_nil)))))))))
      (pss_cons (ps_if (pt_cmpR op_eq (pv 3) pe_int (nomark _))
        (pss_one (ps_expr (pe_bmK (K := K) rfl PySem.F.plainAttrs_list PySem.F.slot_list_append PySem.F.type_list_append mt_append (pe_ix (ix_listK (K := K) rfl) (pv 6) (pv 1) (fun _ _ => rfl)) (pa_cons (pe_meth (pv 4) T.c_Net T.t_Net_lay (ok_Net_lay T) (hr.mono (by decide)) T.b_Net_lay .nil pass0 (pa_cons (pv 1) (pa_cons (pv 1) pa_nil))) pa_nil))))
        pss_nil)
      (pss_cons (ps_if (pt_cmpR op_eq (pv 3) pe_int (nomark _))
        (pss_one (ps_set (i := 6) sc_law.nd rfl (by first | exact Or.inl rfl | exact Or.inr rfl) (pe_op op_cat (pe_slice (sl_listK (K := K) rfl) (pv 6) po_none (po_some (pe_op op_sub (pv 1) pe_int))) (pe_lst (pa_cons (pe_ix (ix_listK (K := K) rfl) (pv 6) (pv 1) (fun _ _ => rfl)) (pa_cons (pe_ix (ix_listK (K := K) rfl) (pv 6) (pe_op op_sub (pv 1) pe_int) (fun _ _ => rfl)) pa_nil))))))
        pss_nil)
      (pss_cons (ps_set (i := 10) sc_law.nd rfl (by first | exact Or.inl rfl | exact Or.inr rfl) (pe_lst pa_nil))
      (pss_cons (ps_tryD rfl rfl)
      (pss_one (ps_ret (pe_cmpR (op_eqDK (K := K) rfl hr.units) (pv 10) (pe_comp (comp_mk ["k"] ["way"] [3] rfl (pi_range1 rfl T.z_range (pa_cons pe_int pa_nil)) (fun _ _ _ _ => (pg_name (i := 0) (show (([("k" : Str)] : List Str) ++ ([("way" : Str)] : List Str)).Nodup by decide +kernel) rfl (by first | exact Or.inl rfl | exact Or.inr rfl))) own_name (fun _ _ _ _ => pts_nil) (fun _ _ _ _ => (pe_or (pe_cmpR op_eq (pv 0) (pv 1) (nomark _)) (pe_one (pe_cmpR op_eq (pv 0) pe_int (nomark _))))))) (nomark _))))))))))))))), fn_data h ?_⟩)
  rintro es R ⟨ns, rfl, _, q⟩
  refine ws_seq (ws_setF (we_add (we_int (we_call (wa_cons (we_var rfl (wa_cons (we_int (wa_cons (we_int (wa_nil ⟨ns, 0, 6, rfl, ⟨by decide, by decide⟩, by decide, fun s0 hs0 hs1 => ?_⟩)))))))))))
  refine ws_seq (ws_setF (we_add (we_int (we_call (wa_cons (we_var rfl (wa_cons (we_int (wa_cons (we_int (wa_nil ⟨ns, 1, 2, rfl, ⟨by decide, by decide⟩, by decide, fun m0 hm0 hm1 => ?_⟩)))))))))))
  refine ws_seq (ws_setF (α := Int) (we_call (wa_cons (we_var rfl (wa_cons (we_int (wa_cons (we_int (wa_nil ⟨ns, 2, 10, rfl, ⟨by decide, by decide⟩, by decide, fun way hw0 hw1 => ?_⟩)))))))))
  obtain ⟨S, hS⟩ : ∃ S : Nat, (S : Int) = 2 + s0 := ⟨(2 + s0).toNat, by omega⟩
  obtain ⟨M, hM⟩ : ∃ M : Nat, (M : Int) = 1 + m0 := ⟨(1 + m0).toNat, by omega⟩
  rw [← hS, ← hM]
  have hS2 : 2 ≤ S ∧ S ≤ 7 := by omega
  have hM2 : 1 ≤ M ∧ M ≤ 2 := by omega
  refine ws_seq (ws_setO (α := NetD) (we_net (we_add (we_var rfl (we_int ⟨⟨by omega, by omega⟩, ⟨rfl, ?_⟩⟩)))))
  refine ws_seq (ws_setO (α := List Int) (we_nil ⟨rfl, ?_⟩))
  refine ws_seq (ws_setO (α := List (List Int)) (we_compR (β := List Int) (we_add (we_var rfl (we_int ⟨⟨by omega, by omega⟩, fun k ys => ys = List.replicate k [], rfl, ?_, ?_⟩)))))
  · rintro k ys hk rfl
    refine wt_all (we_nil ?_)
    dsimp only
    rw [List.replicate_succ']
  rintro ys rfl
  refine ⟨rfl, ?_⟩
  have hS1 : ((S : Int) + 1).toNat = S + 1 := by omega
  rw [hS1]
  refine ws_seq (ws_for1 (we_var rfl ⟨⟨by omega, by omega⟩, fun L e => ∃ (rs : List (Int × Int)) (rows : List (List Int)) (o7 o8 o9 : Ent (cc K t)), rs.length = L * S ∧ Ring S rs ∧ Good (S + 1) rs rows ∧ e = [.sh (⟨ns⟩ : Sc), .sh (S : Int), .sh (M : Int), .sh way, .ow (⟨(S : Int) + 1, rs⟩ : NetD), .ow (rng rs.length), .ow rows, o7, o8, o9, .no, .no],
    ⟨[], _, _, _, _, by rw [Nat.zero_mul]; rfl, fun j hj => absurd hj (by simp), Good.nil _, rfl⟩, ?_, ?_⟩))
  · rintro L e hL ⟨rs, rows, o7, o8, o9, hrl, hR, hg, rfl⟩
    refine ws_for1 (we_var rfl ⟨⟨by omega, by omega⟩, fun p e => ∃ (rs : List (Int × Int)) (rows : List (List Int)) (o8 o9 : Ent (cc K t)), rs.length = L * S + p ∧ Ring S rs ∧ Good (S + 1) rs rows ∧ e = [.sh (⟨ns⟩ : Sc), .sh (S : Int), .sh (M : Int), .sh way, .ow (⟨(S : Int) + 1, rs⟩ : NetD), .ow (rng rs.length), .ow rows, .sh (L : Int), o8, o9, .no, .no],
      ⟨rs, rows, _, _, by omega, hR, hg, rfl⟩, ?_, ?_⟩)
    · clear hR hg hrl rs rows
      rintro p e hp ⟨rs, rows, o8, o9, hrl, hR, hg, rfl⟩
      have hLS : L * S ≤ 1 * S := Nat.mul_le_mul_right _ (by omega)
      have hpS : p < S := by omega
      have hmod : rs.length % S = p := by rw [hrl, Nat.mul_comm, Nat.mul_add_mod, Nat.mod_eq_of_lt hpS]
      have hrow := List.getElem?_eq_getElem (l := rows) (i := p) (by rw [hg.1]; omega)
      have hrwl : (rows[p]'(by rw [hg.1]; omega)).length ≤ rs.length := (hg.mem (List.getElem_mem _)).2
      have hk : ((p : Int) + 1) % (S : Int) = (((p + 1) % S : Nat) : Int) := by rw [Int.natCast_emod]; rfl
      have hk2 : (p + 1) % S < S := Nat.mod_lt _ (by omega)
      refine ws_seq (ws_layA rfl (we_var rfl (we_iC (we_add (we_var rfl (we_int (we_var rfl ⟨(show (0 : Int) < (S : Int) by omega), ⟨⟨⟨by omega, by show (p : Int) < (S : Int) + 1; omega⟩, ⟨by rw [hk]; omega, by rw [hk]; show _ < (S : Int) + 1; omega⟩, by show rs.length < 24; omega⟩, ?_⟩⟩)))))))
      refine ws_seq (ws_append rfl (we_varF rfl ⟨by rw [rng_len]; omega, ?_⟩))
      refine ws_appendI rfl (we_var rfl ⟨p, _, ?_, hrow, we_var rfl ⟨by omega, ?_⟩⟩)
      · unfold ixN
        rw [hg.1, if_pos (by omega), if_pos (by omega), Int.toNat_natCast]
      · rw [hk]
        refine ⟨rs ++ [((p : Int), (((p + 1) % S : Nat) : Int))], _, .sh (p : Int), .sh ((rs.length : Nat) : Int), by rw [List.length_append, List.length_singleton]; omega, hR.snoc hmod rfl, hg.lay hrow, ?_⟩
        rw [List.length_append, List.length_singleton, rng_succ]
        rfl
    · clear hR hg hrl rs rows
      rintro e ⟨rs, rows, o8, o9, hrl, hR, hg, rfl⟩
      refine ⟨rs, rows, _, _, _, ?_, hR, hg, rfl⟩
      rw [hrl, Int.toNat_natCast, Nat.succ_mul]
  rintro e ⟨rs, rows, o7, o8, o9, hrl, hR, hg, rfl⟩
  rw [Int.toNat_natCast] at hrl
  have hMS : M * S ≤ 2 * S := Nat.mul_le_mul_right _ (by omega)
  have hMS1 : 1 * S ≤ M * S := Nat.mul_le_mul_right _ (by omega)
  have hIR := hR.isR (by rw [hrl]; exact Nat.mul_mod_left _ _)
  have hin : InNet ((S : Int) + 1) rs := hR.inNet (by omega) (by omega)
  have hgl := hg.1
  have hno : outsD rs (S : Int) = [] := List.filter_eq_nil_iff.mpr fun j hj => by
    have mj := mem_rng.mp hj
    rw [rd_get mj.1 mj.2, (hR.at_ mj.1 mj.2).1]
    have := Nat.mod_lt j.toNat (show 0 < S by omega)
    intro z
    have z' : ((j.toNat % S : Nat) : Int) = (S : Int) := Option.some.inj (of_decide_eq_true z)
    have z2 : j.toNat % S = S := Int.ofNat.inj z'
    omega
  refine ws_seq (ws_ifJ (fun e => (way = 5 ∧ ∃ (N : NetD) (rows : List (List Int)), DeedI N way rows (rng rs.length) ∧ e = [.sh (⟨ns⟩ : Sc), .sh (S : Int), .sh (M : Int), .sh way, .ow N, .ow (rng rs.length), .ow rows, o7, o8, o9, .no, .no]) ∨ (way ≠ 5 ∧ e = [.sh (⟨ns⟩ : Sc), .sh (S : Int), .sh (M : Int), .sh way, .ow (⟨(S : Int) + 1, rs⟩ : NetD), .ow (rng rs.length), .ow rows, o7, o8, o9, .no, .no])) (wt_test (we_eqI (we_var rfl (we_int ⟨fun h => ?_, fun h => ws_next (.inr ⟨of_decide_eq_false h, rfl⟩)⟩)))) ?_)
  · have hw5 := of_decide_eq_true h
    have hrow := List.getElem?_eq_getElem (l := rows) (i := S) (by omega)
    have hg5 := hg.lay (b := (S : Int)) hrow
    have hrwl : (rows[S]'(by omega)).length ≤ rs.length := (hg.mem (List.getElem_mem _)).2
    refine ws_appendLay rfl rfl (by decide) (we_var rfl ⟨S, _, ?_, hrow, by omega, we_var rfl (we_var rfl ⟨⟨⟨by omega, by show (S : Int) < (S : Int) + 1; omega⟩, ⟨by omega, by show (S : Int) < (S : Int) + 1; omega⟩, by show rs.length < 24; omega⟩, .inl ⟨hw5, _, _, ?_, rfl⟩⟩)⟩)
    · unfold ixN
      rw [if_pos (by omega), if_pos (by omega), Int.toNat_natCast]
    refine ⟨by show 3 ≤ (S : Int) + 1 ∧ (S : Int) + 1 ≤ 8; omega, fun e he => ?_, by show (rs ++ [((S : Int), (S : Int))]).length < 24; rw [List.length_append]; show rs.length + 1 < 24; omega, by rw [List.length_set, hgl]; rfl, fun row hr => ?_, by rw [rng_len]; omega, fun z => absurd z (by omega), fun z => absurd z (by omega), fun z => absurd z (by omega), fun _ => ⟨?_, ?_, ?_⟩, fun z => absurd z (by omega)⟩
    · rcases List.mem_append.mp he with z | z
      · exact hin e z
      · rw [show e = ((S : Int), (S : Int)) by simpa using z]
        exact ⟨⟨by show (0 : Int) ≤ (S : Int); omega, by show (S : Int) < (S : Int) + 1; omega⟩, by show (0 : Int) ≤ (S : Int); omega, by show (S : Int) < (S : Int) + 1; omega⟩
    · have := (hg5.mem hr).2
      rw [List.length_append] at this
      have this : row.length ≤ rs.length + 1 := this
      omega
    · show Good ((S : Int) + 1).toNat _ _
      rw [hS1]
      exact hg5
    · exact oddD_loop hIR.counts _
    · show leftD _ (walkD _ _ ((S : Int) + 1 - 1)) ≠ []
      rw [show (S : Int) + 1 - 1 = (S : Int) by omega]
      exact loop_left (rs := rs) hg5 (by omega) hno (show 0 < rs.length by omega)
  refine fun e he => ws_seq (ws_ifJ (fun e => ∃ (N : NetD) (o : Bool) (rows : List (List Int)), DeedI N way rows (rng rs.length) ∧ e = [.sh (⟨ns⟩ : Sc), .sh (S : Int), .sh (M : Int), .sh way, .ow N, .ow (rng rs.length), .en o rows, o7, o8, o9, .no, .no]) ?_ ?_)
  · rcases he with ⟨hw5, N, rows5, dI, rfl⟩ | ⟨hw5, rfl⟩
    · exact (wt_test (we_eqI (we_var rfl (we_int ⟨fun h => absurd (of_decide_eq_true h) (by omega), fun _ => ws_next ⟨N, true, rows5, dI, rfl⟩⟩))))
    refine (wt_test (we_eqI (we_var rfl (we_int ⟨fun h => ?_, fun h => ws_next ⟨_, true, rows, ?_, rfl⟩⟩))))
    · have hw3 := of_decide_eq_true h
      have c1 : cutL rows none (some ((S : Int) - 1)) = rows.take (S - 1) := by
        rw [cut_to (by omega) (by omega)]
        congr 1
        omega
      have g1 : atI rows (S : Int) = some (rows[S]'(by omega)) := atI_nat (List.getElem?_eq_getElem _)
      have g2 : atI rows ((S : Int) - 1) = some (rows[S - 1]'(by omega)) := by
        rw [show (S : Int) - 1 = ((S - 1 : Nat) : Int) by omega]
        exact atI_nat (List.getElem?_eq_getElem _)
      refine ws_share (i := 6) (x := rows) rfl (ws_set (α := List (List Int)) (we_catA trivial (we_sliceA trivial (we_varS rfl (wo_none (wo_some (we_sub (we_var rfl (we_int (we_lst (wl_cons (we_ix (we_varS rfl (we_var rfl ⟨_, g1, wl_cons (we_ix (we_varS rfl (we_sub (we_var rfl (we_int ⟨_, g2, wl_nil ⟨by show 2 ≤ 1000; decide, ?_, ⟨_, false, _, ?_, rfl⟩⟩⟩))))) trivial⟩))) trivial) trivial))))))))))
      · rw [c1, List.length_take]
        show _ + 2 ≤ 1000
        omega
      · rw [c1]
        have hl3 : (rows.take (S - 1) ++ [rows[S]'(by omega), rows[S - 1]'(by omega)]).length = S + 1 := by
          rw [List.length_append, List.length_take]
          show min (S - 1) rows.length + 2 = S + 1
          omega
        refine ⟨by show 3 ≤ (S : Int) + 1 ∧ (S : Int) + 1 ≤ 8; omega, hin, by show rs.length < 24; omega, by rw [hl3]; rfl, fun row hr => ?_, by rw [rng_len]; omega, fun z => absurd z (by omega), fun _ g => ?_, fun z => absurd z (by omega), fun z => absurd z (by omega), fun z => absurd z (by omega)⟩
        · have hm : row ∈ rows := by
            rcases List.mem_append.mp hr with z | z
            · exact List.mem_of_mem_take z
            · rcases List.mem_cons.mp z with y | y
              · rw [y]; exact List.getElem_mem _
              · rw [show row = rows[S - 1]'(by omega) by simpa using y]; exact List.getElem_mem _
          have := (hg.mem hm).2
          omega
        · rw [hl3] at g
          have e1 : ((rows.take (S - 1) ++ [rows[S]'(by omega), rows[S - 1]'(by omega)]).take (S + 1 - 1) ++ [[]])[S - 1]? = some (rows[S]'(by omega)) := by
            have hlt : (rows.take (S - 1)).length = S - 1 := by rw [List.length_take]; omega
            rw [List.getElem?_append_left (by rw [List.length_take, hl3]; omega), List.getElem?_take_of_lt (by omega), List.getElem?_append_right (by omega), hlt, Nat.sub_self]
            rfl
          have p1 := g.2 (S - 1) _ e1
          have p2 := hg.2 S _ (List.getElem?_eq_getElem (by omega))
          rw [hno] at p2
          rw [p2.eq_nil] at p1
          have hmem : ((S - 1 : Nat) : Int) ∈ outsD rs ((S - 1 : Nat) : Int) := mem_outs.mpr ⟨by omega, by rw [(hR.at_ (by omega) (by omega)).1, Int.toNat_natCast, Nat.mod_eq_of_lt (by omega)]⟩
          rw [p1.symm.eq_nil] at hmem
          simp at hmem
    · have hw3 := of_decide_eq_false h
      refine ⟨by show 3 ≤ (S : Int) + 1 ∧ (S : Int) + 1 ≤ 8; omega, hin, by show rs.length < 24; omega, by rw [hgl]; rfl, fun row hr => ?_, by rw [rng_len]; omega, fun _ z => ?_, fun z => absurd z hw3, fun _ row hr => ⟨?_, oddD_cons_ne hIR.counts (by show 0 < ((S : Int) + 1).toNat; omega)⟩, fun z => absurd z hw5, fun _ => hIR⟩
      · have := (hg.mem hr).2
        omega
      · have := z.len
        rw [List.length_drop, rng_len] at this
        have this : rs.length - 1 = rs.length := this
        omega
      · have := hg.lay (a := 0) (b := 1) hr
        have e1 : rows.set 0 (row ++ [((rs.length : Nat) : Int)]) = [row ++ [((rs.length : Nat) : Int)]] ++ rows.drop 1 := by
          cases rows with
          | nil => cases hr
          | cons a l => rfl
        rw [e1] at this
        show Good ((S : Int) + 1).toNat _ _
        rw [hS1]
        exact this
  clear he
  rintro e ⟨N, o, rows', dI, rfl⟩
  refine ws_seq (ws_setO (α := List Bool) (we_nil ⟨rfl, ?_⟩))
  refine ws_seq (ws_mono (R := ({ nx := fun e => ∃ (o1 o2 o3 o4 o5 o6 : Ent (cc K t)) (z : Unit), e = [.sh (⟨ns⟩ : Sc), .sh (S : Int), .sh (M : Int), .sh way, o1, o2, o3, o4, o5, o6, .ow (marksD way), .no], rt := fun _ => False } : Rs (cc K t) Bool)) (ws_tryZ (γ := NetD) (i := 4) (j := 11) (w := N) rfl rfl (by decide) (fun C => C = kcl t way ∧ way ≠ 5) (fun C _ => C = kcl t 5 ∧ way = 5) (fun σ E pins => (pss_one (ps_expr (pe_callG (okX_q_deed T) (hr.mono (by decide)) rfl T.m_q_deed T.F_q_deed.kp T.b_q_deed .nil passG_tryD (pa_cons (pv 4) (pa_cons (pv 3) (pa_cons (pv 6) (pa_cons (pv 5) pa_nil)))))))) ?_ ?_ ?_) ?_ (fun _ z => z.elim) (fun _ z => z.elim) (fun _ z => z.elim))
  · rintro C ⟨rfl, hne⟩
    rcases way_cases ⟨hw0, hw1⟩ with rfl | rfl | rfl | rfl | rfl | rfl | rfl | rfl | rfl | rfl
    · exact ⟨_, (hd_as (i := 11) rfl T.m_RoadError T.x_RoadError T.x_NoPlace T.s_NoPlace_RoadError sc_law.nd rfl rfl (fun _ => (pss_one (ps_set (i := 10) sc_law.nd rfl (by first | exact Or.inl rfl | exact Or.inr rfl) (pe_callS (okS_q_marks T) (hr.mono (by decide)).sup rfl T.m_q_marks T.F_q_marks.kp T.b_q_marks (pa_cons (pv 11) pa_nil)))))), ws_as rfl (ws_setO (α := List Bool) (we_call (wa_cons (α := Xg) (we_gX (we_var rfl (wa_nil ⟨⟨t.c_NoPlace⟩, 0, rfl, by decide, rfl, ⟨rfl, rfl, _, _, _, _, _, _, (), rfl⟩⟩))))))⟩
    · exact ⟨_, (hd_as (i := 11) rfl T.m_RoadError T.x_RoadError T.x_TooMany T.s_TooMany_RoadError sc_law.nd rfl rfl (fun _ => (pss_one (ps_set (i := 10) sc_law.nd rfl (by first | exact Or.inl rfl | exact Or.inr rfl) (pe_callS (okS_q_marks T) (hr.mono (by decide)).sup rfl T.m_q_marks T.F_q_marks.kp T.b_q_marks (pa_cons (pv 11) pa_nil)))))), ws_as rfl (ws_setO (α := List Bool) (we_call (wa_cons (α := Xg) (we_gX (we_var rfl (wa_nil ⟨⟨t.c_TooMany⟩, 1, rfl, by decide, rfl, ⟨rfl, rfl, _, _, _, _, _, _, (), rfl⟩⟩))))))⟩
    · exact ⟨_, (hd_as (i := 11) rfl T.m_RoadError T.x_RoadError T.x_NoRound T.s_NoRound_RoadError sc_law.nd rfl rfl (fun _ => (pss_one (ps_set (i := 10) sc_law.nd rfl (by first | exact Or.inl rfl | exact Or.inr rfl) (pe_callS (okS_q_marks T) (hr.mono (by decide)).sup rfl T.m_q_marks T.F_q_marks.kp T.b_q_marks (pa_cons (pv 11) pa_nil)))))), ws_as rfl (ws_setO (α := List Bool) (we_call (wa_cons (α := Xg) (we_gX (we_var rfl (wa_nil ⟨⟨t.c_NoRound⟩, 2, rfl, by decide, rfl, ⟨rfl, rfl, _, _, _, _, _, _, (), rfl⟩⟩))))))⟩
    · exact ⟨_, (hd_as (i := 11) rfl T.m_RoadError T.x_RoadError T.x_NoOrders T.s_NoOrders_RoadError sc_law.nd rfl rfl (fun _ => (pss_one (ps_set (i := 10) sc_law.nd rfl (by first | exact Or.inl rfl | exact Or.inr rfl) (pe_callS (okS_q_marks T) (hr.mono (by decide)).sup rfl T.m_q_marks T.F_q_marks.kp T.b_q_marks (pa_cons (pv 11) pa_nil)))))), ws_as rfl (ws_setO (α := List Bool) (we_call (wa_cons (α := Xg) (we_gX (we_var rfl (wa_nil ⟨⟨t.c_NoOrders⟩, 3, rfl, by decide, rfl, ⟨rfl, rfl, _, _, _, _, _, _, (), rfl⟩⟩))))))⟩
    · exact ⟨_, (hd_as (i := 11) rfl T.m_RoadError T.x_RoadError T.x_NotEven T.s_NotEven_RoadError sc_law.nd rfl rfl (fun _ => (pss_one (ps_set (i := 10) sc_law.nd rfl (by first | exact Or.inl rfl | exact Or.inr rfl) (pe_callS (okS_q_marks T) (hr.mono (by decide)).sup rfl T.m_q_marks T.F_q_marks.kp T.b_q_marks (pa_cons (pv 11) pa_nil)))))), ws_as rfl (ws_setO (α := List Bool) (we_call (wa_cons (α := Xg) (we_gX (we_var rfl (wa_nil ⟨⟨t.c_NotEven⟩, 4, rfl, by decide, rfl, ⟨rfl, rfl, _, _, _, _, _, _, (), rfl⟩⟩))))))⟩
    · exact absurd rfl hne
    · exact ⟨_, (hd_as (i := 11) rfl T.m_RoadError T.x_RoadError T.x_NoExchange T.s_NoExchange_RoadError sc_law.nd rfl rfl (fun _ => (pss_one (ps_set (i := 10) sc_law.nd rfl (by first | exact Or.inl rfl | exact Or.inr rfl) (pe_callS (okS_q_marks T) (hr.mono (by decide)).sup rfl T.m_q_marks T.F_q_marks.kp T.b_q_marks (pa_cons (pv 11) pa_nil)))))), ws_as rfl (ws_setO (α := List Bool) (we_call (wa_cons (α := Xg) (we_gX (we_var rfl (wa_nil ⟨⟨t.c_NoExchange⟩, 6, rfl, by decide, rfl, ⟨rfl, rfl, _, _, _, _, _, _, (), rfl⟩⟩))))))⟩
    · exact ⟨_, (hd_as (i := 11) rfl T.m_RoadError T.x_RoadError T.x_NoWindows T.s_NoWindows_RoadError sc_law.nd rfl rfl (fun _ => (pss_one (ps_set (i := 10) sc_law.nd rfl (by first | exact Or.inl rfl | exact Or.inr rfl) (pe_callS (okS_q_marks T) (hr.mono (by decide)).sup rfl T.m_q_marks T.F_q_marks.kp T.b_q_marks (pa_cons (pv 11) pa_nil)))))), ws_as rfl (ws_setO (α := List Bool) (we_call (wa_cons (α := Xg) (we_gX (we_var rfl (wa_nil ⟨⟨t.c_NoWindows⟩, 7, rfl, by decide, rfl, ⟨rfl, rfl, _, _, _, _, _, _, (), rfl⟩⟩))))))⟩
    · exact ⟨_, (hd_as (i := 11) rfl T.m_RoadError T.x_RoadError T.x_NoRing T.s_NoRing_RoadError sc_law.nd rfl rfl (fun _ => (pss_one (ps_set (i := 10) sc_law.nd rfl (by first | exact Or.inl rfl | exact Or.inr rfl) (pe_callS (okS_q_marks T) (hr.mono (by decide)).sup rfl T.m_q_marks T.F_q_marks.kp T.b_q_marks (pa_cons (pv 11) pa_nil)))))), ws_as rfl (ws_setO (α := List Bool) (we_call (wa_cons (α := Xg) (we_gX (we_var rfl (wa_nil ⟨⟨t.c_NoRing⟩, 8, rfl, by decide, rfl, ⟨rfl, rfl, _, _, _, _, _, _, (), rfl⟩⟩))))))⟩
    · exact ⟨_, (hd_as (i := 11) rfl T.m_RoadError T.x_RoadError T.x_NoNote T.s_NoNote_RoadError sc_law.nd rfl rfl (fun _ => (pss_one (ps_set (i := 10) sc_law.nd rfl (by first | exact Or.inl rfl | exact Or.inr rfl) (pe_callS (okS_q_marks T) (hr.mono (by decide)).sup rfl T.m_q_marks T.F_q_marks.kp T.b_q_marks (pa_cons (pv 11) pa_nil)))))), ws_as rfl (ws_setO (α := List Bool) (we_call (wa_cons (α := Xg) (we_gX (we_var rfl (wa_nil ⟨⟨t.c_NoNote⟩, 9, rfl, by decide, rfl, ⟨rfl, rfl, _, _, _, _, _, _, (), rfl⟩⟩))))))⟩
  · rintro C l ⟨rfl, rfl⟩
    exact ⟨_, fun dx => (hdd_as (i := 11) rfl T.m_RoadError (.inl T.x_RoadError) T.x_NotWhole T.s_NotWhole_RoadError sc_law.nd rfl rfl (fun _ => (pss_one (ps_set (i := 10) sc_law.nd rfl (by first | exact Or.inl rfl | exact Or.inr rfl) (pe_callS (okS_q_marks T) (hr.mono (by decide)).sup rfl T.m_q_marks T.F_q_marks.kp T.b_q_marks (pa_cons (pv 11) pa_nil)))))), ws_setO (α := List Bool) (we_call (wa_cons (α := Xg) (we_gD (we_var rfl (wa_nil ⟨⟨t.c_NotWhole⟩, 5, rfl, by decide, rfl, ⟨rfl, rfl, _, _, _, _, _, _, (), rfl⟩⟩)))))⟩
  · exact wam_self (α := NetD) rfl (waq_cons (wea_flat (we_var rfl (waq_cons (wea_var rfl (by decide) (waq_cons (wea_var rfl (by decide) (waq_nil ⟨rfl, way, rows', _, rfl, dI, ⟨hw0, hw1⟩, fun h => ⟨rfl, h⟩, fun h _ => ⟨rfl, h⟩⟩))))))))
  · rintro e ⟨o1, o2, o3, o4, o5, o6, _, rfl⟩
    refine ws_retF (we_eqD (we_var rfl (we_compR (β := Bool) (we_int ⟨⟨by decide, by decide⟩, fun k ys => ys = (rng k).map fun k => decide (k = way) || decide (k = 10), rfl, ?_, ?_⟩))))
    · rintro k ys hk rfl
      refine wt_all (we_or (we_eqI (we_var rfl (we_var rfl ⟨fun _ => ?_, fun _ => (we_eqI (we_var rfl (we_int ?_)))⟩))))
      · dsimp only
        rw [rng_succ, List.map_append]
        congr 1
        show [true] = [decide ((k : Int) = way) || decide ((k : Int) = 10)]
        rename_i hk2
        rw [hk2]
        rfl
      · dsimp only
        rw [rng_succ, List.map_append]
        congr 1
        show [_] = [decide ((k : Int) = way) || decide ((k : Int) = 10)]
        rename_i hk2
        rw [hk2]
        rfl
    · rintro ys rfl
      have : marksD way = (rng (11 : Int).toNat).map fun k => decide (k = way) || decide (k = 10) := rfl
      rw [decide_eq_true this]
      exact q
theorem ok_law (T : Tx K mg t) : FnOk P w K mg base CX0 7 t.a_law t.d_law ["script"] (sp_law K) := (ok_lawD T).imp fun _ _ _ _ h => law_sp (c := cc K t) h
end
/-- the text's facts from what stands behind the top -/
theorem tx_mk {K : PySem.W.Frag} {h : Heap} {mg : Str → Option Value} {C_Net C_RoadError C_NoPlace C_TooMany C_NoRound C_NoOrders C_NotEven C_NoExchange C_NoWindows C_NoRing C_NoNote C_NotWhole f_Net_init f_Net_need_place f_Net_lay f_Net_outs f_Net_ins f_NotWhole_init f_walk_on f_is_round f_need_round f_odd_places f_need_bounds f_exchanged f_size_note f_road_note f_sizes_by_note f_roads_by_note f_read_size f_read_road f_read f_orders f_need_orders f_need_even f_by_orders f_window_count f_window_net f_window_ending f_need_signs f_ring_round f_q_drawn f_q_marks f_q_deed f_law : Addr} {oc_Net_init kV_Net_init dc_Net_init pm_Net_init cd_Net_init ct_Net_init : Value} {od_Net_init an_Net_init : Option Addr} {sl_Net_init : Array (Option Value)}
    {oc_Net_need_place kV_Net_need_place dc_Net_need_place pm_Net_need_place cd_Net_need_place ct_Net_need_place : Value} {od_Net_need_place an_Net_need_place : Option Addr} {sl_Net_need_place : Array (Option Value)}
    {oc_Net_lay kV_Net_lay dc_Net_lay pm_Net_lay cd_Net_lay ct_Net_lay : Value} {od_Net_lay an_Net_lay : Option Addr} {sl_Net_lay : Array (Option Value)}
    {oc_Net_outs kV_Net_outs dc_Net_outs pm_Net_outs cd_Net_outs ct_Net_outs : Value} {od_Net_outs an_Net_outs : Option Addr} {sl_Net_outs : Array (Option Value)}
    {oc_Net_ins kV_Net_ins dc_Net_ins pm_Net_ins cd_Net_ins ct_Net_ins : Value} {od_Net_ins an_Net_ins : Option Addr} {sl_Net_ins : Array (Option Value)}
    {oc_NotWhole_init kV_NotWhole_init dc_NotWhole_init pm_NotWhole_init cd_NotWhole_init ct_NotWhole_init : Value} {od_NotWhole_init an_NotWhole_init : Option Addr} {sl_NotWhole_init : Array (Option Value)}
    {oc_walk_on kV_walk_on dc_walk_on pm_walk_on cd_walk_on ct_walk_on : Value} {od_walk_on an_walk_on : Option Addr} {sl_walk_on : Array (Option Value)}
    {oc_is_round kV_is_round dc_is_round pm_is_round cd_is_round ct_is_round : Value} {od_is_round an_is_round : Option Addr} {sl_is_round : Array (Option Value)}
    {oc_need_round kV_need_round dc_need_round pm_need_round cd_need_round ct_need_round : Value} {od_need_round an_need_round : Option Addr} {sl_need_round : Array (Option Value)}
    {oc_odd_places kV_odd_places dc_odd_places pm_odd_places cd_odd_places ct_odd_places : Value} {od_odd_places an_odd_places : Option Addr} {sl_odd_places : Array (Option Value)}
    {oc_need_bounds kV_need_bounds dc_need_bounds pm_need_bounds cd_need_bounds ct_need_bounds : Value} {od_need_bounds an_need_bounds : Option Addr} {sl_need_bounds : Array (Option Value)}
    {oc_exchanged kV_exchanged dc_exchanged pm_exchanged cd_exchanged ct_exchanged : Value} {od_exchanged an_exchanged : Option Addr} {sl_exchanged : Array (Option Value)}
    {oc_size_note kV_size_note dc_size_note pm_size_note cd_size_note ct_size_note : Value} {od_size_note an_size_note : Option Addr} {sl_size_note : Array (Option Value)}
    {oc_road_note kV_road_note dc_road_note pm_road_note cd_road_note ct_road_note : Value} {od_road_note an_road_note : Option Addr} {sl_road_note : Array (Option Value)}
    {oc_sizes_by_note kV_sizes_by_note dc_sizes_by_note pm_sizes_by_note cd_sizes_by_note ct_sizes_by_note : Value} {od_sizes_by_note an_sizes_by_note : Option Addr} {sl_sizes_by_note : Array (Option Value)}
    {oc_roads_by_note kV_roads_by_note dc_roads_by_note pm_roads_by_note cd_roads_by_note ct_roads_by_note : Value} {od_roads_by_note an_roads_by_note : Option Addr} {sl_roads_by_note : Array (Option Value)}
    {oc_read_size kV_read_size dc_read_size pm_read_size cd_read_size ct_read_size : Value} {od_read_size an_read_size : Option Addr} {sl_read_size : Array (Option Value)}
    {oc_read_road kV_read_road dc_read_road pm_read_road cd_read_road ct_read_road : Value} {od_read_road an_read_road : Option Addr} {sl_read_road : Array (Option Value)}
    {oc_read kV_read dc_read pm_read cd_read ct_read : Value} {od_read an_read : Option Addr} {sl_read : Array (Option Value)}
    {oc_orders kV_orders dc_orders pm_orders cd_orders ct_orders : Value} {od_orders an_orders : Option Addr} {sl_orders : Array (Option Value)}
    {oc_need_orders kV_need_orders dc_need_orders pm_need_orders cd_need_orders ct_need_orders : Value} {od_need_orders an_need_orders : Option Addr} {sl_need_orders : Array (Option Value)}
    {oc_need_even kV_need_even dc_need_even pm_need_even cd_need_even ct_need_even : Value} {od_need_even an_need_even : Option Addr} {sl_need_even : Array (Option Value)}
    {oc_by_orders kV_by_orders dc_by_orders pm_by_orders cd_by_orders ct_by_orders : Value} {od_by_orders an_by_orders : Option Addr} {sl_by_orders : Array (Option Value)}
    {oc_window_count kV_window_count dc_window_count pm_window_count cd_window_count ct_window_count : Value} {od_window_count an_window_count : Option Addr} {sl_window_count : Array (Option Value)}
    {oc_window_net kV_window_net dc_window_net pm_window_net cd_window_net ct_window_net : Value} {od_window_net an_window_net : Option Addr} {sl_window_net : Array (Option Value)}
    {oc_window_ending kV_window_ending dc_window_ending pm_window_ending cd_window_ending ct_window_ending : Value} {od_window_ending an_window_ending : Option Addr} {sl_window_ending : Array (Option Value)}
    {oc_need_signs kV_need_signs dc_need_signs pm_need_signs cd_need_signs ct_need_signs : Value} {od_need_signs an_need_signs : Option Addr} {sl_need_signs : Array (Option Value)}
    {oc_ring_round kV_ring_round dc_ring_round pm_ring_round cd_ring_round ct_ring_round : Value} {od_ring_round an_ring_round : Option Addr} {sl_ring_round : Array (Option Value)}
    {oc_q_drawn kV_q_drawn dc_q_drawn pm_q_drawn cd_q_drawn ct_q_drawn : Value} {od_q_drawn an_q_drawn : Option Addr} {sl_q_drawn : Array (Option Value)}
    {oc_q_marks kV_q_marks dc_q_marks pm_q_marks cd_q_marks ct_q_marks : Value} {od_q_marks an_q_marks : Option Addr} {sl_q_marks : Array (Option Value)}
    {oc_q_deed kV_q_deed dc_q_deed pm_q_deed cd_q_deed ct_q_deed : Value} {od_q_deed an_q_deed : Option Addr} {sl_q_deed : Array (Option Value)}
    {oc_law kV_law dc_law pm_law cd_law ct_law : Value} {od_law an_law : Option Addr} {sl_law : Array (Option Value)}
    {tk_MOST_PLACES : Tok}
    {tk_MOST_ROADS : Tok} (X : K.In h) (G : h.Ns mainGlobals mg)
    (a_Net : PySem.W.nsIn K mainGlobals "Net" = some (some (.ref C_Net)))
    (a_NotWhole : PySem.W.nsIn K mainGlobals "NotWhole" = some (some (.ref C_NotWhole)))
    (a_Net_init : PySem.W.findIn K (.ref C_Net) "__init__" = some (some (.ref f_Net_init)))
    (i_Net_init : PySem.W.isFn K (.ref f_Net_init) = true)
    (l_Net_init : K.lookup f_Net_init = some ⟨oc_Net_init, od_Net_init, .func (PySem.W.fnOf "__init__" "Net.__init__" (defArgs s_Net_init) (defBody s_Net_init) (defScope s_Net_init) .none kV_Net_init dc_Net_init pm_Net_init an_Net_init cd_Net_init ct_Net_init), sl_Net_init⟩)
    (c_Net_init : PySem.W.codeIn K cd_Net_init "Net.__init__" = true)
    (k_Net_init : PySem.W.keepIn K (.ref f_Net_init) = true)
    (a_Net_need_place : PySem.W.findIn K (.ref C_Net) "need_place" = some (some (.ref f_Net_need_place)))
    (i_Net_need_place : PySem.W.isFn K (.ref f_Net_need_place) = true)
    (l_Net_need_place : K.lookup f_Net_need_place = some ⟨oc_Net_need_place, od_Net_need_place, .func (PySem.W.fnOf "need_place" "Net.need_place" (defArgs s_Net_need_place) (defBody s_Net_need_place) (defScope s_Net_need_place) .none kV_Net_need_place dc_Net_need_place pm_Net_need_place an_Net_need_place cd_Net_need_place ct_Net_need_place), sl_Net_need_place⟩)
    (c_Net_need_place : PySem.W.codeIn K cd_Net_need_place "Net.need_place" = true)
    (k_Net_need_place : PySem.W.keepIn K (.ref f_Net_need_place) = true)
    (a_Net_lay : PySem.W.findIn K (.ref C_Net) "lay" = some (some (.ref f_Net_lay)))
    (i_Net_lay : PySem.W.isFn K (.ref f_Net_lay) = true)
    (l_Net_lay : K.lookup f_Net_lay = some ⟨oc_Net_lay, od_Net_lay, .func (PySem.W.fnOf "lay" "Net.lay" (defArgs s_Net_lay) (defBody s_Net_lay) (defScope s_Net_lay) .none kV_Net_lay dc_Net_lay pm_Net_lay an_Net_lay cd_Net_lay ct_Net_lay), sl_Net_lay⟩)
    (c_Net_lay : PySem.W.codeIn K cd_Net_lay "Net.lay" = true)
    (k_Net_lay : PySem.W.keepIn K (.ref f_Net_lay) = true)
    (a_Net_outs : PySem.W.findIn K (.ref C_Net) "outs" = some (some (.ref f_Net_outs)))
    (i_Net_outs : PySem.W.isFn K (.ref f_Net_outs) = true)
    (l_Net_outs : K.lookup f_Net_outs = some ⟨oc_Net_outs, od_Net_outs, .func (PySem.W.fnOf "outs" "Net.outs" (defArgs s_Net_outs) (defBody s_Net_outs) (defScope s_Net_outs) .none kV_Net_outs dc_Net_outs pm_Net_outs an_Net_outs cd_Net_outs ct_Net_outs), sl_Net_outs⟩)
    (c_Net_outs : PySem.W.codeIn K cd_Net_outs "Net.outs" = true)
    (k_Net_outs : PySem.W.keepIn K (.ref f_Net_outs) = true)
    (a_Net_ins : PySem.W.findIn K (.ref C_Net) "ins" = some (some (.ref f_Net_ins)))
    (i_Net_ins : PySem.W.isFn K (.ref f_Net_ins) = true)
    (l_Net_ins : K.lookup f_Net_ins = some ⟨oc_Net_ins, od_Net_ins, .func (PySem.W.fnOf "ins" "Net.ins" (defArgs s_Net_ins) (defBody s_Net_ins) (defScope s_Net_ins) .none kV_Net_ins dc_Net_ins pm_Net_ins an_Net_ins cd_Net_ins ct_Net_ins), sl_Net_ins⟩)
    (c_Net_ins : PySem.W.codeIn K cd_Net_ins "Net.ins" = true)
    (k_Net_ins : PySem.W.keepIn K (.ref f_Net_ins) = true)
    (a_NotWhole_init : PySem.W.findIn K (.ref C_NotWhole) "__init__" = some (some (.ref f_NotWhole_init)))
    (i_NotWhole_init : PySem.W.isFn K (.ref f_NotWhole_init) = true)
    (l_NotWhole_init : K.lookup f_NotWhole_init = some ⟨oc_NotWhole_init, od_NotWhole_init, .func (PySem.W.fnOf "__init__" "NotWhole.__init__" (defArgs s_NotWhole_init) (defBody s_NotWhole_init) (defScope s_NotWhole_init) .none kV_NotWhole_init dc_NotWhole_init pm_NotWhole_init an_NotWhole_init cd_NotWhole_init ct_NotWhole_init), sl_NotWhole_init⟩)
    (c_NotWhole_init : PySem.W.codeIn K cd_NotWhole_init "NotWhole.__init__" = true)
    (k_NotWhole_init : PySem.W.keepIn K (.ref f_NotWhole_init) = true)
    (a_walk_on : PySem.W.nsIn K mainGlobals "walk_on" = some (some (.ref f_walk_on)))
    (l_walk_on : K.lookup f_walk_on = some ⟨oc_walk_on, od_walk_on, .func (PySem.W.fnOf "walk_on" "walk_on" (defArgs s_walk_on) (defBody s_walk_on) (defScope s_walk_on) .none kV_walk_on dc_walk_on pm_walk_on an_walk_on cd_walk_on ct_walk_on), sl_walk_on⟩)
    (c_walk_on : PySem.W.codeIn K cd_walk_on "walk_on" = true)
    (k_walk_on : PySem.W.keepIn K (.ref f_walk_on) = true)
    (a_is_round : PySem.W.nsIn K mainGlobals "is_round" = some (some (.ref f_is_round)))
    (l_is_round : K.lookup f_is_round = some ⟨oc_is_round, od_is_round, .func (PySem.W.fnOf "is_round" "is_round" (defArgs s_is_round) (defBody s_is_round) (defScope s_is_round) .none kV_is_round dc_is_round pm_is_round an_is_round cd_is_round ct_is_round), sl_is_round⟩)
    (c_is_round : PySem.W.codeIn K cd_is_round "is_round" = true)
    (k_is_round : PySem.W.keepIn K (.ref f_is_round) = true)
    (a_need_round : PySem.W.nsIn K mainGlobals "need_round" = some (some (.ref f_need_round)))
    (l_need_round : K.lookup f_need_round = some ⟨oc_need_round, od_need_round, .func (PySem.W.fnOf "need_round" "need_round" (defArgs s_need_round) (defBody s_need_round) (defScope s_need_round) .none kV_need_round dc_need_round pm_need_round an_need_round cd_need_round ct_need_round), sl_need_round⟩)
    (c_need_round : PySem.W.codeIn K cd_need_round "need_round" = true)
    (k_need_round : PySem.W.keepIn K (.ref f_need_round) = true)
    (a_odd_places : PySem.W.nsIn K mainGlobals "odd_places" = some (some (.ref f_odd_places)))
    (l_odd_places : K.lookup f_odd_places = some ⟨oc_odd_places, od_odd_places, .func (PySem.W.fnOf "odd_places" "odd_places" (defArgs s_odd_places) (defBody s_odd_places) (defScope s_odd_places) .none kV_odd_places dc_odd_places pm_odd_places an_odd_places cd_odd_places ct_odd_places), sl_odd_places⟩)
    (c_odd_places : PySem.W.codeIn K cd_odd_places "odd_places" = true)
    (k_odd_places : PySem.W.keepIn K (.ref f_odd_places) = true)
    (a_need_bounds : PySem.W.nsIn K mainGlobals "need_bounds" = some (some (.ref f_need_bounds)))
    (l_need_bounds : K.lookup f_need_bounds = some ⟨oc_need_bounds, od_need_bounds, .func (PySem.W.fnOf "need_bounds" "need_bounds" (defArgs s_need_bounds) (defBody s_need_bounds) (defScope s_need_bounds) .none kV_need_bounds dc_need_bounds pm_need_bounds an_need_bounds cd_need_bounds ct_need_bounds), sl_need_bounds⟩)
    (c_need_bounds : PySem.W.codeIn K cd_need_bounds "need_bounds" = true)
    (k_need_bounds : PySem.W.keepIn K (.ref f_need_bounds) = true)
    (a_exchanged : PySem.W.nsIn K mainGlobals "exchanged" = some (some (.ref f_exchanged)))
    (l_exchanged : K.lookup f_exchanged = some ⟨oc_exchanged, od_exchanged, .func (PySem.W.fnOf "exchanged" "exchanged" (defArgs s_exchanged) (defBody s_exchanged) (defScope s_exchanged) .none kV_exchanged dc_exchanged pm_exchanged an_exchanged cd_exchanged ct_exchanged), sl_exchanged⟩)
    (c_exchanged : PySem.W.codeIn K cd_exchanged "exchanged" = true)
    (k_exchanged : PySem.W.keepIn K (.ref f_exchanged) = true)
    (a_size_note : PySem.W.nsIn K mainGlobals "size_note" = some (some (.ref f_size_note)))
    (l_size_note : K.lookup f_size_note = some ⟨oc_size_note, od_size_note, .func (PySem.W.fnOf "size_note" "size_note" (defArgs s_size_note) (defBody s_size_note) (defScope s_size_note) .none kV_size_note dc_size_note pm_size_note an_size_note cd_size_note ct_size_note), sl_size_note⟩)
    (c_size_note : PySem.W.codeIn K cd_size_note "size_note" = true)
    (k_size_note : PySem.W.keepIn K (.ref f_size_note) = true)
    (a_road_note : PySem.W.nsIn K mainGlobals "road_note" = some (some (.ref f_road_note)))
    (l_road_note : K.lookup f_road_note = some ⟨oc_road_note, od_road_note, .func (PySem.W.fnOf "road_note" "road_note" (defArgs s_road_note) (defBody s_road_note) (defScope s_road_note) .none kV_road_note dc_road_note pm_road_note an_road_note cd_road_note ct_road_note), sl_road_note⟩)
    (c_road_note : PySem.W.codeIn K cd_road_note "road_note" = true)
    (k_road_note : PySem.W.keepIn K (.ref f_road_note) = true)
    (a_sizes_by_note : PySem.W.nsIn K mainGlobals "sizes_by_note" = some (some (.ref f_sizes_by_note)))
    (l_sizes_by_note : K.lookup f_sizes_by_note = some ⟨oc_sizes_by_note, od_sizes_by_note, .func (PySem.W.fnOf "sizes_by_note" "sizes_by_note" (defArgs s_sizes_by_note) (defBody s_sizes_by_note) (defScope s_sizes_by_note) .none kV_sizes_by_note dc_sizes_by_note pm_sizes_by_note an_sizes_by_note cd_sizes_by_note ct_sizes_by_note), sl_sizes_by_note⟩)
    (c_sizes_by_note : PySem.W.codeIn K cd_sizes_by_note "sizes_by_note" = true)
    (k_sizes_by_note : PySem.W.keepIn K (.ref f_sizes_by_note) = true)
    (a_roads_by_note : PySem.W.nsIn K mainGlobals "roads_by_note" = some (some (.ref f_roads_by_note)))
    (l_roads_by_note : K.lookup f_roads_by_note = some ⟨oc_roads_by_note, od_roads_by_note, .func (PySem.W.fnOf "roads_by_note" "roads_by_note" (defArgs s_roads_by_note) (defBody s_roads_by_note) (defScope s_roads_by_note) .none kV_roads_by_note dc_roads_by_note pm_roads_by_note an_roads_by_note cd_roads_by_note ct_roads_by_note), sl_roads_by_note⟩)
    (c_roads_by_note : PySem.W.codeIn K cd_roads_by_note "roads_by_note" = true)
    (k_roads_by_note : PySem.W.keepIn K (.ref f_roads_by_note) = true)
    (a_read_size : PySem.W.nsIn K mainGlobals "read_size" = some (some (.ref f_read_size)))
    (l_read_size : K.lookup f_read_size = some ⟨oc_read_size, od_read_size, .func (PySem.W.fnOf "read_size" "read_size" (defArgs s_read_size) (defBody s_read_size) (defScope s_read_size) .none kV_read_size dc_read_size pm_read_size an_read_size cd_read_size ct_read_size), sl_read_size⟩)
    (c_read_size : PySem.W.codeIn K cd_read_size "read_size" = true)
    (k_read_size : PySem.W.keepIn K (.ref f_read_size) = true)
    (a_read_road : PySem.W.nsIn K mainGlobals "read_road" = some (some (.ref f_read_road)))
    (l_read_road : K.lookup f_read_road = some ⟨oc_read_road, od_read_road, .func (PySem.W.fnOf "read_road" "read_road" (defArgs s_read_road) (defBody s_read_road) (defScope s_read_road) .none kV_read_road dc_read_road pm_read_road an_read_road cd_read_road ct_read_road), sl_read_road⟩)
    (c_read_road : PySem.W.codeIn K cd_read_road "read_road" = true)
    (k_read_road : PySem.W.keepIn K (.ref f_read_road) = true)
    (a_read : PySem.W.nsIn K mainGlobals "read" = some (some (.ref f_read)))
    (l_read : K.lookup f_read = some ⟨oc_read, od_read, .func (PySem.W.fnOf "read" "read" (defArgs s_read) (defBody s_read) (defScope s_read) .none kV_read dc_read pm_read an_read cd_read ct_read), sl_read⟩)
    (c_read : PySem.W.codeIn K cd_read "read" = true)
    (k_read : PySem.W.keepIn K (.ref f_read) = true)
    (a_orders : PySem.W.nsIn K mainGlobals "orders" = some (some (.ref f_orders)))
    (l_orders : K.lookup f_orders = some ⟨oc_orders, od_orders, .func (PySem.W.fnOf "orders" "orders" (defArgs s_orders) (defBody s_orders) (defScope s_orders) .none kV_orders dc_orders pm_orders an_orders cd_orders ct_orders), sl_orders⟩)
    (c_orders : PySem.W.codeIn K cd_orders "orders" = true)
    (k_orders : PySem.W.keepIn K (.ref f_orders) = true)
    (a_need_orders : PySem.W.nsIn K mainGlobals "need_orders" = some (some (.ref f_need_orders)))
    (l_need_orders : K.lookup f_need_orders = some ⟨oc_need_orders, od_need_orders, .func (PySem.W.fnOf "need_orders" "need_orders" (defArgs s_need_orders) (defBody s_need_orders) (defScope s_need_orders) .none kV_need_orders dc_need_orders pm_need_orders an_need_orders cd_need_orders ct_need_orders), sl_need_orders⟩)
    (c_need_orders : PySem.W.codeIn K cd_need_orders "need_orders" = true)
    (k_need_orders : PySem.W.keepIn K (.ref f_need_orders) = true)
    (a_need_even : PySem.W.nsIn K mainGlobals "need_even" = some (some (.ref f_need_even)))
    (l_need_even : K.lookup f_need_even = some ⟨oc_need_even, od_need_even, .func (PySem.W.fnOf "need_even" "need_even" (defArgs s_need_even) (defBody s_need_even) (defScope s_need_even) .none kV_need_even dc_need_even pm_need_even an_need_even cd_need_even ct_need_even), sl_need_even⟩)
    (c_need_even : PySem.W.codeIn K cd_need_even "need_even" = true)
    (k_need_even : PySem.W.keepIn K (.ref f_need_even) = true)
    (a_by_orders : PySem.W.nsIn K mainGlobals "by_orders" = some (some (.ref f_by_orders)))
    (l_by_orders : K.lookup f_by_orders = some ⟨oc_by_orders, od_by_orders, .func (PySem.W.fnOf "by_orders" "by_orders" (defArgs s_by_orders) (defBody s_by_orders) (defScope s_by_orders) .none kV_by_orders dc_by_orders pm_by_orders an_by_orders cd_by_orders ct_by_orders), sl_by_orders⟩)
    (c_by_orders : PySem.W.codeIn K cd_by_orders "by_orders" = true)
    (k_by_orders : PySem.W.keepIn K (.ref f_by_orders) = true)
    (a_window_count : PySem.W.nsIn K mainGlobals "window_count" = some (some (.ref f_window_count)))
    (l_window_count : K.lookup f_window_count = some ⟨oc_window_count, od_window_count, .func (PySem.W.fnOf "window_count" "window_count" (defArgs s_window_count) (defBody s_window_count) (defScope s_window_count) .none kV_window_count dc_window_count pm_window_count an_window_count cd_window_count ct_window_count), sl_window_count⟩)
    (c_window_count : PySem.W.codeIn K cd_window_count "window_count" = true)
    (k_window_count : PySem.W.keepIn K (.ref f_window_count) = true)
    (a_window_net : PySem.W.nsIn K mainGlobals "window_net" = some (some (.ref f_window_net)))
    (l_window_net : K.lookup f_window_net = some ⟨oc_window_net, od_window_net, .func (PySem.W.fnOf "window_net" "window_net" (defArgs s_window_net) (defBody s_window_net) (defScope s_window_net) .none kV_window_net dc_window_net pm_window_net an_window_net cd_window_net ct_window_net), sl_window_net⟩)
    (c_window_net : PySem.W.codeIn K cd_window_net "window_net" = true)
    (k_window_net : PySem.W.keepIn K (.ref f_window_net) = true)
    (a_window_ending : PySem.W.nsIn K mainGlobals "window_ending" = some (some (.ref f_window_ending)))
    (l_window_ending : K.lookup f_window_ending = some ⟨oc_window_ending, od_window_ending, .func (PySem.W.fnOf "window_ending" "window_ending" (defArgs s_window_ending) (defBody s_window_ending) (defScope s_window_ending) .none kV_window_ending dc_window_ending pm_window_ending an_window_ending cd_window_ending ct_window_ending), sl_window_ending⟩)
    (c_window_ending : PySem.W.codeIn K cd_window_ending "window_ending" = true)
    (k_window_ending : PySem.W.keepIn K (.ref f_window_ending) = true)
    (a_need_signs : PySem.W.nsIn K mainGlobals "need_signs" = some (some (.ref f_need_signs)))
    (l_need_signs : K.lookup f_need_signs = some ⟨oc_need_signs, od_need_signs, .func (PySem.W.fnOf "need_signs" "need_signs" (defArgs s_need_signs) (defBody s_need_signs) (defScope s_need_signs) .none kV_need_signs dc_need_signs pm_need_signs an_need_signs cd_need_signs ct_need_signs), sl_need_signs⟩)
    (c_need_signs : PySem.W.codeIn K cd_need_signs "need_signs" = true)
    (k_need_signs : PySem.W.keepIn K (.ref f_need_signs) = true)
    (a_ring_round : PySem.W.nsIn K mainGlobals "ring_round" = some (some (.ref f_ring_round)))
    (l_ring_round : K.lookup f_ring_round = some ⟨oc_ring_round, od_ring_round, .func (PySem.W.fnOf "ring_round" "ring_round" (defArgs s_ring_round) (defBody s_ring_round) (defScope s_ring_round) .none kV_ring_round dc_ring_round pm_ring_round an_ring_round cd_ring_round ct_ring_round), sl_ring_round⟩)
    (c_ring_round : PySem.W.codeIn K cd_ring_round "ring_round" = true)
    (k_ring_round : PySem.W.keepIn K (.ref f_ring_round) = true)
    (a_q_drawn : PySem.W.nsIn K mainGlobals "_law_drawn" = some (some (.ref f_q_drawn)))
    (l_q_drawn : K.lookup f_q_drawn = some ⟨oc_q_drawn, od_q_drawn, .func (PySem.W.fnOf "_law_drawn" "_law_drawn" (defArgs s_q_drawn) (defBody s_q_drawn) (defScope s_q_drawn) .none kV_q_drawn dc_q_drawn pm_q_drawn an_q_drawn cd_q_drawn ct_q_drawn), sl_q_drawn⟩)
    (c_q_drawn : PySem.W.codeIn K cd_q_drawn "_law_drawn" = true)
    (k_q_drawn : PySem.W.keepIn K (.ref f_q_drawn) = true)
    (a_q_marks : PySem.W.nsIn K mainGlobals "_law_marks" = some (some (.ref f_q_marks)))
    (l_q_marks : K.lookup f_q_marks = some ⟨oc_q_marks, od_q_marks, .func (PySem.W.fnOf "_law_marks" "_law_marks" (defArgs s_q_marks) (defBody s_q_marks) (defScope s_q_marks) .none kV_q_marks dc_q_marks pm_q_marks an_q_marks cd_q_marks ct_q_marks), sl_q_marks⟩)
    (c_q_marks : PySem.W.codeIn K cd_q_marks "_law_marks" = true)
    (k_q_marks : PySem.W.keepIn K (.ref f_q_marks) = true)
    (a_q_deed : PySem.W.nsIn K mainGlobals "_law_deed" = some (some (.ref f_q_deed)))
    (l_q_deed : K.lookup f_q_deed = some ⟨oc_q_deed, od_q_deed, .func (PySem.W.fnOf "_law_deed" "_law_deed" (defArgs s_q_deed) (defBody s_q_deed) (defScope s_q_deed) .none kV_q_deed dc_q_deed pm_q_deed an_q_deed cd_q_deed ct_q_deed), sl_q_deed⟩)
    (c_q_deed : PySem.W.codeIn K cd_q_deed "_law_deed" = true)
    (k_q_deed : PySem.W.keepIn K (.ref f_q_deed) = true)
    (a_law : PySem.W.nsIn K mainGlobals "law" = some (some (.ref f_law)))
    (l_law : K.lookup f_law = some ⟨oc_law, od_law, .func (PySem.W.fnOf "law" "law" (defArgs s_law) (defBody s_law) (defScope s_law) .none kV_law dc_law pm_law an_law cd_law ct_law), sl_law⟩)
    (c_law : PySem.W.codeIn K cd_law "law" = true)
    (k_law : PySem.W.keepIn K (.ref f_law) = true)
    (pg_Net : PySem.W.plainGet K C_Net Str.empty = true)
    (hd_Net : PySem.W.hasDictIn K C_Net = true)
    (po_Net : PySem.W.plainOver K C_Net = true)
    (sa_Net : PySem.W.findIn K (.ref C_Net) "__setattr__" = some (some (.builtin "object.__setattr__")))
    (mk_Net : PySem.W.makesIn K C_Net = true)
    (kc_Net : PySem.W.keepIn K (.ref C_Net) = true)
    (n_Net_size : PySem.W.findIn K (.ref C_Net) "size" = some none)
    (n_Net_roads : PySem.W.findIn K (.ref C_Net) "roads" = some none)
    (a_RoadError : PySem.W.nsIn K mainGlobals "RoadError" = some (some (.ref C_RoadError)))
    (xx_RoadError : PySem.W.excIn K C_RoadError [.type "ValueError", .type "Exception", .type "BaseException", .type "object"] "ValueError.__new__" = true)
    (a_NoPlace : PySem.W.nsIn K mainGlobals "NoPlace" = some (some (.ref C_NoPlace)))
    (xx_NoPlace : PySem.W.excIn K C_NoPlace [.type "ValueError", .type "Exception", .type "BaseException", .type "object"] "ValueError.__new__" = true)
    (a_TooMany : PySem.W.nsIn K mainGlobals "TooMany" = some (some (.ref C_TooMany)))
    (xx_TooMany : PySem.W.excIn K C_TooMany [.type "ValueError", .type "Exception", .type "BaseException", .type "object"] "ValueError.__new__" = true)
    (a_NoRound : PySem.W.nsIn K mainGlobals "NoRound" = some (some (.ref C_NoRound)))
    (xx_NoRound : PySem.W.excIn K C_NoRound [.type "ValueError", .type "Exception", .type "BaseException", .type "object"] "ValueError.__new__" = true)
    (a_NoOrders : PySem.W.nsIn K mainGlobals "NoOrders" = some (some (.ref C_NoOrders)))
    (xx_NoOrders : PySem.W.excIn K C_NoOrders [.type "ValueError", .type "Exception", .type "BaseException", .type "object"] "ValueError.__new__" = true)
    (a_NotEven : PySem.W.nsIn K mainGlobals "NotEven" = some (some (.ref C_NotEven)))
    (xx_NotEven : PySem.W.excIn K C_NotEven [.type "ValueError", .type "Exception", .type "BaseException", .type "object"] "ValueError.__new__" = true)
    (a_NoExchange : PySem.W.nsIn K mainGlobals "NoExchange" = some (some (.ref C_NoExchange)))
    (xx_NoExchange : PySem.W.excIn K C_NoExchange [.type "ValueError", .type "Exception", .type "BaseException", .type "object"] "ValueError.__new__" = true)
    (a_NoWindows : PySem.W.nsIn K mainGlobals "NoWindows" = some (some (.ref C_NoWindows)))
    (xx_NoWindows : PySem.W.excIn K C_NoWindows [.type "ValueError", .type "Exception", .type "BaseException", .type "object"] "ValueError.__new__" = true)
    (a_NoRing : PySem.W.nsIn K mainGlobals "NoRing" = some (some (.ref C_NoRing)))
    (xx_NoRing : PySem.W.excIn K C_NoRing [.type "ValueError", .type "Exception", .type "BaseException", .type "object"] "ValueError.__new__" = true)
    (a_NoNote : PySem.W.nsIn K mainGlobals "NoNote" = some (some (.ref C_NoNote)))
    (xx_NoNote : PySem.W.excIn K C_NoNote [.type "ValueError", .type "Exception", .type "BaseException", .type "object"] "ValueError.__new__" = true)
    (xi_NotWhole : excI K C_NotWhole f_NotWhole_init = true)
    (kp_NotWhole : PySem.W.keepIn K (.ref C_NotWhole) = true)
    (sa_NotWhole : PySem.W.findIn K (.ref C_NotWhole) "__setattr__" = some (some (.builtin "object.__setattr__")))
    (no_NotWhole : PySem.W.findIn K (.ref C_NotWhole) "left" = some none)
    (ba_RoadError : PySem.W.specialIn K (.ref C_RoadError) "__getattribute__" = some (some (.builtin "type.__getattribute__")))
    (xi_rRoadError : PySem.W.readsIn K C_RoadError (.type "type") = true)
    (xi_fRoadError : PySem.W.findCls K (.ref C_RoadError) (.type "type") "__init__" = some (.val (.builtin "ValueError.__init__")))
    (s_NoPlace_RoadError : PySem.W.mroIn K C_NoPlace (.ref C_RoadError) = some true)
    (s_TooMany_RoadError : PySem.W.mroIn K C_TooMany (.ref C_RoadError) = some true)
    (s_NoRound_RoadError : PySem.W.mroIn K C_NoRound (.ref C_RoadError) = some true)
    (s_NoOrders_RoadError : PySem.W.mroIn K C_NoOrders (.ref C_RoadError) = some true)
    (s_NotEven_RoadError : PySem.W.mroIn K C_NotEven (.ref C_RoadError) = some true)
    (s_NotWhole_RoadError : PySem.W.mroIn K C_NotWhole (.ref C_RoadError) = some true)
    (s_NoExchange_RoadError : PySem.W.mroIn K C_NoExchange (.ref C_RoadError) = some true)
    (s_NoWindows_RoadError : PySem.W.mroIn K C_NoWindows (.ref C_RoadError) = some true)
    (s_NoRing_RoadError : PySem.W.mroIn K C_NoRing (.ref C_RoadError) = some true)
    (s_NoNote_RoadError : PySem.W.mroIn K C_NoNote (.ref C_RoadError) = some true)
    (ii_NoPlace_NoPlace : PySem.W.kitOne K (.ref C_NoPlace) (.ref C_NoPlace) = some true)
    (ii_NoPlace_TooMany : PySem.W.kitOne K (.ref C_NoPlace) (.ref C_TooMany) = some false)
    (ii_NoPlace_NoRound : PySem.W.kitOne K (.ref C_NoPlace) (.ref C_NoRound) = some false)
    (ii_NoPlace_NoOrders : PySem.W.kitOne K (.ref C_NoPlace) (.ref C_NoOrders) = some false)
    (ii_NoPlace_NotEven : PySem.W.kitOne K (.ref C_NoPlace) (.ref C_NotEven) = some false)
    (ii_NoPlace_NotWhole : PySem.W.kitOne K (.ref C_NoPlace) (.ref C_NotWhole) = some false)
    (ii_NoPlace_NoExchange : PySem.W.kitOne K (.ref C_NoPlace) (.ref C_NoExchange) = some false)
    (ii_NoPlace_NoWindows : PySem.W.kitOne K (.ref C_NoPlace) (.ref C_NoWindows) = some false)
    (ii_NoPlace_NoRing : PySem.W.kitOne K (.ref C_NoPlace) (.ref C_NoRing) = some false)
    (ii_NoPlace_NoNote : PySem.W.kitOne K (.ref C_NoPlace) (.ref C_NoNote) = some false)
    (ii_NoPlace_ValueError : PySem.W.kitOne K (.ref C_NoPlace) (.type "ValueError") = some true)
    (ii_TooMany_NoPlace : PySem.W.kitOne K (.ref C_TooMany) (.ref C_NoPlace) = some false)
    (ii_TooMany_TooMany : PySem.W.kitOne K (.ref C_TooMany) (.ref C_TooMany) = some true)
    (ii_TooMany_NoRound : PySem.W.kitOne K (.ref C_TooMany) (.ref C_NoRound) = some false)
    (ii_TooMany_NoOrders : PySem.W.kitOne K (.ref C_TooMany) (.ref C_NoOrders) = some false)
    (ii_TooMany_NotEven : PySem.W.kitOne K (.ref C_TooMany) (.ref C_NotEven) = some false)
    (ii_TooMany_NotWhole : PySem.W.kitOne K (.ref C_TooMany) (.ref C_NotWhole) = some false)
    (ii_TooMany_NoExchange : PySem.W.kitOne K (.ref C_TooMany) (.ref C_NoExchange) = some false)
    (ii_TooMany_NoWindows : PySem.W.kitOne K (.ref C_TooMany) (.ref C_NoWindows) = some false)
    (ii_TooMany_NoRing : PySem.W.kitOne K (.ref C_TooMany) (.ref C_NoRing) = some false)
    (ii_TooMany_NoNote : PySem.W.kitOne K (.ref C_TooMany) (.ref C_NoNote) = some false)
    (ii_TooMany_ValueError : PySem.W.kitOne K (.ref C_TooMany) (.type "ValueError") = some true)
    (ii_NoRound_NoPlace : PySem.W.kitOne K (.ref C_NoRound) (.ref C_NoPlace) = some false)
    (ii_NoRound_TooMany : PySem.W.kitOne K (.ref C_NoRound) (.ref C_TooMany) = some false)
    (ii_NoRound_NoRound : PySem.W.kitOne K (.ref C_NoRound) (.ref C_NoRound) = some true)
    (ii_NoRound_NoOrders : PySem.W.kitOne K (.ref C_NoRound) (.ref C_NoOrders) = some false)
    (ii_NoRound_NotEven : PySem.W.kitOne K (.ref C_NoRound) (.ref C_NotEven) = some false)
    (ii_NoRound_NotWhole : PySem.W.kitOne K (.ref C_NoRound) (.ref C_NotWhole) = some false)
    (ii_NoRound_NoExchange : PySem.W.kitOne K (.ref C_NoRound) (.ref C_NoExchange) = some false)
    (ii_NoRound_NoWindows : PySem.W.kitOne K (.ref C_NoRound) (.ref C_NoWindows) = some false)
    (ii_NoRound_NoRing : PySem.W.kitOne K (.ref C_NoRound) (.ref C_NoRing) = some false)
    (ii_NoRound_NoNote : PySem.W.kitOne K (.ref C_NoRound) (.ref C_NoNote) = some false)
    (ii_NoRound_ValueError : PySem.W.kitOne K (.ref C_NoRound) (.type "ValueError") = some true)
    (ii_NoOrders_NoPlace : PySem.W.kitOne K (.ref C_NoOrders) (.ref C_NoPlace) = some false)
    (ii_NoOrders_TooMany : PySem.W.kitOne K (.ref C_NoOrders) (.ref C_TooMany) = some false)
    (ii_NoOrders_NoRound : PySem.W.kitOne K (.ref C_NoOrders) (.ref C_NoRound) = some false)
    (ii_NoOrders_NoOrders : PySem.W.kitOne K (.ref C_NoOrders) (.ref C_NoOrders) = some true)
    (ii_NoOrders_NotEven : PySem.W.kitOne K (.ref C_NoOrders) (.ref C_NotEven) = some false)
    (ii_NoOrders_NotWhole : PySem.W.kitOne K (.ref C_NoOrders) (.ref C_NotWhole) = some false)
    (ii_NoOrders_NoExchange : PySem.W.kitOne K (.ref C_NoOrders) (.ref C_NoExchange) = some false)
    (ii_NoOrders_NoWindows : PySem.W.kitOne K (.ref C_NoOrders) (.ref C_NoWindows) = some false)
    (ii_NoOrders_NoRing : PySem.W.kitOne K (.ref C_NoOrders) (.ref C_NoRing) = some false)
    (ii_NoOrders_NoNote : PySem.W.kitOne K (.ref C_NoOrders) (.ref C_NoNote) = some false)
    (ii_NoOrders_ValueError : PySem.W.kitOne K (.ref C_NoOrders) (.type "ValueError") = some true)
    (ii_NotEven_NoPlace : PySem.W.kitOne K (.ref C_NotEven) (.ref C_NoPlace) = some false)
    (ii_NotEven_TooMany : PySem.W.kitOne K (.ref C_NotEven) (.ref C_TooMany) = some false)
    (ii_NotEven_NoRound : PySem.W.kitOne K (.ref C_NotEven) (.ref C_NoRound) = some false)
    (ii_NotEven_NoOrders : PySem.W.kitOne K (.ref C_NotEven) (.ref C_NoOrders) = some false)
    (ii_NotEven_NotEven : PySem.W.kitOne K (.ref C_NotEven) (.ref C_NotEven) = some true)
    (ii_NotEven_NotWhole : PySem.W.kitOne K (.ref C_NotEven) (.ref C_NotWhole) = some false)
    (ii_NotEven_NoExchange : PySem.W.kitOne K (.ref C_NotEven) (.ref C_NoExchange) = some false)
    (ii_NotEven_NoWindows : PySem.W.kitOne K (.ref C_NotEven) (.ref C_NoWindows) = some false)
    (ii_NotEven_NoRing : PySem.W.kitOne K (.ref C_NotEven) (.ref C_NoRing) = some false)
    (ii_NotEven_NoNote : PySem.W.kitOne K (.ref C_NotEven) (.ref C_NoNote) = some false)
    (ii_NotEven_ValueError : PySem.W.kitOne K (.ref C_NotEven) (.type "ValueError") = some true)
    (ii_NotWhole_NoPlace : PySem.W.kitOne K (.ref C_NotWhole) (.ref C_NoPlace) = some false)
    (ii_NotWhole_TooMany : PySem.W.kitOne K (.ref C_NotWhole) (.ref C_TooMany) = some false)
    (ii_NotWhole_NoRound : PySem.W.kitOne K (.ref C_NotWhole) (.ref C_NoRound) = some false)
    (ii_NotWhole_NoOrders : PySem.W.kitOne K (.ref C_NotWhole) (.ref C_NoOrders) = some false)
    (ii_NotWhole_NotEven : PySem.W.kitOne K (.ref C_NotWhole) (.ref C_NotEven) = some false)
    (ii_NotWhole_NotWhole : PySem.W.kitOne K (.ref C_NotWhole) (.ref C_NotWhole) = some true)
    (ii_NotWhole_NoExchange : PySem.W.kitOne K (.ref C_NotWhole) (.ref C_NoExchange) = some false)
    (ii_NotWhole_NoWindows : PySem.W.kitOne K (.ref C_NotWhole) (.ref C_NoWindows) = some false)
    (ii_NotWhole_NoRing : PySem.W.kitOne K (.ref C_NotWhole) (.ref C_NoRing) = some false)
    (ii_NotWhole_NoNote : PySem.W.kitOne K (.ref C_NotWhole) (.ref C_NoNote) = some false)
    (ii_NotWhole_ValueError : PySem.W.kitOne K (.ref C_NotWhole) (.type "ValueError") = some true)
    (ii_NoExchange_NoPlace : PySem.W.kitOne K (.ref C_NoExchange) (.ref C_NoPlace) = some false)
    (ii_NoExchange_TooMany : PySem.W.kitOne K (.ref C_NoExchange) (.ref C_TooMany) = some false)
    (ii_NoExchange_NoRound : PySem.W.kitOne K (.ref C_NoExchange) (.ref C_NoRound) = some false)
    (ii_NoExchange_NoOrders : PySem.W.kitOne K (.ref C_NoExchange) (.ref C_NoOrders) = some false)
    (ii_NoExchange_NotEven : PySem.W.kitOne K (.ref C_NoExchange) (.ref C_NotEven) = some false)
    (ii_NoExchange_NotWhole : PySem.W.kitOne K (.ref C_NoExchange) (.ref C_NotWhole) = some false)
    (ii_NoExchange_NoExchange : PySem.W.kitOne K (.ref C_NoExchange) (.ref C_NoExchange) = some true)
    (ii_NoExchange_NoWindows : PySem.W.kitOne K (.ref C_NoExchange) (.ref C_NoWindows) = some false)
    (ii_NoExchange_NoRing : PySem.W.kitOne K (.ref C_NoExchange) (.ref C_NoRing) = some false)
    (ii_NoExchange_NoNote : PySem.W.kitOne K (.ref C_NoExchange) (.ref C_NoNote) = some false)
    (ii_NoExchange_ValueError : PySem.W.kitOne K (.ref C_NoExchange) (.type "ValueError") = some true)
    (ii_NoWindows_NoPlace : PySem.W.kitOne K (.ref C_NoWindows) (.ref C_NoPlace) = some false)
    (ii_NoWindows_TooMany : PySem.W.kitOne K (.ref C_NoWindows) (.ref C_TooMany) = some false)
    (ii_NoWindows_NoRound : PySem.W.kitOne K (.ref C_NoWindows) (.ref C_NoRound) = some false)
    (ii_NoWindows_NoOrders : PySem.W.kitOne K (.ref C_NoWindows) (.ref C_NoOrders) = some false)
    (ii_NoWindows_NotEven : PySem.W.kitOne K (.ref C_NoWindows) (.ref C_NotEven) = some false)
    (ii_NoWindows_NotWhole : PySem.W.kitOne K (.ref C_NoWindows) (.ref C_NotWhole) = some false)
    (ii_NoWindows_NoExchange : PySem.W.kitOne K (.ref C_NoWindows) (.ref C_NoExchange) = some false)
    (ii_NoWindows_NoWindows : PySem.W.kitOne K (.ref C_NoWindows) (.ref C_NoWindows) = some true)
    (ii_NoWindows_NoRing : PySem.W.kitOne K (.ref C_NoWindows) (.ref C_NoRing) = some false)
    (ii_NoWindows_NoNote : PySem.W.kitOne K (.ref C_NoWindows) (.ref C_NoNote) = some false)
    (ii_NoWindows_ValueError : PySem.W.kitOne K (.ref C_NoWindows) (.type "ValueError") = some true)
    (ii_NoRing_NoPlace : PySem.W.kitOne K (.ref C_NoRing) (.ref C_NoPlace) = some false)
    (ii_NoRing_TooMany : PySem.W.kitOne K (.ref C_NoRing) (.ref C_TooMany) = some false)
    (ii_NoRing_NoRound : PySem.W.kitOne K (.ref C_NoRing) (.ref C_NoRound) = some false)
    (ii_NoRing_NoOrders : PySem.W.kitOne K (.ref C_NoRing) (.ref C_NoOrders) = some false)
    (ii_NoRing_NotEven : PySem.W.kitOne K (.ref C_NoRing) (.ref C_NotEven) = some false)
    (ii_NoRing_NotWhole : PySem.W.kitOne K (.ref C_NoRing) (.ref C_NotWhole) = some false)
    (ii_NoRing_NoExchange : PySem.W.kitOne K (.ref C_NoRing) (.ref C_NoExchange) = some false)
    (ii_NoRing_NoWindows : PySem.W.kitOne K (.ref C_NoRing) (.ref C_NoWindows) = some false)
    (ii_NoRing_NoRing : PySem.W.kitOne K (.ref C_NoRing) (.ref C_NoRing) = some true)
    (ii_NoRing_NoNote : PySem.W.kitOne K (.ref C_NoRing) (.ref C_NoNote) = some false)
    (ii_NoRing_ValueError : PySem.W.kitOne K (.ref C_NoRing) (.type "ValueError") = some true)
    (ii_NoNote_NoPlace : PySem.W.kitOne K (.ref C_NoNote) (.ref C_NoPlace) = some false)
    (ii_NoNote_TooMany : PySem.W.kitOne K (.ref C_NoNote) (.ref C_TooMany) = some false)
    (ii_NoNote_NoRound : PySem.W.kitOne K (.ref C_NoNote) (.ref C_NoRound) = some false)
    (ii_NoNote_NoOrders : PySem.W.kitOne K (.ref C_NoNote) (.ref C_NoOrders) = some false)
    (ii_NoNote_NotEven : PySem.W.kitOne K (.ref C_NoNote) (.ref C_NotEven) = some false)
    (ii_NoNote_NotWhole : PySem.W.kitOne K (.ref C_NoNote) (.ref C_NotWhole) = some false)
    (ii_NoNote_NoExchange : PySem.W.kitOne K (.ref C_NoNote) (.ref C_NoExchange) = some false)
    (ii_NoNote_NoWindows : PySem.W.kitOne K (.ref C_NoNote) (.ref C_NoWindows) = some false)
    (ii_NoNote_NoRing : PySem.W.kitOne K (.ref C_NoNote) (.ref C_NoRing) = some false)
    (ii_NoNote_NoNote : PySem.W.kitOne K (.ref C_NoNote) (.ref C_NoNote) = some true)
    (ii_NoNote_ValueError : PySem.W.kitOne K (.ref C_NoNote) (.type "ValueError") = some true)
    (yd : PySem.W.specialIn K (.builtin "object.__class__") "__get__" = some (some (.builtin "getset_descriptor.__get__")))
    (ye : PySem.W.takesIn K (.builtin "object.__class__") = some true)
    (ya_NoPlace : PySem.W.findIn K (.ref C_NoPlace) "__getattribute__" = some (some (.builtin "BaseException.__getattribute__")))
    (yb_NoPlace : PySem.W.findIn K (.ref C_NoPlace) "__getattr__" = some none)
    (yc_NoPlace : PySem.W.findIn K (.ref C_NoPlace) "__class__" = some (some (.builtin "object.__class__")))
    (yf_NoPlace : PySem.W.mroIn K C_NoPlace (.type "object") = some true)
    (yg_NoPlace : PySem.W.mroIn K C_NoPlace (.type "BaseException") = some true)
    (ya_TooMany : PySem.W.findIn K (.ref C_TooMany) "__getattribute__" = some (some (.builtin "BaseException.__getattribute__")))
    (yb_TooMany : PySem.W.findIn K (.ref C_TooMany) "__getattr__" = some none)
    (yc_TooMany : PySem.W.findIn K (.ref C_TooMany) "__class__" = some (some (.builtin "object.__class__")))
    (yf_TooMany : PySem.W.mroIn K C_TooMany (.type "object") = some true)
    (yg_TooMany : PySem.W.mroIn K C_TooMany (.type "BaseException") = some true)
    (ya_NoRound : PySem.W.findIn K (.ref C_NoRound) "__getattribute__" = some (some (.builtin "BaseException.__getattribute__")))
    (yb_NoRound : PySem.W.findIn K (.ref C_NoRound) "__getattr__" = some none)
    (yc_NoRound : PySem.W.findIn K (.ref C_NoRound) "__class__" = some (some (.builtin "object.__class__")))
    (yf_NoRound : PySem.W.mroIn K C_NoRound (.type "object") = some true)
    (yg_NoRound : PySem.W.mroIn K C_NoRound (.type "BaseException") = some true)
    (ya_NoOrders : PySem.W.findIn K (.ref C_NoOrders) "__getattribute__" = some (some (.builtin "BaseException.__getattribute__")))
    (yb_NoOrders : PySem.W.findIn K (.ref C_NoOrders) "__getattr__" = some none)
    (yc_NoOrders : PySem.W.findIn K (.ref C_NoOrders) "__class__" = some (some (.builtin "object.__class__")))
    (yf_NoOrders : PySem.W.mroIn K C_NoOrders (.type "object") = some true)
    (yg_NoOrders : PySem.W.mroIn K C_NoOrders (.type "BaseException") = some true)
    (ya_NotEven : PySem.W.findIn K (.ref C_NotEven) "__getattribute__" = some (some (.builtin "BaseException.__getattribute__")))
    (yb_NotEven : PySem.W.findIn K (.ref C_NotEven) "__getattr__" = some none)
    (yc_NotEven : PySem.W.findIn K (.ref C_NotEven) "__class__" = some (some (.builtin "object.__class__")))
    (yf_NotEven : PySem.W.mroIn K C_NotEven (.type "object") = some true)
    (yg_NotEven : PySem.W.mroIn K C_NotEven (.type "BaseException") = some true)
    (ya_NotWhole : PySem.W.findIn K (.ref C_NotWhole) "__getattribute__" = some (some (.builtin "BaseException.__getattribute__")))
    (yb_NotWhole : PySem.W.findIn K (.ref C_NotWhole) "__getattr__" = some none)
    (yc_NotWhole : PySem.W.findIn K (.ref C_NotWhole) "__class__" = some (some (.builtin "object.__class__")))
    (yf_NotWhole : PySem.W.mroIn K C_NotWhole (.type "object") = some true)
    (yg_NotWhole : PySem.W.mroIn K C_NotWhole (.type "BaseException") = some true)
    (ya_NoExchange : PySem.W.findIn K (.ref C_NoExchange) "__getattribute__" = some (some (.builtin "BaseException.__getattribute__")))
    (yb_NoExchange : PySem.W.findIn K (.ref C_NoExchange) "__getattr__" = some none)
    (yc_NoExchange : PySem.W.findIn K (.ref C_NoExchange) "__class__" = some (some (.builtin "object.__class__")))
    (yf_NoExchange : PySem.W.mroIn K C_NoExchange (.type "object") = some true)
    (yg_NoExchange : PySem.W.mroIn K C_NoExchange (.type "BaseException") = some true)
    (ya_NoWindows : PySem.W.findIn K (.ref C_NoWindows) "__getattribute__" = some (some (.builtin "BaseException.__getattribute__")))
    (yb_NoWindows : PySem.W.findIn K (.ref C_NoWindows) "__getattr__" = some none)
    (yc_NoWindows : PySem.W.findIn K (.ref C_NoWindows) "__class__" = some (some (.builtin "object.__class__")))
    (yf_NoWindows : PySem.W.mroIn K C_NoWindows (.type "object") = some true)
    (yg_NoWindows : PySem.W.mroIn K C_NoWindows (.type "BaseException") = some true)
    (ya_NoRing : PySem.W.findIn K (.ref C_NoRing) "__getattribute__" = some (some (.builtin "BaseException.__getattribute__")))
    (yb_NoRing : PySem.W.findIn K (.ref C_NoRing) "__getattr__" = some none)
    (yc_NoRing : PySem.W.findIn K (.ref C_NoRing) "__class__" = some (some (.builtin "object.__class__")))
    (yf_NoRing : PySem.W.mroIn K C_NoRing (.type "object") = some true)
    (yg_NoRing : PySem.W.mroIn K C_NoRing (.type "BaseException") = some true)
    (ya_NoNote : PySem.W.findIn K (.ref C_NoNote) "__getattribute__" = some (some (.builtin "BaseException.__getattribute__")))
    (yb_NoNote : PySem.W.findIn K (.ref C_NoNote) "__getattr__" = some none)
    (yc_NoNote : PySem.W.findIn K (.ref C_NoNote) "__class__" = some (some (.builtin "object.__class__")))
    (yf_NoNote : PySem.W.mroIn K C_NoNote (.type "object") = some true)
    (yg_NoNote : PySem.W.mroIn K C_NoNote (.type "BaseException") = some true)
    (z_ValueError : PySem.W.nsIn K mainGlobals "ValueError" = some none)
    (z_enumerate : PySem.W.nsIn K mainGlobals "enumerate" = some none)
    (z_isinstance : PySem.W.nsIn K mainGlobals "isinstance" = some none)
    (z_len : PySem.W.nsIn K mainGlobals "len" = some none)
    (z_list : PySem.W.nsIn K mainGlobals "list" = some none)
    (z_range : PySem.W.nsIn K mainGlobals "range" = some none)
    (z_set : PySem.W.nsIn K mainGlobals "set" = some none)
    (z_sorted : PySem.W.nsIn K mainGlobals "sorted" = some none)
    (z_str : PySem.W.nsIn K mainGlobals "str" = some none)
    (g_MOST_PLACES : PySem.W.nsIn K mainGlobals "MOST_PLACES" = some (some (.int 8 tk_MOST_PLACES)))
    (g_MOST_ROADS : PySem.W.nsIn K mainGlobals "MOST_ROADS" = some (some (.int 24 tk_MOST_ROADS))) :
    ∃ t : Adr, (∀ (s : Shared) (v : Value), BindsTo s t.d_law ⟨[v], []⟩ [("script", v)]) ∧ Tx K mg t := by
  have F_Net_init := fun_mk (st := s_Net_init) l_Net_init c_Net_init k_Net_init
  have b_Net_init := F_Net_init.binds (ps := ["self", "size"]) fun _ _ _ _ _ _ us hl => match us, hl with | [_, _], _ => rfl
  have F_Net_need_place := fun_mk (st := s_Net_need_place) l_Net_need_place c_Net_need_place k_Net_need_place
  have b_Net_need_place := F_Net_need_place.binds (ps := ["self", "place"]) fun _ _ _ _ _ _ us hl => match us, hl with | [_, _], _ => rfl
  have F_Net_lay := fun_mk (st := s_Net_lay) l_Net_lay c_Net_lay k_Net_lay
  have b_Net_lay := F_Net_lay.binds (ps := ["self", "start", "goal"]) fun _ _ _ _ _ _ us hl => match us, hl with | [_, _, _], _ => rfl
  have F_Net_outs := fun_mk (st := s_Net_outs) l_Net_outs c_Net_outs k_Net_outs
  have b_Net_outs := F_Net_outs.binds (ps := ["self", "place"]) fun _ _ _ _ _ _ us hl => match us, hl with | [_, _], _ => rfl
  have F_Net_ins := fun_mk (st := s_Net_ins) l_Net_ins c_Net_ins k_Net_ins
  have b_Net_ins := F_Net_ins.binds (ps := ["self", "place"]) fun _ _ _ _ _ _ us hl => match us, hl with | [_, _], _ => rfl
  have F_NotWhole_init := fun_mk (st := s_NotWhole_init) l_NotWhole_init c_NotWhole_init k_NotWhole_init
  have b_NotWhole_init := F_NotWhole_init.binds (ps := ["self", "left"]) fun _ _ _ _ _ _ us hl => match us, hl with | [_, _], _ => rfl
  have F_walk_on := fun_mk (st := s_walk_on) l_walk_on c_walk_on k_walk_on
  have b_walk_on := F_walk_on.binds (ps := ["net", "start", "waiting"]) fun _ _ _ _ _ _ us hl => match us, hl with | [_, _, _], _ => rfl
  have F_is_round := fun_mk (st := s_is_round) l_is_round c_is_round k_is_round
  have b_is_round := F_is_round.binds (ps := ["net", "circuit"]) fun _ _ _ _ _ _ us hl => match us, hl with | [_, _], _ => rfl
  have F_need_round := fun_mk (st := s_need_round) l_need_round c_need_round k_need_round
  have b_need_round := F_need_round.binds (ps := ["net", "circuit"]) fun _ _ _ _ _ _ us hl => match us, hl with | [_, _], _ => rfl
  have F_odd_places := fun_mk (st := s_odd_places) l_odd_places c_odd_places k_odd_places
  have b_odd_places := F_odd_places.binds (ps := ["net"]) fun _ _ _ _ _ _ us hl => match us, hl with | [_], _ => rfl
  have F_need_bounds := fun_mk (st := s_need_bounds) l_need_bounds c_need_bounds k_need_bounds
  have b_need_bounds := F_need_bounds.binds (ps := ["circuit", "bounds"]) fun _ _ _ _ _ _ us hl => match us, hl with | [_, _], _ => rfl
  have F_exchanged := fun_mk (st := s_exchanged) l_exchanged c_exchanged k_exchanged
  have b_exchanged := F_exchanged.binds (ps := ["net", "circuit", "bounds"]) fun _ _ _ _ _ _ us hl => match us, hl with | [_, _, _], _ => rfl
  have F_size_note := fun_mk (st := s_size_note) l_size_note c_size_note k_size_note
  have b_size_note := F_size_note.binds (ps := ["size"]) fun _ _ _ _ _ _ us hl => match us, hl with | [_], _ => rfl
  have F_road_note := fun_mk (st := s_road_note) l_road_note c_road_note k_road_note
  have b_road_note := F_road_note.binds (ps := ["start", "goal"]) fun _ _ _ _ _ _ us hl => match us, hl with | [_, _], _ => rfl
  have F_sizes_by_note := fun_mk (st := s_sizes_by_note) l_sizes_by_note c_sizes_by_note k_sizes_by_note
  have b_sizes_by_note := F_sizes_by_note.binds (ps := []) fun _ _ _ _ _ _ us hl => match us, hl with | [], _ => rfl
  have F_roads_by_note := fun_mk (st := s_roads_by_note) l_roads_by_note c_roads_by_note k_roads_by_note
  have b_roads_by_note := F_roads_by_note.binds (ps := ["size"]) fun _ _ _ _ _ _ us hl => match us, hl with | [_], _ => rfl
  have F_read_size := fun_mk (st := s_read_size) l_read_size c_read_size k_read_size
  have b_read_size := F_read_size.binds (ps := ["row"]) fun _ _ _ _ _ _ us hl => match us, hl with | [_], _ => rfl
  have F_read_road := fun_mk (st := s_read_road) l_read_road c_read_road k_read_road
  have b_read_road := F_read_road.binds (ps := ["roads", "row"]) fun _ _ _ _ _ _ us hl => match us, hl with | [_, _], _ => rfl
  have F_read := fun_mk (st := s_read) l_read c_read k_read
  have b_read := F_read.binds (ps := ["text"]) fun _ _ _ _ _ _ us hl => match us, hl with | [_], _ => rfl
  have F_orders := fun_mk (st := s_orders) l_orders c_orders k_orders
  have b_orders := F_orders.binds (ps := ["net", "circuit"]) fun _ _ _ _ _ _ us hl => match us, hl with | [_, _], _ => rfl
  have F_need_orders := fun_mk (st := s_need_orders) l_need_orders c_need_orders k_need_orders
  have b_need_orders := F_need_orders.binds (ps := ["net", "rows"]) fun _ _ _ _ _ _ us hl => match us, hl with | [_, _], _ => rfl
  have F_need_even := fun_mk (st := s_need_even) l_need_even c_need_even k_need_even
  have b_need_even := F_need_even.binds (ps := ["net"]) fun _ _ _ _ _ _ us hl => match us, hl with | [_], _ => rfl
  have F_by_orders := fun_mk (st := s_by_orders) l_by_orders c_by_orders k_by_orders
  have b_by_orders := F_by_orders.binds (ps := ["net", "start", "rows"]) fun _ _ _ _ _ _ us hl => match us, hl with | [_, _, _], _ => rfl
  have F_window_count := fun_mk (st := s_window_count) l_window_count c_window_count k_window_count
  have b_window_count := F_window_count.binds (ps := ["signs", "length"]) fun _ _ _ _ _ _ us hl => match us, hl with | [_, _], _ => rfl
  have F_window_net := fun_mk (st := s_window_net) l_window_net c_window_net k_window_net
  have b_window_net := F_window_net.binds (ps := ["signs", "length"]) fun _ _ _ _ _ _ us hl => match us, hl with | [_, _], _ => rfl
  have F_window_ending := fun_mk (st := s_window_ending) l_window_ending c_window_ending k_window_ending
  have b_window_ending := F_window_ending.binds (ps := ["signs", "length", "told", "spot"]) fun _ _ _ _ _ _ us hl => match us, hl with | [_, _, _, _], _ => rfl
  have F_need_signs := fun_mk (st := s_need_signs) l_need_signs c_need_signs k_need_signs
  have b_need_signs := F_need_signs.binds (ps := ["signs", "count", "told"]) fun _ _ _ _ _ _ us hl => match us, hl with | [_, _, _], _ => rfl
  have F_ring_round := fun_mk (st := s_ring_round) l_ring_round c_ring_round k_ring_round
  have b_ring_round := F_ring_round.binds (ps := ["signs", "length", "told"]) fun _ _ _ _ _ _ us hl => match us, hl with | [_, _, _], _ => rfl
  have F_q_drawn := fun_mk (st := s_q_drawn) l_q_drawn c_q_drawn k_q_drawn
  have b_q_drawn := F_q_drawn.binds (ps := ["script", "k", "many"]) fun _ _ _ _ _ _ us hl => match us, hl with | [_, _, _], _ => rfl
  have F_q_marks := fun_mk (st := s_q_marks) l_q_marks c_q_marks k_q_marks
  have b_q_marks := F_q_marks.binds (ps := ["e"]) fun _ _ _ _ _ _ us hl => match us, hl with | [_], _ => rfl
  have F_q_deed := fun_mk (st := s_q_deed) l_q_deed c_q_deed k_q_deed
  have b_q_deed := F_q_deed.binds (ps := ["net", "way", "rows", "circuit"]) fun _ _ _ _ _ _ us hl => match us, hl with | [_, _, _, _], _ => rfl
  have F_law := fun_mk (st := s_law) l_law c_law k_law
  have b_law := F_law.binds (ps := ["script"]) fun _ _ _ _ _ _ us hl => match us, hl with | [_], _ => rfl
  exact ⟨⟨C_Net, C_RoadError, C_NoPlace, C_TooMany, C_NoRound, C_NoOrders, C_NotEven, C_NoExchange, C_NoWindows, C_NoRing, C_NoNote, C_NotWhole, f_Net_init, _, f_Net_need_place, _, f_Net_lay, _, f_Net_outs, _, f_Net_ins, _, f_NotWhole_init, _, f_walk_on, _, f_is_round, _, f_need_round, _, f_odd_places, _, f_need_bounds, _, f_exchanged, _, f_size_note, _, f_road_note, _, f_sizes_by_note, _, f_roads_by_note, _, f_read_size, _, f_read_road, _, f_read, _, f_orders, _, f_need_orders, _, f_need_even, _, f_by_orders, _, f_window_count, _, f_window_net, _, f_window_ending, _, f_need_signs, _, f_ring_round, _, f_q_drawn, _, f_q_marks, _, f_q_deed, _, f_law, _⟩, fun s v => .of_eq rfl, ⟨⟨pg_Net, hd_Net, po_Net, sa_Net⟩,
    PySem.W.mg_of X G a_Net,
    ⟨mk_Net, a_Net_init, i_Net_init, kc_Net⟩,
    n_Net_size,
    n_Net_roads,
    F_Net_init,
    b_Net_init,
    F_Net_need_place,
    b_Net_need_place,
    ⟨a_Net_need_place, i_Net_need_place, k_Net_need_place⟩,
    F_Net_lay,
    b_Net_lay,
    ⟨a_Net_lay, i_Net_lay, k_Net_lay⟩,
    F_Net_outs,
    b_Net_outs,
    ⟨a_Net_outs, i_Net_outs, k_Net_outs⟩,
    F_Net_ins,
    b_Net_ins,
    ⟨a_Net_ins, i_Net_ins, k_Net_ins⟩,
    F_NotWhole_init,
    b_NotWhole_init,
    F_walk_on,
    b_walk_on,
    PySem.W.mg_of X G a_walk_on,
    F_is_round,
    b_is_round,
    PySem.W.mg_of X G a_is_round,
    F_need_round,
    b_need_round,
    PySem.W.mg_of X G a_need_round,
    F_odd_places,
    b_odd_places,
    PySem.W.mg_of X G a_odd_places,
    F_need_bounds,
    b_need_bounds,
    PySem.W.mg_of X G a_need_bounds,
    F_exchanged,
    b_exchanged,
    PySem.W.mg_of X G a_exchanged,
    F_size_note,
    b_size_note,
    PySem.W.mg_of X G a_size_note,
    F_road_note,
    b_road_note,
    PySem.W.mg_of X G a_road_note,
    F_sizes_by_note,
    b_sizes_by_note,
    PySem.W.mg_of X G a_sizes_by_note,
    F_roads_by_note,
    b_roads_by_note,
    PySem.W.mg_of X G a_roads_by_note,
    F_read_size,
    b_read_size,
    PySem.W.mg_of X G a_read_size,
    F_read_road,
    b_read_road,
    PySem.W.mg_of X G a_read_road,
    F_read,
    b_read,
    PySem.W.mg_of X G a_read,
    F_orders,
    b_orders,
    PySem.W.mg_of X G a_orders,
    F_need_orders,
    b_need_orders,
    PySem.W.mg_of X G a_need_orders,
    F_need_even,
    b_need_even,
    PySem.W.mg_of X G a_need_even,
    F_by_orders,
    b_by_orders,
    PySem.W.mg_of X G a_by_orders,
    F_window_count,
    b_window_count,
    PySem.W.mg_of X G a_window_count,
    F_window_net,
    b_window_net,
    PySem.W.mg_of X G a_window_net,
    F_window_ending,
    b_window_ending,
    PySem.W.mg_of X G a_window_ending,
    F_need_signs,
    b_need_signs,
    PySem.W.mg_of X G a_need_signs,
    F_ring_round,
    b_ring_round,
    PySem.W.mg_of X G a_ring_round,
    F_q_drawn,
    b_q_drawn,
    PySem.W.mg_of X G a_q_drawn,
    F_q_marks,
    b_q_marks,
    PySem.W.mg_of X G a_q_marks,
    F_q_deed,
    b_q_deed,
    PySem.W.mg_of X G a_q_deed,
    F_law,
    b_law,
    PySem.W.mg_of X G a_law,
    xx_RoadError,
    PySem.W.mg_of X G a_RoadError,
    xx_NoPlace,
    PySem.W.mg_of X G a_NoPlace,
    xx_TooMany,
    PySem.W.mg_of X G a_TooMany,
    xx_NoRound,
    PySem.W.mg_of X G a_NoRound,
    xx_NoOrders,
    PySem.W.mg_of X G a_NoOrders,
    xx_NotEven,
    PySem.W.mg_of X G a_NotEven,
    xx_NoExchange,
    PySem.W.mg_of X G a_NoExchange,
    xx_NoWindows,
    PySem.W.mg_of X G a_NoWindows,
    xx_NoRing,
    PySem.W.mg_of X G a_NoRing,
    xx_NoNote,
    PySem.W.mg_of X G a_NoNote,
    xi_NotWhole,
    i_NotWhole_init,
    PySem.W.mg_of X G a_NotWhole,
    kp_NotWhole,
    ⟨sa_NotWhole, no_NotWhole, yf_NotWhole⟩,
    ⟨ba_RoadError, xi_rRoadError, xi_fRoadError⟩,
    s_NoPlace_RoadError,
    s_TooMany_RoadError,
    s_NoRound_RoadError,
    s_NoOrders_RoadError,
    s_NotEven_RoadError,
    s_NotWhole_RoadError,
    s_NoExchange_RoadError,
    s_NoWindows_RoadError,
    s_NoRing_RoadError,
    s_NoNote_RoadError,
    ii_NoPlace_NoPlace,
    ii_NoPlace_TooMany,
    ii_NoPlace_NoRound,
    ii_NoPlace_NoOrders,
    ii_NoPlace_NotEven,
    ii_NoPlace_NotWhole,
    ii_NoPlace_NoExchange,
    ii_NoPlace_NoWindows,
    ii_NoPlace_NoRing,
    ii_NoPlace_NoNote,
    ii_NoPlace_ValueError,
    ii_TooMany_NoPlace,
    ii_TooMany_TooMany,
    ii_TooMany_NoRound,
    ii_TooMany_NoOrders,
    ii_TooMany_NotEven,
    ii_TooMany_NotWhole,
    ii_TooMany_NoExchange,
    ii_TooMany_NoWindows,
    ii_TooMany_NoRing,
    ii_TooMany_NoNote,
    ii_TooMany_ValueError,
    ii_NoRound_NoPlace,
    ii_NoRound_TooMany,
    ii_NoRound_NoRound,
    ii_NoRound_NoOrders,
    ii_NoRound_NotEven,
    ii_NoRound_NotWhole,
    ii_NoRound_NoExchange,
    ii_NoRound_NoWindows,
    ii_NoRound_NoRing,
    ii_NoRound_NoNote,
    ii_NoRound_ValueError,
    ii_NoOrders_NoPlace,
    ii_NoOrders_TooMany,
    ii_NoOrders_NoRound,
    ii_NoOrders_NoOrders,
    ii_NoOrders_NotEven,
    ii_NoOrders_NotWhole,
    ii_NoOrders_NoExchange,
    ii_NoOrders_NoWindows,
    ii_NoOrders_NoRing,
    ii_NoOrders_NoNote,
    ii_NoOrders_ValueError,
    ii_NotEven_NoPlace,
    ii_NotEven_TooMany,
    ii_NotEven_NoRound,
    ii_NotEven_NoOrders,
    ii_NotEven_NotEven,
    ii_NotEven_NotWhole,
    ii_NotEven_NoExchange,
    ii_NotEven_NoWindows,
    ii_NotEven_NoRing,
    ii_NotEven_NoNote,
    ii_NotEven_ValueError,
    ii_NotWhole_NoPlace,
    ii_NotWhole_TooMany,
    ii_NotWhole_NoRound,
    ii_NotWhole_NoOrders,
    ii_NotWhole_NotEven,
    ii_NotWhole_NotWhole,
    ii_NotWhole_NoExchange,
    ii_NotWhole_NoWindows,
    ii_NotWhole_NoRing,
    ii_NotWhole_NoNote,
    ii_NotWhole_ValueError,
    ii_NoExchange_NoPlace,
    ii_NoExchange_TooMany,
    ii_NoExchange_NoRound,
    ii_NoExchange_NoOrders,
    ii_NoExchange_NotEven,
    ii_NoExchange_NotWhole,
    ii_NoExchange_NoExchange,
    ii_NoExchange_NoWindows,
    ii_NoExchange_NoRing,
    ii_NoExchange_NoNote,
    ii_NoExchange_ValueError,
    ii_NoWindows_NoPlace,
    ii_NoWindows_TooMany,
    ii_NoWindows_NoRound,
    ii_NoWindows_NoOrders,
    ii_NoWindows_NotEven,
    ii_NoWindows_NotWhole,
    ii_NoWindows_NoExchange,
    ii_NoWindows_NoWindows,
    ii_NoWindows_NoRing,
    ii_NoWindows_NoNote,
    ii_NoWindows_ValueError,
    ii_NoRing_NoPlace,
    ii_NoRing_TooMany,
    ii_NoRing_NoRound,
    ii_NoRing_NoOrders,
    ii_NoRing_NotEven,
    ii_NoRing_NotWhole,
    ii_NoRing_NoExchange,
    ii_NoRing_NoWindows,
    ii_NoRing_NoRing,
    ii_NoRing_NoNote,
    ii_NoRing_ValueError,
    ii_NoNote_NoPlace,
    ii_NoNote_TooMany,
    ii_NoNote_NoRound,
    ii_NoNote_NoOrders,
    ii_NoNote_NotEven,
    ii_NoNote_NotWhole,
    ii_NoNote_NoExchange,
    ii_NoNote_NoWindows,
    ii_NoNote_NoRing,
    ii_NoNote_NoNote,
    ii_NoNote_ValueError,
    ⟨ya_NoPlace, yb_NoPlace, yc_NoPlace, yd, ye, yf_NoPlace, yg_NoPlace⟩,
    ⟨ya_TooMany, yb_TooMany, yc_TooMany, yd, ye, yf_TooMany, yg_TooMany⟩,
    ⟨ya_NoRound, yb_NoRound, yc_NoRound, yd, ye, yf_NoRound, yg_NoRound⟩,
    ⟨ya_NoOrders, yb_NoOrders, yc_NoOrders, yd, ye, yf_NoOrders, yg_NoOrders⟩,
    ⟨ya_NotEven, yb_NotEven, yc_NotEven, yd, ye, yf_NotEven, yg_NotEven⟩,
    ⟨ya_NotWhole, yb_NotWhole, yc_NotWhole, yd, ye, yf_NotWhole, yg_NotWhole⟩,
    ⟨ya_NoExchange, yb_NoExchange, yc_NoExchange, yd, ye, yf_NoExchange, yg_NoExchange⟩,
    ⟨ya_NoWindows, yb_NoWindows, yc_NoWindows, yd, ye, yf_NoWindows, yg_NoWindows⟩,
    ⟨ya_NoRing, yb_NoRing, yc_NoRing, yd, ye, yf_NoRing, yg_NoRing⟩,
    ⟨ya_NoNote, yb_NoNote, yc_NoNote, yd, ye, yf_NoNote, yg_NoNote⟩,
    PySem.W.mg_none_of X G z_ValueError,
    PySem.W.mg_none_of X G z_enumerate,
    PySem.W.mg_none_of X G z_isinstance,
    PySem.W.mg_none_of X G z_len,
    PySem.W.mg_none_of X G z_list,
    PySem.W.mg_none_of X G z_range,
    PySem.W.mg_none_of X G z_set,
    PySem.W.mg_none_of X G z_sorted,
    PySem.W.mg_none_of X G z_str,
    ⟨_, PySem.W.mg_of X G g_MOST_PLACES⟩,
    ⟨_, PySem.W.mg_of X G g_MOST_ROADS⟩⟩⟩
theorem walk {l : PySem.W.OpenLaw} {q : Program} {loose : List Str} {XP : (Str → Option Value) → Heap → Prop} {YP : World → Heap → Prop} {d : DefRec} {K : Params → PySem.W.Frag} (hn : l.most = some 63) (hdf : d.params.defaults = []) (hname : d.name = "law")
    (hY : ∀ (w : World) (h : Heap), YP w h → (K w.params).In h)
    (F : ∀ (w : World) (mg : Str → Option Value) (h : Heap), (K w.params).In h → h.Ns mainGlobals mg → ∃ t, mg "law" = some (.ref t.a_law) ∧ (∀ (s : Shared) (v : Value), BindsTo s t.d_law ⟨[v], []⟩ [("script", v)]) ∧ Tx (K w.params) mg t) :
    PySem.W.WalkO q loose XP YP l.row.toRowW d [] (fun f vs => PySem.call f vs) :=
  L2.walk_of (n := 63) (k := 7) (x := "script") (CX := fun _ => CX0) (sp := fun w => sp_law (K w.params)) hn (by decide) hdf ⟨rfl, by decide, by decide⟩ hY (fun w mg fa h KX G hm => by
    obtain ⟨t, e, b, T⟩ := F w mg h KX G
    rw [hname, e] at hm
    cases hm
    exact ⟨t.d_law, b, fun base _ _ => ok_law T⟩) (fun _ _ a ns hl hO hS => ⟨a, ns, rfl, scr_of hO hS, hl, fun _ => rfl⟩) fun _ _ _ _ _ z => z
end Mine
open PySem PySem.W PyProof.Rows
def PySem.W.Fast.tw11127596663974041408 : Unit := ()
def PySem.W.Fast.tw12021737429207256408 : Unit := ()
def PySem.W.Fast.tw9284775742438707155 : Unit := ()
def PySem.W.Fast.tw12673347153107062879 : Unit := ()
set_option maxRecDepth 100000 in
set_option maxHeartbeats 0 in
theorem PySem.Challenge.cw_everyroad_k20_refusals_apart_holds : PySem.Challenge.rw_everyroad_k20_refusals_apart.Holds := by
  w_on; o_law; k_head; (case hw => w_witness2)
  k_fill
  refine Mine.walk (l := PySem.Challenge.rw_everyroad_k20_refusals_apart) rfl rfl rfl (fun w h Y => PySem.W.kIn_of Y) ?F
  case F =>
    intro w mg h KX G
    have T : ∃ t : Mine.Adr, (∀ (s : Shared) (v : Value), BindsTo s t.d_law ⟨[v], []⟩ [("script", v)]) ∧ Mine.Tx (L2.KOf KX) mg t := by
      dsimp only [L2.KOf]
      refine' Mine.tx_mk KX G ?a_Net ?a_NotWhole ?a_Net_init ?i_Net_init ?l_Net_init ?c_Net_init ?k_Net_init ?a_Net_need_place ?i_Net_need_place ?l_Net_need_place ?c_Net_need_place ?k_Net_need_place ?a_Net_lay ?i_Net_lay ?l_Net_lay ?c_Net_lay ?k_Net_lay ?a_Net_outs ?i_Net_outs ?l_Net_outs ?c_Net_outs ?k_Net_outs ?a_Net_ins ?i_Net_ins ?l_Net_ins ?c_Net_ins ?k_Net_ins ?a_NotWhole_init ?i_NotWhole_init ?l_NotWhole_init ?c_NotWhole_init ?k_NotWhole_init ?a_walk_on ?l_walk_on ?c_walk_on ?k_walk_on ?a_is_round ?l_is_round ?c_is_round ?k_is_round ?a_need_round ?l_need_round ?c_need_round ?k_need_round ?a_odd_places ?l_odd_places ?c_odd_places ?k_odd_places ?a_need_bounds ?l_need_bounds ?c_need_bounds ?k_need_bounds ?a_exchanged ?l_exchanged ?c_exchanged ?k_exchanged ?a_size_note ?l_size_note ?c_size_note ?k_size_note ?a_road_note ?l_road_note ?c_road_note ?k_road_note ?a_sizes_by_note ?l_sizes_by_note ?c_sizes_by_note ?k_sizes_by_note ?a_roads_by_note ?l_roads_by_note ?c_roads_by_note ?k_roads_by_note ?a_read_size ?l_read_size ?c_read_size ?k_read_size ?a_read_road ?l_read_road ?c_read_road ?k_read_road ?a_read ?l_read ?c_read ?k_read ?a_orders ?l_orders ?c_orders ?k_orders ?a_need_orders ?l_need_orders ?c_need_orders ?k_need_orders ?a_need_even ?l_need_even ?c_need_even ?k_need_even ?a_by_orders ?l_by_orders ?c_by_orders ?k_by_orders ?a_window_count ?l_window_count ?c_window_count ?k_window_count ?a_window_net ?l_window_net ?c_window_net ?k_window_net ?a_window_ending ?l_window_ending ?c_window_ending ?k_window_ending ?a_need_signs ?l_need_signs ?c_need_signs ?k_need_signs ?a_ring_round ?l_ring_round ?c_ring_round ?k_ring_round ?a_q_drawn ?l_q_drawn ?c_q_drawn ?k_q_drawn ?a_q_marks ?l_q_marks ?c_q_marks ?k_q_marks ?a_q_deed ?l_q_deed ?c_q_deed ?k_q_deed ?a_law ?l_law ?c_law ?k_law ?pg_Net ?hd_Net ?po_Net ?sa_Net ?mk_Net ?kc_Net ?n_Net_size ?n_Net_roads ?a_RoadError ?xx_RoadError ?a_NoPlace ?xx_NoPlace ?a_TooMany ?xx_TooMany ?a_NoRound ?xx_NoRound ?a_NoOrders ?xx_NoOrders ?a_NotEven ?xx_NotEven ?a_NoExchange ?xx_NoExchange ?a_NoWindows ?xx_NoWindows ?a_NoRing ?xx_NoRing ?a_NoNote ?xx_NoNote ?xi_NotWhole ?kp_NotWhole ?sa_NotWhole ?no_NotWhole ?ba_RoadError ?xi_rRoadError ?xi_fRoadError ?s_NoPlace_RoadError ?s_TooMany_RoadError ?s_NoRound_RoadError ?s_NoOrders_RoadError ?s_NotEven_RoadError ?s_NotWhole_RoadError ?s_NoExchange_RoadError ?s_NoWindows_RoadError ?s_NoRing_RoadError ?s_NoNote_RoadError ?ii_NoPlace_NoPlace ?ii_NoPlace_TooMany ?ii_NoPlace_NoRound ?ii_NoPlace_NoOrders ?ii_NoPlace_NotEven ?ii_NoPlace_NotWhole ?ii_NoPlace_NoExchange ?ii_NoPlace_NoWindows ?ii_NoPlace_NoRing ?ii_NoPlace_NoNote ?ii_NoPlace_ValueError ?ii_TooMany_NoPlace ?ii_TooMany_TooMany ?ii_TooMany_NoRound ?ii_TooMany_NoOrders ?ii_TooMany_NotEven ?ii_TooMany_NotWhole ?ii_TooMany_NoExchange ?ii_TooMany_NoWindows ?ii_TooMany_NoRing ?ii_TooMany_NoNote ?ii_TooMany_ValueError ?ii_NoRound_NoPlace ?ii_NoRound_TooMany ?ii_NoRound_NoRound ?ii_NoRound_NoOrders ?ii_NoRound_NotEven ?ii_NoRound_NotWhole ?ii_NoRound_NoExchange ?ii_NoRound_NoWindows ?ii_NoRound_NoRing ?ii_NoRound_NoNote ?ii_NoRound_ValueError ?ii_NoOrders_NoPlace ?ii_NoOrders_TooMany ?ii_NoOrders_NoRound ?ii_NoOrders_NoOrders ?ii_NoOrders_NotEven ?ii_NoOrders_NotWhole ?ii_NoOrders_NoExchange ?ii_NoOrders_NoWindows ?ii_NoOrders_NoRing ?ii_NoOrders_NoNote ?ii_NoOrders_ValueError ?ii_NotEven_NoPlace ?ii_NotEven_TooMany ?ii_NotEven_NoRound ?ii_NotEven_NoOrders ?ii_NotEven_NotEven ?ii_NotEven_NotWhole ?ii_NotEven_NoExchange ?ii_NotEven_NoWindows ?ii_NotEven_NoRing ?ii_NotEven_NoNote ?ii_NotEven_ValueError ?ii_NotWhole_NoPlace ?ii_NotWhole_TooMany ?ii_NotWhole_NoRound ?ii_NotWhole_NoOrders ?ii_NotWhole_NotEven ?ii_NotWhole_NotWhole ?ii_NotWhole_NoExchange ?ii_NotWhole_NoWindows ?ii_NotWhole_NoRing ?ii_NotWhole_NoNote ?ii_NotWhole_ValueError ?ii_NoExchange_NoPlace ?ii_NoExchange_TooMany ?ii_NoExchange_NoRound ?ii_NoExchange_NoOrders ?ii_NoExchange_NotEven ?ii_NoExchange_NotWhole ?ii_NoExchange_NoExchange ?ii_NoExchange_NoWindows ?ii_NoExchange_NoRing ?ii_NoExchange_NoNote ?ii_NoExchange_ValueError ?ii_NoWindows_NoPlace ?ii_NoWindows_TooMany ?ii_NoWindows_NoRound ?ii_NoWindows_NoOrders ?ii_NoWindows_NotEven ?ii_NoWindows_NotWhole ?ii_NoWindows_NoExchange ?ii_NoWindows_NoWindows ?ii_NoWindows_NoRing ?ii_NoWindows_NoNote ?ii_NoWindows_ValueError ?ii_NoRing_NoPlace ?ii_NoRing_TooMany ?ii_NoRing_NoRound ?ii_NoRing_NoOrders ?ii_NoRing_NotEven ?ii_NoRing_NotWhole ?ii_NoRing_NoExchange ?ii_NoRing_NoWindows ?ii_NoRing_NoRing ?ii_NoRing_NoNote ?ii_NoRing_ValueError ?ii_NoNote_NoPlace ?ii_NoNote_TooMany ?ii_NoNote_NoRound ?ii_NoNote_NoOrders ?ii_NoNote_NotEven ?ii_NoNote_NotWhole ?ii_NoNote_NoExchange ?ii_NoNote_NoWindows ?ii_NoNote_NoRing ?ii_NoNote_NoNote ?ii_NoNote_ValueError ?yd ?ye ?ya_NoPlace ?yb_NoPlace ?yc_NoPlace ?yf_NoPlace ?yg_NoPlace ?ya_TooMany ?yb_TooMany ?yc_TooMany ?yf_TooMany ?yg_TooMany ?ya_NoRound ?yb_NoRound ?yc_NoRound ?yf_NoRound ?yg_NoRound ?ya_NoOrders ?yb_NoOrders ?yc_NoOrders ?yf_NoOrders ?yg_NoOrders ?ya_NotEven ?yb_NotEven ?yc_NotEven ?yf_NotEven ?yg_NotEven ?ya_NotWhole ?yb_NotWhole ?yc_NotWhole ?yf_NotWhole ?yg_NotWhole ?ya_NoExchange ?yb_NoExchange ?yc_NoExchange ?yf_NoExchange ?yg_NoExchange ?ya_NoWindows ?yb_NoWindows ?yc_NoWindows ?yf_NoWindows ?yg_NoWindows ?ya_NoRing ?yb_NoRing ?yc_NoRing ?yf_NoRing ?yg_NoRing ?ya_NoNote ?yb_NoNote ?yc_NoNote ?yf_NoNote ?yg_NoNote ?z_ValueError ?z_enumerate ?z_isinstance ?z_len ?z_list ?z_range ?z_set ?z_sorted ?z_str ?g_MOST_PLACES ?g_MOST_ROADS
      (case a_Net => k_is)
      (case a_NotWhole => k_is)
      (case a_Net_init => k_is)
      (case i_Net_init => k_is)
      (case l_Net_init => k_is)
      (case c_Net_init => k_is)
      (case k_Net_init => k_is)
      (case a_Net_need_place => k_is)
      (case i_Net_need_place => k_is)
      (case l_Net_need_place => k_is)
      (case c_Net_need_place => k_is)
      (case k_Net_need_place => k_is)
      (case a_Net_lay => k_is)
      (case i_Net_lay => k_is)
      (case l_Net_lay => k_is)
      (case c_Net_lay => k_is)
      (case k_Net_lay => k_is)
      (case a_Net_outs => k_is)
      (case i_Net_outs => k_is)
      (case l_Net_outs => k_is)
      (case c_Net_outs => k_is)
      (case k_Net_outs => k_is)
      (case a_Net_ins => k_is)
      (case i_Net_ins => k_is)
      (case l_Net_ins => k_is)
      (case c_Net_ins => k_is)
      (case k_Net_ins => k_is)
      (case a_NotWhole_init => k_is)
      (case i_NotWhole_init => k_is)
      (case l_NotWhole_init => k_is)
      (case c_NotWhole_init => k_is)
      (case k_NotWhole_init => k_is)
      (case a_walk_on => k_is)
      (case l_walk_on => k_is)
      (case c_walk_on => k_is)
      (case k_walk_on => k_is)
      (case a_is_round => k_is)
      (case l_is_round => k_is)
      (case c_is_round => k_is)
      (case k_is_round => k_is)
      (case a_need_round => k_is)
      (case l_need_round => k_is)
      (case c_need_round => k_is)
      (case k_need_round => k_is)
      (case a_odd_places => k_is)
      (case l_odd_places => k_is)
      (case c_odd_places => k_is)
      (case k_odd_places => k_is)
      (case a_need_bounds => k_is)
      (case l_need_bounds => k_is)
      (case c_need_bounds => k_is)
      (case k_need_bounds => k_is)
      (case a_exchanged => k_is)
      (case l_exchanged => k_is)
      (case c_exchanged => k_is)
      (case k_exchanged => k_is)
      (case a_size_note => k_is)
      (case l_size_note => k_is)
      (case c_size_note => k_is)
      (case k_size_note => k_is)
      (case a_road_note => k_is)
      (case l_road_note => k_is)
      (case c_road_note => k_is)
      (case k_road_note => k_is)
      (case a_sizes_by_note => k_is)
      (case l_sizes_by_note => k_is)
      (case c_sizes_by_note => k_is)
      (case k_sizes_by_note => k_is)
      (case a_roads_by_note => k_is)
      (case l_roads_by_note => k_is)
      (case c_roads_by_note => k_is)
      (case k_roads_by_note => k_is)
      (case a_read_size => k_is)
      (case l_read_size => k_is)
      (case c_read_size => k_is)
      (case k_read_size => k_is)
      (case a_read_road => k_is)
      (case l_read_road => k_is)
      (case c_read_road => k_is)
      (case k_read_road => k_is)
      (case a_read => k_is)
      (case l_read => k_is)
      (case c_read => k_is)
      (case k_read => k_is)
      (case a_orders => k_is)
      (case l_orders => k_is)
      (case c_orders => k_is)
      (case k_orders => k_is)
      (case a_need_orders => k_is)
      (case l_need_orders => k_is)
      (case c_need_orders => k_is)
      (case k_need_orders => k_is)
      (case a_need_even => k_is)
      (case l_need_even => k_is)
      (case c_need_even => k_is)
      (case k_need_even => k_is)
      (case a_by_orders => k_is)
      (case l_by_orders => k_is)
      (case c_by_orders => k_is)
      (case k_by_orders => k_is)
      (case a_window_count => k_is)
      (case l_window_count => k_is)
      (case c_window_count => k_is)
      (case k_window_count => k_is)
      (case a_window_net => k_is)
      (case l_window_net => k_is)
      (case c_window_net => k_is)
      (case k_window_net => k_is)
      (case a_window_ending => k_is)
      (case l_window_ending => k_is)
      (case c_window_ending => k_is)
      (case k_window_ending => k_is)
      (case a_need_signs => k_is)
      (case l_need_signs => k_is)
      (case c_need_signs => k_is)
      (case k_need_signs => k_is)
      (case a_ring_round => k_is)
      (case l_ring_round => k_is)
      (case c_ring_round => k_is)
      (case k_ring_round => k_is)
      (case a_q_drawn => k_is)
      (case l_q_drawn => k_is)
      (case c_q_drawn => k_is)
      (case k_q_drawn => k_is)
      (case a_q_marks => k_is)
      (case l_q_marks => k_is)
      (case c_q_marks => k_is)
      (case k_q_marks => k_is)
      (case a_q_deed => k_is)
      (case l_q_deed => k_is)
      (case c_q_deed => k_is)
      (case k_q_deed => k_is)
      (case a_law => k_is)
      (case l_law => k_is)
      (case c_law => k_is)
      (case k_law => k_is)
      (case pg_Net => k_is)
      (case hd_Net => k_is)
      (case po_Net => k_is)
      (case sa_Net => k_is)
      (case mk_Net => k_is)
      (case kc_Net => k_is)
      (case n_Net_size => k_is)
      (case n_Net_roads => k_is)
      (case a_RoadError => k_is)
      (case xx_RoadError => k_exc)
      (case a_NoPlace => k_is)
      (case xx_NoPlace => k_exc)
      (case a_TooMany => k_is)
      (case xx_TooMany => k_exc)
      (case a_NoRound => k_is)
      (case xx_NoRound => k_exc)
      (case a_NoOrders => k_is)
      (case xx_NoOrders => k_exc)
      (case a_NotEven => k_is)
      (case xx_NotEven => k_exc)
      (case a_NoExchange => k_is)
      (case xx_NoExchange => k_exc)
      (case a_NoWindows => k_is)
      (case xx_NoWindows => k_exc)
      (case a_NoRing => k_is)
      (case xx_NoRing => k_exc)
      (case a_NoNote => k_is)
      (case xx_NoNote => k_exc)
      (case xi_NotWhole => kernel_rfl)
      (case kp_NotWhole => k_is)
      (case sa_NotWhole => k_is)
      (case no_NotWhole => k_is)
      (case ba_RoadError => k_is)
      (case xi_rRoadError => kernel_rfl)
      (case xi_fRoadError => kernel_rfl)
      (case s_NoPlace_RoadError => k_is)
      (case s_TooMany_RoadError => k_is)
      (case s_NoRound_RoadError => k_is)
      (case s_NoOrders_RoadError => k_is)
      (case s_NotEven_RoadError => k_is)
      (case s_NotWhole_RoadError => k_is)
      (case s_NoExchange_RoadError => k_is)
      (case s_NoWindows_RoadError => k_is)
      (case s_NoRing_RoadError => k_is)
      (case s_NoNote_RoadError => k_is)
      (case ii_NoPlace_NoPlace => kit_is)
      (case ii_NoPlace_TooMany => kit_is)
      (case ii_NoPlace_NoRound => kit_is)
      (case ii_NoPlace_NoOrders => kit_is)
      (case ii_NoPlace_NotEven => kit_is)
      (case ii_NoPlace_NotWhole => kit_is)
      (case ii_NoPlace_NoExchange => kit_is)
      (case ii_NoPlace_NoWindows => kit_is)
      (case ii_NoPlace_NoRing => kit_is)
      (case ii_NoPlace_NoNote => kit_is)
      (case ii_NoPlace_ValueError => kit_is)
      (case ii_TooMany_NoPlace => kit_is)
      (case ii_TooMany_TooMany => kit_is)
      (case ii_TooMany_NoRound => kit_is)
      (case ii_TooMany_NoOrders => kit_is)
      (case ii_TooMany_NotEven => kit_is)
      (case ii_TooMany_NotWhole => kit_is)
      (case ii_TooMany_NoExchange => kit_is)
      (case ii_TooMany_NoWindows => kit_is)
      (case ii_TooMany_NoRing => kit_is)
      (case ii_TooMany_NoNote => kit_is)
      (case ii_TooMany_ValueError => kit_is)
      (case ii_NoRound_NoPlace => kit_is)
      (case ii_NoRound_TooMany => kit_is)
      (case ii_NoRound_NoRound => kit_is)
      (case ii_NoRound_NoOrders => kit_is)
      (case ii_NoRound_NotEven => kit_is)
      (case ii_NoRound_NotWhole => kit_is)
      (case ii_NoRound_NoExchange => kit_is)
      (case ii_NoRound_NoWindows => kit_is)
      (case ii_NoRound_NoRing => kit_is)
      (case ii_NoRound_NoNote => kit_is)
      (case ii_NoRound_ValueError => kit_is)
      (case ii_NoOrders_NoPlace => kit_is)
      (case ii_NoOrders_TooMany => kit_is)
      (case ii_NoOrders_NoRound => kit_is)
      (case ii_NoOrders_NoOrders => kit_is)
      (case ii_NoOrders_NotEven => kit_is)
      (case ii_NoOrders_NotWhole => kit_is)
      (case ii_NoOrders_NoExchange => kit_is)
      (case ii_NoOrders_NoWindows => kit_is)
      (case ii_NoOrders_NoRing => kit_is)
      (case ii_NoOrders_NoNote => kit_is)
      (case ii_NoOrders_ValueError => kit_is)
      (case ii_NotEven_NoPlace => kit_is)
      (case ii_NotEven_TooMany => kit_is)
      (case ii_NotEven_NoRound => kit_is)
      (case ii_NotEven_NoOrders => kit_is)
      (case ii_NotEven_NotEven => kit_is)
      (case ii_NotEven_NotWhole => kit_is)
      (case ii_NotEven_NoExchange => kit_is)
      (case ii_NotEven_NoWindows => kit_is)
      (case ii_NotEven_NoRing => kit_is)
      (case ii_NotEven_NoNote => kit_is)
      (case ii_NotEven_ValueError => kit_is)
      (case ii_NotWhole_NoPlace => kit_is)
      (case ii_NotWhole_TooMany => kit_is)
      (case ii_NotWhole_NoRound => kit_is)
      (case ii_NotWhole_NoOrders => kit_is)
      (case ii_NotWhole_NotEven => kit_is)
      (case ii_NotWhole_NotWhole => kit_is)
      (case ii_NotWhole_NoExchange => kit_is)
      (case ii_NotWhole_NoWindows => kit_is)
      (case ii_NotWhole_NoRing => kit_is)
      (case ii_NotWhole_NoNote => kit_is)
      (case ii_NotWhole_ValueError => kit_is)
      (case ii_NoExchange_NoPlace => kit_is)
      (case ii_NoExchange_TooMany => kit_is)
      (case ii_NoExchange_NoRound => kit_is)
      (case ii_NoExchange_NoOrders => kit_is)
      (case ii_NoExchange_NotEven => kit_is)
      (case ii_NoExchange_NotWhole => kit_is)
      (case ii_NoExchange_NoExchange => kit_is)
      (case ii_NoExchange_NoWindows => kit_is)
      (case ii_NoExchange_NoRing => kit_is)
      (case ii_NoExchange_NoNote => kit_is)
      (case ii_NoExchange_ValueError => kit_is)
      (case ii_NoWindows_NoPlace => kit_is)
      (case ii_NoWindows_TooMany => kit_is)
      (case ii_NoWindows_NoRound => kit_is)
      (case ii_NoWindows_NoOrders => kit_is)
      (case ii_NoWindows_NotEven => kit_is)
      (case ii_NoWindows_NotWhole => kit_is)
      (case ii_NoWindows_NoExchange => kit_is)
      (case ii_NoWindows_NoWindows => kit_is)
      (case ii_NoWindows_NoRing => kit_is)
      (case ii_NoWindows_NoNote => kit_is)
      (case ii_NoWindows_ValueError => kit_is)
      (case ii_NoRing_NoPlace => kit_is)
      (case ii_NoRing_TooMany => kit_is)
      (case ii_NoRing_NoRound => kit_is)
      (case ii_NoRing_NoOrders => kit_is)
      (case ii_NoRing_NotEven => kit_is)
      (case ii_NoRing_NotWhole => kit_is)
      (case ii_NoRing_NoExchange => kit_is)
      (case ii_NoRing_NoWindows => kit_is)
      (case ii_NoRing_NoRing => kit_is)
      (case ii_NoRing_NoNote => kit_is)
      (case ii_NoRing_ValueError => kit_is)
      (case ii_NoNote_NoPlace => kit_is)
      (case ii_NoNote_TooMany => kit_is)
      (case ii_NoNote_NoRound => kit_is)
      (case ii_NoNote_NoOrders => kit_is)
      (case ii_NoNote_NotEven => kit_is)
      (case ii_NoNote_NotWhole => kit_is)
      (case ii_NoNote_NoExchange => kit_is)
      (case ii_NoNote_NoWindows => kit_is)
      (case ii_NoNote_NoRing => kit_is)
      (case ii_NoNote_NoNote => kit_is)
      (case ii_NoNote_ValueError => kit_is)
      (case yd => k_is)
      (case ye => k_is)
      (case ya_NoPlace => k_is)
      (case yb_NoPlace => k_is)
      (case yc_NoPlace => k_is)
      (case yf_NoPlace => k_is)
      (case yg_NoPlace => k_is)
      (case ya_TooMany => k_is)
      (case yb_TooMany => k_is)
      (case yc_TooMany => k_is)
      (case yf_TooMany => k_is)
      (case yg_TooMany => k_is)
      (case ya_NoRound => k_is)
      (case yb_NoRound => k_is)
      (case yc_NoRound => k_is)
      (case yf_NoRound => k_is)
      (case yg_NoRound => k_is)
      (case ya_NoOrders => k_is)
      (case yb_NoOrders => k_is)
      (case yc_NoOrders => k_is)
      (case yf_NoOrders => k_is)
      (case yg_NoOrders => k_is)
      (case ya_NotEven => k_is)
      (case yb_NotEven => k_is)
      (case yc_NotEven => k_is)
      (case yf_NotEven => k_is)
      (case yg_NotEven => k_is)
      (case ya_NotWhole => k_is)
      (case yb_NotWhole => k_is)
      (case yc_NotWhole => k_is)
      (case yf_NotWhole => k_is)
      (case yg_NotWhole => k_is)
      (case ya_NoExchange => k_is)
      (case yb_NoExchange => k_is)
      (case yc_NoExchange => k_is)
      (case yf_NoExchange => k_is)
      (case yg_NoExchange => k_is)
      (case ya_NoWindows => k_is)
      (case yb_NoWindows => k_is)
      (case yc_NoWindows => k_is)
      (case yf_NoWindows => k_is)
      (case yg_NoWindows => k_is)
      (case ya_NoRing => k_is)
      (case yb_NoRing => k_is)
      (case yc_NoRing => k_is)
      (case yf_NoRing => k_is)
      (case yg_NoRing => k_is)
      (case ya_NoNote => k_is)
      (case yb_NoNote => k_is)
      (case yc_NoNote => k_is)
      (case yf_NoNote => k_is)
      (case yg_NoNote => k_is)
      (case z_ValueError => k_is)
      (case z_enumerate => k_is)
      (case z_isinstance => k_is)
      (case z_len => k_is)
      (case z_list => k_is)
      (case z_range => k_is)
      (case z_set => k_is)
      (case z_sorted => k_is)
      (case z_str => k_is)
      (case g_MOST_PLACES => k_is)
      (case g_MOST_ROADS => k_is)
    obtain ⟨t, b, T⟩ := T
    exact ⟨t, T.m_law, b, T⟩
#print axioms PySem.Challenge.cw_everyroad_k20_refusals_apart_holds

