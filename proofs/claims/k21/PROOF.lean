import PyProof.Rows.All
import Wide.All
import OpenK.AllK
import Wide.FinOn
import Lean
import PyProof.EqAt
import PyProof.EqKinds
import PyProof.TupleCall
import PySem.Challenge.RW_everyroad_k21_whole_counts_of_many
set_option Elab.async false
set_option linter.all false
set_option maxRecDepth 100000
/-! THE HAND LAYER, for ints, bools, texts, own classes, LISTS and tuples (index, slices, in, append, pop ..), calls, loops. Paste it whole ahead of your own text; what your proof does not reach may be deleted. -/
namespace L2
open PySem PySem.Spec PyProof.Rows

/-- a key: an int or a str -/
abbrev Key := Sum Int Str
def keyIs : Key → Value → Bool
  | .inl k, v => Value.isInt k v
  | .inr x, v => Value.isStrOf x v
def keyH (w : World) : Key → Int
  | .inl k => hashInt k
  | .inr x => hashStr w x
theorem keyIs_shape : ∀ {k : Key} {v : Value}, keyIs k v = true → (∃ i t, k = Sum.inl i ∧ v = Value.int i t) ∨ (∃ x t, k = Sum.inr x ∧ v = Value.str x t)
  | .inl i, v, h => by
    obtain ⟨t, e⟩ := Value.isInt_shape (k := i) (v := v) h
    exact .inl ⟨i, t, rfl, e⟩
  | .inr x, v, h => by
    obtain ⟨t, e⟩ := Value.isStrOf_shape (x := x) (v := v) h
    exact .inr ⟨x, t, rfl, e⟩
theorem keyIs_int (i : Int) (t : Tok) : keyIs (.inl i) (.int i t) = true := by simp [keyIs, Value.isInt]
theorem key_ll (a b : Int) : decide ((Sum.inl a : Key) = Sum.inl b) = (a == b) := by
  by_cases e : a = b
  · subst e; simp
  · have h : ¬ (Sum.inl a : Key) = Sum.inl b := fun q => e (Sum.inl.inj q)
    rw [decide_eq_false h]
    exact (beq_eq_false_iff_ne.mpr e).symm
theorem key_rr (a b : Str) : decide ((Sum.inr a : Key) = Sum.inr b) = decide (a = b) := by
  by_cases e : a = b
  · subst e; simp
  · have h : ¬ (Sum.inr a : Key) = Sum.inr b := fun q => e (Sum.inr.inj q)
    rw [decide_eq_false h, decide_eq_false e]
theorem key_lr (a : Int) (b : Str) : decide ((Sum.inl a : Key) = Sum.inr b) = false := decide_eq_false (fun q => nomatch q)
theorem key_rl (a : Str) (b : Int) : decide ((Sum.inr a : Key) = Sum.inl b) = false := decide_eq_false (fun q => nomatch q)

def mixKind (prog : Program) (w : World) : PySem.KeyKind prog w Key where
  is := keyIs
  hash := keyH w
  inj := fun v a b ha hb => by
    rcases keyIs_shape ha with ⟨i, t, rfl, rfl⟩ | ⟨x, t, rfl, rfl⟩
    · rcases keyIs_shape hb with ⟨j, u, rfl, e⟩ | ⟨y, u, rfl, e⟩
      · injection e with e1 _; rw [e1]
      · exact nomatch e
    · rcases keyIs_shape hb with ⟨j, u, rfl, e⟩ | ⟨y, u, rfl, e⟩
      · exact nomatch e
      · injection e with e1 _; rw [e1]
  byValue := fun k v h => by
    rcases keyIs_shape h with ⟨i, t, rfl, rfl⟩ | ⟨x, t, rfl, rfl⟩ <;> rfl
  pyHash := fun hv h => by
    rcases keyIs_shape hv with ⟨i, t, rfl, rfl⟩ | ⟨x, t, rfl, rfl⟩
    · exact wpAny_pyHash_int h
    · exact wpAny_pyHash_str h
  eqBool := fun hu hv h => by
    rcases keyIs_shape hu with ⟨i, t, rfl, rfl⟩ | ⟨x, t, rfl, rfl⟩
    · rcases keyIs_shape hv with ⟨j, u, rfl, rfl⟩ | ⟨y, u, rfl, rfl⟩
      · rw [key_ll] at h; exact wpAny_eqBool_int h
      · rw [key_lr] at h; exact SeqAt.EqAt.int_str i t y u _ _ _ _ h
    · rcases keyIs_shape hv with ⟨j, u, rfl, rfl⟩ | ⟨y, u, rfl, rfl⟩
      · rw [key_rl] at h; exact SeqAt.EqAt.str_int x t j u _ _ _ _ h
      · rw [key_rr] at h; exact wpAny_eqBool_str h
  «strs» := fun k x t v h => by
    rcases keyIs_shape h with ⟨i, u, rfl, e⟩ | ⟨y, u, rfl, e⟩
    · exact nomatch e
    · injection e with e1 _
      subst e1
      cases v <;> rfl

theorem mixKind_int (prog : Program) (w : World) (i : Int) (t : Tok) : (mixKind prog w).is (.inl i) (.int i t) = true := keyIs_int i t
end L2

namespace L2
open PySem PySem.Spec PyProof.Rows

/-- a value, without the heap -/
inductive V where
  | non | bl (b : Bool) | int (i : Int) | str (x : Str) | byt (b : Array UInt8) | flt (b : UInt64) | ref (a : Addr) | ty (n : String)
  deriving DecidableEq

def RelV : V → Value → Prop
  | .non, u => u = Value.none
  | .bl b, u => u = Value.bool b
  | .int i, u => ∃ t, u = Value.int i t
  | .str x, u => ∃ t, u = Value.str x t
  | .byt b, u => ∃ t, u = Value.bytes b t
  | .flt b, u => ∃ t, u = Value.float b t
  | .ref a, u => u = Value.ref a
  | .ty n, u => u = Value.type n

abbrev Vals : List V → List Value → Prop := Paired RelV
theorem Vals.length {xs : List V} {us : List Value} (r : Vals xs us) : xs.length = us.length := Paired.length r
theorem Vals.get : ∀ {xs : List V} {us : List Value} {i : Nat} {x : V}, Vals xs us → xs[i]? = some x → ∃ u, us[i]? = some u ∧ RelV x u
  | _, _, _, _, .nil, e => by simp at e
  | _, _, 0, _, .cons r _, e => by simp at e; subst e; exact ⟨_, rfl, r⟩
  | _, _, i + 1, x, .cons _ t, e => by
    obtain ⟨u, h1, h2⟩ := Vals.get (i := i) (x := x) t (by simpa using e)
    exact ⟨u, by simpa using h1, h2⟩
theorem Vals.set {x : V} {u : Value} (r : RelV x u) : ∀ {xs : List V} {us : List Value} (i : Nat), Vals xs us → Vals (xs.set i x) (us.set i u)
  | _, _, _, .nil => .nil
  | _, _, 0, .cons _ t => .cons r t
  | _, _, i + 1, .cons q t => .cons q (Vals.set r i t)
theorem Vals.append : ∀ {xs ys : List V} {us ws : List Value}, Vals xs us → Vals ys ws → Vals (xs ++ ys) (us ++ ws)
  | _, _, _, _, .nil, s => s
  | _, _, _, _, .cons r t, s => .cons r (Vals.append t s)
theorem Vals.take : ∀ {xs : List V} {us : List Value} (n : Nat), Vals xs us → Vals (xs.take n) (us.take n)
  | _, _, 0, _ => .nil
  | _, _, _ + 1, .nil => .nil
  | _, _, n + 1, .cons r t => .cons r (Vals.take n t)
theorem Vals.drop : ∀ {xs : List V} {us : List Value} (n : Nat), Vals xs us → Vals (xs.drop n) (us.drop n)
  | _, _, 0, r => r
  | _, _, _ + 1, .nil => .nil
  | _, _, n + 1, .cons _ t => Vals.drop n t
def RelO : Option V → Option Value → Prop
  | some v, some u => RelV v u
  | none, none => True
  | _, _ => False
def KV {κ : Type} : List (κ × V) → List (κ × Value) → Prop := Paired fun (p : κ × V) (q : κ × Value) => p.1 = q.1 ∧ RelV p.2 q.2

/-- a key of a dict (00_mix): an int or a text -/
def kV : Key → V
  | .inl i => .int i
  | .inr x => .str x

/-- what stands at a tracked address -/
inductive HO where
  /-- a list -/
  | lst (xs : List V)
  /-- a tuple (never changes) -/
  | tup (xs : List V)
  /-- a dict whose keys are ints and texts; one whose keys are tuples of ints and texts (the empty one is both) -/
  | dK (kvs : List (Key × V)) | dT (kvs : List (List Key × V))
  /-- a set of ints: its members, its size -/
  | set (S : Int → Bool) (n : Nat)
  /-- an instance of the class at C, its dict at dx, its attributes -/
  | ins (C dx : Addr) (fs : List (Str × V))
  /-- the dict of the instance at x -/
  | own (x : Addr)
  /-- the dict of an exception -/
  | xd (fs : List (Str × V))
  /-- a bound method, f of x -/
  | met (f x : Addr)
  /-- a range object lo, lo + 1, .. below hi -/
  | rng (lo hi : Int)
  /-- a thing that is known to the object (the script; a dict while a loop walks it): read, never written while it is so -/
  | frz (o : Obj) (u : HO)
  /-- a code object's table -/
  | tbl (ps : Array Value)
  /-- any other thing, by what is true of its one object (a def of one's own: SetO a S n := HO.ext fun h => ..) -/
  | ext (φ : Heap → Prop)

abbrev Hp := Addr → Option HO
def upd (H : Hp) (a : Addr) (o : HO) : Hp := fun b => if b = a then some o else H b
theorem upd_same {H : Hp} {a : Addr} {o : HO} : upd H a o a = some o := by unfold upd; rw [if_pos rfl]
theorem upd_ne {H : Hp} {a b : Addr} {o : HO} (h : b ≠ a) : upd H a o b = H b := by unfold upd; rw [if_neg h]
/-- two objects of different content stand apart -/
theorem ne_of {H : Hp} {a b : Addr} {o u : HO} (h : H a = some o) (h' : H b = some u) (d : o ≠ u) : a ≠ b := by
  intro e; subst e; rw [h] at h'; exact d (Option.some.inj h')
theorem ne_of_none {H : Hp} {a b : Addr} {o : HO} (h : H a = some o) (h' : H b = none) : a ≠ b := by
  intro e; subst e; rw [h] at h'; cases h'

section
variable (P : Program) (w : World)
def ObjOk (H : Hp) (h : Heap) (a : Addr) : HO → Prop
  | .lst xs => xs.length ≤ sizeLine ∧ ∃ (its : List Value) (n : Nat), Vals xs its ∧ h.get? a = some { cls := .type "list", data := .seq its.toArray n }
  | .tup xs => xs.length ≤ sizeLine ∧ ∃ its : List Value, Vals xs its ∧ IsTup h a its.toArray
  | .dK kvs => kvs.length ≤ sizeLine ∧ (a == sysModules) = false ∧ ∃ vs, KV kvs vs ∧ h.DictOf (mixKind P w) a vs
  | .dT kvs => kvs.length ≤ sizeLine ∧ (a == sysModules) = false ∧ ∃ xs : List (List Key × Addr × Value),
      Paired (fun (p : List Key × V) (q : List Key × Addr × Value) => p.1 = q.1 ∧ H q.2.1 = some (.tup (p.1.map kV)) ∧ RelV p.2 q.2.2) kvs xs ∧
      ∃ o es ep, h.get? a = some o ∧ o.ExactDict ∧ o.data = .dict es ep ∧ es.toList = xs.map (entryOfKey (tupleKind (mixKind P w))) ∧ (xs.map (·.1)).Nodup
  | .set S n => h.SetOf (intKind P w) a S n
  | .ins C dx fs => H dx = some (.own a) ∧ fs.length ≤ 1000 ∧ dx ≠ a ∧ h.get? a = some (PySem.W.instObj C dx) ∧
      ∃ mA, h.Ns1 dx mA ∧ (∀ f, RelO (fs.lookup f) (mA f)) ∧ PySem.Within mA (fs.map (·.1))
  | .own _ => ∃ o, h.get? a = some o
  | .xd fs => ∃ mA, h.Ns1 a mA ∧ ∀ f, RelO (fs.lookup f) (mA f)
  | .rng lo hi => ∃ t u v, h.get? a = some { cls := .type "range", data := .fields #[.int lo t, .int hi u, .int 1 v] }
  | .frz o u => h.get? a = some o ∧ ObjOk H h a u
  | .tbl ps => h.get? a = some { cls := .none, data := .fields ps }
  | .met f x => h.get? a = some (PySem.W.methodObj (.ref f) (.ref x))
  | .ext φ => φ h ∧ (∃ o, h.get? a = some o) ∧ ∀ h1 h2 : Heap, φ h1 → (∀ o, h1.get? a = some o → h2.get? a = some o) → φ h2
/-- the abstract heap is held -/
def HOk (H : Hp) (h : Heap) : Prop := ∀ a o, H a = some o → ObjOk P w H h a o
end

section
variable {P : Program} {w : World} {H H' : Hp} {h h' : Heap} {a : Addr} {o : HO}
theorem ObjOk.lt (x : ObjOk P w H h a o) : a < h.objs.size := by
  cases o with
  | lst xs => obtain ⟨_, _, _, _, e⟩ := x; exact Heap.lt_size e
  | tup xs => obtain ⟨_, _, _, p⟩ := x; exact p.lt
  | dK kvs => obtain ⟨_, _, _, _, o, _, _, e, _⟩ := x; exact Heap.lt_size e
  | dT kvs => obtain ⟨_, _, _, _, o, _, _, e, _⟩ := x; exact Heap.lt_size e
  | set S n => obtain ⟨o, _, _, _, e, _⟩ := x; exact Heap.lt_size e
  | ins C dx fs => obtain ⟨_, _, _, e, _⟩ := x; exact Heap.lt_size e
  | own y => obtain ⟨_, e⟩ := x; exact Heap.lt_size e
  | xd fs => obtain ⟨_, ⟨_, _, _, e, _⟩, _⟩ := x; exact Heap.lt_size e
  | rng lo hi => obtain ⟨_, _, _, e⟩ := x; exact Heap.lt_size e
  | frz ob u => obtain ⟨e, _⟩ := x; exact Heap.lt_size e
  | tbl ps => exact Heap.lt_size (show h.get? a = some _ from x)
  | met f y => exact Heap.lt_size (show h.get? a = some _ from x)
  | ext φ => obtain ⟨_, ⟨_, e⟩, _⟩ := x; exact Heap.lt_size e
theorem Paired.mapP {α β : Type} {F G : α → β → Prop} : ∀ {l₁ : List α} {l₂ : List β}, Paired F l₁ l₂ → (∀ a b, F a b → G a b) → Paired G l₁ l₂
  | _, _, .nil, _ => .nil
  | _, _, .cons r t, f => .cons (f _ _ r) (Paired.mapP t f)
/-- what an object's description leans on: its own object, its own dict, the tuples -/
theorem ObjOk.stay (x : ObjOk P w H h a o) (k : ∀ b u, (b = a ∨ H b = some (.own a)) → h.get? b = some u → h'.get? b = some u)
    (ho : ∀ b, H b = some (.own a) → H' b = some (.own a)) (ht : ∀ b xs, H b = some (.tup xs) → H' b = some (.tup xs)) : ObjOk P w H' h' a o := by
  induction o with
  | lst xs => obtain ⟨z, its, n, r, e⟩ := x; exact ⟨z, its, n, r, k _ _ (.inl rfl) e⟩
  | tup xs => obtain ⟨z, its, r, ob, e, c⟩ := x; exact ⟨z, its, r, ob, k _ _ (.inl rfl) e, c⟩
  | dK kvs => obtain ⟨z, y, vs, r, ob, es, ep, e, c⟩ := x; exact ⟨z, y, vs, r, ob, es, ep, k _ _ (.inl rfl) e, c⟩
  | dT kvs =>
    obtain ⟨z, y, xs, r, ob, es, ep, e, c⟩ := x
    exact ⟨z, y, xs, Paired.mapP r fun p q z => ⟨z.1, ht _ _ z.2.1, z.2.2⟩, ob, es, ep, k _ _ (.inl rfl) e, c⟩
  | set S n => obtain ⟨ob, es, ep, t, e, c⟩ := x; exact ⟨ob, es, ep, t, k _ _ (.inl rfl) e, c⟩
  | ins C dx fs =>
    obtain ⟨d, z, ne, e, mA, ⟨od, es, ep, e2, c⟩, r⟩ := x
    exact ⟨ho _ d, z, ne, k _ _ (.inl rfl) e, mA, ⟨od, es, ep, k _ _ (.inr d) e2, c⟩, r⟩
  | own y => obtain ⟨ob, e⟩ := x; exact ⟨ob, k _ _ (.inl rfl) e⟩
  | xd fs => obtain ⟨mA, ⟨od, es, ep, e, c⟩, r⟩ := x; exact ⟨mA, ⟨od, es, ep, k _ _ (.inl rfl) e, c⟩, r⟩
  | rng lo hi => obtain ⟨t, u, v, e⟩ := x; exact ⟨t, u, v, k _ _ (.inl rfl) e⟩
  | frz ob u ih => obtain ⟨e, q⟩ := x; exact ⟨k _ _ (.inl rfl) e, ih q⟩
  | tbl ps =>
    have e : h.get? a = some { cls := .none, data := .fields ps } := x
    show h'.get? a = some { cls := .none, data := .fields ps }
    exact k a _ (.inl rfl) e
  | met f y =>
    have e : h.get? a = some (PySem.W.methodObj (.ref f) (.ref y)) := x
    show h'.get? a = some (PySem.W.methodObj (.ref f) (.ref y))
    exact k a _ (.inl rfl) e
  | ext φ => obtain ⟨p, ⟨o, e⟩, st⟩ := x; exact ⟨st _ _ p fun o q => k _ _ (.inl rfl) q, ⟨o, k _ _ (.inl rfl) e⟩, st⟩
theorem HOk.lt (x : HOk P w H h) (e : H a = some o) : a < h.objs.size := (x a o e).lt
theorem HOk.fresh (x : HOk P w H h) (e : h.objs.size ≤ a) : H a = none := by
  cases q : H a with
  | none => rfl
  | some u => exact absurd (Nat.lt_of_lt_of_le (x.lt q) e) (Nat.lt_irrefl _)
/-- every object of the heap is kept -/
theorem HOk.kept (x : HOk P w H h) (k : ∀ b u, h.get? b = some u → h'.get? b = some u) : HOk P w H h' := fun a o e =>
  (x a o e).stay (fun b u _ q => k b u q) (fun _ q => q) fun _ _ q => q
/-- a new object is laid and tracked -/
theorem HOk.laid (x : HOk P w H h) (k : ∀ b u, h.get? b = some u → h'.get? b = some u) (hp : h.objs.size ≤ a) (new : ObjOk P w (upd H a o) h' a o) : HOk P w (upd H a o) h' := fun b u e => by
  have hn := x.fresh hp
  by_cases hb : b = a
  · subst hb; rw [upd_same] at e; cases e; exact new
  · rw [upd_ne hb] at e
    exact (x b u e).stay (fun c v _ q => k c v q) (fun c q => by rw [upd_ne (ne_of_none q hn)]; exact q) fun c xs q => by rw [upd_ne (ne_of_none q hn)]; exact q
end

/-- what may be read as u: it is u, or a known u -/
def Rd (H : Hp) (a : Addr) (u : HO) : Prop := H a = some u ∨ ∃ o, H a = some (.frz o u)
theorem Rd.ok {P : Program} {w : World} {H : Hp} {h : Heap} {a : Addr} {u : HO} (r : Rd H a u) (x : HOk P w H h) : ObjOk P w H h a u := by
  rcases r with r | ⟨o, r⟩
  · exact x a u r
  · obtain ⟨_, q⟩ := x a _ r
    exact q
/-- what may be written -/
def Mut : Option HO → Prop
  | some (.lst _) => True
  | some (.dK _) => True
  | some (.dT _) => True
  | some (.set _ _) => True
  | some (.ins _ _ _) => True
  | some (.ext _) => True
  | _ => False
section
variable {P : Program} {w : World} {H : Hp} {h h' : Heap} {x e : Addr} {o' : HO}
/-- the object at e is changed: x itself, or the dict of the instance x -/
theorem HOk.write (ok : HOk P w H h) (mu : Mut (H x)) (he : e = x ∨ H e = some (.own x)) (k : ∀ b u, b ≠ e → h.get? b = some u → h'.get? b = some u) (heo : ∃ u, h'.get? e = some u)
    (new : ObjOk P w (upd H x o') h' x o') : HOk P w (upd H x o') h' := fun b u q => by
  have nown : ∀ c y, H c = some (.own y) → c ≠ x := fun c y r z => by subst z; rw [r] at mu; exact mu
  have ntup : ∀ c xs, H c = some (.tup xs) → c ≠ x := fun c xs r z => by subst z; rw [r] at mu; exact mu
  by_cases hb : b = x
  · subst hb; rw [upd_same] at q; cases q; exact new
  · rw [upd_ne hb] at q
    by_cases hbe : b = e
    · have q' : H b = some (.own x) := by
        rcases he with z | z
        · exact absurd (hbe.trans z) hb
        · rw [hbe]; exact z
      rw [q] at q'; cases q'
      obtain ⟨v, hv⟩ := heo
      exact ⟨v, by rw [hbe]; exact hv⟩
    · refine (ok b u q).stay (fun c v hc r => k c v ?_ r) (fun c r => by rw [upd_ne (nown c b r)]; exact r) fun c xs r => by rw [upd_ne (ntup c xs r)]; exact r
      rcases hc with rfl | hc
      · exact hbe
      · rintro rfl
        rcases he with z | z
        · exact nown c b hc z
        · rw [hc] at z; cases z; exact hb rfl
end

/-! ### kept unless tracked; of the frames at fs (the callers') the slots may change (an exception that passes writes there); of the records at ex (iterators) nothing is said -/
structure Un (fs ex : List Addr) (H H' : Hp) (h h' : Heap) : Prop where
  keep : ∀ b o, h.get? b = some o → H b = none → b ∉ fs → b ∉ ex → h'.get? b = some o
  slot : ∀ b o, h.get? b = some o → H b = none → b ∈ fs → b ∉ ex → ∃ sl, h'.get? b = some { o with slots := sl }
  free : ∀ b o, h.get? b = some o → H b = none → b ∉ ex → H' b = none
  there : ∀ b o, h.get? b = some o → b ∉ ex → ∃ o', h'.get? b = some o'
  tups : ∀ b xs, H b = some (.tup xs) → H' b = some (.tup xs)
  frzs : ∀ b o u, H b = some (.frz o u) → H' b = some (.frz o u)
  tbls : ∀ b ps, H b = some (.tbl ps) → ∃ more, H' b = some (.tbl (ps ++ more))
section
variable {fs fs' ex ex' : List Addr} {H H1 H2 : Hp} {h h1 h2 h' : Heap} {a x e : Addr} {o : HO}
theorem Un.any (u : Un fs ex H H1 h h1) {b : Addr} {ob : Obj} (q : h.get? b = some ob) (n : H b = none) (hx : b ∉ ex) : ∃ sl, h1.get? b = some { ob with slots := sl } := by
  by_cases hb : b ∈ fs
  · exact u.slot b ob q n hb hx
  · exact ⟨ob.slots, u.keep b ob q n hb hx⟩
theorem Un.kept (k : ∀ b u, h.get? b = some u → h'.get? b = some u) : Un fs ex H H h h' :=
  ⟨fun b ob q _ _ _ => k b ob q, fun b ob q _ _ _ => ⟨ob.slots, k b ob q⟩, fun _ _ _ n _ => n, fun b ob q _ => ⟨ob, k b ob q⟩, fun _ _ q => q, fun _ _ _ q => q, fun _ ps q => ⟨#[], by rw [q]; simp⟩⟩
theorem Un.refl : Un fs ex H H h h := Un.kept fun _ _ q => q
theorem Un.laid (k : ∀ b u, h.get? b = some u → h'.get? b = some u) (hp : h.objs.size ≤ a) (hn : H a = none) : Un fs ex H (upd H a o) h h' where
  keep := fun b u q _ _ _ => k b u q
  slot := fun b u q _ _ _ => ⟨u.slots, k b u q⟩
  free := fun b u q n _ => by rw [upd_ne (Nat.ne_of_lt (Nat.lt_of_lt_of_le (Heap.lt_size q) hp))]; exact n
  there := fun b u q _ => ⟨u, k b u q⟩
  tups := fun b xs q => by rw [upd_ne (ne_of_none q hn)]; exact q
  frzs := fun b u xs q => by rw [upd_ne (ne_of_none q hn)]; exact q
  tbls := fun b ps q => ⟨#[], by rw [upd_ne (ne_of_none q hn), q]; simp⟩
theorem Un.write (mu : Mut (H x)) (he : e = x ∨ H e = some (.own x)) (k : ∀ b u, b ≠ e → h.get? b = some u → h'.get? b = some u) (heo : ∃ u, h'.get? e = some u) : Un fs ex H (upd H x o) h h' := by
  have hx : ∀ b, H b = none → b ≠ x := fun b n z => by subst z; rw [n] at mu; exact mu
  have hb : ∀ b, H b = none → b ≠ e := fun b n z => by
    subst z
    rcases he with r | r
    · exact hx b n r
    · rw [n] at r; cases r
  have hm : ∀ b u, H b = some u → ¬ Mut (some u) → b ≠ x := fun b u q nm z => by subst z; rw [q] at mu; exact nm mu
  refine ⟨fun b u q n _ _ => k b u (hb b n) q, fun b u q n _ _ => ⟨u.slots, k b u (hb b n) q⟩, fun b u q n _ => by rw [upd_ne (hx b n)]; exact n, fun b u q _ => ?_,
    fun b xs q => by rw [upd_ne (hm b _ q fun z => z)]; exact q, fun b u xs q => by rw [upd_ne (hm b _ q fun z => z)]; exact q, fun b ps q => ⟨#[], by rw [upd_ne (hm b _ q fun z => z), q]; simp⟩⟩
  by_cases hbe : b = e
  · subst hbe; exact heo
  · exact ⟨u, k b u hbe q⟩
end

/-! ### the heap without what is tracked -/
def trk (h : Heap) (H : Hp) : List Addr := (List.range h.objs.size).filter fun a => (H a).isSome
def hidT (h : Heap) (H : Hp) : Heap := PySem.W.hideAll h (trk h H)
theorem hidT_size (h : Heap) (H : Hp) : (hidT h H).objs.size = h.objs.size := PySem.W.hideAll_size _ _
theorem hidT_get {h : Heap} {H : Hp} {b : Addr} {o : Obj} (e : h.get? b = some o) (n : H b = none) : (hidT h H).get? b = some o :=
  PySem.W.hideAll_get _ e fun hm => by
    have q : (H b).isSome = true := (List.mem_filter.mp hm).2
    rw [n] at q; simp at q
theorem of_hidT {h : Heap} {H : Hp} {b : Addr} {o : Obj} (e : (hidT h H).get? b = some o) : h.get? b = some o ∧ H b = none := by
  have e' : h.get? b = some o := PySem.W.of_hideAll (trk h H) e
  refine ⟨e', ?_⟩
  cases q : H b with
  | none => rfl
  | some x =>
    have hm : b ∈ trk h H := List.mem_filter.mpr ⟨List.mem_range.mpr (Heap.lt_size e'), by simp [q]⟩
    have z : (hidT h H).get? b = none := PySem.W.hideAll_none (trk h H) hm
    rw [z] at e; cases e

/-! ### OpenK's ledger, filled with every new object but one -/
def allNews (g h : Heap) (L : Addr) : List (Addr × Obj) := (List.range h.objs.size).filterMap fun a => if a = L ∨ (g.get? a).isSome = true then none else (h.get? a).map fun o => (a, o)
def rest (g h : Heap) (L d : Addr) : List (Addr × Obj) := (allNews g h L).filter fun p => decide (p.1 ≠ d)
end L2

namespace L2
open PySem PySem.Spec PyProof.Rows

/-- the module's facts, over the base: the heap at the law's entry without what is tracked there -/
structure Mod (K : PySem.W.Frag) (mg : Str → Option Value) (base : Heap) : Prop where
  kin : K.In base
  glob : base.Ns mainGlobals mg
  blt : ∃ mb, base.Ns builtinsNs mb ∧ ∀ x : Str, x ≠ "__name__" → mb x = bootBuiltins x
  nolimit : base.NoLimit

/-- the context: a def's body (or a comprehension's block) running. base: fixed through the whole law; s₀, H₀: the entry; outer: the frames whose slots others may change (a def's callers); stack: all frames that run;
   ex: iterators that were made ahead of the entry and are walked here (a comprehension's); fn: the names whose cells were made at the entry (a def: all; a comprehension's block: its own); calm: not within an except suite; pn: pins that every state bears; xe: what is wanted of an exception that leaves the code -/
structure Cx where
  prog : Program
  w : World
  K : PySem.W.Frag
  mg : Str → Option Value
  base : Heap
  A : Around
  N : List Str
  s₀ : Shared
  H₀ : Hp
  env : Env
  outer : List Env
  stack : List Env
  ex : List Addr
  fn : Str → Bool
  calm : Bool
  pn : List (Addr × Obj)
  xe : Value → Shared → Prop
/-- the callers' frames -/
def frs (l : List Env) : List Addr := l.filterMap (·.frame)
abbrev Cx.fs (X : Cx) : List Addr := frs X.outer

def Vis (sc : Scope) (x : Str) : Prop := sc.names.lookup x = some .local ∨ sc.names.lookup x = some .cell ∨ sc.names.lookup x = some .free
def Loc (sc : Scope) (x : Str) : Prop := sc.names.lookup x = some .local ∨ sc.names.lookup x = some .cell
def Look (env : Env) (h : Heap) (m : Str → Option Value) (x : Str) (u : Value) : Prop :=
  (env.kindOf x = some .local ∧ m x = some u) ∨ ((env.kindOf x = some .cell ∨ env.kindOf x = some .free) ∧ ∃ c, env.cells.lookup x = some c ∧ h.IsCell c (some u))

structure Cx.Ok (X : Cx) : Prop where
  mod : Mod X.K X.mg X.base
  kind : X.env.scope.kind = .function
  glob : X.env.globals = mainGlobals
  blt : X.env.builtins = builtinsNs
  above : X.s₀.heap.objs.size ≤ X.env.locals
  inj : ∀ x y c, X.env.cells.lookup x = some c → X.env.cells.lookup y = some c → x = y
  has : ∀ x, (X.env.kindOf x = some .cell ∨ X.env.kindOf x = some .free) → ∃ c, X.env.cells.lookup x = some c
  cab : ∀ x c, X.fn x = true → X.env.cells.lookup x = some c → X.s₀.heap.objs.size ≤ c
  hd : X.calm = true → X.A.handled = none
  frames : X.A.frames = some X.stack
  stk : X.stack = X.outer ∨ (X.stack = X.env :: X.outer ∧ X.env.frame = some X.env.locals)
  exf : ∀ b ∈ X.ex, b ≠ X.env.locals ∧ ∀ x c, X.env.cells.lookup x = some c → c ≠ b
  bs : ∀ b o, X.base.get? b = some o → X.s₀.heap.get? b = some o ∧ X.H₀ b = none
  bsz : X.base.objs.size ≤ X.s₀.heap.objs.size
  noex : ∀ b o, X.base.get? b = some o → b ∉ X.ex
  exfs : ∀ b ∈ X.ex, b ∉ X.fs
  funs : X.s₀.heap.FunFrames X.base X.outer
  frf : ∀ b ∈ X.fs, X.H₀ b = none

structure Inv (X : Cx) (pins : List (Addr × Obj)) (σ : List (Option V)) (H : Hp) (s : Shared) : Prop where
  ok : X.Ok
  os : s.os = X.s₀.os
  bare : AllBare s.gens
  base : Un X.fs X.ex X.H₀ H X.s₀.heap s.heap
  loc : ∃ m, s.heap.Ns X.env.locals m ∧ ∀ (i : Nat) (x : Str) (v : V), X.N[i]? = some x → σ[i]? = some (some v) → Vis X.env.scope x → ∃ u, RelV v u ∧ Look X.env s.heap m x u
  cell : ∀ x c, X.env.cells.lookup x = some c → ∃ v, s.heap.IsCell c v
  free : H X.env.locals = none
  freeC : ∀ x c, X.env.cells.lookup x = some c → H c = none
  pin : ∀ p ∈ X.pn ++ pins, s.heap.get? p.1 = some p.2 ∧ H p.1 = none ∧ p.1 ≠ X.env.locals ∧ p.1 ∉ X.fs ∧ ∀ v, p.2.data ≠ .cell v
  hok : HOk X.prog X.w H s.heap
  len : σ.length = X.N.length

section
variable {X : Cx} {pins : List (Addr × Obj)} {σ : List (Option V)} {H H' : Hp} {s : Shared} {h' : Heap}

theorem Cx.Ok.nofr (ok : X.Ok) {b : Addr} {o : Obj} (e : X.base.get? b = some o) : b ∉ X.fs := fun hb => by
  have := (ok.funs.mem hb).1
  rw [e] at this; cases this
theorem Inv.bs (I : Inv X pins σ H s) : ∀ b o, X.base.get? b = some o → s.heap.get? b = some o ∧ H b = none := fun b o e =>
  ⟨I.base.keep b o (I.ok.bs b o e).1 (I.ok.bs b o e).2 (I.ok.nofr e) (I.ok.noex b o e), I.base.free b o (I.ok.bs b o e).1 (I.ok.bs b o e).2 (I.ok.noex b o e)⟩
theorem Inv.bk (I : Inv X pins σ H s) : ∀ b o, X.base.get? b = some o → s.heap.get? b = some o := fun b o e => (I.bs b o e).1
theorem Inv.mod (I : Inv X pins σ H s) : Mod X.K X.mg X.base := I.ok.mod
theorem Inv.kIn (I : Inv X pins σ H s) : X.K.In s.heap := I.ok.mod.kin.keeps I.bk
/-- the frame over the base: for OpenK's rules (K.In X.base is I.mod.kin) -/
theorem Inv.fr (I : Inv X pins σ H s) : ∃ m, Fr X.base X.env.locals s.heap m :=
  let ⟨m, hn, _⟩ := I.loc
  ⟨m, hn, I.bk, Nat.le_trans I.ok.bsz I.ok.above⟩
theorem Inv.lt (I : Inv X pins σ H s) : X.env.locals < s.heap.objs.size := let ⟨_, hn, _⟩ := I.loc; hn.lt
theorem Inv.sz (I : Inv X pins σ H s) : X.s₀.heap.objs.size ≤ s.heap.objs.size := Nat.le_trans I.ok.above (Nat.le_of_lt I.lt)
theorem Inv.nofs (I : Inv X pins σ H s) {a : Addr} (h : s.heap.objs.size ≤ a) : a ∉ X.fs := fun hb => by
  obtain ⟨_, o, ho, _⟩ := I.ok.funs.mem hb
  exact absurd (Nat.lt_of_lt_of_le (Heap.lt_size ho) (Nat.le_trans I.sz h)) (Nat.lt_irrefl _)
theorem Inv.cne (I : Inv X pins σ H s) : ∀ x c, X.env.cells.lookup x = some c → c ≠ X.env.locals := fun x c e z => by
  obtain ⟨v, o, ho, hd⟩ := I.cell x c e
  obtain ⟨m, ⟨o', es, ep, ho', hd', _⟩, _⟩ := I.loc
  rw [z, ho'] at ho; cases ho; rw [hd'] at hd; cases hd
theorem Inv.funs (I : Inv X pins σ H s) : s.heap.FunFrames X.base X.outer := by
  have all : ∀ (l : List Env), (∀ b ∈ frs l, b ∈ X.fs) → X.s₀.heap.FunFrames X.base l → s.heap.FunFrames X.base l := by
    intro l
    induction l with
    | nil => intro _ _; trivial
    | cons env r ih =>
      intro hs hl
      obtain ⟨hk, ⟨L, o, hf, hn, ho, hd⟩, hr⟩ := hl
      have hL : L ∈ X.fs := hs L (by unfold frs; rw [List.filterMap_cons, hf]; exact List.mem_cons_self)
      obtain ⟨sl, e⟩ := I.base.slot L o ho (I.ok.frf L hL) hL fun z => I.ok.exfs L z hL
      exact ⟨hk, ⟨L, _, hf, hn, e, hd⟩, ih (fun b hb => hs b (by unfold frs; rw [List.filterMap_cons, hf]; exact List.mem_cons_of_mem _ hb)) hr⟩
  exact all X.outer (fun _ hb => hb) I.ok.funs

/-- the frames that run, for a call -/
theorem Inv.stack (I : Inv X pins σ H s) : s.heap.FunFrames X.base X.stack := by
  rcases I.ok.stk with e | ⟨e, hf⟩
  · rw [e]; exact I.funs
  · rw [e]
    obtain ⟨m, hn, _⟩ := I.loc
    refine .cons (by rw [I.ok.kind]; decide) hf hn ?_ I.funs
    exact Heap.get?_none_of_le (Nat.le_trans I.ok.bsz I.ok.above)
theorem Inv.stkSub (I : Inv X pins σ H s) : ∀ b ∈ frs X.stack, b ∈ X.env.locals :: X.fs := fun b hb => by
  rcases I.ok.stk with e | ⟨e, hf⟩
  · rw [e] at hb; exact List.mem_cons_of_mem _ hb
  · rw [e] at hb
    unfold frs at hb
    rw [List.filterMap_cons, hf] at hb
    exact hb
theorem Inv.stkFree (I : Inv X pins σ H s) : ∀ b ∈ frs X.stack, H b = none := fun b hb => by
  rcases List.mem_cons.mp (I.stkSub b hb) with e | hb
  · rw [e]; exact I.free
  · obtain ⟨_, o, ho, _⟩ := I.ok.funs.mem hb
    exact I.base.free b o ho (I.ok.frf b hb) fun z => I.ok.exfs b z hb

/-- THE STEP: the untracked objects but the frame and the records at ch are kept (the callers' frames up to slots), the frame's map is kept, the new abstract heap is held -/
theorem Inv.step {g' : Array GenState} {t' : Nat} {d' : Drawn} {ch : List Addr} (I : Inv X pins σ H s)
    (hch : ∀ b ∈ ch, (b ∈ X.ex ∨ X.s₀.heap.objs.size ≤ b) ∧ b ≠ X.env.locals ∧ (∀ x c, X.env.cells.lookup x = some c → c ≠ b) ∧ ∀ p ∈ X.pn ++ pins, p.1 ≠ b)
    (keep : ∀ b o, b ≠ X.env.locals → b ∉ X.fs → b ∉ ch → s.heap.get? b = some o → H b = none → h'.get? b = some o)
    (slot : ∀ b o, b ≠ X.env.locals → b ∈ X.fs → b ∉ ch → s.heap.get? b = some o → H b = none → ∃ sl, h'.get? b = some { o with slots := sl }) (free : ∀ b o, b ∉ ch → s.heap.get? b = some o → H b = none → H' b = none)
    (there : ∀ b o, b ∉ ch → s.heap.get? b = some o → ∃ o', h'.get? b = some o')
    (tups : ∀ b xs, H b = some (.tup xs) → H' b = some (.tup xs)) (frzs : ∀ b o u, H b = some (.frz o u) → H' b = some (.frz o u)) (tbls : ∀ b ps, H b = some (.tbl ps) → ∃ more, H' b = some (.tbl (ps ++ more)))
    (ns : ∀ m, s.heap.Ns X.env.locals m → h'.Ns X.env.locals m) (hok : HOk X.prog X.w H' h') (hg : AllBare g') :
    Inv X pins σ H' { s with heap := h', gens := g', drawn := d', toks := t' } := by
  have neL : ∀ b o, X.s₀.heap.get? b = some o → b ≠ X.env.locals := fun b o e => Nat.ne_of_lt (Nat.lt_of_lt_of_le (Heap.lt_size e) I.ok.above)
  have neC : ∀ b o, X.s₀.heap.get? b = some o → b ∉ X.ex → b ∉ ch := fun b o e hx hb => by
    rcases (hch b hb).1 with z | z
    · exact hx z
    · exact absurd (Nat.lt_of_lt_of_le (Heap.lt_size e) z) (Nat.lt_irrefl _)
  have cellK : ∀ x c, X.env.cells.lookup x = some c → ∀ v, s.heap.IsCell c v → h'.IsCell c v := fun x c e v ⟨o, ho, hd⟩ => by
    have nch : c ∉ ch := fun z => (hch c z).2.2.1 x c e rfl
    by_cases hc : c ∈ X.fs
    · obtain ⟨sl, q⟩ := slot c o (I.cne x c e) hc nch ho (I.freeC x c e)
      exact ⟨_, q, hd⟩
    · exact ⟨o, keep c o (I.cne x c e) hc nch ho (I.freeC x c e), hd⟩
  refine ⟨I.ok, I.os, hg, ⟨fun b o e n hb hx => ?_, fun b o e n hb hx => ?_, fun b o e n hx => ?_, fun b o e hx => ?_, fun b xs e => tups b xs (I.base.tups b xs e), fun b o xs e => frzs b o xs (I.base.frzs b o xs e), fun b ps e => ?_⟩, ?_, fun x c e => ?_, ?_, fun x c e => ?_, fun p hp => ?_, hok, I.len⟩
  · exact keep b o (neL b o e) hb (neC b o e hx) (I.base.keep b o e n hb hx) (I.base.free b o e n hx)
  · obtain ⟨sl, e1⟩ := I.base.slot b o e n hb hx
    obtain ⟨sl', e2⟩ := slot b _ (neL b o e) hb (neC b o e hx) e1 (I.base.free b o e n hx)
    exact ⟨sl', e2⟩
  · obtain ⟨o', e1⟩ := I.base.there b o e hx
    exact free b o' (neC b o e hx) e1 (I.base.free b o e n hx)
  · obtain ⟨o', e1⟩ := I.base.there b o e hx
    exact there b o' (neC b o e hx) e1
  · obtain ⟨m1, e1⟩ := I.base.tbls b ps e
    obtain ⟨m2, e2⟩ := tbls b _ e1
    exact ⟨m1 ++ m2, by rw [e2, Array.append_assoc]⟩
  · obtain ⟨m, hn, hl⟩ := I.loc
    refine ⟨m, ns m hn, fun i x v e1 e2 e3 => ?_⟩
    obtain ⟨u, r, l⟩ := hl i x v e1 e2 e3
    refine ⟨u, r, ?_⟩
    rcases l with l | ⟨k, c, e, z⟩
    · exact .inl l
    · exact .inr ⟨k, c, e, cellK x c e _ z⟩
  · obtain ⟨v, z⟩ := I.cell x c e
    exact ⟨v, cellK x c e v z⟩
  · obtain ⟨m, ⟨o, _, _, ho, _⟩, _⟩ := I.loc
    exact free _ o (fun z => (hch _ z).2.1 rfl) ho I.free
  · obtain ⟨v, o, ho, hd⟩ := I.cell x c e
    exact free c o (fun z => (hch c z).2.2.1 x c e rfl) ho (I.freeC x c e)
  · obtain ⟨e, n, ne, nf, d⟩ := I.pin p hp
    have nch : p.1 ∉ ch := fun z => (hch p.1 z).2.2.2 p hp rfl
    exact ⟨keep p.1 p.2 ne nf nch e n, free p.1 p.2 nch e n, ne, nf, d⟩
/-- .. where the frame's own object is kept too -/
theorem Inv.un {t' : Nat} (I : Inv X pins σ H s) (u : Un X.fs [] H H' s.heap h') (hok : HOk X.prog X.w H' h') : Inv X pins σ H' { s with heap := h', toks := t' } := by
  obtain ⟨m, ⟨o, es, ep, ho, r⟩, _⟩ := id I.loc
  obtain ⟨sl, hL⟩ := u.any ho I.free (by simp)
  exact I.step (g' := s.gens) (d' := s.drawn) (ch := []) (fun _ z => nomatch z) (fun b o _ hb _ e n => u.keep b o e n hb (by simp)) (fun b o _ hb _ e n => u.slot b o e n hb (by simp)) (fun b o _ e n => u.free b o e n (by simp)) (fun b o _ e => u.there b o e (by simp)) u.tups u.frzs u.tbls (fun m' hm => by
    obtain ⟨o', es', ep', ho', r'⟩ := hm
    rw [ho] at ho'; cases ho'
    exact ⟨_, es', ep', hL, r'⟩) hok I.bare
/-- behind a call (or a comprehension's block): the slots of this frame may have changed too, the records at ch may have turned -/
theorem Inv.call {g' : Array GenState} {t' : Nat} {d' : Drawn} {ch : List Addr} (I : Inv X pins σ H s) (u : Un (frs X.stack) ch H H' s.heap h') (hok : HOk X.prog X.w H' h') (hg : AllBare g')
    (hch : ∀ b ∈ ch, (b ∈ X.ex ∨ X.s₀.heap.objs.size ≤ b) ∧ b ≠ X.env.locals ∧ (∀ x c, X.env.cells.lookup x = some c → c ≠ b) ∧ ∀ p ∈ X.pn ++ pins, p.1 ≠ b) :
    Inv X pins σ H' { s with heap := h', gens := g', drawn := d', toks := t' } := by
  obtain ⟨m, ⟨o, es, ep, ho, r⟩, _⟩ := id I.loc
  obtain ⟨sl, hL⟩ := u.any ho I.free fun z => (hch _ z).2.1 rfl
  exact I.step (ch := ch) hch (fun b o hL hb hc e n => u.keep b o e n (fun z => (List.mem_cons.mp (I.stkSub b z)).elim hL hb) hc) (fun b o _ _ hc e n => u.any e n hc) (fun b o hc e n => u.free b o e n hc) (fun b o hc e => u.there b o e hc) u.tups u.frzs u.tbls (fun m' hm => by
    obtain ⟨o', es', ep', ho', r'⟩ := hm
    rw [ho] at ho'; cases ho'
    exact ⟨_, es', ep', hL, r'⟩) hok hg
/-- an untracked record of ours (an iterator) has turned -/
theorem Inv.turned {t' : Nat} {it : Addr} (I : Inv X pins σ H s) (k : ∀ b o, b ≠ it → s.heap.get? b = some o → h'.get? b = some o) (hn : H it = none) (hL : it ≠ X.env.locals)
    (h1 : it ∈ X.ex ∨ X.s₀.heap.objs.size ≤ it) (h2 : ∀ x c, X.env.cells.lookup x = some c → c ≠ it) (h3 : ∀ p ∈ X.pn ++ pins, p.1 ≠ it) : Inv X pins σ H { s with heap := h', toks := t' } := by
  have nit : ∀ b u, H b = some u → b ≠ it := fun b u e z => by rw [z, hn] at e; cases e
  refine I.step (g' := s.gens) (d' := s.drawn) (ch := [it]) (fun b hb => ?_) (fun b o _ _ hc e _ => k b o (fun z => hc (by simp [z])) e) (fun b o _ _ hc e _ => ⟨o.slots, k b o (fun z => hc (by simp [z])) e⟩) (fun _ _ _ _ n => n)
    (fun b o hc e => ⟨o, k b o (fun z => hc (by simp [z])) e⟩) (fun _ _ e => e) (fun _ _ _ e => e) (fun b ps e => ⟨#[], by rw [e]; simp⟩) (fun m hm => ?_) (fun b u e => ?_) I.bare
  · have e : b = it := by simpa using hb
    subst e
    exact ⟨h1, hL, h2, h3⟩
  · obtain ⟨o, es, ep, ho, r⟩ := hm
    exact ⟨o, es, ep, k _ o (Ne.symm hL) ho, r⟩
  · refine (I.hok b u e).stay (fun c v hc q => k c v ?_ q) (fun _ q => q) fun _ _ q => q
    rcases hc with z | z
    · rw [z]; exact nit b u e
    · exact nit c _ z
theorem Inv.tok (I : Inv X pins σ H s) (t : Nat) : Inv X pins σ H { s with toks := t } := I.un (h' := s.heap) (t' := t) Un.refl I.hok
/-- all objects kept -/
theorem Inv.kept {t' : Nat} (I : Inv X pins σ H s) (k : ∀ b u, s.heap.get? b = some u → h'.get? b = some u) : Inv X pins σ H { s with heap := h', toks := t' } := I.un (Un.kept k) (I.hok.kept k)
/-- a new object laid and tracked -/
theorem Inv.laid {a : Addr} {o : HO} {t' : Nat} (I : Inv X pins σ H s) (k : ∀ b u, s.heap.get? b = some u → h'.get? b = some u) (hp : s.heap.objs.size ≤ a) (new : ObjOk X.prog X.w (upd H a o) h' a o) :
    Inv X pins σ (upd H a o) { s with heap := h', toks := t' } := I.un (Un.laid k hp (I.hok.fresh hp)) (I.hok.laid k hp new)
/-- an object written -/
theorem Inv.write {x e : Addr} {o : HO} {t' : Nat} (I : Inv X pins σ H s) (mu : Mut (H x)) (he : e = x ∨ H e = some (.own x)) (k : ∀ b u, b ≠ e → s.heap.get? b = some u → h'.get? b = some u) (heo : ∃ u, h'.get? e = some u)
    (new : ObjOk X.prog X.w (upd H x o) h' x o) : Inv X pins σ (upd H x o) { s with heap := h', toks := t' } := I.un (Un.write mu he k heo) (I.hok.write mu he k heo new)
/-- forgetting slots, pins -/
theorem Inv.weak {σ' : List (Option V)} (I : Inv X pins σ H s) (hl : σ'.length = σ.length) (w : ∀ (i : Nat) v, σ'[i]? = some (some v) → σ[i]? = some (some v)) : Inv X pins σ' H s :=
  ⟨I.ok, I.os, I.bare, I.base, let ⟨m, hn, hl'⟩ := I.loc; ⟨m, hn, fun i x v e1 e2 e3 => hl' i x v e1 (w i v e2) e3⟩, I.cell, I.free, I.freeC, I.pin, I.hok, hl.trans I.len⟩
theorem Inv.pins_of {pins' : List (Addr × Obj)} (I : Inv X pins σ H s) (h : ∀ p ∈ pins', s.heap.get? p.1 = some p.2 ∧ H p.1 = none ∧ p.1 ≠ X.env.locals ∧ p.1 ∉ X.fs ∧ ∀ v, p.2.data ≠ .cell v) : Inv X pins' σ H s :=
  ⟨I.ok, I.os, I.bare, I.base, I.loc, I.cell, I.free, I.freeC, fun p hp => (List.mem_append.mp hp).elim (fun z => I.pin p (List.mem_append_left _ z)) (h p), I.hok, I.len⟩

theorem nodup_ix {N : List Str} (hN : N.Nodup) {i j : Nat} {x : Str} (a : N[i]? = some x) (b : N[j]? = some x) : i = j := by
  obtain ⟨h1, e1⟩ := List.getElem?_eq_some_iff.mp a
  obtain ⟨h2, e2⟩ := List.getElem?_eq_some_iff.mp b
  exact (List.getElem_inj hN).mp (e1.trans e2.symm)

/-- a name is stored; what changed -/
theorem store_ok2 {M : Model} {A : Around} {E : Value → Shared → Prop} {i : Nat} {x : Str} {v : V} {u : Value} {Q : Unit → Shared → Prop} (I : Inv X pins σ H s) (hN : X.N.Nodup) (hi : X.N[i]? = some x) (hx : Loc X.env.scope x) (r : RelV v u)
    (h : ∀ s', Inv X pins (σ.set i (some v)) H s' → (∃ a, Heap.SameBut a s.heap s'.heap ∧ (a = X.env.locals ∨ X.env.cells.lookup x = some a)) → Q () s') (hf : X.fn x = true ∨ X.env.scope.names.lookup x = some .local := by first | exact .inl rfl | exact .inr rfl | assumption) : wpAny M A (storeName X.env x u) Q E s := by
  obtain ⟨m, hn, hl⟩ := id I.loc
  have hcls : (X.env.scope.kind == .class || (X.env.scope.kind == .module && X.env.locals != X.env.globals)) = false := by rw [I.ok.kind]; rfl
  have hiσ : i < σ.length := by rw [I.len]; exact (List.getElem?_eq_some_iff.mp hi).1
  have cne := I.cne
  have tracked : ∀ {a : Addr} {h' : Heap}, (∃ o, s.heap.get? a = some o ∧ H a = none) → Heap.SameBut a s.heap h' → HOk X.prog X.w H h' := fun {a h'} ha hs b ob e => by
    obtain ⟨_, _, hfree⟩ := ha
    refine (I.hok b ob e).stay (fun c w' hc q => (hs.2 c ?_).trans q) (fun _ q => q) fun _ _ q => q
    rintro rfl
    rcases hc with rfl | hc
    · rw [hfree] at e; cases e
    · rw [hfree] at hc; cases hc
  rcases hx with hk | hk
  · refine wpAny_storeName_local hk hn (fun h' hn' hs => ?_) hcls
    obtain ⟨oL, _, _, hoL, _⟩ := id hn
    refine h _ ⟨I.ok, I.os, I.bare, ⟨fun b o e n hb hx => ?_, fun b o e n hb hx => ?_, I.base.free, fun b o e hx => ?_, I.base.tups, I.base.frzs, I.base.tbls⟩, ⟨_, hn', fun j y v' e1 e2 e3 => ?_⟩, fun y c e => ?_, I.free, I.freeC, fun p hp => ?_, tracked ⟨oL, hoL, I.free⟩ hs, by simpa using I.len⟩ ⟨_, hs, .inl rfl⟩
    · exact (hs.2 b (Nat.ne_of_lt (Nat.lt_of_lt_of_le (Heap.lt_size e) I.ok.above))).trans (I.base.keep b o e n hb hx)
    · obtain ⟨sl, e1⟩ := I.base.slot b o e n hb hx
      exact ⟨sl, (hs.2 b (Nat.ne_of_lt (Nat.lt_of_lt_of_le (Heap.lt_size e) I.ok.above))).trans e1⟩
    · obtain ⟨o', e1⟩ := I.base.there b o e hx
      exact ⟨o', (hs.2 b (Nat.ne_of_lt (Nat.lt_of_lt_of_le (Heap.lt_size e) I.ok.above))).trans e1⟩
    · by_cases hj : j = i
      · subst hj
        rw [hi] at e1; cases e1
        rw [List.getElem?_set_self hiσ] at e2
        cases e2
        exact ⟨u, r, .inl ⟨hk, by simp⟩⟩
      · rw [List.getElem?_set_ne (Ne.symm hj)] at e2
        obtain ⟨u', r', q⟩ := hl j y v' e1 e2 e3
        refine ⟨u', r', ?_⟩
        rcases q with ⟨k, e⟩ | ⟨k, c, e, z⟩
        · refine .inl ⟨k, ?_⟩
          have : y ≠ x := fun e => hj (nodup_ix hN e1 (e ▸ hi))
          simp [this, e]
        · exact .inr ⟨k, c, e, z.sameBut hs (cne y c e)⟩
    · obtain ⟨w', z⟩ := I.cell y c e
      exact ⟨w', z.sameBut hs (cne y c e)⟩
    · obtain ⟨e, n, ne, nf, d⟩ := I.pin p hp
      exact ⟨(hs.2 p.1 ne).trans e, n, ne, nf, d⟩
  · have hfn : X.fn x = true := by
      rcases hf with z | z
      · exact z
      · rw [z] at hk; cases hk
    obtain ⟨c, hc⟩ := I.ok.has x (.inl hk)
    obtain ⟨w', z⟩ := I.cell x c hc
    refine wpAny_storeName_cell I.ok.kind hk hc z (fun h' hc' hs => ?_)
    obtain ⟨oc, hoc, hocd⟩ := id z
    refine h { s with heap := h' } ⟨I.ok, I.os, I.bare, ⟨fun b o e n hb hx => ?_, fun b o e n hb hx => ?_, I.base.free, fun b o e hx => ?_, I.base.tups, I.base.frzs, I.base.tbls⟩, ⟨m, hn.sameBut hs (Ne.symm (cne x c hc)), fun j y v' e1 e2 e3 => ?_⟩, fun y c' e => ?_, I.free, I.freeC, fun p hp => ?_, tracked ⟨oc, hoc, I.freeC x c hc⟩ hs, by simpa using I.len⟩ ⟨c, hs, .inr hc⟩
    · exact (hs.2 b (Nat.ne_of_lt (Nat.lt_of_lt_of_le (Heap.lt_size e) (I.ok.cab x c hfn hc)))).trans (I.base.keep b o e n hb hx)
    · obtain ⟨sl, e1⟩ := I.base.slot b o e n hb hx
      exact ⟨sl, (hs.2 b (Nat.ne_of_lt (Nat.lt_of_lt_of_le (Heap.lt_size e) (I.ok.cab x c hfn hc)))).trans e1⟩
    · obtain ⟨o', e1⟩ := I.base.there b o e hx
      exact ⟨o', (hs.2 b (Nat.ne_of_lt (Nat.lt_of_lt_of_le (Heap.lt_size e) (I.ok.cab x c hfn hc)))).trans e1⟩
    · by_cases hj : j = i
      · subst hj
        rw [hi] at e1; cases e1
        rw [List.getElem?_set_self hiσ] at e2
        cases e2
        exact ⟨u, r, .inr ⟨.inl hk, c, hc, hc'⟩⟩
      · rw [List.getElem?_set_ne (Ne.symm hj)] at e2
        obtain ⟨u', r', q⟩ := hl j y v' e1 e2 e3
        refine ⟨u', r', ?_⟩
        rcases q with q | ⟨k, c', e, z'⟩
        · exact .inl q
        · refine .inr ⟨k, c', e, z'.sameBut hs ?_⟩
          rintro rfl
          exact hj (nodup_ix hN e1 (I.ok.inj _ _ _ e hc ▸ hi))
    · by_cases hcc : c' = c
      · subst hcc; exact ⟨_, hc'⟩
      · obtain ⟨w2, z2⟩ := I.cell y c' e
        exact ⟨w2, z2.sameBut hs hcc⟩
    · obtain ⟨e, n, ne, nf, d⟩ := I.pin p hp
      refine ⟨(hs.2 p.1 ?_).trans e, n, ne, nf, d⟩
      intro q
      rw [q, hoc] at e
      have q' : oc = p.2 := Option.some.inj e
      exact d w' (by rw [← q']; exact hocd)
theorem store_ok {M : Model} {A : Around} {E : Value → Shared → Prop} {i : Nat} {x : Str} {v : V} {u : Value} {Q : Unit → Shared → Prop} (I : Inv X pins σ H s) (hN : X.N.Nodup) (hi : X.N[i]? = some x) (hx : Loc X.env.scope x) (r : RelV v u)
    (h : ∀ s', Inv X pins (σ.set i (some v)) H s' → Q () s') (hf : X.fn x = true ∨ X.env.scope.names.lookup x = some .local := by first | exact .inl rfl | exact .inr rfl | assumption) : wpAny M A (storeName X.env x u) Q E s :=
  store_ok2 I hN hi hx r (fun s' I' _ => h s' I') hf
/-- behind a call or a block, the state as it is -/
theorem Inv.call' {s' : Shared} {ch : List Addr} (I : Inv X pins σ H s) (ho : s'.os = s.os) (u : Un (frs X.stack) ch H H' s.heap s'.heap) (hok : HOk X.prog X.w H' s'.heap) (hg : AllBare s'.gens)
    (hch : ∀ b ∈ ch, (b ∈ X.ex ∨ X.s₀.heap.objs.size ≤ b) ∧ b ≠ X.env.locals ∧ (∀ x c, X.env.cells.lookup x = some c → c ≠ b) ∧ ∀ p ∈ X.pn ++ pins, p.1 ≠ b) : Inv X pins σ H' s' := by
  obtain ⟨h', g', d', t', o'⟩ := s'
  have e : o' = s.os := ho
  subst e
  exact I.call (g' := g') (t' := t') (d' := d') u hok hg hch
end

/-! ### the judgements -/
/-- an exception: its class, its own dict's address (where it has one), the abstract heap behind it -/
abbrev XK := Value → Option Addr → Hp → Prop
abbrev St := List (Option V)
abbrev VK := V → Hp → Prop
/-- an expression's reading; a test's; an argument list's -/
abbrev TE := St → Hp → VK → Prop
abbrev TT := St → Hp → (Bool → Hp → Prop) → Prop
abbrev TA := St → Hp → (List V → Hp → Prop) → Prop
/-- what is wanted behind a statement -/
structure Ends where
  nx : St → Hp → Prop
  rt : VK
  bk : St → Hp → Prop := fun _ _ => False
  ct : St → Hp → Prop := fun _ _ => False
abbrev TS := Ends → St → Hp → Prop

def EP (X : Cx) (pins : List (Addr × Obj)) (σ : St) (Q : VK) (u : Value) (s' : Shared) : Prop := ∃ v H', Inv X pins σ H' s' ∧ RelV v u ∧ Q v H'
def TP (X : Cx) (pins : List (Addr × Obj)) (σ : St) (Q : Bool → Hp → Prop) (b : Bool) (s' : Shared) : Prop := ∃ H', Inv X pins σ H' s' ∧ Q b H'
def AP (X : Cx) (pins : List (Addr × Obj)) (σ : St) (Q : List V → Hp → Prop) (us : List Value) (s' : Shared) : Prop := ∃ vs H', Inv X pins σ H' s' ∧ Vals vs us ∧ Q vs H'
def SP (X : Cx) (pins : List (Addr × Obj)) (D : Ends) (f : Flow) (s' : Shared) : Prop :=
  match f with
  | .next => ∃ σ' H', Inv X pins σ' H' s' ∧ D.nx σ' H'
  | .brk => ∃ σ' H', Inv X pins σ' H' s' ∧ D.bk σ' H'
  | .cont => ∃ σ' H', Inv X pins σ' H' s' ∧ D.ct σ' H'
  | .ret u => ∃ v σ' H', Inv X pins σ' H' s' ∧ RelV v u ∧ D.rt v H'

def PE (X : Cx) (e : Expr) (t : TE) : Prop :=
  ∀ (pins : List (Addr × Obj)) (s : Shared) (σ : St) (H : Hp) (Q : VK), Inv X pins σ H s → t σ H Q → wpAny (model X.prog X.w) X.A (eval e X.env) (EP X pins σ Q) X.xe s
def PT (X : Cx) (e : Expr) (t : TT) : Prop :=
  ∀ (pins : List (Addr × Obj)) (s : Shared) (σ : St) (H : Hp) (Q : Bool → Hp → Prop), Inv X pins σ H s → t σ H Q → wpAny (model X.prog X.w) X.A (isTrue e X.env (eval e X.env)) (TP X pins σ Q) X.xe s
/-- a test whatever its 'whole' is (and, or) -/
def PW (X : Cx) (e : Expr) (t : TT) : Prop :=
  ∀ (whole : Sem Value) (pins : List (Addr × Obj)) (s : Shared) (σ : St) (H : Hp) (Q : Bool → Hp → Prop), Inv X pins σ H s → t σ H Q → wpAny (model X.prog X.w) X.A (isTrue e X.env whole) (TP X pins σ Q) X.xe s
theorem PW.pt {X : Cx} {e : Expr} {t : TT} (h : PW X e t) : PT X e t := h _
/-- an argument list (no star), from the left -/
def PA (X : Cx) (es : List Expr) (t : TA) : Prop :=
  ∀ (pos : Pos) (pins : List (Addr × Obj)) (s : Shared) (σ : St) (H : Hp) (Q : List V → Hp → Prop), Inv X pins σ H s → t σ H Q → wpAny (model X.prog X.w) X.A (spliced (backTo pos (starEach es X.env))) (AP X pins σ Q) X.xe s
def PS (X : Cx) (st : Stmt) (t : TS) : Prop :=
  ∀ (pins : List (Addr × Obj)) (s : Shared) (σ : St) (H : Hp) (D : Ends), Inv X pins σ H s → t D σ H → wpAny (model X.prog X.w) X.A (exec st X.env) (SP X pins D) X.xe s
def PSs (X : Cx) (st : List Stmt) (t : TS) : Prop :=
  ∀ (pins : List (Addr × Obj)) (s : Shared) (σ : St) (H : Hp) (D : Ends), Inv X pins σ H s → t D σ H → wpAny (model X.prog X.w) X.A (execs st X.env) (SP X pins D) X.xe s
/-- weaken the end -/
theorem thn {α : Type} {t : Sem α} {Q Q' : α → Shared → Prop} {M : Model} {A : Around} {E : Value → Shared → Prop} {s : Shared} (h : wpAny M A t Q E s) (hQ : ∀ a s, Q a s → Q' a s) : wpAny M A t Q' E s := wpAny_mono h hQ fun _ _ x => x
end L2

namespace L2
open PySem PySem.Spec PyProof.Rows
section
variable {X : Cx}

/-! ### names and constants -/
def tVar (i : Nat) : TE := fun σ H Q => ∃ v, σ[i]? = some (some v) ∧ Q v H
def tC (v : V) : TE := fun _ H Q => Q v H
theorem pe_var {i : Nat} {x : Str} {pos : Pos} (hN : X.N[i]? = some x) (hv : Vis X.env.scope x) (hd : (x == ("__debug__" : Str)) = false := by decide) (hcd : (x == ("__classdict__" : Str)) = false := by decide) : PE X (.Name x pos) (tVar i) := by
  intro pins s σ H Q I h
  obtain ⟨v, e, h⟩ := h
  obtain ⟨m, hn, hl⟩ := I.loc
  obtain ⟨u, r, l⟩ := hl i x v hN e hv
  have fin : EP X pins σ Q u s := ⟨v, H, I, r, h⟩
  rcases l with ⟨hk, hm⟩ | ⟨hk, c, hc, hcell⟩
  · exact wpAny_Name (wpAny_loadName_local I.ok.kind hk hn hm fin) hd
  · rcases hk with hk | hk
    · exact wpAny_Name (wpAny_loadName_cell I.ok.kind hk hc hcell fin) hd
    · exact wpAny_Name (wpAny_loadName_free I.ok.kind hk hc hcell fin hcd) hd
theorem pe_int {i j pos} : PE X (.Constant (.int i) j pos) (tC (.int i)) := fun _ _ _ H _ I h => wpAny_Constant_int ⟨.int i, H, I.tok _, ⟨_, rfl⟩, h⟩
theorem pe_bl {b j pos} : PE X (.Constant (.bool b) j pos) (tC (.bl b)) := fun _ _ _ H _ I h => Constant_bool ⟨.bl b, H, I, rfl, h⟩
theorem pe_non {j pos} : PE X (.Constant .none j pos) (tC .non) := fun _ _ _ H _ I h => Constant_none ⟨.non, H, I, rfl, h⟩
theorem pe_str {x j pos} : PE X (.Constant (.str x) j pos) (tC (.str x)) := fun _ _ _ H _ I h => Calls.Constant_str ⟨.str x, H, I.tok _, ⟨_, rfl⟩, h⟩

/-- a global name of the def -/
def Gl (X : Cx) (x : Str) : Prop := X.env.kindOf x = some .globalImplicit
theorem ld_glob {E : Value → Shared → Prop} {pins : List (Addr × Obj)} {s : Shared} {σ : St} {H : Hp} {x : Str} {u : Value} {pos : Pos} {Q : Value → Shared → Prop} (I : Inv X pins σ H s) (hg : Gl X x) (hm : X.mg x = some u) (h : Q u s)
    (hd : (x == ("__debug__" : Str)) = false := by decide) : wpAny (model X.prog X.w) X.A (eval (.Name x pos) X.env) Q E s :=
  Calls.Name_function_global I.ok.kind hg (Calls.loadGlobal_global (by rw [I.ok.glob]; exact I.mod.glob.keeps I.bk) hm h) hd
theorem ld_blt {E : Value → Shared → Prop} {pins : List (Addr × Obj)} {s : Shared} {σ : St} {H : Hp} {x : Str} {u : Value} {pos : Pos} {Q : Value → Shared → Prop} (I : Inv X pins σ H s) (hg : Gl X x) (hm : X.mg x = none) (hv : bootBuiltins x = some u) (h : Q u s)
    (hn : x ≠ "__name__" := by decide) (hd : (x == ("__debug__" : Str)) = false := by decide) : wpAny (model X.prog X.w) X.A (eval (.Name x pos) X.env) Q E s := by
  obtain ⟨mb, h1, h2⟩ := I.mod.blt
  exact Calls.Name_function_global I.ok.kind hg (Calls.loadGlobal_builtin (by rw [I.ok.glob]; exact I.mod.glob.keeps I.bk) hm (by rw [I.ok.blt]; exact h1.keeps I.bk) ((h2 x hn).trans hv) h) hd
/-- a module's constant, a class, a function, as a value -/
theorem pe_glob {x : Str} {v : V} {u : Value} {pos : Pos} (hg : Gl X x) (hm : X.mg x = some u) (r : RelV v u) (hd : (x == ("__debug__" : Str)) = false := by decide) : PE X (.Name x pos) (tC v) :=
  fun _ _ _ H _ I h => ld_glob I hg hm ⟨v, H, I, r, h⟩ hd
theorem pe_bltn {x : Str} {v : V} {u : Value} {pos : Pos} (hg : Gl X x) (hm : X.mg x = none) (hv : bootBuiltins x = some u) (r : RelV v u) (hn : x ≠ "__name__" := by decide) (hd : (x == ("__debug__" : Str)) = false := by decide) : PE X (.Name x pos) (tC v) :=
  fun _ _ _ H _ I h => ld_blt I hg hm hv ⟨v, H, I, r, h⟩ hn hd

/-! ### arithmetic -/
variable {a b : Expr} {ta tb : TE} {pos : Pos}
/-! ### comparisons -/
/-- a comparison as a value, as a test -/
def tB (t : TE) : TT := fun σ H Q => t σ H fun x H1 => ∃ c, x = .bl c ∧ Q c H1
/-- an expression whose value is a bool, as a test -/
theorem pt_val {e : Expr} {t : TE} (h : PE X e t) (he : ∀ whole, isTrue e X.env whole = (do let v ← whole; standAt e.pos; holding [v] (truthy v)) := by intro _; rfl) : PT X e (tB t) := by
  intro pins s σ H Q I hw
  refine isTrue_plain (thn (h pins s σ H _ I hw) fun v s1 ⟨x, H1, I1, r1, q1⟩ => ?_) (he _)
  obtain ⟨d, rfl, q⟩ := q1
  cases r1
  exact wpAny_truthy_bool ⟨H1, I1, q⟩

/-! ### and, or, not -/
variable {tA tB' : TT} {rest : List Expr}
def tAnd (t u : TT) : TT := fun σ H Q => t σ H fun c H1 => if c = true then u σ H1 Q else Q false H1
def tOr (t u : TT) : TT := fun σ H Q => t σ H fun c H1 => if c = true then Q true H1 else u σ H1 Q
def tNot (t : TT) : TT := fun σ H Q => t σ H fun c H1 => Q (!c) H1
theorem pw_and1 (ha : PT X a tA) : PW X (.BoolOp .And [a] pos) tA := by
  intro wh pins s σ H Q I h
  refine isTrue_and (thn (ha pins s σ H Q I h) fun c s1 e => ?_)
  cases c with
  | true => exact isTrue_and_nil e
  | false => exact e
theorem pw_or1 (ha : PT X a tA) : PW X (.BoolOp .Or [a] pos) tA := by
  intro wh pins s σ H Q I h
  refine isTrue_or (thn (ha pins s σ H Q I h) fun c s1 e => ?_)
  cases c with
  | false => exact isTrue_or_nil e
  | true => exact e
theorem pw_and (ha : PT X a tA) (hb : PW X (.BoolOp .And (b :: rest) pos) tB') : PW X (.BoolOp .And (a :: b :: rest) pos) (tAnd tA tB') := by
  intro wh pins s σ H Q I h
  refine isTrue_and (thn (ha pins s σ H _ I h) fun c s1 ⟨H1, I1, q1⟩ => ?_)
  cases c with
  | true => exact hb wh pins s1 σ H1 Q I1 q1
  | false => exact ⟨H1, I1, q1⟩
theorem pw_or (ha : PT X a tA) (hb : PW X (.BoolOp .Or (b :: rest) pos) tB') : PW X (.BoolOp .Or (a :: b :: rest) pos) (tOr tA tB') := by
  intro wh pins s σ H Q I h
  refine isTrue_or (thn (ha pins s σ H _ I h) fun c s1 ⟨H1, I1, q1⟩ => ?_)
  cases c with
  | true => exact ⟨H1, I1, q1⟩
  | false => exact hb wh pins s1 σ H1 Q I1 q1
theorem pt_not (ha : PT X a tA) : PT X (.UnaryOp .Not a pos) (tNot tA) := by
  intro pins s σ H Q I h
  exact isTrue_not (ha pins s σ H (fun c H1 => Q (!c) H1) I h)
/-- .. as values (bools) -/
def tAndV (ta tb : TE) : TE := fun σ H Q => ta σ H fun x H1 => ∃ c, x = .bl c ∧ if c = true then tb σ H1 Q else Q (.bl false) H1
def tNotV (ta : TE) : TE := fun σ H Q => ta σ H fun x H1 => ∃ c, x = .bl c ∧ Q (.bl (!c)) H1
theorem pe_one {op} {t : TE} (h : PE X a t) : PE X (.BoolOp op [a] pos) t := fun pins s σ H Q I hw => BoolOp_one (h pins s σ H Q I hw)
theorem pe_and (ha : PE X a ta) (hb : PE X (.BoolOp .And (b :: rest) pos) tb) : PE X (.BoolOp .And (a :: b :: rest) pos) (tAndV ta tb) := by
  intro pins s σ H Q I h
  refine BoolOp_and (thn (ha pins s σ H _ I h) fun v s1 ⟨x, H1, I1, r1, q1⟩ => ?_)
  obtain ⟨c, rfl, q1⟩ := q1
  cases r1
  refine wpAny_truthy_bool ?_
  cases c with
  | true => exact hb pins s1 σ H1 Q I1 q1
  | false => exact ⟨.bl false, H1, I1, rfl, q1⟩
theorem pe_not (ha : PE X a ta) : PE X (.UnaryOp .Not a pos) (tNotV ta) := by
  intro pins s σ H Q I h
  refine UnaryOp_ (thn (ha pins s σ H _ I h) fun v s1 ⟨x, H1, I1, r1, q1⟩ => ?_)
  obtain ⟨c, rfl, q1⟩ := q1
  cases r1
  exact not_of (wpAny_truthy_bool ⟨.bl (!c), H1, I1, rfl, q1⟩)
/-- a if t else b -/
def tIf (t : TT) (ta tb : TE) : TE := fun σ H Q => t σ H fun c H1 => if c = true then ta σ H1 Q else tb σ H1 Q
theorem pe_ifExp {c : Expr} (hc : PT X c tA) (ha : PE X a ta) (hb : PE X b tb) : PE X (.IfExp c a b pos) (tIf tA ta tb) := by
  intro pins s σ H Q I h
  refine wpAny_IfExp (thn (hc pins s σ H _ I h) fun d s1 ⟨H1, I1, q1⟩ => ?_)
  cases d with
  | true => exact ha pins s1 σ H1 Q I1 q1
  | false => exact hb pins s1 σ H1 Q I1 q1
end
end L2

namespace L2
open PySem PySem.Spec PyProof.Rows

/-! ### a list, a tuple that is read: tracked, frozen, or an object of the module -/
def SqL (K : PySem.W.Frag) (H : Hp) (a : Addr) (xs : List V) : Prop :=
  Rd H a (.lst xs) ∨
    ∃ (o : Obj) (its : Array Value) (n : Nat), K.lookup a = some o ∧ o.cls = .type "list" ∧ o.dict = none ∧ o.data = .seq its n ∧ its.size ≤ sizeLine ∧ Vals xs its.toList
def SqT (K : PySem.W.Frag) (H : Hp) (a : Addr) (xs : List V) : Prop :=
  Rd H a (.tup xs) ∨
    ∃ (o : Obj) (its : Array Value) (n : Nat), K.lookup a = some o ∧ o.cls = .type "tuple" ∧ o.data = .seq its n ∧ its.size ≤ sizeLine ∧ Vals xs its.toList
def absV : Value → Option V
  | .none => some .non
  | .bool b => some (.bl b)
  | .int i _ => some (.int i)
  | .str x _ => some (.str x)
  | .bytes b _ => some (.byt b)
  | .float b _ => some (.flt b)
  | .ref a => some (.ref a)
  | .type n => some (.ty n)
  | _ => none
theorem RelV.abs {x : V} {u : Value} (r : RelV x u) : absV u = some x := by
  cases x with
  | non => cases r; rfl
  | bl _ => cases r; rfl
  | int _ => obtain ⟨t, rfl⟩ := r; rfl
  | str _ => obtain ⟨t, rfl⟩ := r; rfl
  | byt _ => obtain ⟨t, rfl⟩ := r; rfl
  | flt _ => obtain ⟨t, rfl⟩ := r; rfl
  | ref _ => cases r; rfl
  | ty _ => cases r; rfl
theorem RelV.inj {x y : V} {u : Value} (r : RelV x u) (q : RelV y u) : x = y := Option.some.inj (r.abs.symm.trans q.abs)
theorem Vals.inj : ∀ {xs ys : List V} {us : List Value}, Vals xs us → Vals ys us → xs = ys
  | _, _, _, .nil, .nil => rfl
  | _, _, _, .cons r t, .cons r' t' => by rw [r.inj r', Vals.inj t t']
section
variable {X : Cx} {pins : List (Addr × Obj)} {σ : St} {H : Hp} {s : Shared} {a : Addr} {xs ys : List V}
theorem SqL.of {K : PySem.W.Frag} (h : H a = some (.lst xs)) : SqL K H a xs := .inl (.inl h)
theorem SqT.of {K : PySem.W.Frag} (h : H a = some (.tup xs)) : SqT K H a xs := .inl (.inl h)
theorem Inv.list (I : Inv X pins σ H s) (h : SqL X.K H a xs) : ∃ its : List Value, Vals xs its ∧ PlainL s.heap a its.toArray ∧ xs.length ≤ sizeLine := by
  rcases h with h | ⟨o, its, n, hk, hc, hd, hs, hz, r⟩
  · obtain ⟨z, its, n, r, e⟩ := h.ok I.hok
    exact ⟨its, r, ⟨_, n, e, rfl, rfl, rfl⟩, z⟩
  · refine ⟨its.toList, r, ⟨o, n, I.kIn a o hk, hc, hd, by simpa using hs⟩, ?_⟩
    have e := r.length
    simp only [Array.length_toList] at e
    omega
theorem Inv.tuple (I : Inv X pins σ H s) (h : SqT X.K H a xs) : ∃ its : List Value, Vals xs its ∧ IsTup s.heap a its.toArray ∧ xs.length ≤ sizeLine := by
  rcases h with h | ⟨o, its, n, hk, hc, hs, hz, r⟩
  · obtain ⟨z, its, r, p⟩ := h.ok I.hok
    exact ⟨its, r, p, z⟩
  · refine ⟨its.toList, r, ⟨o, I.kIn a o hk, hc, n, by simpa using hs⟩, ?_⟩
    have e := r.length
    simp only [Array.length_toList] at e
    omega
theorem Inv.list_inj (I : Inv X pins σ H s) (h : SqL X.K H a xs) (h' : SqL X.K H a ys) : xs = ys := by
  obtain ⟨its, r, ⟨o, n, e, _, _, d⟩, _⟩ := I.list h
  obtain ⟨its', r', ⟨o', n', e', _, _, d'⟩, _⟩ := I.list h'
  rw [e] at e'; cases e'
  rw [d] at d'
  injection d' with d1 _
  have : its = its' := by simpa using congrArg Array.toList d1
  subst this
  exact r.inj r'
end

/-! ### another wish about exceptions -/
abbrev Cx.wish (X : Cx) (E : Value → Shared → Prop) : Cx := { X with xe := E }
/-- no exception leaves -/
abbrev Cx.nox (X : Cx) : Cx := X.wish fun _ _ => False
theorem Cx.Ok.wish {X : Cx} (ok : X.Ok) (E : Value → Shared → Prop) : (X.wish E).Ok :=
  ⟨ok.mod, ok.kind, ok.glob, ok.blt, ok.above, ok.inj, ok.has, ok.cab, ok.hd, ok.frames, ok.stk, ok.exf, ok.bs, ok.bsz, ok.noex, ok.exfs, ok.funs, ok.frf⟩
theorem Cx.Ok.unwish {X : Cx} {E : Value → Shared → Prop} (ok : (X.wish E).Ok) : X.Ok :=
  ⟨ok.mod, ok.kind, ok.glob, ok.blt, ok.above, ok.inj, ok.has, ok.cab, ok.hd, ok.frames, ok.stk, ok.exf, ok.bs, ok.bsz, ok.noex, ok.exfs, ok.funs, ok.frf⟩
section
variable {X : Cx} {pins : List (Addr × Obj)} {σ : St} {H : Hp} {s : Shared} {E : Value → Shared → Prop}
theorem Inv.wish (I : Inv X pins σ H s) (E : Value → Shared → Prop) : Inv (X.wish E) pins σ H s := ⟨I.ok.wish E, I.os, I.bare, I.base, I.loc, I.cell, I.free, I.freeC, I.pin, I.hok, I.len⟩
theorem Inv.unwish (I : Inv (X.wish E) pins σ H s) : Inv X pins σ H s := ⟨I.ok.unwish, I.os, I.bare, I.base, I.loc, I.cell, I.free, I.freeC, I.pin, I.hok, I.len⟩
theorem SP.unwish {D : Ends} {f : Flow} {s' : Shared} (h : SP (X.wish E) pins D f s') : SP X pins D f s' := by
  cases f with
  | next => obtain ⟨σ', H', I, q⟩ := h; exact ⟨σ', H', I.unwish, q⟩
  | brk => obtain ⟨σ', H', I, q⟩ := h; exact ⟨σ', H', I.unwish, q⟩
  | cont => obtain ⟨σ', H', I, q⟩ := h; exact ⟨σ', H', I.unwish, q⟩
  | ret u => obtain ⟨v, σ', H', I, r, q⟩ := h; exact ⟨v, σ', H', I.unwish, r, q⟩
theorem PSs.nox {st : List Stmt} {t : TS} (h : PSs X.nox st t) : PSs X st t := fun pins s σ H D I hw =>
  wpAny_mono (h pins s σ H D (I.wish _) hw) (fun _ _ q => q.unwish) fun _ _ z => False.elim z
end

/-! ### blocks and small statements -/
section
variable {X : Cx} {st : Stmt} {rest : List Stmt} {t u : TS} {e : Expr} {te : TE} {pos : Pos}
def tNext : TS := fun D σ H => D.nx σ H
def tSeq (t u : TS) : TS := fun D σ H => t { D with nx := u D } σ H
theorem pss_nil : PSs X [] tNext := fun _ _ σ H _ I h => wpAny_execs_nil ⟨σ, H, I, h⟩
theorem pss_cons (h1 : PS X st t) (h2 : PSs X rest u) : PSs X (st :: rest) (tSeq t u) := by
  intro pins s σ H D I h
  refine wpAny_execs_cons (thn (h1 pins s σ H { D with nx := u D } I h) fun f s1 q => ?_)
  cases f with
  | next =>
    obtain ⟨σ', H', I', q⟩ := q
    exact h2 pins s1 σ' H' D I' q
  | ret v => exact q
  | brk => exact q
  | cont => exact q
theorem pss_one (h1 : PS X st t) : PSs X [st] t := by
  intro pins s σ H D I h
  refine wpAny_execs_cons (thn (h1 pins s σ H D I h) fun f s1 q => ?_)
  cases f with
  | next => exact wpAny_execs_nil q
  | ret v => exact q
  | brk => exact q
  | cont => exact q
/-- in a def's body nothing is shown -/
theorem Inv.quiet {pins : List (Addr × Obj)} {σ : St} {H : Hp} {s : Shared} (I : Inv X pins σ H s) : interactive X.env = false := by simp [interactive, I.ok.kind]
/-- an expression whose value is dropped -/
def tDrop (te : TE) : TS := fun D σ H => te σ H fun _ H1 => D.nx σ H1
theorem ps_expr (he : PE X e te) (hs : swapsWith e none pos.line X.env = pure false := by rfl) : PS X (.Expr e pos) (tDrop te) := by
  intro pins s σ H D I h
  exact wpAny_Expr_any (thn (he pins s σ H _ I h) fun v s1 ⟨x, H1, I1, r1, q1⟩ => ⟨σ, H1, I1, q1⟩) I.quiet hs
def tRet (te : TE) : TS := fun D σ H => te σ H D.rt
theorem ps_ret (he : PE X e te) : PS X (.Return (some e) pos) (tRet te) := by
  intro pins s σ H D I h
  exact wpAny_Return_some (thn (he pins s σ H _ I h) fun v s1 ⟨x, H1, I1, r1, q1⟩ => ⟨x, σ, H1, I1, r1, q1⟩)
def tIfS (c : TT) (t u : TS) : TS := fun D σ H => c σ H fun b H1 => if b = true then t D σ H1 else u D σ H1
theorem ps_if {c : Expr} {a b : List Stmt} {tc : TT} (hc : PT X c tc) (ha : PSs X a t) (hb : PSs X b u) : PS X (.If c a b pos) (tIfS tc t u) := by
  intro pins s σ H D I h
  refine wpAny_If (thn (hc pins s σ H _ I h) fun d s1 ⟨H1, I1, q1⟩ => ?_)
  cases d with
  | true => exact ha pins s1 σ H1 D I1 q1
  | false => exact hb pins s1 σ H1 D I1 q1
/-- code that the proof never comes to -/
def tNever : TS := fun _ _ _ => False
theorem ps_never : PS X st tNever := fun _ _ _ _ _ _ h => h.elim
end

/-! ### targets -/
abbrev TG := V → St → Hp → (St → Hp → Prop) → Prop
abbrev TGs := List V → St → Hp → (St → Hp → Prop) → Prop
def PG (X : Cx) (target : Expr) (t : TG) : Prop :=
  ∀ (pins : List (Addr × Obj)) (s : Shared) (σ : St) (H : Hp) (v : V) (u : Value) (Q : St → Hp → Prop), Inv X pins σ H s → RelV v u → t v σ H Q →
    wpAny (model X.prog X.w) X.A (assign target X.env u) (fun _ s' => ∃ σ' H', Inv X pins σ' H' s' ∧ Q σ' H') X.xe s
/-- several targets, one after another -/
def PGs (X : Cx) (ts : List Expr) (t : TGs) : Prop :=
  ∀ (pins : List (Addr × Obj)) (s : Shared) (σ : St) (H : Hp) (vs : List V) (us : List Value) (Q : St → Hp → Prop), Inv X pins σ H s → Vals vs us → t vs σ H Q →
    wpAny (model X.prog X.w) X.A (assignInOrder ((assignEach ts X.env).map (·.2)) us) (fun _ s' => ∃ σ' H', Inv X pins σ' H' s' ∧ Q σ' H') X.xe s
/-- o[i] = v, by values -/
abbrev TSet := V → V → V → Hp → (Hp → Prop) → Prop
def PSet (X : Cx) (t : TSet) : Prop :=
  ∀ (pins : List (Addr × Obj)) (s : Shared) (σ : St) (H : Hp) (o i v : V) (ov iv u : Value) (Q : Hp → Prop), Inv X pins σ H s → RelV o ov → RelV i iv → RelV v u → t o i v H Q →
    wpAny (model X.prog X.w) X.A (setItem ov iv u) (fun _ s' => ∃ H', Inv X pins σ H' s' ∧ Q H') X.xe s
section
variable {X : Cx} {pos : Pos}
def gName (i : Nat) : TG := fun v σ H Q => Q (σ.set i (some v)) H
theorem pg_name {i : Nat} {x : Str} (hN : X.N.Nodup) (hi : X.N[i]? = some x) (hx : Loc X.env.scope x) (hf : X.fn x = true ∨ X.env.scope.names.lookup x = some .local := by first | exact .inl rfl | exact .inr rfl | assumption) : PG X (.Name x pos) (gName i) := by
  intro pins s σ H v u Q I r h
  exact wpAny_assign_Name (store_ok I hN hi hx r (fun s' I' => ⟨_, H, I', h⟩) hf)
def gNil : TGs := fun vs σ H Q => vs = [] ∧ Q σ H
def gCons (t : TG) (u : TGs) : TGs := fun vs σ H Q => ∃ v r, vs = v :: r ∧ t v σ H fun σ' H' => u r σ' H' Q
theorem pgs_nil : PGs X [] gNil := by
  intro pins s σ H vs us Q I r h
  obtain ⟨e, h⟩ := h
  subst e
  cases r
  exact assignInOrder_nil ⟨σ, H, I, h⟩
theorem pgs_cons {e : Expr} {es : List Expr} {t : TG} {u : TGs} (h1 : PG X e t) (h2 : PGs X es u)
    (hs : (assignEach (e :: es) X.env).map (·.2) = assign e X.env :: (assignEach es X.env).map (·.2) := by rfl) : PGs X (e :: es) (gCons t u) := by
  intro pins s σ H vs us Q I r h
  obtain ⟨v, vr, e1, h⟩ := h
  subst e1
  cases r with
  | cons r rr =>
    rw [hs]
    refine assignInOrder_cons (thn (h1 pins s σ H _ _ _ I r h) fun _ s1 ⟨σ1, H1, I1, q1⟩ => ?_)
    exact h2 pins s1 σ1 H1 _ _ Q I1 rr q1
/-- (a, b, ..) = a tuple of that length -/
def gTup (K : PySem.W.Frag) (n : Nat) (t : TGs) : TG := fun v σ H Q => ∃ a xs, v = .ref a ∧ SqT K H a xs ∧ xs.length = n ∧ t xs σ H Q
theorem pg_tup {es : List Expr} {k : Nat} {t : TGs} {n : Nat} (hc : X.calm = true) (h : PGs X es t)
    (hn : (assignEach es X.env).length = n := by rfl) (hst : (assignEach es X.env).findIdx? (·.1) = none := by rfl) : PG X (.Tuple es k pos) (gTup X.K n t) := by
  intro pins s σ H v u Q I r hw
  obtain ⟨a, xs, e1, hq, hl, hw⟩ := hw
  subst e1
  cases r
  obtain ⟨its, rv, ht, hz⟩ := I.tuple hq
  refine assign_Tuple_tuple (I.ok.hd hc) ht (by simp [hn, ← hl, rv.length]) hst fun h' hx => ?_
  have I1 : Inv X pins σ H { s with heap := h' } := I.kept (t' := s.toks) fun b o e => hx b o (Nat.ne_of_lt (Heap.lt_size e)) e
  exact h pins _ σ H xs _ Q I1 (by simpa using rv) hw
/-- o[i] = .. -/
def gSub (to ti : TE) (t : TSet) : TG := fun v σ H Q => to σ H fun o H1 => ti σ H1 fun i H2 => t o i v H2 fun H3 => Q σ H3
theorem pg_sub {o i : Expr} {to ti : TE} {t : TSet} (ho : PE X o to) (hi : PE X i ti) (hs : PSet X t)
    (ha : ∀ v, assign (.Subscript o i pos) X.env v = (do
      let ov ← holding [v] (eval o X.env)
      let iv ← holding [v, ov] (eval i X.env)
      standAt pos
      holding [v, ov, iv] (setItem ov iv v)
      release [v, ov, iv] []) := by intro _; rfl) : PG X (.Subscript o i pos) (gSub to ti t) := by
  intro pins s σ H v u Q I r h
  rw [ha]
  refine wpAny_bind (wpAny_holding (thn (ho pins s σ H _ I h) fun ov s1 ⟨x, H1, I1, r1, q1⟩ => ?_))
  refine wpAny_bind (wpAny_holding (thn (hi pins s1 σ H1 _ I1 q1) fun iv s2 ⟨y, H2, I2, r2, q2⟩ => ?_))
  refine wpAny_bind (wpAny_standAt (wpAny_bind (wpAny_holding (thn (hs pins s2 σ H2 x y v ov iv u _ I2 r1 r2 r q2) fun _ s3 ⟨H3, I3, q3⟩ => ?_))))
  exact wpAny_release ⟨σ, H3, I3, q3⟩
/-- target = value -/
def tAsg (te : TE) (g : TG) : TS := fun D σ H => te σ H fun x H1 => g x σ H1 D.nx
theorem ps_asg {tg e : Expr} {te : TE} {g : TG} (he : PE X e te) (hg : PG X tg g) (hs : swapsWithSole [tg] e pos.line X.env = pure false := by rfl) (hw : swappedStores [tg] e X.env = pure none := by rfl)
    (h1 : (assignEach [tg] X.env).map (·.2) = [assign tg X.env] := by rfl) : PS X (.Assign [tg] e pos) (tAsg te g) := by
  intro pins s σ H D I h
  refine wpAny_Assign_stores (thn (he pins s σ H _ I h) fun v s1 ⟨x, H1, I1, r1, q1⟩ => ?_) hs hw
  rw [h1]
  exact thn (hg pins s1 σ H1 x v _ I1 r1 q1) fun _ s2 q => q
/-- name = value -/
theorem ps_set {i : Nat} {x : Str} {e : Expr} {te : TE} {pos' : Pos} (hN : X.N.Nodup) (hi : X.N[i]? = some x) (hx : Loc X.env.scope x) (he : PE X e te) (hs : swapsWith e (some (.Name x pos')) pos.line X.env = pure false := by rfl) (hf : X.fn x = true ∨ X.env.scope.names.lookup x = some .local := by first | exact .inl rfl | exact .inr rfl | assumption) :
    PS X (.Assign [.Name x pos'] e pos) (tAsg te (gName i)) := by
  intro pins s σ H D I h
  refine wpAny_Assign_Name (thn (he pins s σ H _ I h) fun v s1 ⟨y, H1, I1, r1, q1⟩ => ?_) hs
  exact store_ok I1 hN hi hx r1 (fun s2 I2 => ⟨_, H1, I2, q1⟩) hf
end

/-! ### while -/
section
variable {X : Cx} {pos : Pos}
/-- the invariant W with its measure -/
def tWhile (c : TT) (tb : TS) : TS := fun D σ H => ∃ W : Nat → St → Hp → Prop, (∃ m, W m σ H) ∧ ∀ m σ H, W m σ H →
  c σ H fun b H1 => if b = true then ∃ N : St → Hp → Prop, (∀ σ' H', N σ' H' → ∃ m', m' < m ∧ W m' σ' H') ∧ tb { D with nx := N, ct := N, bk := D.nx } σ H1 else D.nx σ H1
theorem ps_while {c : Expr} {body : List Stmt} {tc : TT} {tb : TS} (hp : PassesOwn (model X.prog X.w) X.A X.env X.xe) (hc : PT X c tc) (hb : PSs X body tb) : PS X (.While c body [] pos) (tWhile tc tb) := by
  intro pins s σ H D I h
  obtain ⟨W, ⟨m0, w0⟩, turn⟩ := h
  refine wpAny_While (codeAny_whileLoop (fun n s' => ∃ σ' H', Inv X pins σ' H' s' ∧ W n σ' H') ?_ m0 ⟨σ, H, I, w0⟩)
  rintro n s1 ⟨σ1, H1, I1, w1⟩
  refine wpAny_passesOwn hp (thn (hc pins s1 σ1 H1 _ I1 (turn n σ1 H1 w1)) fun b s2 ⟨H2, I2, q2⟩ => ?_)
  cases b with
  | true =>
    obtain ⟨N, hN, q2⟩ := q2
    rw [if_pos rfl]
    refine wpAny_passesOwn hp (thn (hb pins s2 σ1 H2 _ I2 q2) fun f s3 q3 => ?_)
    cases f with
    | next =>
      obtain ⟨σ3, H3, I3, n3⟩ := q3
      obtain ⟨m', hm, w3⟩ := hN σ3 H3 n3
      exact ⟨m', hm, σ3, H3, I3, w3⟩
    | cont =>
      obtain ⟨σ3, H3, I3, n3⟩ := q3
      obtain ⟨m', hm, w3⟩ := hN σ3 H3 n3
      exact ⟨m', hm, σ3, H3, I3, w3⟩
    | brk => exact q3
    | ret v => exact q3
  | false =>
    rw [if_neg Bool.false_ne_true]
    exact wpAny_execs_nil ⟨σ1, H2, I2, q2⟩
end

/-! ### what a loop or a comprehension walks -/
/-- at turn i: it yields x (the heap may grow), or it stops -/
structure It where
  go : Nat → Hp → Prop
  yld : Nat → Hp → V → Hp → Prop
  stop : Nat → Hp → Prop
/-- the iterator's own objects may turn: they are not the frame's, not pinned, younger than the entry (or a comprehension's own) -/
def FpOk (X : Cx) (pins : List (Addr × Obj)) (H : Hp) (b : Addr) : Prop :=
  H b = none ∧ b ≠ X.env.locals ∧ b ∉ X.fs ∧ (b ∈ X.ex ∨ X.s₀.heap.objs.size ≤ b) ∧ (∀ x c, X.env.cells.lookup x = some c → c ≠ b) ∧ ∀ p ∈ X.pn ++ pins, p.1 ≠ b
theorem Inv.fpOk {X : Cx} {pins : List (Addr × Obj)} {σ : St} {H H' : Hp} {s : Shared} {b : Addr} (I : Inv X pins σ H s) (hb : s.heap.objs.size ≤ b) (hn : H' b = none) : FpOk X pins H' b := by
  refine ⟨hn, Nat.ne_of_gt (Nat.lt_of_lt_of_le I.lt hb), I.nofs hb, .inr (Nat.le_trans I.sz hb), fun x c e z => ?_, fun p hp z => ?_⟩
  · obtain ⟨v, q⟩ := I.cell x c e
    exact absurd (Nat.lt_of_lt_of_le q.lt (by rw [z]; exact hb)) (Nat.lt_irrefl _)
  · exact absurd (Nat.lt_of_lt_of_le (Heap.lt_size (I.pin p hp).1) (by rw [z]; exact hb)) (Nat.lt_irrefl _)
structure Turn (P : Program) (w : World) (K : PySem.W.Frag) (tg : Expr) (J : It) (fp : List Addr) (it : Addr) (tn : Nat → Heap → Prop) : Prop where
  mem : it ∈ fp
  obj : ∀ i h, tn i h → ∀ b ∈ fp, ∃ o, h.get? b = some o ∧ ∀ v, o.data ≠ .cell v
  keep : ∀ i h h', tn i h → (∀ b ∈ fp, ∀ o, h.get? b = some o → h'.get? b = some o) → tn i h'
  item : ∀ (X : Cx), X.prog = P → X.w = w → X.K = K → X.calm = true → ∀ (i : Nat) (pins : List (Addr × Obj)) (s : Shared) (σ : St) (H : Hp) (E : Value → Shared → Prop), Inv X pins σ H s → (∀ b ∈ fp, FpOk X pins H b) → tn i s.heap → J.go i H →
    wpAny (model P w) X.A (pyNext (.ref it)) (fun r s1 => ∃ u, r = some u ∧
      wpAny (model P w) X.A (letOwnedTupleGo tg (.ref it) u) (fun _ s2 => ∃ x H', Inv X pins σ H' s2 ∧ RelV x u ∧ J.yld i H x H' ∧ tn (i + 1) s2.heap ∧ ∀ b ∈ fp, H' b = none) E s1) E s
  done : ∀ (X : Cx), X.prog = P → X.w = w → X.K = K → X.calm = true → ∀ (i : Nat) (pins : List (Addr × Obj)) (s : Shared) (σ : St) (H : Hp) (E : Value → Shared → Prop), Inv X pins σ H s → (∀ b ∈ fp, FpOk X pins H b) → tn i s.heap → J.stop i H →
    wpAny (model P w) X.A (pyNext (.ref it)) (fun r s1 => r = none ∧ Inv X pins σ H s1) E s
  self : ∀ (A : Around) (i : Nat) (s : Shared) (Q : Value → Shared → Prop) (E : Value → Shared → Prop), tn i s.heap → Q (.ref it) s → wpAny (model P w) A (pyIter (.ref it)) Q E s
abbrev TI := St → Hp → (It → Hp → Prop) → Prop
/-- an iterator has come -/
def PIE (X : Cx) (pins : List (Addr × Obj)) (σ : St) (tg : Expr) (R : It → Hp → Prop) (itv : Value) (s2 : Shared) : Prop :=
  ∃ (it : Addr) (fp : List Addr) (tn : Nat → Heap → Prop) (J : It) (H' : Hp), itv = .ref it ∧ Inv X pins σ H' s2 ∧ Turn X.prog X.w X.K tg J fp it tn ∧ tn 0 s2.heap ∧ (∀ b ∈ fp, FpOk X pins H' b) ∧ R J H'
def PI (X : Cx) (tg iter : Expr) (wi : TI) : Prop :=
  ∀ (pins : List (Addr × Obj)) (s : Shared) (σ : St) (H : Hp) (R : It → Hp → Prop), Inv X pins σ H s → wi σ H R →
    wpAny (model X.prog X.w) X.A (eval iter X.env) (fun v s1 => wpAny (model X.prog X.w) X.A (pyIter v) (PIE X pins σ tg R) X.xe s1) X.xe s

/-- the step ahead of the store is nothing for an iterator that keeps no tuple -/
theorem go_of {M : Model} {A : Around} {E : Value → Shared → Prop} {s : Shared} {tg : Expr} {it : Addr} {u : Value} {o : Obj} {n : String} {vs : Array Value} {Q : Unit → Shared → Prop} (ho : s.heap.get? it = some o) (hc : o.cls = .type n) (hd : o.data = .fields vs)
    (hn : ["enumerate", "zip", "dict_itemiterator", "dict_reverseitemiterator", "odict_iterator", "itertools.zip_longest", "itertools.pairwise"].contains n = false) (hQ : Q () s) : wpAny M A (letOwnedTupleGo tg (.ref it) u) Q E s := by
  unfold letOwnedTupleGo
  cases tg <;> first
    | exact wpAny_pure hQ
    | (cases u <;> first
        | exact wpAny_pure hQ
        | (refine wpAny_bind (wpAny_load ho ?_)
           rw [hc, hd]
           show wpAny M A (if (["enumerate", "zip", "dict_itemiterator", "dict_reverseitemiterator", "odict_iterator", "itertools.zip_longest", "itertools.pairwise"].contains n && vs[0]? == some (rawInt _)) = true then _ else _) Q E s
           rw [if_neg (by intro h; rw [hn, Bool.false_and] at h; cases h)]
           exact wpAny_pure hQ))

/-- the list at a, as it stands at each turn (a loop may append to it) -/
def Itl (K : PySem.W.Frag) (a : Addr) : It :=
  ⟨fun i H => ∃ xs x, SqL K H a xs ∧ xs[i]? = some x, fun i H x H' => H' = H ∧ ∀ xs, SqL K H a xs → xs[i]? = some x, fun i H => ∃ xs, SqL K H a xs ∧ xs.length ≤ i⟩
/-- lo, lo + 1, .. (n of them) -/
def Itr (lo : Int) (n : Nat) : It := ⟨fun i _ => i < n, fun i H x H' => H' = H ∧ x = .int (lo + i), fun i _ => n ≤ i⟩
theorem turn_list {P : Program} {w : World} {K : PySem.W.Frag} {tg : Expr} (a it : Addr) : Turn P w K tg (Itl K a) [it] it (fun i h => h.IsListIter it a i) where
  mem := by simp
  obj := fun i h st b hb => by
    have e : b = it := by simpa using hb
    subst e
    obtain ⟨o, e, c, d⟩ := st
    exact ⟨o, e, fun v z => by rw [d] at z; cases z⟩
  keep := fun i h h' st k => st.at fun o e => k it (by simp) o e
  item := by
    intro X hP hw hK hc i pins s σ H E I hf st hg
    subst hP hw hK
    obtain ⟨xs, x, hq, hx⟩ := hg
    obtain ⟨its, rv, p, hz⟩ := I.list hq
    obtain ⟨u, hu, ru⟩ := rv.get hx
    obtain ⟨f0, f1, f2, f3, f4, f5⟩ := hf it (by simp)
    refine wpAny_pyNext_list_item st p.isList (x := u) (by simpa using hu) fun h' st' sb => ?_
    have I1 : Inv X pins σ H { s with heap := h' } := I.turned (t' := s.toks) (fun b o hb e => (sb.2 b hb).trans e) f0 f1 f3 f4 f5
    obtain ⟨o, e, c, d⟩ := id st'
    exact ⟨u, rfl, go_of (s := { s with heap := h' }) e c d (by decide) ⟨x, H, I1, ru, ⟨rfl, fun ys hy => by rw [I.list_inj hy hq]; exact hx⟩, st', fun b hb => (hf b hb).1⟩⟩
  done := by
    intro X hP hw hK hc i pins s σ H E I hf st hg
    subst hP hw hK
    obtain ⟨xs, hq, hx⟩ := hg
    obtain ⟨its, rv, p, hz⟩ := I.list hq
    obtain ⟨f0, f1, f2, f3, f4, f5⟩ := hf it (by simp)
    have hl := rv.length
    exact wpAny_pyNext_list_end (I.ok.hd hc) st p.isList (by simp; omega) fun h' eb => ⟨rfl, I.turned (t' := s.toks) (fun b o hb e => eb b o hb e) f0 f1 f3 f4 f5⟩
  self := fun _ _ _ _ _ st h => wpAny_pyIter_listiter st h
theorem turn_range {P : Program} {w : World} {K : PySem.W.Frag} {tg : Expr} (it : Addr) (lo : Int) (n : Nat) : Turn P w K tg (Itr lo n) [it] it (fun i h => IsRangeIter h it (lo + (i : Nat) * 1) ((n : Int) - (i : Nat)) 1) where
  mem := by simp
  obj := fun i h st b hb => by
    have e : b = it := by simpa using hb
    subst e
    exact ⟨_, st, fun v z => by
      have z' : Data.fields _ = Data.cell v := z
      cases z'⟩
  keep := fun i h h' st k => k it (by simp) _ st
  item := by
    intro X hP hw hK hc i pins s σ H E I hf st hg
    subst hP hw hK
    obtain ⟨f0, f1, f2, f3, f4, f5⟩ := hf it (by simp)
    have W := Walks.range (prog := X.prog) (w := X.w) (I.ok.hd hc) it lo 1 n
    refine W.item i s _ _ hg st fun v h' tk hv st' kk => ?_
    obtain ⟨t, rfl⟩ := hv
    have I1 : Inv X pins σ H { s with heap := h', toks := tk } := I.turned (fun b o hb e => kk b o (by simpa using hb) e) f0 f1 f3 f4 f5
    refine ⟨_, rfl, go_of (s := { s with heap := h', toks := tk }) (n := "range_iterator") st' rfl rfl (by decide) ⟨.int (lo + i), H, I1, ⟨t, ?_⟩, ⟨rfl, rfl⟩, st', fun b hb => (hf b hb).1⟩⟩
    rw [Int.mul_one]
  done := by
    intro X hP hw hK hc i pins s σ H E I hf st hg
    subst hP hw hK
    obtain ⟨f0, f1, f2, f3, f4, f5⟩ := hf it (by simp)
    exact wpAny_pyNext_range_end (I.ok.hd hc) st (by have : n ≤ i := hg; omega) fun h' eb => ⟨rfl, I.turned (t' := s.toks) (fun b o hb e => eb b o hb e) f0 f1 f3 f4 f5⟩
  self := fun _ _ _ _ _ st h => wpAny_pyIter_rangeiter st h
end L2

namespace L2
open PySem PySem.Spec PyProof.Rows
section
variable {X : Cx} {tg : Expr}
def iList (K : PySem.W.Frag) (tl : TE) : TI := fun σ H R => tl σ H fun x H1 => ∃ a, x = .ref a ∧ (∃ xs, SqL K H1 a xs) ∧ R (Itl K a) H1
theorem pi_list {l : Expr} {tl : TE} (hl : PE X l tl) : PI X tg l (iList X.K tl) := by
  intro pins s σ H R I h
  refine thn (hl pins s σ H _ I h) fun v s1 ⟨x, H1, I1, r1, q1⟩ => ?_
  obtain ⟨a, e, ⟨xs, hq⟩, q⟩ := q1
  subst e
  cases r1
  obtain ⟨its, rv, p, hz⟩ := I1.list hq
  refine wpAny_pyIter_list p.isList ?_
  refine ⟨s1.heap.objs.size, [s1.heap.objs.size], _, _, H1, rfl, I1.kept (t' := s1.toks) fun b o e => Heap.get?_push_of_some _ e, turn_list a _, ⟨_, Heap.get?_push_size _ rfl, rfl, rfl⟩, fun b hb => ?_, q⟩
  have e : b = s1.heap.objs.size := by simpa using hb
  subst e
  exact I1.fpOk (Nat.le_refl _) (I1.hok.fresh (Nat.le_refl _))
/-- a range object just made, walked -/
theorem range_it {pins : List (Addr × Obj)} {σ : St} {H : Hp} {s : Shared} {R : It → Hp → Prop} {E : Value → Shared → Prop} {lo hi : Int} {t u v : Tok} {tk : Nat} (I : Inv X pins σ H s) (h1 : -(2 ^ 62) ≤ lo) (h2 : lo < 2 ^ 62) (h3 : -(2 ^ 62) ≤ hi) (h4 : hi < 2 ^ 62)
    (q : R (Itr lo (hi - lo).toNat) H) : wpAny (model X.prog X.w) X.A (pyIter (.ref s.heap.objs.size)) (PIE X pins σ tg R) E { s with heap := s.heap.push { cls := .type "range", data := .fields #[.int lo t, .int hi u, .int 1 v] }, toks := tk } := by
  refine wpAny_pyIter_range (IsRange.new ..) (small_one h1 h2 h3 h4) ?_
  have I1 : Inv X pins σ H { s with heap := s.heap.push { cls := .type "range", data := .fields #[.int lo t, .int hi u, .int 1 v] }, toks := tk } := I.kept fun b o e => Heap.get?_push_of_some _ e
  refine ⟨(s.heap.push { cls := .type "range", data := .fields #[.int lo t, .int hi u, .int 1 v] }).objs.size, [(s.heap.push { cls := .type "range", data := .fields #[.int lo t, .int hi u, .int 1 v] }).objs.size], _, _, H, rfl,
    I1.kept (t' := tk) fun b o e => Heap.get?_push_of_some _ e, turn_range _ lo (hi - lo).toNat, ?_, fun b hb => ?_, q⟩
  · have e1 : lo + ((0 : Nat) : Int) * 1 = lo := by simp
    have e2 : (((hi - lo).toNat : Nat) : Int) - ((0 : Nat) : Int) = Builtin.Range.rangeSize lo hi 1 := by rw [rangeSize_one]; split <;> omega
    show IsRangeIter _ _ (lo + ((0 : Nat) : Int) * 1) ((((hi - lo).toNat : Nat) : Int) - ((0 : Nat) : Int)) 1
    rw [e1, e2]
    exact Heap.get?_push_size _ rfl
  · have e : b = (s.heap.push { cls := .type "range", data := .fields #[.int lo t, .int hi u, .int 1 v] }).objs.size := by simpa using hb
    subst e
    exact I1.fpOk (Nat.le_refl _) (I1.hok.fresh (Nat.le_refl _))
def iRng1 (ta : TA) : TI := fun σ H R => ta σ H fun vs H1 => ∃ j : Int, vs = [.int j] ∧ -(2 ^ 62) ≤ j ∧ j < 2 ^ 62 ∧ R (Itr 0 j.toNat) H1
def iRng2 (ta : TA) : TI := fun σ H R => ta σ H fun vs H1 => ∃ i j : Int, vs = [.int i, .int j] ∧ (-(2 ^ 62) ≤ i ∧ i < 2 ^ 62 ∧ -(2 ^ 62) ≤ j ∧ j < 2 ^ 62) ∧ R (Itr i (j - i).toNat) H1
theorem pi_range1 {a : Expr} {ta : TA} {p pos : Pos} (hg : Gl X "range") (hm : X.mg "range" = none) (ha : PA X [a] ta) (hs : starEach [a] X.env = [(false, eval a X.env)] := by rfl) : PI X tg (.Call (.Name "range" p) [a] [] pos) (iRng1 ta) := by
  intro pins s σ H R I h
  refine Call_ (ld_blt I hg hm boot_range (PyProof.Rows.callWith_type1 (thn (ha pos pins s σ H _ I h) fun us s1 ⟨vs, H1, I1, r1, q1⟩ => ?_) hs rfl))
  obtain ⟨j, e, q1, q2, q⟩ := q1
  subst e
  cases r1 with
  | cons r rr =>
    cases rr
    obtain ⟨t, rfl⟩ := r
    exact call_range_1 (range_it I1 (by omega) (by omega) q1 q2 (by simpa using q))
theorem pi_range2 {a b : Expr} {ta : TA} {p pos : Pos} (hg : Gl X "range") (hm : X.mg "range" = none) (ha : PA X [a, b] ta) (hs : starEach [a, b] X.env = [(false, eval a X.env), (false, eval b X.env)] := by rfl) (hs2 : starEach [b] X.env = [(false, eval b X.env)] := by rfl) :
    PI X tg (.Call (.Name "range" p) [a, b] [] pos) (iRng2 ta) := by
  intro pins s σ H R I h
  refine Call_ (ld_blt I hg hm boot_range (PyProof.Rows.callWith_type1 (thn (ha pos pins s σ H _ I h) fun us s1 ⟨vs, H1, I1, r1, q1⟩ => ?_) (by rw [hs, hs2]) (by rw [hs2]; rfl)))
  obtain ⟨i, j, e, ⟨q1, q2, q3, q4⟩, q⟩ := q1
  subst e
  cases r1 with
  | cons r rr =>
    cases rr with
    | cons r' rr =>
      cases rr
      obtain ⟨t, rfl⟩ := r
      obtain ⟨t', rfl⟩ := r'
      exact call_range_2 (range_it I1 q1 q2 q3 q4 q)

/-! ### for -/
/-- W: the invariant by the turn and a measure; N: what the body is to reach -/
def tFor (wi : TI) (g : TG) (tb : TS) : TS := fun D σ H => wi σ H fun J H1 => ∃ W : Nat → Nat → St → Hp → Prop, (∃ m, W 0 m σ H1) ∧ ∀ i m σ H, W i m σ H →
  (J.stop i H ∧ D.nx σ H) ∨ (J.go i H ∧ ∃ N : St → Hp → Prop, (∀ σ' H', N σ' H' → ∃ m', m' < m ∧ W (i + 1) m' σ' H') ∧ ∀ x H', J.yld i H x H' → g x σ H' fun σ2 H2 => tb { D with nx := N, ct := N, bk := D.nx } σ2 H2)
/-- the records at fp as they stand -/
def pinsAt (fp : List Addr) (h : Heap) : List (Addr × Obj) := fp.filterMap fun b => (h.get? b).map fun o => (b, o)
theorem mem_pinsAt {fp : List Addr} {h : Heap} {b : Addr} {o : Obj} (hb : b ∈ fp) (e : h.get? b = some o) : (b, o) ∈ pinsAt fp h := List.mem_filterMap.mpr ⟨b, hb, by rw [e]; rfl⟩
theorem of_pinsAt {fp : List Addr} {h : Heap} {p : Addr × Obj} (hp : p ∈ pinsAt fp h) : p.1 ∈ fp ∧ h.get? p.1 = some p.2 := by
  obtain ⟨b, hb, e⟩ := List.mem_filterMap.mp hp
  cases q : h.get? b with
  | none => rw [q] at e; cases e
  | some o =>
    rw [q] at e
    have e' : (b, o) = p := Option.some.inj e
    subst e'
    exact ⟨hb, q⟩
theorem Inv.pinned {pins : List (Addr × Obj)} {σ : St} {H : Hp} {s : Shared} {fp : List Addr} (I : Inv X pins σ H s) (hf : ∀ b ∈ fp, FpOk X pins H b) (ho : ∀ b ∈ fp, ∃ o, s.heap.get? b = some o ∧ ∀ v, o.data ≠ .cell v) : Inv X (pins ++ pinsAt fp s.heap) σ H s :=
  I.pins_of fun p hp => (List.mem_append.mp hp).elim (fun z => I.pin p (List.mem_append_right _ z)) fun z => by
    obtain ⟨hb, e⟩ := of_pinsAt z
    obtain ⟨f0, f1, f2, _⟩ := hf p.1 hb
    obtain ⟨o, e', d⟩ := ho p.1 hb
    rw [e] at e'; cases e'
    exact ⟨e, f0, f1, f2, d⟩
theorem Inv.unpinned {pins pl : List (Addr × Obj)} {σ : St} {H : Hp} {s : Shared} (I : Inv X (pins ++ pl) σ H s) : Inv X pins σ H s := I.pins_of fun p hp => I.pin p (List.mem_append_right _ (List.mem_append_left _ hp))
theorem ps_for {iter : Expr} {body : List Stmt} {wi : TI} {g : TG} {tb : TS} {pos : Pos} (hp : PassesOwn (model X.prog X.w) X.A X.env X.xe) (hc : X.calm = true) (hi : PI X tg iter wi) (hg : PG X tg g) (hb : PSs X body tb)
    (hs : ∀ x, foldedSetIterable iter X.env x = pure x := by intro _; rfl) : PS X (.For tg iter body [] pos) (tFor wi g tb) := by
  intro pins s σ H D I h
  refine wpAny_For (thn (hi pins s σ H _ I h) fun v s1 h1 => thn h1 fun itv s2 h2 => ?_) hs
  obtain ⟨it, fp, tn, J, H2, e, I2, T, st2, f2, W, ⟨m0, w0⟩, turn⟩ := h2
  subst e
  -- what stays true of the iterator's objects through the loop
  have stat : ∀ {H' : Hp}, (∀ b ∈ fp, H' b = none) → ∀ b ∈ fp, FpOk X pins H' b := fun hn b hb => ⟨hn b hb, (f2 b hb).2⟩
  refine codeAny_forLoop_any (fun n s' => ∃ i σ' H', Inv X pins σ' H' s' ∧ tn i s'.heap ∧ (∀ b ∈ fp, H' b = none) ∧ W i n σ' H') ?_ m0 ⟨0, σ, H2, I2, st2, fun b hb => (f2 b hb).1, w0⟩
  rintro n s3 ⟨i, σ3, H3, I3, st3, fr3, w3⟩
  rcases turn i n σ3 H3 w3 with ⟨stop, qn⟩ | ⟨go, N, hN, step⟩
  · refine wpAny_passesOwn hp (thn (T.done X rfl rfl rfl hc i pins s3 σ3 H3 X.xe I3 (stat fr3) st3 stop) fun r s4 ⟨hr, I4⟩ => ?_)
    subst hr
    exact wpAny_execs_nil ⟨σ3, H3, I4, qn⟩
  · refine wpAny_passesOwn hp (thn (T.item X rfl rfl rfl hc i pins s3 σ3 H3 X.xe I3 (stat fr3) st3 go) fun r s4 ⟨u, hr, h4⟩ => ?_)
    subst hr
    refine wpAny_passesOwn hp (thn h4 fun _ s5 ⟨x, H5, I5, r5, y5, st5, fr5⟩ => ?_)
    have I5' := I5.pinned (stat fr5) (T.obj _ _ st5)
    refine wpAny_passesOwn hp (thn (hg _ s5 σ3 H5 x u _ I5' r5 (step x H5 y5)) fun _ s6 ⟨σ6, H6, I6, q6⟩ => ?_)
    refine wpAny_passesOwn hp (thn (hb _ s6 σ6 H6 _ I6 q6) fun f s7 q7 => ?_)
    have again : ∀ {σ7 : St} {H7 : Hp}, Inv X (pins ++ pinsAt fp s5.heap) σ7 H7 s7 → N σ7 H7 → ∃ m, m < n ∧ ∃ i σ' H', Inv X pins σ' H' s7 ∧ tn i s7.heap ∧ (∀ b ∈ fp, H' b = none) ∧ W i m σ' H' := fun {σ7 H7} I7 n7 => by
      obtain ⟨m', hm, w7⟩ := hN σ7 H7 n7
      refine ⟨m', hm, i + 1, σ7, H7, I7.unpinned, T.keep _ _ _ st5 fun b hb o e => (I7.pin (b, o) (List.mem_append_right _ (List.mem_append_right _ (mem_pinsAt hb e)))).1, fun b hb => ?_, w7⟩
      obtain ⟨o, e, d⟩ := T.obj _ _ st5 b hb
      exact (I7.pin (b, o) (List.mem_append_right _ (List.mem_append_right _ (mem_pinsAt hb e)))).2.1
    cases f with
    | next => obtain ⟨σ7, H7, I7, n7⟩ := q7; exact again I7 n7
    | cont => obtain ⟨σ7, H7, I7, n7⟩ := q7; exact again I7 n7
    | brk => obtain ⟨σ7, H7, I7, q7⟩ := q7; exact ⟨σ7, H7, I7.unpinned, q7⟩
    | ret v => obtain ⟨x7, σ7, H7, I7, r7, q7⟩ := q7; exact ⟨x7, σ7, H7, I7.unpinned, r7, q7⟩
end

/-! ### the forms one uses -/
/-- over a list that the body leaves as it is -/
theorem for_list {K : PySem.W.Frag} {a : Addr} {xs : List V} {g : TG} {tb : TS} {D : Ends} {σ : St} {H : Hp} (Pv : Nat → St → Hp → Prop) (h0 : Pv 0 σ H) (hl : ∀ i σ H, i ≤ xs.length → Pv i σ H → SqL K H a xs)
    (hs : ∀ i x σ H, xs[i]? = some x → Pv i σ H → g x σ H fun σ2 H2 => tb { D with nx := Pv (i + 1), ct := Pv (i + 1), bk := D.nx } σ2 H2) (hd : ∀ σ H, Pv xs.length σ H → D.nx σ H) :
    ∃ W : Nat → Nat → St → Hp → Prop, (∃ m, W 0 m σ H) ∧ ∀ i m σ H, W i m σ H →
      ((Itl K a).stop i H ∧ D.nx σ H) ∨ ((Itl K a).go i H ∧ ∃ N : St → Hp → Prop, (∀ σ' H', N σ' H' → ∃ m', m' < m ∧ W (i + 1) m' σ' H') ∧ ∀ x H', (Itl K a).yld i H x H' → g x σ H' fun σ2 H2 => tb { D with nx := N, ct := N, bk := D.nx } σ2 H2) := by
  refine ⟨fun i m σ H => m = xs.length - i ∧ i ≤ xs.length ∧ Pv i σ H, ⟨xs.length, by simp, Nat.zero_le _, h0⟩, ?_⟩
  rintro i m σ H ⟨rfl, hi, p⟩
  have q := hl i σ H hi p
  by_cases hlt : i < xs.length
  · refine .inr ⟨⟨xs, xs[i], q, by simp [hlt]⟩, Pv (i + 1), fun σ' H' p' => ⟨xs.length - (i + 1), by omega, rfl, hlt, p'⟩, fun x H' y => ?_⟩
    obtain ⟨e, y⟩ := y
    subst e
    exact hs i x σ _ (y xs q) p
  · have e : i = xs.length := by omega
    subst e
    exact .inl ⟨⟨xs, q, Nat.le_refl _⟩, hd σ H p⟩
theorem for_range {lo : Int} {n : Nat} {g : TG} {tb : TS} {D : Ends} {σ : St} {H : Hp} (Pv : Nat → St → Hp → Prop) (h0 : Pv 0 σ H)
    (hs : ∀ i σ H, i < n → Pv i σ H → g (.int (lo + i)) σ H fun σ2 H2 => tb { D with nx := Pv (i + 1), ct := Pv (i + 1), bk := D.nx } σ2 H2) (hd : ∀ σ H, Pv n σ H → D.nx σ H) :
    ∃ W : Nat → Nat → St → Hp → Prop, (∃ m, W 0 m σ H) ∧ ∀ i m σ H, W i m σ H →
      ((Itr lo n).stop i H ∧ D.nx σ H) ∨ ((Itr lo n).go i H ∧ ∃ N : St → Hp → Prop, (∀ σ' H', N σ' H' → ∃ m', m' < m ∧ W (i + 1) m' σ' H') ∧ ∀ x H', (Itr lo n).yld i H x H' → g x σ H' fun σ2 H2 => tb { D with nx := N, ct := N, bk := D.nx } σ2 H2) := by
  refine ⟨fun i m σ H => m = n - i ∧ i ≤ n ∧ Pv i σ H, ⟨n, by simp, Nat.zero_le _, h0⟩, ?_⟩
  rintro i m σ H ⟨rfl, hi, p⟩
  by_cases hlt : i < n
  · refine .inr ⟨hlt, Pv (i + 1), fun σ' H' p' => ⟨n - (i + 1), by omega, rfl, hlt, p'⟩, fun x H' y => ?_⟩
    obtain ⟨e, y⟩ := y
    subst e y
    exact hs i σ _ hlt p
  · have e : i = n := by omega
    subst e
    exact .inl ⟨Nat.le_refl _, hd σ H p⟩
end L2

namespace L2
open PySem PySem.Spec PyProof.Rows

abbrev R2 := V → V → Hp → VK → Prop
/-- a two-place operation on values: f is binaryOp op, inplaceOp op or compareOp op -/
def OpR (X : Cx) (f : Value → Value → Sem Value) (r : R2) : Prop :=
  ∀ (pins : List (Addr × Obj)) (s : Shared) (σ : St) (H : Hp) (x y : V) (v u : Value) (Q : VK), Inv X pins σ H s → RelV x v → RelV y u → r x y H Q →
    wpAny (model X.prog X.w) X.A (f v u) (EP X pins σ Q) X.xe s
/-- a one-place operation -/
def UnR (X : Cx) (f : Value → Sem Value) (r : V → Hp → VK → Prop) : Prop :=
  ∀ (pins : List (Addr × Obj)) (s : Shared) (σ : St) (H : Hp) (x : V) (v : Value) (Q : VK), Inv X pins σ H s → RelV x v → r x H Q →
    wpAny (model X.prog X.w) X.A (f v) (EP X pins σ Q) X.xe s
/-- a call of a value that is known (a builtin, a type) with values -/
def CallR (X : Cx) (f : Value) (r : List V → Hp → VK → Prop) : Prop :=
  ∀ (pins : List (Addr × Obj)) (s : Shared) (σ : St) (H : Hp) (xs : List V) (us : List Value) (Q : VK), Inv X pins σ H s → Vals xs us → r xs H Q →
    wpAny (model X.prog X.w) X.A (call f us) (EP X pins σ Q) X.xe s
/-- a value's truth -/
def TruR (X : Cx) (r : V → Hp → (Bool → Hp → Prop) → Prop) : Prop :=
  ∀ (pins : List (Addr × Obj)) (s : Shared) (σ : St) (H : Hp) (x : V) (v : Value) (Q : Bool → Hp → Prop), Inv X pins σ H s → RelV x v → r x H Q →
    wpAny (model X.prog X.w) X.A (truthy v) (TP X pins σ Q) X.xe s

def tOp (r : R2) (ta tb : TE) : TE := fun σ H Q => ta σ H fun x H1 => tb σ H1 fun y H2 => r x y H2 Q
def tUn (r : V → Hp → VK → Prop) (ta : TE) : TE := fun σ H Q => ta σ H fun x H1 => r x H1 Q
/-- ints in, under C, and a value out -/
def rI (C : Int → Int → Prop) (g : Int → Int → V) : R2 := fun x y H Q => ∃ i j, x = .int i ∧ y = .int j ∧ C i j ∧ Q (g i j) H
def rI0 (g : Int → Int → V) : R2 := fun x y H Q => ∃ i j, x = .int i ∧ y = .int j ∧ Q (g i j) H
def rU (g : Int → V) : V → Hp → VK → Prop := fun x H Q => ∃ i, x = .int i ∧ Q (g i) H

section
variable {X : Cx} {a b c : Expr} {ta tb tc : TE} {pos : Pos}

theorem binT (ha : PE X a ta) (hb : PE X b tb) {pins : List (Addr × Obj)} {s : Shared} {σ : St} {H : Hp} {R : V → V → Hp → Prop} (I : Inv X pins σ H s)
    (h : ta σ H fun x H1 => tb σ H1 fun y H2 => R x y H2) {Q : Value → Shared → Prop} {f : Value → Value → Sem Value}
    (hf : ∀ v u s2 x y H2, Inv X pins σ H2 s2 → RelV x v → RelV y u → R x y H2 → wpAny (model X.prog X.w) X.A (f v u) Q X.xe s2) :
    wpAny (model X.prog X.w) X.A (eval a X.env) (fun v s₁ => wpAny (model X.prog X.w) X.A (eval b X.env) (fun u s₂ => wpAny (model X.prog X.w) X.A (f v u) Q X.xe s₂) X.xe s₁) X.xe s := by
  refine thn (ha pins s σ H _ I h) fun v s1 ⟨x, H1, I1, r1, q1⟩ => ?_
  refine thn (hb pins s1 σ H1 _ I1 q1) fun u s2 ⟨y, H2, I2, r2, q2⟩ => ?_
  exact hf v u s2 x y H2 I2 r1 r2 q2

theorem pe_op {op : Operator} {r : R2} (ho : OpR X (binaryOp op) r) (ha : PE X a ta) (hb : PE X b tb) : PE X (.BinOp a op b pos) (tOp r ta tb) := by
  intro pins s σ H Q I h
  exact wpAny_BinOp (binT ha hb I h fun v u s2 x y H2 I2 rx ry q => ho pins s2 σ H2 x y v u Q I2 rx ry q)
theorem pe_un {op : UnaryOp} {r : V → Hp → VK → Prop} (ho : UnR X (unaryOp op) r) (ha : PE X a ta) : PE X (.UnaryOp op a pos) (tUn r ta) := by
  intro pins s σ H Q I h
  exact UnaryOp_ (thn (ha pins s σ H _ I h) fun v s1 ⟨x, H1, I1, r1, q1⟩ => ho pins s1 σ H1 x v Q I1 r1 q1)
/-! ### ints -/
theorem opI {f : Value → Value → Sem Value} {C : Int → Int → Prop} {g : Int → Int → Int}
    (rule : ∀ (i j : Int) (t u : Tok) (s : Shared) (Q : Value → Shared → Prop) (E : Value → Shared → Prop), C i j → Q (.int (g i j) s.toks) { s with toks := s.toks + 1 } → wpAny (model X.prog X.w) X.A (f (.int i t) (.int j u)) Q E s) :
    OpR X f (rI C fun i j => .int (g i j)) := by
  intro pins s σ H x y v u Q I rx ry h
  obtain ⟨i, j, rfl, rfl, hc, q⟩ := h
  obtain ⟨t, rfl⟩ := rx
  obtain ⟨t', rfl⟩ := ry
  exact rule i j t t' s _ _ hc ⟨.int (g i j), H, I.tok _, ⟨_, rfl⟩, q⟩
theorem opI0 {f : Value → Value → Sem Value} {g : Int → Int → Int}
    (rule : ∀ (i j : Int) (t u : Tok) (s : Shared) (Q : Value → Shared → Prop) (E : Value → Shared → Prop), Q (.int (g i j) s.toks) { s with toks := s.toks + 1 } → wpAny (model X.prog X.w) X.A (f (.int i t) (.int j u)) Q E s) :
    OpR X f (rI0 fun i j => .int (g i j)) := by
  intro pins s σ H x y v u Q I rx ry h
  obtain ⟨i, j, rfl, rfl, q⟩ := h
  obtain ⟨t, rfl⟩ := rx
  obtain ⟨t', rfl⟩ := ry
  exact rule i j t t' s _ _ ⟨.int (g i j), H, I.tok _, ⟨_, rfl⟩, q⟩
theorem opB0 {f : Value → Value → Sem Value} {g : Int → Int → Bool}
    (rule : ∀ (i j : Int) (t u : Tok) (s : Shared) (Q : Value → Shared → Prop) (E : Value → Shared → Prop), Q (.bool (g i j)) s → wpAny (model X.prog X.w) X.A (f (.int i t) (.int j u)) Q E s) :
    OpR X f (rI0 fun i j => .bl (g i j)) := by
  intro pins s σ H x y v u Q I rx ry h
  obtain ⟨i, j, rfl, rfl, q⟩ := h
  obtain ⟨t, rfl⟩ := rx
  obtain ⟨t', rfl⟩ := ry
  exact rule i j t t' s _ _ ⟨.bl (g i j), H, I, rfl, q⟩

def CDiv (i j : Int) : Prop := 0 < j ∧ j < 1073741824
def CMul (i j : Int) : Prop := (-(2 ^ 64) < i ∧ i < 2 ^ 64) ∨ (-(2 ^ 64) < j ∧ j < 2 ^ 64)
theorem CMul.ok {i j : Int} (h : CMul i j) : IntMulOk i j := by
  rcases h with ⟨h1, h2⟩ | ⟨h1, h2⟩
  · exact .of_left (intBits_le_64 h1 h2)
  · exact .of_right (intBits_le_64 h1 h2)
theorem op_add : OpR X (binaryOp .Add) (rI0 fun i j => .int (i + j)) := opI0 fun _ _ _ _ _ _ _ q => add_int q
theorem op_sub : OpR X (binaryOp .Sub) (rI0 fun i j => .int (i - j)) := opI0 fun _ _ _ _ _ _ _ q => sub_int q
theorem op_mul : OpR X (binaryOp .Mult) (rI CMul fun i j => .int (i * j)) := opI fun _ _ _ _ _ _ _ hc q => mul_int q hc.ok
/-- // by a positive divisor -/
theorem op_fdiv : OpR X (binaryOp .FloorDiv) (rI CDiv fun i j => .int (i / j)) := opI fun i j _ _ _ _ _ hc q => by
  have h1 : (0 : Int) < j := hc.1
  have h2 : j < 1073741824 := hc.2
  exact floordiv_int (by omega) (by rw [Int.fdiv_eq_ediv_of_nonneg i (by omega)]; exact q) (.inl (PyProof.noPylong_small (by omega)))
/-- % by a positive divisor of any size -/
theorem op_mod : OpR X (binaryOp .Mod) (rI (fun _ j => 0 < j) fun i j => .int (i % j)) := opI fun i j _ _ _ _ _ hc q => by
  have h1 : (0 : Int) < j := hc
  exact mod_int' (by omega) (by rw [Int.fmod_eq_emod_of_nonneg i (by omega)]; exact q)
theorem unI {f : Value → Sem Value} {g : Int → Int}
    (rule : ∀ (i : Int) (t : Tok) (s : Shared) (Q : Value → Shared → Prop) (E : Value → Shared → Prop), Q (.int (g i) s.toks) { s with toks := s.toks + 1 } → wpAny (model X.prog X.w) X.A (f (.int i t)) Q E s) :
    UnR X f (rU fun i => .int (g i)) := by
  intro pins s σ H x v Q I rx h
  obtain ⟨i, rfl, q⟩ := h
  obtain ⟨t, rfl⟩ := rx
  exact rule i t s _ _ ⟨.int (g i), H, I.tok _, ⟨_, rfl⟩, q⟩
theorem un_neg : UnR X (unaryOp .USub) (rU fun i => .int (-i)) := unI fun _ _ _ _ _ q => neg_int q
/-! ### bools among ints: n += (a < b) -/
end

/-! ### comparisons -/
/-- the scalars that == tells apart as data does -/
def scal : V → V → Bool
  | .non, .non => true | .non, .int _ => true | .int _, .non => true | .non, .bl _ => true | .bl _, .non => true | .non, .str _ => true | .str _, .non => true
  | .int _, .int _ => true | .bl _, .bl _ => true | .str _, .str _ => true | .byt _, .byt _ => true
  | .int _, .str _ => true | .str _, .int _ => true | .bl _, .str _ => true | .str _, .bl _ => true
  | _, _ => false
def rEq : R2 := fun x y H Q => scal x y = true ∧ Q (.bl (decide (x = y))) H
def rNe : R2 := fun x y H Q => scal x y = true ∧ Q (.bl (!decide (x = y))) H

theorem dec_int {i j : Int} : decide (V.int i = V.int j) = (i == j) := by
  rw [Bool.eq_iff_iff]
  simp
theorem dec_bl {i j : Bool} : decide (V.bl i = V.bl j) = (i == j) := by
  rw [Bool.eq_iff_iff]
  simp
theorem dec_str {i j : Str} : decide (V.str i = V.str j) = (i == j) := by
  rw [Bool.eq_iff_iff]
  simp
theorem dec_byt {i j : Array UInt8} : decide (V.byt i = V.byt j) = (i.toList == j.toList) := by
  rw [Bool.eq_iff_iff]
  cases i
  cases j
  simp

section
variable {X : Cx} {a b c : Expr} {ta tb tc : TE} {pos : Pos}
theorem fin_bl {pins : List (Addr × Obj)} {σ : St} {H : Hp} {s : Shared} {Q : VK} {k k' : Bool} (I : Inv X pins σ H s) (q : Q (.bl k) H) (e : k = k') : EP X pins σ Q (.bool k') s := by
  subst e
  exact ⟨.bl k, H, I, rfl, q⟩
theorem op_eq : OpR X (compareOp .Eq) rEq := by
  intro pins s σ H x y v u Q I rx ry h
  obtain ⟨hs, q⟩ := h
  cases x with
  | non =>
    cases rx
    cases y with
    | non => cases ry; exact PySem.EqNone.eq_none_none (fin_bl I q (by simp))
    | bl j => cases ry; exact PySem.EqNone.eq_none_bool (fin_bl I q (by simp))
    | int j => obtain ⟨t', rfl⟩ := ry; exact PySem.EqNone.eq_none_int (fin_bl I q (by simp))
    | str j => obtain ⟨t', rfl⟩ := ry; exact PySem.EqNone.eq_none_str (fin_bl I q (by simp))
    | _ => exact absurd (show false = true from hs) Bool.false_ne_true
  | bl i =>
    cases rx
    cases y with
    | non => cases ry; exact PySem.EqNone.eq_bool_none (fin_bl I q (by simp))
    | bl j => cases ry; exact eq_bool (fin_bl I q dec_bl)
    | str j => obtain ⟨t', rfl⟩ := ry; exact PySem.EqMixed.eq_bool_str (fin_bl I q (by simp))
    | _ => exact absurd (show false = true from hs) Bool.false_ne_true
  | int i =>
    obtain ⟨t, rfl⟩ := rx
    cases y with
    | non => cases ry; exact PySem.EqNone.eq_int_none (fin_bl I q (by simp))
    | int j => obtain ⟨t', rfl⟩ := ry; exact eq_int (fin_bl I q dec_int)
    | str j => obtain ⟨t', rfl⟩ := ry; exact PySem.EqMixed.eq_int_str (fin_bl I q (by simp))
    | _ => exact absurd (show false = true from hs) Bool.false_ne_true
  | str i =>
    obtain ⟨t, rfl⟩ := rx
    cases y with
    | non => cases ry; exact PySem.EqNone.eq_str_none (fin_bl I q (by simp))
    | bl j => cases ry; exact PySem.EqMixed.eq_str_bool (fin_bl I q (by simp))
    | int j => obtain ⟨t', rfl⟩ := ry; exact PySem.EqMixed.eq_str_int (fin_bl I q (by simp))
    | str j => obtain ⟨t', rfl⟩ := ry; exact eq_str (fin_bl I q dec_str)
    | _ => exact absurd (show false = true from hs) Bool.false_ne_true
  | byt i =>
    obtain ⟨t, rfl⟩ := rx
    cases y with
    | byt j => obtain ⟨t', rfl⟩ := ry; exact PySem.W.eq_bytes (fin_bl I q dec_byt)
    | _ => exact absurd (show false = true from hs) Bool.false_ne_true
  | _ => cases y <;> exact absurd (show false = true from hs) Bool.false_ne_true
theorem op_ne : OpR X (compareOp .NotEq) rNe := by
  intro pins s σ H x y v u Q I rx ry h
  obtain ⟨hs, q⟩ := h
  cases x with
  | non =>
    cases rx
    cases y with
    | non => cases ry; exact PySem.EqNone.ne_none_none (fin_bl I q (by simp))
    | bl j => cases ry; exact PySem.EqNone.ne_none_bool (fin_bl I q (by simp))
    | int j => obtain ⟨t', rfl⟩ := ry; exact PySem.EqNone.ne_none_int (fin_bl I q (by simp))
    | str j => obtain ⟨t', rfl⟩ := ry; exact PySem.EqNone.ne_none_str (fin_bl I q (by simp))
    | _ => exact absurd (show false = true from hs) Bool.false_ne_true
  | bl i =>
    cases rx
    cases y with
    | non => cases ry; exact PySem.EqNone.ne_bool_none (fin_bl I q (by simp))
    | bl j => cases ry; exact ne_bool (fin_bl I q (congrArg not dec_bl))
    | str j => obtain ⟨t', rfl⟩ := ry; exact PySem.EqMixed.ne_bool_str (fin_bl I q (by simp))
    | _ => exact absurd (show false = true from hs) Bool.false_ne_true
  | int i =>
    obtain ⟨t, rfl⟩ := rx
    cases y with
    | non => cases ry; exact PySem.EqNone.ne_int_none (fin_bl I q (by simp))
    | int j => obtain ⟨t', rfl⟩ := ry; exact ne_int (fin_bl I q (congrArg not dec_int))
    | str j => obtain ⟨t', rfl⟩ := ry; exact PySem.EqMixed.ne_int_str (fin_bl I q (by simp))
    | _ => exact absurd (show false = true from hs) Bool.false_ne_true
  | str i =>
    obtain ⟨t, rfl⟩ := rx
    cases y with
    | non => cases ry; exact PySem.EqNone.ne_str_none (fin_bl I q (by simp))
    | bl j => cases ry; exact PySem.EqMixed.ne_str_bool (fin_bl I q (by simp))
    | int j => obtain ⟨t', rfl⟩ := ry; exact PySem.EqMixed.ne_str_int (fin_bl I q (by simp))
    | str j => obtain ⟨t', rfl⟩ := ry; exact ne_str (fin_bl I q (congrArg not dec_str))
    | _ => exact absurd (show false = true from hs) Bool.false_ne_true
  | byt i =>
    obtain ⟨t, rfl⟩ := rx
    cases y with
    | byt j => obtain ⟨t', rfl⟩ := ry; exact PySem.W.ne_bytes (fin_bl I q (congrArg not dec_byt))
    | _ => exact absurd (show false = true from hs) Bool.false_ne_true
  | _ => cases y <;> exact absurd (show false = true from hs) Bool.false_ne_true

theorem op_lt : OpR X (compareOp .Lt) (rI0 fun i j => .bl (decide (i < j))) := opB0 fun _ _ _ _ _ _ _ q => lt_int q
theorem op_le : OpR X (compareOp .LtE) (rI0 fun i j => .bl (decide (i ≤ j))) := opB0 fun _ _ _ _ _ _ _ q => le_int q
theorem op_gt : OpR X (compareOp .Gt) (rI0 fun i j => .bl (decide (j < i))) := opB0 fun _ _ _ _ _ _ _ q => gt_int q
theorem op_ge : OpR X (compareOp .GtE) (rI0 fun i j => .bl (decide (j ≤ i))) := opB0 fun _ _ _ _ _ _ _ q => ge_int q
theorem op_notN : OpR X (compareOp .IsNot) (fun x y H Q => y = .non ∧ Q (.bl (!decide (x = .non))) H) := by
  intro pins s σ H x y v u Q I rx ry h
  obtain ⟨rfl, q⟩ := h
  cases ry
  refine isnot_none_gen (fin_bl I q ?_)
  cases x <;> first
    | (cases rx; rfl)
    | (obtain ⟨t, rfl⟩ := rx; rfl)

theorem nomark (b : Expr) {op : CmpOp} (h : op ≠ .In := by decide) (h2 : op ≠ .NotIn := by decide) : behindInMarks op b = false := by
  have e1 : (op == CmpOp.In) = false := by cases op <;> first | rfl | exact absurd rfl h
  have e2 : (op == CmpOp.NotIn) = false := by cases op <;> first | rfl | exact absurd rfl h2
  cases b <;> simp [behindInMarks, e1, e2]
/-- a comparison as a value; hm: nomark b, or (for in, not in) by with_unfolding_all rfl -/
theorem pe_cmpR {op : CmpOp} {r : R2} (ho : OpR X (compareOp op) r) (ha : PE X a ta) (hb : PE X b tb) (hm : behindInMarks op b = false) : PE X (.Compare a [op] [b] pos) (tOp r ta tb) := by
  intro pins s σ H Q I h
  exact wpAny_Compare1 (binT ha hb I h fun v u s2 x y H2 I2 rx ry q => ho pins s2 σ H2 x y v u Q I2 rx ry q) hm
/-- a reading of a value as a test -/
def tTest (t : TE) : TT := fun σ H Q => t σ H fun x H' => ∃ k, x = .bl k ∧ Q k H'
theorem pt_cmpR {op : CmpOp} {r : R2} (ho : OpR X (compareOp op) r) (ha : PE X a ta) (hb : PE X b tb) (hm : behindInMarks op b = false) : PT X (.Compare a [op] [b] pos) (tTest (tOp r ta tb)) := by
  intro pins s σ H Q I h
  refine wpAny_isTrue_Compare1 (thn (ha pins s σ H _ I h) fun v s1 ⟨x, H1, I1, r1, q1⟩ => thn (hb pins s1 σ H1 _ I1 q1) fun u s2 ⟨y, H2, I2, r2, q2⟩ =>
    thn (ho pins s2 σ H2 x y v u _ I2 r1 r2 q2) fun c s3 ⟨z, H3, I3, r3, k, e, q3⟩ => ?_) hm
  subst e
  cases r3
  exact wpAny_truthy_bool ⟨H3, I3, q3⟩
/-- a op1 b op2 c -/
def tChain (r r' : R2) (ta tb tc : TE) : TE := fun σ H Q => ta σ H fun x H1 => tb σ H1 fun y H2 => r x y H2 fun z H3 => ∃ k, z = .bl k ∧
  (if k = true then tc σ H3 fun w' H4 => r' y w' H4 Q else Q (.bl false) H3)
theorem pt_chain {op op' : CmpOp} {r r' : R2} (ho : OpR X (compareOp op) r) (ho' : OpR X (compareOp op') r') (ha : PE X a ta) (hb : PE X b tb) (hc : PE X c tc)
    (hm : lastMarks [op, op'] [b, c] = false := by with_unfolding_all rfl) : PT X (.Compare a [op, op'] [b, c] pos) (tTest (tChain r r' ta tb tc)) := by
  intro pins s σ H Q I h
  refine isTrue_chain (thn (ha pins s σ H _ I h) fun v s1 ⟨x, H1, I1, r1, q1⟩ => test_link (thn (hb pins s1 σ H1 _ I1 q1) fun u s2 ⟨y, H2, I2, r2, q2⟩ =>
    thn (ho pins s2 σ H2 x y v u _ I2 r1 r2 q2) fun d s3 ⟨z, H3, I3, r3, k, e, q3⟩ => ?_)) hm
  subst e
  cases r3
  refine wpAny_truthy_bool ?_
  cases k with
  | false =>
    obtain ⟨k', e', q'⟩ := q3
    cases e'
    exact ite_ff ⟨H3, I3, q'⟩
  | true =>
    refine ite_tt (test_last (thn (hc pins s3 σ H3 _ I3 q3) fun w' s4 ⟨z', H4, I4, r4, q4⟩ => thn (ho' pins s4 σ H4 y z' u w' _ I4 r2 r4 q4) fun d' s5 ⟨z2, H5, I5, r5, k2, e2, q5⟩ => ?_))
    subst e2
    cases r5
    exact wpAny_truthy_bool ⟨H5, I5, q5⟩

/-! ### truth -/
/-- a value's truth by the abstract heap -/
def TruV (K : PySem.W.Frag) (x : V) (H : Hp) (k : Bool) : Prop :=
  match x with
  | .non => k = false
  | .bl b => k = b
  | .int i => k = (i != 0)
  | .str y => y.length ≤ sizeLine ∧ k = ((y.length : Int) != 0)
  | .byt y => y.size ≤ sizeLine ∧ k = ((y.size : Int) != 0)
  | .ref p => (∃ xs, SqL K H p xs ∧ k = !xs.isEmpty) ∨ (∃ xs, SqT K H p xs ∧ k = !xs.isEmpty) ∨ ∃ kvs, H p = some (.dK kvs) ∧ k = !kvs.isEmpty
  | _ => False
theorem isEmpty_kv {κ : Type} {kvs : List (κ × V)} {vs : List (κ × Value)} (r : KV kvs vs) : (!vs.isEmpty) = !kvs.isEmpty := by
  cases r <;> rfl
theorem isEmpty_of {xs : List V} {its : List Value} (r : Vals xs its) : (!its.toArray.isEmpty) = !xs.isEmpty := by
  cases r <;> simp
theorem line63 : (sizeLine : Nat) < 2 ^ 63 := by rw [sizeLine_eq]; decide
theorem tru_ok : TruR X (fun x H Q => ∃ k, TruV X.K x H k ∧ Q k H) := by
  intro pins s σ H x v Q I rx h
  obtain ⟨k, e, q⟩ := h
  have hl := line63
  have hs : sizeLine = 16777216 := sizeLine_eq
  cases x with
  | non =>
    cases rx
    have e' : k = false := e
    subst e'
    exact truthy_none ⟨H, I, q⟩
  | bl b =>
    cases rx
    have e' : k = b := e
    subst e'
    exact wpAny_truthy_bool ⟨H, I, q⟩
  | int i =>
    obtain ⟨t, rfl⟩ := rx
    have e' : k = (i != 0) := e
    subst e'
    exact PySem.P.truthy_int ⟨H, I, q⟩
  | str y =>
    obtain ⟨t, rfl⟩ := rx
    obtain ⟨hy, e'⟩ : y.length ≤ sizeLine ∧ k = ((y.length : Int) != 0) := e
    subst e'
    exact PySem.P.truthy_str (by omega) ⟨H, I.tok _, q⟩
  | byt y =>
    obtain ⟨t, rfl⟩ := rx
    obtain ⟨hy, e'⟩ : y.size ≤ sizeLine ∧ k = ((y.size : Int) != 0) := e
    subst e'
    exact PySem.W.truthy_bytes (by omega) ⟨H, I.tok _, q⟩
  | ref p =>
    cases rx
    have e' : (∃ xs, SqL X.K H p xs ∧ k = !xs.isEmpty) ∨ (∃ xs, SqT X.K H p xs ∧ k = !xs.isEmpty) ∨ ∃ kvs, H p = some (.dK kvs) ∧ k = !kvs.isEmpty := e
    rcases e' with ⟨xs, hx, e'⟩ | ⟨xs, hx, e'⟩ | ⟨kvs, hx, e'⟩
    · subst e'
      obtain ⟨its, r, pl, hz⟩ := I.list hx
      have hlen := r.length
      exact wpAny_truthy_list pl.isList (by simp only [List.size_toArray]; omega) ⟨H, I.tok _, by rw [isEmpty_of r]; exact q⟩
    · subst e'
      obtain ⟨its, r, pl, hz⟩ := I.tuple hx
      have hlen := r.length
      exact truthy_tuple pl (by simp only [List.size_toArray]; omega) ⟨H, I.tok _, by rw [isEmpty_of r]; exact q⟩
    · subst e'
      obtain ⟨hz, hS, vs, r, m⟩ : kvs.length ≤ sizeLine ∧ (p == sysModules) = false ∧ ∃ vs, KV kvs vs ∧ s.heap.DictOf (mixKind X.prog X.w) p vs := I.hok p _ hx
      have hlen : kvs.length = vs.length := Paired.length r
      exact wpAny_truthy_dict hS m (by omega) ⟨H, I.tok _, by rw [isEmpty_kv r]; exact q⟩
  | _ => exact (show False from e).elim
/-- any expression whose test is its value's truth (a name, a call, a subscript, a field ..: he by fun _ => rfl) -/
theorem pt_truth (ha : PE X a ta) (he : ∀ whole, isTrue a X.env whole = (do let v ← whole; standAt a.pos; holding [v] (truthy v))) :
    PT X a (fun σ H Q => ta σ H fun x H' => ∃ k, TruV X.K x H' k ∧ Q k H') := by
  intro pins s σ H Q I h
  exact isTrue_plain (thn (ha pins s σ H _ I h) fun v s1 ⟨x, H1, I1, r1, q1⟩ => tru_ok pins s1 σ H1 x v Q I1 r1 q1) (he _)

/-! ### strs and bytes -/
/-! ### scalar builtins, by CallR -/
theorem vals1 {x : V} {us : List Value} (r : Vals [x] us) : ∃ u, us = [u] ∧ RelV x u := by
  cases r with
  | cons r1 r2 => cases r2; exact ⟨_, rfl, r1⟩
theorem vals2 {x y : V} {us : List Value} (r : Vals [x, y] us) : ∃ u w', us = [u, w'] ∧ RelV x u ∧ RelV y w' := by
  cases r with
  | cons r1 r2 =>
    cases r2 with
    | cons r3 r4 => cases r4; exact ⟨_, _, rfl, r1, r3⟩
theorem call_max2 (hc : X.calm = true) : CallR X (.builtin "max") (fun xs H Q => ∃ i j, xs = [.int i, .int j] ∧ Q (.int (if j > i then j else i)) H) := by
  intro pins s σ H xs us Q I r h
  obtain ⟨i, j, rfl, q⟩ := h
  obtain ⟨u, w', rfl, ⟨t, rfl⟩, ⟨t', rfl⟩⟩ := vals2 r
  refine max_two_ints (I.ok.hd hc) fun h' tk k => ⟨_, H, I.kept k, ?_, q⟩
  by_cases hj : j > i
  · rw [if_pos hj, if_pos hj]; exact ⟨_, rfl⟩
  · rw [if_neg hj, if_neg hj]; exact ⟨_, rfl⟩
theorem call_min2 (hc : X.calm = true) : CallR X (.builtin "min") (fun xs H Q => ∃ i j, xs = [.int i, .int j] ∧ Q (.int (if j < i then j else i)) H) := by
  intro pins s σ H xs us Q I r h
  obtain ⟨i, j, rfl, q⟩ := h
  obtain ⟨u, w', rfl, ⟨t, rfl⟩, ⟨t', rfl⟩⟩ := vals2 r
  refine min_two_ints (I.ok.hd hc) fun h' tk k => ⟨_, H, I.kept k, ?_, q⟩
  by_cases hj : j < i
  · rw [if_pos hj, if_pos hj]; exact ⟨_, rfl⟩
  · rw [if_neg hj, if_neg hj]; exact ⟨_, rfl⟩
end
end L2

namespace L2
open PySem PySem.Spec PyProof.Rows

/-! ### an instance, its attributes a map -/
structure ObjM (h : Heap) (x dx C : Addr) (mA : Str → Option Value) : Prop where
  obj : h.get? x = some (PySem.W.instObj C dx)
  ns : h.Ns1 dx mA
  ne : dx ≠ x

theorem lookIn_ns {h : Heap} {dx : Addr} {mA : Str → Option Value} (n : h.Ns1 dx mA) : ∃ od, h.get? dx = some od ∧ ∀ name, PySem.W.lookIn name od = some (mA name) := by
  obtain ⟨o, es, ep, ho, hd, hk, _, hm⟩ := n
  refine ⟨o, ho, fun name => ?_⟩
  have e := hm name
  unfold nsFind findBy at e
  rw [← Array.find?_toList] at e
  unfold PySem.W.lookIn
  rw [hd]
  dsimp only
  split
  · rename_i y q
    rw [q] at e
    exact congrArg some e
  · rename_i q
    rw [q] at e
    have a : es.toList.any (·.refKey) = false := by
      rw [List.any_eq_false]
      intro y hy
      obtain ⟨z, t, hkey⟩ := hk y (Array.mem_toList_iff.mp hy)
      simp [DictEntry.refKey, hkey]
    have a' : ¬ es.toList.any (·.refKey) = true := by rw [a]; exact Bool.false_ne_true
    rw [if_neg a']
    exact congrArg some e

theorem ObjM.look {h : Heap} {x dx C : Addr} {mA : Str → Option Value} (I : ObjM h x dx C mA) : ∃ od, PySem.W.InstAt h x (PySem.W.instObj C dx) C (some od) ∧ ∀ name, PySem.W.lookIn name od = some (mA name) :=
  let ⟨od, ho, hl⟩ := lookIn_ns I.ns
  ⟨od, ⟨I.obj, rfl, rfl, ho⟩, hl⟩

section
variable {prog : Program} {w : World} {A : Around} {E : Value → Shared → Prop} {s : Shared} {K : PySem.W.Frag} {x dx C f : Addr} {mA : Str → Option Value} {name : Str} {v : Value}

theorem get_map {expr : Bool} {Q : Value → Shared → Prop} (X : K.In s.heap) (I : ObjM s.heap x dx C mA) (hg : PySem.W.plainGet K C name = true) (hh : PySem.W.hasDictIn K C = true)
    (ha : PySem.W.findIn K (.ref C) name = some none) (hv : mA name = some v) (hv' : PySem.W.handedIn v = true) (h : Q v { s with toks := s.toks + 1 }) :
    wpAny (model prog w) A (getAttr (.ref x) name expr) Q E s := by
  obtain ⟨od, J, hl⟩ := I.look
  exact PySem.W.get_value X J (PySem.W.plainGet_of hg).1 (PySem.W.findObj_own hh ha rfl (by rw [hl, hv])) hv' h

theorem get_meth {pl : Sem Bool} {Q : Value × List Value → Shared → Prop} (X : K.In s.heap) (I : ObjM s.heap x dx C mA) (hg : PySem.W.plainGet K C name = true)
    (hf : PySem.W.findIn K (.ref C) name = some (some (.ref f))) (ht : PySem.W.isFn K (.ref f) = true) (hv : mA name = none) (h : Q (.ref f, [.ref x]) s) :
    wpAny (model prog w) A (getMethod (.ref x) name pl) Q E s := by
  obtain ⟨od, J, hl⟩ := I.look
  exact PySem.W.method_fn X J (PySem.W.plainGet_of hg).1 (PySem.W.plainGet_of hg).2 hf (beq_iff_eq.mp ht) (by show (PySem.W.lookIn name od).map (·.isSome) = some false; rw [hl, hv]; rfl) h

theorem set_map {ns : List Str} {Q : Unit → Shared → Prop} (X : K.In s.heap) (I : ObjM s.heap x dx C mA)
    (hs : PySem.W.findIn K (.ref C) "__setattr__" = some (some (.builtin "object.__setattr__"))) (hp : PySem.W.plainOver K C = true) (ht : PySem.W.takerIn K C name = some none) (hh : PySem.W.hasDictIn K C = true)
    (hw : PySem.Within mA ns) (hsz : ns.length ≤ sizeLine)
    (h : ∀ h', ObjM h' x dx C (fun y => if y = name then some v else mA y) → Heap.SameBut dx s.heap h' → Q () { s with heap := h', toks := s.toks + 2 }) :
    wpAny (model prog w) A (setAttr (.ref x) name v) Q E s := by
  obtain ⟨od, J, hl⟩ := I.look
  refine PySem.W.set_plain X J hs (PySem.W.osa_open (s := { s with toks := s.toks + 1 }) (r := none) X J hp ht fun b => ?_)
  obtain ⟨cd, hc, hd'⟩ := PySem.W.any_some hh
  have hx : s.heap.get? x = some ⟨.ref C, some dx, .plain, #[]⟩ := I.obj
  refine wpAny_bind (wpAny_pure (wpAny_bind (wpAny_bind (wpAny_loadPart hx (wpAny_bind (PySem.W.Looks.here (s := { s with toks := s.toks + 1 }) (PySem.W.looks_clsIn X hc) ?_))))))
  rw [hd']
  refine wpAny_pure (a := some dx) (wpAny_bind (wpAny_pure (wpAny_bind ?_)))
  refine wpAny_nsSet1 (s := { s with toks := s.toks + 1 }) I.ns fun h' hn2 hs2 => ?_
  obtain ⟨oD, esD, epD, hoD, hdD, hcD⟩ := hn2.count (PySem.Within.cons name v hw)
  refine wpAny_bind (wpAny_lookBehind hoD (by rw [hdD]; exact pastItsLine_dict (Nat.le_trans hcD (by rw [List.length_cons]; omega))) ?_)
  exact wpAny_pure (h _ ⟨(hs2.2 _ (Ne.symm I.ne)).trans I.obj, hn2, I.ne⟩ hs2)

/-- C(..): the dict at the heap's end, the instance behind it; then its __init__ -/
theorem make_map {R : Result → Shared → Prop} {vs : List Value} {kw : List (Str × Value)} (X : K.In s.heap) (hm : PySem.W.makesIn K C = true)
    (hi : PySem.W.findIn K (.ref C) "__init__" = some (some (.ref f))) (hf : PySem.W.typeIn K (.ref f) = some (.type "function"))
    (h : codeAny (model prog w) (A.under (.builtin "type.__call__" ⟨.ref C :: vs, kw⟩)) (.call (.ref f) ⟨.ref (s.heap.objs.size + 1) :: vs, kw⟩) (PySem.W.InitBack (s.heap.objs.size + 1) R)
      { s with heap := (s.heap.push PySem.W.emptyDict).push (PySem.W.instObj C s.heap.objs.size) }) :
    codeAny (model prog w) A (.call (.ref C) ⟨vs, kw⟩) R s := by
  obtain ⟨hh, g, d, t, os⟩ := s
  exact PySem.W.make_core (PySem.W.makes_of X hm) (PySem.W.looks_findIn X hi) (fun self => PySem.W.bind_fn X self hf) (.inl rfl) h
end

/-! ### the attributes as a list of pairs -/
def putF (f : Str) (v : V) : List (Str × V) → List (Str × V)
  | [] => [(f, v)]
  | (g, x) :: r => if g = f then (g, v) :: r else (g, x) :: putF f v r
theorem lookup_putF (f g : Str) (v : V) : ∀ fs : List (Str × V), (putF f v fs).lookup g = if g = f then some v else fs.lookup g
  | [] => by
    show List.lookup g [(f, v)] = _
    by_cases h : g = f
    · have hb : (g == f) = true := beq_iff_eq.mpr h
      simp only [List.lookup, hb, if_pos h]
    · have hb : (g == f) = false := beq_eq_false_iff_ne.mpr h
      simp only [List.lookup, hb, if_neg h]
  | (k, x) :: r => by
    have ih := lookup_putF f g v r
    rw [show putF f v ((k, x) :: r) = (if k = f then (k, v) :: r else (k, x) :: putF f v r) from rfl]
    by_cases hk : k = f
    · rw [if_pos hk]
      by_cases h : g = k
      · have hb : (g == k) = true := beq_iff_eq.mpr h
        simp only [List.lookup, hb, if_pos (h.trans hk)]
      · have hb : (g == k) = false := beq_eq_false_iff_ne.mpr h
        simp only [List.lookup, hb, if_neg (fun e : g = f => h (e.trans hk.symm))]
    · rw [if_neg hk]
      by_cases h : g = k
      · have hb : (g == k) = true := beq_iff_eq.mpr h
        simp only [List.lookup, hb, if_neg (fun e : g = f => hk (h.symm.trans e))]
      · have hb : (g == k) = false := beq_eq_false_iff_ne.mpr h
        simp only [List.lookup, hb]
        exact ih
theorem keys_putF (f : Str) (v : V) : ∀ fs : List (Str × V), f ∈ (putF f v fs).map (·.1) ∧ ∀ g, g ∈ fs.map (·.1) → g ∈ (putF f v fs).map (·.1)
  | [] => ⟨by simp [putF], fun g h => by simp at h⟩
  | (k, x) :: r => by
    obtain ⟨i1, i2⟩ := keys_putF f v r
    rw [show putF f v ((k, x) :: r) = (if k = f then (k, v) :: r else (k, x) :: putF f v r) from rfl]
    by_cases hk : k = f
    · rw [if_pos hk]
      subst hk
      exact ⟨by simp, fun g h => by simpa using h⟩
    · rw [if_neg hk]
      refine ⟨?_, fun g h => ?_⟩
      · rw [List.map_cons]
        exact List.mem_cons_of_mem _ i1
      · rw [List.map_cons] at h ⊢
        rcases List.mem_cons.mp h with e | e
        · exact List.mem_cons.mpr (.inl e)
        · exact List.mem_cons_of_mem _ (i2 g e)
theorem length_putF (f : Str) (v : V) : ∀ fs : List (Str × V), (putF f v fs).length ≤ fs.length + 1
  | [] => by simp [putF]
  | (k, x) :: r => by
    have ih := length_putF f v r
    rw [show putF f v ((k, x) :: r) = (if k = f then (k, v) :: r else (k, x) :: putF f v r) from rfl]
    by_cases hk : k = f
    · rw [if_pos hk, List.length_cons, List.length_cons]; omega
    · rw [if_neg hk, List.length_cons, List.length_cons]; omega

theorem RelO.some_of {v : V} {o : Option Value} (r : RelO (some v) o) : ∃ u, o = some u ∧ RelV v u := by
  cases o with
  | none => exact (show False from r).elim
  | some u => exact ⟨u, rfl, r⟩
theorem RelO.none_of {o : Option Value} (r : RelO none o) : o = none := by
  cases o with
  | none => rfl
  | some u => exact (show False from r).elim
theorem handed_of {v : V} {u : Value} (r : RelV v u) : PySem.W.handedIn u = true := by
  cases v with
  | non => cases (show u = Value.none from r); rfl
  | bl b => cases (show u = Value.bool b from r); rfl
  | int i => obtain ⟨t, e⟩ := (show ∃ t, u = Value.int i t from r); cases e; rfl
  | str x => obtain ⟨t, e⟩ := (show ∃ t, u = Value.str x t from r); cases e; rfl
  | byt b => obtain ⟨t, e⟩ := (show ∃ t, u = Value.bytes b t from r); cases e; rfl
  | flt b => obtain ⟨t, e⟩ := (show ∃ t, u = Value.float b t from r); cases e; rfl
  | ref a => cases (show u = Value.ref a from r); rfl
  | ty n => cases (show u = Value.type n from r); rfl

section
variable {P : Program} {w : World} {H H' : Hp} {h h' : Heap} {a C dx : Addr} {fs fs' : List (Str × V)}
theorem ins_get (hok : HOk P w H h) (e : H a = some (.ins C dx fs)) : ∃ mA, ObjM h a dx C mA ∧ (∀ f, RelO (fs.lookup f) (mA f)) ∧ PySem.Within mA (fs.map (·.1)) ∧ fs.length ≤ 1000 ∧ H dx = some (.own a) := by
  obtain ⟨d, z, ne, ob, mA, n, r, q⟩ := (show ObjOk P w H h a (.ins C dx fs) from hok a _ e)
  exact ⟨mA, ⟨ob, n, ne⟩, r, q, z, d⟩
end

/-! ### what of the text a class must have -/
structure Cls (K : PySem.W.Frag) (C : Addr) : Prop where
  pg : PySem.W.plainGet K C Str.empty = true
  hd : PySem.W.hasDictIn K C = true
  po : PySem.W.plainOver K C = true
  sa : PySem.W.findIn K (.ref C) "__setattr__" = some (some (.builtin "object.__setattr__"))
theorem Cls.get {K : PySem.W.Frag} {C : Addr} (c : Cls K C) (f : Str) : PySem.W.plainGet K C f = true := c.pg
/-- no class of it has the name -/
def NoAttr (K : PySem.W.Frag) (C : Addr) (f : Str) : Prop := PySem.W.findIn K (.ref C) f = some none
theorem NoAttr.taker {K : PySem.W.Frag} {C : Addr} {f : Str} (n : NoAttr K C f) : PySem.W.takerIn K C f = some none := by
  unfold PySem.W.takerIn
  rw [show PySem.W.findIn K (.ref C) f = some none from n]
  rfl
/-- a constant of the class -/
structure Con (K : PySem.W.Frag) (C : Addr) (f : Str) (v : V) (u : Value) : Prop where
  at_ : PySem.W.findIn K (.ref C) f = some (some u)
  rel : RelV v u
  get : PySem.W.specialIn K u "__get__" = some none
  cp : PySem.W.copiedNames.contains f = false
/-- a method: a plain def of the class or of one above it -/
structure Meth (K : PySem.W.Frag) (C : Addr) (m : Str) (f : Addr) : Prop where
  at_ : PySem.W.findIn K (.ref C) m = some (some (.ref f))
  fn : PySem.W.isFn K (.ref f) = true
  kp : PySem.W.keepIn K (.ref f) = true

section
variable {X : Cx} {pins : List (Addr × Obj)} {σ : St} {H : Hp} {s : Shared} {a C dx : Addr} {fs : List (Str × V)} {f : Str} {v : V} {A : Around} {E : Value → Shared → Prop}

theorem getattr_ok {b : Bool} {Q : Value → Shared → Prop} (I : Inv X pins σ H s) (e : H a = some (.ins C dx fs)) (c : Cls X.K C) (n : NoAttr X.K C f) (l : fs.lookup f = some v)
    (h : ∀ u s', Inv X pins σ H s' → RelV v u → Q u s') : wpAny (model X.prog X.w) A (getAttr (.ref a) f b) Q E s := by
  obtain ⟨mA, O, r, _, _, _⟩ := ins_get I.hok e
  obtain ⟨u, hu, ru⟩ := RelO.some_of (v := v) (o := mA f) (by rw [← l]; exact r f)
  exact get_map I.kIn O (c.get f) c.hd n hu (handed_of ru) (h u _ (I.tok _) ru)

theorem getmeth_ok {m : Str} {g : Addr} {pl : Sem Bool} {Q : Value × List Value → Shared → Prop} (I : Inv X pins σ H s) (e : H a = some (.ins C dx fs)) (c : Cls X.K C) (k : Meth X.K C m g) (l : fs.lookup m = none)
    (h : Q (.ref g, [.ref a]) s) : wpAny (model X.prog X.w) A (getMethod (.ref a) m pl) Q E s := by
  obtain ⟨mA, O, r, _, _, _⟩ := ins_get I.hok e
  have hn : mA m = none := RelO.none_of (by rw [← l]; exact r m)
  exact get_meth I.kIn O (c.get m) k.at_ k.fn hn h

theorem setattr_ok {y : V} {u : Value} {Q : Unit → Shared → Prop} (I : Inv X pins σ H s) (e : H a = some (.ins C dx fs)) (c : Cls X.K C) (n : NoAttr X.K C f) (hl : fs.length < 1000) (ry : RelV y u)
    (h : ∀ s', Inv X pins σ (upd H a (.ins C dx (putF f y fs))) s' → Q () s') : wpAny (model X.prog X.w) A (setAttr (.ref a) f u) Q E s := by
  obtain ⟨mA, O, r, wi, _, ho⟩ := ins_get I.hok e
  have hz : (fs.map (·.1)).length ≤ sizeLine := by rw [List.length_map, sizeLine_eq]; omega
  refine set_map I.kIn O c.sa c.po n.taker c.hd wi hz fun h' O' sb => h _ ?_
  have hd : ∃ o, h'.get? dx = some o := let ⟨o, _, _, e', _⟩ := O'.ns; ⟨o, e'⟩
  refine I.write (x := a) (e := dx) (by rw [e]; exact True.intro) (.inr ho) (fun b q hb z => (sb.2 b hb).trans z) hd ?_
  refine ⟨by rw [upd_ne O.ne]; exact ho, ?_, O.ne, O'.obj, _, O'.ns, fun g => ?_, fun g hg => ?_⟩
  · have := length_putF f y fs; omega
  · show RelO ((putF f y fs).lookup g) (if g = f then some u else mA g)
    rw [lookup_putF]
    by_cases q : g = f
    · rw [if_pos q, if_pos q]; exact ry
    · rw [if_neg q, if_neg q]; exact r g
  · by_cases q : g = f
    · rw [q]; exact (keys_putF f y fs).1
    · refine (keys_putF f y fs).2 g (wi g fun z => hg ?_)
      show (if g = f then some u else mA g) = none
      rw [if_neg q]; exact z

/-- a new instance, tracked, without attributes -/
theorem Inv.made (I : Inv X pins σ H s) : Inv X pins σ (upd (upd H s.heap.objs.size (.own (s.heap.objs.size + 1))) (s.heap.objs.size + 1) (.ins C s.heap.objs.size []))
    { s with heap := (s.heap.push PySem.W.emptyDict).push (PySem.W.instObj C s.heap.objs.size) } := by
  have e1 : (s.heap.push PySem.W.emptyDict).get? s.heap.objs.size = some PySem.W.emptyDict := Heap.get?_push_size s.heap rfl
  have e2 : ((s.heap.push PySem.W.emptyDict).push (PySem.W.instObj C s.heap.objs.size)).get? (s.heap.objs.size + 1) = some (PySem.W.instObj C s.heap.objs.size) := by
    have := Heap.get?_push_size (s.heap.push PySem.W.emptyDict) (o := PySem.W.instObj C s.heap.objs.size) rfl
    rwa [Heap.size_push] at this
  have e3 : (s.heap.push PySem.W.emptyDict).Ns s.heap.objs.size (fun _ => none) := ⟨PySem.W.emptyDict, #[], _, e1, rfl, (fun e he => absurd he (by simp)), fun _ => rfl⟩
  have I1 := I.laid (a := s.heap.objs.size) (o := .own (s.heap.objs.size + 1)) (h' := s.heap.push PySem.W.emptyDict) (t' := s.toks) (fun b u q => Heap.get?_push_of_some _ q) (Nat.le_refl _) ⟨_, e1⟩
  refine I1.laid (a := s.heap.objs.size + 1) (o := .ins C s.heap.objs.size []) (t' := s.toks) (fun b u q => Heap.get?_push_of_some _ q) (Nat.le_of_eq (Heap.size_push _ _)) ?_
  have ne : s.heap.objs.size ≠ s.heap.objs.size + 1 := Nat.ne_of_lt (Nat.lt_succ_self _)
  refine ⟨by rw [upd_ne ne, upd_same], Nat.zero_le _, ne, e2, fun _ => none, (Heap.Ns1.of_empty e3).at fun o q => Heap.get?_push_of_some _ q, fun _ => True.intro, fun y hy => absurd rfl hy⟩

/-- e.f where nothing but the object is asked: through attributeBase (super) and the last hold -/
theorem attr_of {prog : Program} {w : World} {env : Env} {e : Expr} {f : Str} {pos : Pos} {s : Shared} {Q : Value → Shared → Prop} (hb : attributeBase e f env (eval e env) = eval e env)
    (h : wpAny (model prog w) A (eval e env) (fun o s₁ => wpAny (model prog w) A (getAttr o f true) Q E s₁) E s) : wpAny (model prog w) A (eval (.Attribute e f pos) env) Q E s :=
  Attribute_any_ h (by rw [arm_eval_Attribute, hb])
end

/-! ### readings and rules -/
/-- e.f, an attribute of the instance -/
def tFld (K : PySem.W.Frag) (ta : TE) (f : Str) : TE := fun σ H Q => ta σ H fun x H1 => ∃ a C dx fs v, x = .ref a ∧ H1 a = some (.ins C dx fs) ∧ Cls K C ∧ NoAttr K C f ∧ fs.lookup f = some v ∧ Q v H1
/-- e.f = value -/
def sFld (K : PySem.W.Frag) (ta tv : TE) (f : Str) : TS := fun D σ H => tv σ H fun y H1 => ta σ H1 fun x H2 => ∃ a C dx fs, x = .ref a ∧ H2 a = some (.ins C dx fs) ∧ Cls K C ∧ NoAttr K C f ∧ fs.length < 1000 ∧
  D.nx σ (upd H2 a (.ins C dx (putF f y fs)))
section
variable {X : Cx} {o e value : Expr} {f : Str} {pos pos' tpos : Pos} {ta tv : TE}
theorem pe_fld (he : PE X e ta) (hb : attributeBase e f X.env (eval e X.env) = eval e X.env) : PE X (.Attribute e f pos) (tFld X.K ta f) := by
  intro pins s σ H Q I h
  refine attr_of hb (thn (he pins s σ H _ I h) fun u s1 ⟨x, H1, I1, rx, a, C, dx, fs, v, ex, ea, c, n, l, q⟩ => ?_)
  subst ex
  obtain rfl : u = Value.ref a := rx
  exact getattr_ok I1 ea c n l fun u' s2 I2 ru => ⟨v, H1, I2, ru, q⟩
theorem ps_fld (ha : PE X o ta) (hv : PE X value tv) (hs : swapsWith value (some (.Attribute o f pos')) pos.line X.env = pure false) : PS X (.Assign [.Attribute o f pos'] value pos) (sFld X.K ta tv f) := by
  intro pins s σ H D I h
  refine plainObj_wpAny_Assign_Attribute (thn (hv pins s σ H _ I h) fun u s1 ⟨y, H1, I1, ry, q⟩ => thn (ha pins s1 σ H1 _ I1 q) fun ov s2 ⟨x, H2, I2, rx, a, C, dx, fs, ex, ea, c, n, l, q2⟩ => ?_) hs
  subst ex
  obtain rfl : ov = Value.ref a := rx
  exact setattr_ok I2 ea c n l ry fun s3 I3 => ⟨σ, _, I3, q2⟩
end

/-! ### isinstance -/
section
variable {X : Cx} {pins : List (Addr × Obj)} {σ : St} {H : Hp} {s : Shared} {A : Around} {E : Value → Shared → Prop} {Q : Value → Shared → Prop} {c : Value} {b : Bool}
/-- the type of a value, as the fragment's deciders take it; for an instance its class -/
inductive TyOf (K : PySem.W.Frag) (H : Hp) : V → Value → Prop where
  | non : TyOf K H .non (.type "NoneType")
  | bl (x : Bool) : TyOf K H (.bl x) (.type "bool")
  | int (i : Int) : TyOf K H (.int i) (.type "int")
  | str (x : Str) : TyOf K H (.str x) (.type "str")
  | flt (x : UInt64) : TyOf K H (.flt x) (.type "float")
  | lst {a : Addr} {xs : List V} (e : H a = some (.lst xs)) : TyOf K H (.ref a) (.type "list")
  | frz {a : Addr} {o : Obj} {xs : List V} (e : H a = some (.frz o (.lst xs))) : TyOf K H (.ref a) (.type "list")
  | tup {a : Addr} {xs : List V} (e : H a = some (.tup xs)) : TyOf K H (.ref a) (.type "tuple")
  | dK {a : Addr} {kvs : List (Key × V)} (e : H a = some (.dK kvs)) : TyOf K H (.ref a) (.type "dict")
  | dT {a : Addr} {kvs : List (List Key × V)} (e : H a = some (.dT kvs)) : TyOf K H (.ref a) (.type "dict")
  | ins {a C dx : Addr} {fs : List (Str × V)} (e : H a = some (.ins C dx fs)) (cl : Cls K C) (ha : PySem.W.findIn K (.ref C) "__class__" = some (some (.builtin "object.__class__")))
      (hn : PySem.W.specialIn K (.builtin "object.__class__") "__get__" = some (some (.builtin "getset_descriptor.__get__"))) (htk : PySem.W.takesIn K (.builtin "object.__class__") = some true)
      (hm : PySem.W.mroIn K C (.type "object") = some true) : TyOf K H (.ref a) (.ref C)
/-- isinstance(x, c) for one class c, a built-in or an own one: kitOne's answer -/
theorem isinst_ok {x : V} {u t : Value} (I : Inv X pins σ H s) (rx : RelV x u) (ty : TyOf X.K H x t) (e : PySem.W.kitOne X.K t c = some b) (h : ∀ tk, Q (.bool b) { s with toks := tk }) :
    wpAny (model X.prog X.w) A (call (.builtin "isinstance") [u, c]) Q E s := by
  cases ty with
  | non => cases (show u = Value.none from rx); exact PySem.W.kia_one PySem.W.kitx_none I.kIn True.intro e (fun z => nomatch z) h
  | bl y => cases (show u = Value.bool y from rx); exact PySem.W.kia_one PySem.W.kitx_bool I.kIn True.intro e (fun z => nomatch z) h
  | int i => obtain ⟨t, q⟩ := (show ∃ t, u = Value.int i t from rx); cases q; exact PySem.W.kia_one PySem.W.kitx_int I.kIn True.intro e (fun z => nomatch z) h
  | str y => obtain ⟨t, q⟩ := (show ∃ t, u = Value.str y t from rx); cases q; exact PySem.W.kia_one PySem.W.kitx_str I.kIn True.intro e (fun z => nomatch z) h
  | flt y => obtain ⟨t, q⟩ := (show ∃ t, u = Value.float y t from rx); cases q; exact PySem.W.kia_one PySem.W.kitx_float I.kIn True.intro e (fun z => nomatch z) h
  | @lst a xs ea =>
    cases (show u = Value.ref a from rx)
    obtain ⟨_, _, n, _, h1⟩ := (show ObjOk X.prog X.w H s.heap a (.lst xs) from I.hok a _ ea)
    exact PySem.W.kia_one PySem.W.kitx_list I.kIn ⟨_, h1, rfl⟩ e (fun z => nomatch z) h
  | @frz a ob xs ea =>
    cases (show u = Value.ref a from rx)
    obtain ⟨_, _, _, n, _, h1⟩ := (show ObjOk X.prog X.w H s.heap a (.frz ob (.lst xs)) from I.hok a _ ea)
    exact PySem.W.kia_one PySem.W.kitx_list I.kIn ⟨_, h1, rfl⟩ e (fun z => nomatch z) h
  | @tup a xs ea =>
    cases (show u = Value.ref a from rx)
    obtain ⟨_, _, _, p⟩ := (show ObjOk X.prog X.w H s.heap a (.tup xs) from I.hok a _ ea)
    obtain ⟨o, h1, h2, _⟩ := p
    exact PySem.W.kia_one PySem.W.kitx_tuple I.kIn ⟨o, h1, h2⟩ e (fun z => nomatch z) h
  | @dK a kvs ea =>
    cases (show u = Value.ref a from rx)
    obtain ⟨_, _, vs, _, p⟩ := (show ObjOk X.prog X.w H s.heap a (.dK kvs) from I.hok a _ ea)
    obtain ⟨o, es, ep, h1, h2, _⟩ := p
    exact PySem.W.kia_one PySem.W.kitx_dict I.kIn ⟨o, h1, h2.1⟩ e (fun z => nomatch z) h
  | @dT a kvs ea =>
    cases (show u = Value.ref a from rx)
    obtain ⟨_, _, xs, _, o, es, ep, h1, h2, _⟩ := (show ObjOk X.prog X.w H s.heap a (.dT kvs) from I.hok a _ ea)
    exact PySem.W.kia_one PySem.W.kitx_dict I.kIn ⟨o, h1, h2.1⟩ e (fun z => nomatch z) h
  | @ins a C dx fs ea cl ha hn htk hm =>
    cases (show u = Value.ref a from rx)
    obtain ⟨mA, O, _⟩ := ins_get I.hok ea
    obtain ⟨od, J, _⟩ := O.look
    exact PySem.W.kia_one (PySem.W.kitx_own (cl.get _) cl.hd ha hn htk hm) I.kIn J e (fun z => nomatch z) h
end
end L2

namespace L2
open PySem PySem.Spec PyProof.Rows

/-! ### room -/
structure Room (k : Nat) (A : Around) : Prop where
  hd : A.handled = none
  dp : A.depth + 3 * k + 5 < recursionLimit
  un : A.units + 16 * k + 200 < cLine
theorem Room.mono {j k : Nat} {A : Around} (r : Room k A) (h : j ≤ k) : Room j A := ⟨r.hd, by have := r.dp; omega, by have := r.un; omega⟩
theorem Room.deeper {k : Nat} {A : Around} (r : Room (k + 1) A) (env : Env) : Room k (A.deeper env) :=
  ⟨r.hd, by have := r.dp; show A.depth + 1 + 3 * k + 5 < _; omega, by have := r.un; show A.units + 3 + 16 * k + 200 < _; omega⟩
theorem make_depth {A : Around} {C : Addr} {us : List Value} {kw : List (Str × Value)} : (A.under (.builtin "type.__call__" ⟨.ref C :: us, kw⟩)).depth = A.depth + 1 := by
  first | rfl | simp [Around.under, Code.weight, Code.isCreation, Code.isGuard, Code.isCaller, Code.frames, Code.isFrame, guardIds]
theorem make_units {A : Around} {C : Addr} {us : List Value} {kw : List (Str × Value)} : (A.under (.builtin "type.__call__" ⟨.ref C :: us, kw⟩)).units = A.units + 1 := by
  first | rfl | simp [Around.under, Code.cUnits, Code.frames, Code.isFrame]
theorem Room.make {k : Nat} {A : Around} (r : Room (k + 1) A) (C : Addr) (us : List Value) (kw : List (Str × Value)) : Room k (A.under (.builtin "type.__call__" ⟨.ref C :: us, kw⟩)) :=
  ⟨r.hd, by have := r.dp; rw [make_depth]; omega, by have := r.un; rw [make_units]; omega⟩
theorem Room.depth {k : Nat} {A : Around} (r : Room k A) : A.depth < recursionLimit := by have := r.dp; omega
theorem Room.units {k : Nat} {A : Around} (r : Room k A) : A.units + 64 < cLine := by have := r.un; omega
/-! ### argument lists and displays -/
def tNil : TA := fun _ H Q => Q [] H
def tCons (ta : TE) (tr : TA) : TA := fun σ H Q => ta σ H fun x H1 => tr σ H1 fun xs H2 => Q (x :: xs) H2
section
variable {X : Cx} {e : Expr} {es : List Expr} {te : TE} {t : TA} {pos : Pos}
theorem pa_nil : PA X [] tNil := fun _ _ _ _ H Q I h => Calls.spliced_nil ⟨[], H, I, .nil, h⟩
theorem pa_cons (ha : PE X e te) (hr : PA X es t) (hs : starEach (e :: es) X.env = (false, eval e X.env) :: starEach es X.env := by rfl) : PA X (e :: es) (tCons te t) := by
  intro pos pins s σ H Q I h
  rw [hs]
  show wpAny _ _ (spliced ((false, eval e X.env) :: backTo pos (starEach es X.env))) _ _ s
  refine Calls.spliced_cons (thn (ha pins s σ H _ I h) fun u s1 ⟨x, H1, I1, r1, q1⟩ => ?_)
  exact thn (hr pos pins s1 σ H1 _ I1 q1) fun us s2 ⟨xs, H2, I2, r2, q2⟩ => ⟨x :: xs, H2, I2, .cons r1 r2, q2⟩

/-- a tuple, a list of written items -/
def tTup (t : TA) : TE := fun σ H Q => t σ H fun xs H1 => xs.length ≤ sizeLine ∧ ∀ p, H1 p = none → Q (.ref p) (upd H1 p (.tup xs))
def tLst (t : TA) : TE := fun σ H Q => t σ H fun xs H1 => xs.length ≤ sizeLine ∧ ∀ p, H1 p = none → Q (.ref p) (upd H1 p (.lst xs))
theorem pe_tup {x1} (h : PA X es t) : PE X (.Tuple es x1 pos) (tTup t) := by
  intro pins s σ H Q I hq
  refine wpAny_Tuple_spliced (thn (h pos pins s σ H _ I hq) fun us s1 ⟨xs, H1, I1, r, z, q⟩ => ⟨by rw [← r.length]; exact z, ?_⟩)
  have hf : H1 s1.heap.objs.size = none := I1.hok.fresh (Nat.le_refl _)
  refine ⟨.ref s1.heap.objs.size, upd H1 s1.heap.objs.size (.tup xs), I1.laid (t' := s1.toks) (fun b u e => Heap.get?_push_of_some _ e) (Nat.le_refl _) ?_, rfl, q _ hf⟩
  exact ⟨z, us, r, ⟨_, Heap.get?_push_size _ rfl, rfl, _, rfl⟩⟩
theorem pe_lst (h : PA X es t) : PE X (.List es pos) (tLst t) := by
  intro pins s σ H Q I hq
  refine wpAny_List_spliced (thn (h pos pins s σ H _ I hq) fun us s1 ⟨xs, H1, I1, r, z, q⟩ => ⟨by rw [← r.length]; exact z, ?_⟩)
  have hf : H1 s1.heap.objs.size = none := I1.hok.fresh (Nat.le_refl _)
  refine ⟨.ref s1.heap.objs.size, upd H1 s1.heap.objs.size (.lst xs), I1.laid (t' := s1.toks) (fun b u e => Heap.get?_push_of_some _ e) (Nat.le_refl _) ?_, rfl, q _ hf⟩
  exact ⟨z, us, 0, r, Heap.get?_push_size _ rfl⟩
end

/-! ### what a def promises -/
/-- a def's promise: the bound arguments in the parameters' order, the heap, the wanted end, the wanted exception -/
abbrev Sp := List V → Hp → VK → XK → Prop
/-- how an exception lies behind a call (file 08 gives it): the callers' frames, abstract heap and state ahead of the call, the wish, the exception, the state -/
abbrev CXT := List Env → Hp → Shared → XK → Value → Shared → Prop

/-- the state at a call -/
structure Env0 (P : Program) (w : World) (K : PySem.W.Frag) (mg : Str → Option Value) (base : Heap) (A : Around) (outer : List Env) (s : Shared) (H : Hp) : Prop where
  frames : A.frames = some outer
  mod : Mod K mg base
  bs : ∀ b o, base.get? b = some o → s.heap.get? b = some o ∧ H b = none
  bsz : base.objs.size ≤ s.heap.objs.size
  funs : s.heap.FunFrames base outer
  frf : ∀ b ∈ frs outer, H b = none
  hok : HOk P w H s.heap
  bare : AllBare s.gens
/-- a call's end -/
def CE (outer : List Env) (P : Program) (w : World) (H : Hp) (s : Shared) (Q : VK) (u : Value) (s' : Shared) : Prop :=
  ∃ v H', s'.os = s.os ∧ AllBare s'.gens ∧ Un (frs outer) [] H H' s.heap s'.heap ∧ HOk P w H' s'.heap ∧ RelV v u ∧ Q v H'
def CR (CX : CXT) (outer : List Env) (P : Program) (w : World) (H : Hp) (s : Shared) (Q : VK) (E : XK) (r : Result) (s' : Shared) : Prop :=
  match r with
  | .ok (.ret u) => CE outer P w H s Q u s'
  | .ok _ => False
  | .error e => CX outer H s E e s'
structure FnOk (P : Program) (w : World) (K : PySem.W.Frag) (mg : Str → Option Value) (base : Heap) (CX : CXT) (k : Nat) (f : Addr) (fd : FuncData) (ps : List Str) (sp : Sp) : Prop where
  len : ∀ vs H Q E, sp vs H Q E → vs.length = ps.length
  run : ∀ (A : Around) (outer : List Env) (s : Shared) (H : Hp) (args : Args) (us : List Value) (vs : List V) (Q : VK) (E : XK), Room k A → Env0 P w K mg base A outer s H → BindsTo s fd args (ps.zip us) → Vals vs us → sp vs H Q E →
    codeAny (model P w) A (.call (.ref f) args) (CR CX outer P w H s Q E) s
/-- a weaker promise -/
theorem FnOk.imp {P : Program} {w : World} {K : PySem.W.Frag} {mg : Str → Option Value} {base : Heap} {CX : CXT} {k : Nat} {f : Addr} {fd : FuncData} {ps : List Str} {sp sp' : Sp} (F : FnOk P w K mg base CX k f fd ps sp)
    (h : ∀ vs H Q E, sp' vs H Q E → sp vs H Q E) : FnOk P w K mg base CX k f fd ps sp' :=
  ⟨fun vs H Q E q => F.len vs H Q E (h _ _ _ _ q), fun A outer s H args us vs Q E hr he hb hv hs => F.run A outer s H args us vs Q E hr he hb hv (h _ _ _ _ hs)⟩

theorem Env0.make {P : Program} {w : World} {K : PySem.W.Frag} {mg : Str → Option Value} {base : Heap} {A : Around} {outer : List Env} {s : Shared} {H : Hp} (e : Env0 P w K mg base A outer s H) (C : Addr) (us : List Value) (kw : List (Str × Value)) :
    Env0 P w K mg base (A.under (.builtin "type.__call__" ⟨.ref C :: us, kw⟩)) outer s H := ⟨by first | exact e.frames | (simpa [Around.under, Code.envs, Code.isFrame, pushEnvs] using e.frames), e.mod, e.bs, e.bsz, e.funs, e.frf, e.hok, e.bare⟩
section
variable {X : Cx} {pins : List (Addr × Obj)} {σ : St} {H : Hp} {s s' : Shared}
/-- from a body: what a callee wants -/
theorem Inv.env0 (I : Inv X pins σ H s) : Env0 X.prog X.w X.K X.mg X.base X.A X.stack s H :=
  ⟨I.ok.frames, I.ok.mod, I.bs, Nat.le_trans I.ok.bsz I.sz, I.stack, I.stkFree, I.hok, I.bare⟩
/-- behind a call -/
theorem Inv.after {Q : VK} {u : Value} (I : Inv X pins σ H s) (h : CE X.stack X.prog X.w H s Q u s') : EP X pins σ Q u s' := by
  obtain ⟨v, H', os, bare, un, hok, r, q⟩ := h
  obtain ⟨hh, g, d, t, os'⟩ := s'
  obtain rfl : os' = s.os := os
  exact ⟨v, H', I.call (h' := hh) (g' := g) (d' := d) (t' := t) (ch := []) un hok bare (fun b z => absurd z (by simp)), r, q⟩
end

/-! ### calls -/
/-- f(..): the written arguments, then the defaults dvs; E: what is wanted of an exception -/
def tCall (sp : Sp) (dvs : List V) (E : XK) (t : TA) : TE := fun σ H Q => t σ H fun vs H1 => sp (vs ++ dvs) H1 Q E
/-- o.m(..) of an instance of the class at C -/
def tMeth (C : Addr) (m : Str) (sp : Sp) (dvs : List V) (E : XK) (ta : TE) (t : TA) : TE := fun σ H Q => ta σ H fun x H1 => ∃ a dx fs, x = .ref a ∧ H1 a = some (.ins C dx fs) ∧ fs.lookup m = none ∧
  t σ H1 fun vs H2 => sp (x :: (vs ++ dvs)) H2 Q E
/-- C(..): a new instance and its dict, then __init__ -/
def tMake (C : Addr) (sp : Sp) (dvs : List V) (E : XK) (t : TA) : TE := fun σ H Q => t σ H fun vs H1 => ∀ x dx, H1 x = none → H1 dx = none → dx ≠ x →
  sp (.ref x :: (vs ++ dvs)) (upd (upd H1 dx (.own x)) x (.ins C dx [])) (fun v H2 => v = .non ∧ Q (.ref x) H2) E

/-- how the parameters are bound: us the positional arguments, kw the keywords' values by name, ds the defaults that fill up -/
def Binds (K : PySem.W.Frag) (fd : FuncData) (ps : List Str) (ds : List Value) : Prop :=
  ∀ (s : Shared) (us : List Value), K.In s.heap → (us ++ ds).length = ps.length → BindsTo s fd ⟨us, []⟩ (ps.zip (us ++ ds))
/-- every parameter is given -/
theorem Binds.all {K : PySem.W.Frag} {fd : FuncData} {ps : List Str} (h : ∀ us : List Value, us.length = ps.length → bindArgs fd ⟨us, []⟩ = pure (ps.zip us)) : Binds K fd ps [] := fun s us _ hl => by
  rw [List.append_nil] at hl ⊢
  exact .of_eq (h us hl)

/-- an exception of a callee reaches what this body wants of exceptions -/
def Passes (CX : CXT) (X : Cx) (E : XK) : Prop := ∀ (pins : List (Addr × Obj)) (σ : St) (H : Hp) (s : Shared) (e : Value) (s' : Shared), Inv X pins σ H s → CX X.stack H s E e s' → X.xe e s'

section
variable {X : Cx} {CX : CXT} {k : Nat} {f C : Addr} {fd : FuncData} {ps : List Str} {sp : Sp} {dvs : List V} {ds : List Value} {E : XK} {x m : Str} {p pos apos : Pos} {e o : Expr} {es : List Expr} {ta : TE} {t : TA}

/-- the callee runs -/
theorem run_fn {pins : List (Addr × Obj)} {σ : St} {H : Hp} {s : Shared} {Q : VK} {us : List Value} {vs : List V} (F : FnOk X.prog X.w X.K X.mg X.base CX k f fd ps sp) (hr : Room k X.A) (hb : Binds X.K fd ps ds) (hd : Vals dvs ds) (hx : Passes CX X E)
    (I : Inv X pins σ H s) (r : Vals vs us) (h : sp (vs ++ dvs) H Q E) : wpAny (model X.prog X.w) X.A (call (.ref f) us) (EP X pins σ Q) X.xe s := by
  have r2 : Vals (vs ++ dvs) (us ++ ds) := r.append hd
  have hl : (us ++ ds).length = ps.length := by rw [← r2.length]; exact F.len _ _ _ _ h
  refine wpAny_call (codeAny_mono (F.run X.A X.stack s H ⟨us, []⟩ (us ++ ds) (vs ++ dvs) Q E hr I.env0 (hb s us I.kIn hl) r2 h) fun r s' hq => ?_)
  cases r with
  | error e => exact hx pins σ H s e s' I hq
  | ok fl =>
    cases fl with
    | ret u => exact I.after hq
    | next => exact False.elim hq
    | brk => exact False.elim hq
    | cont => exact False.elim hq

theorem pe_call (F : FnOk X.prog X.w X.K X.mg X.base CX k f fd ps sp) (hr : Room k X.A) (hg : Gl X x) (hm : X.mg x = some (.ref f)) (hk : PySem.W.keepIn X.K (.ref f) = true) (hb : Binds X.K fd ps ds) (hd : Vals dvs ds) (hx : Passes CX X E)
    (ha : PA X (e :: es) t) (hdb : (x == ("__debug__" : Str)) = false := by decide) (he : starEach (e :: es) X.env = (false, eval e X.env) :: starEach es X.env := by rfl) (hpl : (backTo pos (starEach es X.env)).any (·.1) = false := by rfl) :
    PE X (.Call (.Name x p) (e :: es) [] pos) (tCall sp dvs E t) := by
  intro pins s σ H Q I h
  refine wpAny_Call_Name_kw (ld_glob I hg hm ?_ hdb)
  refine PySem.W.callWith_K (h₀ := X.base) I.ok.mod.kin hk (thn (ha pos pins s σ H _ I h) fun us s1 ⟨vs, H1, I1, r, q⟩ => ⟨I1.kIn, ?_⟩) he hpl
  exact run_fn F hr hb hd hx I1 r q
/-- o.m(e, ..) -/
theorem pe_meth {pl : Sem Bool} (he : PE X o ta) (c : Cls X.K C) (hm : Meth X.K C m f) (F : FnOk X.prog X.w X.K X.mg X.base CX k f fd ps sp) (hr : Room k X.A) (hb : Binds X.K fd ps ds) (hd : Vals dvs ds) (hx : Passes CX X E) (ha : PA X (e :: es) t)
    (hst : starEach (e :: es) X.env = (false, eval e X.env) :: starEach es X.env := by rfl) (hpl : (backTo pos (starEach es X.env)).any (·.1) = false := by rfl)
    (ht : eval (.Call (.Attribute o m apos) (e :: es) [] pos) X.env = (do
      let ov ← eval o X.env
      standAt apos.atName
      let (f, first) ← holding [ov] (getMethod ov m pl)
      callWith pos f first (backTo pos (starEach (e :: es) X.env)) (backToKw pos (keywordEach [] X.env))) := by rfl) :
    PE X (.Call (.Attribute o m apos) (e :: es) [] pos) (tMeth C m sp dvs E ta t) := by
  intro pins s σ H Q I h
  refine PySem.W.methodCall_KW (pl := pl) (thn (he pins s σ H _ I h) fun u s1 ⟨x, H1, I1, rx, a, dx, fs, ex, ea, l, q⟩ => ?_) ht
  subst ex
  obtain rfl : u = Value.ref a := rx
  refine getmeth_ok I1 ea c hm l ?_
  refine PySem.W.callWith_K (first := [.ref a]) (h₀ := X.base) I.ok.mod.kin hm.kp (thn (ha pos pins s1 σ H1 _ I1 q) fun us s2 ⟨vs, H2, I2, r, q2⟩ => ⟨I2.kIn, ?_⟩) hst hpl
  exact run_fn (us := .ref a :: us) (vs := .ref a :: vs) F hr hb hd hx I2 (.cons rfl r) q2
/-- what a class must have to be made -/
structure Mk (K : PySem.W.Frag) (C f : Addr) : Prop where
  makes : PySem.W.makesIn K C = true
  init : PySem.W.findIn K (.ref C) "__init__" = some (some (.ref f))
  fn : PySem.W.isFn K (.ref f) = true
  kp : PySem.W.keepIn K (.ref C) = true

theorem run_make {pins : List (Addr × Obj)} {σ : St} {H : Hp} {s : Shared} {Q : VK} {us : List Value} {vs : List V} (M : Mk X.K C f) (F : FnOk X.prog X.w X.K X.mg X.base CX k f fd ps sp) (hr : Room (k + 1) X.A) (hb : Binds X.K fd ps ds) (hd : Vals dvs ds)
    (hx : Passes CX X E) (I : Inv X pins σ H s) (r : Vals vs us)
    (h : ∀ x dx, H x = none → H dx = none → dx ≠ x → sp (.ref x :: (vs ++ dvs)) (upd (upd H dx (.own x)) x (.ins C dx [])) (fun v H2 => v = .non ∧ Q (.ref x) H2) E) :
    wpAny (model X.prog X.w) X.A (call (.ref C) us) (EP X pins σ Q) X.xe s := by
  have hq := h (s.heap.objs.size + 1) s.heap.objs.size (I.hok.fresh (Nat.le_succ _)) (I.hok.fresh (Nat.le_refl _)) (Nat.ne_of_lt (Nat.lt_succ_self _))
  have I2 := Inv.made (C := C) I
  have r2 : Vals (V.ref (s.heap.objs.size + 1) :: (vs ++ dvs)) (Value.ref (s.heap.objs.size + 1) :: (us ++ ds)) := .cons rfl (r.append hd)
  have hl : (Value.ref (s.heap.objs.size + 1) :: us ++ ds).length = ps.length := by
    have e := r2.length
    rw [F.len _ _ _ _ hq] at e
    exact e.symm
  refine wpAny_call (make_map (f := f) I.kIn M.makes M.init (beq_iff_eq.mp M.fn) (codeAny_mono (F.run _ X.stack _ _ ⟨Value.ref (s.heap.objs.size + 1) :: us, []⟩ (Value.ref (s.heap.objs.size + 1) :: (us ++ ds)) _ _ E (hr.make C us [])
    (I2.env0.make C us []) (hb _ (Value.ref (s.heap.objs.size + 1) :: us) I2.kIn hl) r2 hq) fun r s' hq' => ?_))
  cases r with
  | error e => exact hx pins σ _ _ e s' I2 hq'
  | ok fl =>
    cases fl with
    | ret u =>
      obtain ⟨v, H', I3, rv, ev, q3⟩ := I2.after hq'
      subst ev
      exact ⟨rv, ⟨V.ref (s.heap.objs.size + 1), H', I3, rfl, q3⟩⟩
    | next => exact False.elim hq'
    | brk => exact False.elim hq'
    | cont => exact False.elim hq'
theorem pe_make (M : Mk X.K C f) (F : FnOk X.prog X.w X.K X.mg X.base CX k f fd ps sp) (hr : Room (k + 1) X.A) (hg : Gl X x) (hm : X.mg x = some (.ref C)) (hb : Binds X.K fd ps ds) (hd : Vals dvs ds) (hx : Passes CX X E)
    (ha : PA X (e :: es) t) (hdb : (x == ("__debug__" : Str)) = false := by decide) (he : starEach (e :: es) X.env = (false, eval e X.env) :: starEach es X.env := by rfl) (hpl : (backTo pos (starEach es X.env)).any (·.1) = false := by rfl) :
    PE X (.Call (.Name x p) (e :: es) [] pos) (tMake C sp dvs E t) := by
  intro pins s σ H Q I h
  refine wpAny_Call_Name_kw (ld_glob I hg hm ?_ hdb)
  refine PySem.W.callWith_K (h₀ := X.base) I.ok.mod.kin M.kp (thn (ha pos pins s σ H _ I h) fun us s1 ⟨vs, H1, I1, r, q⟩ => ⟨I1.kIn, ?_⟩) he hpl
  exact run_make M F hr hb hd hx I1 r q
end

/-! ### keywords -/
section
variable {X : Cx} {CX : CXT} {k : Nat} {f C : Addr} {fd : FuncData} {ps ks : List Str} {sp : Sp} {E : XK} {x m : Str} {p pos apos kpos : Pos} {e o : Expr} {es : List Expr} {kws : List Keyword} {te ta : TE} {t tk : TA} {nm : Option Str}
/-- how a call with keywords binds: g puts the positional values us and the keywords' values ws (names ks) in the parameters' order, defaults among them -/
structure KBinds (K : PySem.W.Frag) (fd : FuncData) (ps ks : List Str) (g : List Value → List Value → List Value) (gV : List V → List V → List V) : Prop where
  to : ∀ (s : Shared) (us ws : List Value), K.In s.heap → (g us ws).length = ps.length → BindsTo s fd ⟨us, ks.zip ws⟩ (ps.zip (g us ws))
  rel : ∀ {vs : List V} {us : List Value} {zs : List V} {ws : List Value}, Vals vs us → Vals zs ws → Vals (gV vs zs) (g us ws)
variable {g : List Value → List Value → List Value} {gV : List V → List V → List V}
end

/-! ### a def's body keeps its promise -/
/-- names: the parameters first -/
structure FnScope (N P : List Str) (sc : Scope) : Prop where
  kind : sc.kind = .function
  co : sc.isCoroutine = false
  gen : sc.isGenerator = false
  nd : N.Nodup
  pre : N.take P.length = P
  par : ∀ x ∈ P, sc.names.lookup x = some .local ∨ sc.names.lookup x = some .cell
  nofree : ∀ y ∈ sc.names, y.2 ≠ .free

theorem bindL_out {kindOf : Str → Option NameKind} {x : Str} : ∀ {binds : List (Str × Value)} {m : Str → Option Value}, (∀ v, (x, v) ∉ binds) → bindL kindOf binds m x = m x
  | [], _, _ => rfl
  | (n, v) :: r, m, h => by
    unfold bindL
    rw [bindL_out fun w hw => h w (List.mem_cons_of_mem _ hw)]
    split
    · have : x ≠ n := by rintro rfl; exact h v List.mem_cons_self
      simp [this]
    · rfl
theorem bindC_out {kindOf : Str → Option NameKind} {x : Str} : ∀ {binds : List (Str × Value)} {m : Str → Option Value}, (∀ v, (x, v) ∉ binds) → bindC kindOf binds m x = m x
  | [], _, _ => rfl
  | (n, v) :: r, m, h => by
    unfold bindC
    rw [bindC_out fun w hw => h w (List.mem_cons_of_mem _ hw)]
    split
    · rfl
    · have : x ≠ n := by rintro rfl; exact h v List.mem_cons_self
      simp [this]
theorem bindL_get {kindOf : Str → Option NameKind} {x : Str} {v : Value} : ∀ {P : List Str} {vs : List Value} {i : Nat} {m : Str → Option Value}, P.Nodup → P[i]? = some x → vs[i]? = some v → kindOf x = some .local →
    bindL kindOf (P.zip vs) m x = some v
  | [], _, _, _, _, h, _, _ => by simp at h
  | _ :: _, [], _, _, _, _, h, _ => by simp at h
  | p :: P, w :: vs, 0, m, nd, h1, h2, hk => by
    simp at h1 h2; subst h1; subst h2
    show bindL kindOf ((p, w) :: P.zip vs) m p = _
    unfold bindL
    rw [bindL_out fun v hv => (List.nodup_cons.mp nd).1 (List.of_mem_zip hv).1, if_pos hk]
    simp
  | p :: P, w :: vs, i + 1, m, nd, h1, h2, hk => by
    show bindL kindOf ((p, w) :: P.zip vs) m x = _
    unfold bindL
    exact bindL_get (i := i) (List.nodup_cons.mp nd).2 (by simpa using h1) (by simpa using h2) hk
theorem bindC_get {kindOf : Str → Option NameKind} {x : Str} {v : Value} : ∀ {P : List Str} {vs : List Value} {i : Nat} {m : Str → Option Value}, P.Nodup → P[i]? = some x → vs[i]? = some v → kindOf x ≠ some .local →
    bindC kindOf (P.zip vs) m x = some v
  | [], _, _, _, _, h, _, _ => by simp at h
  | _ :: _, [], _, _, _, _, h, _ => by simp at h
  | p :: P, w :: vs, 0, m, nd, h1, h2, hk => by
    simp at h1 h2; subst h1; subst h2
    show bindC kindOf ((p, w) :: P.zip vs) m p = _
    unfold bindC
    rw [bindC_out fun v hv => (List.nodup_cons.mp nd).1 (List.of_mem_zip hv).1, if_neg hk]
    simp
  | p :: P, w :: vs, i + 1, m, nd, h1, h2, hk => by
    show bindC kindOf ((p, w) :: P.zip vs) m x = _
    unfold bindC
    exact bindC_get (i := i) (List.nodup_cons.mp nd).2 (by simpa using h1) (by simpa using h2) hk

/-- the names' values at the entry -/
def start (N : List Str) (vs : List V) : St := vs.map some ++ List.replicate (N.length - vs.length) none

/-- the context of a def's body, at its entry; an exception leaves the frame, then lies as CX says -/
def cxOf (CX : CXT) (P : Program) (w : World) (K : PySem.W.Frag) (mg : Str → Option Value) (base : Heap) (N : List Str) (qual : Str) (scope : Scope) (f : Addr) (cd : Value) (A : Around) (outer : List Env) (s : Shared) (H : Hp) (E : XK) : Cx where
  prog := P
  w := w
  K := K
  mg := mg
  base := base
  A := A.deeper (envOfC qual scope s.heap.objs.size f cd)
  N := N
  s₀ := s
  H₀ := H
  env := envOfC qual scope s.heap.objs.size f cd
  outer := outer
  stack := envOfC qual scope s.heap.objs.size f cd :: outer
  ex := []
  calm := true
  fn := fun _ => true
  pn := []
  xe := fun e s' => wpAny (model P w) (A.deeper (envOfC qual scope s.heap.objs.size f cd)) (leaving (envOfC qual scope s.heap.objs.size f cd) e) (fun _ s'' => CX outer H s E e s'') (fun e' s'' => CX outer H s E e' s'') s'

theorem cell_has {sc : Scope} {n : Nat} {x : Str} (h : sc.names.lookup x = some .cell) : ∃ c, (cellsFrom n sc.names []).lookup x = some c := by
  have q := PySem.W.cellsFrom_some sc.names n [] (.inl h)
  exact Option.isSome_iff_exists.mp q

theorem inv_start {CX : CXT} {P : Program} {w : World} {K : PySem.W.Frag} {mg : Str → Option Value} {base : Heap} {N ps : List Str} {qual : Str} {scope : Scope} {f : Addr} {cd : Value} {A : Around} {outer : List Env} {s s1 : Shared} {H : Hp} {E : XK} {us : List Value} {vs : List V}
    (S : FnScope N ps scope) (hd : A.handled = none) (e0 : Env0 P w K mg base A outer s H) (hl : vs.length = ps.length) (r : Vals vs us)
    (x : InCallC s s.heap.objs.size (bindL (envOfC qual scope s.heap.objs.size f cd).kindOf (ps.zip us) fun _ => none) (cellsFrom (s.heap.objs.size + 1) scope.names []) (bindC (envOfC qual scope s.heap.objs.size f cd).kindOf (ps.zip us) fun _ => none) s1) :
    Inv (cxOf CX P w K mg base N qual scope f cd A outer s H E) [] (start N vs) H s1 := by
  have hpl : ps.length ≤ N.length := by have := congrArg List.length S.pre; rw [List.length_take] at this; omega
  obtain ⟨h1, tk, rfl, hk⟩ := x.done
  have noA : ∀ b : Addr, b ∉ (cxOf CX P w K mg base N qual scope f cd A outer s H E).ex := fun b z => absurd (show b ∈ ([] : List Addr) from z) (by simp)
  refine ⟨⟨e0.mod, S.kind, rfl, rfl, Nat.le_refl _, fun y z c h1 h2 => ?_, fun y hy => ?_, fun y c _ h => ?_, fun _ => hd, Around.frames_deeper e0.frames, .inr ⟨rfl, rfl⟩, fun b z => absurd z (noA b), e0.bs, e0.bsz, fun b _ _ => noA b, fun b z => absurd z (noA b), e0.funs, e0.frf⟩,
    rfl, e0.bare, Un.kept hk, ⟨_, x.toInCall.ns, fun i y v h1 h2 h3 => ?_⟩, fun y c h => ⟨_, x.cell y c h⟩, e0.hok.fresh (Nat.le_refl _), fun y c h => ?_, fun p hp => absurd (show p ∈ ([] : List (Addr × Obj)) from hp) (by simp), e0.hok.kept hk, ?_⟩
  · exact name_of_addr x.apart (PySem.mem_of_lookup h1) (PySem.mem_of_lookup h2)
  · have hy : scope.names.lookup y = some .cell ∨ scope.names.lookup y = some .free := hy
    rcases hy with hy | hy
    · exact cell_has hy
    · exact absurd rfl (S.nofree _ (PySem.mem_of_lookup hy))
  · exact Nat.le_of_lt (x.above y c (PySem.mem_of_lookup h))
  · have hi : i < vs.length := by
      unfold start at h2
      by_cases hi : i < vs.length
      · exact hi
      · rw [List.getElem?_append_right (by simpa using hi)] at h2
        rw [List.getElem?_replicate] at h2
        split at h2 <;> cases h2
    have ha : vs[i]? = some v := by
      unfold start at h2
      rw [List.getElem?_append_left (by simpa using hi), List.getElem?_map] at h2
      cases e : vs[i]? with
      | none => rw [e] at h2; cases h2
      | some a => rw [e] at h2; cases h2; rfl
    obtain ⟨u, hu, rv⟩ := r.get ha
    have hp : ps[i]? = some y := by
      rw [← S.pre, List.getElem?_take_of_lt (by omega)]; exact h1
    have ndP : ps.Nodup := by rw [← S.pre]; exact S.nd.sublist (List.take_sublist _ _)
    refine ⟨u, rv, ?_⟩
    rcases S.par y (List.mem_of_getElem? hp) with k | k
    · exact .inl ⟨k, bindL_get ndP hp hu k⟩
    · obtain ⟨c, e⟩ := cell_has (n := s.heap.objs.size + 1) k
      refine .inr ⟨.inl k, c, e, ?_⟩
      have q := x.cell y c e
      rw [bindC_get ndP hp hu (by show scope.names.lookup y ≠ _; rw [k]; decide)] at q
      exact q
  · exact e0.hok.fresh (Nat.le_of_lt (x.above y c (PySem.mem_of_lookup h)))
  · unfold start
    show _ = N.length
    rw [List.length_append, List.length_map, List.length_replicate]
    omega

/-- THE RULE: a def (or a method) of the text, by its body. The body's reading t is chosen for each entry; it is run at the parameters' values -/
theorem fn_of {CX : CXT} {P : Program} {w : World} {K : PySem.W.Frag} {mg : Str → Option Value} {base : Heap} {k : Nat} {f : Addr} {name qual : Str} {params : Arguments} {body : List Stmt} {scope : Scope} {dV kV doc pm cdv ct oc : Value} {an od : Option Addr}
    {osl : Array (Option Value)} {N ps : List Str} {sp : Sp} (lk : K.lookup f = some ⟨oc, od, .func (PySem.W.fnOf name qual params body scope dV kV doc pm an cdv ct), osl⟩) (hcd : PySem.W.codeIn K cdv qual = true) (S : FnScope N ps scope)
    (len : ∀ vs H Q E, sp vs H Q E → vs.length = ps.length)
    (hbody : ∀ (A : Around) (outer : List Env) (s : Shared) (H : Hp) (vs : List V) (Q : VK) (E : XK), Room k (A.deeper (envOfC qual scope s.heap.objs.size f cdv)) → sp vs H Q E →
      ∃ t, PSs (cxOf CX P w K mg base N qual scope f cdv A outer s H E) body t ∧ t { nx := fun _ H' => Q .non H', rt := Q } (start N vs) H) :
    FnOk P w K mg base CX (k + 1) f (PySem.W.fnOf name qual params body scope dV kV doc pm an cdv ct) ps sp := by
  refine ⟨len, fun A outer s H args us vs Q E hr e0 hb r hsp => ?_⟩
  have hl := len _ _ _ _ hsp
  have KX : K.In s.heap := e0.mod.kin.keeps fun b o e => (e0.bs b o e).1
  have lim : s.heap.NoLimit := e0.mod.nolimit.keeps fun b o e => (e0.bs b o e).1
  have hkind : ∀ y ∈ ps.zip us, scope.names.lookup y.1 = some .local ∨ (scope.names.lookup y.1 = some .cell ∧ ((cellsFrom (s.heap.objs.size + 1) scope.names []).lookup y.1).isSome = true) := fun ⟨n, v⟩ hy => by
    rcases S.par n (List.of_mem_zip hy).1 with q | q
    · exact .inl q
    · exact .inr ⟨q, PySem.W.cellsFrom_some _ _ _ (.inl q)⟩
  refine codeAny_call_function hr.depth (KX _ _ lk) rfl S.co S.gen rfl (PySem.W.codeRec_of KX hcd) (hb _ _ _ _ ?_)
  refine wpAny_newFunctionEnv_cells S.kind hkind fun env he s1 x => ?_
  subst he
  refine ⟨lim.keeps x.toInCall.keep, codeAny_func ?_⟩
  obtain ⟨t, ht, hq⟩ := hbody A outer s H vs Q E (hr.deeper _) hsp
  have I : Inv (cxOf CX P w K mg base N qual scope f cdv A outer s H E) [] (start N vs) H s1 := inv_start S hr.hd e0 hl r x
  refine wpAny_mono (ht [] s1 (start N vs) H _ I hq) (fun fl s' hs => ?_) fun e s' hs => hs
  have fin : ∀ {σ' : St} {H' : Hp} {v : V} {u : Value}, Inv (cxOf CX P w K mg base N qual scope f cdv A outer s H E) [] σ' H' s' → RelV v u → Q v H' → CE outer P w H s Q u s' :=
    fun {σ' H' v u} J rv q => ⟨v, H', J.os, J.bare, J.base, J.hok, rv, q⟩
  cases fl with
  | ret u =>
    obtain ⟨v, σ', H', J, rv, q⟩ := hs
    exact fin J rv q
  | next =>
    obtain ⟨σ', H', J, q⟩ := hs
    exact fin (v := V.non) (u := Value.none) J rfl q
  | brk =>
    obtain ⟨_, _, _, q⟩ := hs
    exact False.elim q
  | cont =>
    obtain ⟨_, _, _, q⟩ := hs
    exact False.elim q
end L2

namespace L2
open PySem PySem.Spec PyProof.Rows
section
variable {X : Cx} {x : Str} {p pos : Pos} {e : Expr} {es : List Expr} {t : TA} {id T : String} {r : List V → Hp → VK → Prop}

def tCB (r : List V → Hp → VK → Prop) (t : TA) : TE := fun σ H Q => t σ H fun vs H1 => r vs H1 Q
/-- f(e, ..), f a built-in function -/
theorem pe_callB (hc : CallR X (.builtin id) r) (hg : Gl X x) (hm : X.mg x = none) (hv : bootBuiltins x = some (.builtin id)) (ha : PA X (e :: es) t) (hn : x ≠ "__name__" := by decide) (hdb : (x == ("__debug__" : Str)) = false := by decide)
    (he : starEach (e :: es) X.env = (false, eval e X.env) :: starEach es X.env := by rfl) (hpl : (backTo pos (starEach es X.env)).any (·.1) = false := by rfl) : PE X (.Call (.Name x p) (e :: es) [] pos) (tCB r t) := by
  intro pins s σ H Q I h
  refine wpAny_Call_Name_kw (ld_blt I hg hm hv ?_ hn hdb)
  exact PyProof.Rows.callWith_builtin1 (thn (ha pos pins s σ H _ I h) fun us s1 ⟨vs, H1, I1, r1, q1⟩ => hc pins s1 σ H1 vs us Q I1 r1 q1) he hpl
/-- T(e, ..), T a built-in type -/
theorem pe_callTy (hc : CallR X (.type T) r) (hg : Gl X x) (hm : X.mg x = none) (hv : bootBuiltins x = some (.type T)) (ha : PA X (e :: es) t) (hn : x ≠ "__name__" := by decide) (hdb : (x == ("__debug__" : Str)) = false := by decide)
    (he : starEach (e :: es) X.env = (false, eval e X.env) :: starEach es X.env := by rfl) (hpl : (backTo pos (starEach es X.env)).any (·.1) = false := by rfl) : PE X (.Call (.Name x p) (e :: es) [] pos) (tCB r t) := by
  intro pins s σ H Q I h
  refine wpAny_Call_Name_kw (ld_blt I hg hm hv ?_ hn hdb)
  exact PyProof.Rows.callWith_type1 (thn (ha pos pins s σ H _ I h) fun us s1 ⟨vs, H1, I1, r1, q1⟩ => hc pins s1 σ H1 vs us Q I1 r1 q1) he hpl
end
end L2

namespace HT
open PySem PyProof.Rows

section
open PySem.SeqAt
open PySem.AutoSeq1 (wpAny_loadPart')
open PySem.MeetsSeq PySem.MeetsSeq2 PySem.MeetsSeq3

end

section
variable {prog : Program} {w : World} {A : Around} {E : Value → Shared → Prop} {s : Shared}

/-! ### t[a:b], not the whole -/
/-- a slice's bound as a place among n (d where it is left out) -/
def sIx (n d : Nat) : Option Int → Nat
  | none => d
  | some v => if v < 0 then (v + (n : Int)).toNat else min v.toNat n
theorem sIx_none (n d : Nat) : sIx n d none = d := rfl
theorem sIx_nat (n d k : Nat) : sIx n d (some (k : Int)) = min k n := by
  show (if (k : Int) < 0 then ((k : Int) + (n : Int)).toNat else min (k : Int).toNat n) = min k n
  rw [if_neg (by omega), Int.toNat_natCast]
end
end HT

namespace L2
open PySem PySem.Spec PyProof.Rows

/-! ### the parts of a slice -/
abbrev TO := St → Hp → (Option Int → Hp → Prop) → Prop
/-- a slice's part (left out, or an int) -/
def PO (X : Cx) (e : Option Expr) (t : TO) : Prop :=
  ∀ (pins : List (Addr × Obj)) (s : Shared) (σ : St) (H : Hp) (Q : Option Int → Hp → Prop), Inv X pins σ H s → t σ H Q →
    wpAny (model X.prog X.w) X.A (evalPart e X.env) (fun u s' => ∃ o H', Inv X pins σ H' s' ∧ IsPart u o ∧ Q o H') X.xe s
def tNoPart : TO := fun _ H Q => Q none H
def tPart (t : TE) : TO := fun σ H Q => t σ H fun x H1 => ∃ i, x = .int i ∧ Q (some i) H1

theorem intsAre_of {ns : List Int} : ∀ {us : List Value}, Vals (ns.map V.int) us → IntsAre us ns := by
  induction ns with
  | nil => intro us r; rw [List.map_nil] at r; cases r; exact .nil
  | cons n ns ih =>
    intro us r
    rw [List.map_cons] at r
    cases r with
    | cons r1 r2 =>
      obtain ⟨t, e⟩ := r1
      subst e
      exact .cons n t (ih r2)

section
variable {X : Cx} {e : Expr} {te : TE} {lo hi : Option Expr} {tl th : TO} {pos p2 : Pos}

theorem po_none : PO X none tNoPart := by
  intro pins s σ H Q I h
  rw [evalPart_none]
  exact wpAny_pure ⟨none, H, I, .none, h⟩
theorem po_some (h : PE X e te) : PO X (some e) (tPart te) := by
  intro pins s σ H Q I hw
  rw [evalPart_some]
  refine thn (h pins s σ H _ I hw) fun u s1 ⟨x, H1, I1, r1, q1⟩ => ?_
  obtain ⟨i, rfl, q⟩ := q1
  obtain ⟨t, rfl⟩ := r1
  exact ⟨some i, H1, I1, .int i t, q⟩

/-- what a slice of a value is, by values: the slice object stands at sl -/
def SlR (X : Cx) (r : V → Option Int → Option Int → Hp → VK → Prop) : Prop :=
  ∀ (pins : List (Addr × Obj)) (s : Shared) (σ : St) (H : Hp) (x : V) (v vl vu : Value) (lo hi : Option Int) (sl : Addr) (Q : VK), Inv X pins σ H s → RelV x v → s.heap.IsSliceOf sl vl vu .none → IsPart vl lo → IsPart vu hi → r x lo hi H Q →
    ∃ T id, typeLookup (.type T) "__getitem__" = pure (some (.builtin id)) ∧ s.TypeIs v T ∧ wpAny (model X.prog X.w) X.A (getItem v (.ref sl)) (EP X pins σ Q) X.xe s
def tSl (r : V → Option Int → Option Int → Hp → VK → Prop) (te : TE) (tl th : TO) : TE := fun σ H Q => te σ H fun x H1 => tl σ H1 fun l H2 => th σ H2 fun u H3 => r x l u H3 Q
/-- a[lo:hi], any a -/
theorem pe_slice {r : V → Option Int → Option Int → Hp → VK → Prop} (hr : SlR X r) (he : PE X e te) (hl : PO X lo tl) (hu : PO X hi th) : PE X (.Subscript e (.Slice lo hi none p2) pos) (tSl r te tl th) := by
  intro pins s σ H Q I h
  refine Subscript_ (thn (he pins s σ H _ I h) fun v s1 ⟨x, H1, I1, r1, q1⟩ => ?_)
  refine wpAny_Slice (thn (hl pins s1 σ H1 _ I1 q1) fun vl s2 ⟨l, H2, I2, pl, q2⟩ => thn (hu pins s2 σ H2 _ I2 q2) fun vu s3 ⟨u, H3, I3, pu, q3⟩ => ?_)
  rw [evalPart_none]
  refine wpAny_pure ?_
  have I4 : Inv X pins σ H3 { s3 with heap := s3.heap.push { cls := .type "slice", data := .fields #[vl, vu, .none] } } := I3.kept (t' := s3.toks) fun b ob q => Heap.get?_push_of_some _ q
  obtain ⟨T, id, hT, ht, hg⟩ := hr pins { s3 with heap := s3.heap.push { cls := .type "slice", data := .fields #[vl, vu, .none] } } σ H3 x v vl vu l u s3.heap.objs.size Q I4 r1 (Heap.IsSliceOf.new ..) pl pu q3
  show wpAny (model X.prog X.w) X.A (subscriptTail e (.Slice lo hi none p2) v (.ref s3.heap.objs.size)) (EP X pins σ Q) X.xe { s3 with heap := s3.heap.push { cls := .type "slice", data := .fields #[vl, vu, .none] } }
  exact tail_any (ops := [.ref s3.heap.objs.size, v]) ht hT hg (by with_unfolding_all rfl)

/-- the items of xs[lo:hi] -/
def cutV (xs : List V) (lo hi : Option Int) : List V := (xs.drop (HT.sIx xs.length 0 lo)).take (HT.sIx xs.length xs.length hi - HT.sIx xs.length 0 lo)
theorem cutV_length (xs : List V) (lo hi : Option Int) : (cutV xs lo hi).length ≤ xs.length := by
  unfold cutV
  rw [List.length_take, List.length_drop]
  omega
/-! ### t < u, t + u -/
end
end L2

namespace L2
open PySem PySem.Spec PyProof.Rows

/-! ### places -/
/-- the place that an index of any sign means -/
def ixN (n : Nat) (i : Int) : Option Nat := if 0 ≤ i then (if i < n then some i.toNat else none) else if -(n : Int) ≤ i then some (i + n).toNat else none
def atI {α : Type} (xs : List α) (i : Int) : Option α := (ixN xs.length i).bind fun j => xs[j]?
theorem ixN_seq {n : Nat} {i : Int} {j : Nat} (h : ixN n i = some j) : seqIndex? i n = some j ∧ j < n ∧ -(n : Int) ≤ i ∧ i < n := by
  unfold ixN at h
  by_cases h0 : 0 ≤ i
  · rw [if_pos h0] at h
    by_cases h1 : i < n
    · rw [if_pos h1] at h
      have e : i.toNat = j := Option.some.inj h
      exact ⟨by rw [seqIndex_of h0 h1, e], by omega, by omega, h1⟩
    · rw [if_neg h1] at h; cases h
  · rw [if_neg h0] at h
    by_cases h1 : -(n : Int) ≤ i
    · rw [if_pos h1] at h
      have e : (i + n).toNat = j := Option.some.inj h
      exact ⟨by rw [seqIndex_neg (by omega) h1, e], by omega, h1, by omega⟩
    · rw [if_neg h1] at h; cases h
theorem atI_get {α : Type} {xs : List α} {i : Int} {v : α} (h : atI xs i = some v) : ∃ j, seqIndex? i xs.length = some j ∧ xs[j]? = some v ∧ j < xs.length ∧ -(xs.length : Int) ≤ i ∧ i < xs.length := by
  unfold atI at h
  cases e : ixN xs.length i with
  | none => rw [e] at h; cases h
  | some j =>
    rw [e] at h
    obtain ⟨h1, h2, h3, h4⟩ := ixN_seq e
    exact ⟨j, h1, h, h2, h3, h4⟩
theorem atI_nat {α : Type} {xs : List α} {j : Nat} {v : α} (h : xs[j]? = some v) : atI xs (j : Int) = some v := by
  have hj : j < xs.length := (List.getElem?_eq_some_iff.mp h).1
  have e : ixN xs.length (j : Int) = some j := by
    unfold ixN
    rw [if_pos (by omega), if_pos (by omega)]; simp
  unfold atI; rw [e]; exact h
/-! ### what may be subscripted -/
/-- what stands as an index of a plain subscript -/
def PlainIx (b : Expr) : Prop := ∀ o i, subscripted b false o i = operate [o, i] (getItem o i)
/-- a subscript by values -/
def IxR (X : Cx) (r : R2) : Prop :=
  ∀ (value slice : Expr) (pins : List (Addr × Obj)) (s : Shared) (σ : St) (H : Hp) (x y : V) (v u : Value) (Q : VK), Inv X pins σ H s → RelV x v → RelV y u → r x y H Q →
    subscripted slice false v u = operate [v, u] (getItem v u) → wpAny (model X.prog X.w) X.A (subscriptTail value slice v u) (EP X pins σ Q) X.xe s
/-- a call of a builtin's method by values: the receiver, the arguments -/
def MtR (X : Cx) (id : String) (r : V → List V → Hp → VK → Prop) : Prop :=
  ∀ (pins : List (Addr × Obj)) (s : Shared) (σ : St) (H : Hp) (x : V) (xs : List V) (v : Value) (us : List Value) (Q : VK), Inv X pins σ H s → RelV x v → Vals xs us → r x xs H Q →
    wpAny (model X.prog X.w) X.A (call (.builtin id) (v :: us)) (EP X pins σ Q) X.xe s
section
variable {X : Cx} {a b : Expr} {ta tb : TE} {pos : Pos}
/-- a[b] -/
theorem pe_ix {r : R2} (hr : IxR X r) (ha : PE X a ta) (hb : PE X b tb) (hs : PlainIx b) : PE X (.Subscript a b pos) (tOp r ta tb) := by
  intro pins s σ H Q I h
  exact Subscript_ (binT ha hb I h fun v u s2 x y H2 I2 rx ry q => hr a b pins s2 σ H2 x y v u Q I2 rx ry q (hs _ _))

def rIxL (K : PySem.W.Frag) : R2 := fun x y H Q => ∃ p xs i v, x = .ref p ∧ y = .int i ∧ SqL K H p xs ∧ atI xs i = some v ∧ Q v H
def rIxT (K : PySem.W.Frag) : R2 := fun x y H Q => ∃ p xs i v, x = .ref p ∧ y = .int i ∧ SqT K H p xs ∧ atI xs i = some v ∧ Q v H
theorem ix_list : IxR X (rIxL X.K) := by
  intro value slice pins s σ H x y v u Q I rx ry h hs
  obtain ⟨p, xs, i, z, rfl, rfl, hq, he, q⟩ := h
  cases rx
  obtain ⟨t, rfl⟩ := ry
  obtain ⟨its, r, pl, hz⟩ := I.list hq
  obtain ⟨j, h1, h2, h3, h4, h5⟩ := atI_get he
  obtain ⟨w, ew, rw'⟩ := r.get h2
  have hl := r.length
  have hn := line63
  have fin : EP X pins σ Q w s := ⟨z, H, I, rw', q⟩
  by_cases h0 : 0 ≤ i
  · have hj : i.toNat = j := by
      rw [seqIndex_of h0 h5] at h1
      exact Option.some.inj h1
    exact item_listR pl.isList h0 (by omega) (by rw [hj]; simpa using ew) fin hs
  · have hj : (i + (its.toArray.size : Int)).toNat = j := by
      rw [seqIndex_neg (by omega) h4] at h1
      rw [List.size_toArray, ← hl]
      exact Option.some.inj h1
    exact subscriptTail_builtinR (x := w) pl.isList.typeIs slot_list_getitem.lookup
      (wpAny_getItem_list_neg (Q := fun r s' => r = w ∧ EP X pins σ Q r s') pl.isList (by omega) (by rw [List.size_toArray] <;> omega) (by omega) (by rw [hj]; simpa using ew) ⟨rfl, fin⟩) hs
theorem ix_tup : IxR X (rIxT X.K) := by
  intro value slice pins s σ H x y v u Q I rx ry h hs
  obtain ⟨p, xs, i, z, rfl, rfl, hq, he, q⟩ := h
  cases rx
  obtain ⟨t, rfl⟩ := ry
  obtain ⟨its, r, pl, hz⟩ := I.tuple hq
  obtain ⟨j, h1, h2, h3, h4, h5⟩ := atI_get he
  obtain ⟨w, ew, rw'⟩ := r.get h2
  have hl := r.length
  have hn := line63
  have fin : EP X pins σ Q w s := ⟨z, H, I, rw', q⟩
  exact subscriptTail_builtinR (x := w) pl.typeIs slot_tuple_getitem.lookup
    (getItem_tuple (j := j) (Q := fun r s' => r = w ∧ EP X pins σ Q r s') pl (by omega) (by omega) (by rw [List.size_toArray, ← hl]; exact h1) (by simpa using ew) ⟨rfl, fin⟩) hs
/-! ### xs[i] = v, any sign -/
/-- the list's object behind a store -/
theorem mapSeq_set (its : List Value) (n j : Nat) (u : Value) : Obj.mapSeq (·.setIfInBounds j u) { cls := .type "list", data := .seq its.toArray n } = { cls := .type "list", data := .seq (its.set j u).toArray n } := by
  simp [Obj.mapSeq]
theorem Inv.lst {pins : List (Addr × Obj)} {σ : St} {H : Hp} {s : Shared} {p : Addr} {xs : List V} (I : Inv X pins σ H s) (h : H p = some (.lst xs)) :
    ∃ (its : List Value) (n : Nat), Vals xs its ∧ s.heap.get? p = some { cls := .type "list", data := .seq its.toArray n } ∧ xs.length ≤ sizeLine := by
  obtain ⟨z, its, n, r, e⟩ := I.hok p _ h
  exact ⟨its, n, r, e, z⟩
/-- the list at p is written by an update of its object -/
theorem Inv.lstUpd {pins : List (Addr × Obj)} {σ : St} {H : Hp} {s : Shared} {p : Addr} {xs ys : List V} {its its' : List Value} {n n' : Nat} {f : Obj → Obj} (I : Inv X pins σ H s) (h : H p = some (.lst xs))
    (ho : s.heap.get? p = some { cls := .type "list", data := .seq its.toArray n }) (hf : f { cls := .type "list", data := .seq its.toArray n } = { cls := .type "list", data := .seq its'.toArray n' }) (r : Vals ys its') (hz : ys.length ≤ sizeLine) (t : Nat) :
    Inv X pins σ (upd H p (.lst ys)) { s with heap := s.heap.update p f, toks := t } := by
  have e : (s.heap.update p f).get? p = some { cls := .type "list", data := .seq its'.toArray n' } := by
    rw [Heap.get?_update_self f ho (by rw [hf] <;> rfl), hf]
  refine I.write (x := p) (e := p) (by rw [h]; trivial) (.inl rfl) (fun b u hb q => (Heap.get?_update_other _ _ (Ne.symm hb)).trans q) ⟨_, e⟩ ?_
  exact ⟨hz, its', n', r, e⟩
def rSetL : V → V → V → Hp → (Hp → Prop) → Prop := fun o i v H Q => ∃ p xs k j, o = .ref p ∧ i = .int k ∧ H p = some (.lst xs) ∧ ixN xs.length k = some j ∧ Q (upd H p (.lst (xs.set j v)))
theorem set_list : PSet X rSetL := by
  intro pins s σ H o i v ov iv u Q I ro ri rv h
  obtain ⟨p, xs, k, j, rfl, rfl, hp, hj, q⟩ := h
  cases ro
  obtain ⟨t, rfl⟩ := ri
  obtain ⟨its, n, r, ho, hz⟩ := I.lst hp
  obtain ⟨h1, h2, h3, h4⟩ := ixN_seq hj
  have hl := r.length
  have hn := line63
  have I' : Inv X pins σ (upd H p (.lst (xs.set j v))) { s with heap := s.heap.update p (Obj.mapSeq (·.setIfInBounds j u)) } :=
    I.lstUpd hp ho (mapSeq_set its n j u) (r.set rv j) (by rw [List.length_set]; exact hz) s.toks
  by_cases h0 : 0 ≤ k
  · have hk : k.toNat = j := by
      rw [seqIndex_of h0 h4] at h1
      exact Option.some.inj h1
    exact PySem.W.ki_setAt ho h0 (by omega) (by rw [List.size_toArray, ← hl]; exact h4) (by rw [hk]; exact ⟨_, I', q⟩)
  · have hk : (k + (its.toArray.size : Int)).toNat = j := by
      rw [seqIndex_neg (by omega) h3] at h1
      rw [List.size_toArray, ← hl]
      exact Option.some.inj h1
    exact PySem.W.ki_setBack ho (by omega) (by rw [List.size_toArray, ← hl]; exact h3) (by omega) (by rw [hk]; exact ⟨_, I', q⟩)

/-! ### slices -/
theorem slice_bounds (lo hi : Option Int) (n : Nat) : (sliceBounds lo hi none n).1 = ((HT.sIx n 0 lo : Nat) : Int) ∧ (sliceBounds lo hi none n).2.1 = ((HT.sIx n n hi : Nat) : Int) ∧ (sliceBounds lo hi none n).2.2 = 1 := by
  refine ⟨?_, ?_, rfl⟩
  · cases lo with
    | none => simp [sliceBounds, HT.sIx]
    | some i =>
      simp only [sliceBounds, HT.sIx, Option.getD_none, show (1 : Int) > 0 by decide, if_true]
      by_cases h : i < 0
      · simp only [h, if_true] <;> omega
      · simp only [h, if_false] <;> omega
  · cases hi with
    | none => simp [sliceBounds, HT.sIx]
    | some i =>
      simp only [sliceBounds, HT.sIx, Option.getD_none, show (1 : Int) > 0 by decide, if_true]
      by_cases h : i < 0
      · simp only [h, if_true] <;> omega
      · simp only [h, if_false] <;> omega
theorem slicePick_cut (its : List Value) (lo hi : Option Int) : slicePick its.toArray lo hi none = ((its.drop (HT.sIx its.length 0 lo)).take (HT.sIx its.length its.length hi - HT.sIx its.length 0 lo)).toArray := by
  obtain ⟨h1, h2, h3⟩ := slice_bounds lo hi its.toArray.size
  unfold slicePick
  rw [h1, h2, h3]
  simp only [sliceRange_one, pick_run, List.size_toArray] <;> rfl
/-- xs[lo:hi] of a list: a new list -/
def rSlL (K : PySem.W.Frag) : V → Option Int → Option Int → Hp → VK → Prop := fun x lo hi H Q => ∃ a xs, x = .ref a ∧ SqL K H a xs ∧ ∀ p, H p = none → Q (.ref p) (upd H p (.lst (cutV xs lo hi)))
theorem sl_list : SlR X (rSlL X.K) := by
  intro pins s σ H x v vl vu lo hi sl Q I rx hs pl pu h
  obtain ⟨a, xs, rfl, hx, q⟩ := h
  cases rx
  obtain ⟨its, r, ht, hz⟩ := I.list hx
  have hlen := r.length
  refine ⟨"list", _, slot_list_getitem.lookup, ht.isList.typeIs, ?_⟩
  refine wpAny_getItem_list_slice ht.isList hs pl pu .none (by simp) ?_ (by rw [List.size_toArray] <;> omega)
  rw [slicePick_cut, ← hlen]
  refine ⟨.ref s.heap.objs.size, _, I.laid (t' := s.toks) (o := .lst (cutV xs lo hi)) (fun b ob q => Heap.get?_push_of_some _ q) (Nat.le_refl _) ?_, rfl, q _ (I.hok.fresh (Nat.le_refl _))⟩
  exact ⟨Nat.le_trans (cutV_length xs lo hi) hz, _, 0, (r.drop (HT.sIx xs.length 0 lo)).take (HT.sIx xs.length xs.length hi - HT.sIx xs.length 0 lo), Heap.get?_push_size _ rfl⟩

/-! ### in, not in: flat items -/
def flatV : V → Bool
  | .non => true
  | .bl _ => true
  | .int _ => true
  | .str _ => true
  | _ => false
/-- == of flat values -/
def eqV : V → V → Bool
  | .non, .non => true
  | .bl a, .bl b => a == b
  | .bl a, .int b => (if a then 1 else 0) == b
  | .int a, .bl b => a == (if b then 1 else 0)
  | .int a, .int b => a == b
  | .str a, .str b => a == b
  | _, _ => false
theorem eqAt_V {A : Around} {s : Shared} {y x : V} {u v : Value} (ry : RelV y u) (rx : RelV x v) (fy : flatV y = true) (fx : flatV x = true) : SeqAt.EqAt A s u v (eqV y x) := by
  cases y with
  | non =>
    cases ry
    cases x with
    | non => cases rx; exact SeqAt.EqAt.same _
    | bl b => cases rx; exact SeqAt.EqAt.none_bool b
    | int b => obtain ⟨t, rfl⟩ := rx; exact SeqAt.EqAt.none_int b t
    | str b => obtain ⟨t, rfl⟩ := rx; exact SeqAt.EqAt.none_str b t
    | _ => exact absurd (show false = true from fx) Bool.false_ne_true
  | bl a =>
    cases ry
    cases x with
    | non => cases rx; exact SeqAt.EqAt.bool_none a
    | bl b => cases rx; exact SeqAt.EqAt.bool_bool a b
    | int b => obtain ⟨t, rfl⟩ := rx; exact SeqAt.EqAt.bool_int a b t
    | str b => obtain ⟨t, rfl⟩ := rx; exact SeqAt.EqAt.bool_str a b t
    | _ => exact absurd (show false = true from fx) Bool.false_ne_true
  | int a =>
    obtain ⟨t', rfl⟩ := ry
    cases x with
    | non => cases rx; exact SeqAt.EqAt.int_none a t'
    | bl b => cases rx; exact SeqAt.EqAt.int_bool a t' b
    | int b => obtain ⟨t, rfl⟩ := rx; exact SeqAt.EqAt.int_int a t' b t
    | str b => obtain ⟨t, rfl⟩ := rx; exact SeqAt.EqAt.int_str a t' b t
    | _ => exact absurd (show false = true from fx) Bool.false_ne_true
  | str a =>
    obtain ⟨t', rfl⟩ := ry
    cases x with
    | non => cases rx; exact SeqAt.EqAt.str_none a t'
    | bl b => cases rx; exact SeqAt.EqAt.str_bool a t' b
    | int b => obtain ⟨t, rfl⟩ := rx; exact SeqAt.EqAt.str_int a t' b t
    | str b => obtain ⟨t, rfl⟩ := rx; exact SeqAt.EqAt.str_str a t' b t
    | _ => exact absurd (show false = true from fx) Bool.false_ne_true
  | _ => exact absurd (show false = true from fy) Bool.false_ne_true
/-- the items' answers, read off the values (a value's own answer does not lean on its token) -/
def eqU (x : V) (u : Value) : Bool := match u with
  | .none => eqV .non x
  | .bool b => eqV (.bl b) x
  | .int i _ => eqV (.int i) x
  | .str z _ => eqV (.str z) x
  | _ => false
theorem eqU_of {x y : V} {u : Value} (r : RelV y u) (f : flatV y = true) : eqU x u = eqV y x := by
  cases y with
  | non => cases r; rfl
  | bl b => cases r; rfl
  | int i => obtain ⟨t, rfl⟩ := r; rfl
  | str z => obtain ⟨t, rfl⟩ := r; rfl
  | _ => exact absurd (show false = true from f) Bool.false_ne_true
theorem any_eqU {x : V} : ∀ {xs : List V} {us : List Value}, Vals xs us → xs.all flatV = true → us.any (eqU x) = xs.any fun y => eqV y x
  | _, _, .nil, _ => rfl
  | y :: xs, u :: us, .cons r t, f => by
    rw [List.all_cons, Bool.and_eq_true] at f
    rw [List.any_cons, List.any_cons, eqU_of r f.1, any_eqU t f.2]
theorem mem_eqAt {A : Around} {s : Shared} {x : V} {v : Value} (rx : RelV x v) (fx : flatV x = true) : ∀ {xs : List V} {us : List Value}, Vals xs us → xs.all flatV = true → ∀ u ∈ us, SeqAt.EqAt A s u v (eqU x u)
  | _, _, .nil, _ => fun u hu => by cases hu
  | y :: xs, u :: us, .cons r t, f => fun u' hu => by
    rw [List.all_cons, Bool.and_eq_true] at f
    rcases List.mem_cons.mp hu with rfl | hu
    · rw [eqU_of r f.1]; exact eqAt_V r rx f.1 fx
    · exact mem_eqAt rx fx t f.2 u' hu
def inV (x : V) (xs : List V) : Bool := xs.any fun y => eqV y x
/-- x in a list or tuple of flat items -/
def rIn (K : PySem.W.Frag) (neg : Bool) : R2 := fun x y H Q => ∃ p xs, y = .ref p ∧ (SqL K H p xs ∨ SqT K H p xs) ∧ flatV x = true ∧ xs.all flatV = true ∧ Q (.bl (if neg then !inV x xs else inV x xs)) H
theorem op_in_seq : OpR X (compareOp .In) (rIn X.K false) := by
  intro pins s σ H x y v u Q I rx ry h
  obtain ⟨p, xs, rfl, hq, fx, fs, q⟩ := h
  cases ry
  rcases hq with hq | hq
  · obtain ⟨its, r, pl, hz⟩ := I.list hq
    refine SeqAt.in_listAt (eqU x) pl.isList (fun w hw => mem_eqAt rx fx r fs w (by simpa using hw)) ⟨.bl _, H, I, rfl, ?_⟩
    rw [show its.toArray.any (eqU x) = its.any (eqU x) by simp, any_eqU r fs]
    exact q
  · obtain ⟨its, r, pl, hz⟩ := I.tuple hq
    refine SeqAt.in_tupleAt (eqU x) pl (fun w hw => mem_eqAt rx fx r fs w (by simpa using hw)) ⟨.bl _, H, I, rfl, ?_⟩
    rw [show its.toArray.any (eqU x) = its.any (eqU x) by simp, any_eqU r fs]
    exact q
/-! ### len, list(x), tuple(x) of any list or tuple that is read -/
theorem call_len_seq : CallR X (.builtin "len") (fun xs H Q => ∃ p ys, xs = [.ref p] ∧ (SqL X.K H p ys ∨ SqT X.K H p ys) ∧ Q (.int ys.length) H) := by
  intro pins s σ H xs us Q I r h
  obtain ⟨p, ys, rfl, hq, q⟩ := h
  obtain ⟨u, rfl, rx⟩ := vals1 r
  cases rx
  have hn := line63
  rcases hq with hq | hq
  · obtain ⟨its, r', pl, hz⟩ := I.list hq
    have hlen := r'.length
    exact Calls.call_len_list pl.isList (by simp only [List.size_toArray] <;> omega) ⟨.int ys.length, H, I.tok _, ⟨s.toks + 1, by rw [List.size_toArray, hlen]⟩, q⟩
  · obtain ⟨its, r', pl, hz⟩ := I.tuple hq
    have hlen := r'.length
    exact len_tuple pl (by simp only [List.size_toArray] <;> omega) ⟨.int ys.length, H, I.tok _, ⟨s.toks + 1, by rw [List.size_toArray, hlen]⟩, q⟩
theorem call_list_of : CallR X (.type "list") (fun xs H Q => ∃ p ys, xs = [.ref p] ∧ (SqL X.K H p ys ∨ SqT X.K H p ys) ∧ ∀ l, H l = none → Q (.ref l) (upd H l (.lst ys))) := by
  intro pins s σ H xs us Q I r h
  obtain ⟨p, ys, rfl, hq, q⟩ := h
  obtain ⟨u, rfl, rx⟩ := vals1 r
  cases rx
  have fin : ∀ (its : List Value), Vals ys its → ys.length ≤ sizeLine → ∀ (h' : Heap) (c' : Nat), (∀ b o', s.heap.get? b = some o' → h'.get? b = some o') →
      h'.get? s.heap.objs.size = some { cls := .type "list", dict := none, data := .seq its.toArray c', slots := #[] } → EP X pins σ Q (.ref s.heap.objs.size) { s with heap := h' } := fun its r' hz h' c' kp e =>
    ⟨.ref s.heap.objs.size, _, I.laid (t' := s.toks) kp (Nat.le_refl _) (show ObjOk X.prog X.w _ h' _ (.lst ys) from ⟨hz, its, c', r', e⟩), rfl, q _ (I.hok.fresh (Nat.le_refl _))⟩
  rcases hq with hq | hq
  · obtain ⟨its, r', pl, hz⟩ := I.list hq
    have hlen := r'.length
    obtain ⟨o, ho, hc, n, hd⟩ := pl.isList
    exact call_list_seq p (.inl rfl) ho hc hd (fun h' c' kp e => fin its r' hz h' c' kp e) (by simp only [List.size_toArray] <;> omega)
  · obtain ⟨its, r', pl, hz⟩ := I.tuple hq
    have hlen := r'.length
    obtain ⟨o, ho, hc, n, hd⟩ := pl
    exact call_list_seq p (.inr rfl) ho hc hd (fun h' c' kp e => fin its r' hz h' c' kp e) (by simp only [List.size_toArray] <;> omega)
/-! ### the call of a builtin's method: o.m(..) -/
/-- the value is of that builtin type -/
def tyV (K : PySem.W.Frag) (T : String) (x : V) (H : Hp) : Prop := match x with
  | .str _ => T = "str"
  | .int _ => T = "int"
  | .ref p => (T = "list" ∧ ∃ xs, SqL K H p xs) ∨ (T = "tuple" ∧ ∃ o, K.lookup p = some o ∧ o.cls = .type "tuple" ∧ o.dict = none) ∨
      (T = "dict" ∧ ((∃ kvs, H p = some (.dK kvs)) ∨ ∃ kvs, H p = some (.dT kvs))) ∨ (T = "set" ∧ ∃ S n, H p = some (.set S n))
  | _ => False
theorem tyV_is {pins : List (Addr × Obj)} {σ : St} {H : Hp} {s : Shared} {T : String} {x : V} {v : Value} (I : Inv X pins σ H s) (r : RelV x v) (ty : tyV X.K T x H) :
    s.TypeIs v T ∧ ∀ a, v = .ref a → ∃ ob, s.heap.get? a = some ob ∧ ob.dict = none := by
  cases x with
  | str z =>
    obtain ⟨t, rfl⟩ := r
    cases (show T = "str" from ty)
    exact ⟨typeIs_str s z t, fun _ e => nomatch e⟩
  | int i =>
    obtain ⟨t, rfl⟩ := r
    cases (show T = "int" from ty)
    exact ⟨typeIs_int s i t, fun _ e => nomatch e⟩
  | ref p =>
    cases r
    rcases ty with ⟨rfl, xs, hq⟩ | ⟨rfl, o, hk, hc, hd⟩ | ⟨rfl, hk⟩ | ⟨rfl, S, n, hk⟩
    · obtain ⟨its, _, pl, _⟩ := I.list hq
      refine ⟨pl.isList.typeIs, fun a e => ?_⟩
      cases e
      obtain ⟨o, n, e, c, hd, _⟩ := pl
      exact ⟨o, e, hd⟩
    · refine ⟨⟨o, I.kIn p o hk, hc⟩, fun a e => ?_⟩
      cases e
      exact ⟨o, I.kIn _ o hk, hd⟩
    · have z : ∃ o, s.heap.get? p = some o ∧ o.ExactDict := by
        rcases hk with ⟨kvs, hk⟩ | ⟨kvs, hk⟩
        · obtain ⟨_, _, _, _, o, _, _, e, ex, _⟩ := I.hok p _ hk
          exact ⟨o, e, ex⟩
        · obtain ⟨_, _, _, _, o, _, _, e, ex, _⟩ := I.hok p _ hk
          exact ⟨o, e, ex⟩
      obtain ⟨o, e, ex⟩ := z
      refine ⟨⟨o, e, ex.1⟩, fun a e2 => ?_⟩
      cases e2
      exact ⟨o, e, ex.2.1⟩
    · obtain ⟨o, _, _, _, e, ex, _⟩ := I.hok p _ hk
      refine ⟨⟨o, e, ex.1⟩, fun a e2 => ?_⟩
      cases e2
      exact ⟨o, e, ex.2.1⟩
  | _ => exact False.elim ty
def tBM0 (K : PySem.W.Frag) (T : String) (r : V → List V → Hp → VK → Prop) (to : TE) : TE := fun σ H Q => to σ H fun x H1 => tyV K T x H1 ∧ r x [] H1 Q
def tBM (K : PySem.W.Frag) (T : String) (r : V → List V → Hp → VK → Prop) (to : TE) (t : TA) : TE := fun σ H Q => to σ H fun x H1 => tyV K T x H1 ∧ t σ H1 fun xs H2 => r x xs H2 Q
variable {o e : Expr} {es : List Expr} {to : TE} {t : TA} {name : Str} {apos cpos : Pos} {T id : String} {r : V → List V → Hp → VK → Prop}
theorem pe_bm0 (pa : PlainAttrs T) (slot : Slot T name id) (hty : typeOf (.builtin id) = pure (.type "method_descriptor")) (hm : MtR X id r) (ho : PE X o to)
    (hbase : attributeBase o name X.env (eval o X.env) = eval o X.env := by rfl) (hline : (apos.endLine == cpos.line) = true := by rfl) : PE X (.Call (.Attribute o name apos) [] [] cpos) (tBM0 X.K T r to) := by
  intro pins s σ H Q I h
  refine wpAny_Call_method0_late hbase hline (thn (ho pins s σ H _ I h) fun v s1 ⟨x, H1, I1, r1, ty, q1⟩ => ?_)
  obtain ⟨h1, h2⟩ := tyV_is I1 r1 ty
  exact ⟨T, id, pa, slot, hty, h1, h2, Calls.callWith_builtin rfl (PySem.evalArgs_none (hm pins s1 σ H1 x [] v [] Q I1 r1 .nil q1))⟩
theorem pe_bm (pa : PlainAttrs T) (slot : Slot T name id) (hty : typeOf (.builtin id) = pure (.type "method_descriptor")) (hm : MtR X id r) (ho : PE X o to) (ha : PA X (e :: es) t)
    (hbase : attributeBase o name X.env (eval o X.env) = eval o X.env := by rfl)
    (hfew : ((backTo cpos (starEach (e :: es) X.env)).all (fun x => !x.1) && (backToKw cpos (keywordEach [] X.env)).all (fun x => x.1.isSome)
      && decide ((e :: es).length + ([] : List Keyword).length + (if ([] : List Keyword).isEmpty then 0 else 1) < 30)) = true := by rfl)
    (hline : (apos.endLine == cpos.line) = true := by rfl) (hs : starEach (e :: es) X.env = (false, eval e X.env) :: starEach es X.env := by rfl) (hplain : (backTo cpos (starEach es X.env)).any (·.1) = false := by rfl) :
    PE X (.Call (.Attribute o name apos) (e :: es) [] cpos) (tBM X.K T r to t) := by
  intro pins s σ H Q I h
  refine wpAny_Call_method_late hbase hfew hline rfl (thn (ho pins s σ H _ I h) fun v s1 ⟨x, H1, I1, r1, ty, q1⟩ => ?_)
  obtain ⟨h1, h2⟩ := tyV_is I1 r1 ty
  refine ⟨T, id, pa, slot, hty, h1, h2, ?_⟩
  have hA := ha cpos pins s1 σ H1 _ I1 q1
  rw [hs] at hA ⊢
  refine Calls.callWith_builtin (by show (false || (backTo cpos (starEach es X.env)).any (·.1)) = false; rw [hplain] <;> rfl) (Calls.evalArgs_plain ?_)
  exact thn hA fun us s2 ⟨vs, H2, I2, r2, q2⟩ => hm pins s2 σ H2 x vs v us Q I2 r1 r2 q2
/- xs.append(e), list.index on a module's tuple .. are MtR facts of 06m -/
end
end L2

namespace L2
open PySem PySem.Spec PyProof.Rows

def MtM (X : Cx) (id : String) (r : V → List V → Hp → VK → Prop) : Prop :=
  ∀ (pins : List (Addr × Obj)) (s : Shared) (σ : St) (H : Hp) (x : V) (xs : List V) (v : Value) (us : List Value) (Q : VK), Inv X pins σ H s → RelV x v → Vals xs us → r x xs H Q →
    wpAny (model X.prog X.w) X.A (call (.builtin id) (v :: us)) (EP X pins σ Q) X.xe s

/-! ### lists of values -/
theorem Vals.one : ∀ {x : V} {us : List Value}, Vals [x] us → ∃ u, us = [u] ∧ RelV x u
  | _, _, .cons r .nil => ⟨_, rfl, r⟩
theorem Vals.two : ∀ {x y : V} {us : List Value}, Vals [x, y] us → ∃ u v, us = [u, v] ∧ RelV x u ∧ RelV y v
  | _, _, _, .cons r (.cons q .nil) => ⟨_, _, rfl, r, q⟩
theorem Vals.zero : ∀ {us : List Value}, Vals [] us → us = []
  | _, .nil => rfl
theorem Vals.eraseIdx : ∀ {xs : List V} {us : List Value} (i : Nat), Vals xs us → Vals (xs.eraseIdx i) (us.eraseIdx i)
  | _, _, _, .nil => .nil
  | _, _, 0, .cons _ t => t
  | _, _, i + 1, .cons r t => .cons r (Vals.eraseIdx i t)
theorem len_erase {α : Type} : ∀ (l : List α) (i : Nat), (l.eraseIdx i).length ≤ l.length
  | [], _ => Nat.le_refl _
  | _ :: _, 0 => Nat.le_succ _
  | _ :: r, i + 1 => Nat.succ_le_succ (len_erase r i)
section
variable {X : Cx} {pins : List (Addr × Obj)} {σ : St} {H : Hp} {s : Shared} {l b : Addr} {xs ys zs : List V}

/-! ### the two steps: a tracked list is rewritten, a new list is laid -/
theorem Inv.lset {its its' : List Value} {n : Nat} {f : Array Value → Array Value} {t' : Nat} (I : Inv X pins σ H s) (hH : H l = some (.lst xs))
    (e : s.heap.get? l = some { cls := .type "list", data := .seq its.toArray n }) (hf : f its.toArray = its'.toArray) (hv : Vals ys its') (hz : ys.length ≤ sizeLine) :
    Inv X pins σ (upd H l (.lst ys)) { s with heap := s.heap.update l (Obj.mapSeq f), toks := t' } := by
  have q := PySem.IsL.update e f
  rw [hf] at q
  refine I.write (x := l) (e := l) (by rw [hH]; exact trivial) (.inl rfl) (fun b' u hb hu => (Heap.get?_update_other s.heap (Obj.mapSeq f) (Ne.symm hb)).trans hu) ⟨_, q⟩ ?_
  exact ⟨hz, its', _, hv, q⟩
theorem Inv.lnew {its : List Value} {t' : Nat} (I : Inv X pins σ H s) (hv : Vals ys its) (hz : ys.length ≤ sizeLine) :
    Inv X pins σ (upd H s.heap.objs.size (.lst ys)) { s with heap := s.heap.push { cls := .type "list", data := .seq its.toArray }, toks := t' } :=
  I.laid (fun _ _ q => Heap.get?_push_of_some _ q) (Nat.le_refl _) ⟨hz, its, 0, hv, Heap.get?_push_size _ rfl⟩
theorem Inv.fresh (I : Inv X pins σ H s) : H s.heap.objs.size = none := I.hok.fresh (Nat.le_refl _)
theorem Inv.lstM (I : Inv X pins σ H s) (hH : H l = some (.lst xs)) : xs.length ≤ sizeLine ∧ ∃ (its : List Value) (n : Nat), Vals xs its ∧ xs.length = its.length ∧ s.heap.get? l = some { cls := .type "list", data := .seq its.toArray n } := by
  obtain ⟨z, its, n, r, e⟩ := I.hok l _ hH
  exact ⟨z, its, n, r, r.length, e⟩

end

section
variable {X : Cx}

/-! ### methods -/
def rAppend : V → List V → Hp → VK → Prop := fun x vs H Q => ∃ l xs y, x = .ref l ∧ vs = [y] ∧ H l = some (.lst xs) ∧ xs.length < sizeLine ∧ Q .non (upd H l (.lst (xs ++ [y])))
theorem mt_append : MtM X "list.append" rAppend := by
  intro pins s σ H x vs v us Q I rx rv h
  obtain ⟨l, xs, y, rfl, rfl, hH, hz, q⟩ := h
  cases rx
  obtain ⟨u, rfl, ru⟩ := rv.one
  obtain ⟨z, its, n, r, hl, e⟩ := I.lstM hH
  refine call_meets F.slot_list_append ⟨_, e, rfl⟩ F.entry_list_append (F.args_list_append_2 _ _) (PySem.list_append l its.toArray n u (by rw [List.size_toArray]; omega)) ⟨e, ?_⟩
  refine ⟨.non, _, I.lset (its' := its ++ [u]) hH e (by simp) (r.append (.cons ru .nil)) ?_, rfl, q⟩
  rw [List.length_append, List.length_singleton]
  omega

def rPopAt : V → List V → Hp → VK → Prop := fun x vs H Q => ∃ l xs i k y, x = .ref l ∧ vs = [.int i] ∧ H l = some (.lst xs) ∧ -(2 ^ 63) ≤ i ∧ i < 2 ^ 63 ∧ seqIndex? i xs.length = some k ∧ xs[k]? = some y ∧ Q y (upd H l (.lst (xs.eraseIdx k)))
theorem mt_popAt : MtM X "list.pop" rPopAt := by
  intro pins s σ H x vs v us Q I rx rv h
  obtain ⟨l, xs, i, k, y, rfl, rfl, hH, h1, h2, hk, hy, q⟩ := h
  cases rx
  obtain ⟨u, rfl, ru⟩ := rv.one
  obtain ⟨t, rfl⟩ := ru
  obtain ⟨z, its, n, r, hl, e⟩ := I.lstM hH
  obtain ⟨w, hw, rw'⟩ := r.get hy
  refine call_meets F.slot_list_pop ⟨_, e, rfl⟩ F.entry_list_pop (F.args_list_pop_2 _ _)
    (MeetsSeq.list_pop_at l its.toArray n i t k w (fitsIndex_both h1 h2) (by rw [List.size_toArray, ← hl]; exact hk) (by rw [← Array.getElem?_toList]; exact hw) (by rw [List.size_toArray]; omega)) ⟨e, ?_⟩
  refine ⟨y, _, I.lset (its' := its.eraseIdx k) hH e ?_ (r.eraseIdx k) ?_, rw', q⟩
  · show its.toArray.eraseIdxIfInBounds k = (its.eraseIdx k).toArray
    rw [List.eraseIdxIfInBounds_toArray]
  · have := len_erase xs k
    omega

/-! ### list + list, list += list, list * int -/
def rCat : R2 := fun x y H Q => ∃ l b xs zs, x = .ref l ∧ y = .ref b ∧ H l = some (.lst xs) ∧ H b = some (.lst zs) ∧ xs.length + zs.length ≤ sizeLine ∧ ∀ p, H p = none → Q (.ref p) (upd H p (.lst (xs ++ zs)))
theorem op_cat : OpR X (binaryOp .Add) rCat := by
  intro pins s σ H x y v u Q I rx ry h
  obtain ⟨l, b, xs, zs, rfl, rfl, hH, hB, hz, q⟩ := h
  cases rx
  cases ry
  obtain ⟨z, its, n, r, hl, e⟩ := I.lstM hH
  obtain ⟨z2, its2, n2, r2, hl2, e2⟩ := I.lstM hB
  refine PySem.P.add_list e e2 ?_ (by rw [List.size_toArray, List.size_toArray]; omega)
  have ea : its.toArray ++ its2.toArray = (its ++ its2).toArray := by simp
  rw [ea]
  exact ⟨.ref _, _, I.lnew (t' := s.toks) (r.append r2) (by rw [List.length_append]; omega), rfl, q _ I.fresh⟩
/-! ### del xs[i] -/
end

/-! ### xs[a:b] = ys -/
section
variable {prog : Program} {w : World} {A : Around} {E : Value → Shared → Prop} {s : Shared}
end

section
variable {X : Cx}
end
end L2

namespace Att
open PySem PySem.W PySem.Calls PyProof.Rows

/-! ### the script -/
theorem ints_of_wellAll {P : Params} {h : Heap} : ∀ (ns : List Int) (vs : List Value), WellAll P h vs (ns.map WData.int) → IntsAre vs ns := by
  intro ns
  induction ns with
  | nil =>
    intro vs w
    rw [List.map_nil] at w
    cases w
    exact .nil
  | cons n ns ih =>
    intro vs w
    rw [List.map_cons] at w
    cases w with
    | cons a b =>
      cases a
      exact .cons _ _ (ih _ b)

theorem script_of {l : OpenLaw} {n : Nat} (hn : l.most = some n) {P : Params} {h : Heap} {args : List WData} {vals : List Value}
    (hpre : l.row.toRowW.claim.pre args = true) (hwl : WellAll P h vals args) :
    ∃ a vs ns, vals = [Value.ref a] ∧ args = [WData.list (ns.map WData.int)] ∧ h.get? a = some { cls := .type "list", data := .seq vs.toArray } ∧ IntsAre vs ns ∧ ns.length ≤ n := by
  have hsh : WShape.hasAll [] args [.list .int] = true := (pre_splitW hpre).1
  have hc : l.pre.holds [] { args := args } = true := (pre_splitW hpre).2
  obtain ⟨d, r, rfl, h1, h2⟩ := hasAllW_cons hsh
  obtain rfl := hasAllW_nil h2
  obtain ⟨xs, rfl, h3⟩ := hasW_list h1
  obtain ⟨ns, rfl⟩ := items_int h3
  have hlen : ns.length ≤ n := by
    unfold OpenLaw.pre at hc
    have h4 : (WTm.not (.lt (.lit (.int (n : Int))) (.len (.arg 0)))).holds [] { args := [.list (ns.map .int)] } = true := by
      have h4 := (holds_andW hc).1
      rw [hn] at h4
      exact h4
    have h5 := condW_of h4 (w_not (w_lt w_lit (w_len_list (w_arg rfl))))
    rw [List.length_map] at h5
    refine Nat.le_of_not_lt fun q => ?_
    have q' : (n : Int) < ((ns.length : Nat) : Int) := by omega
    first
      | (rw [decide_eq_true q'] at h5; exact absurd h5 (by decide))
      | (simp at h5; omega)
  cases hwl with
  | cons w1 w2 =>
    cases w2
    cases w1 with
    | list ho hall => exact ⟨_, _, ns, rfl, rfl, ho, ints_of_wellAll ns _ hall, hlen⟩

theorem post_true (l : OpenLaw) (args : List WData) : l.row.toRowW.claim.post args (.bool true) args = true :=
  postW_of (r := l.row.toRowW) (X := (true == true))
    (show WShape.has [] (.bool true) .bool = true by first | rfl | decide | simp [WShape.has, WShape.arms, WShape.armsAll])
    (show (WTm.eq .res (.lit (.bool true))).value [] { args := args, res := some (.bool true), after := args } = some (.bool (true == true)) from w_eq_bool (w_res rfl) w_lit) rfl

/-! ### the attachment: holds_open's last premise (the goal 'hc' behind k_head) from a wpAny of the law's body -/
/-- the same from a codeAny of the CALL (for a layer whose function contracts speak of calls) -/
theorem attach_call {l : OpenLaw} {n : Nat} {q : Program} {loose : List Str} {XP : (Str → Option Value) → Heap → Prop} {YP : World → Heap → Prop} {d : DefRec}
    (hn : l.most = some n) (hdf : d.params.defaults = [])
    (call : ∀ (w : World) (s₀ s₁ : Shared) (mg mb : Str → Option Value) (fa : Addr) (o : Obj) (pm cd doc : Value) (a : Addr) (vs : List Value) (ns : List Int),
      Ground q loose [] XP w s₀ mg mb s₁.heap → YP w s₁.heap →
      s₁.heap.get? fa = some o → o.data = .func (docDef d.name d.params d.body d.scope pm cd doc) → s₁.heap.CodeRec cd d.name → mg d.name = some (.ref fa) →
      s₁.heap.get? a = some { cls := .type "list", data := .seq vs.toArray } → IntsAre vs ns → ns.length ≤ n → s₁.gens = #[] →
      codeAny (model l.prog w) callerA (.call (.ref fa) ⟨[.ref a], []⟩) (fun r s' => r = .ok (.ret (.bool true)) ∧ OldK s₁.heap s'.heap ∧ s'.os = s₁.os ∧ AllBare s'.gens) s₁) :
    WalkO q loose XP YP l.row.toRowW d [] (fun f vs => PySem.call f vs) := by
  intro w s₀ s₁ mg mb G Y fa o pm cd doc dV kV ho hd hcd hD hmg hg args vals as hpre hlay hrd hwl hlo
  obtain rfl : dV = .none := Dflts.none hD hdf
  obtain rfl : kV = .none := Dflts.noKw hD
  obtain ⟨a, vs, ns, rfl, rfl, hobj, hints, hlen⟩ := script_of hn hpre hwl
  refine enter_call (codeAny_mono (call w s₀ s₁ mg mb fa o pm cd doc a vs ns G Y ho (fd_plain hd) hcd hmg hobj hints hlen hg) fun r s' hq => ?_)
  obtain ⟨rfl, h2, h3, h4⟩ := hq
  exact ⟨.inl ⟨.bool true, .bool true, [], rfl, fun _ => rfl, .bool true, post_true l _, fun _ => ⟨List.Pairwise.nil, fun _ hm => (nomatch hm)⟩⟩, h2, h3, h4⟩

/-! ### rules over ANY heap (no ledger) from facts about the written part K: the library's own take a ledger (News) for what they write -/
section
variable {prog : Program} {w : World} {A : Around} {E : Value → Shared → Prop} {s : Shared} {K : Frag}

/-! the whole heap as the ledger: makes every rule that writes through a ledger a rule over any heap -/
def ledger (h : Heap) (L d : Addr) : List (Addr × Obj) := (List.range h.objs.size).filterMap fun a => if a = L ∨ a = d then none else (h.get? a).map fun o => (a, o)
end
end Att

namespace L2
open PySem PySem.Spec PyProof.Rows

theorem vals_ints : ∀ {vs : List Value} {ns : List Int}, IntsAre vs ns → Vals (ns.map V.int) vs
  | _, _, .nil => .nil
  | _, _, .cons n t h => .cons ⟨t, rfl⟩ (vals_ints h)

/-- nothing is tracked but the script, known to the object (or it is an object of the module) -/
def Only (H : Hp) : Prop := ∀ b, H b = none ∨ ∃ o xs, H b = some (.frz o (.lst xs))

/-- THE HEAD: the law's promise, at the heap behind the top. F, the promise of the law's def, may use that base is part of the heap (so K.In base, base.Ns mainGlobals mg stand in Mod) -/
theorem law_call {P : Program} {w : World} {K : PySem.W.Frag} {mg mb : Str → Option Value} {CX : CXT} {k : Nat} {fa a : Addr} {fd : FuncData} {x : Str} {sp : Sp} {s₁ : Shared} {vs : List Value} {ns : List Int}
    (KX : K.In s₁.heap) (hns : s₁.heap.Ns mainGlobals mg) (hb : s₁.heap.Ns builtinsNs mb) (hbb : ∀ x : Str, x ≠ "__name__" → mb x = bootBuiltins x) (hlim : s₁.heap.NoLimit) (hg : s₁.gens = #[])
    (ha : s₁.heap.get? a = some { cls := .type "list", data := .seq vs.toArray }) (hi : IntsAre vs ns) (hl : ns.length ≤ sizeLine) (hr : Room k callerA)
    (F : ∀ base : Heap, K.In base → base.Ns mainGlobals mg → FnOk P w K mg base CX k fa fd [x] sp) (hbind : ∀ (s : Shared) (u : Value), BindsTo s fd ⟨[u], []⟩ [(x, u)])
    (hsp : ∀ H : Hp, Only H → SqL K H a (ns.map V.int) → sp [.ref a] H (fun v _ => v = .bl true) fun _ _ _ => False)
    (hCX : ∀ H e s', CX [] H s₁ (fun _ _ _ => False) e s' → False) :
    codeAny (model P w) callerA (.call (.ref fa) ⟨[.ref a], []⟩) (fun r s' => r = .ok (.ret (.bool true)) ∧ OldK s₁.heap s'.heap ∧ s'.os = s₁.os ∧ AllBare s'.gens) s₁ := by
  have rv := vals_ints hi
  have lenV := hi.length
  -- from an abstract heap in which nothing but the script may be tracked
  have core : ∀ H : Hp, Only H → SqL K H a (ns.map V.int) → HOk P w H s₁.heap → (∀ b, H b ≠ none → b = a) → (H a ≠ none → K.lookup a = none) →
      codeAny (model P w) callerA (.call (.ref fa) ⟨[.ref a], []⟩) (fun r s' => r = .ok (.ret (.bool true)) ∧ OldK s₁.heap s'.heap ∧ s'.os = s₁.os ∧ AllBare s'.gens) s₁ := by
    intro H hO hS hok hA hK
    have base_of : ∀ {b : Addr} {o : Obj}, s₁.heap.get? b = some o → H b = none → (hidT s₁.heap H).get? b = some o := fun e n => hidT_get e n
    have noA : ∀ {b : Addr} {o : Obj} {es : Array DictEntry} {ep : Nat}, s₁.heap.get? b = some o → o.data = .dict es ep → H b = none := fun {b o es ep} e d => by
      cases q : H b with
      | none => rfl
      | some u =>
        have e' : b = a := hA b (by rw [q]; simp)
        subst e'
        rw [ha] at e; cases e
        have d' : Data.seq vs.toArray _ = Data.dict es ep := d
        cases d'
    have nsK : ∀ {b : Addr} {m : Str → Option Value}, s₁.heap.Ns b m → (hidT s₁.heap H).Ns b m := fun {b m} ⟨o, es, ep, e, d, r⟩ => ⟨o, es, ep, base_of e (noA e d), d, r⟩
    have hKb : K.In (hidT s₁.heap H) := fun b o e => base_of (KX b o e) (by
      cases q : H b with
      | none => rfl
      | some u =>
        have e' : b = a := hA b (by rw [q]; simp)
        subst e'
        rw [hK (by rw [q]; simp)] at e; cases e)
    have hM : Mod K mg (hidT s₁.heap H) := ⟨hKb, nsK hns, ⟨mb, nsK hb, hbb⟩, let ⟨mc, h1, h2⟩ := hlim; ⟨mc, nsK h1, h2⟩⟩
    have e0 : Env0 P w K mg (hidT s₁.heap H) callerA [] s₁ H := ⟨rfl, hM, fun b o e => of_hidT e, Nat.le_of_eq (hidT_size _ _), trivial, fun b hb => absurd (show b ∈ ([] : List Addr) from hb) (by simp), hok, .of_eq hg⟩
    refine codeAny_mono ((F _ hKb (nsK hns)).run callerA [] s₁ H ⟨[.ref a], []⟩ [.ref a] [.ref a] _ _ hr e0 (hbind s₁ (.ref a)) (.cons rfl .nil) (hsp H hO hS)) fun r s' h => ?_
    cases r with
    | error e => exact (hCX H e s' h).elim
    | ok fl =>
      cases fl with
      | next => exact False.elim h
      | brk => exact False.elim h
      | cont => exact False.elim h
      | ret u =>
        obtain ⟨v, H', os, bare, un, hok', r', q⟩ := h
        have q' : v = .bl true := q
        subst q'
        obtain rfl : u = Value.bool true := r'
        refine ⟨rfl, OldK.of_keep fun b o e => ?_, os, bare⟩
        cases q : H b with
        | none => exact un.keep b o e q (by intro z; exact absurd (show b ∈ ([] : List Addr) from z) (by simp)) (by simp)
        | some u =>
          rcases hO b with z | ⟨ob, xs, z⟩
          · rw [q] at z; cases z
          · have z2 := un.frzs b ob _ z
            obtain ⟨e1, _⟩ := hok b _ z
            obtain ⟨e2, _⟩ := hok' b _ z2
            rw [e] at e1; cases e1
            exact e2
  cases hk : K.lookup a with
  | some o =>
    -- the script is one of the module's own objects
    have e := KX a o hk
    rw [ha] at e
    cases e
    refine core (fun _ => none) (fun _ => .inl rfl) (.inr ⟨_, vs.toArray, _, hk, rfl, rfl, rfl, by rw [List.size_toArray, lenV]; exact hl, by simpa using rv⟩) (fun b u z => by have z' : (none : Option HO) = some u := z; cases z') (fun b z => absurd rfl z) fun z => absurd rfl z
  | none =>
    refine core (fun b => if b = a then some (.frz { cls := .type "list", data := .seq vs.toArray } (.lst (ns.map V.int))) else none) (fun b => ?_) (.inl (.inr ⟨{ cls := .type "list", data := .seq vs.toArray }, if_pos rfl⟩)) (fun b u z => ?_) (fun b z => ?_) fun _ => hk
    · by_cases hb : b = a
      · exact .inr ⟨_, _, if_pos hb⟩
      · exact .inl (if_neg hb)
    · by_cases hb : b = a
      · have z' := (if_pos hb).symm.trans z
        cases z'
        subst hb
        exact ⟨ha, by rw [List.length_map]; exact hl, vs, _, rv, ha⟩
      · have z' := (if_neg hb).symm.trans z
        cases z'
    · by_cases hb : b = a
      · exact hb
      · exact absurd (if_neg hb) z
end L2

namespace L2
open PySem PySem.Spec PyProof.Rows

abbrev KOf {K : PySem.W.Frag} {h : Heap} (_ : K.In h) : PySem.W.Frag := K

/-- the goal that k_head leaves (case hc), from the law's promise. F gives the function object fd (K's own) once, then the promise over every base -/
theorem walk_of {l : PySem.W.OpenLaw} {n k : Nat} {q : Program} {loose : List Str} {XP : (Str → Option Value) → Heap → Prop} {YP : World → Heap → Prop} {d : DefRec} {K : Params → PySem.W.Frag} {CX : World → CXT} {sp : World → Sp} {x : Str}
    (hn : l.most = some n) (hn2 : n ≤ sizeLine) (hdf : d.params.defaults = []) (hr : Room k callerA)
    (hY : ∀ (w : World) (h : Heap), YP w h → (K w.params).In h)
    (F : ∀ (w : World) (mg : Str → Option Value) (fa : Addr) (h : Heap), (K w.params).In h → h.Ns mainGlobals mg → mg d.name = some (.ref fa) →
      ∃ fd : FuncData, (∀ (s : Shared) (u : Value), BindsTo s fd ⟨[u], []⟩ [(x, u)]) ∧
        ∀ base : Heap, (K w.params).In base → base.Ns mainGlobals mg → FnOk l.prog w (K w.params) mg base (CX w) k fa fd [x] (sp w))
    (hsp : ∀ (w : World) (H : Hp) (a : Addr) (ns : List Int), ns.length ≤ n → Only H → SqL (K w.params) H a (ns.map V.int) → sp w [.ref a] H (fun v _ => v = .bl true) fun _ _ _ => False)
    (hCX : ∀ (w : World) (H : Hp) (s : Shared) (e : Value) (s' : Shared), CX w [] H s (fun _ _ _ => False) e s' → False) :
    PySem.W.WalkO q loose XP YP l.row.toRowW d [] (fun f vs => PySem.call f vs) := by
  refine Att.attach_call hn hdf fun w s₀ s₁ mg mb fa o pm cd doc a vs ns G Y ho hd hcd hmg hobj hints hlen hg => ?_
  have KX := hY w _ Y
  obtain ⟨fd, hb, hF⟩ := F w mg fa _ KX G.T.g hmg
  exact law_call KX G.T.g G.T.b G.T.builtins G.T.nolimit hg hobj hints (Nat.le_trans hlen hn2) hr hF hb (fun H hO hS => hsp w H a ns hlen hO hS) fun H e s' => hCX w H s₁ e s'
end L2

/-! SHORT WORDS over the layer: a def of the text, its body, what a loop and a test want. -/
namespace L2
open PySem PySem.Spec PyProof.Rows

/-! ### the text by places -/
/-- the j-th statement of a class's body -/
def inClass (s : Stmt) (j : Nat) : Stmt := match s with
  | .ClassDef _ _ _ body _ _ _ _ _ _ _ => body.getD j (.Pass ⟨0, 0, 0, 0⟩)
  | _ => .Pass ⟨0, 0, 0, 0⟩
def defArgs (s : Stmt) : Arguments := match s with
  | .FunctionDef _ a _ _ _ _ _ _ _ _ => a
  | _ => { posonlyargs := [], args := [], vararg := none, kwonlyargs := [], kw_defaults := [], kwarg := none, defaults := [] }
def defBody (s : Stmt) : List Stmt := match s with
  | .FunctionDef _ _ b _ _ _ _ _ _ _ => b
  | _ => []
def defScope (s : Stmt) : Scope := match s with
  | .FunctionDef _ _ _ _ _ _ sc _ _ _ => sc
  | _ => { kind := .function, names := [], isGenerator := false, isCoroutine := false }

/-! ### no exception leaves a def -/
abbrev CX0 : CXT := fun _ _ _ _ _ _ => False
abbrev E0 : XK := fun _ _ _ => False
theorem pass0 {X : Cx} : Passes CX0 X E0 := fun _ _ _ _ _ _ _ h => h.elim

/-! ### a def (or method) of the text as it stands behind the top -/
structure Fun (K : PySem.W.Frag) (x qual : Str) (st : Stmt) (f : Addr) (fd : FuncData) : Prop where
  ex : ∃ (oc : Value) (od : Option Addr) (kV doc pm : Value) (an : Option Addr) (cdv ct : Value) (osl : Array (Option Value)),
    fd = PySem.W.fnOf x qual (defArgs st) (defBody st) (defScope st) .none kV doc pm an cdv ct ∧ K.lookup f = some ⟨oc, od, .func fd, osl⟩ ∧ PySem.W.codeIn K cdv qual = true
  kp : PySem.W.keepIn K (.ref f) = true
section
variable {P : Program} {w : World} {K : PySem.W.Frag} {mg : Str → Option Value} {base : Heap}
/-- THE RULE for a def: its body as a term of rules, and the reading of that term -/
theorem Fun.ok {x qual : Str} {st : Stmt} {f : Addr} {fd : FuncData} {N ps : List Str} {k : Nat} {sp : Sp} (F : Fun K x qual st f fd) (S : FnScope N ps (defScope st)) (len : ∀ vs H Q E, sp vs H Q E → vs.length = ps.length)
    (hbody : ∀ (cdv : Value) (A : Around) (outer : List Env) (s : Shared) (H : Hp) (vs : List V) (Q : VK) (E : XK), Room k (A.deeper (envOfC qual (defScope st) s.heap.objs.size f cdv)) → sp vs H Q E →
      ∃ t, PSs (cxOf CX0 P w K mg base N qual (defScope st) f cdv A outer s H E).nox (defBody st) t ∧ t { nx := fun _ H' => Q .non H', rt := Q } (start N vs) H) : FnOk P w K mg base CX0 (k + 1) f fd ps sp := by
  obtain ⟨oc, od, kV, doc, pm, an, cdv, ct, osl, rfl, lk, hcd⟩ := F.ex
  refine fn_of lk hcd S len fun A outer s H vs Q E hr hsp => ?_
  obtain ⟨t, h, q⟩ := hbody cdv A outer s H vs Q E hr hsp
  exact ⟨t, h.nox, q⟩
/-- how its arguments bind (no defaults): h is «fun _ _ _ _ _ _ us hl => match us, hl with | [_, _], _ => rfl», one _ a parameter -/
theorem Fun.binds {x qual : Str} {st : Stmt} {f : Addr} {fd : FuncData} {ps : List Str} (F : Fun K x qual st f fd)
    (h : ∀ (kV doc pm : Value) (an : Option Addr) (cdv ct : Value) (us : List Value), us.length = ps.length → bindArgs (PySem.W.fnOf x qual (defArgs st) (defBody st) (defScope st) .none kV doc pm an cdv ct) ⟨us, []⟩ = pure (ps.zip us)) : Binds K fd ps [] := by
  obtain ⟨oc, od, kV, doc, pm, an, cdv, ct, osl, rfl, lk, hcd⟩ := F.ex
  exact .all (h kV doc pm an cdv ct)
theorem fun_mk {x qual : Str} {st : Stmt} {f : Addr} {oc : Value} {od an : Option Addr} {osl : Array (Option Value)} {kV doc pm cdv ct : Value} (l : K.lookup f = some ⟨oc, od, .func (PySem.W.fnOf x qual (defArgs st) (defBody st) (defScope st) .none kV doc pm an cdv ct), osl⟩)
    (c : PySem.W.codeIn K cdv qual = true) (k : PySem.W.keepIn K (.ref f) = true) : Fun K x qual st f (PySem.W.fnOf x qual (defArgs st) (defBody st) (defScope st) .none kV doc pm an cdv ct) := ⟨⟨oc, od, kV, doc, pm, an, cdv, ct, osl, rfl, l, c⟩, k⟩
end
theorem small1000 {n : Nat} (h : n ≤ 1000) : n < sizeLine := Nat.lt_of_le_of_lt h (by decide)

/-! ### expressions in short: the name that stands in the i-th slot -/
section
variable {X : Cx}
theorem pv (i : Nat) {x : Str} {pos : Pos} (hN : X.N[i]? = some x := by rfl) (hv : Vis X.env.scope x := by first | exact Or.inl rfl | exact Or.inr (Or.inl rfl) | exact Or.inr (Or.inr rfl)) (hd : (x == ("__debug__" : Str)) = false := by decide)
    (hcd : (x == ("__classdict__" : Str)) = false := by decide) : PE X (.Name x pos) (tVar i) := pe_var hN hv hd hcd
end

/-! ### tests -/
theorem iteF {A B : Prop} (h : B) : if false = true then A else B := by
  rw [if_neg Bool.false_ne_true]
  exact h
theorem iteT {A B : Prop} (h : A) : if true = true then A else B := by
  rw [if_pos rfl]
  exact h
theorem iteNS {c A B : Prop} [Decidable c] (hc : c) (h : B) : if (!decide c) = true then A else B := by
  rw [decide_eq_true hc]
  exact iteF h

/-! ### heaps -/
/-- all that was tracked is as it was -/
def Same (H H' : Hp) : Prop := ∀ b o, H b = some o → H' b = some o
theorem Same.refl (H : Hp) : Same H H := fun _ _ h => h
theorem Same.trans {H H1 H2 : Hp} (a : Same H H1) (b : Same H1 H2) : Same H H2 := fun c o h => b c o (a c o h)
theorem Same.free {H H' : Hp} (e : Same H H') {l : Addr} (h : H' l = Option.none) : H l = Option.none := by
  cases q : H l with
  | none => rfl
  | some o =>
    rw [e l o q] at h
    cases h
end L2

set_option Elab.async false
set_option linter.all false
set_option maxRecDepth 100000
set_option maxHeartbeats 4000000
/-! Own rules over the hand layer, part 1: list comprehensions (names captured from around, own cells, a test or none, any target), and their assignment to a local name. -/
namespace L2
open PySem PySem.Spec PyProof.Rows

/-! ### the closure of a comprehension's block -/
def clGo (cells : List (Str × Addr)) : List (Str × NameKind) → List (Str × Addr) → List (Str × Addr)
  | [], acc => acc
  | (n, k) :: r, acc => if k == .free then clGo cells r ((n, (cells.lookup n).getD 0) :: acc) else clGo cells r acc
def clOf (scope : Scope) (env : Env) : List (Str × Addr) := clGo env.cells scope.names []
theorem clGo_run {env : Env} (f : Str × NameKind → List (Str × Addr) → Sem (ForInStep (List (Str × Addr))))
    (hf : ∀ name kind cs, f (name, kind) cs = if kind == .free then (do let a ← cellOf env name; pure (.yield ((name, a) :: cs))) else pure (.yield cs)) :
    ∀ (names : List (Str × NameKind)) (acc : List (Str × Addr)), (∀ y ∈ names, y.2 = .free → ∃ c, env.cells.lookup y.1 = some c) → forIn names acc f = pure (clGo env.cells names acc)
  | [], acc, _ => by rw [List.forIn_nil]; rfl
  | (n, k) :: r, acc, h => by
    have hr : ∀ y ∈ r, y.2 = .free → ∃ c, env.cells.lookup y.1 = some c := fun y hy => h y (List.mem_cons_of_mem _ hy)
    rw [List.forIn_cons, hf]
    unfold clGo
    by_cases hk : (k == NameKind.free) = true
    · rw [if_pos hk, if_pos hk]
      obtain ⟨c, hc⟩ := h (n, k) List.mem_cons_self (eq_of_beq hk)
      have e : cellOf env n = pure c := by unfold cellOf; rw [hc]
      rw [e, hc]
      exact clGo_run f hf r ((n, c) :: acc) hr
    · rw [if_neg hk, if_neg hk]
      exact clGo_run f hf r acc hr
theorem closure_of {scope : Scope} {env : Env} (h : ∀ y ∈ scope.names, y.2 = .free → ∃ c, env.cells.lookup y.1 = some c) : closureFor scope env = pure (clOf scope env) := by
  simp only [closureFor]
  rw [clGo_run (env := env) _ (fun name kind cs => by cases hk : kind == NameKind.free <;> simp [hk]) scope.names [] h]
  rfl
theorem look_cons {α : Type} (n x : Str) (c : α) (r : List (Str × α)) : ((n, c) :: r).lookup x = if x = n then some c else r.lookup x := by
  rw [List.lookup_cons]
  by_cases h : x = n
  · subst h; simp
  · have : (x == n) = false := beq_eq_false_iff_ne.mpr h
    rw [this, if_neg h]
theorem clGo_look {cells : List (Str × Addr)} {x : Str} {c : Addr} : ∀ {names : List (Str × NameKind)} {acc : List (Str × Addr)}, (∀ y ∈ names, y.2 = .free → ∃ c, cells.lookup y.1 = some c) → (clGo cells names acc).lookup x = some c →
    acc.lookup x = some c ∨ cells.lookup x = some c
  | [], _, _, e => .inl e
  | (n, k) :: r, acc, h, e => by
    have hr : ∀ y ∈ r, y.2 = .free → ∃ c, cells.lookup y.1 = some c := fun y hy => h y (List.mem_cons_of_mem _ hy)
    unfold clGo at e
    by_cases hk : (k == NameKind.free) = true
    · rw [if_pos hk] at e
      rcases clGo_look hr e with q | q
      · rw [look_cons] at q
        by_cases hx : x = n
        · rw [if_pos hx] at q
          obtain ⟨d, hd⟩ := h (n, k) List.mem_cons_self (eq_of_beq hk)
          have hd' : cells.lookup n = some d := hd
          rw [hd'] at q
          exact .inr (by rw [hx, hd']; exact q)
        · rw [if_neg hx] at q
          exact .inl q
      · exact .inr q
    · rw [if_neg hk] at e
      exact clGo_look hr e
theorem clGo_has {cells : List (Str × Addr)} {x : Str} : ∀ {names : List (Str × NameKind)} {acc : List (Str × Addr)}, ((x, NameKind.free) ∈ names ∨ ∃ c, acc.lookup x = some c) → ∃ c, (clGo cells names acc).lookup x = some c
  | [], _, h => by
    rcases h with h | h
    · simp at h
    · exact h
  | (n, k) :: r, acc, h => by
    unfold clGo
    by_cases hk : (k == NameKind.free) = true
    · rw [if_pos hk]
      refine clGo_has ?_
      rw [look_cons]
      by_cases hx : x = n
      · rw [if_pos hx]; exact .inr ⟨_, rfl⟩
      · rw [if_neg hx]
        rcases h with h | h
        · rcases List.mem_cons.mp h with e | e
          · exact absurd (congrArg Prod.fst e) hx
          · exact .inl e
        · exact .inr h
    · rw [if_neg hk]
      refine clGo_has ?_
      rcases h with h | h
      · rcases List.mem_cons.mp h with e | e
        · have : NameKind.free = k := congrArg Prod.snd e
          subst this
          exact absurd rfl hk
        · exact .inl e
      · exact .inr h

/-! ### own cells -/
structure CF (h : Heap) (cs : List (Str × Addr)) : Prop where
  cell : ∀ x c, cs.lookup x = some c → ∃ v, h.IsCell c v
  inj : ∀ x y c, cs.lookup x = some c → cs.lookup y = some c → x = y
theorem cf_step : ∀ (names : List (Str × NameKind)) (h : Heap) (acc : List (Str × Addr)), CF h acc → CF (pushCells h names) (cellsFrom h.objs.size names acc)
  | [], _, _, c => c
  | (n, k) :: r, h, acc, c => by
    unfold pushCells cellsFrom
    by_cases hk : (k == NameKind.cell) = true
    · rw [if_pos hk, if_pos hk]
      have q := cf_step r (h.push { cls := .type "cell", data := .cell none }) ((n, h.objs.size) :: acc) ⟨fun x d e => ?_, fun x y d e1 e2 => ?_⟩
      · rwa [Heap.size_push] at q
      · rw [look_cons] at e
        by_cases hx : x = n
        · rw [if_pos hx] at e
          cases e
          exact ⟨_, _, Heap.get?_push_size _ rfl, rfl⟩
        · rw [if_neg hx] at e
          obtain ⟨v, q⟩ := c.cell x d e
          exact ⟨v, q.keeps fun b o e => Heap.get?_push_of_some _ e⟩
      · rw [look_cons] at e1 e2
        have no : ∀ z, acc.lookup z = some h.objs.size → False := fun z e => by
          obtain ⟨v, q⟩ := c.cell z _ e
          exact absurd q.lt (Nat.lt_irrefl _)
        by_cases hx : x = n
        · rw [if_pos hx] at e1
          cases e1
          by_cases hy : y = n
          · rw [hx, hy]
          · rw [if_neg hy] at e2
            exact (no y e2).elim
        · rw [if_neg hx] at e1
          by_cases hy : y = n
          · rw [if_pos hy] at e2
            cases e2
            exact (no x e1).elim
          · rw [if_neg hy] at e2
            exact c.inj x y d e1 e2
    · rw [if_neg hk, if_neg hk]
      exact cf_step r h acc c
theorem cf_new {x : Str} {c : Addr} : ∀ {names : List (Str × NameKind)} {n : Nat} {acc : List (Str × Addr)}, (cellsFrom n names acc).lookup x = some c → acc.lookup x = some c ∨ n ≤ c
  | [], _, _, e => .inl e
  | (m, k) :: r, n, acc, e => by
    unfold cellsFrom at e
    by_cases hk : (k == NameKind.cell) = true
    · rw [if_pos hk] at e
      rcases cf_new e with q | q
      · rw [look_cons] at q
        by_cases hx : x = m
        · rw [if_pos hx] at q
          cases q
          exact .inr (Nat.le_refl _)
        · rw [if_neg hx] at q
          exact .inl q
      · exact .inr (Nat.le_of_succ_le q)
    · rw [if_neg hk] at e
      exact cf_new e
theorem cf_own {x : Str} {c lo : Addr} : ∀ {names : List (Str × NameKind)} {n : Nat} {acc : List (Str × Addr)}, lo ≤ n → ((x, NameKind.cell) ∈ names ∨ ∀ d, acc.lookup x = some d → lo ≤ d) → (cellsFrom n names acc).lookup x = some c → lo ≤ c
  | [], _, _, _, h, e => by
    rcases h with h | h
    · simp at h
    · exact h c e
  | (m, k) :: r, n, acc, hn, h, e => by
    unfold cellsFrom at e
    by_cases hk : (k == NameKind.cell) = true
    · rw [if_pos hk] at e
      refine cf_own (Nat.le_succ_of_le hn) ?_ e
      by_cases hx : x = m
      · refine .inr fun d q => ?_
        rw [look_cons, if_pos hx] at q
        cases q
        exact hn
      · rcases h with h | h
        · rcases List.mem_cons.mp h with z | z
          · exact absurd (congrArg Prod.fst z) hx
          · exact .inl z
        · refine .inr fun d q => ?_
          rw [look_cons, if_neg hx] at q
          exact h d q
    · rw [if_neg hk] at e
      refine cf_own hn ?_ e
      rcases h with h | h
      · rcases List.mem_cons.mp h with z | z
        · have : NameKind.cell = k := congrArg Prod.snd z
          subst this
          exact absurd rfl hk
        · exact .inl z
      · exact .inr h
theorem cf_has {x : Str} : ∀ {names : List (Str × NameKind)} {n : Nat} {acc : List (Str × Addr)}, ((x, NameKind.cell) ∈ names ∨ ∃ c, acc.lookup x = some c) → ∃ c, (cellsFrom n names acc).lookup x = some c
  | [], _, _, h => by
    rcases h with h | h
    · simp at h
    · exact h
  | (m, k) :: r, n, acc, h => by
    unfold cellsFrom
    by_cases hk : (k == NameKind.cell) = true
    · rw [if_pos hk]
      refine cf_has ?_
      rw [look_cons]
      by_cases hx : x = m
      · rw [if_pos hx]; exact .inr ⟨_, rfl⟩
      · rw [if_neg hx]
        rcases h with h | h
        · rcases List.mem_cons.mp h with z | z
          · exact absurd (congrArg Prod.fst z) hx
          · exact .inl z
        · exact .inr h
    · rw [if_neg hk]
      refine cf_has ?_
      rcases h with h | h
      · rcases List.mem_cons.mp h with z | z
        · have : NameKind.cell = k := congrArg Prod.snd z
          subst this
          exact absurd rfl hk
        · exact .inl z
      · exact .inr h
theorem cf_skip {x : Str} : ∀ {names : List (Str × NameKind)} {n : Nat} {acc : List (Str × Addr)}, (x, NameKind.cell) ∉ names → (cellsFrom n names acc).lookup x = acc.lookup x
  | [], _, _, _ => rfl
  | (m, k) :: r, n, acc, h => by
    have hr : (x, NameKind.cell) ∉ r := fun z => h (List.mem_cons_of_mem _ z)
    unfold cellsFrom
    by_cases hk : (k == NameKind.cell) = true
    · rw [if_pos hk, cf_skip hr, look_cons, if_neg]
      intro e
      subst e
      have : k = NameKind.cell := eq_of_beq hk
      subst this
      exact h List.mem_cons_self
    · rw [if_neg hk]
      exact cf_skip hr
theorem look_of_mem {α : Type} : ∀ {names : List (Str × α)} {x : Str} {k : α}, (names.map (·.1)).Nodup → (x, k) ∈ names → names.lookup x = some k
  | [], _, _, _, h => by simp at h
  | (m, j) :: r, x, k, nd, h => by
    rw [List.map_cons, List.nodup_cons] at nd
    rw [look_cons]
    rcases List.mem_cons.mp h with e | e
    · cases e
      rw [if_pos rfl]
    · have : x ≠ m := fun z => nd.1 (by subst z; exact List.mem_map_of_mem (f := (·.1)) e)
      rw [if_neg this]
      exact look_of_mem nd.2 e
theorem relabel_mem {scope : Scope} {env : Env} {x : Str} {k : NameKind} (h : (relabel scope env).names.lookup x = some k) (hk : k = .cell ∨ k = .free) : (x, NameKind.cell) ∈ scope.names ∨ (x, NameKind.free) ∈ scope.names := by
  have q := mem_of_lookup h
  unfold relabel at q
  obtain ⟨⟨n, j⟩, hm, e⟩ := List.mem_map.mp q
  dsimp only at e
  by_cases hc : (j == NameKind.free && env.scope.kind == .function && env.kindOf n == some .cell) = true
  · rw [if_pos hc] at e
    cases e
    have : j = NameKind.free := by
      have := (Bool.and_eq_true_iff.mp (Bool.and_eq_true_iff.mp hc).1).1
      exact eq_of_beq this
    subst this
    exact .inr hm
  · rw [if_neg hc] at e
    cases e
    rcases hk with rfl | rfl
    · exact .inl hm
    · exact .inr hm
theorem relabel_free {env : Env} : ∀ {names : List (Str × NameKind)} {x : Str}, names.lookup x = some .free →
    (names.map fun (n, k) => if (k == NameKind.free && env.scope.kind == .function && env.kindOf n == some .cell) then (n, NameKind.cell) else (n, k)).lookup x = some .cell ∨
    (names.map fun (n, k) => if (k == NameKind.free && env.scope.kind == .function && env.kindOf n == some .cell) then (n, NameKind.cell) else (n, k)).lookup x = some .free
  | [], _, h => by simp at h
  | (n, k) :: r, x, h => by
    have ih := @relabel_free env r x
    rw [look_cons] at h
    rw [List.map_cons]
    dsimp only
    by_cases hc : (k == NameKind.free && env.scope.kind == .function && env.kindOf n == some .cell) = true
    · rw [if_pos hc, look_cons]
      by_cases hx : x = n
      · rw [if_pos hx]; exact .inl rfl
      · rw [if_neg hx] at h ⊢; exact ih h
    · rw [if_neg hc, look_cons]
      by_cases hx : x = n
      · rw [if_pos hx] at h ⊢; exact .inr h
      · rw [if_neg hx] at h ⊢; exact ih h

/-! ### the block's frame -/
theorem newEnv_comp {M : Model} {A : Around} {E : Value → Shared → Prop} {s : Shared} {scope : Scope} {globals : Addr} {cl : List (Str × Addr)} {qual : Str} {env : Env} {Q : Env → Shared → Prop}
    (hQ : Q { scope := scope, locals := s.heap.objs.size, globals := globals, cells := cellsFrom (s.heap.objs.size + 1) scope.names cl, qual := qual, func := none, code := env.code, frame := env.frame, builtins := env.builtins }
      { s with heap := pushCells (s.heap.push { cls := .type "dict", data := .dict #[] }) scope.names }) :
    wpAny M A (newFunctionEnv scope globals cl [] qual none .none (some env)) Q E s := by
  simp only [newFunctionEnv, Option.isSome_some, if_true]
  refine wpAny_bind (wpAny_alloc ?_)
  refine wpAny_bind (wpAny_layCells _ (fun name kind cells => by cases hkc : kind == NameKind.cell <;> simp [hkc]) _ _ _ _ ?_)
  rw [show ({ s with heap := s.heap.push { cls := .type "dict", data := .dict #[] } } : Shared).heap.objs.size = s.heap.objs.size + 1 from Heap.size_push ..]
  rw [List.forIn_nil]
  exact wpAny_bind (wpAny_pure (wpAny_pure hQ))

/-! ### the loop of a comprehension, the owned tuple's step within -/
section
variable {prog : Program} {w : World} {A : Around} {R : Result → Shared → Prop} {s : Shared}
theorem compLoop_go {elt target iter : Expr} {ifs : List Expr} {scope : Scope} {pos : Pos} {it acc : Value} {env : Env} (I : Nat → Shared → Prop)
    (turn : ∀ n s, I n s → wpAny (model prog w) A (pyNext it) (fun r s₁ => match r with
      | none => R (.ok .next) s₁
      | some v => wpAny (model prog w) A (letOwnedTupleGo target it v) (fun _ s₁' => wpAny (model prog w) A (assign target env v) (fun _ s₂ =>
          wpAny (model prog w) A (forIn ifs true fun c r => if r = true then do let ok ← isTrue c env (eval c env); pure (ForInStep.yield ok) else pure (ForInStep.yield r)) (fun ok s₃ =>
            if ok = true then wpAny (model prog w) A (eval elt env) (fun x s₄ =>
              wpAny (model prog w) A (call (.builtin "list.append") [acc, x]) (fun _ s₅ => ∃ m, m < n ∧ I m s₅) (fun _ _ => False) s₄) (fun _ _ => False) s₃
            else ∃ m, m < n ∧ I m s₃) (fun _ _ => False) s₂) (fun _ _ => False) s₁') (fun _ _ => False) s₁) (fun _ _ => False) s)
    (n : Nat) (h : I n s) :
    codeAny (model prog w) A (.compLoop (.ListComp elt [⟨target, iter, ifs, 0⟩] scope pos) 0 it acc env) R s := by
  refine codeAny_loop rfl I (fun n s hI => ?_) n h
  show wpAny _ A ((compTurn (.ListComp elt [⟨target, iter, ifs, 0⟩] scope pos) 0 it acc env).onRaise (fun x => do noteFrame x env; theTreesLotGoes x)) _ _ s
  refine wpAny_noted ?_
  rw [compTurn_list]
  refine wpAny_bind (wpAny_standAt (wpAny_bind (wpAny_mono (turn n s hI) (fun r s₁ h₁ => ?_) fun _ _ h' => h'.elim)))
  cases r with
  | none => exact wpAny_pure h₁
  | some v =>
    refine wpAny_bind (wpAny_mono h₁ (fun _ s₁' h₁' => ?_) fun _ _ h' => h'.elim)
    refine wpAny_bind (wpAny_mono h₁' (fun _ s₂ h₂ => wpAny_bind (wpAny_mono h₂ (fun ok s₃ h₃ => ?_) fun _ _ h' => h'.elim)) fun _ _ h' => h'.elim)
    cases ok with
    | false => exact wpAny_pure ⟨rfl, h₃⟩
    | true =>
      exact wpAny_bind (wpAny_bind (wpAny_mono h₃ (fun x s₄ h₄ => wpAny_bind (wpAny_mono h₄ (fun _ s₅ h₅ => wpAny_pure (wpAny_pure ⟨rfl, h₅⟩)) fun _ _ h' => h'.elim)) fun _ _ h' => h'.elim))
end

/-! ### the inner context -/
def cpEnv (scope : Scope) (C : Addr) (env : Env) : Env :=
  { scope := relabel scope env, locals := C, globals := env.globals, cells := cellsFrom (C + 1) scope.names (clOf scope env), qual := env.qual, func := none, code := env.code, frame := env.frame, builtins := env.builtins }
def cpCx (X : Cx) (scope : Scope) (N : List Str) (C : Addr) (s₀ : Shared) (H₀ : Hp) (fp : List Addr) : Cx where
  prog := X.prog
  w := X.w
  K := X.K
  mg := X.mg
  base := X.base
  A := X.A
  N := N
  s₀ := s₀
  H₀ := H₀
  env := cpEnv scope C X.env
  outer := X.stack
  stack := X.stack
  ex := fp
  fn := fun x => scope.names.lookup x == some .cell
  calm := X.calm
  pn := []
  xe := fun _ _ => False
/-- the block's names at the start of a turn: its own ones unbound, then the captured ones -/
def capSt (n : Nat) (caps : List Nat) (σ : St) : St := List.replicate n none ++ caps.map fun j => (σ[j]?).join
/-- the tests of a comprehension -/
def PTs (X : Cx) (ifs : List Expr) (t : TT) : Prop :=
  ∀ (pins : List (Addr × Obj)) (s : Shared) (σ : St) (H : Hp) (Q : Bool → Hp → Prop), Inv X pins σ H s → t σ H Q →
    wpAny (model X.prog X.w) X.A (forIn ifs true fun c r => if r = true then do let ok ← isTrue c X.env (eval c X.env); pure (ForInStep.yield ok) else pure (ForInStep.yield r)) (TP X pins σ Q) X.xe s
def tTrue : TT := fun _ H Q => Q true H
theorem pts_nil {X : Cx} : PTs X [] tTrue := fun _ _ _ H _ I h => wpAny_tests_nil ⟨H, I, h⟩
theorem pts_one {X : Cx} {c : Expr} {t : TT} (h : PT X c t) : PTs X [c] t := fun pins s σ H Q I q => wpAny_tests_one (h pins s σ H Q I q)
/-- the target stores the block's own names alone -/
def OwnG (n : Nat) (g : TG) : Prop := ∀ v σ H Q, g v σ H Q → g v σ H fun σ2 H2 => Q σ2 H2 ∧ σ2.drop n = σ.drop n ∧ σ2.length = σ.length
theorem drop_set_lt {α : Type} {l : List α} {i n : Nat} {a : α} (h : i < n) : (l.set i a).drop n = l.drop n := by
  apply List.ext_getElem?
  intro k
  rw [List.getElem?_drop, List.getElem?_drop, List.getElem?_set_ne (by omega)]
theorem own_name {i n : Nat} (h : i < n := by decide) : OwnG n (gName i) := fun v σ H Q q => ⟨q, drop_set_lt h, List.length_set ..⟩
theorem own_pair {K : PySem.W.Frag} {i j n : Nat} (h : i < n := by decide) (h' : j < n := by decide) : OwnG n (gTup K 2 (gCons (gName i) (gCons (gName j) gNil))) := by
  rintro v σ H Q ⟨a, xs, e, hs, hl, v1, r1, e1, v2, r2, e2, e3, q⟩
  exact ⟨a, xs, e, hs, hl, v1, r1, e1, v2, r2, e2, e3, q, by rw [drop_set_lt h', drop_set_lt h], by rw [List.length_set, List.length_set]⟩

/-- [elt for tg in iter if ..]: the list at D grows; W: the invariant by the turn, a measure, the items so far; N: what a turn is to reach -/
def tComp (n : Nat) (caps : List Nat) (wi : TI) (g : TG) (tc : TT) (te : TE) : TE := fun σ H Q => wi σ H fun J H1 => ∀ D, H1 D = none →
  ∃ W : Nat → Nat → List V → Hp → Prop, (∃ m, W 0 m [] (upd H1 D (.lst []))) ∧ ∀ i m ys H, W i m ys H →
    (J.stop i H ∧ Q (.ref D) H) ∨ (J.go i H ∧ ∃ N : List V → Hp → Prop, (∀ ys' H', N ys' H' → ∃ m', m' < m ∧ W (i + 1) m' ys' H') ∧ ∀ x H', J.yld i H x H' →
      g x (capSt n caps σ) H' fun σ2 H2 => tc σ2 H2 fun b H3 => if b = true then te σ2 H3 fun y H4 => H4 D = some (.lst ys) ∧ ys.length < sizeLine ∧ N (ys ++ [y]) (upd H4 D (.lst (ys ++ [y]))) else N ys H3)

def frOk (sc outer : Scope) : Bool := sc.names.all fun y => y.2 != .free || outer.names.lookup y.1 == some .cell || outer.names.lookup y.1 == some .free
structure CompOk (X : Cx) (elt tg iter : Expr) (ifs : List Expr) (scope : Scope) (n : Nat) (caps : List Nat) (wi : TI) (g : TG) (tc : TT) (te : TE) : Prop where
  calm : X.calm = true
  it : PI X tg iter wi
  ex : ∃ own cap : List Str, own.length = n ∧ caps.map (fun j => X.N[j]?) = cap.map some ∧ (cap.all fun x => scope.names.lookup x == some .free) = true ∧
    (∀ C s₀ H₀ fp, PG (cpCx X scope (own ++ cap) C s₀ H₀ fp) tg g) ∧ (∀ C s₀ H₀ fp, PTs (cpCx X scope (own ++ cap) C s₀ H₀ fp) ifs tc) ∧ (∀ C s₀ H₀ fp, PE (cpCx X scope (own ++ cap) C s₀ H₀ fp) elt te)
  own : OwnG n g
  kind : scope.kind = .function
  nd : (scope.names.map (·.1)).Nodup
  fr : frOk scope X.env.scope = true
theorem comp_mk {X : Cx} {elt tg iter : Expr} {ifs : List Expr} {scope : Scope} {wi : TI} {g : TG} {tc : TT} {te : TE} (own cap : List Str) (caps : List Nat) (calm : X.calm = true) (it : PI X tg iter wi)
    (hg : ∀ C s₀ H₀ fp, PG (cpCx X scope (own ++ cap) C s₀ H₀ fp) tg g) (ho : OwnG own.length g) (ht : ∀ C s₀ H₀ fp, PTs (cpCx X scope (own ++ cap) C s₀ H₀ fp) ifs tc) (he : ∀ C s₀ H₀ fp, PE (cpCx X scope (own ++ cap) C s₀ H₀ fp) elt te)
    (hcap : caps.map (fun j => X.N[j]?) = cap.map some := by rfl) (hck : (cap.all fun x => scope.names.lookup x == some .free) = true := by rfl) (kind : scope.kind = .function := by rfl)
    (nd : (scope.names.map (·.1)).Nodup := by decide +kernel) (fr : frOk scope X.env.scope = true := by rfl) : CompOk X elt tg iter ifs scope own.length caps wi g tc te :=
  ⟨calm, it, ⟨own, cap, rfl, hcap, hck, hg, ht, he⟩, ho, kind, nd, fr⟩

section
variable {X : Cx} {elt tg iter : Expr} {ifs : List Expr} {scope : Scope} {pos : Pos} {wi : TI} {g : TG} {tc : TT} {te : TE} {n : Nat} {caps : List Nat}
theorem CompOk.free (c : CompOk X elt tg iter ifs scope n caps wi g tc te) : ∀ y ∈ scope.names, y.2 = .free → X.env.kindOf y.1 = some .cell ∨ X.env.kindOf y.1 = some .free := fun y hy e => by
  have q := List.all_eq_true.mp c.fr y hy
  rw [e] at q
  have q' : (X.env.scope.names.lookup y.1 == some NameKind.cell || X.env.scope.names.lookup y.1 == some NameKind.free) = true := by simpa using q
  rcases Bool.or_eq_true_iff.mp q' with z | z
  · exact .inl (eq_of_beq z)
  · exact .inr (eq_of_beq z)
theorem CompOk.cells (c : CompOk X elt tg iter ifs scope n caps wi g tc te) (ok : X.Ok) : ∀ y ∈ scope.names, y.2 = .free → ∃ d, X.env.cells.lookup y.1 = some d := fun y hy e => ok.has y.1 (c.free y hy e)
theorem CompOk.clos (c : CompOk X elt tg iter ifs scope n caps wi g tc te) (ok : X.Ok) : closureFor scope X.env = pure (clOf scope X.env) := closure_of (c.cells ok)
theorem CompOk.names (c : CompOk X elt tg iter ifs scope n caps wi g tc te) : ∀ x ∈ scope.names, x.2 = .local → scope.names.lookup x.1 = some .local := fun x hx e => by
  obtain ⟨a, k⟩ := x
  have e' : k = .local := e
  subst e'
  exact look_of_mem c.nd hx
/-- from the state in which the new list stands -/
theorem comp_env (c : CompOk X elt tg iter ifs scope n caps wi g tc te) {pins : List (Addr × Obj)} {s : Shared} {σ : St} {H : Hp} {Q : VK} {RR : Value → Addr → Result → Shared → Prop} {E : Value → Shared → Prop}
    {it D : Addr} {fp : List Addr} {tn : Nat → Heap → Prop} {J : It} (I : Inv X pins σ H s) (T : Turn X.prog X.w X.K tg J fp it tn) (st : tn 0 s.heap) (hf : ∀ b ∈ fp, FpOk X pins H b)
    {W : Nat → Nat → List V → Hp → Prop} {m0 : Nat} (w0 : W 0 m0 [] H)
    (turn : ∀ i m ys H, W i m ys H → (J.stop i H ∧ Q (.ref D) H) ∨ (J.go i H ∧ ∃ N : List V → Hp → Prop, (∀ ys' H', N ys' H' → ∃ m', m' < m ∧ W (i + 1) m' ys' H') ∧ ∀ x H', J.yld i H x H' →
      g x (capSt n caps σ) H' fun σ2 H2 => tc σ2 H2 fun b H3 => if b = true then te σ2 H3 fun y H4 => H4 D = some (.lst ys) ∧ ys.length < sizeLine ∧ N (ys ++ [y]) (upd H4 D (.lst (ys ++ [y]))) else N ys H3))
    (hRR : ∀ C m s' H', Inv X pins σ H' s' → FpOk X pins H' C → s'.heap.Ns C m → Q (.ref D) H' → RR (.ref D) C (.ok .next) s') :
    wpAny (model X.prog X.w) X.A (newFunctionEnv scope X.env.globals (clOf scope X.env) [] X.env.qual none .none (some X.env)) (fun cenv s₄ =>
      codeAny (model X.prog X.w) X.A (.compStart (.ListComp elt [⟨tg, iter, ifs, 0⟩] scope pos) 0 (.ref it) (.ref D) { cenv with scope := relabel scope X.env }) (RR (.ref D) cenv.locals) s₄) E s := by
  obtain ⟨own, cap, hn, hcap, hck, hg, ht, he⟩ := c.ex
  refine newEnv_comp ?_
  have kp : ∀ b o, s.heap.get? b = some o → (pushCells (s.heap.push { cls := .type "dict", data := .dict #[] }) scope.names).get? b = some o := fun b o e => pushCells_keeps _ _ b o (Heap.get?_push_of_some _ e)
  have hcl := c.cells I.ok
  have clx : ∀ x d, (clOf scope X.env).lookup x = some d → X.env.cells.lookup x = some d := fun x d e => by
    rcases clGo_look hcl e with q | q
    · cases q
    · exact q
  have cfx : CF (pushCells (s.heap.push { cls := .type "dict", data := .dict #[] }) scope.names) (cellsFrom (s.heap.objs.size + 1) scope.names (clOf scope X.env)) := by
    have q := cf_step scope.names (s.heap.push { cls := .type "dict", data := .dict #[] }) (clOf scope X.env) ⟨fun x d e => ?_, fun x y d e1 e2 => I.ok.inj x y d (clx x d e1) (clx y d e2)⟩
    · rwa [Heap.size_push] at q
    · obtain ⟨v, q⟩ := I.cell x d (clx x d e)
      exact ⟨v, q.keeps fun b o e => Heap.get?_push_of_some _ e⟩
  have cls : ∀ x d, (cellsFrom (s.heap.objs.size + 1) scope.names (clOf scope X.env)).lookup x = some d → X.env.cells.lookup x = some d ∨ s.heap.objs.size + 1 ≤ d := fun x d e => by
    rcases cf_new e with q | q
    · exact .inl (clx x d q)
    · exact .inr q
  have flt : ∀ b ∈ fp, b < s.heap.objs.size := fun b hb => by
    obtain ⟨o, e, _⟩ := T.obj 0 _ st b hb
    exact Heap.lt_size e
  have fcell : ∀ b ∈ fp, ∀ x d, (cellsFrom (s.heap.objs.size + 1) scope.names (clOf scope X.env)).lookup x = some d → d ≠ b := fun b hb x d e => by
    rcases cls x d e with q | q
    · exact (hf b hb).2.2.2.2.1 x d q
    · exact Nat.ne_of_gt (Nat.lt_of_lt_of_le (flt b hb) (Nat.le_of_succ_le q))
  have ffs : ∀ b ∈ fp, b ∉ frs X.stack := fun b hb z => by
    rcases List.mem_cons.mp (I.stkSub b z) with q | q
    · exact (hf b hb).2.1 q
    · exact (hf b hb).2.2.1 q
  have okY : (cpCx X scope (own ++ cap) s.heap.objs.size s H fp).Ok := by
    refine ⟨I.ok.mod, c.kind, I.ok.glob, I.ok.blt, Nat.le_refl _, fun x y d e1 e2 => cfx.inj x y d e1 e2, fun x hx => ?_, fun x d e1 e2 => ?_, fun e => I.ok.hd e, I.ok.frames, .inl rfl, fun b hb => ⟨Nat.ne_of_lt (flt b hb), fcell b hb⟩,
      I.bs, Nat.le_trans I.ok.bsz I.sz, fun b o e hb => ?_, ffs, I.stack, I.stkFree⟩
    · have q : (x, NameKind.cell) ∈ scope.names ∨ (x, NameKind.free) ∈ scope.names := by
        rcases hx with z | z
        · exact relabel_mem z (.inl rfl)
        · exact relabel_mem z (.inr rfl)
      refine cf_has ?_
      rcases q with z | z
      · exact .inl z
      · exact .inr (clGo_has (.inl z))
    · have e1' : scope.names.lookup x = some .cell := eq_of_beq e1
      have q := cf_own (lo := s.heap.objs.size + 1) (Nat.le_refl _) (.inl (mem_of_lookup e1')) e2
      exact Nat.le_of_succ_le q
    · rcases (hf b hb).2.2.2.1 with z | z
      · exact I.ok.noex b o e z
      · exact absurd (Nat.lt_of_lt_of_le (Heap.lt_size e) (Nat.le_trans I.ok.bsz z)) (Nat.lt_irrefl _)
  have IY : Inv (cpCx X scope (own ++ cap) s.heap.objs.size s H fp) [] (capSt n caps σ) H { s with heap := pushCells (s.heap.push { cls := .type "dict", data := .dict #[] }) scope.names } := by
    refine ⟨okY, rfl, I.bare, Un.kept kp, ⟨fun _ => none, (Heap.Ns.new s.heap (.type "dict")).keeps (pushCells_keeps _ _), fun i x v h1 h2 h3 => ?_⟩, fun x d e => cfx.cell x d e, I.hok.fresh (Nat.le_refl _), fun x d e => ?_,
      fun p hp => absurd (show p ∈ ([] : List (Addr × Obj)) from hp) (by simp), I.hok.kept kp, ?_⟩
    · -- a captured name
      have hi : n ≤ i := by
        refine Nat.le_of_not_lt fun z => ?_
        unfold capSt at h2
        rw [List.getElem?_append_left (by rw [List.length_replicate]; exact z), List.getElem?_replicate, if_pos z] at h2
        cases h2
      unfold capSt at h2
      rw [List.getElem?_append_right (by rw [List.length_replicate]; exact hi), List.length_replicate, List.getElem?_map] at h2
      have h1' : (own ++ cap)[i]? = some x := h1
      rw [List.getElem?_append_right (by omega), hn] at h1'
      cases hj : caps[i - n]? with
      | none => rw [hj] at h2; cases h2
      | some j =>
        rw [hj] at h2
        have h2' : (σ[j]?).join = some v := Option.some.inj h2
        have hσ : σ[j]? = some (some v) := by
          cases q : σ[j]? with
          | none => rw [q] at h2'; cases h2'
          | some u => rw [q] at h2'; exact congrArg some h2'
        have hx : X.N[j]? = some x := by
          have q : (caps.map (fun j => X.N[j]?))[i - n]? = (cap.map some)[i - n]? := by rw [hcap]
          rw [List.getElem?_map, List.getElem?_map, hj, h1'] at q
          exact Option.some.inj q
        have hfree : scope.names.lookup x = some .free := eq_of_beq (List.all_eq_true.mp hck x (List.mem_of_getElem? h1'))
        have hkind := c.free (x, .free) (mem_of_lookup hfree) rfl
        obtain ⟨m, hm, hl⟩ := I.loc
        obtain ⟨u, ru, lk⟩ := hl j x v hx hσ (by
          rcases hkind with z | z
          · exact .inr (.inl z)
          · exact .inr (.inr z))
        refine ⟨u, ru, ?_⟩
        rcases lk with ⟨z, _⟩ | ⟨_, d, hd, hcell⟩
        · rcases hkind with q | q
          · rw [q] at z; cases z
          · rw [q] at z; cases z
        · have nocell : (x, NameKind.cell) ∉ scope.names := fun z => by
            have q := look_of_mem c.nd z
            rw [hfree] at q
            cases q
          obtain ⟨d', hd'⟩ := clGo_has (cells := X.env.cells) (names := scope.names) (acc := []) (.inl (mem_of_lookup hfree))
          have e1 : (clOf scope X.env).lookup x = some d' := hd'
          have e2 := clx x d' e1
          rw [hd] at e2
          cases e2
          refine .inr ⟨?_, d, (cf_skip nocell).trans e1, hcell.keeps kp⟩
          exact relabel_free (env := X.env) hfree
    · rcases cls x d e with q | q
      · exact I.freeC x d q
      · exact I.hok.fresh (Nat.le_of_succ_le q)
    · show (capSt n caps σ).length = (own ++ cap).length
      unfold capSt
      have q := congrArg List.length hcap
      rw [List.length_map, List.length_map] at q
      rw [List.length_append, List.length_append, List.length_replicate, List.length_map, q, hn]
  have stat : ∀ {H' : Hp}, (∀ b ∈ fp, H' b = none) → ∀ b ∈ fp, FpOk (cpCx X scope (own ++ cap) s.heap.objs.size s H fp) [] H' b := fun hn b hb =>
    ⟨hn b hb, Nat.ne_of_lt (flt b hb), ffs b hb, .inl hb, fcell b hb, fun p hp => absurd (show p ∈ ([] : List (Addr × Obj)) from hp) (by simp)⟩
  have hch : ∀ b ∈ fp, (b ∈ X.ex ∨ X.s₀.heap.objs.size ≤ b) ∧ b ≠ X.env.locals ∧ (∀ x c, X.env.cells.lookup x = some c → c ≠ b) ∧ ∀ p ∈ X.pn ++ pins, p.1 ≠ b := fun b hb =>
    ⟨(hf b hb).2.2.2.1, (hf b hb).2.1, (hf b hb).2.2.2.2.1, (hf b hb).2.2.2.2.2⟩
  have st' := T.keep 0 _ _ st fun b _ o e => kp b o e
  have loop : codeAny (model X.prog X.w) X.A (.compLoop (.ListComp elt [⟨tg, iter, ifs, 0⟩] scope pos) 0 (.ref it) (.ref D) (cpEnv scope s.heap.objs.size X.env)) (RR (.ref D) s.heap.objs.size)
      { s with heap := pushCells (s.heap.push { cls := .type "dict", data := .dict #[] }) scope.names } := by
    refine compLoop_go (fun k s' => ∃ i H' ys, Inv (cpCx X scope (own ++ cap) s.heap.objs.size s H fp) [] (capSt n caps σ) H' s' ∧ tn i s'.heap ∧ (∀ b ∈ fp, H' b = none) ∧ W i k ys H') ?_ m0
      ⟨0, H, [], IY, st', fun b hb => (hf b hb).1, w0⟩
    rintro k s5 ⟨i, H5, ys, I5, st5, fr5, w5⟩
    rcases turn i k ys H5 w5 with ⟨stop, q⟩ | ⟨go, N, hN, step⟩
    · refine thn (T.done (cpCx X scope (own ++ cap) s.heap.objs.size s H fp) rfl rfl rfl c.calm i [] s5 _ H5 (fun _ _ => False) I5 (stat fr5) st5 stop) fun r s6 ⟨hr, I6⟩ => ?_
      subst hr
      obtain ⟨m, hm, _⟩ := I6.loc
      exact hRR _ m s6 H5 (I.call' (ch := fp) I6.os I6.base I6.hok I6.bare hch) (I.fpOk (Nat.le_refl _) I6.free) hm q
    · refine thn (T.item (cpCx X scope (own ++ cap) s.heap.objs.size s H fp) rfl rfl rfl c.calm i [] s5 _ H5 (fun _ _ => False) I5 (stat fr5) st5 go) fun r s6 ⟨u, hr, h6⟩ => ?_
      subst hr
      refine thn h6 fun _ s7 ⟨x, H7, I7, r7, y7, st7, fr7⟩ => ?_
      have I7' := I7.pinned (stat fr7) (T.obj _ _ st7)
      refine thn (hg _ _ _ _ _ s7 _ H7 x u _ I7' r7 (c.own _ _ _ _ (step x H7 y7))) fun _ s8 ⟨σ8, H8, I8, q8, hd8, hl8⟩ => ?_
      have back : ∀ {H' : Hp} {s' : Shared}, Inv (cpCx X scope (own ++ cap) s.heap.objs.size s H fp) ([] ++ pinsAt fp s7.heap) σ8 H' s' →
          Inv (cpCx X scope (own ++ cap) s.heap.objs.size s H fp) [] (capSt n caps σ) H' s' ∧ tn (i + 1) s'.heap ∧ ∀ b ∈ fp, H' b = none := fun {H' s'} J' => by
        refine ⟨J'.unpinned.weak hl8.symm fun j v e => ?_, T.keep _ _ _ st7 fun b hb o e => (J'.pin (b, o) (List.mem_append_right _ (List.mem_append_right _ (mem_pinsAt hb e)))).1, fun b hb => ?_⟩
        · have hj : n ≤ j := by
            refine Nat.le_of_not_lt fun z => ?_
            unfold capSt at e
            rw [List.getElem?_append_left (by rw [List.length_replicate]; exact z), List.getElem?_replicate, if_pos z] at e
            cases e
          have q : (σ8.drop n)[j - n]? = ((capSt n caps σ).drop n)[j - n]? := by rw [hd8]
          rw [List.getElem?_drop, List.getElem?_drop, show n + (j - n) = j by omega] at q
          rw [q]
          exact e
        · obtain ⟨o, e, d⟩ := T.obj _ _ st7 b hb
          exact (J'.pin (b, o) (List.mem_append_right _ (List.mem_append_right _ (mem_pinsAt hb e)))).2.1
      refine thn (ht _ _ _ _ _ s8 σ8 H8 _ I8 q8) fun ok s9 ⟨H9, I9, q9⟩ => ?_
      cases ok with
      | false =>
        rw [if_neg Bool.false_ne_true] at q9 ⊢
        obtain ⟨m', hm, w'⟩ := hN _ _ q9
        obtain ⟨b1, b2, b3⟩ := back I9
        exact ⟨m', hm, i + 1, H9, ys, b1, b2, b3, w'⟩
      | true =>
        rw [if_pos rfl] at q9 ⊢
        refine thn (he _ _ _ _ _ s9 σ8 H9 _ I9 q9) fun y s10 ⟨yv, H10, I10, r10, hD10, hlen, q10⟩ => ?_
        obtain ⟨m', hm, w'⟩ := hN _ _ q10
        refine thn (mt_append _ s10 σ8 H10 (.ref D) [yv] (.ref D) [y] (fun _ H' => H' = upd H10 D (.lst (ys ++ [yv]))) I10 rfl (.cons r10 .nil) ⟨D, ys, yv, rfl, rfl, hD10, hlen, rfl⟩) fun _ s11 ⟨_, H11, I11, _, e11⟩ => ?_
        subst e11
        obtain ⟨b1, b2, b3⟩ := back I11
        exact ⟨m', hm, i + 1, _, ys ++ [yv], b1, b2, b3, w'⟩
  exact codeAny_compStart_list loop (T.self X.A 0 _ _ _ st' loop)
/-- all of it, up to what is done with the list -/
theorem comp_core (c : CompOk X elt tg iter ifs scope n caps wi g tc te) {pins : List (Addr × Obj)} {s : Shared} {σ : St} {H : Hp} {Q : VK} {RR : Value → Addr → Result → Shared → Prop} (I : Inv X pins σ H s) (h : tComp n caps wi g tc te σ H Q)
    (hRR : ∀ D C m s' H', Inv X pins σ H' s' → FpOk X pins H' C → s'.heap.Ns C m → Q (.ref D) H' → RR (.ref D) C (.ok .next) s') :
    wpAny (model X.prog X.w) X.A (eval iter X.env) (fun x s₁ => wpAny (model X.prog X.w) X.A (pyIter x) (fun it s₂ => wpAny (model X.prog X.w) X.A (newList []) (fun acc s₃ =>
      wpAny (model X.prog X.w) X.A (newFunctionEnv scope X.env.globals (clOf scope X.env) [] X.env.qual none .none (some X.env)) (fun cenv s₄ =>
        codeAny (model X.prog X.w) X.A (.compStart (.ListComp elt [⟨tg, iter, ifs, 0⟩] scope pos) 0 it acc { cenv with scope := relabel scope X.env }) (RR acc cenv.locals) s₄) X.xe s₃) X.xe s₂) X.xe s₁) X.xe s := by
  refine thn (c.it pins s σ H _ I h) fun xv s1 h1 => thn h1 fun itv s2 h2 => ?_
  obtain ⟨it, fp, tn, J, H2, e, I2, T, st2, f2, hw⟩ := h2
  subst e
  have hD : H2 s2.heap.objs.size = none := I2.hok.fresh (Nat.le_refl _)
  obtain ⟨W, ⟨m0, w0⟩, turn⟩ := hw _ hD
  refine wpAny_newObj_type ?_
  have I3 : Inv X pins σ (upd H2 s2.heap.objs.size (.lst [])) { s2 with heap := s2.heap.push { cls := .type "list", data := .seq ([] : List Value).toArray } } := I2.lnew (t' := s2.toks) .nil (Nat.zero_le _)
  refine comp_env c I3 T (T.keep 0 _ _ st2 fun b _ o e => Heap.get?_push_of_some _ e) (fun b hb => ?_) w0 turn fun C m s' H' => hRR _ C m s' H'
  obtain ⟨f0, f1, f3⟩ := f2 b hb
  obtain ⟨o, e, _⟩ := T.obj 0 _ st2 b hb
  exact ⟨by rw [upd_ne (Nat.ne_of_lt (Heap.lt_size e))]; exact f0, f1, f3⟩
theorem Inv.sameBut {pins : List (Addr × Obj)} {σ : St} {H : Hp} {s : Shared} {C : Addr} {h' : Heap} (I : Inv X pins σ H s) (f : FpOk X pins H C) (sb : Heap.SameBut C s.heap h') : Inv X pins σ H { s with heap := h' } :=
  I.turned (t' := s.toks) (fun b o hb e => (sb.2 b hb).trans e) f.1 f.2.1 f.2.2.2.1 f.2.2.2.2.1 f.2.2.2.2.2
theorem pe_comp (c : CompOk X elt tg iter ifs scope n caps wi g tc te) (hs : ∀ x, foldedSetIterable iter X.env x = pure x := by intro _; rfl) : PE X (.ListComp elt [⟨tg, iter, ifs, 0⟩] scope pos) (tComp n caps wi g tc te) := by
  intro pins s σ H Q I h
  rw [eval_ListComp]
  refine wpAny_comprehension_free (use := none) rfl hs (c.clos I.ok) c.kind c.names (comp_core c I h fun D C m s' H' I' f hm q => ?_)
  exact ⟨m, hm, fun h' sb => ⟨.ref D, H', I'.sameBut f sb, rfl, q⟩⟩
/-- name = [..], a local name of the def -/
theorem ps_setComp {i : Nat} {y : Str} {py spos : Pos} (hN : X.N.Nodup) (hi : X.N[i]? = some y) (hy : X.env.scope.names.lookup y = some .local) (c : CompOk X elt tg iter ifs scope n caps wi g tc te)
    (hsw : swapsWith (.ListComp elt [⟨tg, iter, ifs, 0⟩] scope pos) (some (.Name y py)) spos.line X.env = pure true := by rfl) (hs : ∀ x, foldedSetIterable iter X.env x = pure x := by intro _; rfl) :
    PS X (.Assign [.Name y py] (.ListComp elt [⟨tg, iter, ifs, 0⟩] scope pos) spos) (tAsg (tComp n caps wi g tc te) (gName i)) := by
  intro pins s σ H D I h
  rw [exec_Assign_Name_used _ _ _ _ hsw]
  refine wpAny_bind (wpAny_standAt (wpAny_bind ?_))
  show wpAny _ X.A (do let _ ← comprehension (.ListComp elt [⟨tg, iter, ifs, 0⟩] scope pos) scope X.env _ (newList []) false (eval iter X.env) (some (assign (.Name y py) X.env))) _ _ s
  refine wpAny_bind (wpAny_mono (wpAny_comprehension_free (use := some (assign (.Name y py) X.env)) (Q := fun _ s' => SP X pins D .next s') rfl hs (c.clos I.ok) c.kind c.names
    (comp_core c I h fun A C m s' H' I' f hm q => ?_)) (fun _ s' hq => wpAny_pure (wpAny_pure hq)) fun _ _ e => e)
  show wpAny _ X.A (assign (.Name y py) X.env (.ref A)) _ _ _
  refine wpAny_assign_Name (store_ok2 I' hN hi (.inl hy) (v := .ref A) rfl (fun s2 I2 hb => ?_) (.inr hy))
  obtain ⟨a, sb, ha⟩ := hb
  have hCa : C ≠ a := by
    rcases ha with z | z
    · rw [z]; exact f.2.1
    · exact (f.2.2.2.2.1 y a z).symm
  exact ⟨m, hm.sameBut sb hCa, fun h' sb' => ⟨_, H', I2.sameBut f sb', q⟩⟩
end

/-! ### the forms one uses -/
/-- over a known number of turns -/
theorem comp_by {J : It} {D : Addr} {H1 : Hp} {R : Hp → Prop} {g : TG} {tc : TT} {te : TE} {cs : St} (N : Nat) (Pv : Nat → List V → Hp → Prop) (h0 : Pv 0 [] (upd H1 D (.lst [])))
    (hs : ∀ i ys H, i < N → Pv i ys H → J.go i H ∧ ∀ x H', J.yld i H x H' → g x cs H' fun σ2 H2 => tc σ2 H2 fun b H3 => if b = true then te σ2 H3 fun y H4 => H4 D = some (.lst ys) ∧ ys.length < sizeLine ∧ Pv (i + 1) (ys ++ [y]) (upd H4 D (.lst (ys ++ [y]))) else Pv (i + 1) ys H3)
    (hd : ∀ ys H, Pv N ys H → J.stop N H ∧ R H) :
    ∃ W : Nat → Nat → List V → Hp → Prop, (∃ m, W 0 m [] (upd H1 D (.lst []))) ∧ ∀ i m ys H, W i m ys H →
      (J.stop i H ∧ R H) ∨ (J.go i H ∧ ∃ N : List V → Hp → Prop, (∀ ys' H', N ys' H' → ∃ m', m' < m ∧ W (i + 1) m' ys' H') ∧ ∀ x H', J.yld i H x H' →
        g x cs H' fun σ2 H2 => tc σ2 H2 fun b H3 => if b = true then te σ2 H3 fun y H4 => H4 D = some (.lst ys) ∧ ys.length < sizeLine ∧ N (ys ++ [y]) (upd H4 D (.lst (ys ++ [y]))) else N ys H3) := by
  refine ⟨fun i m ys H => m = N - i ∧ i ≤ N ∧ Pv i ys H, ⟨N, by simp, Nat.zero_le _, h0⟩, ?_⟩
  rintro i m ys H ⟨rfl, hi, p⟩
  by_cases hlt : i < N
  · obtain ⟨go, step⟩ := hs i ys H hlt p
    exact .inr ⟨go, fun ys' H' => Pv (i + 1) ys' H', fun ys' H' p' => ⟨N - (i + 1), by omega, rfl, hlt, p'⟩, step⟩
  · have e : i = N := by omega
    subst e
    exact .inl (hd ys H p)
end L2

set_option Elab.async false
set_option linter.all false
set_option maxRecDepth 100000
set_option maxHeartbeats 4000000
/-! Own rules over the hand layer, part 2: enumerate, == of data, insert, index, sorted, list(range(..)), isinstance. -/
namespace L2
open PySem PySem.Spec PyProof.Rows

section
variable {X : Cx} {pins : List (Addr × Obj)} {σ : St} {H : Hp} {s : Shared} {h' : Heap}
/-- some untracked records of ours have turned, and a new object was laid and is tracked -/
theorem Inv.turnLaid {t' : Nat} {ch : List Addr} {a : Addr} {o : HO} (I : Inv X pins σ H s) (k : ∀ b q, b ∉ ch → s.heap.get? b = some q → h'.get? b = some q) (hf : ∀ b ∈ ch, FpOk X pins H b) (hp : s.heap.objs.size ≤ a)
    (new : ObjOk X.prog X.w (upd H a o) h' a o) : Inv X pins σ (upd H a o) { s with heap := h', toks := t' } := by
  have hn : H a = none := I.hok.fresh hp
  have nch : ∀ b u, H b = some u → b ∉ ch := fun b u e z => by rw [(hf b z).1] at e; cases e
  refine I.step (g' := s.gens) (d' := s.drawn) (ch := ch) (fun b hb => ⟨(hf b hb).2.2.2.1, (hf b hb).2.1, (hf b hb).2.2.2.2.1, (hf b hb).2.2.2.2.2⟩) (fun b q _ _ hc e _ => k b q hc e) (fun b q _ _ hc e _ => ⟨q.slots, k b q hc e⟩)
    (fun b q _ e n => by rw [upd_ne (Nat.ne_of_lt (Nat.lt_of_lt_of_le (Heap.lt_size e) hp))]; exact n) (fun b q hc e => ⟨q, k b q hc e⟩) (fun b xs e => by rw [upd_ne (ne_of_none e hn)]; exact e) (fun b q u e => by rw [upd_ne (ne_of_none e hn)]; exact e)
    (fun b ps e => ⟨#[], by rw [upd_ne (ne_of_none e hn), e]; simp⟩) (fun m hm => ?_) (fun b u e => ?_) I.bare
  · obtain ⟨q, es, ep, ho, r⟩ := hm
    exact ⟨q, es, ep, k _ q (fun z => (hf _ z).2.1 rfl) ho, r⟩
  · by_cases hb : b = a
    · subst hb
      rw [upd_same] at e
      cases e
      exact new
    · rw [upd_ne hb] at e
      refine (I.hok b u e).stay (fun c v hc q => k c v ?_ q) (fun c q => by rw [upd_ne (ne_of_none q hn)]; exact q) fun c xs q => by rw [upd_ne (ne_of_none q hn)]; exact q
      rcases hc with z | z
      · rw [z]; exact nch b u e
      · exact nch c _ z
theorem Inv.turnedL {t' : Nat} {ch : List Addr} (I : Inv X pins σ H s) (k : ∀ b q, b ∉ ch → s.heap.get? b = some q → h'.get? b = some q) (hf : ∀ b ∈ ch, FpOk X pins H b) : Inv X pins σ H { s with heap := h', toks := t' } := by
  have nch : ∀ b u, H b = some u → b ∉ ch := fun b u e z => by rw [(hf b z).1] at e; cases e
  refine I.step (g' := s.gens) (d' := s.drawn) (ch := ch) (fun b hb => ⟨(hf b hb).2.2.2.1, (hf b hb).2.1, (hf b hb).2.2.2.2.1, (hf b hb).2.2.2.2.2⟩) (fun b q _ _ hc e _ => k b q hc e) (fun b q _ _ hc e _ => ⟨q.slots, k b q hc e⟩)
    (fun b q _ e n => n) (fun b q hc e => ⟨q, k b q hc e⟩) (fun b xs e => e) (fun b q u e => e) (fun b ps e => ⟨#[], by rw [e]; simp⟩) (fun m hm => ?_) (fun b u e => ?_) I.bare
  · obtain ⟨q, es, ep, ho, r⟩ := hm
    exact ⟨q, es, ep, k _ q (fun z => (hf _ z).2.1 rfl) ho, r⟩
  · refine (I.hok b u e).stay (fun c v hc q => k c v ?_ q) (fun c q => q) fun c xs q => q
    rcases hc with z | z
    · rw [z]; exact nch b u e
    · exact nch c _ z
end

/-! ### enumerate -/
/-- (0, x), (1, y), .. of the list at a; each pair a new tuple -/
def Ite (K : PySem.W.Frag) (a : Addr) : It :=
  ⟨fun i H => ∃ xs x, SqL K H a xs ∧ xs[i]? = some x, fun i H v H' => ∃ p x, (∀ xs, SqL K H a xs → xs[i]? = some x) ∧ H p = none ∧ v = .ref p ∧ H' = upd H p (.tup [.int (i : Nat), x]), fun i H => ∃ xs, SqL K H a xs ∧ xs.length ≤ i⟩
theorem turn_enum {P : Program} {w : World} {K : PySem.W.Frag} {es : List Expr} {x1} {ps : Pos} (a e it : Addr) (hne : e ≠ it) :
    Turn P w K (.Tuple es x1 ps) (Ite K a) [e, it] e (fun i h => (∃ old, IsEnum h e it (i : Nat) old) ∧ h.IsListIter it a i) where
  mem := by simp
  obj := fun i h st b hb => by
    obtain ⟨⟨old, he⟩, hl⟩ := st
    rcases List.mem_cons.mp hb with z | hb
    · subst z
      exact ⟨_, he, fun v z => by
        have z' : Data.fields _ = Data.cell v := z
        cases z'⟩
    · have z : b = it := by simpa using hb
      subst z
      obtain ⟨o, e, c, d⟩ := hl
      exact ⟨o, e, fun v z => by rw [d] at z; cases z⟩
  keep := fun i h h' st k => by
    obtain ⟨⟨old, he⟩, hl⟩ := st
    exact ⟨⟨old, k e (by simp) _ he⟩, hl.at fun o q => k it (by simp) o q⟩
  item := by
    intro X hP hw hK hc i pins s σ H E I hf st hg
    subst hP hw hK
    obtain ⟨xs, x, hq, hx⟩ := hg
    obtain ⟨⟨old, he⟩, hl⟩ := st
    obtain ⟨its, rv, p, hz⟩ := I.list hq
    obtain ⟨u, hu, ru⟩ := rv.get hx
    refine wpAny_pyNext_enum_item he hl p.isList (x := u) (by simpa using hu) hne fun h1 ho hl1 ht hsz kk => ?_
    refine ⟨_, rfl, wpAny_letOwnedTupleGo_enum (s := { s with heap := h1, toks := s.toks + 1 }) ho fun h2 he2 hs2 => ?_⟩
    have hTe : s.heap.objs.size ≠ e := Nat.ne_of_gt (Heap.lt_size he)
    have hsz0 : s.heap.objs.size ≤ s.heap.objs.size := Nat.le_refl _
    have hs2' : Heap.SameBut e h1 h2 := hs2
    have k2 : ∀ b q, b ∉ [e, it] → s.heap.get? b = some q → h2.get? b = some q := fun b q hb z => by
      have h1' : b ≠ e := fun r => hb (by simp [r])
      have h2' : b ≠ it := fun r => hb (by simp [r])
      exact (hs2'.2 b h1').trans (kk b q h1' h2' z)
    have tup : h2.get? s.heap.objs.size = some { cls := .type "tuple", data := .seq #[.int i s.toks, u] } := (hs2'.2 _ hTe).trans ht
    have I2 : Inv X pins σ (upd H s.heap.objs.size (.tup [.int (i : Nat), x])) { s with heap := h2, toks := s.toks + 1 } :=
      I.turnLaid k2 hf hsz0 ⟨by show 2 ≤ sizeLine; decide, [.int i s.toks, u], .cons ⟨_, rfl⟩ (.cons ru .nil), ⟨_, tup, rfl, _, rfl⟩⟩
    have hn : H s.heap.objs.size = none := I.hok.fresh (Nat.le_refl _)
    refine ⟨.ref s.heap.objs.size, _, I2, rfl, ⟨_, x, fun ys hy => by rw [I.list_inj hy hq]; exact hx, hn, rfl, rfl⟩, ⟨⟨u, ?_⟩, ?_⟩, fun b hb => ?_⟩
    · have e1 : ((i + 1 : Nat) : Int) = (i : Int) + 1 := by omega
      rw [e1]
      exact he2
    · obtain ⟨o, z, r⟩ := hl1
      exact ⟨o, (hs2'.2 it (Ne.symm hne)).trans z, r⟩
    · obtain ⟨f0, _⟩ := hf b hb
      have hlt : b < s.heap.objs.size := by
        rcases List.mem_cons.mp hb with z | hb
        · rw [z]; exact Heap.lt_size he
        · have z : b = it := by simpa using hb
          rw [z]
          obtain ⟨o, q, _⟩ := hl
          exact Heap.lt_size q
      rw [upd_ne (Nat.ne_of_lt hlt)]
      exact f0
  done := by
    intro X hP hw hK hc i pins s σ H E I hf st hg
    subst hP hw hK
    obtain ⟨xs, hq, hx⟩ := hg
    obtain ⟨⟨old, he⟩, hl⟩ := st
    obtain ⟨its, rv, p, hz⟩ := I.list hq
    have hlen := rv.length
    exact wpAny_pyNext_enum_end (I.ok.hd hc) he hl p.isList (by simp; omega) fun h1 eb => ⟨rfl, I.turnedL (t' := s.toks) (ch := [e, it]) (fun b q hb z => eb b q (fun r => hb (by simp [r])) z) hf⟩
  self := fun _ _ _ _ _ st h => by
    obtain ⟨⟨old, he⟩, _⟩ := st
    exact wpAny_pyIter_enum he h
section
variable {X : Cx}
def iEnum (K : PySem.W.Frag) (ta : TA) : TI := fun σ H R => ta σ H fun vs H1 => ∃ a xs, vs = [.ref a] ∧ SqL K H1 a xs ∧ R (Ite K a) H1
theorem pi_enum {es : List Expr} {x1} {ps p pos : Pos} {a : Expr} {ta : TA} (hg : Gl X "enumerate") (hm : X.mg "enumerate" = none) (ha : PA X [a] ta) (hs : starEach [a] X.env = [(false, eval a X.env)] := by rfl) :
    PI X (.Tuple es x1 ps) (.Call (.Name "enumerate" p) [a] [] pos) (iEnum X.K ta) := by
  intro pins s σ H R I h
  refine Call_ (ld_blt I hg hm boot_enumerate (PyProof.Rows.callWith_type1 (thn (ha pos pins s σ H _ I h) fun us s1 ⟨vs, H1, I1, r1, q1⟩ => ?_) hs rfl))
  obtain ⟨l, xs, e, hq, q⟩ := q1
  subst e
  obtain ⟨u, rfl, ru⟩ := vals1 r1
  cases ru
  obtain ⟨its, rv, pl, hz⟩ := I1.list hq
  refine call_enumerate_list pl.isList fun h1 he hl hsz kp => ?_
  have I2 : Inv X pins σ H1 { s1 with heap := h1 } := I1.kept (t' := s1.toks) kp
  refine wpAny_pyIter_enum (s := { s1 with heap := h1 }) he ?_
  refine ⟨s1.heap.objs.size + 1, [s1.heap.objs.size + 1, s1.heap.objs.size], _, Ite X.K l, H1, rfl, I2, turn_enum l _ _ (Nat.succ_ne_self _), ⟨⟨_, he⟩, hl⟩, fun b hb => ?_, q⟩
  have hb' : s1.heap.objs.size ≤ b := by
    rcases List.mem_cons.mp hb with z | z
    · rw [z]; exact Nat.le_succ _
    · have : b = s1.heap.objs.size := by simpa using z
      rw [this]; exact Nat.le_refl _
  exact I1.fpOk hb' (I1.hok.fresh hb')
end

/-! ### == of data -/
mutual
/-- what a value is as data, by the abstract heap -/
inductive Den (K : PySem.W.Frag) (H : Hp) : V → PyData → Prop
  | non : Den K H .non .none
  | bl (b : Bool) : Den K H (.bl b) (.bool b)
  | int (i : Int) : Den K H (.int i) (.int i)
  | str (x : Str) : Den K H (.str x) (.str x)
  | lst {a : Addr} {xs : List V} {ds : List PyData} : SqL K H a xs → Dens K H xs ds → Den K H (.ref a) (.list ds)
  | tup {a : Addr} {xs : List V} {ds : List PyData} : SqT K H a xs → Dens K H xs ds → Den K H (.ref a) (.tuple ds)
inductive Dens (K : PySem.W.Frag) (H : Hp) : List V → List PyData → Prop
  | nil : Dens K H [] []
  | cons {x : V} {d : PyData} {xs : List V} {ds : List PyData} : Den K H x d → Dens K H xs ds → Dens K H (x :: xs) (d :: ds)
end
section
variable {X : Cx} {pins : List (Addr × Obj)} {σ : St} {H : Hp} {s : Shared}
mutual
theorem Inv.den (I : Inv X pins σ H s) : ∀ {x : V} {d : PyData} {v : Value}, Den X.K H x d → RelV x v → ∃ as, Reads s.heap v d as
  | _, _, _, .non, r => by cases r; exact ⟨_, .none⟩
  | _, _, _, .bl b, r => by cases r; exact ⟨_, .bool b⟩
  | _, _, _, .int i, r => by obtain ⟨t, rfl⟩ := r; exact ⟨_, .int i t⟩
  | _, _, _, .str x, r => by obtain ⟨t, rfl⟩ := r; exact ⟨_, .str x t⟩
  | _, _, _, .lst (xs := xs) (ds := ds) q hd, r => by
    cases r
    obtain ⟨its, rv, ⟨o, n, e, hc, _, hs⟩, _⟩ := I.list q
    obtain ⟨as, ra⟩ := Inv.dens I hd rv
    exact ⟨_, .list e hc hs (by simpa using ra)⟩
  | _, _, _, .tup (xs := xs) (ds := ds) q hd, r => by
    cases r
    obtain ⟨its, rv, ⟨o, e, hc, n, hs⟩, _⟩ := I.tuple q
    obtain ⟨as, ra⟩ := Inv.dens I hd rv
    exact ⟨_, .tuple e hc hs (by simpa using ra)⟩
theorem Inv.dens (I : Inv X pins σ H s) : ∀ {xs : List V} {ds : List PyData} {vs : List Value}, Dens X.K H xs ds → Vals xs vs → ∃ as, ReadsAll s.heap vs ds as
  | _, _, _, .nil, r => by cases r; exact ⟨_, .nil⟩
  | _, _, _, .cons hd ht, r => by
    cases r with
    | cons r1 r2 =>
      obtain ⟨as, h1⟩ := Inv.den I hd r1
      obtain ⟨bs, h2⟩ := Inv.dens I ht r2
      exact ⟨_, .cons h1 h2⟩
end
end
section
variable {X : Cx}
def rEqD (K : PySem.W.Frag) : R2 := fun x y H Q => ∃ d e, Den K H x d ∧ Den K H y e ∧ PySem.SeqAt.shaped d = true ∧ PySem.SeqAt.shaped e = true ∧ Q (.bl (PyData.eqv d e)) H
theorem op_eqD (hu : X.A.units + 64 < cLine) : OpR X (compareOp .Eq) (rEqD X.K) := by
  intro pins s σ H x y v u Q I rx ry h
  obtain ⟨d, e, hd, he, sd, se, q⟩ := h
  obtain ⟨as, ra⟩ := I.den hd rx
  obtain ⟨bs, rb⟩ := I.den he ry
  exact eq_dataH ra rb sd se hu ⟨.bl _, H, I, rfl, q⟩
/-! ### insert, index, count -/
theorem ins_eq (its : List Value) (u : Value) (x : Int) (h0 : 0 ≤ x) (h : x ≤ its.length) :
    (fun xs : Array Value => have k := if x < 0 then (x + (xs.size : Int)).toNat else min x.toNat xs.size; (xs.extract 0 k).push u ++ xs.extract k) its.toArray = (its.take x.toNat ++ u :: its.drop x.toNat).toArray := by
  have e : (if x < 0 then (x + (its.toArray.size : Int)).toNat else min x.toNat its.toArray.size) = x.toNat := by
    rw [if_neg (by omega), List.size_toArray]; omega
  dsimp only
  rw [e]
  apply Array.toList_inj.mp
  simp
  exact List.take_of_length_le (by simp)
theorem Vals.insert {x : V} {u : Value} (r : RelV x u) {xs : List V} {us : List Value} (h : Vals xs us) (i : Nat) : Vals (xs.take i ++ x :: xs.drop i) (us.take i ++ u :: us.drop i) := Vals.append (h.take i) (.cons r (h.drop i))
/-- xs.insert(i, y), 0 ≤ i ≤ len -/
def rInsert : V → List V → Hp → VK → Prop := fun x vs H Q => ∃ (l : Addr) (xs : List V) (i : Int) (y : V), x = .ref l ∧ vs = [.int i, y] ∧ H l = some (.lst xs) ∧ 0 ≤ i ∧ i ≤ xs.length ∧ xs.length < sizeLine ∧ Q .non (upd H l (.lst (xs.take i.toNat ++ y :: xs.drop i.toNat)))
theorem mt_insert : MtM X "list.insert" rInsert := by
  intro pins s σ H x vs v us Q I rx rv h
  obtain ⟨l, xs, i, y, rfl, rfl, hH, h0, hi, hz, q⟩ := h
  cases rx
  obtain ⟨u1, u2, rfl, r1, r2⟩ := rv.two
  obtain ⟨t, rfl⟩ := r1
  obtain ⟨z, its, n, r, hl, e⟩ := I.lstM hH
  have hb : i < 2 ^ 63 := by have := line63; omega
  have hfit : ¬ (!Builtin.List.listFitsIndex i) = true := by
    rw [fitsIndex_both (by omega) hb]
    exact Bool.false_ne_true
  have hs1 : its.toArray.size ≤ sizeLine := by rw [List.size_toArray]; omega
  refine call_meets F.slot_list_insert ⟨_, e, rfl⟩ F.entry_list_insert (F.args_list_insert_3 _ _ _) (AutoSeq1.list_insert_list_int_val_1 l its.toArray n i t u2 hfit hs1) ⟨e, ?_⟩
  refine ⟨.non, _, I.lset (its' := its.take i.toNat ++ u2 :: its.drop i.toNat) hH e ?_ (r.insert r2 i.toNat) ?_, rfl, q⟩
  · exact ins_eq its u2 i h0 (by omega)
  · rw [List.length_append, List.length_cons, List.length_take, List.length_drop]
    omega
/-- xs.index(n) of a list of ints that has it: the first place -/
def rIndexI (K : PySem.W.Frag) : V → List V → Hp → VK → Prop := fun x vs H Q => ∃ (l : Addr) (ns : List Int) (n : Int), x = .ref l ∧ vs = [.int n] ∧ SqL K H l (ns.map V.int) ∧ n ∈ ns ∧ Q (.int (ns.idxOf n : Nat)) H
theorem ints_get {us : List Value} {ns : List Int} (h : IntsAre us ns) : ∀ {j : Nat} {v : Value}, us[j]? = some v → ∃ n t, ns[j]? = some n ∧ v = .int n t := by
  induction h with
  | nil => intro j v e; simp at e
  | cons n t h ih =>
    intro j v e
    cases j with
    | zero => simp at e; exact ⟨n, t, by simp, e.symm⟩
    | succ j => simpa using ih (j := j) (v := v) (by simpa using e)
def eqI (n : Int) : Value → Bool
  | .int m _ => m == n
  | _ => false
theorem mt_indexI : MtR X "list.index" (rIndexI X.K) := by
  intro pins s σ H x vs v us Q I rx rv h
  obtain ⟨l, ns, n, rfl, rfl, hH, hn, q⟩ := h
  cases rx
  obtain ⟨u, rfl, t, rfl⟩ := vals1 rv
  obtain ⟨its, r, ⟨o, k, e, hc, hdct, hd⟩, hz⟩ := I.list hH
  have hi := intsAre_of r
  have hlen : ns.length = its.length := by have := r.length; rwa [List.length_map] at this
  have hj : ns.idxOf n < ns.length := List.idxOf_lt_length_of_mem hn
  have hj' : ns.idxOf n < its.toArray.size := by rw [List.size_toArray]; omega
  rw [List.length_map] at hz
  obtain ⟨cl, dd, dat, sl⟩ := o
  have hc' : cl = .type "list" := hc
  have hd' : dat = .seq its.toArray k := hd
  subst hc' hd'
  have hl63 := line63
  have get : ∀ (m : Nat) (hm : m < its.toArray.size), ∃ z t', ns[m]? = some z ∧ its.toArray[m] = .int z t' := fun m hm => by
    have e1 : its[m]? = some (its.toArray[m]) := by
      have : m < its.length := by simpa using hm
      simp [this]
    exact ints_get hi e1
  refine call_meets F.slot_list_index ⟨_, e, rfl⟩ F.entry_list_index (F.args_list_index_2 _ _)
    (PySem.SeqAt.list_indexAt l its.toArray k dd sl (.int n t) (eqI n) (ns.idxOf n) hj' (by omega) ?_ (fun m hm hlt => ?_)) ⟨e, fun y hy => ?_, ?_⟩
  · obtain ⟨z, t', h1, h2⟩ := get _ hj'
    rw [h2]
    have : z = n := by
      have h3 := List.getElem_idxOf hj
      rw [List.getElem?_eq_getElem hj] at h1
      exact (Option.some.inj h1).symm.trans h3
    simp [eqI, this]
  · obtain ⟨z, t', h1, h2⟩ := get m hm
    rw [h2]
    have hne : z ≠ n := fun ez => by
      subst ez
      have hm' : m < ns.length := by rw [hlen]; simpa using hm
      have h4 : ns[m] = z := by rw [List.getElem?_eq_getElem hm'] at h1; exact Option.some.inj h1
      have h5 := List.not_of_lt_findIdx (show m < ns.findIdx (· == z) from hlt)
      rw [h4] at h5
      simp at h5
    simp [eqI, hne]
  · obtain ⟨j, hj2, e2⟩ := Array.mem_iff_getElem.mp hy
    obtain ⟨z, t', _, h2⟩ := get j hj2
    rw [← e2, h2]
    exact PySem.SeqAt.EqAt.int_int z t' n t
  · exact ⟨.int _, H, I.tok _, ⟨_, rfl⟩, q⟩

/-! ### sorted of a list of ints, shorter than 64 -/
/-! ### range(n) as a value, list(range(n)) -/
theorem call_rangeV : CallR X (.type "range") (fun xs H Q => ∃ j, xs = [.int j] ∧ ∀ p, H p = none → Q (.ref p) (upd H p (.rng 0 j))) := by
  intro pins s σ H xs us Q I r h
  obtain ⟨j, rfl, q⟩ := h
  obtain ⟨u, rfl, t, rfl⟩ := vals1 r
  refine call_range_1 ?_
  exact ⟨.ref s.heap.objs.size, _, I.laid (o := .rng 0 j) (fun b o e => Heap.get?_push_of_some _ e) (Nat.le_refl _) ⟨_, _, _, Heap.get?_push_size _ rfl⟩, rfl, q _ (I.hok.fresh (Nat.le_refl _))⟩
/-- 0, 1, .. n - 1 -/
def upToV (n : Nat) : List V := (List.range n).map fun (i : Nat) => V.int (i : Int)
theorem call_listRange (hc : X.calm = true) : CallR X (.type "list") (fun xs H Q => ∃ (p : Addr) (j : Int), xs = [.ref p] ∧ H p = some (.rng 0 j) ∧ 0 ≤ j ∧ j ≤ 100000 ∧ ∀ l, H l = none → Q (.ref l) (upd H l (.lst (upToV j.toNat)))) := by
  intro pins s σ H xs us Q I r h
  obtain ⟨p, j, rfl, hp, h0, h1, q⟩ := h
  obtain ⟨u, rfl, ru⟩ := vals1 r
  cases ru
  obtain ⟨t, u', v, e⟩ := (show ∃ t u v, s.heap.get? p = some { cls := .type "range", data := .fields #[.int 0 t, .int j u, .int 1 v] } from I.hok p _ hp)
  refine call_list_range (n := j.toNat) (I.ok.hd hc) (show IsRange s.heap p 0 j 1 t u' v from e) (small_one (by decide) (by decide) (by omega) (by omega)) (by rw [rangeSize_one]; split <;> omega) (by omega) fun h' tk acc c' kp ha hi => ?_
  obtain ⟨hsz, hit⟩ := hi
  have hl : (upToV j.toNat).length = j.toNat := by unfold upToV; rw [List.length_map, List.length_range]
  have hv : Vals (upToV j.toNat) acc.toList := by
    have gen : ∀ (xs : List V) (us : List Value), xs.length = us.length → (∀ (i : Nat) (v : Value), us[i]? = some v → ∃ x, xs[i]? = some x ∧ RelV x v) → Vals xs us := by
      intro xs
      induction xs with
      | nil =>
        intro us hl _
        cases us with
        | nil => exact .nil
        | cons _ _ => simp at hl
      | cons x xs ih =>
        intro us hl hr
        cases us with
        | nil => simp at hl
        | cons u us =>
          obtain ⟨x', e1, r1⟩ := hr 0 u (by simp)
          have : x = x' := by simpa using e1
          subst this
          exact .cons r1 (ih us (by simpa using hl) fun i v e => by simpa using hr (i + 1) v (by simpa using e))
    refine gen _ _ (by rw [hl, Array.length_toList, hsz]) fun i v e => ?_
    have e' : acc[i]? = some v := by simpa using e
    obtain ⟨t2, rfl⟩ := hit i v e'
    have hlt : i < j.toNat := by
      have : i < acc.size := (Array.getElem?_eq_some_iff.mp e').1
      omega
    refine ⟨.int (i : Int), ?_, t2, by rw [Int.mul_one, Int.zero_add]⟩
    unfold upToV
    rw [List.getElem?_map, List.getElem?_range hlt]
    rfl
  have I1 : Inv X pins σ (upd H s.heap.objs.size (.lst (upToV j.toNat))) { s with heap := h', toks := tk } :=
    I.laid kp (Nat.le_refl _) ⟨by rw [hl, sizeLine_eq]; omega, acc.toList, c', hv, by simpa using ha⟩
  exact ⟨.ref _, _, I1, rfl, q _ (I.hok.fresh (Nat.le_refl _))⟩

/-! ### isinstance -/
/-- a class as a value: a built-in's name or an own class's address -/
def clsV : V → Value
  | .ty n => .type n
  | .ref a => .ref a
  | _ => .none
theorem call_isinst : CallR X (.builtin "isinstance") (fun xs H Q => ∃ x c t b, xs = [x, c] ∧ TyOf X.K H x t ∧ (∃ n, c = .ty n ∨ ∃ a, c = .ref a) ∧ PySem.W.kitOne X.K t (clsV c) = some b ∧ Q (.bl b) H) := by
  intro pins s σ H xs us Q I r h
  obtain ⟨x, c, t, b, rfl, ty, ⟨n, hc⟩, hk, q⟩ := h
  obtain ⟨u, u2, rfl, ru, ru2⟩ := vals2 r
  have e : u2 = clsV c := by
    rcases hc with rfl | ⟨a, rfl⟩
    · exact ru2
    · exact ru2
  subst e
  exact isinst_ok I ru ty hk fun tk => ⟨.bl b, H, I.tok _, rfl, q⟩
end
theorem kit_int_int (K : PySem.W.Frag) : PySem.W.kitOne K (.type "int") (.type "int") = some true := by unfold PySem.W.kitOne; rfl
theorem kit_int_bool (K : PySem.W.Frag) : PySem.W.kitOne K (.type "int") (.type "bool") = some false := by
  unfold PySem.W.kitOne PySem.W.kitCls PySem.W.subIn
  kernel_rfl
/-! ### rules that name the written part, for a comprehension's block -/
section
variable {X : Cx} {K : PySem.W.Frag}
theorem pe_fldK {e : Expr} {f : Str} {pos : Pos} {ta : TE} (hK : X.K = K) (he : PE X e ta) (hb : attributeBase e f X.env (eval e X.env) = eval e X.env) : PE X (.Attribute e f pos) (tFld K ta f) := by
  subst hK; exact pe_fld he hb
theorem pg_tupK {es : List Expr} {k : Nat} {pos : Pos} {t : TGs} {n : Nat} (hK : X.K = K) (hc : X.calm = true) (h : PGs X es t)
    (hn : (assignEach es X.env).length = n := by rfl) (hst : (assignEach es X.env).findIdx? (·.1) = none := by rfl) : PG X (.Tuple es k pos) (gTup K n t) := by
  subst hK; exact pg_tup hc h hn hst
theorem pt_truthK {a : Expr} {ta : TE} (hK : X.K = K) (ha : PE X a ta) (he : ∀ whole, isTrue a X.env whole = (do let v ← whole; standAt a.pos; holding [v] (truthy v))) :
    PT X a (fun σ H Q => ta σ H fun x H' => ∃ k, TruV K x H' k ∧ Q k H') := by
  subst hK; exact pt_truth ha he
theorem pi_listK {tg l : Expr} {tl : TE} (hK : X.K = K) (hl : PE X l tl) : PI X tg l (iList K tl) := by
  subst hK; exact pi_list hl
theorem pi_enumK {es : List Expr} {x1} {ps p pos : Pos} {a : Expr} {ta : TA} (hK : X.K = K) (hg : Gl X "enumerate") (hm : X.mg "enumerate" = none) (ha : PA X [a] ta) (hs : starEach [a] X.env = [(false, eval a X.env)] := by rfl) :
    PI X (.Tuple es x1 ps) (.Call (.Name "enumerate" p) [a] [] pos) (iEnum K ta) := by
  subst hK; exact pi_enum hg hm ha hs
theorem pe_bmK {o e : Expr} {es : List Expr} {to : TE} {t : TA} {name : Str} {apos cpos : Pos} {T id : String} {r : V → List V → Hp → VK → Prop} (hK : X.K = K) (pa : PlainAttrs T) (slot : Slot T name id) (hty : typeOf (.builtin id) = pure (.type "method_descriptor")) (hm : MtR X id r) (ho : PE X o to) (ha : PA X (e :: es) t)
    (hbase : attributeBase o name X.env (eval o X.env) = eval o X.env := by rfl)
    (hfew : ((backTo cpos (starEach (e :: es) X.env)).all (fun x => !x.1) && (backToKw cpos (keywordEach [] X.env)).all (fun x => x.1.isSome)
      && decide ((e :: es).length + ([] : List Keyword).length + (if ([] : List Keyword).isEmpty then 0 else 1) < 30)) = true := by rfl)
    (hline : (apos.endLine == cpos.line) = true := by rfl) (hs : starEach (e :: es) X.env = (false, eval e X.env) :: starEach es X.env := by rfl) (hplain : (backTo cpos (starEach es X.env)).any (·.1) = false := by rfl) :
    PE X (.Call (.Attribute o name apos) (e :: es) [] cpos) (tBM K T r to t) := by
  subst hK; exact pe_bm pa slot hty hm ho ha hbase hfew hline hs hplain
theorem pe_bm0K {o : Expr} {to : TE} {name : Str} {apos cpos : Pos} {T id : String} {r : V → List V → Hp → VK → Prop} (hK : X.K = K) (pa : PlainAttrs T) (slot : Slot T name id) (hty : typeOf (.builtin id) = pure (.type "method_descriptor")) (hm : MtR X id r) (ho : PE X o to)
    (hbase : attributeBase o name X.env (eval o X.env) = eval o X.env := by rfl) (hline : (apos.endLine == cpos.line) = true := by rfl) : PE X (.Call (.Attribute o name apos) [] [] cpos) (tBM0 K T r to) := by
  subst hK; exact pe_bm0 pa slot hty hm ho hbase hline
theorem mt_indexIK (hK : X.K = K) : MtR X "list.index" (rIndexI K) := by subst hK; exact mt_indexI
theorem ix_listK (hK : X.K = K) : IxR X (rIxL K) := by subst hK; exact ix_list
theorem ix_tupK (hK : X.K = K) : IxR X (rIxT K) := by subst hK; exact ix_tup
theorem sl_listK (hK : X.K = K) : SlR X (rSlL K) := by subst hK; exact sl_list
theorem op_eqDK (hK : X.K = K) (hu : X.A.units + 64 < cLine) : OpR X (compareOp .Eq) (rEqD K) := by subst hK; exact op_eqD hu
theorem op_inK (hK : X.K = K) : OpR X (compareOp .In) (rIn K false) := by subst hK; exact op_in_seq
def rLen (K : PySem.W.Frag) : List V → Hp → VK → Prop := fun xs H Q => ∃ p ys, xs = [.ref p] ∧ (SqL K H p ys ∨ SqT K H p ys) ∧ Q (.int ys.length) H
theorem call_lenK (hK : X.K = K) : CallR X (.builtin "len") (rLen K) := by subst hK; exact call_len_seq
def rListOf (K : PySem.W.Frag) : List V → Hp → VK → Prop := fun xs H Q => ∃ p ys, xs = [.ref p] ∧ (SqL K H p ys ∨ SqT K H p ys) ∧ ∀ l, H l = none → Q (.ref l) (upd H l (.lst ys))
theorem call_listK (hK : X.K = K) : CallR X (.type "list") (rListOf K) := by subst hK; exact call_list_of
def rIsi (K : PySem.W.Frag) : List V → Hp → VK → Prop := fun xs H Q => ∃ x c t b, xs = [x, c] ∧ TyOf K H x t ∧ (∃ n, c = .ty n ∨ ∃ a, c = .ref a) ∧ PySem.W.kitOne K t (clsV c) = some b ∧ Q (.bl b) H
theorem call_isiK (hK : X.K = K) : CallR X (.builtin "isinstance") (rIsi K) := by subst hK; exact call_isinst
end
end L2

set_option Elab.async false
set_option linter.all false
set_option maxRecDepth 100000
set_option maxHeartbeats 4000000
/-! Nets and rounds as data: what of them stands on the heap, and the promises of the defs. -/
namespace L2
open PySem PySem.Spec PyProof.Rows

/-! ### heaps -/
def TupKeep (H H' : Hp) : Prop := ∀ b xs, H b = some (.tup xs) → H' b = some (.tup xs)
theorem Same.tups {H H' : Hp} (s : Same H H') : TupKeep H H' := fun b xs e => s b _ e
theorem Same.new {H : Hp} {a : Addr} {o : HO} (h : H a = none) : Same H (upd H a o) := fun b u e => by rw [upd_ne (ne_of_none e h)]; exact e
theorem Same.put {H H' : Hp} {a : Addr} {o : HO} (s : Same H H') (h : H a = none) : Same H (upd H' a o) := fun b u e => by rw [upd_ne (ne_of_none e h)]; exact s b u e
theorem TupKeep.put {H H' : Hp} {a : Addr} {o u : HO} (s : TupKeep H H') (h : H' a = some u) (hu : ∀ xs, u ≠ .tup xs) : TupKeep H (upd H' a o) := fun b xs e => by
  rw [upd_ne]
  · exact s b xs e
  · intro z
    subst z
    rw [s b xs e] at h
    exact hu xs (Option.some.inj h).symm
theorem TupKeep.new {H H' : Hp} {a : Addr} {o : HO} (s : TupKeep H H') (h : H' a = none) : TupKeep H (upd H' a o) := fun b xs e => by
  rw [upd_ne (ne_of_none (s b xs e) h)]
  exact s b xs e

/-! ### roads -/
def RoadsP (H : Hp) (ps : List Addr) (rs : List (Int × Int)) : Prop := Paired (fun p e => H p = some (.tup [.int e.1, .int e.2])) ps rs
/-- a list of pairs stands at l -/
def Roads (H : Hp) (l : Addr) (rs : List (Int × Int)) : Prop := ∃ ps : List Addr, H l = some (.lst (ps.map V.ref)) ∧ RoadsP H ps rs
theorem RoadsP.mono {H H' : Hp} (k : TupKeep H H') : ∀ {ps : List Addr} {rs : List (Int × Int)}, RoadsP H ps rs → RoadsP H' ps rs
  | _, _, .nil => .nil
  | _, _, .cons h t => .cons (k _ _ h) (RoadsP.mono k t)
theorem RoadsP.len {H : Hp} {ps : List Addr} {rs : List (Int × Int)} (h : RoadsP H ps rs) : ps.length = rs.length := Paired.length h
theorem RoadsP.snoc {H : Hp} {ps : List Addr} {rs : List (Int × Int)} {p : Addr} {e : Int × Int} (h : RoadsP H ps rs) (hp : H p = some (.tup [.int e.1, .int e.2])) : RoadsP H (ps ++ [p]) (rs ++ [e]) := Paired.snoc h hp
theorem Roads.mono {H H' : Hp} {l : Addr} {rs : List (Int × Int)} (h : Roads H l rs) (k : TupKeep H H') (hl : ∀ o, H l = some o → H' l = some o) : Roads H' l rs :=
  let ⟨ps, h1, h2⟩ := h
  ⟨ps, hl _ h1, h2.mono k⟩
theorem Roads.same {H H' : Hp} {l : Addr} {rs : List (Int × Int)} (h : Roads H l rs) (k : Same H H') : Roads H' l rs := h.mono k.tups fun o e => k l o e

/-! ### nets -/
theorem ne_size_roads : ¬ (("size" : Str) = "roads") := by decide +kernel
/-- a net's attributes, in the order in which they are stored -/
def flds (n : Int) (r : Addr) : List (Str × V) := putF "roads" (.ref r) (putF "size" (.int n) [])
theorem flds_size (n : Int) (r : Addr) : (flds n r).lookup ("size" : Str) = some (.int n) := by
  unfold flds
  rw [lookup_putF, if_neg ne_size_roads, lookup_putF, if_pos rfl]
theorem flds_roads (n : Int) (r : Addr) : (flds n r).lookup ("roads" : Str) = some (.ref r) := by
  unfold flds
  rw [lookup_putF, if_pos rfl]
theorem flds_no (n : Int) (r : Addr) {m : Str} (h1 : ¬ m = "roads") (h2 : ¬ m = "size") : (flds n r).lookup m = none := by
  unfold flds
  rw [lookup_putF, if_neg h1, lookup_putF, if_neg h2]
  rfl
/-- a net stands at p, its list of roads at r -/
structure NetAt (C : Addr) (H : Hp) (p r : Addr) (n : Int) (rs : List (Int × Int)) : Prop where
  ob : ∃ dx, H p = some (.ins C dx (flds n r))
  rd : Roads H r rs
theorem NetAt.same {C : Addr} {H H' : Hp} {p r : Addr} {n : Int} {rs : List (Int × Int)} (h : NetAt C H p r n rs) (k : Same H H') : NetAt C H' p r n rs :=
  let ⟨dx, e⟩ := h.ob
  ⟨⟨dx, k _ _ e⟩, h.rd.same k⟩
def InNet (n : Int) (rs : List (Int × Int)) : Prop := ∀ e ∈ rs, (0 ≤ e.1 ∧ e.1 < n) ∧ (0 ≤ e.2 ∧ e.2 < n)

/-! ### == of lists of roads -/
/-! ### rounds -/
def rng (n : Nat) : List Int := (List.range n).map fun (i : Nat) => (i : Int)
theorem rng_len (n : Nat) : (rng n).length = n := by unfold rng; simp
theorem mem_rng {n : Nat} {x : Int} : x ∈ rng n ↔ 0 ≤ x ∧ x < n := by
  unfold rng
  rw [List.mem_map]
  constructor
  · rintro ⟨i, hi, rfl⟩
    have := List.mem_range.mp hi
    omega
  · rintro ⟨h0, h1⟩
    exact ⟨x.toNat, List.mem_range.mpr (by omega), by omega⟩
theorem rng_nodup (n : Nat) : (rng n).Nodup := by
  unfold rng
  exact (List.pairwise_map.mpr (List.pairwise_lt_range.imp fun h => by omega))
/-- the road ahead of place k ends where that at place k begins -/
def Joined (rs : List (Int × Int)) (cs : List Int) (k : Nat) : Prop := ∃ a b e f, atI cs ((k : Int) - 1) = some a ∧ cs[k]? = some b ∧ atI rs a = some e ∧ atI rs b = some f ∧ e.2 = f.1
def IsR (rs : List (Int × Int)) (cs : List Int) : Prop := cs.Perm (rng rs.length) ∧ ∀ k, k < cs.length → Joined rs cs k
theorem atI_mem {α : Type} {xs : List α} {i : Int} (h1 : -(xs.length : Int) ≤ i) (h2 : i < xs.length) : ∃ v, atI xs i = some v ∧ v ∈ xs := by
  unfold atI ixN
  by_cases h0 : 0 ≤ i
  · rw [if_pos h0, if_pos h2]
    have hl : i.toNat < xs.length := by omega
    exact ⟨xs[i.toNat], by simp [hl], List.getElem_mem hl⟩
  · rw [if_neg h0, if_pos h1]
    have hl : (i + xs.length).toNat < xs.length := by omega
    exact ⟨xs[(i + xs.length).toNat], by simp [hl], List.getElem_mem hl⟩
theorem atI_lt {α : Type} {xs : List α} {i : Int} {v : α} (h : atI xs i = some v) (h0 : 0 ≤ i) : xs[i.toNat]? = some v := by
  unfold atI ixN at h
  rw [if_pos h0] at h
  by_cases h1 : i < xs.length
  · rw [if_pos h1] at h
    exact h
  · rw [if_neg h1] at h
    cases h
/-! ### the list of ints, read and cut -/
theorem atI_map {α β : Type} (g : α → β) {xs : List α} {i : Int} {v : α} (h : atI xs i = some v) : atI (xs.map g) i = some (g v) := by
  unfold atI at h ⊢
  rw [List.length_map]
  cases e : ixN xs.length i with
  | none => rw [e] at h; cases h
  | some j =>
    rw [e] at h
    show (xs.map g)[j]? = some (g v)
    rw [List.getElem?_map]
    have h' : xs[j]? = some v := h
    rw [h']
    rfl
/-! ### an if whose ways meet -/
/-! ### the script: known to the object, or one of the module's -/
def Scr (K : PySem.W.Frag) (H : Hp) (a : Addr) (ns : List Int) : Prop := (∃ o, H a = some (.frz o (.lst (ns.map V.int)))) ∨
  ∃ (o : Obj) (its : Array Value) (n : Nat), K.lookup a = some o ∧ o.cls = .type "list" ∧ o.dict = none ∧ o.data = .seq its n ∧ its.size ≤ sizeLine ∧ Vals (ns.map V.int) its.toList
theorem Scr.sq {K : PySem.W.Frag} {H : Hp} {a : Addr} {ns : List Int} (h : Scr K H a ns) : SqL K H a (ns.map V.int) := by
  rcases h with ⟨o, h⟩ | h
  · exact .inl (.inr ⟨o, h⟩)
  · exact .inr h
theorem Scr.keep {K : PySem.W.Frag} {H H' : Hp} {a : Addr} {ns : List Int} (h : Scr K H a ns) (k : ∀ o u, H a = some (.frz o u) → H' a = some (.frz o u)) : Scr K H' a ns := by
  rcases h with ⟨o, h⟩ | h
  · exact .inl ⟨o, k _ _ h⟩
  · exact .inr h
theorem scr_of {K : PySem.W.Frag} {H : Hp} {a : Addr} {ns : List Int} (hO : Only H) (h : SqL K H a (ns.map V.int)) : Scr K H a ns := by
  rcases h with (h | h) | h
  · rcases hO a with z | ⟨o, xs, z⟩
    · rw [z] at h; cases h
    · rw [z] at h; cases h
  · exact .inl h
  · exact .inr h

/-! ### promises -/
def sp_netinit (C : Addr) : Sp := fun vs H Q _ => ∃ (p dx : Addr) (n : Int), vs = [.ref p, .int n] ∧ H p = some (.ins C dx []) ∧ (1 ≤ n ∧ n ≤ 8) ∧
  ∀ (r : Addr) (H' : Hp), H r = none → NetAt C H' p r n [] → (∀ b o, H b = some o → b ≠ p → H' b = some o) → Q .non H'
def sp_need (C : Addr) : Sp := fun vs H Q _ => ∃ (p r : Addr) (n k : Int) (rs : List (Int × Int)), vs = [.ref p, .int k] ∧ NetAt C H p r n rs ∧ 0 ≤ k ∧ k < n ∧ Q .non H
def sp_lay (C : Addr) : Sp := fun vs H Q _ => ∃ (p r : Addr) (n a b : Int) (rs : List (Int × Int)), vs = [.ref p, .int a, .int b] ∧ NetAt C H p r n rs ∧ (0 ≤ a ∧ a < n) ∧ (0 ≤ b ∧ b < n) ∧ rs.length < 24 ∧
  ∀ (q : Addr) (H' : Hp), H q = none → NetAt C H' p r n (rs ++ [(a, b)]) → (∀ c o, H c = some o → c ≠ r → H' c = some o) → Q (.int rs.length) H'
/-- law's: a list of at most 63 ints is handed in, True comes out -/
def sp_law (K : PySem.W.Frag) : Sp := fun vs H Q _ => ∃ (a : Addr) (ns : List Int), vs = [.ref a] ∧ Scr K H a ns ∧ ns.length ≤ 63 ∧ ∀ H', Q (.bl true) H'
end L2

set_option Elab.async false
set_option linter.all false
set_option maxRecDepth 100000
set_option maxHeartbeats 4000000
/-! Own rules, part 4: a dict by int keys: {}, setdefault, list(d.values()). -/
namespace L2
open PySem PySem.Spec PyProof.Rows
theorem Inv.bigD {X : Cx} {pins : List (Addr × Obj)} {σ : St} {H : Hp} {s : Shared} (I : Inv X pins σ H s) : sysModules < s.heap.objs.size :=
  Nat.lt_trans (by decide) (I.mod.glob.keeps I.bk).lt
def tNewD : TE := fun _ H Q => ∀ p, H p = none → Q (.ref p) (upd H p (.dK []))
theorem pe_newD {X : Cx} {pos : Pos} : PE X (.Dict [] [] pos) tNewD := fun pins s σ H Q I h =>
  wpAny_Dict_empty ⟨.ref s.heap.objs.size, _, I.laid (a := s.heap.objs.size) (o := .dK []) (t' := s.toks) (fun _ _ q => Heap.get?_push_of_some _ q) (Nat.le_refl _)
    ⟨Nat.zero_le _, beq_eq_false_iff_ne.mpr (Ne.symm (Nat.ne_of_lt I.bigD)), [], .nil, Heap.DictOf.new s.heap⟩, rfl, h _ (I.hok.fresh (Nat.le_refl _))⟩
/-- the value under a key -/
def dGet (kvs : List (Key × V)) (k : Key) : Option V := (kvs.find? fun kv => decide (kv.1 = k)).map (·.2)
theorem dGet_cons (p : Key × V) (r : List (Key × V)) (k : Key) : dGet (p :: r) k = if p.1 = k then some p.2 else dGet r k := by
  unfold dGet
  rw [List.find?_cons]
  by_cases e : p.1 = k
  · simp [e]
  · simp [e]
theorem dGet_rel {kvs : List (Key × V)} {vs : List (Key × Value)} (r : KV kvs vs) (k : Key) : RelO (dGet kvs k) (valueAt vs k) := by
  unfold KV at r
  induction r with
  | nil => exact True.intro
  | @cons p q ps qs h t ih =>
    obtain ⟨h1, h2⟩ := h
    rw [dGet_cons]
    by_cases e : p.1 = k
    · have e' : q.1 = k := h1.symm.trans e
      have b : valueAt (q :: qs) k = some q.2 := by simp [valueAt, List.find?_cons, e']
      rw [if_pos e, b]; exact h2
    · have e' : ¬ q.1 = k := fun z => e (h1.trans z)
      have b : valueAt (q :: qs) k = valueAt qs k := by simp [valueAt, List.find?_cons, e']
      rw [if_neg e, b]; exact ih
theorem stored_new {vs : List (Key × Value)} {k : Key} {u : Value} (h : valueAt vs k = none) : stored vs k u = vs ++ [(k, u)] := by
  unfold stored
  rw [if_neg]
  intro z
  obtain ⟨p, hp, e⟩ := List.any_eq_true.mp z
  unfold valueAt at h
  have h' : vs.find? (fun kv => decide (kv.1 = k)) = none := by simpa using h
  exact absurd e (by simpa using List.find?_eq_none.mp h' p hp)
section
variable {X : Cx}
/-- d.setdefault(n, v) -/
def rSetDef : V → List V → Hp → VK → Prop := fun x vs H Q => ∃ (d : Addr) (kvs : List (Key × V)) (k : Int) (v : V), x = .ref d ∧ vs = [.int k, v] ∧ H d = some (.dK kvs) ∧ kvs.length < sizeLine ∧
  (∀ u, dGet kvs (.inl k) = some u → Q u H) ∧ (dGet kvs (.inl k) = none → Q v (upd H d (.dK (kvs ++ [(.inl k, v)]))))
theorem mt_setdef : MtR X "dict.setdefault" rSetDef := by
  intro pins s σ H x vs v us Q I rx rv h
  obtain ⟨d, kvs, k, y, rfl, rfl, hH, hz, q1, q2⟩ := h
  cases rx
  obtain ⟨u1, u2, rfl, r1, r2⟩ := vals2 rv
  obtain ⟨t, rfl⟩ := r1
  obtain ⟨z, hd, ws, rel, dd⟩ := (show ObjOk X.prog X.w H s.heap d (.dK kvs) from I.hok d _ hH)
  have hl : kvs.length = ws.length := Paired.length rel
  have ro := dGet_rel rel (.inl k)
  refine call_meetsIn PySem.F.slot_dict_setdefault dd.typeIs PySem.F.entry_dict_setdefault (PySem.F.args_dict_setdefault_3 _ _ _) (kt_meets_setdefault (mixKind X.prog X.w) (k := .inl k) d (mixKind_int X.prog X.w k t) hd u2)
    ⟨ws, dd, by omega, fun u e => ?_, fun e h' dd' hs => ?_⟩
  · rw [e] at ro
    cases e2 : dGet kvs (Sum.inl k) with
    | none => rw [e2] at ro; exact (show False from ro).elim
    | some yv =>
      rw [e2] at ro
      exact ⟨yv, H, I.tok _, ro, q1 yv e2⟩
  · rw [e] at ro
    cases e2 : dGet kvs (Sum.inl k) with
    | some yv => rw [e2] at ro; exact (show False from ro).elim
    | none =>
      rw [stored_new e] at dd'
      have he : ∃ q, h'.get? d = some q := let ⟨q, _, _, hq, _⟩ := dd'; ⟨q, hq⟩
      have I2 : Inv X pins σ (upd H d (.dK (kvs ++ [(.inl k, y)]))) { s with heap := h', toks := s.toks + 1 } :=
        I.write (x := d) (e := d) (by rw [hH]; exact True.intro) (.inl rfl) (fun b q hb z => (hs.2 b hb).trans z) he ⟨by rw [List.length_append]; simp; omega, hd, _, Paired.snoc rel ⟨rfl, r2⟩, dd'⟩
      exact ⟨y, _, I2, r2, q2 e2⟩
/-- a view of a dict's values -/
def viewO (v d : Addr) : HO := .ext fun h => h.IsValuesView v d
def rValues : V → List V → Hp → VK → Prop := fun x vs H Q => ∃ (d : Addr) (kvs : List (Key × V)), x = .ref d ∧ vs = [] ∧ H d = some (.dK kvs) ∧ ∀ v, H v = none → Q (.ref v) (upd H v (viewO v d))
theorem mt_values : MtR X "dict.values" rValues := by
  intro pins s σ H x vs v us Q I rx rv h
  obtain ⟨d, kvs, rfl, rfl, hH, q⟩ := h
  cases rx
  have hus := rv.zero
  subst hus
  obtain ⟨z, hd, ws, rel, dd⟩ := (show ObjOk X.prog X.w H s.heap d (.dK kvs) from I.hok d _ hH)
  refine call_meetsIn PySem.F.slot_dict_values dd.typeIs PySem.F.entry_dict_values (PySem.F.args_dict_values_1 _) (meets_dict_values (mixKind X.prog X.w) d hd) ⟨⟨ws, dd⟩, ?_⟩
  have I2 : Inv X pins σ (upd H s.heap.objs.size (viewO s.heap.objs.size d)) { s with heap := s.heap.push { cls := .type "dict_values", data := .fields #[.ref d] } } :=
    I.laid (t' := s.toks) (fun b o e => Heap.get?_push_of_some _ e) (Nat.le_refl _) ⟨⟨_, Heap.get?_push_size _ rfl, rfl, rfl⟩, ⟨_, Heap.get?_push_size _ rfl⟩, fun h1 h2 ⟨o, e, r⟩ k => ⟨o, k o e, r⟩⟩
  exact ⟨.ref _, _, I2, rfl, q _ (I.hok.fresh (Nat.le_refl _))⟩
theorem KV.snd : ∀ {kvs : List (Key × V)} {vs : List (Key × Value)}, KV kvs vs → ∀ (us : List Value), us.length = vs.length → (∀ (j : Nat) (v : Value), us[j]? = some v → ∃ k, vs[j]? = some (k, v)) → Vals (kvs.map (·.2)) us
  | _, _, .nil, us, hl, _ => by
    cases us with
    | nil => exact .nil
    | cons _ _ => simp at hl
  | _, _, .cons h t, us, hl, hv => by
    cases us with
    | nil => simp at hl
    | cons u us =>
      obtain ⟨k, e⟩ := hv 0 u rfl
      simp only [List.getElem?_cons_zero, Option.some.injEq] at e
      refine .cons ?_ (KV.snd t us (by simpa using hl) fun j v e => by simpa using hv (j + 1) v (by simpa using e))
      have h2 := h.2
      rw [e] at h2
      exact h2
/-- list(a dict's view of values) -/
theorem call_listView (hc : X.calm = true) : CallR X (.type "list") (fun xs H Q => ∃ (v d : Addr) (kvs : List (Key × V)), xs = [.ref v] ∧ H v = some (viewO v d) ∧ H d = some (.dK kvs) ∧ ∀ l, H l = none → Q (.ref l) (upd H l (.lst (kvs.map (·.2))))) := by
  intro pins s σ H xs us Q I r h
  obtain ⟨v, d, kvs, rfl, hv, hH, q⟩ := h
  obtain ⟨u, rfl, ru⟩ := vals1 r
  cases ru
  obtain ⟨z, hd, ws, rel, dd⟩ := (show ObjOk X.prog X.w H s.heap d (.dK kvs) from I.hok d _ hH)
  obtain ⟨iv, _, _⟩ := (show ObjOk X.prog X.w H s.heap v (viewO v d) from I.hok v _ hv)
  obtain ⟨ep, da⟩ := dd.dictAt
  have hl : kvs.length = ws.length := Paired.length rel
  refine PySem.W.kdl_call (PySem.W.kdl_values (knd := mixKind X.prog X.w) (d := d) (r := v) (kvs := ws) (ep := ep)) (I.ok.hd hc) ⟨iv, da⟩ (by omega) fun h' tk acc c' kp ha hi => ?_
  obtain ⟨hsz, hit⟩ := hi
  have hv2 : Vals (kvs.map (·.2)) acc.toList := KV.snd rel acc.toList (by rw [Array.length_toList, hsz]) fun j v e => hit j v (by simpa using e)
  have I2 : Inv X pins σ (upd H s.heap.objs.size (.lst (kvs.map (·.2)))) { s with heap := h', toks := tk } :=
    I.laid kp (Nat.le_refl _) ⟨by rw [List.length_map]; exact z, acc.toList, c', hv2, by simpa using ha⟩
  exact ⟨.ref _, _, I2, rfl, q _ (I.hok.fresh (Nat.le_refl _))⟩
end
end L2

set_option Elab.async false
set_option linter.all false
set_option maxRecDepth 100000
set_option maxHeartbeats 4000000
/-! Own rules, part 5: data. A value is read as data of a Lean type; a local name holds data, shared or its own; expressions and statements are read over data alone, the heap is hidden. -/
namespace L2
open PySem PySem.Spec PyProof.Rows

/-- what the data stand over: the module's part, the class of nets -/
structure Ct where
  K : PySem.W.Frag
  C : Addr

/-! ### heaps kept but for some lists -/
/-- what may be changed: lists and dicts -/
def Mu : HO → Bool
  | .lst _ => true
  | .dK _ => true
  | _ => false
structure Kp (F : List Addr) (H H' : Hp) : Prop where
  keep : ∀ b o, H b = some o → (Mu o = false ∨ b ∉ F) → H' b = some o
  lst : ∀ b o, H b = some o → Mu o = true → ∃ o', H' b = some o' ∧ Mu o' = true
theorem Kp.of_same {F : List Addr} {H H' : Hp} (s : Same H H') : Kp F H H' := ⟨fun b o e _ => s b o e, fun b o e h => ⟨o, s b _ e, h⟩⟩
theorem Kp.refl {F : List Addr} (H : Hp) : Kp F H H := .of_same (Same.refl H)
theorem Kp.free {F : List Addr} {H H' : Hp} (k : Kp F H H') {a : Addr} (h : H' a = none) : H a = none := by
  cases e : H a with
  | none => rfl
  | some o =>
    cases hl : Mu o with
    | true =>
      obtain ⟨o', q, _⟩ := k.lst a o e hl
      rw [h] at q; cases q
    | false => rw [k.keep a o e (.inl hl)] at h; cases h
theorem Kp.trans {F G : List Addr} {H H1 H2 : Hp} (a : Kp F H H1) (b : Kp G H1 H2) (hG : ∀ x ∈ G, H x = none ∨ x ∈ F) : Kp F H H2 := by
  refine ⟨fun c o e h => ?_, fun c o e h => ?_⟩
  · refine b.keep c o (a.keep c o e h) ?_
    rcases h with h | h
    · exact .inl h
    · refine .inr fun z => ?_
      rcases hG c z with q | q
      · rw [e] at q; cases q
      · exact h q
  · obtain ⟨o', q, h'⟩ := a.lst c o e h
    exact b.lst c o' q h'
theorem Kp.same {F : List Addr} {H H1 H2 : Hp} (a : Kp F H H1) (b : Same H1 H2) : Kp F H H2 := a.trans (G := []) (.of_same b) (fun x h => absurd h (by simp))
theorem Kp.to_same {H H' : Hp} (k : Kp [] H H') : Same H H' := fun b o e => k.keep b o e (.inr (by simp))
theorem Kp.putM {H : Hp} {a : Addr} {o o' : HO} (h : H a = some o) (hm : Mu o = true) (hm' : Mu o' = true) : Kp [a] H (upd H a o') := by
  refine ⟨fun b u e q => ?_, fun b u e hu => ?_⟩
  · rw [upd_ne]
    · exact e
    · rintro rfl
      rw [h] at e; cases e
      rcases q with q | q
      · rw [hm] at q; cases q
      · exact q (by simp)
  · by_cases hb : b = a
    · subst hb; exact ⟨o', upd_same, hm'⟩
    · exact ⟨u, by rw [upd_ne hb]; exact e, hu⟩
theorem Kp.put {H : Hp} {a : Addr} {xs ys : List V} (h : H a = some (.lst xs)) : Kp [a] H (upd H a (.lst ys)) := .putM h rfl rfl

/-! ### data -/
class Rp (c : Ct) (α : Type) where
  tree : Hp → V → α → List Addr → Prop
  isl : ∀ {H : Hp} {v : V} {x : α} {as : List Addr}, tree H v x as → ∀ a ∈ as, ∃ o, H a = some o ∧ Mu o = true
  frame : ∀ {H H' : Hp} {v : V} {x : α} {as : List Addr}, tree H v x as → (∀ b o, H b = some o → (Mu o = false ∨ b ∈ as) → H' b = some o) → tree H' v x as
abbrev tree (c : Ct) {α : Type} [Rp c α] : Hp → V → α → List Addr → Prop := Rp.tree c
class Flat (c : Ct) (α : Type) [Rp c α] : Prop where
  flat : ∀ {H : Hp} {v : V} {x : α} {as : List Addr}, tree c H v x as → as = []
section
variable {c : Ct}
theorem nodup_one (a : Addr) : [a].Nodup := List.nodup_cons.mpr ⟨by simp, List.nodup_nil⟩
theorem tree_same {α : Type} [Rp c α] {H H' : Hp} {v : V} {x : α} {as : List Addr} (h : tree c H v x as) (s : Same H H') : tree c H' v x as := Rp.frame h fun b o e _ => s b o e
theorem tree_kp {α : Type} [Rp c α] {H H' : Hp} {v : V} {x : α} {as F : List Addr} (h : tree c H v x as) (s : Kp F H H') (d : ∀ a ∈ as, a ∉ F) : tree c H' v x as :=
  Rp.frame h fun b o e q => s.keep b o e (q.imp id fun z => d b z)
theorem tree_dom {α : Type} [Rp c α] {H : Hp} {v : V} {x : α} {as : List Addr} {a : Addr} (h : tree c H v x as) (ha : a ∈ as) : H a ≠ none := fun z => by
  obtain ⟨xs, e, _⟩ := Rp.isl h a ha
  rw [z] at e; cases e
instance : Rp c Int where
  tree := fun _ v x as => v = .int x ∧ as = []
  isl := fun h a ha => by rw [h.2] at ha; simp at ha
  frame := fun h _ => h
instance : Flat c Int := ⟨fun h => h.2⟩
instance : Rp c Bool where
  tree := fun _ v x as => v = .bl x ∧ as = []
  isl := fun h a ha => by rw [h.2] at ha; simp at ha
  frame := fun h _ => h
instance : Flat c Bool := ⟨fun h => h.2⟩
instance : Rp c Unit where
  tree := fun _ v _ as => v = .non ∧ as = []
  isl := fun h a ha => by rw [h.2] at ha; simp at ha
  frame := fun h _ => h
instance : Flat c Unit := ⟨fun h => h.2⟩
instance : Rp c Str where
  tree := fun _ v x as => v = .str x ∧ as = []
  isl := fun h a ha => by rw [h.2] at ha; simp at ha
  frame := fun h _ => h
instance : Flat c Str := ⟨fun h => h.2⟩
/-- a number or None -/
def optV : Option Int → V
  | none => .non
  | some i => .int i
instance : Rp c (Option Int) where
  tree := fun _ v x as => v = optV x ∧ as = []
  isl := fun h a ha => by rw [h.2] at ha; simp at ha
  frame := fun h _ => h
instance : Flat c (Option Int) := ⟨fun h => h.2⟩
/-- the one or the other -/
instance {α β : Type} [Rp c α] [Rp c β] : Rp c (α ⊕ β) where
  tree := fun H v x as => match x with | .inl a => tree c H v a as | .inr b => tree c H v b as
  isl := fun {H v x as} h => by
    cases x with
    | inl a => exact Rp.isl (c := c) h
    | inr b => exact Rp.isl (c := c) h
  frame := fun {H H' v x as} h => by
    cases x with
    | inl a => exact Rp.frame (c := c) h
    | inr b => exact Rp.frame (c := c) h
instance {α β : Type} [Rp c α] [Rp c β] [Flat c α] [Flat c β] : Flat c (α ⊕ β) := ⟨fun {H v x as} h => by
  cases x with
  | inl a => exact Flat.flat (show tree c H v a as from h)
  | inr b => exact Flat.flat (show tree c H v b as from h)⟩
/-- a pair -/
instance {α β : Type} [Rp c α] [Rp c β] : Rp c (α × β) where
  tree := fun H v x as => ∃ p v1 v2 a1 a2, v = .ref p ∧ H p = some (.tup [v1, v2]) ∧ tree c H v1 x.1 a1 ∧ tree c H v2 x.2 a2 ∧ as = a1 ++ a2
  isl := fun h a ha => by
    obtain ⟨p, v1, v2, a1, a2, _, _, t1, t2, rfl⟩ := h
    rcases List.mem_append.mp ha with z | z
    · exact Rp.isl t1 a z
    · exact Rp.isl t2 a z
  frame := fun h k => by
    obtain ⟨p, v1, v2, a1, a2, e, hp, t1, t2, rfl⟩ := h
    exact ⟨p, v1, v2, a1, a2, e, k _ _ hp (.inl rfl), Rp.frame t1 fun b o e q => k b o e (q.imp id fun z => List.mem_append_left _ z), Rp.frame t2 fun b o e q => k b o e (q.imp id fun z => List.mem_append_right _ z), rfl⟩
instance {α β : Type} [Rp c α] [Rp c β] [Flat c α] [Flat c β] : Flat c (α × β) := ⟨fun h => by
  obtain ⟨p, v1, v2, a1, a2, e, hp, t1, t2, rfl⟩ := h
  rw [Flat.flat t1, Flat.flat t2]; rfl⟩
/-- a triple -/
structure T3 (α β γ : Type) where
  a : α
  b : β
  d : γ
instance {α β γ : Type} [Rp c α] [Rp c β] [Rp c γ] : Rp c (T3 α β γ) where
  tree := fun H v x as => ∃ p v1 v2 v3 a1 a2 a3, v = .ref p ∧ H p = some (.tup [v1, v2, v3]) ∧ tree c H v1 x.a a1 ∧ tree c H v2 x.b a2 ∧ tree c H v3 x.d a3 ∧ as = a1 ++ (a2 ++ a3)
  isl := fun h a ha => by
    obtain ⟨p, v1, v2, v3, a1, a2, a3, _, _, t1, t2, t3, rfl⟩ := h
    rcases List.mem_append.mp ha with z | z
    · exact Rp.isl t1 a z
    · rcases List.mem_append.mp z with z | z
      · exact Rp.isl t2 a z
      · exact Rp.isl t3 a z
  frame := fun h k => by
    obtain ⟨p, v1, v2, v3, a1, a2, a3, e, hp, t1, t2, t3, rfl⟩ := h
    exact ⟨p, v1, v2, v3, a1, a2, a3, e, k _ _ hp (.inl rfl), Rp.frame t1 fun b o e q => k b o e (q.imp id fun z => List.mem_append_left _ z), Rp.frame t2 fun b o e q => k b o e (q.imp id fun z => List.mem_append_right _ (List.mem_append_left _ z)),
      Rp.frame t3 fun b o e q => k b o e (q.imp id fun z => List.mem_append_right _ (List.mem_append_right _ z)), rfl⟩
/-- items -/
def Trees (c : Ct) {α : Type} [Rp c α] (H : Hp) : List V → List α → List Addr → Prop
  | [], [], as => as = []
  | v :: vs, x :: xs, as => ∃ a1 a2, tree c H v x a1 ∧ Trees c H vs xs a2 ∧ as = a1 ++ a2
  | _, _, _ => False
section
variable {α : Type} [Rp c α]
theorem Trees.isl {H : Hp} : ∀ {vs : List V} {xs : List α} {as : List Addr}, Trees c H vs xs as → ∀ a ∈ as, ∃ o, H a = some o ∧ Mu o = true
  | [], [], as, h, a, ha => by rw [show as = [] from h] at ha; simp at ha
  | v :: vs, x :: xs, as, h, a, ha => by
    obtain ⟨a1, a2, t, r, rfl⟩ := h
    rcases List.mem_append.mp ha with z | z
    · exact Rp.isl t a z
    · exact Trees.isl r a z
theorem Trees.frame {H H' : Hp} : ∀ {vs : List V} {xs : List α} {as : List Addr}, Trees c H vs xs as → (∀ b o, H b = some o → (Mu o = false ∨ b ∈ as) → H' b = some o) → Trees c H' vs xs as
  | [], [], as, h, _ => h
  | v :: vs, x :: xs, as, h, k => by
    obtain ⟨a1, a2, t, r, rfl⟩ := h
    exact ⟨a1, a2, Rp.frame t fun b o e q => k b o e (q.imp id fun z => List.mem_append_left _ z), Trees.frame r fun b o e q => k b o e (q.imp id fun z => List.mem_append_right _ z), rfl⟩
theorem Trees.same {H H' : Hp} {vs : List V} {xs : List α} {as : List Addr} (h : Trees c H vs xs as) (s : Same H H') : Trees c H' vs xs as := h.frame fun b o e _ => s b o e
theorem Trees.kp {H H' : Hp} {vs : List V} {xs : List α} {as F : List Addr} (h : Trees c H vs xs as) (s : Kp F H H') (d : ∀ a ∈ as, a ∉ F) : Trees c H' vs xs as :=
  h.frame fun b o e q => s.keep b o e (q.imp id fun z => d b z)
theorem Trees.len {H : Hp} : ∀ {vs : List V} {xs : List α} {as : List Addr}, Trees c H vs xs as → vs.length = xs.length
  | [], [], _, _ => rfl
  | _ :: _, _ :: _, _, h => by
    obtain ⟨_, _, _, r, _⟩ := h
    rw [List.length_cons, List.length_cons, r.len]
theorem Trees.get {H : Hp} : ∀ {vs : List V} {xs : List α} {as : List Addr} {i : Nat} {x : α}, Trees c H vs xs as → xs[i]? = some x → ∃ v a1, vs[i]? = some v ∧ tree c H v x a1 ∧ a1.Sublist as
  | [], [], _, _, _, _, e => by simp at e
  | v :: vs, y :: xs, as, 0, x, h, e => by
    obtain ⟨a1, a2, t, r, rfl⟩ := h
    simp at e; subst e
    exact ⟨v, a1, rfl, t, List.sublist_append_left _ _⟩
  | v :: vs, y :: xs, as, i + 1, x, h, e => by
    obtain ⟨a1, a2, t, r, rfl⟩ := h
    obtain ⟨u, b1, q1, q2, q3⟩ := Trees.get (i := i) r (by simpa using e)
    exact ⟨u, b1, by simpa using q1, q2, q3.trans (List.sublist_append_right _ _)⟩
theorem Trees.append {H : Hp} : ∀ {vs ws : List V} {xs ys : List α} {as bs : List Addr}, Trees c H vs xs as → Trees c H ws ys bs → Trees c H (vs ++ ws) (xs ++ ys) (as ++ bs)
  | [], _, [], _, as, _, h, r => by rw [show as = [] from h]; exact r
  | v :: vs, _, x :: xs, _, as, bs, h, r => by
    obtain ⟨a1, a2, t, q, rfl⟩ := h
    exact ⟨a1, a2 ++ bs, t, Trees.append q r, by rw [List.append_assoc]⟩
theorem Trees.one {H : Hp} {v : V} {x : α} {as : List Addr} (h : tree c H v x as) : Trees c H [v] [x] as := ⟨as, [], h, rfl, by simp⟩
theorem Trees.snoc {H : Hp} {vs : List V} {xs : List α} {v : V} {x : α} {as bs : List Addr} (h : Trees c H vs xs as) (t : tree c H v x bs) : Trees c H (vs ++ [v]) (xs ++ [x]) (as ++ bs) := h.append (.one t)
theorem Trees.flat [Flat c α] {H : Hp} : ∀ {vs : List V} {xs : List α} {as : List Addr}, Trees c H vs xs as → as = []
  | [], [], _, h => h
  | _ :: _, _ :: _, _, h => by
    obtain ⟨a1, a2, t, r, rfl⟩ := h
    rw [Flat.flat t, Trees.flat r]; rfl
theorem Trees.take [Flat c α] {H : Hp} : ∀ (n : Nat) {vs : List V} {xs : List α} {as : List Addr}, Trees c H vs xs as → Trees c H (vs.take n) (xs.take n) []
  | 0, _, _, _, _ => rfl
  | _ + 1, [], [], _, h => rfl
  | n + 1, _ :: _, _ :: _, _, h => by
    obtain ⟨a1, a2, t, r, rfl⟩ := h
    have := Flat.flat t; subst this
    exact ⟨[], [], t, Trees.take n r, rfl⟩
theorem Trees.drop [Flat c α] {H : Hp} : ∀ (n : Nat) {vs : List V} {xs : List α} {as : List Addr}, Trees c H vs xs as → Trees c H (vs.drop n) (xs.drop n) []
  | 0, _, _, _, h => by have := h.flat; subst this; exact h
  | _ + 1, [], [], _, h => rfl
  | n + 1, _ :: _, _ :: _, _, h => by
    obtain ⟨a1, a2, t, r, rfl⟩ := h
    exact Trees.drop n r
end
theorem Trees.ints {H : Hp} : ∀ {vs : List V} {xs : List Int} {as : List Addr}, Trees c H vs xs as → vs = xs.map V.int
  | [], [], _, _ => rfl
  | _ :: _, _ :: _, _, h => by
    obtain ⟨a1, a2, t, r, rfl⟩ := h
    rw [List.map_cons, t.1, r.ints]
theorem trees_ints {H : Hp} : ∀ (xs : List Int), Trees c H (xs.map V.int) xs []
  | [] => rfl
  | x :: xs => ⟨[], [], ⟨rfl, rfl⟩, trees_ints xs, rfl⟩
/-- a list -/
instance {α : Type} [Rp c α] : Rp c (List α) where
  tree := fun H v xs as => ∃ a vs as', v = .ref a ∧ H a = some (.lst vs) ∧ Trees c H vs xs as' ∧ as = a :: as'
  isl := fun h b hb => by
    obtain ⟨a, vs, as', _, ha, t, rfl⟩ := h
    rcases List.mem_cons.mp hb with z | z
    · rw [z]; exact ⟨_, ha, rfl⟩
    · exact t.isl b z
  frame := fun h k => by
    obtain ⟨a, vs, as', e, ha, t, rfl⟩ := h
    exact ⟨a, vs, as', e, k _ _ ha (.inr List.mem_cons_self), t.frame fun b o e q => k b o e (q.imp id fun z => List.mem_cons_of_mem _ z), rfl⟩
/-- the script -/
structure Sc where
  ns : List Int
instance : Rp c Sc where
  tree := fun H v x as => ∃ a, v = .ref a ∧ Scr c.K H a x.ns ∧ as = []
  isl := fun h a ha => by
    obtain ⟨_, _, _, z⟩ := h
    rw [z] at ha; simp at ha
  frame := fun h k => by
    obtain ⟨a, e, s, z⟩ := h
    exact ⟨a, e, s.keep fun o u e => k _ _ e (.inl rfl), z⟩
instance : Flat c Sc := ⟨fun h => let ⟨_, _, _, z⟩ := h; z⟩
/-- a net -/
structure NetD where
  n : Int
  rs : List (Int × Int)
theorem trees_roads {H : Hp} : ∀ {ps : List Addr} {rs : List (Int × Int)}, RoadsP H ps rs → Trees c H (ps.map V.ref) rs []
  | _, _, .nil => rfl
  | _, _, .cons h t => ⟨[], [], ⟨_, _, _, [], [], rfl, h, ⟨rfl, rfl⟩, ⟨rfl, rfl⟩, rfl⟩, trees_roads t, rfl⟩
theorem tree_roads {H : Hp} {l : Addr} {rs : List (Int × Int)} (h : Roads H l rs) : tree c H (.ref l) rs [l] :=
  let ⟨_, h1, h2⟩ := h
  ⟨l, _, [], rfl, h1, trees_roads h2, rfl⟩
instance : Rp c NetD where
  tree := fun H v x as => ∃ p r, v = .ref p ∧ NetAt c.C H p r x.n x.rs ∧ as = [r]
  isl := fun h a ha => by
    obtain ⟨p, r, _, N, rfl⟩ := h
    obtain ⟨ps, q, _⟩ := N.rd
    have : a = r := by simpa using ha
    subst this
    exact ⟨_, q, rfl⟩
  frame := fun h k => by
    obtain ⟨p, r, e, N, rfl⟩ := h
    obtain ⟨⟨dx, hd⟩, ps, q, z⟩ := N
    exact ⟨p, r, e, ⟨⟨dx, k _ _ hd (.inl rfl)⟩, ps, k _ _ q (.inr (by simp)), z.mono fun b xs e => k b _ e (.inl rfl)⟩, rfl⟩

/-! ### the state -/
/-- a local name: unbound or unknown, data that others may hold too, data of its own -/
inductive Ent (c : Ct) : Type 1
  | no
  | en (o : Bool) {α : Type} [Rp c α] (x : α)
abbrev Ent.sh {α : Type} [Rp c α] (x : α) : Ent c := .en false x
abbrev Ent.ow {α : Type} [Rp c α] (x : α) : Ent c := .en true x
def EntOk (H : Hp) (Fs : Nat → List Addr) (i : Nat) (u : Option V) : Ent c → Prop
  | .no => Fs i = []
  | @Ent.en _ false α inst x => Fs i = [] ∧ ∃ v as, u = some v ∧ @Rp.tree c α inst H v x as ∧ ∀ a ∈ as, ∀ j, a ∉ Fs j
  | @Ent.en _ true α inst x => ∃ v, u = some v ∧ @Rp.tree c α inst H v x (Fs i)
structure Sta (H0 : Hp) (F0 : List Addr) (env : List (Ent c)) (Fs : Nat → List Addr) (σ : St) (H : Hp) : Prop where
  len : σ.length = env.length
  ok : ∀ i u e, σ[i]? = some u → env[i]? = some e → EntOk H Fs i u e
  out : ∀ i, env.length ≤ i → Fs i = []
  nd : ∀ i, (Fs i).Nodup
  dj : ∀ i j, i ≠ j → ∀ a ∈ Fs i, a ∉ Fs j
  up : ∀ i, ∀ a ∈ Fs i, H0 a = none ∨ a ∈ F0
  kp : Kp F0 H0 H
section
variable {H0 H H' : Hp} {F0 : List Addr} {env : List (Ent c)} {Fs : Nat → List Addr} {σ : St}
theorem EntOk.same {i : Nat} {u : Option V} {e : Ent c} (h : EntOk H Fs i u e) (s : Same H H') : EntOk H' Fs i u e := by
  cases e with
  | no => exact h
  | en o x =>
    cases o with
    | false =>
      obtain ⟨z, v, as, e, t, d⟩ := h
      exact ⟨z, v, as, e, tree_same t s, d⟩
    | true =>
      obtain ⟨v, e, t⟩ := h
      exact ⟨v, e, tree_same t s⟩
theorem Sta.same (S : Sta H0 F0 env Fs σ H) (s : Same H H') : Sta H0 F0 env Fs σ H' :=
  ⟨S.len, fun i u e h1 h2 => (S.ok i u e h1 h2).same s, S.out, S.nd, S.dj, S.up, S.kp.same s⟩
theorem Sta.at_ (S : Sta H0 F0 env Fs σ H) {i : Nat} {e : Ent c} (h : env[i]? = some e) : ∃ u, σ[i]? = some u ∧ EntOk H Fs i u e := by
  have hi : i < env.length := (List.getElem?_eq_some_iff.mp h).1
  have : σ[i]? = some (σ[i]'(by rw [S.len]; exact hi)) := by simp [S.len, hi]
  exact ⟨_, this, S.ok i _ e this h⟩
theorem Sta.isl (S : Sta H0 F0 env Fs σ H) {i : Nat} {a : Addr} (ha : a ∈ Fs i) : ∃ o, H a = some o ∧ Mu o = true := by
  by_cases hi : i < env.length
  · obtain ⟨u, h1, h2⟩ := S.at_ (i := i) (e := env[i]) (by simp [hi])
    cases e : env[i] with
    | no => rw [e] at h2; rw [show Fs i = [] from h2] at ha; simp at ha
    | en o x =>
      rw [e] at h2
      cases o with
      | false => rw [h2.1] at ha; simp at ha
      | true =>
        obtain ⟨v, _, t⟩ := h2
        exact Rp.isl t a ha
  · rw [S.out i (by omega)] at ha; simp at ha
/-- what is new is no one's -/
theorem Sta.new (S : Sta H0 F0 env Fs σ H) {a : Addr} (h : H a = none) (j : Nat) : a ∉ Fs j := fun z => by
  obtain ⟨xs, e, _⟩ := S.isl z
  rw [h] at e; cases e
/-- data of a name -/
theorem Sta.var {α : Type} [Rp c α] {x : α} (S : Sta H0 F0 env Fs σ H) {i : Nat} {o : Bool} (h : env[i]? = some (.en o x)) : ∃ v as, σ[i]? = some (some v) ∧ tree c H v x as := by
  cases o with
  | false =>
    obtain ⟨u, h1, _, v, as, e, t, _⟩ := S.at_ h
    exact ⟨v, as, by rw [h1, e], t⟩
  | true =>
    obtain ⟨u, h1, v, e, t⟩ := S.at_ h
    exact ⟨v, _, by rw [h1, e], t⟩

/-! ### changing a name's entry -/
def putF' (Fs : Nat → List Addr) (i : Nat) (as : List Addr) : Nat → List Addr := fun j => if j = i then as else Fs j
theorem putF_same {Fs : Nat → List Addr} {i : Nat} {as : List Addr} : putF' Fs i as i = as := by unfold putF'; rw [if_pos rfl]
theorem putF_ne {Fs : Nat → List Addr} {i j : Nat} {as : List Addr} (h : j ≠ i) : putF' Fs i as j = Fs j := by unfold putF'; rw [if_neg h]
/-- the entry at i is e, by the footprint as; the heap may have changed within the old footprint of i -/
theorem Sta.put (S : Sta H0 F0 env Fs σ H) {i : Nat} {as : List Addr} {v : Option V} {e : Ent c} (kp : Kp (Fs i) H H') (hi : i < env.length)
    (he : EntOk H' (putF' Fs i as) i v e) (nd : as.Nodup) (dj : ∀ a ∈ as, a ∈ Fs i ∨ H a = none) : Sta H0 F0 (env.set i e) (putF' Fs i as) (σ.set i v) H' := by
  have dj' : ∀ a ∈ as, ∀ j, j ≠ i → a ∉ Fs j := fun a ha j hj => by
    rcases dj a ha with z | z
    · exact S.dj i j (Ne.symm hj) a z
    · exact S.new z j
  refine ⟨by rw [List.length_set, List.length_set]; exact S.len, fun j u e' h1 h2 => ?_, fun j hj => ?_, fun j => ?_, fun j k hjk a ha => ?_, fun j a ha => ?_, ?_⟩
  · by_cases hj : j = i
    · subst hj
      have hs : j < σ.length := by rw [S.len]; exact hi
      rw [List.getElem?_set_self hs] at h1
      rw [List.getElem?_set_self hi] at h2
      cases h1; cases h2
      exact he
    · rw [List.getElem?_set_ne (Ne.symm hj)] at h1 h2
      have q := S.ok j u e' h1 h2
      cases e' with
      | no => exact (putF_ne hj).trans q
      | en o x =>
       cases o with
       | false =>
        obtain ⟨z, w, bs, e, t, d⟩ := q
        refine ⟨(putF_ne hj).trans z, w, bs, e, tree_kp t kp fun a ha => d a ha i, fun a ha k => ?_⟩
        by_cases hk : k = i
        · subst hk
          rw [putF_same]
          intro hz
          rcases dj a hz with y | y
          · exact d a ha k y
          · exact tree_dom t ha y
        · rw [putF_ne hk]; exact d a ha k
       | true =>
        obtain ⟨w, e, t⟩ := q
        exact ⟨w, e, by rw [putF_ne hj]; exact tree_kp t kp fun a ha => S.dj j i hj a ha⟩
  · rw [List.length_set] at hj
    rw [putF_ne (by omega)]
    exact S.out j hj
  · by_cases hj : j = i
    · subst hj; rw [putF_same]; exact nd
    · rw [putF_ne hj]; exact S.nd j
  · by_cases hj : j = i
    · subst hj
      rw [putF_same] at ha
      rw [putF_ne (Ne.symm hjk)]
      exact dj' a ha k (Ne.symm hjk)
    · rw [putF_ne hj] at ha
      by_cases hk : k = i
      · subst hk
        rw [putF_same]
        exact fun z => dj' a z j hj ha
      · rw [putF_ne hk]; exact S.dj j k hjk a ha
  · by_cases hj : j = i
    · subst hj
      rw [putF_same] at ha
      rcases dj a ha with z | z
      · exact S.up j a z
      · exact .inl (S.kp.free z)
    · rw [putF_ne hj] at ha; exact S.up j a ha
  · exact S.kp.trans kp fun x hx => S.up i x hx
/-- shared data -/
theorem Sta.setS {α : Type} [Rp c α] {x : α} {v : V} {as : List Addr} (S : Sta H0 F0 env Fs σ H) {i : Nat} (hi : i < env.length) (t : tree c H v x as) (d : ∀ a ∈ as, ∀ j, j ≠ i → a ∉ Fs j) :
    Sta H0 F0 (env.set i (.sh x)) (putF' Fs i []) (σ.set i (some v)) H := by
  refine S.put (Kp.refl H) hi ⟨putF_same, v, as, rfl, t, fun a ha j => ?_⟩ List.nodup_nil (fun a ha => absurd ha (by simp))
  by_cases hj : j = i
  · subst hj; rw [putF_same]; simp
  · rw [putF_ne hj]; exact d a ha j hj
/-- own data, new -/
theorem Sta.setO {α : Type} [Rp c α] {x : α} {v : V} {as : List Addr} (S : Sta H0 F0 env Fs σ H) (s : Same H H') {i : Nat} (hi : i < env.length) (t : tree c H' v x as) (nd : as.Nodup) (d : ∀ a ∈ as, H a = none) :
    Sta H0 F0 (env.set i (.ow x)) (putF' Fs i as) (σ.set i (some v)) H' :=
  S.put (Kp.of_same s) hi ⟨v, rfl, by rw [putF_same]; exact t⟩ nd fun a ha => .inr (d a ha)
/-- a name's own data is given to all -/
theorem Sta.share {α : Type} [Rp c α] {x : α} (S : Sta H0 F0 env Fs σ H) {i : Nat} (h : env[i]? = some (.ow x)) : Sta H0 F0 (env.set i (.sh x)) (putF' Fs i []) σ H := by
  obtain ⟨u, h1, v, rfl, t⟩ := S.at_ h
  have hi : i < env.length := (List.getElem?_eq_some_iff.mp h).1
  have q := S.setS (v := v) hi t fun a ha j hj => S.dj i j (Ne.symm hj) a ha
  have e : σ.set i (some v) = σ := by
    apply List.ext_getElem?
    intro k
    by_cases hk : i = k
    · subst hk
      have hs : i < σ.length := by rw [S.len]; exact hi
      rw [List.getElem?_set_self hs, h1]
    · rw [List.getElem?_set_ne hk]
  rwa [e] at q
/-- a name is forgotten -/
theorem Sta.drop (S : Sta H0 F0 env Fs σ H) {i : Nat} (hi : i < env.length) : Sta H0 F0 (env.set i .no) (putF' Fs i []) σ H := by
  have q := S.put (v := σ[i]'(by rw [S.len]; exact hi)) (e := .no) (Kp.refl H) hi putF_same List.nodup_nil (fun a ha => absurd ha (by simp))
  rwa [List.set_getElem_self] at q
end
end
end L2

set_option Elab.async false
set_option linter.all false
set_option maxRecDepth 100000
set_option maxHeartbeats 4000000
/-! Own rules, part 6: expressions and tests over data. -/
namespace L2
open PySem PySem.Spec PyProof.Rows
/-- how an expression's value stands: anyhow; apart from what names own; new, or taken from the names S -/
inductive Md where
  | any | sh | mv (S : List Nat)
abbrev Md.fr : Md := .mv []
def Md.ok (m : Md) (H : Hp) (Fs : Nat → List Addr) (as : List Addr) : Prop := match m with
  | .any => True
  | .sh => ∀ a ∈ as, ∀ j, a ∉ Fs j
  | .mv S => as.Nodup ∧ ∀ a ∈ as, H a = none ∨ ∃ j ∈ S, a ∈ Fs j
/-- modes in which parts may be put together -/
def Md.seq : Md → Prop
  | .mv (_ :: _) => False
  | _ => True
section
variable {c : Ct} {H0 H H' : Hp} {F0 : List Addr} {env : List (Ent c)} {Fs : Nat → List Addr} {σ : St} {m : Md}
theorem Md.fresh {as : List Addr} (S : Sta H0 F0 env Fs σ H) (nd : as.Nodup) (n : ∀ a ∈ as, H a = none) : m.ok H Fs as := by
  cases m with
  | any => trivial
  | sh => exact fun a ha j => S.new (n a ha) j
  | mv T => exact ⟨nd, fun a ha => .inl (n a ha)⟩
theorem Md.nil : m.ok H Fs [] := by
  cases m with
  | any => trivial
  | sh => exact fun a ha => absurd ha (by simp)
  | mv T => exact ⟨List.nodup_nil, fun a ha => absurd ha (by simp)⟩
theorem Md.sub {as bs : List Addr} (h : m.ok H Fs as) (s : bs.Sublist as) : m.ok H Fs bs := by
  cases m with
  | any => trivial
  | sh => exact fun a ha => h a (s.subset ha)
  | mv T => exact ⟨h.1.sublist s, fun a ha => h.2 a (s.subset ha)⟩
/-- two parts, one behind the other -/
theorem Md.two {as bs : List Addr} (hm : m.seq) (s : Same H H') (h1 : m.ok H Fs as) (h2 : m.ok H' Fs bs) (hd : ∀ a ∈ as, H' a ≠ none) : m.ok H Fs (as ++ bs) := by
  match m, hm with
  | .any, _ => trivial
  | .sh, _ =>
    intro a ha
    rcases List.mem_append.mp ha with z | z
    · exact h1 a z
    · exact h2 a z
  | .mv [], _ =>
    have n1 : ∀ a ∈ as, H a = none := fun a ha => (h1.2 a ha).elim id fun ⟨j, z, _⟩ => absurd z (by simp)
    have n2 : ∀ a ∈ bs, H' a = none := fun a ha => (h2.2 a ha).elim id fun ⟨j, z, _⟩ => absurd z (by simp)
    refine ⟨List.nodup_append.mpr ⟨h1.1, h2.1, fun a ha b hb e => ?_⟩, fun a ha => .inl ?_⟩
    · subst e
      exact hd a ha (n2 a hb)
    · rcases List.mem_append.mp ha with z | z
      · exact n1 a z
      · exact s.free (n2 a z)
/-- the part comes later -/
theorem Md.later {as : List Addr} (s : Same H H') (h : m.ok H' Fs as) : m.ok H Fs as := by
  cases m with
  | any => trivial
  | sh => exact h
  | mv T => exact ⟨h.1, fun a ha => (h.2 a ha).imp (fun z => s.free z) id⟩
end

section
variable {c : Ct}
def WE (m : Md) (env : List (Ent c)) (t : TE) {α : Type} [Rp c α] (R : α → Prop) : Prop :=
  ∀ ⦃H0 : Hp⦄ ⦃F0 : List Addr⦄ ⦃Fs : Nat → List Addr⦄ ⦃σ : St⦄ ⦃H : Hp⦄, Sta H0 F0 env Fs σ H → ∀ Q : VK, (∀ x v H' as, R x → Same H H' → tree c H' v x as → m.ok H Fs as → Q v H') → t σ H Q
def WT (env : List (Ent c)) (t : TT) (R : Bool → Prop) : Prop :=
  ∀ ⦃H0 : Hp⦄ ⦃F0 : List Addr⦄ ⦃Fs : Nat → List Addr⦄ ⦃σ : St⦄ ⦃H : Hp⦄, Sta H0 F0 env Fs σ H → ∀ Q : Bool → Hp → Prop, (∀ b H', R b → Same H H' → Q b H') → t σ H Q
def WO (env : List (Ent c)) (t : TO) (R : Option Int → Prop) : Prop :=
  ∀ ⦃H0 : Hp⦄ ⦃F0 : List Addr⦄ ⦃Fs : Nat → List Addr⦄ ⦃σ : St⦄ ⦃H : Hp⦄, Sta H0 F0 env Fs σ H → ∀ Q : Option Int → Hp → Prop, (∀ b H', R b → Same H H' → Q b H') → t σ H Q
/-- items of one type -/
def WL (m : Md) (env : List (Ent c)) (t : TA) {α : Type} [Rp c α] (R : List α → Prop) : Prop :=
  ∀ ⦃H0 : Hp⦄ ⦃F0 : List Addr⦄ ⦃Fs : Nat → List Addr⦄ ⦃σ : St⦄ ⦃H : Hp⦄, Sta H0 F0 env Fs σ H → ∀ Q : List V → Hp → Prop, (∀ xs vs H' as, R xs → Same H H' → Trees c H' vs xs as → m.ok H Fs as → Q vs H') → t σ H Q
/-- arguments -/
def Args (H : Hp) : List V → List (Ent c) → Prop
  | [], [] => True
  | v :: vs, @Ent.en _ _ α inst x :: es => (∃ as, @Rp.tree c α inst H v x as) ∧ Args H vs es
  | _, _ => False
def WA (env : List (Ent c)) (t : TA) (R : List (Ent c) → Prop) : Prop :=
  ∀ ⦃H0 : Hp⦄ ⦃F0 : List Addr⦄ ⦃Fs : Nat → List Addr⦄ ⦃σ : St⦄ ⦃H : Hp⦄, Sta H0 F0 env Fs σ H → ∀ Q : List V → Hp → Prop, (∀ es vs H', R es → Same H H' → Args H' vs es → Q vs H') → t σ H Q
variable {env : List (Ent c)} {m : Md} {ta tb td te : TE} {α β γ : Type} [Rp c α] [Rp c β] [Rp c γ]
theorem we_flat [Flat c α] {R : α → Prop} (h : WE .any env te R) : WE m env te R := fun _ _ _ _ _ S Q q => h S Q fun x v H' as r s t _ => by
  have := Flat.flat t; subst this
  exact q x v H' [] r s t Md.nil
/-! names, constants -/
theorem we_var {i : Nat} {o : Bool} {x : α} {R : α → Prop} (h : env[i]? = some (.en o x)) (q : R x) : WE .any env (tVar i) R := fun _ _ _ _ _ S Q k => by
  obtain ⟨v, as, e, t⟩ := S.var h
  exact ⟨v, e, k x v _ as q (Same.refl _) t trivial⟩
theorem we_varF [Flat c α] {i : Nat} {o : Bool} {x : α} {R : α → Prop} (h : env[i]? = some (.en o x)) (q : R x) : WE m env (tVar i) R := we_flat (we_var h q)
theorem we_varS {i : Nat} {x : α} {R : α → Prop} (h : env[i]? = some (.en false x)) (q : R x) : WE .sh env (tVar i) R := fun _ _ _ _ _ S Q k => by
  obtain ⟨u, h1, _, v, as, e, t, d⟩ := S.at_ h
  exact ⟨v, by rw [h1, e], k x v _ as q (Same.refl _) t d⟩
theorem we_varM {i : Nat} {x : α} {R : α → Prop} (h : env[i]? = some (.en true x)) (q : R x) : WE (.mv [i]) env (tVar i) R := fun _ _ _ _ _ S Q k => by
  obtain ⟨u, h1, v, e, t⟩ := S.at_ h
  exact ⟨v, by rw [h1, e], k x v _ _ q (Same.refl _) t ⟨S.nd i, fun a ha => .inr ⟨i, by simp, ha⟩⟩⟩
theorem we_int {n : Int} {R : Int → Prop} (q : R n) : WE m env (tC (.int n)) R := fun _ _ _ _ _ S Q k => k n _ _ [] q (Same.refl _) ⟨rfl, rfl⟩ Md.nil
theorem we_str {n : Str} {R : Str → Prop} (q : R n) : WE m env (tC (.str n)) R := fun _ _ _ _ _ S Q k => k n _ _ [] q (Same.refl _) ⟨rfl, rfl⟩ Md.nil
theorem we_none {R : Option Int → Prop} (q : R none) : WE m env (tC .non) R := fun _ _ _ _ _ S Q k => k none _ _ [] q (Same.refl _) ⟨rfl, rfl⟩ Md.nil
theorem we_some {R : Option Int → Prop} (h : WE m env te fun n : Int => R (some n)) : WE m env te R := fun _ _ _ _ _ S Q k => h S Q fun x v H' as r s t o => k (some x) v H' as r s t o
theorem we_inl {R : α ⊕ β → Prop} (h : WE m env te fun n : α => R (.inl n)) : WE m env te R := fun _ _ _ _ _ S Q k => h S Q fun x v H' as r s t o => k (.inl x) v H' as r s t o
theorem we_inr {R : α ⊕ β → Prop} (h : WE m env te fun n : β => R (.inr n)) : WE m env te R := fun _ _ _ _ _ S Q k => h S Q fun x v H' as r s t o => k (.inr x) v H' as r s t o

/-! ints -/
theorem we_i0 {g : Int → Int → Int} {R : Int → Prop} (h : WE .any env ta fun a => WE .any env tb fun b => R (g a b)) : WE m env (tOp (rI0 fun i j => .int (g i j)) ta tb) R :=
  fun _ _ _ _ _ S Q k => h S _ fun a v H1 as ra s1 t1 _ => ra (S.same s1) _ fun b u H2 bs rb s2 t2 _ => ⟨a, b, t1.1, t2.1, k _ _ _ [] rb (s1.trans s2) ⟨rfl, rfl⟩ Md.nil⟩
theorem we_add {R : Int → Prop} (h : WE .any env ta fun a => WE .any env tb fun b => R (a + b)) : WE m env (tOp (rI0 fun i j => .int (i + j)) ta tb) R := we_i0 h
theorem we_sub {R : Int → Prop} (h : WE .any env ta fun a => WE .any env tb fun b => R (a - b)) : WE m env (tOp (rI0 fun i j => .int (i - j)) ta tb) R := we_i0 h
theorem we_iC {C : Int → Int → Prop} {g : Int → Int → Int} {R : Int → Prop} (h : WE .any env ta fun a => WE .any env tb fun b => C a b ∧ R (g a b)) : WE m env (tOp (rI C fun i j => .int (g i j)) ta tb) R :=
  fun _ _ _ _ _ S Q k => h S _ fun a v H1 as ra s1 t1 _ => ra (S.same s1) _ fun b u H2 bs rb s2 t2 _ => ⟨a, b, t1.1, t2.1, rb.1, k _ _ _ [] rb.2 (s1.trans s2) ⟨rfl, rfl⟩ Md.nil⟩
theorem we_iB {g : Int → Int → Bool} {R : Bool → Prop} (h : WE .any env ta fun a => WE .any env tb fun b => R (g a b)) : WE m env (tOp (rI0 fun i j => .bl (g i j)) ta tb) R :=
  fun _ _ _ _ _ S Q k => h S _ fun a v H1 as ra s1 t1 _ => ra (S.same s1) _ fun b u H2 bs rb s2 t2 _ => ⟨a, b, t1.1, t2.1, k _ _ _ [] rb (s1.trans s2) ⟨rfl, rfl⟩ Md.nil⟩
theorem we_neg {R : Int → Prop} (h : WE .any env ta fun a => R (-a)) : WE m env (tUn (rU fun i => .int (-i)) ta) R :=
  fun _ _ _ _ _ S Q k => h S _ fun a v H1 as ra s1 t1 _ => ⟨a, t1.1, k _ _ _ [] ra s1 ⟨rfl, rfl⟩ Md.nil⟩
theorem dec_intD (a b : Int) : decide (V.int a = V.int b) = decide (a = b) := by by_cases h : a = b <;> simp [h]
theorem dec_strD (a b : Str) : decide (V.str a = V.str b) = decide (a = b) := by by_cases h : a = b <;> simp [h]
theorem we_eqI {R : Bool → Prop} (h : WE .any env ta fun a : Int => WE .any env tb fun b : Int => R (decide (a = b))) : WE m env (tOp rEq ta tb) R :=
  fun _ _ _ _ _ S Q k => h S _ fun a v H1 as ra s1 t1 _ => ra (S.same s1) _ fun b u H2 bs rb s2 t2 _ => by
    rw [t1.1, t2.1]
    refine ⟨rfl, ?_⟩
    rw [dec_intD]
    exact k _ _ _ [] rb (s1.trans s2) ⟨rfl, rfl⟩ Md.nil
theorem we_neI {R : Bool → Prop} (h : WE .any env ta fun a : Int => WE .any env tb fun b : Int => R (!decide (a = b))) : WE m env (tOp rNe ta tb) R :=
  fun _ _ _ _ _ S Q k => h S _ fun a v H1 as ra s1 t1 _ => ra (S.same s1) _ fun b u H2 bs rb s2 t2 _ => by
    rw [t1.1, t2.1]
    refine ⟨rfl, ?_⟩
    rw [dec_intD]
    exact k _ _ _ [] rb (s1.trans s2) ⟨rfl, rfl⟩ Md.nil
theorem we_eqS {R : Bool → Prop} (h : WE .any env ta fun a : Str => WE .any env tb fun b : Str => R (decide (a = b))) : WE m env (tOp rEq ta tb) R :=
  fun _ _ _ _ _ S Q k => h S _ fun a v H1 as ra s1 t1 _ => ra (S.same s1) _ fun b u H2 bs rb s2 t2 _ => by
    rw [t1.1, t2.1]
    refine ⟨rfl, ?_⟩
    rw [dec_strD]
    exact k _ _ _ [] rb (s1.trans s2) ⟨rfl, rfl⟩ Md.nil
/-- is None, is not None -/
theorem dec_non (x : Option Int) : decide (optV x = V.non) = x.isNone := by cases x <;> simp [optV]
theorem we_notN {R : Bool → Prop} (h : WE .any env ta fun a : Option Int => R (!a.isNone)) : WE m env (tOp (fun x y H Q => y = .non ∧ Q (.bl (!decide (x = .non))) H) ta (tC .non)) R :=
  fun _ _ _ _ _ S Q k => h S _ fun a v H1 as ra s1 t1 _ => by
    refine ⟨rfl, ?_⟩
    rw [t1.1, dec_non]
    exact k _ _ _ [] ra s1 ⟨rfl, rfl⟩ Md.nil
/-! tests -/
theorem wt_test {R : Bool → Prop} (h : WE .any env te R) : WT env (tTest te) R := fun _ _ _ _ _ S Q k => h S _ fun b v H1 as r s t _ => ⟨b, t.1, k b H1 r s⟩
theorem wt_val {R : Bool → Prop} (h : WE .any env te R) : WT env (tB te) R := fun _ _ _ _ _ S Q k => h S _ fun b v H1 as r s t _ => ⟨b, t.1, k b H1 r s⟩
theorem wt_and {t u : TT} {R : Bool → Prop} (h : WT env t fun b => (b = true → WT env u R) ∧ (b = false → R false)) : WT env (tAnd t u) R := fun _ _ _ _ _ S Q k => h S _ fun b H1 r s => by
  cases b with
  | true => exact iteT (r.1 rfl (S.same s) _ fun b H2 r2 s2 => k b H2 r2 (s.trans s2))
  | false => exact iteF (k false H1 (r.2 rfl) s)
theorem wt_or {t u : TT} {R : Bool → Prop} (h : WT env t fun b => (b = true → R true) ∧ (b = false → WT env u R)) : WT env (tOr t u) R := fun _ _ _ _ _ S Q k => h S _ fun b H1 r s => by
  cases b with
  | true => exact iteT (k true H1 (r.1 rfl) s)
  | false => exact iteF (r.2 rfl (S.same s) _ fun b H2 r2 s2 => k b H2 r2 (s.trans s2))
theorem wt_not {t : TT} {R : Bool → Prop} (h : WT env t fun b => R (!b)) : WT env (tNot t) R := fun _ _ _ _ _ S Q k => h S _ fun b H1 r s => k (!b) H1 r s
theorem we_and {R : Bool → Prop} (h : WE .any env ta fun b : Bool => (b = true → WE .any env tb R) ∧ (b = false → R false)) : WE m env (tAndV ta tb) R := fun _ _ _ _ _ S Q k => h S _ fun b v H1 as r s t _ => by
  refine ⟨b, t.1, ?_⟩
  cases b with
  | true => exact iteT (r.1 rfl (S.same s) _ fun b w H2 bs r2 s2 t2 _ => k b w H2 [] r2 (s.trans s2) ⟨t2.1, rfl⟩ Md.nil)
  | false => exact iteF (k false _ H1 [] (r.2 rfl) s ⟨rfl, rfl⟩ Md.nil)
theorem we_not {R : Bool → Prop} (h : WE .any env ta fun b : Bool => R (!b)) : WE m env (tNotV ta) R := fun _ _ _ _ _ S Q k => h S _ fun b v H1 as r s t _ => ⟨b, t.1, k _ _ H1 [] r s ⟨rfl, rfl⟩ Md.nil⟩
theorem we_if {t : TT} {R : α → Prop} (h : WT env t fun b => (b = true → WE m env ta R) ∧ (b = false → WE m env tb R)) : WE m env (tIf t ta tb) R := fun _ _ _ _ _ S Q k => h S _ fun b H1 r s => by
  cases b with
  | true => exact iteT (r.1 rfl (S.same s) _ fun x w H2 bs r2 s2 t2 o => k x w H2 bs r2 (s.trans s2) t2 (Md.later s o))
  | false => exact iteF (r.2 rfl (S.same s) _ fun x w H2 bs r2 s2 t2 o => k x w H2 bs r2 (s.trans s2) t2 (Md.later s o))
/-- a list's truth -/
theorem wt_truth {R : Bool → Prop} (h : WE .any env te fun xs : List α => R (!xs.isEmpty)) : WT env (fun σ H Q => te σ H fun x H' => ∃ k, TruV c.K x H' k ∧ Q k H') R := fun _ _ _ _ _ S Q k => h S _ fun xs v H1 as r s t _ => by
  obtain ⟨a, vs, as', rfl, ha, tr, rfl⟩ := t
  refine ⟨!vs.isEmpty, .inl ⟨vs, SqL.of ha, rfl⟩, k _ H1 ?_ s⟩
  have := tr.len
  cases vs <;> cases xs <;> simp_all

/-! lists -/
theorem Trees.at_ {H : Hp} {vs : List V} {xs : List α} {as : List Addr} {i : Int} {x : α} (h : Trees c H vs xs as) (e : atI xs i = some x) : ∃ v a1, atI vs i = some v ∧ tree c H v x a1 ∧ a1.Sublist as := by
  unfold atI at e ⊢
  rw [h.len]
  cases q : ixN xs.length i with
  | none => rw [q] at e; cases e
  | some j =>
    rw [q] at e
    exact h.get (i := j) e
theorem we_ix {R : α → Prop} (h : WE m env ta fun xs : List α => WE .any env tb fun i : Int => ∃ x, atI xs i = some x ∧ R x) : WE m env (tOp (rIxL c.K) ta tb) R :=
  fun _ _ _ _ _ S Q k => h S _ fun xs v H1 as ra s1 t1 o => ra (S.same s1) _ fun i u H2 bs rb s2 t2 _ => by
    obtain ⟨x, e, r⟩ := rb
    obtain ⟨a, vs, as', rfl, ha, tr, rfl⟩ := tree_same t1 s2
    obtain ⟨w, a1, e1, t3, sb⟩ := tr.at_ e
    exact ⟨a, vs, i, w, rfl, t2.1, SqL.of ha, e1, k x w H2 a1 r (s1.trans s2) t3 (Md.sub o (sb.trans (List.sublist_cons_self _ _)))⟩
/-- the script's items -/
theorem we_ixSc {R : Int → Prop} (h : WE .any env ta fun xs : Sc => WE .any env tb fun i : Int => ∃ x, atI xs.ns i = some x ∧ R x) : WE m env (tOp (rIxL c.K) ta tb) R :=
  fun _ _ _ _ _ S Q k => h S _ fun xs v H1 as ra s1 t1 o => ra (S.same s1) _ fun i u H2 bs rb s2 t2 _ => by
    obtain ⟨x, e, r⟩ := rb
    obtain ⟨a, rfl, hs, rfl⟩ := tree_same t1 s2
    exact ⟨a, _, i, .int x, rfl, t2.1, hs.sq, atI_map V.int e, k x _ H2 [] r (s1.trans s2) ⟨rfl, rfl⟩ Md.nil⟩
theorem we_fst {R : α → Prop} (h : WE m env ta fun x : α × β => R x.1) : WE m env (tOp (rIxT c.K) ta (tC (.int 0))) R := fun _ _ _ _ _ S Q k => h S _ fun x v H1 as ra s1 t1 o => by
  obtain ⟨p, v1, v2, a1, a2, rfl, hp, t1, t2, rfl⟩ := t1
  exact ⟨p, _, 0, v1, rfl, rfl, SqT.of hp, rfl, k _ _ _ a1 ra s1 t1 (Md.sub o (List.sublist_append_left _ _))⟩
theorem we_snd {R : β → Prop} (h : WE m env ta fun x : α × β => R x.2) : WE m env (tOp (rIxT c.K) ta (tC (.int 1))) R := fun _ _ _ _ _ S Q k => h S _ fun x v H1 as ra s1 t1 o => by
  obtain ⟨p, v1, v2, a1, a2, rfl, hp, t1, t2, rfl⟩ := t1
  exact ⟨p, _, 1, v2, rfl, rfl, SqT.of hp, rfl, k _ _ _ a2 ra s1 t2 (Md.sub o (List.sublist_append_right _ _))⟩
theorem we_t1 {R : α → Prop} (h : WE m env ta fun x : T3 α β γ => R x.a) : WE m env (tOp (rIxT c.K) ta (tC (.int 0))) R := fun _ _ _ _ _ S Q k => h S _ fun x v H1 as ra s1 t1 o => by
  obtain ⟨p, v1, v2, v3, a1, a2, a3, rfl, hp, t1, t2, t3, rfl⟩ := t1
  exact ⟨p, _, 0, v1, rfl, rfl, SqT.of hp, rfl, k _ _ _ a1 ra s1 t1 (Md.sub o (List.sublist_append_left _ _))⟩
theorem we_t2 {R : β → Prop} (h : WE m env ta fun x : T3 α β γ => R x.b) : WE m env (tOp (rIxT c.K) ta (tC (.int 1))) R := fun _ _ _ _ _ S Q k => h S _ fun x v H1 as ra s1 t1 o => by
  obtain ⟨p, v1, v2, v3, a1, a2, a3, rfl, hp, t1, t2, t3, rfl⟩ := t1
  exact ⟨p, _, 1, v2, rfl, rfl, SqT.of hp, rfl, k _ _ _ a2 ra s1 t2 (Md.sub o ((List.sublist_append_left _ _).trans (List.sublist_append_right _ _)))⟩
theorem we_t3 {R : γ → Prop} (h : WE m env ta fun x : T3 α β γ => R x.d) : WE m env (tOp (rIxT c.K) ta (tC (.int 2))) R := fun _ _ _ _ _ S Q k => h S _ fun x v H1 as ra s1 t1 o => by
  obtain ⟨p, v1, v2, v3, a1, a2, a3, rfl, hp, t1, t2, t3, rfl⟩ := t1
  exact ⟨p, _, 2, v3, rfl, rfl, SqT.of hp, rfl, k _ _ _ a3 ra s1 t3 (Md.sub o ((List.sublist_append_right _ _).trans (List.sublist_append_right _ _)))⟩
theorem we_len {R : Int → Prop} (h : WE .any env ta fun xs : List α => R (xs.length : Nat)) : WE m env (tCB (rLen c.K) (tCons ta tNil)) R := fun _ _ _ _ _ S Q k => h S _ fun xs v H1 as ra s1 t1 _ => by
  obtain ⟨a, vs, as', rfl, ha, tr, rfl⟩ := t1
  refine ⟨a, vs, rfl, .inl (SqL.of ha), k _ _ _ [] ra s1 ⟨?_, rfl⟩ Md.nil⟩
  rw [tr.len]
theorem we_lenSc {R : Int → Prop} (h : WE .any env ta fun xs : Sc => R (xs.ns.length : Nat)) : WE m env (tCB (rLen c.K) (tCons ta tNil)) R := fun _ _ _ _ _ S Q k => h S _ fun xs v H1 as ra s1 t1 _ => by
  obtain ⟨a, rfl, hs, rfl⟩ := t1
  refine ⟨a, _, rfl, .inl hs.sq, k _ _ _ [] ra s1 ⟨?_, rfl⟩ Md.nil⟩
  rw [List.length_map]
/-- a new list -/
theorem fresh_list {H0 H H1 : Hp} {F0 : List Addr} {Fs : Nat → List Addr} {σ : St} {Q : VK} {R : List α → Prop} (S : Sta H0 F0 env Fs σ H) (k : ∀ x v H' as, R x → Same H H' → tree c H' v x as → m.ok H Fs as → Q v H') (s : Same H H1)
    {p : Addr} (hp : H1 p = none) {vs : List V} {xs : List α} (t : Trees c H1 vs xs []) (r : R xs) : Q (.ref p) (upd H1 p (.lst vs)) := by
  have sp : Same H1 (upd H1 p (.lst vs)) := Same.new hp
  refine k xs _ _ [p] r (s.trans sp) ⟨p, vs, [], rfl, upd_same, t.same sp, rfl⟩ (Md.fresh S (nodup_one _) fun a ha => ?_)
  have : a = p := by simpa using ha
  subst this
  exact s.free hp
theorem upTo_rng (n : Nat) : upToV n = (rng n).map V.int := by unfold upToV rng; rw [List.map_map]; rfl
theorem we_listRange {R : List Int → Prop} (h : WE .any env ta fun n : Int => (0 ≤ n ∧ n ≤ 100000) ∧ R (rng n.toNat)) :
    WE m env (tCB (fun xs H Q => ∃ (p : Addr) (j : Int), xs = [.ref p] ∧ H p = some (.rng 0 j) ∧ 0 ≤ j ∧ j ≤ 100000 ∧ ∀ l, H l = none → Q (.ref l) (upd H l (.lst (upToV j.toNat))))
      (tCons (tCB (fun xs H Q => ∃ j, xs = [.int j] ∧ ∀ p, H p = none → Q (.ref p) (upd H p (.rng 0 j))) (tCons ta tNil)) tNil)) R := fun _ _ _ _ _ S Q k => h S _ fun n v H1 as ra s1 t1 _ => by
  refine ⟨n, by rw [t1.1], fun p hp => ⟨p, n, rfl, upd_same, ra.1.1, ra.1.2, fun l hl => ?_⟩⟩
  rw [upTo_rng]
  exact fresh_list S k (s1.trans (Same.new hp)) hl (trees_ints _) ra.2
theorem we_cat [Flat c α] {R : List α → Prop} (h : WE .any env ta fun xs : List α => WE .any env tb fun ys : List α => xs.length + ys.length ≤ 1000 ∧ R (xs ++ ys)) : WE m env (tOp rCat ta tb) R :=
  fun _ _ _ _ _ S Q k => h S _ fun xs v H1 as ra s1 t1 _ => ra (S.same s1) _ fun ys u H2 bs rb s2 t2 _ => by
    obtain ⟨a, vs, as', rfl, ha, tr, rfl⟩ := tree_same t1 s2
    obtain ⟨b, ws, bs', rfl, hb, tr2, rfl⟩ := t2
    have := tr.flat; subst this
    have := tr2.flat; subst this
    refine ⟨a, b, vs, ws, rfl, rfl, ha, hb, ?_, fun p hp => fresh_list S k (s1.trans s2) hp (tr.append tr2) rb.2⟩
    rw [tr.len, tr2.len]
    exact Nat.le_of_lt (small1000 rb.1)
def cutL {α : Type} (xs : List α) (lo hi : Option Int) : List α := (xs.drop (HT.sIx xs.length 0 lo)).take (HT.sIx xs.length xs.length hi - HT.sIx xs.length 0 lo)
theorem wo_none {R : Option Int → Prop} (q : R none) : WO env tNoPart R := fun _ _ _ _ _ S Q k => k none _ q (Same.refl _)
theorem wo_some {R : Option Int → Prop} (h : WE .any env te fun n : Int => R (some n)) : WO env (tPart te) R := fun _ _ _ _ _ S Q k => h S _ fun x v H' as r s t _ => ⟨x, t.1, k _ _ r s⟩
theorem we_slice [Flat c α] {tl th : TO} {R : List α → Prop} (h : WE .any env ta fun xs : List α => WO env tl fun lo => WO env th fun hi => R (cutL xs lo hi)) : WE m env (tSl (rSlL c.K) ta tl th) R :=
  fun _ _ _ _ _ S Q k => h S _ fun xs v H1 as ra s1 t1 _ => ra (S.same s1) _ fun lo H2 rb s2 => rb (S.same (s1.trans s2)) _ fun hi H3 rd s3 => by
    obtain ⟨a, vs, as', rfl, ha, tr, rfl⟩ := tree_same t1 (s2.trans s3)
    refine ⟨a, vs, rfl, SqL.of ha, fun p hp => ?_⟩
    have e : Trees c H3 (cutV vs lo hi) (cutL xs lo hi) [] := by
      unfold cutV cutL
      rw [tr.len]
      exact (tr.drop _).take _
    exact fresh_list S k ((s1.trans s2).trans s3) hp e rd
theorem we_min {R : Int → Prop} (h : WE .any env ta fun i => WE .any env tb fun j => R (if j < i then j else i)) : WE m env (tCB (fun xs H Q => ∃ i j, xs = [.int i, .int j] ∧ Q (.int (if j < i then j else i)) H) (tCons ta (tCons tb tNil))) R :=
  fun _ _ _ _ _ S Q k => h S _ fun a v H1 as ra s1 t1 _ => ra (S.same s1) _ fun b u H2 bs rb s2 t2 _ => ⟨a, b, by rw [t1.1, t2.1], k _ _ _ [] rb (s1.trans s2) ⟨rfl, rfl⟩ Md.nil⟩
theorem we_max {R : Int → Prop} (h : WE .any env ta fun i => WE .any env tb fun j => R (if j > i then j else i)) : WE m env (tCB (fun xs H Q => ∃ i j, xs = [.int i, .int j] ∧ Q (.int (if j > i then j else i)) H) (tCons ta (tCons tb tNil))) R :=
  fun _ _ _ _ _ S Q k => h S _ fun a v H1 as ra s1 t1 _ => ra (S.same s1) _ fun b u H2 bs rb s2 t2 _ => ⟨a, b, by rw [t1.1, t2.1], k _ _ _ [] rb (s1.trans s2) ⟨rfl, rfl⟩ Md.nil⟩
theorem we_index {R : Int → Prop} (h : WE .any env ta fun xs : List Int => WE .any env tb fun n : Int => n ∈ xs ∧ R (xs.idxOf n : Nat)) : WE m env (tBM c.K "list" (rIndexI c.K) ta (tCons tb tNil)) R :=
  fun _ _ _ _ _ S Q k => h S _ fun xs v H1 as ra s1 t1 _ => by
    obtain ⟨a, vs, as', rfl, ha, tr, rfl⟩ := t1
    refine ⟨.inl ⟨rfl, _, SqL.of ha⟩, ra (S.same s1) _ fun n u H2 bs rb s2 t2 _ => ?_⟩
    have ha2 := s2 _ _ ha
    rw [tr.ints] at ha2
    exact ⟨a, xs, n, rfl, by rw [t2.1], SqL.of ha2, rb.1, k _ _ _ [] rb.2 (s1.trans s2) ⟨rfl, rfl⟩ Md.nil⟩
theorem inV_int (n : Int) : ∀ xs : List Int, inV (.int n) (xs.map V.int) = decide (n ∈ xs)
  | [] => rfl
  | x :: xs => by
    have ih := inV_int n xs
    unfold inV at ih ⊢
    rw [List.map_cons, List.any_cons, ih]
    show ((x == n) || _) = _
    by_cases h : x = n
    · subst h; simp
    · have : (x == n) = false := beq_eq_false_iff_ne.mpr h
      simp [this, Ne.symm h]
theorem flat_ints : ∀ xs : List Int, (xs.map V.int).all flatV = true
  | [] => rfl
  | x :: xs => by rw [List.map_cons, List.all_cons, flat_ints xs]; rfl
theorem we_in {R : Bool → Prop} (h : WE .any env ta fun n : Int => WE .any env tb fun xs : List Int => R (decide (n ∈ xs))) : WE m env (tOp (rIn c.K false) ta tb) R :=
  fun _ _ _ _ _ S Q k => h S _ fun a v H1 as ra s1 t1 _ => ra (S.same s1) _ fun xs u H2 bs rb s2 t2 _ => by
    obtain ⟨p, vs, as', rfl, hp, tr, rfl⟩ := t2
    rw [t1.1]
    refine ⟨p, vs, rfl, .inl (SqL.of hp), rfl, by rw [tr.ints]; exact flat_ints _, ?_⟩
    rw [tr.ints]
    refine k _ _ _ [] rb (s1.trans s2) ⟨?_, rfl⟩ Md.nil
    rw [if_neg Bool.false_ne_true, inV_int]
/-! displays -/
theorem we_tup {R : α × β → Prop} (h : WE m env ta fun a => WE m env tb fun b => R (a, b)) (hm : m.seq) : WE m env (tTup (tCons ta (tCons tb tNil))) R :=
  fun _ _ _ _ _ S Q k => h S _ fun a v H1 as ra s1 t1 o1 => ra (S.same s1) _ fun b u H2 bs rb s2 t2 o2 => by
    refine ⟨by show 2 ≤ sizeLine; decide, fun p hp => ?_⟩
    have sp : Same H2 (upd H2 p (.tup [v, u])) := Same.new hp
    exact k (a, b) _ _ (as ++ bs) rb ((s1.trans s2).trans sp) ⟨p, v, u, as, bs, rfl, upd_same, tree_same t1 (s2.trans sp), tree_same t2 sp, rfl⟩ (Md.two hm s1 o1 o2 fun d hd => tree_dom t1 hd)
/-- a pair with a name's own data in front -/
theorem we_tupM {i : Nat} {x : α} {R : α × β → Prop} (hi : env[i]? = some (.en true x)) (h : WE .fr env tb fun b => R (x, b)) : WE (.mv [i]) env (tTup (tCons (tVar i) (tCons tb tNil))) R := fun H0 F0 Fs σ H S Q k => by
  obtain ⟨u, h1, v, e, t⟩ := S.at_ hi
  refine ⟨v, by rw [h1, e], h S _ fun b u H2 bs rb s2 t2 o2 => ⟨by show 2 ≤ sizeLine; decide, fun p hp => ?_⟩⟩
  have sp : Same H2 (upd H2 p (.tup [v, u])) := Same.new hp
  refine k (x, b) _ _ (Fs i ++ bs) rb (s2.trans sp) ⟨p, v, u, _, bs, rfl, upd_same, tree_same t (s2.trans sp), tree_same t2 sp, rfl⟩ ⟨?_, fun a ha => ?_⟩
  · refine List.nodup_append.mpr ⟨S.nd i, o2.1, fun a ha b hb e => ?_⟩
    subst e
    rcases o2.2 a hb with z | ⟨j, z, _⟩
    · exact tree_dom t ha z
    · simp at z
  · rcases List.mem_append.mp ha with z | z
    · exact .inr ⟨i, by simp, z⟩
    · rcases o2.2 a z with q | ⟨j, q, _⟩
      · exact .inl q
      · simp at q
/-- a pair with a name's own data behind -/
theorem we_tupM2 {i : Nat} {x : β} {R : α × β → Prop} [Flat c α] (hi : env[i]? = some (.en true x)) (h : WE .any env ta fun a => R (a, x)) : WE (.mv [i]) env (tTup (tCons ta (tCons (tVar i) tNil))) R := fun H0 F0 Fs σ H S Q k => by
  refine h S _ fun a v H1 as ra s1 t1 _ => ?_
  obtain ⟨u, h1, w, e, t⟩ := (S.same s1).at_ hi
  have := Flat.flat t1; subst this
  refine ⟨w, by rw [h1, e], by show 2 ≤ sizeLine; decide, fun p hp => ?_⟩
  have sp : Same H1 (upd H1 p (.tup [v, w])) := Same.new hp
  exact k (a, x) _ _ ([] ++ Fs i) ra (s1.trans sp) ⟨p, v, w, [], _, rfl, upd_same, tree_same t1 sp, tree_same t sp, rfl⟩ ⟨S.nd i, fun a ha => .inr ⟨i, by simp, ha⟩⟩
theorem wl_nil {R : List α → Prop} (q : R []) : WL m env tNil R := fun _ _ _ _ _ S Q k => k [] [] _ [] q (Same.refl _) rfl Md.nil
theorem wl_cons {t : TA} {R : List α → Prop} (h : WE m env ta fun x => WL m env t fun xs => R (x :: xs)) (hm : m.seq) : WL m env (tCons ta t) R :=
  fun _ _ _ _ _ S Q k => h S _ fun a v H1 as ra s1 t1 o1 => ra (S.same s1) _ fun xs vs H2 bs rb s2 t2 o2 => k (a :: xs) _ _ (as ++ bs) rb (s1.trans s2) ⟨as, bs, tree_same t1 s2, t2, rfl⟩ (Md.two hm s1 o1 o2 fun d hd => tree_dom t1 hd)
theorem Md.cons {H H1 : Hp} {Fs : Nat → List Addr} {as : List Addr} {p : Addr} (hm : m.seq) (hd : ∀ a ∈ as, H1 a ≠ none) (s : Same H H1) (hp : H1 p = none) (hn : ∀ j, p ∉ Fs j) (h : m.ok H Fs as) : m.ok H Fs (p :: as) := by
  cases m with
  | any => trivial
  | sh =>
    intro a ha
    rcases List.mem_cons.mp ha with z | z
    · subst z; exact hn
    · exact h a z
  | mv T =>
    refine ⟨List.nodup_cons.mpr ⟨fun z => hd p z hp, h.1⟩, fun a ha => ?_⟩
    rcases List.mem_cons.mp ha with z | z
    · subst z; exact .inl (s.free hp)
    · exact h.2 a z
theorem we_lst {t : TA} {R : List α → Prop} (h : WL m env t fun xs => xs.length ≤ 1000 ∧ R xs) (hm : m.seq) : WE m env (tLst t) R := fun _ _ _ _ _ S Q k => h S _ fun xs vs H1 as ra s1 t1 o1 => by
  refine ⟨by rw [t1.len]; exact Nat.le_of_lt (small1000 ra.1), fun p hp => ?_⟩
  have sp : Same H1 (upd H1 p (.lst vs)) := Same.new hp
  exact k xs _ _ (p :: as) ra.2 (s1.trans sp) ⟨p, vs, as, rfl, upd_same, t1.same sp, rfl⟩ (Md.cons hm (fun a ha z => by obtain ⟨ys, e, _⟩ := t1.isl a ha; rw [z] at e; cases e) s1 hp (fun j => (S.same s1).new hp j) o1)
theorem we_nil {R : List α → Prop} (q : R []) : WE m env (tLst tNil) R := fun _ _ _ _ _ S Q k => ⟨Nat.zero_le _, fun p hp => fresh_list S k (Same.refl _) hp (xs := []) rfl q⟩
/-! a net's fields -/
theorem we_size {R : Int → Prop} (hc : Cls c.K c.C) (hn : NoAttr c.K c.C "size") (h : WE .any env ta fun N : NetD => R N.n) : WE m env (tFld c.K ta "size") R := fun _ _ _ _ _ S Q k => h S _ fun N v H1 as ra s1 t1 o => by
  obtain ⟨p, r, rfl, N, rfl⟩ := t1
  obtain ⟨dx, hp⟩ := N.ob
  exact ⟨p, _, dx, _, _, rfl, hp, hc, hn, flds_size _ _, k _ _ _ [] ra s1 ⟨rfl, rfl⟩ Md.nil⟩
theorem we_roads {R : List (Int × Int) → Prop} (hc : Cls c.K c.C) (hn : NoAttr c.K c.C "roads") (h : WE m env ta fun N : NetD => R N.rs) : WE m env (tFld c.K ta "roads") R := fun _ _ _ _ _ S Q k => h S _ fun N v H1 as ra s1 t1 o => by
  obtain ⟨p, r, rfl, N, rfl⟩ := t1
  obtain ⟨dx, hp⟩ := N.ob
  exact ⟨p, _, dx, _, _, rfl, hp, hc, hn, flds_roads _ _, k _ _ _ [r] ra s1 (tree_roads N.rd) o⟩
/-! calls -/
theorem wa_nil {R : List (Ent c) → Prop} (q : R []) : WA env tNil R := fun _ _ _ _ _ S Q k => k [] [] _ q (Same.refl _) trivial
theorem wa_cons {t : TA} {R : List (Ent c) → Prop} (h : WE .any env ta fun x : α => WA env t fun es => R (.sh x :: es)) : WA env (tCons ta t) R :=
  fun _ _ _ _ _ S Q k => h S _ fun a v H1 as ra s1 t1 _ => ra (S.same s1) _ fun es vs H2 rb s2 t2 => k (.sh a :: es) _ _ rb (s1.trans s2) ⟨⟨as, tree_same t1 s2⟩, t2⟩
/-- a def's promise over data: what it asks of the arguments and what comes; nothing is changed, what comes is new -/
def spF (c : Ct) {β : Type} [Rp c β] (pre : List (Ent c) → (β → Prop) → Prop) : Sp := fun vs H Q _ => ∃ es R, pre es R ∧ Args H vs es ∧ ∀ x v H' as, R x → Same H H' → tree c H' v x as → as.Nodup → (∀ a ∈ as, H a = none) → Q v H'
theorem we_call {pre : List (Ent c) → (β → Prop) → Prop} {E : XK} {t : TA} {R : β → Prop} (h : WA env t fun es => pre es R) : WE m env (tCall (spF c pre) [] E t) R := fun _ _ _ _ _ S Q k => h S _ fun es vs H1 r s a => by
  rw [List.append_nil]
  exact ⟨es, R, r, a, fun x v H' as rx s2 t nd n => k x v H' as rx (s.trans s2) t (Md.fresh S nd fun d hd => s.free (n d hd))⟩
theorem we_meth {pre : List (Ent c) → (β → Prop) → Prop} {E : XK} {t : TA} {f : Str} {R : β → Prop} (h1 : ¬ f = "roads") (h2 : ¬ f = "size") (h : WE .any env ta fun N : NetD => WA env t fun es => pre (.sh N :: es) R) : WE m env (tMeth c.C f (spF c pre) [] E ta t) R :=
  fun _ _ _ _ _ S Q k => h S _ fun N v H1 as ra s1 t1 _ => by
    obtain ⟨p, r, rfl, hN, rfl⟩ := id t1
    obtain ⟨dx, hp⟩ := hN.ob
    refine ⟨p, dx, _, rfl, hp, flds_no _ _ h1 h2, ra (S.same s1) _ fun es vs H2 r s a => ?_⟩
    rw [List.append_nil]
    exact ⟨_, R, r, ⟨⟨_, tree_same t1 s⟩, a⟩, fun x v H' as rx s2 t nd n => k x v H' as rx ((s1.trans s).trans s2) t (Md.fresh S nd fun d hd => (s1.trans s).free (n d hd))⟩
theorem we_net {E : XK} {R : NetD → Prop} (h : WE .any env ta fun n : Int => (1 ≤ n ∧ n ≤ 8) ∧ R ⟨n, []⟩) : WE m env (tMake c.C (sp_netinit c.C) [] E (tCons ta tNil)) R := fun _ _ _ _ _ S Q k => h S _ fun n v H1 as ra s1 t1 _ => by
  intro x dx nx ndx nex
  have s0 : Same H1 (upd (upd H1 dx (.own x)) x (.ins c.C dx [])) := fun b o e => by
    rw [upd_ne (ne_of_none e nx), upd_ne (ne_of_none e ndx)]
    exact e
  refine ⟨x, dx, n, by rw [t1.1]; rfl, upd_same, ra.1, fun r H2 hr0 N1 kp => ⟨rfl, ?_⟩⟩
  have s2 : Same H1 H2 := fun b o e => kp b o (s0 b o e) (ne_of_none e nx)
  refine k ⟨n, []⟩ _ H2 [r] ra.2 (s1.trans s2) ⟨x, r, rfl, N1, rfl⟩ (Md.fresh S (nodup_one _) fun a ha => ?_)
  have : a = r := by simpa using ha
  subst this
  exact s1.free (s0.free hr0)
end
end L2

set_option Elab.async false
set_option linter.all false
set_option maxRecDepth 100000
set_option maxHeartbeats 4000000
/-! Own rules, part 7: comprehensions, statements and loops over data. -/
namespace L2
open PySem PySem.Spec PyProof.Rows
section
variable {c : Ct}
/-! ### the block of a comprehension -/
def Ent.bor : Ent c → Ent c
  | .no => .no
  | @Ent.en _ _ α inst x => @Ent.en _ false α inst x
def capE (n : Nat) (caps : List Nat) (env : List (Ent c)) : List (Ent c) := List.replicate n .no ++ caps.map fun j => ((env[j]?).map Ent.bor).getD .no
theorem Sta.cap {H0 H : Hp} {F0 : List Addr} {env : List (Ent c)} {Fs : Nat → List Addr} {σ : St} (S : Sta H0 F0 env Fs σ H) (n : Nat) (caps : List Nat) : Sta H [] (capE n caps env) (fun _ => []) (capSt n caps σ) H := by
  refine ⟨by unfold capE capSt; simp, fun i u e h1 h2 => ?_, fun _ _ => rfl, fun _ => List.nodup_nil, fun _ _ _ a ha => absurd ha (by simp), fun _ a ha => absurd ha (by simp), Kp.refl _⟩
  unfold capE at h2
  unfold capSt at h1
  by_cases hi : i < n
  · rw [List.getElem?_append_left (by rw [List.length_replicate]; exact hi), List.getElem?_replicate, if_pos hi] at h2
    cases h2
    exact rfl
  · rw [List.getElem?_append_right (by rw [List.length_replicate]; omega), List.length_replicate, List.getElem?_map] at h1 h2
    cases hj : caps[i - n]? with
    | none => rw [hj] at h2; cases h2
    | some j =>
      rw [hj] at h1 h2
      have e1 : (σ[j]?).join = u := Option.some.inj h1
      have e2 : ((env[j]?).map Ent.bor).getD .no = e := Option.some.inj h2
      cases q : env[j]? with
      | none => rw [q] at e2; subst e2; exact rfl
      | some e' =>
        rw [q] at e2
        cases e' with
        | no => subst e2; exact rfl
        | en o x =>
          have e3 : Ent.en false x = e := e2
          subst e3
          obtain ⟨v, as, hv, t⟩ := S.var q
          rw [hv] at e1
          exact ⟨rfl, v, as, e1.symm, t, fun _ _ _ z => absurd z (by simp)⟩
theorem Sta.set' {α : Type} [Rp c α] {x : α} {v : V} {as : List Addr} {H0 H : Hp} {F0 : List Addr} {env : List (Ent c)} {Fs : Nat → List Addr} {σ : St} (S : Sta H0 F0 env Fs σ H) (i : Nat) (t : tree c H v x as) (d : ∀ a ∈ as, ∀ j, a ∉ Fs j) :
    ∃ Fs', Sta H0 F0 (env.set i (.sh x)) Fs' (σ.set i (some v)) H ∧ ∀ a j, a ∈ Fs' j → a ∈ Fs j := by
  by_cases hi : i < env.length
  · refine ⟨_, S.setS hi t fun a ha j _ => d a ha j, fun a j ha => ?_⟩
    by_cases hj : j = i
    · subst hj; rw [putF_same] at ha; simp at ha
    · rw [putF_ne hj] at ha; exact ha
  · refine ⟨Fs, ?_, fun _ _ z => z⟩
    rw [List.set_eq_of_length_le (by omega), List.set_eq_of_length_le (by rw [S.len]; omega)]
    exact S
/-- where the items come from: B i is the block's state at item i -/
def Src (n : Nat) (caps : List Nat) (g : TG) (σ : St) (H1 : Hp) (J : It) (N : Nat) (B : Nat → List (Ent c)) : Prop :=
  ∀ H2, Same H1 H2 → (∀ i, i < N → J.go i H2 ∧ ∀ x H', J.yld i H2 x H' → Same H2 H' ∧ ∃ σ2 Fs, Sta H' [] (B i) Fs σ2 H' ∧ ∀ P : St → Hp → Prop, P σ2 H' → g x (capSt n caps σ) H' P) ∧ J.stop N H2
theorem comp_src {β : Type} [Rp c β] {n : Nat} {caps : List Nat} {g : TG} {σ : St} {H1 : Hp} {J : It} {N : Nat} {B : Nat → List (Ent c)} {tc : TT} {te : TE} {D : Addr} (src : Src n caps g σ H1 J N B) (hD : H1 D = none) (hN : N ≤ 1000) (G : Nat → List β → Prop) (g0 : G 0 [])
    (gs : ∀ k ys, k < N → G k ys → WT (B k) tc fun b => (b = true → WE .fr (B k) te fun y => G (k + 1) (ys ++ [y])) ∧ (b = false → G (k + 1) ys)) {Rf : Hp → Prop}
    (fin : ∀ ys vs H' as, G N ys → Same H1 H' → H' D = some (.lst vs) → Trees c H' vs ys as → as.Nodup → (∀ a ∈ as, H1 a = none ∧ a ≠ D) → Rf H') :
    ∃ W : Nat → Nat → List V → Hp → Prop, (∃ m, W 0 m [] (upd H1 D (.lst []))) ∧ ∀ i m ys H, W i m ys H →
      (J.stop i H ∧ Rf H) ∨ (J.go i H ∧ ∃ N : List V → Hp → Prop, (∀ ys' H', N ys' H' → ∃ m', m' < m ∧ W (i + 1) m' ys' H') ∧ ∀ x H', J.yld i H x H' →
        g x (capSt n caps σ) H' fun σ2 H2 => tc σ2 H2 fun b H3 => if b = true then te σ2 H3 fun y H4 => H4 D = some (.lst ys) ∧ ys.length < sizeLine ∧ N (ys ++ [y]) (upd H4 D (.lst (ys ++ [y]))) else N ys H3) := by
  refine comp_by N (fun i vs H2 => ∃ ys as, G i ys ∧ i ≤ N ∧ ys.length ≤ i ∧ Same H1 H2 ∧ H2 D = some (.lst vs) ∧ Trees c H2 vs ys as ∧ as.Nodup ∧ ∀ a ∈ as, H1 a = none ∧ a ≠ D) ?_ ?_ ?_
  · exact ⟨[], [], g0, Nat.zero_le _, Nat.zero_le _, Same.new hD, upd_same, rfl, List.nodup_nil, fun a ha => absurd ha (by simp)⟩
  · rintro i vs H2 hi ⟨ys, as, hG, hiN, hl, s2, hD2, tr, nd, fa⟩
    obtain ⟨go, yl⟩ := (src H2 s2).1 i hi
    refine ⟨go, fun x H' y => ?_⟩
    obtain ⟨s3, σ2, Fs, S, hg⟩ := yl x H' y
    refine hg _ (gs i ys hi hG S _ fun b H3 r s4 => ?_)
    cases b with
    | false =>
      refine iteF ⟨ys, as, r.2 rfl, hi, by omega, (s2.trans s3).trans s4, s4 _ _ (s3 _ _ hD2), tr.same (s3.trans s4), nd, fa⟩
    | true =>
      refine iteT (r.1 rfl (S.same s4) _ fun y v H4 bs r2 s5 t5 o5 => ?_)
      have hD4 := s5 _ _ (s4 _ _ (s3 _ _ hD2))
      have n3 : ∀ a ∈ bs, H3 a = none := fun a ha => (o5.2 a ha).elim id fun ⟨j, z, _⟩ => absurd z (by simp)
      have sAll : Same H1 H4 := ((s2.trans s3).trans s4).trans s5
      have ne : ∀ a ∈ bs, a ≠ D := fun a ha e => by
        have := n3 a ha
        rw [e, s4 _ _ (s3 _ _ hD2)] at this
        cases this
      have kp : Kp [D] H4 (upd H4 D (.lst (vs ++ [v]))) := Kp.put hD4
      refine ⟨hD4, by rw [tr.len]; exact small1000 (by omega), ys ++ [y], as ++ bs, r2, hi, by rw [List.length_append]; simp; omega, sAll.put hD, upd_same, ?_, ?_, ?_⟩
      · refine Trees.snoc ((tr.same ((s3.trans s4).trans s5)).kp kp fun a ha => ?_) (tree_kp t5 kp fun a ha => ?_)
        · simpa using (fa a ha).2
        · simpa using ne a ha
      · refine List.nodup_append.mpr ⟨nd, o5.1, fun a ha b hb e => ?_⟩
        subst e
        obtain ⟨zs, hz, _⟩ := tr.isl a ha
        have := n3 a hb
        rw [s4 _ _ (s3 _ _ hz)] at this
        cases this
      · intro a ha
        rcases List.mem_append.mp ha with z | z
        · exact fa a z
        · exact ⟨((s2.trans s3).trans s4).free (n3 a z), ne a z⟩
  · rintro vs H2 ⟨ys, as, hG, _, hl, s2, hD2, tr, nd, fa⟩
    exact ⟨(src H2 s2).2, fin ys vs H2 as hG s2 hD2 tr nd fa⟩
section
variable {env : List (Ent c)} {m : Md} {ta te : TE} {tc : TT} {α β : Type} [Rp c α] [Rp c β] {caps : List Nat}
theorem comp_end {H0 H H1 : Hp} {F0 : List Addr} {Fs : Nat → List Addr} {σ : St} {Q : VK} {R : List β → Prop} (S : Sta H0 F0 env Fs σ H) (k : ∀ x v H' as, R x → Same H H' → tree c H' v x as → m.ok H Fs as → Q v H') (s1 : Same H H1) {D : Addr} (hD : H1 D = none) {G : List β → Prop} (hG : ∀ ys, G ys → R ys) :
    ∀ ys vs H' as, G ys → Same H1 H' → H' D = some (.lst vs) → Trees c H' vs ys as → as.Nodup → (∀ a ∈ as, H1 a = none ∧ a ≠ D) → Q (.ref D) H' := fun ys vs H' as g s hd tr nd fa => by
  refine k ys _ H' (D :: as) (hG ys g) (s1.trans s) ⟨D, vs, as, rfl, hd, tr, rfl⟩ (Md.fresh S (List.nodup_cons.mpr ⟨fun z => (fa D z).2 rfl, nd⟩) fun a ha => ?_)
  rcases List.mem_cons.mp ha with z | z
  · rw [z]; exact s1.free hD
  · exact s1.free (fa a z).1
theorem src_range {H0 H H1 : Hp} {F0 : List Addr} {Fs : Nat → List Addr} {σ : St} (S : Sta H0 F0 env Fs σ H) (s1 : Same H H1) (n : Nat) (caps : List Nat) (lo : Int) (N : Nat) : Src n caps (gName 0) σ H1 (Itr lo N) N (fun i => (capE n caps env).set 0 (.sh (lo + (i : Int)))) := by
  intro H2 s2
  refine ⟨fun i hi => ⟨hi, fun x H' y => ?_⟩, Nat.le_refl _⟩
  obtain ⟨rfl, rfl⟩ := y
  obtain ⟨Fs', q, _⟩ := (((S.same (s1.trans s2)).cap n caps)).set' (α := Int) (x := lo + (i : Int)) (v := V.int (lo + (i : Int))) (as := []) 0 (show tree c _ (V.int _) (_ : Int) [] from ⟨rfl, rfl⟩) (fun a ha => absurd ha (by simp))
  exact ⟨Same.refl _, _, _, q, fun P p => p⟩
/-- [e for k in range(n) if t] -/
theorem we_compR {R : List β → Prop} (h : WE .any env ta fun n : Int => (-(2 ^ 62) ≤ n ∧ n ≤ 1000) ∧ ∃ G : Nat → List β → Prop, G 0 [] ∧
      (∀ (k : Nat) ys, (k : Int) < n → G k ys → WT ((capE 1 caps env).set 0 (.sh (k : Int))) tc fun b => (b = true → WE .fr ((capE 1 caps env).set 0 (.sh (k : Int))) te fun y => G (k + 1) (ys ++ [y])) ∧ (b = false → G (k + 1) ys)) ∧ ∀ ys, G n.toNat ys → R ys) :
    WE m env (tComp 1 caps (iRng1 (tCons ta tNil)) (gName 0) tc te) R := fun _ _ _ _ _ S Q k => h S _ fun n v H1 as ra s1 t1 _ => by
  obtain ⟨⟨hn0, hn⟩, G, g0, gs, ge⟩ := ra
  refine ⟨n, by rw [t1.1], hn0, by omega, fun D hD => comp_src (src_range S s1 1 caps 0 n.toNat) hD (by omega) G g0 (fun i ys hi g => ?_) (comp_end S k s1 hD ge)⟩
  have e : (0 : Int) + (i : Int) = (i : Int) := Int.zero_add _
  rw [e]
  exact gs i ys (by omega) g
/-- [e for k in range(a, n) if t] -/
theorem we_compR2 {tb : TE} {R : List β → Prop} (h : WE .any env ta fun a : Int => WE .any env tb fun n : Int => (-(2 ^ 62) ≤ n ∧ n < 2 ^ 62 ∧ -(2 ^ 62) ≤ a ∧ a < 2 ^ 62 ∧ n - a ≤ 1000) ∧ ∃ G : Nat → List β → Prop, G 0 [] ∧
      (∀ (k : Nat) ys, a + (k : Int) < n → G k ys → WT ((capE 1 caps env).set 0 (.sh (a + (k : Int)))) tc fun b => (b = true → WE .fr ((capE 1 caps env).set 0 (.sh (a + (k : Int)))) te fun y => G (k + 1) (ys ++ [y])) ∧ (b = false → G (k + 1) ys)) ∧ ∀ ys, G (n - a).toNat ys → R ys) :
    WE m env (tComp 1 caps (iRng2 (tCons ta (tCons tb tNil))) (gName 0) tc te) R := fun _ _ _ _ _ S Q k => h S _ fun a v H1 as ra s1 t1 _ => ra (S.same s1) _ fun n u H2 bs rb s2 t2 _ => by
  obtain ⟨⟨hn0, hn1, ha0, ha1, hn⟩, G, g0, gs, ge⟩ := rb
  refine ⟨a, n, by rw [t1.1, t2.1], ⟨ha0, ha1, hn0, hn1⟩, fun D hD => comp_src (src_range S (s1.trans s2) 1 caps a (n - a).toNat) hD (by omega) G g0 (fun i ys hi g => gs i ys (by omega) g) (comp_end S k (s1.trans s2) hD ge)⟩
/-- [e for x in xs if t] -/
theorem we_compL {R : List β → Prop} (h : WE .any env ta fun xs : List α => xs.length ≤ 1000 ∧ ∃ G : Nat → List β → Prop, G 0 [] ∧
      (∀ (k : Nat) x ys, xs[k]? = some x → G k ys → WT ((capE 1 caps env).set 0 (.sh x)) tc fun b => (b = true → WE .fr ((capE 1 caps env).set 0 (.sh x)) te fun y => G (k + 1) (ys ++ [y])) ∧ (b = false → G (k + 1) ys)) ∧ ∀ ys, G xs.length ys → R ys) :
    WE m env (tComp 1 caps (iList c.K ta) (gName 0) tc te) R := fun _ _ _ _ _ S Q k => h S _ fun xs v H1 as ra s1 t1 _ => by
  obtain ⟨hn, G, g0, gs, ge⟩ := ra
  obtain ⟨a, vs, as', rfl, ha, tr, rfl⟩ := t1
  refine ⟨a, rfl, ⟨vs, SqL.of ha⟩, fun D hD => comp_src (J := Itl c.K a) (N := xs.length) (B := fun i => match xs[i]? with | some x => (capE 1 caps env).set 0 (.sh x) | none => []) (fun H2 s2 => ⟨fun i hi => ?_, ⟨vs, SqL.of (s2 _ _ ha), by rw [tr.len]; exact Nat.le_refl _⟩⟩) hD hn G g0 (fun i ys hi g => ?_) (comp_end S k s1 hD ge)⟩
  · have hx : xs[i]? = some xs[i] := by simp [hi]
    obtain ⟨w, b1, hw, t2, _⟩ := (tr.same s2).get hx
    have hq : SqL c.K H2 a vs := SqL.of (s2 _ _ ha)
    refine ⟨⟨vs, w, hq, hw⟩, fun x H' y => ?_⟩
    obtain ⟨rfl, y⟩ := y
    have ex : x = w := by
      have := y vs hq
      rw [hw] at this
      exact (Option.some.inj this).symm
    subst ex
    obtain ⟨Fs', q, _⟩ := ((S.same (s1.trans s2)).cap 1 caps).set' 0 t2 (fun _ _ _ z => absurd z (by simp))
    refine ⟨Same.refl _, _, Fs', ?_, fun P p => p⟩
    simp only [hx]
    exact q
  · have hx : xs[i]? = some xs[i] := by simp [hi]
    simp only [hx]
    exact gs i xs[i] ys hx g
/-- [e for k, x in enumerate(xs) if t] -/
theorem we_compE {R : List β → Prop} (h : WE .any env ta fun xs : List α => xs.length ≤ 1000 ∧ ∃ G : Nat → List β → Prop, G 0 [] ∧
      (∀ (k : Nat) x ys, xs[k]? = some x → G k ys → WT (((capE 2 caps env).set 0 (.sh (k : Int))).set 1 (.sh x)) tc fun b => (b = true → WE .fr (((capE 2 caps env).set 0 (.sh (k : Int))).set 1 (.sh x)) te fun y => G (k + 1) (ys ++ [y])) ∧ (b = false → G (k + 1) ys)) ∧ ∀ ys, G xs.length ys → R ys) :
    WE m env (tComp 2 caps (iEnum c.K (tCons ta tNil)) (gTup c.K 2 (gCons (gName 0) (gCons (gName 1) gNil))) tc te) R := fun _ _ _ _ _ S Q k => h S _ fun xs v H1 as ra s1 t1 _ => by
  obtain ⟨hn, G, g0, gs, ge⟩ := ra
  obtain ⟨a, vs, as', rfl, ha, tr, rfl⟩ := t1
  refine ⟨a, vs, rfl, SqL.of ha, fun D hD => comp_src (J := Ite c.K a) (N := xs.length) (B := fun i => match xs[i]? with | some x => ((capE 2 caps env).set 0 (.sh (i : Int))).set 1 (.sh x) | none => []) (fun H2 s2 => ⟨fun i hi => ?_, ⟨vs, SqL.of (s2 _ _ ha), by rw [tr.len]; exact Nat.le_refl _⟩⟩) hD hn G g0 (fun i ys hi g => ?_) (comp_end S k s1 hD ge)⟩
  · have hx : xs[i]? = some xs[i] := by simp [hi]
    obtain ⟨w, b1, hw, t2, _⟩ := (tr.same s2).get hx
    have hq : SqL c.K H2 a vs := SqL.of (s2 _ _ ha)
    refine ⟨⟨vs, w, hq, hw⟩, fun x H' y => ?_⟩
    obtain ⟨pp, z, y, hp, rfl, rfl⟩ := y
    have ex : z = w := by
      have := y vs hq
      rw [hw] at this
      exact (Option.some.inj this).symm
    subst ex
    have sp : Same H2 (upd H2 pp (.tup [V.int (i : Nat), z])) := Same.new hp
    obtain ⟨Fs', q, _⟩ := ((S.same ((s1.trans s2).trans sp)).cap 2 caps).set' (α := Int) (x := (i : Int)) (v := V.int (i : Nat)) (as := []) 0 (show tree c _ (V.int _) (_ : Int) [] from ⟨rfl, rfl⟩) (fun a ha => absurd ha (by simp))
    obtain ⟨Fs2, q2, _⟩ := q.set' (x := xs[i]) (v := z) 1 (tree_same t2 sp) (fun b hb j => by
      intro hz
      have := q.up j b hz
      rcases this with q' | q'
      · exact tree_dom (tree_same t2 sp) hb q'
      · simp at q')
    refine ⟨sp, _, Fs2, ?_, fun P p => ⟨pp, _, rfl, SqT.of upd_same, rfl, _, _, rfl, _, _, rfl, rfl, p⟩⟩
    simp only [hx]
    exact q2
  · have hx : xs[i]? = some xs[i] := by simp [hi]
    simp only [hx]
    exact gs i xs[i] ys hx g
end

/-! ### statements -/
structure Rs (c : Ct) (β : Type) where
  nx : List (Ent c) → Prop
  rt : β → Prop
  bk : List (Ent c) → Prop := fun _ => False
  ct : List (Ent c) → Prop := fun _ => False
structure Cts {β : Type} [Rp c β] (R : Rs c β) (H0 : Hp) (F0 : List Addr) (D : Ends) : Prop where
  nx : ∀ env Fs σ H, R.nx env → Sta H0 F0 env Fs σ H → D.nx σ H
  bk : ∀ env Fs σ H, R.bk env → Sta H0 F0 env Fs σ H → D.bk σ H
  ct : ∀ env Fs σ H, R.ct env → Sta H0 F0 env Fs σ H → D.ct σ H
  rt : ∀ x v H as, R.rt x → Kp F0 H0 H → tree c H v x as → as.Nodup → (∀ a ∈ as, H0 a = none ∨ a ∈ F0) → D.rt v H
def WS {β : Type} [Rp c β] (env : List (Ent c)) (t : TS) (R : Rs c β) : Prop :=
  ∀ ⦃H0 : Hp⦄ ⦃F0 : List Addr⦄ ⦃Fs : Nat → List Addr⦄ ⦃σ : St⦄ ⦃H : Hp⦄ ⦃D : Ends⦄, Sta H0 F0 env Fs σ H → Cts R H0 F0 D → t D σ H
section
variable {env : List (Ent c)} {m : Md} {ta tb te : TE} {tc : TT} {t u : TS} {α β γ : Type} [Rp c α] [Rp c β] [Rp c γ] {R : Rs c β}
theorem ws_mono {R' : Rs c β} (h : WS env t R) (h1 : ∀ e, R.nx e → R'.nx e) (h2 : ∀ x, R.rt x → R'.rt x) (h3 : ∀ e, R.bk e → R'.bk e) (h4 : ∀ e, R.ct e → R'.ct e) : WS env t R' := fun _ _ _ _ _ _ S C =>
  h S ⟨fun env Fs σ H r => C.nx env Fs σ H (h1 _ r), fun env Fs σ H r => C.bk env Fs σ H (h3 _ r), fun env Fs σ H r => C.ct env Fs σ H (h4 _ r), fun x v H as r => C.rt x v H as (h2 x r)⟩
theorem ws_seq (h : WS env t { R with nx := fun e => WS e u R }) : WS env (tSeq t u) R := fun _ _ _ _ _ _ S C =>
  h S ⟨fun env Fs σ H r S' => r S' C, C.bk, C.ct, C.rt⟩
theorem ws_next (h : R.nx env) : WS env tNext R := fun _ _ _ _ _ _ S C => C.nx env _ _ _ h S
/-- what comes may have been the names' own -/
theorem ws_ret {S' : List Nat} (h : WE (.mv S') env te R.rt) : WS env (tRet te) R := fun H0 F0 Fs σ H D S C => h S _ fun x v H' as r s t o =>
  C.rt x v H' as r (S.kp.same s) t o.1 fun a ha => by
    rcases o.2 a ha with z | ⟨j, _, z⟩
    · exact .inl (S.kp.free z)
    · exact S.up j a z
theorem ws_retF [Flat c β] (h : WE .any env te R.rt) : WS env (tRet te) R := ws_ret (S' := []) (we_flat h)
theorem ws_drop (h : WE .any env te fun _ : α => R.nx env) : WS env (tDrop te) R := fun _ _ _ _ _ _ S C => h S _ fun x v H' as r s t _ => C.nx env _ _ _ r (S.same s)
/-- x = e, shared -/
theorem ws_set {i : Nat} (h : WE .sh env te fun x : α => R.nx (env.set i (.sh x))) : WS env (tAsg te (gName i)) R := fun _ _ _ _ _ _ S C => h S _ fun x v H' as r s t o => by
  obtain ⟨Fs', S', _⟩ := (S.same s).set' i t o
  exact C.nx _ _ _ _ r S'
theorem ws_setF [Flat c α] {i : Nat} (h : WE .any env te fun x : α => R.nx (env.set i (.sh x))) : WS env (tAsg te (gName i)) R := ws_set (we_flat h)
/-- x = e, its own -/
theorem ws_setO {i : Nat} (h : WE .fr env te fun x : α => Nat.blt i env.length = true ∧ R.nx (env.set i (.ow x))) : WS env (tAsg te (gName i)) R := fun _ _ _ _ _ _ S C => h S _ fun x v H' as r s t o =>
  C.nx _ _ _ _ r.2 (S.setO s (by have := r.1; rwa [Nat.blt_eq] at this) t o.1 fun a ha => (o.2 a ha).elim id fun ⟨j, z, _⟩ => absurd z (by simp))
theorem ws_if (h : WT env tc fun b => (b = true → WS env t R) ∧ (b = false → WS env u R)) : WS env (tIfS tc t u) R := fun _ _ _ _ _ _ S C => h S _ fun b H' r s => by
  cases b with
  | true => exact iteT (r.1 rfl (S.same s) C)
  | false => exact iteF (r.2 rfl (S.same s) C)
/-- the ways meet -/
theorem ws_ifJ (J : List (Ent c) → Prop) (h : WT env tc fun b => (b = true → WS env t { R with nx := J }) ∧ (b = false → WS env u { R with nx := J })) (hJ : ∀ e, J e → R.nx e) : WS env (tIfS tc t u) R :=
  ws_mono (R := { R with nx := J }) (ws_if h) hJ (fun _ z => z) (fun _ z => z) (fun _ z => z)
theorem ws_share {i : Nat} {x : α} (hx : env[i]? = some (.en true x)) (h : WS (env.set i (.sh x)) t R) : WS env t R := fun _ _ _ _ _ _ S C => h (S.share hx) C
/-! ### loops -/
def allF (n : Nat) (Fs : Nat → List Addr) : List Addr := (List.range n).flatMap Fs
theorem mem_allF {n : Nat} {Fs : Nat → List Addr} {a : Addr} : a ∈ allF n Fs ↔ ∃ i, i < n ∧ a ∈ Fs i := by
  unfold allF
  rw [List.mem_flatMap]
  constructor
  · rintro ⟨i, h1, h2⟩; exact ⟨i, List.mem_range.mp h1, h2⟩
  · rintro ⟨i, h1, h2⟩; exact ⟨i, List.mem_range.mpr h1, h2⟩
theorem Sta.lt {H0 H : Hp} {F0 : List Addr} {Fs : Nat → List Addr} {σ : St} (S : Sta H0 F0 env Fs σ H) {i : Nat} {a : Addr} (h : a ∈ Fs i) : i < env.length := by
  by_cases hi : i < env.length
  · exact hi
  · rw [S.out i (by omega)] at h; simp at h
theorem Sta.rebase {H0 H : Hp} {F0 : List Addr} {Fs : Nat → List Addr} {σ : St} (S : Sta H0 F0 env Fs σ H) : Sta H (allF env.length Fs) env Fs σ H :=
  ⟨S.len, S.ok, S.out, S.nd, S.dj, fun i a ha => .inr (mem_allF.mpr ⟨i, S.lt ha, ha⟩), Kp.refl H⟩
theorem Sta.upW {H0 H : Hp} {F0 : List Addr} {Fs : Nat → List Addr} {σ : St} (S : Sta H0 F0 env Fs σ H) {a : Addr} (h : H a = none ∨ a ∈ allF env.length Fs) : H0 a = none ∨ a ∈ F0 := by
  rcases h with z | z
  · exact .inl (S.kp.free z)
  · obtain ⟨i, _, hi⟩ := mem_allF.mp z
    exact S.up i a hi
theorem Sta.unbase {H0 H H' : Hp} {F0 : List Addr} {env' : List (Ent c)} {Fs Fs' : Nat → List Addr} {σ σ' : St} (S : Sta H0 F0 env Fs σ H) (S' : Sta H (allF env.length Fs) env' Fs' σ' H') : Sta H0 F0 env' Fs' σ' H' :=
  ⟨S'.len, S'.ok, S'.out, S'.nd, S'.dj, fun i a ha => S.upW (S'.up i a ha), S.kp.trans S'.kp fun x hx => S.upW (.inr hx)⟩
/-- for k in range(n) -/
theorem ws_for1 {i : Nat} {tb : TS} (h : WE .any env ta fun n : Int => (-(2 ^ 62) ≤ n ∧ n < 2 ^ 62) ∧ ∃ J : Nat → List (Ent c) → Prop, J 0 env ∧
      (∀ (k : Nat) e, (k : Int) < n → J k e → WS (e.set i (.sh (k : Int))) tb { nx := J (k + 1), ct := J (k + 1), bk := R.nx, rt := R.rt }) ∧ ∀ e, J n.toNat e → R.nx e) :
    WS env (tFor (iRng1 (tCons ta tNil)) (gName i) tb) R := fun H0 F0 Fs σ H D S C => h S _ fun n v H1 as ra s1 t1 _ => by
  obtain ⟨⟨hn0, hn1⟩, J, j0, js, je⟩ := ra
  refine ⟨n, by rw [t1.1], hn0, hn1, for_range (fun k σ' H' => ∃ e Fs', J k e ∧ Sta H0 F0 e Fs' σ' H') ⟨env, Fs, j0, S.same s1⟩ ?_ ?_⟩
  · rintro k σ' H' hk ⟨e, Fs', hj, S'⟩
    obtain ⟨Fs2, S2, _⟩ := S'.set' (α := Int) (x := (k : Int)) (v := V.int (0 + (k : Int))) (as := []) i (show tree c _ (V.int _) (_ : Int) [] from ⟨by rw [Int.zero_add], rfl⟩) (fun a ha => absurd ha (by simp))
    exact js k e (by omega) hj S2 ⟨fun e2 F2 σ2 H2 r q => ⟨e2, F2, r, q⟩, C.nx, fun e2 F2 σ2 H2 r q => ⟨e2, F2, r, q⟩, C.rt⟩
  · rintro σ' H' ⟨e, Fs', hj, S'⟩
    exact C.nx e Fs' σ' H' (je e hj) S'
theorem ws_for2 {i : Nat} {tb' : TS} (h : WE .any env ta fun a : Int => WE .any env tb fun n : Int => (-(2 ^ 62) ≤ n ∧ n < 2 ^ 62 ∧ -(2 ^ 62) ≤ a ∧ a < 2 ^ 62) ∧ ∃ J : Nat → List (Ent c) → Prop, J 0 env ∧
      (∀ (k : Nat) e, a + (k : Int) < n → J k e → WS (e.set i (.sh (a + (k : Int)))) tb' { nx := J (k + 1), ct := J (k + 1), bk := R.nx, rt := R.rt }) ∧ ∀ e, J (n - a).toNat e → R.nx e) :
    WS env (tFor (iRng2 (tCons ta (tCons tb tNil))) (gName i) tb') R := fun H0 F0 Fs σ H D S C => h S _ fun a v H1 as ra s1 t1 _ => ra (S.same s1) _ fun n u H2 bs rb s2 t2 _ => by
  obtain ⟨⟨hn0, hn1, ha0, ha1⟩, J, j0, js, je⟩ := rb
  refine ⟨a, n, by rw [t1.1, t2.1], ⟨ha0, ha1, hn0, hn1⟩, for_range (fun k σ' H' => ∃ e Fs', J k e ∧ Sta H0 F0 e Fs' σ' H') ⟨env, Fs, j0, S.same (s1.trans s2)⟩ ?_ ?_⟩
  · rintro k σ' H' hk ⟨e, Fs', hj, S'⟩
    obtain ⟨Fs2, S2, _⟩ := S'.set' (α := Int) (x := a + (k : Int)) (v := V.int (a + (k : Int))) (as := []) i (show tree c _ (V.int _) (_ : Int) [] from ⟨rfl, rfl⟩) (fun a ha => absurd ha (by simp))
    exact js k e (by omega) hj S2 ⟨fun e2 F2 σ2 H2 r q => ⟨e2, F2, r, q⟩, C.nx, fun e2 F2 σ2 H2 r q => ⟨e2, F2, r, q⟩, C.rt⟩
  · rintro σ' H' ⟨e, Fs', hj, S'⟩
    exact C.nx e Fs' σ' H' (je e hj) S'
/-- for x in xs (shared or new) -/
theorem ws_forL {i : Nat} {tb : TS} (h : WE .sh env ta fun xs : List α => ∃ J : Nat → List (Ent c) → Prop, J 0 env ∧
      (∀ (k : Nat) x e, xs[k]? = some x → J k e → WS (e.set i (.sh x)) tb { nx := J (k + 1), ct := J (k + 1), bk := R.nx, rt := R.rt }) ∧ ∀ e, J xs.length e → R.nx e) :
    WS env (tFor (iList c.K ta) (gName i) tb) R := fun H0 F0 Fs σ H D S C => h S _ fun xs v H1 as ra s1 t1 o => by
  obtain ⟨J, j0, js, je⟩ := ra
  have S1 := S.same s1
  have out : ∀ a ∈ as, a ∉ allF env.length Fs := fun a ha z => by
    obtain ⟨j, _, hj⟩ := mem_allF.mp z
    exact o a ha j hj
  obtain ⟨a, vs, as', rfl, ha, tr, rfl⟩ := id t1
  refine ⟨a, rfl, ⟨vs, SqL.of ha⟩, for_list (xs := vs) (fun k σ' H' => ∃ e Fs', J k e ∧ Sta H1 (allF env.length Fs) e Fs' σ' H') ⟨env, Fs, j0, S1.rebase⟩ ?_ ?_ ?_⟩
  · rintro k σ' H' _ ⟨e, Fs', _, S'⟩
    exact SqL.of (S'.kp.keep a _ ha (.inr (out a List.mem_cons_self)))
  · rintro k x σ' H' hx ⟨e, Fs', hj, S'⟩
    have hk : k < xs.length := by rw [← tr.len]; exact (List.getElem?_eq_some_iff.mp hx).1
    have hk' : xs[k]? = some xs[k] := by simp [hk]
    have tr' := tr.kp S'.kp fun b hb => out b (List.mem_cons_of_mem _ hb)
    obtain ⟨w, b1, hw, t2, sb⟩ := tr'.get hk'
    rw [hx] at hw
    cases hw
    obtain ⟨Fs2, S2, _⟩ := S'.set' i t2 fun b hb j hz => by
      have hb' : b ∈ a :: as' := List.mem_cons_of_mem _ (sb.subset hb)
      rcases S'.up j b hz with q | q
      · exact tree_dom t1 hb' q
      · exact out b hb' q
    exact js k _ e hk' hj S2 ⟨fun e2 F2 σ2 H2 r q => ⟨e2, F2, r, q⟩, fun e2 F2 σ2 H2 r q => C.nx e2 F2 σ2 H2 r (S1.unbase q), fun e2 F2 σ2 H2 r q => ⟨e2, F2, r, q⟩,
      fun y w H2 bs r k2 t3 nd up => C.rt y w H2 bs r (S1.kp.trans k2 fun x hx => S1.upW (.inr hx)) t3 nd fun b hb => S1.upW (up b hb)⟩
  · rintro σ' H' ⟨e, Fs', hj, S'⟩
    rw [tr.len] at hj
    exact C.nx e Fs' σ' H' (je e hj) (S1.unbase S')
/-- while -/
theorem ws_while {tb : TS} (J : Nat → List (Ent c) → Prop) (h0 : ∃ k, J k env) (hs : ∀ k e, J k e → WT e tc fun b => (b = true → WS e tb { nx := fun e' => ∃ k', k' < k ∧ J k' e', ct := fun e' => ∃ k', k' < k ∧ J k' e', bk := R.nx, rt := R.rt }) ∧ (b = false → R.nx e)) :
    WS env (tWhile tc tb) R := fun H0 F0 Fs σ H D S C => by
  obtain ⟨k0, j0⟩ := h0
  refine ⟨fun k σ' H' => ∃ e Fs', J k e ∧ Sta H0 F0 e Fs' σ' H', ⟨k0, env, Fs, j0, S⟩, ?_⟩
  rintro k σ' H' ⟨e, Fs', hj, S'⟩
  refine hs k e hj S' _ fun b H1 r s => ?_
  cases b with
  | true => exact iteT ⟨fun σ2 H2 => ∃ k', k' < k ∧ ∃ e Fs', J k' e ∧ Sta H0 F0 e Fs' σ2 H2, fun σ2 H2 ⟨k', hk, q⟩ => ⟨k', hk, q⟩, r.1 rfl (S'.same s) ⟨fun e2 F2 σ2 H2 ⟨k', hk, r⟩ q => ⟨k', hk, e2, F2, r, q⟩, C.nx, fun e2 F2 σ2 H2 ⟨k', hk, r⟩ q => ⟨k', hk, e2, F2, r, q⟩, C.rt⟩⟩
  | false => exact iteF (C.nx e Fs' σ' H1 (r.2 rfl) (S'.same s))

/-! ### a name's own list is changed -/
theorem Kp.sub {F G : List Addr} {H H' : Hp} (k : Kp F H H') (h : ∀ a ∈ F, a ∈ G) : Kp G H H' := ⟨fun b o e q => k.keep b o e (q.imp id fun z y => z (h b y)), k.lst⟩
theorem set_get.{w} {α : Type w} {l : List α} {i : Nat} {x : α} (h : l[i]? = some x) : l.set i x = l := by
  apply List.ext_getElem?
  intro k
  by_cases hk : i = k
  · subst hk; rw [List.getElem?_set_self (List.getElem?_eq_some_iff.mp h).1, h]
  · rw [List.getElem?_set_ne hk]
/-- the own list at i is now other, at its place -/
theorem Sta.lset {xs ys : List α} {H0 H : Hp} {F0 : List Addr} {Fs : Nat → List Addr} {σ : St} (S : Sta H0 F0 env Fs σ H) {i : Nat} (h : env[i]? = some (.ow xs)) {a : Addr} {vs ws : List V} {as bs : List Addr}
    (hσ : σ[i]? = some (some (.ref a))) (ha : H a = some (.lst vs)) (hF : Fs i = a :: as) (t : Trees c H ws ys bs) (nd : bs.Nodup) (up : ∀ b ∈ bs, b ∈ as ∨ (H b = none)) (hn : ∀ b ∈ bs, b ≠ a) :
    Sta H0 F0 (env.set i (.ow ys)) (putF' Fs i (a :: bs)) σ (upd H a (.lst ws)) := by
  have hi : i < env.length := (List.getElem?_eq_some_iff.mp h).1
  have kp : Kp [a] H (upd H a (.lst ws)) := Kp.put ha
  have q := S.put (as := a :: bs) (v := some (.ref a)) (e := .ow ys) (kp.sub fun b hb => by rw [hF]; exact List.mem_cons.mpr (.inl (by simpa using hb))) hi
    ⟨_, rfl, by rw [putF_same]; exact ⟨a, ws, bs, rfl, upd_same, t.kp kp fun b hb => by simpa using hn b hb, rfl⟩⟩ (List.nodup_cons.mpr ⟨fun z => hn a z rfl, nd⟩) (fun b hb => ?_)
  · rwa [set_get hσ] at q
  · rw [hF]
    rcases List.mem_cons.mp hb with z | z
    · rw [z]; exact .inl List.mem_cons_self
    · exact (up b z).imp (fun y => List.mem_cons_of_mem _ y) id
theorem Sta.own {xs : List α} {H0 H : Hp} {F0 : List Addr} {Fs : Nat → List Addr} {σ : St} (S : Sta H0 F0 env Fs σ H) {i : Nat} (h : env[i]? = some (.ow xs)) : ∃ a vs as, σ[i]? = some (some (.ref a)) ∧ H a = some (.lst vs) ∧ Trees c H vs xs as ∧ Fs i = a :: as := by
  obtain ⟨u, h1, v, e, t⟩ := S.at_ h
  obtain ⟨a, vs, as, rfl, ha, tr, hF⟩ := t
  exact ⟨a, vs, as, by rw [h1, e], ha, tr, hF⟩
theorem smallB {n : Nat} (h : n ≤ 10000000) : n < sizeLine := Nat.lt_of_le_of_lt h (by decide)
/-- xs.append(e) -/
theorem ws_append {i : Nat} {xs : List α} (hx : env[i]? = some (.ow xs)) (h : WE .fr env te fun x : α => xs.length < 10000000 ∧ R.nx (env.set i (.ow (xs ++ [x])))) : WS env (tDrop (tBM c.K "list" rAppend (tVar i) (tCons te tNil))) R := fun H0 F0 Fs σ H D S C => by
  obtain ⟨a, vs, as, hσ, ha, tr, hF⟩ := S.own hx
  refine ⟨_, hσ, .inl ⟨rfl, _, SqL.of ha⟩, h S _ fun x v H' bs r s t o => ?_⟩
  have n : ∀ b ∈ bs, H b = none := fun b hb => (o.2 b hb).elim id fun ⟨j, z, _⟩ => absurd z (by simp)
  have nd := S.nd i
  rw [hF] at nd
  have nd' := List.nodup_cons.mp nd
  have ha' := s _ _ ha
  refine ⟨a, vs, v, rfl, rfl, ha', by rw [tr.len]; exact smallB (by omega), ?_⟩
  have hd : ∀ b ∈ as, H b ≠ none := fun b hb z => by obtain ⟨ys, e, _⟩ := tr.isl b hb; rw [z] at e; cases e
  have dj : ∀ b ∈ as ++ bs, b ∈ as ∨ H b = none := fun b hb => by
    rcases List.mem_append.mp hb with z | z
    · exact .inl z
    · exact .inr (n b z)
  have hna : ∀ b ∈ as ++ bs, b ≠ a := fun b hb e => by
    subst e
    rcases List.mem_append.mp hb with z | z
    · exact nd'.1 z
    · rw [n b z] at ha; cases ha
  have hi : i < env.length := (List.getElem?_eq_some_iff.mp hx).1
  have kp : Kp [a] H' (upd H' a (.lst (vs ++ [v]))) := Kp.put ha'
  have kp2 : Kp (Fs i) H (upd H' a (.lst (vs ++ [v]))) := by
    rw [hF]
    exact Kp.trans (Kp.of_same s) kp fun b hb => .inr (List.mem_cons.mpr (.inl (by simpa using hb)))
  have q := S.put (as := a :: (as ++ bs)) (v := some (.ref a)) (e := .ow (xs ++ [x])) kp2 hi
    ⟨_, rfl, by rw [putF_same]; exact ⟨a, _, as ++ bs, rfl, upd_same, Trees.kp ((tr.same s).snoc t) kp fun b hb => by simpa using hna b hb, rfl⟩⟩
    (List.nodup_cons.mpr ⟨fun z => hna a z rfl, List.nodup_append.mpr ⟨nd'.2, o.1, fun b hb b2 hb2 e => by subst e; exact hd b hb (n b hb2)⟩⟩) (fun b hb => by
      rw [hF]
      rcases List.mem_cons.mp hb with z | z
      · rw [z]; exact .inl List.mem_cons_self
      · exact (dj b z).imp (fun y => List.mem_cons_of_mem _ y) id)
  rw [set_get hσ] at q
  exact C.nx _ _ _ _ r.2 q
/-- xs.insert(k, e) -/
theorem ws_insert [Flat c α] {i : Nat} {xs : List α} (hx : env[i]? = some (.ow xs)) (h : WE .any env ta fun k : Int => WE .any env te fun x : α => (0 ≤ k ∧ k ≤ xs.length) ∧ xs.length < 1000 ∧ R.nx (env.set i (.ow (xs.take k.toNat ++ x :: xs.drop k.toNat)))) :
    WS env (tDrop (tBM c.K "list" rInsert (tVar i) (tCons ta (tCons te tNil)))) R := fun H0 F0 Fs σ H D S C => by
  obtain ⟨a, vs, as, hσ, ha, tr, hF⟩ := S.own hx
  have := tr.flat; subst this
  refine ⟨_, hσ, .inl ⟨rfl, _, SqL.of ha⟩, h S _ fun k w H1 bs rb s1 t1 _ => rb (S.same s1) _ fun x v H2 ds r s2 t2 _ => ?_⟩
  have := Flat.flat t2; subst this
  have ha' := s2 _ _ (s1 _ _ ha)
  refine ⟨a, vs, k, v, rfl, by rw [t1.1], ha', r.1.1, by rw [tr.len]; exact r.1.2, by rw [tr.len]; exact small1000 (by omega), ?_⟩
  have tr' := tr.same (s1.trans s2)
  have e : Trees c H2 (vs.take k.toNat ++ v :: vs.drop k.toNat) (xs.take k.toNat ++ x :: xs.drop k.toNat) [] := (tr'.take _).append (as := []) (bs := []) ⟨[], [], t2, tr'.drop _, rfl⟩
  exact C.nx _ _ _ _ r.2.2 <| (S.same (s1.trans s2)).lset hx hσ ha' hF e List.nodup_nil (fun b hb => absurd hb (by simp)) (fun b hb => absurd hb (by simp))
/-- xs[k] = e -/
theorem Trees.set [Flat c α] {H : Hp} {v : V} {x : α} (t : tree c H v x []) : ∀ {vs : List V} {xs : List α} (j : Nat), Trees c H vs xs [] → Trees c H (vs.set j v) (xs.set j x) []
  | [], [], _, _ => rfl
  | _ :: _, _ :: _, 0, h => by
    obtain ⟨a1, a2, t1, r, e⟩ := h
    have := Flat.flat t1; subst this
    have := r.flat; subst this
    exact ⟨[], [], t, r, rfl⟩
  | _ :: _, _ :: _, j + 1, h => by
    obtain ⟨a1, a2, t1, r, e⟩ := h
    have := Flat.flat t1; subst this
    have := r.flat; subst this
    exact ⟨[], [], t1, Trees.set t j r, rfl⟩
theorem ws_setI [Flat c α] {i : Nat} {xs : List α} (hx : env[i]? = some (.ow xs)) (h : WE .any env te fun x : α => WE .any env ta fun k : Int => ∃ j, ixN xs.length k = some j ∧ R.nx (env.set i (.ow (xs.set j x)))) :
    WS env (tAsg te (gSub (tVar i) ta rSetL)) R := fun H0 F0 Fs σ H D S C => h S _ fun x v H1 bs rb s1 t1 _ => by
  have := Flat.flat t1; subst this
  obtain ⟨a, vs, as, hσ, ha, tr, hF⟩ := (S.same s1).own hx
  have := tr.flat; subst this
  refine ⟨_, hσ, rb (S.same s1) _ fun k w H2 ds r s2 t2 _ => ?_⟩
  obtain ⟨j, hj, r⟩ := r
  have ha' := s2 _ _ ha
  refine ⟨a, vs, k, j, rfl, t2.1, ha', by rw [tr.len]; exact hj, ?_⟩
  exact C.nx _ _ _ _ r <| (S.same (s1.trans s2)).lset hx hσ ha' hF (Trees.set (tree_same t1 s2) j (tr.same s2)) List.nodup_nil (fun b hb => absurd hb (by simp)) (fun b hb => absurd hb (by simp))
/-- net.lay(a, b) -/
theorem ws_lay {i : Nat} {E : XK} {N : NetD} (hx : env[i]? = some (.ow N)) (h : WE .any env ta fun a : Int => WE .any env tb fun b : Int => ((0 ≤ a ∧ a < N.n) ∧ (0 ≤ b ∧ b < N.n) ∧ N.rs.length < 24) ∧ R.nx (env.set i (.ow (⟨N.n, N.rs ++ [(a, b)]⟩ : NetD)))) :
    WS env (tDrop (tMeth c.C "lay" (sp_lay c.C) [] E (tVar i) (tCons ta (tCons tb tNil)))) R := fun H0 F0 Fs σ H D S C => by
  obtain ⟨u, h1, v, e, t⟩ := S.at_ hx
  obtain ⟨p, r, rfl, hN, hF⟩ := t
  obtain ⟨dx, hp⟩ := hN.ob
  refine ⟨_, by rw [h1, e], p, dx, _, rfl, hp, flds_no _ _ (by decide +kernel) (by decide +kernel), h S _ fun a va H1 as ra s1 t1 _ => ra (S.same s1) _ fun b vb H2 bs rb s2 t2 _ => ?_⟩
  have s := s1.trans s2
  refine ⟨p, r, N.n, a, b, N.rs, by rw [t1.1, t2.1]; rfl, hN.same s, rb.1.1, rb.1.2.1, rb.1.2.2, fun q H3 hq N3 kp => ?_⟩
  have hi : i < env.length := (List.getElem?_eq_some_iff.mp hx).1
  obtain ⟨ps, hr, _⟩ := hN.rd
  obtain ⟨ps3, hr3, _⟩ := N3.rd
  have k3 : Kp (Fs i) H H3 := by
    rw [hF]
    refine ⟨fun b o e q => ?_, fun b o e hm => ?_⟩
    · refine kp b o (s b o e) fun z => ?_
      subst z
      rw [hr] at e; cases e
      rcases q with q | q
      · cases q
      · exact q (by simp)
    · by_cases hb : b = r
      · subst hb; exact ⟨_, hr3, rfl⟩
      · exact ⟨o, kp b _ (s b _ e) hb, hm⟩
  have q2 := S.put (as := [r]) (v := some (.ref p)) (e := .ow (⟨N.n, N.rs ++ [(a, b)]⟩ : NetD)) k3 hi ⟨_, rfl, by rw [putF_same]; exact ⟨p, r, rfl, N3, rfl⟩⟩ (nodup_one _) (fun b hb => .inl (by rw [hF]; exact hb))
  rw [set_get (l := σ) (i := i) (x := some (.ref p)) (by rw [h1, e])] at q2
  exact C.nx _ _ _ _ rb.2 q2
end

/-! ### a def -/
theorem args_start {N : List Str} {H : Hp} {vs : List V} {es : List (Ent c)} (h : Args H vs es) : Sta H [] (es.map Ent.bor ++ List.replicate (N.length - vs.length) .no) (fun _ => []) (start N vs) H := by
  have hl : ∀ {vs : List V} {es : List (Ent c)}, Args H vs es → vs.length = es.length := by
    intro vs
    induction vs with
    | nil => intro es h; cases es with | nil => rfl | cons e es => exact (h : False).elim
    | cons v vs ih => intro es h; cases es with
      | nil => exact (h : False).elim
      | cons e es => cases e with
        | no => exact (h : False).elim
        | en o x => rw [List.length_cons, List.length_cons, ih h.2]
  have get : ∀ {vs : List V} {es : List (Ent c)} (i : Nat) (e : Ent c), Args H vs es → es[i]? = some e → ∃ v, vs[i]? = some v ∧ EntOk H (fun _ => []) i (some v) e.bor := by
    intro vs
    induction vs with
    | nil => intro es i e h he; cases es with | nil => simp at he | cons e es => exact (h : False).elim
    | cons v vs ih => intro es i e h he; cases es with
      | nil => exact (h : False).elim
      | cons e' es => cases e' with
        | no => exact (h : False).elim
        | en o x =>
          cases i with
          | zero =>
            simp at he; subst he
            obtain ⟨⟨as, t⟩, _⟩ := h
            exact ⟨v, rfl, rfl, v, as, rfl, t, fun _ _ _ z => absurd z (by simp)⟩
          | succ i =>
            obtain ⟨w, h1, h2⟩ := ih i e h.2 (by simpa using he)
            refine ⟨w, by simpa using h1, ?_⟩
            cases e with
            | no => exact h2
            | en o x => exact h2
  refine ⟨by unfold start; simp [hl h], fun i u e h1 h2 => ?_, fun _ _ => rfl, fun _ => List.nodup_nil, fun _ _ _ a ha => absurd ha (by simp), fun _ a ha => absurd ha (by simp), Kp.refl _⟩
  unfold start at h1
  by_cases hi : i < es.length
  · rw [List.getElem?_append_left (by rw [List.length_map]; exact hi), List.getElem?_map] at h2
    rw [List.getElem?_append_left (by rw [List.length_map, hl h]; exact hi), List.getElem?_map] at h1
    cases q : es[i]? with
    | none => rw [q] at h2; cases h2
    | some e' =>
      rw [q] at h2
      obtain ⟨v, h3, h4⟩ := get i e' h q
      rw [h3] at h1
      cases h1; cases h2
      exact h4
  · rw [List.getElem?_append_right (by rw [List.length_map]; omega), List.getElem?_replicate] at h2
    split at h2
    · cases h2; exact rfl
    · cases h2
/-- a def that keeps a promise over data -/
theorem fn_data {β : Type} [Rp c β] {pre : List (Ent c) → (β → Prop) → Prop} {N : List Str} {t : TS} {vs : List V} {H : Hp} {Q : VK} {E : XK} (h : spF c pre vs H Q E)
    (hb : ∀ es R, pre es R → WS (es.map Ent.bor ++ List.replicate (N.length - es.length) .no) t ({ nx := fun _ => False, rt := R } : Rs c β)) : t { nx := fun _ H' => Q .non H', rt := Q } (start N vs) H := by
  obtain ⟨es, R, hp, ha, k⟩ := h
  have hl : es.length = vs.length := by have := (args_start (N := vs.map fun _ => "") ha).len; simp [start] at this; omega
  have st := args_start (N := N) ha
  rw [← hl] at st
  refine hb es R hp st ⟨fun _ _ _ _ z => z.elim, fun _ _ _ _ z => z.elim, fun _ _ _ _ z => z.elim, fun x v H' as r kp t nd up => k x v H' as r kp.to_same t nd fun a ha => ?_⟩
  rcases up a ha with z | z
  · exact z
  · simp at z
theorem spF_len {β : Type} [Rp c β] {pre : List (Ent c) → (β → Prop) → Prop} {vs : List V} {H : Hp} {Q : VK} {E : XK} (h : spF c pre vs H Q E) {n : Nat} (hp : ∀ es R, pre es R → es.length = n) : vs.length = n := by
  obtain ⟨es, R, p, ha, _⟩ := h
  have := (args_start (N := vs.map fun _ => "") ha).len
  simp [start] at this
  rw [← hp es R p]; omega
end
end L2

set_option Elab.async false
set_option linter.all false
set_option maxRecDepth 100000
set_option maxHeartbeats 4000000
/-! Own rules, part 8: == of data, isinstance, lists within lists, lists taken over. -/
namespace L2
open PySem PySem.Spec PyProof.Rows
section
variable {c : Ct}
/-! ### == of data -/
class EqD (c : Ct) (α : Type) [Rp c α] [DecidableEq α] where
  den : α → PyData
  dep : Nat
  of : ∀ {H : Hp} {v : V} {x : α} {as : List Addr}, tree c H v x as → Den c.K H v (den x)
  lay : ∀ x, PyData.canLay0 (den x) = true
  dp : ∀ x, PyData.depth (den x) ≤ dep
  eqv : ∀ x y, PyData.eqv (den x) (den y) = decide (x = y)
instance : EqD c Int where
  den := .int
  dep := 0
  of := fun h => by rw [h.1]; exact .int _
  lay := fun _ => rfl
  dp := fun _ => Nat.le_refl _
  eqv := fun x y => by
    show (x == y) = _
    by_cases h : x = y <;> simp [h]
instance : EqD c Bool where
  den := .bool
  dep := 0
  of := fun h => by rw [h.1]; exact .bl _
  lay := fun _ => rfl
  dp := fun _ => Nat.le_refl _
  eqv := fun x y => by
    show (x == y) = _
    by_cases h : x = y <;> simp [h]
instance {α β : Type} [Rp c α] [Rp c β] [DecidableEq α] [DecidableEq β] [EqD c α] [EqD c β] : EqD c (α × β) where
  den := fun x => .tuple [EqD.den c x.1, EqD.den c x.2]
  dep := max (EqD.dep c α) (EqD.dep c β) + 1
  of := fun h => by
    obtain ⟨p, v1, v2, a1, a2, rfl, hp, t1, t2, _⟩ := h
    exact .tup (SqT.of hp) (.cons (EqD.of t1) (.cons (EqD.of t2) .nil))
  lay := fun x => by rw [PyData.canLay0, PyData.canLayAll0, PyData.canLayAll0, EqD.lay, EqD.lay]; rfl
  dp := fun x => by
    have h1 := EqD.dp (c := c) x.1
    have h2 := EqD.dp (c := c) x.2
    rw [PyData.depth, PyData.depthAll, PyData.depthAll, PyData.depthAll]
    omega
  eqv := fun x y => by
    rw [PyData.eqv, PyData.eqvAll, PyData.eqvAll, EqD.eqv, EqD.eqv]
    obtain ⟨a, b⟩ := x
    obtain ⟨a', b'⟩ := y
    by_cases h : a = a' <;> by_cases h2 : b = b' <;> simp [h, h2, PyData.eqvAll]
theorem dens_trees {α : Type} [Rp c α] [DecidableEq α] [EqD c α] {H : Hp} : ∀ {vs : List V} {xs : List α} {as : List Addr}, Trees c H vs xs as → Dens c.K H vs (xs.map (EqD.den c))
  | [], [], _, _ => .nil
  | _ :: _, _ :: _, _, ⟨_, _, t, r, _⟩ => .cons (EqD.of t) (dens_trees r)
instance {α : Type} [Rp c α] [DecidableEq α] [EqD c α] : EqD c (List α) where
  den := fun xs => .list (xs.map (EqD.den c))
  dep := EqD.dep c α + 1
  of := fun h => by
    obtain ⟨a, vs, as', rfl, ha, tr, _⟩ := h
    exact .lst (SqL.of ha) (dens_trees tr)
  lay := fun xs => by
    rw [PyData.canLay0]
    induction xs with
    | nil => rfl
    | cons x xs ih => rw [List.map_cons, PyData.canLayAll0, EqD.lay, ih]; rfl
  dp := fun xs => by
    rw [PyData.depth]
    refine Nat.succ_le_succ ?_
    induction xs with
    | nil => exact Nat.zero_le _
    | cons x xs ih =>
      have h1 := EqD.dp (c := c) x
      rw [List.map_cons, PyData.depthAll]
      omega
  eqv := fun xs ys => by
    rw [PyData.eqv]
    induction xs generalizing ys with
    | nil => cases ys <;> simp [PyData.eqvAll]
    | cons x xs ih =>
      cases ys with
      | nil => simp [PyData.eqvAll]
      | cons y ys =>
        rw [List.map_cons, List.map_cons, PyData.eqvAll, EqD.eqv, ih]
        by_cases h : x = y <;> by_cases h2 : xs = ys <;> simp [h, h2]
section
variable {env : List (Ent c)} {m : Md} {ta tb te : TE} {tc : TT} {t u : TS} {α β γ : Type} [Rp c α] [Rp c β] [Rp c γ] {R' : Rs c β}
theorem shaped_D [DecidableEq α] [EqD c α] (h : EqD.dep c α ≤ 64) (x : α) : PySem.SeqAt.shaped (EqD.den c x) = true := by
  unfold PySem.SeqAt.shaped
  rw [EqD.lay, Bool.true_and]
  exact decide_eq_true (Nat.le_trans (EqD.dp x) h)
theorem we_eqD [DecidableEq α] [EqD c α] {R : Bool → Prop} (h : WE .any env ta fun a : α => WE .any env tb fun b : α => R (decide (a = b))) (hd : Nat.ble (EqD.dep c α) 64 = true := by rfl) : WE m env (tOp (rEqD c.K) ta tb) R :=
  fun _ _ _ _ _ S Q k => h S _ fun a v H1 as ra s1 t1 _ => ra (S.same s1) _ fun b u H2 bs rb s2 t2 _ => by
    refine ⟨_, _, EqD.of (tree_same t1 s2), EqD.of t2, shaped_D (Nat.le_of_ble_eq_true hd) _, shaped_D (Nat.le_of_ble_eq_true hd) _, ?_⟩
    rw [EqD.eqv]
    exact k _ _ _ [] rb (s1.trans s2) ⟨rfl, rfl⟩ Md.nil
/-! ### isinstance -/
class TyN (c : Ct) (α : Type) [Rp c α] where
  name : String
  of : ∀ {H : Hp} {v : V} {x : α} {as : List Addr}, tree c H v x as → TyOf c.K H v (.type name)
instance : TyN c Int := ⟨"int", fun h => by rw [h.1]; exact .int _⟩
instance : TyN c Bool := ⟨"bool", fun h => by rw [h.1]; exact .bl _⟩
instance : TyN c Str := ⟨"str", fun h => by rw [h.1]; exact .str _⟩
instance {α : Type} [Rp c α] : TyN c (List α) := ⟨"list", fun h => by
  obtain ⟨a, vs, as', rfl, ha, _⟩ := h
  exact .lst ha⟩
instance {α β : Type} [Rp c α] [Rp c β] : TyN c (α × β) := ⟨"tuple", fun h => by
  obtain ⟨p, v1, v2, a1, a2, rfl, hp, _⟩ := h
  exact .tup hp⟩
theorem we_isi [TyN c α] {n : String} {R : Bool → Prop} (h : WE .any env ta fun x : α => ∃ b, PySem.W.kitOne c.K (.type (TyN.name c α)) (.type n) = some b ∧ R b) : WE m env (tCB (rIsi c.K) (tCons ta (tCons (tC (.ty n)) tNil))) R :=
  fun _ _ _ _ _ S Q k => h S _ fun a v H1 as ra s1 t1 _ => by
    obtain ⟨b, hb, r⟩ := ra
    exact ⟨v, .ty n, _, b, rfl, TyN.of t1, ⟨n, .inl rfl⟩, hb, k _ _ _ [] r s1 ⟨rfl, rfl⟩ Md.nil⟩

/-! ### [x for x in xs if t]: the items are taken over -/
theorem Trees.cut {H : Hp} : ∀ {i : Nat} {vs : List V} {xs : List α} {as : List Addr} {x : α}, Trees c H vs xs as → xs[i]? = some x → ∃ v a b d, vs[i]? = some v ∧ as = a ++ (b ++ d) ∧ Trees c H (vs.take i) (xs.take i) a ∧ tree c H v x b
  | _, [], [], _, _, _, e => by simp at e
  | 0, v :: vs, y :: xs, as, x, ⟨a1, a2, t, r, h⟩, e => by
    simp at e; subst e
    exact ⟨v, [], a1, a2, rfl, h, rfl, t⟩
  | i + 1, v :: vs, y :: xs, as, x, ⟨a1, a2, t, r, h⟩, e => by
    obtain ⟨u, a, b, d, h1, h2, h3, h4⟩ := Trees.cut (i := i) r (by simpa using e)
    exact ⟨u, a1 ++ a, b, d, by simpa using h1, by rw [h, h2, List.append_assoc], ⟨a1, a, t, h3, rfl⟩, h4⟩
theorem Trees.fp {H : Hp} : ∀ {vs : List V} {xs : List α} {as bs : List Addr}, Trees c H vs xs as → Trees c H vs xs bs → (∀ {v : V} {x : α} {a b : List Addr}, tree c H v x a → tree c H v x b → a = b) → as = bs
  | [], [], _, _, h1, h2, _ => by rw [show _ = [] from h1, show _ = [] from h2]
  | _ :: _, _ :: _, _, _, ⟨a1, a2, t, r, h⟩, ⟨b1, b2, t', r', h'⟩, u => by rw [h, h', u t t', Trees.fp r r' u]
theorem tree_fpL [Flat c α] {H : Hp} {v : V} {x : List α} {a b : List Addr} (h1 : tree c H v x a) (h2 : tree c H v x b) : a = b := by
  obtain ⟨p, vs, as', rfl, hp, t, rfl⟩ := h1
  obtain ⟨q, ws, bs', e, hq, t', rfl⟩ := h2
  cases e
  rw [t.flat, t'.flat]
theorem we_filterM [Flat c α] {i : Nat} {caps : List Nat} {xs : List (List α)} {R : List (List α) → Prop} (hx : env[i]? = some (.en true xs)) (hl : xs.length ≤ 10000000) (p : List α → Bool)
    (hp : ∀ x ∈ xs, WT ((capE 1 caps env).set 0 (.sh x)) tc fun b => b = p x) (r : R (xs.filter p)) : WE (.mv [i]) env (tComp 1 caps (iList c.K (tVar i)) (gName 0) tc (tVar 0)) R := fun H0 F0 Fs σ H S Q k => by
  obtain ⟨a, vs, as, hσ, ha, tr, hF⟩ := S.own hx
  refine ⟨_, hσ, a, rfl, ⟨vs, SqL.of ha⟩, fun D hD => comp_by xs.length (fun k ys H2 => k ≤ xs.length ∧ Same H H2 ∧ H2 D = some (.lst ys) ∧ ∃ cs d, Trees c H2 ys ((xs.take k).filter p) cs ∧ Trees c H (vs.take k) (xs.take k) d ∧ cs.Sublist d) ?_ ?_ ?_⟩
  · exact ⟨Nat.zero_le _, Same.new hD, upd_same, [], [], rfl, rfl, List.Sublist.refl _⟩
  · rintro j ys H2 hj ⟨_, s2, hD2, cs, d, t1, t2, sb⟩
    have hxj : xs[j]? = some xs[j] := by simp [hj]
    obtain ⟨v, a1, b1, d1, hv, e1, t3, t4⟩ := tr.cut hxj
    have hq : SqL c.K H2 a vs := SqL.of (s2 _ _ ha)
    refine ⟨⟨vs, v, hq, hv⟩, fun x H' y => ?_⟩
    obtain ⟨rfl, y⟩ := y
    have ex : x = v := by
      have := y vs hq
      rw [hv] at this
      exact (Option.some.inj this).symm
    subst ex
    obtain ⟨Fs', q, _⟩ := ((S.same s2).cap 1 caps).set' 0 (tree_same t4 s2) (fun _ _ _ z => absurd z (by simp))
    have et : xs.take (j + 1) = xs.take j ++ [xs[j]] := by rw [List.take_add_one, hxj]; rfl
    have ev : vs.take (j + 1) = vs.take j ++ [x] := by rw [List.take_add_one, hv]; rfl
    have nx : ∀ {ys' : List V} {H3 : Hp} {cs' : List Addr}, Same H H3 → H3 D = some (.lst ys') → Trees c H3 ys' (((xs.take j) ++ [xs[j]]).filter p) cs' → cs'.Sublist (d ++ b1) →
        j + 1 ≤ xs.length ∧ Same H H3 ∧ H3 D = some (.lst ys') ∧ ∃ cs d, Trees c H3 ys' ((xs.take (j + 1)).filter p) cs ∧ Trees c H (vs.take (j + 1)) (xs.take (j + 1)) d ∧ cs.Sublist d := fun {ys' H3 cs'} s h t sb =>
      ⟨hj, s, h, cs', d ++ b1, by rw [et]; exact t, by rw [et, ev]; exact t2.snoc t4, sb⟩
    refine hp xs[j] (List.getElem_mem hj) q _ fun b H3 rb s3 => ?_
    subst rb
    cases hb : p xs[j] with
    | false =>
      refine iteF (nx (s2.trans s3) (s3 _ _ hD2) (cs' := cs) ?_ (sb.trans (List.sublist_append_left _ _)))
      rw [List.filter_append, List.filter_cons_of_neg (by rw [hb]; exact Bool.false_ne_true), List.filter_nil, List.append_nil]
      exact t1.same s3
    | true =>
      refine iteT ⟨x, ?_, s3 _ _ hD2, ?_, ?_⟩
      · unfold capSt
        simp
      · rw [t1.len]
        refine smallB (Nat.le_trans (List.length_filter_le _ _) ?_)
        rw [List.length_take]
        omega
      · have hD3 := s3 _ _ hD2
        have kp : Kp [D] H3 (upd H3 D (.lst (ys ++ [x]))) := Kp.put hD3
        have hne : ∀ {z : Addr}, H z ≠ none → z ≠ D := fun {z} h e => by subst e; exact h hD
        refine nx (Same.put (s2.trans s3) hD) upd_same (cs' := cs ++ b1) ?_ (List.Sublist.append sb (List.Sublist.refl _))
        rw [List.filter_append, List.filter_cons_of_pos hb, List.filter_nil]
        refine Trees.snoc ((t1.same s3).kp kp fun z hz => ?_) (tree_kp (tree_same t4 (s2.trans s3)) kp fun z hz => ?_)
        · obtain ⟨zs, e, _⟩ := t2.isl z (sb.subset hz)
          simpa using hne (z := z) (by rw [e]; exact fun q => by cases q)
        · simpa using hne (z := z) (tree_dom t4 hz)
  · rintro ys H2 ⟨_, s2, hD2, cs, d, t1, t2, sb⟩
    refine ⟨⟨vs, SqL.of (s2 _ _ ha), by rw [tr.len]; exact Nat.le_refl _⟩, ?_⟩
    rw [List.take_length] at t1 t2
    rw [← tr.len, List.take_length] at t2
    have ed : d = as := Trees.fp t2 tr fun h1 h2 => tree_fpL h1 h2
    subst ed
    have nd := S.nd i
    rw [hF] at nd
    refine k _ _ H2 (D :: cs) r s2 ⟨D, ys, cs, rfl, hD2, t1, rfl⟩ ⟨List.nodup_cons.mpr ⟨fun z => ?_, (List.nodup_cons.mp nd).2.sublist sb⟩, fun z hz => ?_⟩
    · obtain ⟨zs, e, _⟩ := tr.isl D (sb.subset z)
      rw [hD] at e; cases e
    · rcases List.mem_cons.mp hz with q | q
      · rw [q]; exact .inl hD
      · exact .inr ⟨i, by simp, by rw [hF]; exact List.mem_cons_of_mem _ (sb.subset q)⟩

/-! ### lists within a name's own list -/
/-- one of the lists within is now other, at its place -/
theorem Trees.inner [Flat c α] {H : Hp} {ys : List α} {ws : List V} : ∀ {j : Nat} {vs : List V} {xss : List (List α)} {as : List Addr} {xs : List α}, Trees c H vs xss as → as.Nodup → xss[j]? = some xs →
    ∃ b us, vs[j]? = some (.ref b) ∧ H b = some (.lst us) ∧ Trees c H us xs [] ∧ b ∈ as ∧ (Trees c H ws ys [] → Trees c (upd H b (.lst ws)) vs (xss.set j ys) as)
  | _, [], [], _, _, _, _, e => by simp at e
  | 0, v :: vs, x :: xss, as, xs, ⟨a1, a2, t, r, h⟩, nd, e => by
    simp at e; subst e
    obtain ⟨b, us, as', rfl, hb, tr, rfl⟩ := t
    have := tr.flat; subst this
    subst h
    have nd' := List.nodup_append.mp nd
    have kp : Kp [b] H (upd H b (.lst ws)) := Kp.put hb
    refine ⟨b, us, rfl, hb, tr, by simp, fun tw => ⟨[b], a2, ⟨b, ws, [], rfl, upd_same, tw.kp kp (fun z hz => absurd hz (by simp)), rfl⟩, r.kp kp fun z hz => ?_, rfl⟩⟩
    have := nd'.2.2 b (by simp) z hz
    simpa using this.symm
  | j + 1, v :: vs, x :: xss, as, xs, ⟨a1, a2, t, r, h⟩, nd, e => by
    subst h
    have nd' := List.nodup_append.mp nd
    obtain ⟨b, us, h1, h2, h3, h4, h5⟩ := Trees.inner (j := j) r nd'.2.1 (by simpa using e)
    refine ⟨b, us, by simpa using h1, h2, h3, List.mem_append_right _ h4, fun tw => ⟨a1, a2, tree_kp t (Kp.put h2) fun z hz => ?_, h5 tw, rfl⟩⟩
    have := nd'.2.2 z hz b h4
    simpa using this
/-- the state, one of the lists within changed -/
theorem Sta.inner [Flat c α] {H0 H : Hp} {F0 : List Addr} {Fs : Nat → List Addr} {σ : St} (S : Sta H0 F0 env Fs σ H) {i : Nat} {xss : List (List α)} (hx : env[i]? = some (.ow xss)) {j : Nat} {xs : List α} (hj : xss[j]? = some xs) :
    ∃ a vs b us, σ[i]? = some (some (.ref a)) ∧ H a = some (.lst vs) ∧ vs.length = xss.length ∧ vs[j]? = some (.ref b) ∧ H b = some (.lst us) ∧ Trees c H us xs [] ∧
      ∀ {ys : List α} {ws : List V}, Trees c H ws ys [] → Sta H0 F0 (env.set i (.ow (xss.set j ys))) Fs σ (upd H b (.lst ws)) := by
  obtain ⟨a, vs, as, hσ, ha, tr, hF⟩ := S.own hx
  have nd := S.nd i
  rw [hF] at nd
  have nd' := List.nodup_cons.mp nd
  obtain ⟨b, us, h1, h2, h3, h4, _⟩ := tr.inner (ys := []) (ws := []) nd'.2 hj
  refine ⟨a, vs, b, us, hσ, ha, tr.len, h1, h2, h3, fun {ys ws} tw => ?_⟩
  obtain ⟨b', us', h1', _, _, _, h5⟩ := tr.inner (ys := ys) (ws := ws) nd'.2 hj
  rw [h1] at h1'
  cases h1'
  have hi : i < env.length := (List.getElem?_eq_some_iff.mp hx).1
  have kp : Kp [b] H (upd H b (.lst ws)) := Kp.put h2
  have hab : a ≠ b := fun e => by subst e; exact nd'.1 h4
  have q := S.put (as := Fs i) (v := some (.ref a)) (e := .ow (xss.set j ys)) (kp.sub fun z hz => by rw [hF]; exact List.mem_cons_of_mem _ ((show z = b by simpa using hz) ▸ h4)) hi
    ⟨_, rfl, by rw [putF_same, hF]; exact ⟨a, vs, as, rfl, by rw [upd_ne hab]; exact ha, h5 tw, rfl⟩⟩ (S.nd i) (fun z hz => .inl hz)
  rw [set_get hσ] at q
  have e : putF' Fs i (Fs i) = Fs := by
    funext k
    by_cases hk : k = i
    · subst hk; exact putF_same
    · exact putF_ne hk
  rwa [e] at q
theorem atI_of {α : Type} {xs : List α} {i : Int} {j : Nat} {x : α} (h : ixN xs.length i = some j) (e : xs[j]? = some x) : atI xs i = some x := by
  unfold atI
  rw [h]
  exact e
end
end
end L2

set_option Elab.async false
set_option linter.all false
set_option maxRecDepth 100000
set_option maxHeartbeats 4000000
/-! Own rules, part 9: a dict of lists by ints; lists changed through another name. -/
namespace L2
open PySem PySem.Spec PyProof.Rows
section
variable {c : Ct}
/-- a dict: int keys, lists of ints -/
structure Dc where
  kvs : List (Int × List Int)
def dKeys (kvs : List (Int × List Int)) : List Key := kvs.map fun p => Sum.inl p.1
instance : Rp c Dc where
  tree := fun H v x as => ∃ d vs as', v = .ref d ∧ H d = some (.dK ((dKeys x.kvs).zip vs)) ∧ Trees c H vs (x.kvs.map (·.2)) as' ∧ as = d :: as'
  isl := fun h b hb => by
    obtain ⟨d, vs, as', _, hd, t, rfl⟩ := h
    rcases List.mem_cons.mp hb with z | z
    · rw [z]; exact ⟨_, hd, rfl⟩
    · exact t.isl b z
  frame := fun h k => by
    obtain ⟨d, vs, as', e, hd, t, rfl⟩ := h
    exact ⟨d, vs, as', e, k _ _ hd (.inr List.mem_cons_self), t.frame fun b o e q => k b o e (q.imp id fun z => List.mem_cons_of_mem _ z), rfl⟩
/-- d.setdefault(k, []).append(x) -/
def dAdd (k x : Int) : List (Int × List Int) → List (Int × List Int)
  | [] => [(k, [x])]
  | p :: r => if p.1 = k then (p.1, p.2 ++ [x]) :: r else p :: dAdd k x r
section
variable {env : List (Ent c)} {m : Md} {ta tb te : TE} {tc : TT} {t u : TS} {α β γ : Type} [Rp c α] [Rp c β] [Rp c γ] {R' : Rs c β}
theorem we_newD {R : Dc → Prop} (q : R ⟨[]⟩) : WE m env tNewD R := fun _ _ _ _ _ S Q k p hp =>
  k ⟨[]⟩ _ _ [p] q (Same.new hp) ⟨p, [], [], rfl, upd_same, rfl, rfl⟩ (Md.fresh S (nodup_one _) fun a ha => by
    have : a = p := by simpa using ha
    subst this
    exact hp)
theorem dAdd_look {H : Hp} (k : Int) : ∀ {kvs : List (Int × List Int)} {vs : List V} {as : List Addr}, Trees c H vs (kvs.map (·.2)) as → as.Nodup →
    (∃ b us xs, dGet ((dKeys kvs).zip vs) (.inl k) = some (.ref b) ∧ H b = some (.lst us) ∧ Trees c H us xs [] ∧ (k, xs) ∈ kvs ∧ b ∈ as ∧ ∀ (x : Int), Trees c (upd H b (.lst (us ++ [.int x]))) vs ((dAdd k x kvs).map (·.2)) as ∧ dKeys (dAdd k x kvs) = dKeys kvs) ∨
    (dGet ((dKeys kvs).zip vs) (.inl k) = none ∧ ∀ x, dAdd k x kvs = kvs ++ [(k, [x])])
  | [], [], _, _, _ => .inr ⟨rfl, fun _ => rfl⟩
  | p :: kvs, v :: vs, as, ⟨a1, a2, t, r, h⟩, nd => by
    subst h
    have nd' := List.nodup_append.mp nd
    have ez : (dKeys (p :: kvs)).zip (v :: vs) = (Sum.inl p.1, v) :: (dKeys kvs).zip vs := rfl
    by_cases hk : p.1 = k
    · obtain ⟨b, us, as', rfl, hb, tr, rfl⟩ := t
      have := tr.flat; subst this
      have kp : ∀ ws, Kp [b] H (upd H b (.lst ws)) := fun ws => Kp.put hb
      refine .inl ⟨b, us, p.2, ?_, hb, tr, by rw [← hk]; exact List.mem_cons_self, by simp, fun x => ⟨?_, ?_⟩⟩
      · rw [ez, dGet_cons, if_pos (by rw [hk])]
      · unfold dAdd
        rw [if_pos hk]
        refine ⟨[b], a2, ⟨b, _, [], rfl, upd_same, (tr.snoc (show tree c H (V.int x) x [] from ⟨rfl, rfl⟩)).kp (kp _) (fun z hz => absurd hz (by simp)), rfl⟩, r.kp (kp _) fun z hz => ?_, rfl⟩
        have := nd'.2.2 b (by simp) z hz
        simpa using this.symm
      · unfold dAdd
        rw [if_pos hk]; rfl
    · have hk' : ¬ ((Sum.inl p.1 : Key) = Sum.inl k) := fun z => hk (Sum.inl.inj z)
      rcases dAdd_look k r nd'.2.1 with ⟨b, us, xs, h1, h2, h3, h6, h4, h5⟩ | ⟨h1, h2⟩
      · refine .inl ⟨b, us, xs, by rw [ez, dGet_cons, if_neg hk']; exact h1, h2, h3, List.mem_cons_of_mem _ h6, List.mem_append_right _ h4, fun x => ⟨?_, ?_⟩⟩
        · unfold dAdd
          rw [if_neg hk]
          refine ⟨a1, a2, tree_kp t (Kp.put h2) fun z hz => ?_, (h5 x).1, rfl⟩
          have := nd'.2.2 z hz b h4
          simpa using this
        · unfold dAdd
          rw [if_neg hk]
          show _ :: dKeys _ = _ :: dKeys _
          rw [(h5 x).2]
      · refine .inr ⟨by rw [ez, dGet_cons, if_neg hk']; exact h1, fun x => ?_⟩
        unfold dAdd
        rw [if_neg hk, h2 x]; rfl
theorem zip_snoc {α β : Type} : ∀ {xs : List α} {ys : List β} {x : α} {y : β}, xs.length = ys.length → (xs ++ [x]).zip (ys ++ [y]) = xs.zip ys ++ [(x, y)]
  | [], [], _, _, _ => rfl
  | a :: xs, b :: ys, x, y, h => by
    show (a, b) :: (xs ++ [x]).zip (ys ++ [y]) = (a, b) :: (xs.zip ys ++ [(x, y)])
    rw [zip_snoc (by simpa using h)]
theorem ws_setdef {i : Nat} {kvs : List (Int × List Int)} (hx : env[i]? = some (.ow (⟨kvs⟩ : Dc))) (h : WE .any env ta fun k : Int => (kvs.length < 1000 ∧ ∀ p ∈ kvs, p.2.length < 1000) ∧ ∀ e : List (Ent c), e[i]? = some .no → (∀ j, j ≠ i → e[j]? = env[j]?) → e.length = env.length → WE .any e te fun x : Int => R'.nx (env.set i (.ow (⟨dAdd k x kvs⟩ : Dc)))) :
    WS env (tDrop (tBM c.K "list" rAppend (tBM c.K "dict" rSetDef (tVar i) (tCons ta (tCons (tLst tNil) tNil))) (tCons te tNil))) R' := fun H0 F0 Fs σ H D S C => by
  obtain ⟨u, h1, v, e, t⟩ := S.at_ hx
  obtain ⟨d, vs, as, rfl, hd, tr, hF⟩ := t
  have hi : i < env.length := (List.getElem?_eq_some_iff.mp hx).1
  have hσ : σ[i]? = some (some (.ref d)) := by rw [h1, e]
  have nd := S.nd i
  rw [hF] at nd
  have nd' := List.nodup_cons.mp nd
  have hlen : (dKeys kvs).length = vs.length := by rw [tr.len]; unfold dKeys; rw [List.length_map, List.length_map]
  refine ⟨_, hσ, .inr (.inr (.inl ⟨rfl, .inl ⟨_, hd⟩⟩)), h S _ fun k w H1 ks rk s1 t1 _ => ⟨Nat.zero_le _, fun p hp => ?_⟩⟩
  obtain ⟨⟨hk1, hk2⟩, hte⟩ := rk
  have sp : Same H1 (upd H1 p (.lst [])) := Same.new hp
  have sH : Same H (upd H1 p (.lst [])) := s1.trans sp
  have hpH : H p = none := s1.free hp
  have hkl : (dKeys kvs).length = kvs.length := by unfold dKeys; rw [List.length_map]
  have hno : ∀ {j : Nat}, j ≠ i → (env.set i (Ent.no))[j]? = env[j]? := fun hj => List.getElem?_set_ne (Ne.symm hj)
  refine ⟨d, _, k, .ref p, rfl, by rw [t1.1], sH _ _ hd, ?_, ?_, ?_⟩
  · rw [List.length_zip, hkl]
    exact small1000 (Nat.le_trans (Nat.min_le_left _ _) (by omega))
  · intro u hu
    rcases dAdd_look k tr nd'.2 with ⟨b, us, xs, g1, g2, g3, g6, g4, g5⟩ | ⟨g1, _⟩
    · rw [g1] at hu
      cases hu
      have gb := sH _ _ g2
      refine ⟨.inl ⟨rfl, _, SqL.of gb⟩, hte (env.set i .no) (by rw [List.getElem?_set_self hi]) (fun j hj => hno hj) (by rw [List.length_set]) ((S.same sH).drop hi) _ fun x vx H2 xs' rx s2 t2 _ => ?_⟩
      have gb2 := s2 _ _ gb
      have hxl : us.length < 1000 := by rw [g3.len]; exact hk2 _ g6
      refine ⟨b, us, vx, rfl, rfl, gb2, small1000 (by omega), ?_⟩
      rw [t2.1]
      have sA : Same H H2 := sH.trans s2
      obtain ⟨b', us', xs'', g1', g2', g3', _, _, g5'⟩ : ∃ b us xs, dGet ((dKeys kvs).zip vs) (.inl k) = some (.ref b) ∧ H2 b = some (.lst us) ∧ Trees c H2 us xs [] ∧ (k, xs) ∈ kvs ∧ b ∈ as ∧ ∀ (x : Int), Trees c (upd H2 b (.lst (us ++ [.int x]))) vs ((dAdd k x kvs).map (·.2)) as ∧ dKeys (dAdd k x kvs) = dKeys kvs := by
        rcases dAdd_look k (tr.same sA) nd'.2 with q | ⟨q, _⟩
        · exact q
        · rw [g1] at q; cases q
      rw [g1] at g1'
      cases g1'
      rw [gb2] at g2'
      cases g2'
      have hdb : d ≠ b := fun z => by subst z; exact nd'.1 g4
      have kp : Kp [b] H2 (upd H2 b (.lst (us ++ [.int x]))) := Kp.put gb2
      have q := (S.same sA).put (as := Fs i) (v := some (.ref d)) (e := .ow (⟨dAdd k x kvs⟩ : Dc)) (kp.sub fun z hz => by rw [hF]; exact List.mem_cons_of_mem _ ((show z = b by simpa using hz) ▸ g4)) hi
        ⟨_, rfl, by rw [putF_same, hF]; exact ⟨d, vs, as, rfl, by rw [upd_ne hdb, (g5' x).2]; exact sA _ _ hd, (g5' x).1, rfl⟩⟩ (S.nd i) (fun z hz => .inl hz)
      rw [set_get hσ] at q
      exact C.nx _ _ _ _ rx q
    · rw [g1] at hu; cases hu
  · intro hu
    rcases dAdd_look k tr nd'.2 with ⟨b, us, xs, g1, _⟩ | ⟨g1, g2⟩
    · rw [g1] at hu; cases hu
    · have hdp : d ≠ p := ne_of_none hd hpH
      have hp2 : (upd (upd H1 p (.lst [])) d (.dK ((dKeys kvs).zip vs ++ [(.inl k, .ref p)]))) p = some (.lst []) := by rw [upd_ne (Ne.symm hdp), upd_same]
      have kd : Kp [d] (upd H1 p (.lst [])) (upd (upd H1 p (.lst [])) d (.dK ((dKeys kvs).zip vs ++ [(.inl k, .ref p)]))) := Kp.putM (sH _ _ hd) rfl rfl
      -- the state with the name left out, while the item is read
      have S1 := (S.same sH).put (H' := upd (upd H1 p (.lst [])) d (.dK ((dKeys kvs).zip vs ++ [(.inl k, .ref p)]))) (i := i) (as := Fs i) (v := some (.ref d)) (e := .ow (⟨kvs ++ [(k, [])]⟩ : Dc)) (kd.sub fun z hz => by rw [hF]; exact List.mem_cons.mpr (.inl (by simpa using hz))) hi
      have S2 : Sta H0 F0 (env.set i .no) (putF' Fs i []) σ (upd (upd H1 p (.lst [])) d (.dK ((dKeys kvs).zip vs ++ [(.inl k, .ref p)]))) := by
        have q := (S.same sH).put (as := []) (v := some (.ref d)) (e := .no) (kd.sub fun z hz => by rw [hF]; exact List.mem_cons.mpr (.inl (by simpa using hz))) hi putF_same List.nodup_nil (fun a ha => absurd ha (by simp))
        rwa [set_get hσ] at q
      refine ⟨.inl ⟨rfl, _, SqL.of hp2⟩, hte (env.set i .no) (by rw [List.getElem?_set_self hi]) (fun j hj => hno hj) (by rw [List.length_set]) S2 _ fun x vx H2 xs' rx s2 t2 _ => ?_⟩
      have hp3 := s2 _ _ hp2
      refine ⟨p, [], vx, rfl, rfl, hp3, by decide, ?_⟩
      rw [t2.1]
      have hd3 : H2 d = some (.dK ((dKeys kvs).zip vs ++ [(.inl k, .ref p)])) := s2 _ _ upd_same
      have pn : p ∉ as := fun z => by obtain ⟨o, eo, _⟩ := tr.isl p z; rw [hpH] at eo; cases eo
      have kp : Kp [p] H2 (upd H2 p (.lst ([] ++ [.int x]))) := Kp.put hp3
      have kall : Kp (d :: as) H (upd H2 p (.lst ([] ++ [.int x]))) := by
        refine ⟨fun b o eb q => ?_, fun b o eb hm => ?_⟩
        · have hbp : b ≠ p := ne_of_none eb hpH
          rw [upd_ne hbp]
          refine s2 _ _ ?_
          by_cases hb : b = d
          · subst hb
            rw [hd] at eb; cases eb
            rcases q with q | q
            · cases q
            · exact absurd List.mem_cons_self q
          · rw [upd_ne hb]; exact sH _ _ eb
        · have hbp : b ≠ p := ne_of_none eb hpH
          rw [upd_ne hbp]
          by_cases hb : b = d
          · subst hb; exact ⟨_, hd3, rfl⟩
          · exact ⟨o, s2 _ _ (by rw [upd_ne hb]; exact sH _ _ eb), hm⟩
      have trA : Trees c (upd H2 p (.lst ([] ++ [.int x]))) vs (kvs.map (·.2)) as := tr.frame fun b o eb q => by
        have hbp : b ≠ p := ne_of_none eb hpH
        rw [upd_ne hbp]
        refine s2 _ _ ?_
        by_cases hb : b = d
        · subst hb
          rw [hd] at eb; cases eb
          rcases q with q | q
          · cases q
          · exact absurd q nd'.1
        · rw [upd_ne hb]; exact sH _ _ eb
      have q := S.put (as := d :: (as ++ [p])) (v := some (.ref d)) (e := .ow (⟨dAdd k x kvs⟩ : Dc)) (by rw [hF]; exact kall) hi
        ⟨_, rfl, by
          rw [putF_same]
          refine ⟨d, vs ++ [.ref p], as ++ [p], rfl, ?_, ?_, rfl⟩
          · rw [upd_ne hdp, hd3, g2 x]
            congr 2
            show _ = (dKeys (kvs ++ [(k, [x])])).zip (vs ++ [V.ref p])
            unfold dKeys at hlen ⊢
            rw [List.map_append]
            exact (zip_snoc hlen).symm
          · rw [g2 x, List.map_append]
            exact trA.snoc ⟨p, _, [], rfl, upd_same, trees_ints [x], rfl⟩⟩
        (List.nodup_cons.mpr ⟨fun z => by
          rcases List.mem_append.mp z with y | y
          · exact nd'.1 y
          · exact hdp (by simpa using y), List.nodup_append.mpr ⟨nd'.2, nodup_one _, fun a ha b hb e => by
            have : b = p := by simpa using hb
            subst this; subst e
            exact pn ha⟩⟩) (fun b hb => by
          rw [hF]
          rcases List.mem_cons.mp hb with z | z
          · exact .inl (List.mem_cons.mpr (.inl z))
          · rcases List.mem_append.mp z with y | y
            · exact .inl (List.mem_cons_of_mem _ y)
            · have : b = p := by simpa using y
              subst this
              exact .inr hpH)
      rw [set_get hσ] at q
      exact C.nx _ _ _ _ rx q
theorem zip_snd {α β : Type} : ∀ {xs : List α} {ys : List β}, xs.length = ys.length → (xs.zip ys).map (·.2) = ys
  | [], [], _ => rfl
  | a :: xs, b :: ys, h => by
    show b :: (xs.zip ys).map (·.2) = b :: ys
    rw [zip_snd (by simpa using h)]
/-- list(d.values()) -/
theorem we_values {i : Nat} {kvs : List (Int × List Int)} {R : List (List Int) → Prop} (hx : env[i]? = some (.ow (⟨kvs⟩ : Dc))) (r : R (kvs.map (·.2))) :
    WE (.mv [i]) env (tCB (fun xs H Q => ∃ (v d : Addr) (kvs : List (Key × V)), xs = [.ref v] ∧ H v = some (viewO v d) ∧ H d = some (.dK kvs) ∧ ∀ l, H l = none → Q (.ref l) (upd H l (.lst (kvs.map (·.2)))))
      (tCons (tBM0 c.K "dict" rValues (tVar i)) tNil)) R := fun H0 F0 Fs σ H S Q k => by
  obtain ⟨u, h1, v, e, t⟩ := S.at_ hx
  obtain ⟨d, vs, as, rfl, hd, tr, hF⟩ := t
  have hlen : (dKeys kvs).length = vs.length := by rw [tr.len]; unfold dKeys; rw [List.length_map, List.length_map]
  refine ⟨V.ref d, by rw [h1, e], .inr (.inr (.inl ⟨rfl, .inl ⟨_, hd⟩⟩)), d, _, rfl, rfl, hd, fun v hv => ⟨v, d, _, rfl, upd_same, Same.new hv _ _ hd, fun l hl => ?_⟩⟩
  rw [zip_snd hlen]
  have s1 : Same H (upd H v (viewO v d)) := Same.new hv
  have s2 := s1.trans (Same.new (o := .lst vs) hl)
  have nd := S.nd i
  rw [hF] at nd
  refine k _ _ _ (l :: as) r s2 ⟨l, vs, as, rfl, upd_same, tr.same s2, rfl⟩ ⟨List.nodup_cons.mpr ⟨fun z => ?_, (List.nodup_cons.mp nd).2⟩, fun z hz => ?_⟩
  · obtain ⟨o, eo, _⟩ := tr.isl l z
    rw [s1.free hl] at eo; cases eo
  · rcases List.mem_cons.mp hz with q | q
    · rw [q]; exact .inl (s1.free hl)
    · exact .inr ⟨i, by simp, by rw [hF]; exact List.mem_cons_of_mem _ q⟩

/-! ### through another name -/
end
end
end L2

set_option Elab.async false
set_option linter.all false
set_option maxRecDepth 100000
set_option maxHeartbeats 4000000
/-! What the defs promise, over data. -/
namespace L2
open PySem PySem.Spec PyProof.Rows
section
variable {c : Ct}
def p_drawn : List (Ent c) → (Int → Prop) → Prop := fun es R => ∃ (ns : List Int) (k m : Int), es = [.sh (⟨ns⟩ : Sc), .sh k, .sh m] ∧ (0 ≤ k ∧ k < 4294967296) ∧ 0 < m ∧ ∀ n, 0 ≤ n → n < m → R n
def p_whole : List (Ent c) → (Bool → Prop) → Prop := fun es R => ∃ n : Int, es = [.sh n] ∧ R true
def p_laid : List (Ent c) → (NetD → Prop) → Prop := fun es R => ∃ (n : Int) (rs : List (Int × Int)), es = [.sh n, .sh rs] ∧ (1 ≤ n ∧ n ≤ 8) ∧ InNet n rs ∧ rs.length ≤ 24 ∧ R ⟨n, rs⟩
def p_stands : List (Ent c) → (Bool → Prop) → Prop := fun es R => ∃ (N : NetD) (n : Int) (rs : List (Int × Int)), es = [.sh N, .sh n, .sh rs] ∧ R (decide (N.n = n) && decide (N.rs = rs))
def p_closed : List (Ent c) → (List (Int × Int) × List Int → Prop) → Prop := fun es R => ∃ (ns : List Int) (n m base : Int), es = [.sh (⟨ns⟩ : Sc), .sh n, .sh m, .sh base] ∧ (1 ≤ n ∧ n ≤ 8) ∧ (0 ≤ m ∧ m ≤ 24) ∧ (0 ≤ base ∧ base ≤ 1000) ∧
  ∀ rs cs, (rs.length : Int) = m → InNet n rs → IsR rs cs → R (rs, cs)
def p_netby : List (Ent c) → (Int × List (Int × Int) → Prop) → Prop := fun es R => ∃ (ns : List Int) (most : Int), es = [.sh (⟨ns⟩ : Sc), .sh most] ∧ (0 ≤ most ∧ most ≤ 24) ∧ ∀ n rs, (1 ≤ n ∧ n ≤ 8) → InNet n rs → (rs.length : Int) ≤ most → R (n, rs)
def p_outs (f : Int × Int → Int) : List (Ent c) → (List Int → Prop) → Prop := fun es R => ∃ (N : NetD) (k : Int), es = [.sh N, .sh k] ∧ (0 ≤ k ∧ k < N.n) ∧ N.rs.length ≤ 24 ∧ R ((rng N.rs.length).filter fun j => decide ((N.rs[j.toNat]?).map f = some k))

/-! ### pure facts -/
theorem atI_ge {α : Type} {xs : List α} {i : Int} (h0 : 0 ≤ i) (h1 : i < xs.length) : ∃ v, atI xs i = some v ∧ xs[i.toNat]? = some v ∧ v ∈ xs := by
  obtain ⟨v, h, m⟩ := atI_mem (xs := xs) (i := i) (by omega) h1
  exact ⟨v, h, atI_lt h h0, m⟩
theorem rng_succ (n : Nat) : rng (n + 1) = rng n ++ [(n : Int)] := by unfold rng; rw [List.range_succ, List.map_append]; rfl
theorem rng_get {n i : Nat} (h : i < n) : (rng n)[i]? = some (i : Int) := by unfold rng; rw [List.getElem?_map, List.getElem?_range h]; rfl
/-- the numbers i below n with a property -/
theorem filter_rng_succ (n : Nat) (p : Int → Bool) : (rng (n + 1)).filter p = (rng n).filter p ++ if p n then [(n : Int)] else [] := by
  rw [rng_succ, List.filter_append]
  by_cases h : p n = true
  · rw [if_pos h, List.filter_cons_of_pos h, List.filter_nil]
  · rw [if_neg h, List.filter_cons_of_neg h, List.filter_nil]

theorem wt_true {env : List (Ent c)} {R : Bool → Prop} (h : R true) : WT env tTrue R := fun _ _ _ _ _ S Q k => k true _ h (Same.refl _)
/-- no test: every item is taken -/
theorem wt_all {env : List (Ent c)} {A : Prop} {B : Prop} (h : A) : WT env tTrue fun b => (b = true → A) ∧ (b = false → B) := wt_true ⟨fun _ => h, fun z => by cases z⟩
theorem we_need {env : List (Ent c)} {m : Md} {ta tb : TE} {E : XK} {R : Unit → Prop} (h : WE .any env ta fun N : NetD => WE .any env tb fun k : Int => (0 ≤ k ∧ k < N.n) ∧ R ()) : WE m env (tMeth c.C "need_place" (sp_need c.C) [] E ta (tCons tb tNil)) R :=
  fun _ _ _ _ _ S Q k => h S _ fun N v H1 as ra s1 t1 _ => by
    obtain ⟨p, r, rfl, hN, rfl⟩ := id t1
    obtain ⟨dx, hp⟩ := hN.ob
    refine ⟨p, dx, _, rfl, hp, flds_no _ _ (by decide +kernel) (by decide +kernel), ra (S.same s1) _ fun i u H2 bs rb s2 t2 _ => ?_⟩
    exact ⟨p, r, N.n, i, N.rs, by rw [t2.1]; rfl, hN.same s2, rb.1.1, rb.1.2, k () _ H2 [] rb.2 (s1.trans s2) ⟨rfl, rfl⟩ Md.nil⟩
/-- for x, y in xs -/
theorem ws_forLP {env : List (Ent c)} {α β γ : Type} [Rp c α] [Rp c β] [Rp c γ] {R : Rs c γ} {ta : TE} {i j : Nat} {tb : TS} (h : WE .sh env ta fun xs : List (α × β) => ∃ J : Nat → List (Ent c) → Prop, J 0 env ∧
      (∀ (k : Nat) x e, xs[k]? = some x → J k e → WS ((e.set i (.sh x.1)).set j (.sh x.2)) tb { nx := J (k + 1), ct := J (k + 1), bk := R.nx, rt := R.rt }) ∧ ∀ e, J xs.length e → R.nx e) :
    WS env (tFor (iList c.K ta) (gTup c.K 2 (gCons (gName i) (gCons (gName j) gNil))) tb) R := fun H0 F0 Fs σ H D S C => h S _ fun xs v H1 as ra s1 t1 o => by
  obtain ⟨J, j0, js, je⟩ := ra
  have S1 := S.same s1
  have out : ∀ a ∈ as, a ∉ allF env.length Fs := fun a ha z => by
    obtain ⟨j, _, hj⟩ := mem_allF.mp z
    exact o a ha j hj
  obtain ⟨a, vs, as', rfl, ha, tr, rfl⟩ := id t1
  refine ⟨a, rfl, ⟨vs, SqL.of ha⟩, for_list (xs := vs) (fun k σ' H' => ∃ e Fs', J k e ∧ Sta H1 (allF env.length Fs) e Fs' σ' H') ⟨env, Fs, j0, S1.rebase⟩ ?_ ?_ ?_⟩
  · rintro k σ' H' _ ⟨e, Fs', _, S'⟩
    exact SqL.of (S'.kp.keep a _ ha (.inr (out a List.mem_cons_self)))
  · rintro k x σ' H' hx ⟨e, Fs', hj, S'⟩
    have hk : k < xs.length := by rw [← tr.len]; exact (List.getElem?_eq_some_iff.mp hx).1
    have hk' : xs[k]? = some xs[k] := by simp [hk]
    have tr' := tr.kp S'.kp fun b hb => out b (List.mem_cons_of_mem _ hb)
    obtain ⟨w, b1, hw, t2, sb⟩ := tr'.get hk'
    rw [hx] at hw
    cases hw
    obtain ⟨p, v1, v2, a1, a2, rfl, hp, tt1, tt2, rfl⟩ := t2
    have dj : ∀ b ∈ a1 ++ a2, ∀ q, b ∉ Fs' q := fun b hb q hz => by
      have hb' : b ∈ a :: as' := List.mem_cons_of_mem _ (sb.subset hb)
      rcases S'.up q b hz with y | y
      · exact tree_dom t1 hb' y
      · exact out b hb' y
    obtain ⟨Fs2, S2, sub2⟩ := S'.set' i tt1 fun b hb q => dj b (List.mem_append_left _ hb) q
    obtain ⟨Fs3, S3, _⟩ := S2.set' j tt2 fun b hb q hz => dj b (List.mem_append_right _ hb) q (sub2 b q hz)
    exact ⟨p, _, rfl, SqT.of hp, rfl, _, _, rfl, _, _, rfl, rfl, js k _ e hk' hj S3 ⟨fun e2 F2 σ2 H2 r q => ⟨e2, F2, r, q⟩, fun e2 F2 σ2 H2 r q => C.nx e2 F2 σ2 H2 r (S1.unbase q), fun e2 F2 σ2 H2 r q => ⟨e2, F2, r, q⟩,
      fun y w H2 bs r k2 t3 nd up => C.rt y w H2 bs r (S1.kp.trans k2 fun x hx => S1.upW (.inr hx)) t3 nd fun b hb => S1.upW (up b hb)⟩⟩
  · rintro σ' H' ⟨e, Fs', hj, S'⟩
    rw [tr.len] at hj
    exact C.nx e Fs' σ' H' (je e hj) (S1.unbase S')
end
/-! ### a walk that comes back, numbered anew -/
def nm (xs : List Int) (i : Int) : Int := xs.getD i.toNat 0
theorem nm_at {xs : List Int} {i : Int} (h0 : 0 ≤ i) (h1 : i < xs.length) : atI xs i = some (nm xs i) := by
  obtain ⟨v, h, h2, _⟩ := atI_ge (xs := xs) h0 h1
  rw [h]
  unfold nm
  rw [List.getD_eq_getElem?_getD, h2]
  rfl
theorem nm_mem {xs : List Int} {i : Int} (h0 : 0 ≤ i) (h1 : i < xs.length) : nm xs i ∈ xs := by
  obtain ⟨v, h, h2, m⟩ := atI_ge (xs := xs) h0 h1
  unfold nm
  rw [List.getD_eq_getElem?_getD, h2]
  exact m
theorem map_idxOf : ∀ {xs : List Int}, xs.Nodup → xs.map (fun x => ((xs.idxOf x : Nat) : Int)) = rng xs.length := by
  intro xs nd
  apply List.ext_getElem?
  intro i
  by_cases hi : i < xs.length
  · rw [rng_get hi, List.getElem?_map, List.getElem?_eq_getElem hi]
    simp only [Option.map_some, Option.some.injEq]
    exact_mod_cast (List.Nodup.idxOf_getElem nd i hi)
  · rw [List.getElem?_eq_none (by rw [List.length_map]; omega), List.getElem?_eq_none (by rw [rng_len]; omega)]
theorem closed_isR {ws xs : List Int} {M : Nat} (hp : xs.Perm (rng M)) (f : Int → Int × Int) (hf : ∀ j : Int, f j = (nm ws j, nm ws ((j + 1) % (M : Int)))) : IsR (xs.map f) ((rng M).map fun k => ((xs.idxOf k : Nat) : Int)) := by
  have hl : xs.length = M := by rw [hp.length_eq, rng_len]
  have nd : xs.Nodup := hp.nodup_iff.mpr (rng_nodup M)
  have at_ : ∀ k : Nat, k < M → atI (xs.map f) ((xs.idxOf (k : Int) : Nat) : Int) = some (f k) := fun k hk => by
    have hm : (k : Int) ∈ xs := hp.mem_iff.mpr (mem_rng.mpr ⟨by omega, by omega⟩)
    have hi : xs.idxOf (k : Int) < xs.length := List.idxOf_lt_length_of_mem hm
    refine atI_nat ?_
    rw [List.getElem?_map, List.getElem?_eq_getElem hi, List.getElem_idxOf hi]
    rfl
  refine ⟨?_, fun k hk => ?_⟩
  · rw [List.length_map, ← map_idxOf nd]
    exact (hp.map _).symm
  · rw [List.length_map, rng_len] at hk
    have hb : ((rng M).map fun k => ((xs.idxOf k : Nat) : Int))[k]? = some ((xs.idxOf (k : Int) : Nat) : Int) := by rw [List.getElem?_map, rng_get hk]; rfl
    by_cases h0 : k = 0
    · subst h0
      refine ⟨((xs.idxOf ((M - 1 : Nat) : Int) : Nat) : Int), _, _, _, ?_, hb, at_ (M - 1) (by omega), at_ 0 hk, ?_⟩
      · unfold atI ixN
        rw [if_neg (by omega), if_pos (by rw [List.length_map, rng_len]; omega)]
        show ((rng M).map _)[_]? = _
        rw [List.length_map, rng_len, show (((0 : Nat) : Int) - 1 + (M : Int)).toNat = M - 1 by omega, List.getElem?_map, rng_get (by omega)]
        rfl
      · rw [hf, hf]
        show nm ws _ = nm ws _
        rw [show (((M - 1 : Nat) : Int) + 1) = (M : Int) by omega, Int.emod_self]
        rfl
    · refine ⟨((xs.idxOf ((k - 1 : Nat) : Int) : Nat) : Int), _, _, _, ?_, hb, at_ (k - 1) (by omega), at_ k hk, ?_⟩
      · have e : (k : Int) - 1 = ((k - 1 : Nat) : Int) := by omega
        rw [e]
        refine atI_nat ?_
        rw [List.getElem?_map, rng_get (by omega)]
        rfl
      · rw [hf, hf]
        show nm ws _ = nm ws _
        rw [show (((k - 1 : Nat) : Int) + 1) = (k : Int) by omega, Int.emod_eq_of_lt (by omega) (by omega)]
end L2

set_option Elab.async false
set_option linter.all false
set_option maxRecDepth 100000
set_option maxHeartbeats 4000000
/-! Parts of a net: pure facts. -/
namespace L2
open PySem PySem.Spec PyProof.Rows
def loI (a b : Int) : Int := if b < a then b else a
def hiI (a b : Int) : Int := if b > a then b else a
def relab (name : List Int) (e : Int × Int) : List Int := name.map fun o => if o = hiI (nm name e.1) (nm name e.2) then loI (nm name e.1) (nm name e.2) else o
def names (n : Nat) (rs : List (Int × Int)) : List Int := rs.foldl relab (rng n)
def used (rs : List (Int × Int)) : List Int := rs.map (·.1) ++ rs.map (·.2)
def root (nms : List Int) (rs : List (Int × Int)) (l : Int) : Bool := decide (l ∈ used rs) && decide (nm nms l = l)
def grp (nms : List Int) (rs : List (Int × Int)) (k : Nat) (f : Int) : List Int := (rng k).filter fun p => decide (nm nms p = f) && decide (p ∈ used rs)
def partsD (n : Nat) (rs : List (Int × Int)) : List (List Int) := ((rng n).map fun f => grp (names n rs) rs n f).filter fun xs => decide ((0 : Int) < (xs.length : Nat))
theorem nm_map {xs : List Int} {f : Int → Int} {i : Int} (h0 : 0 ≤ i) (h1 : i < xs.length) : nm (xs.map f) i = f (nm xs i) := by
  obtain ⟨v, _, h2, _⟩ := atI_ge (xs := xs) h0 h1
  unfold nm
  rw [List.getD_eq_getElem?_getD, List.getD_eq_getElem?_getD, List.getElem?_map, h2]
  rfl
theorem nm_rng {n : Nat} {i : Int} (h0 : 0 ≤ i) (h1 : i < n) : nm (rng n) i = i := by
  unfold nm
  rw [List.getD_eq_getElem?_getD, rng_get (by omega)]
  show ((i.toNat : Nat) : Int) = i
  omega
theorem mem_used {rs : List (Int × Int)} {e : Int × Int} {p : Int} : p ∈ used (rs ++ [e]) ↔ p ∈ used rs ∨ p = e.1 ∨ p = e.2 := by
  unfold used
  simp only [List.map_append, List.mem_append, List.map_cons, List.map_nil, List.mem_singleton]
  constructor
  · rintro ((h | h) | (h | h))
    · exact .inl (.inl h)
    · exact .inr (.inl h)
    · exact .inl (.inr h)
    · exact .inr (.inr h)
  · rintro ((h | h) | h | h)
    · exact .inl (.inl h)
    · exact .inr (.inl h)
    · exact .inl (.inr h)
    · exact .inr (.inr h)
structure NmOk (n : Nat) (rs : List (Int × Int)) (name : List Int) : Prop where
  len : name.length = n
  le : ∀ p : Int, 0 ≤ p → p < n → 0 ≤ nm name p ∧ nm name p ≤ p
  idem : ∀ p : Int, 0 ≤ p → p < n → nm name (nm name p) = nm name p
  us : ∀ p : Int, 0 ≤ p → p < n → p ∈ used rs → nm name p ∈ used rs
  un : ∀ p : Int, 0 ≤ p → p < n → p ∉ used rs → nm name p = p
theorem NmOk.start (n : Nat) : NmOk n [] (rng n) :=
  ⟨rng_len n, fun p h0 h1 => by rw [nm_rng h0 h1]; exact ⟨h0, Int.le_refl _⟩, fun p h0 h1 => by rw [nm_rng h0 h1, nm_rng h0 h1], fun p _ _ h => absurd h (by simp [used]), fun p h0 h1 _ => nm_rng h0 h1⟩
theorem lohi (a b : Int) : (loI a b = a ∨ loI a b = b) ∧ (hiI a b = a ∨ hiI a b = b) ∧ loI a b ≤ hiI a b := by
  unfold loI hiI
  by_cases h : b < a
  · rw [if_pos h, if_neg (by omega)]; exact ⟨.inr rfl, .inl rfl, by omega⟩
  · rw [if_neg h]
    by_cases h2 : b > a
    · rw [if_pos h2]; exact ⟨.inl rfl, .inr rfl, by omega⟩
    · rw [if_neg h2]; exact ⟨.inl rfl, .inl rfl, Int.le_refl _⟩
theorem NmOk.step {n : Nat} {rs : List (Int × Int)} {name : List Int} {e : Int × Int} (h : NmOk n rs name) (he : (0 ≤ e.1 ∧ e.1 < n) ∧ 0 ≤ e.2 ∧ e.2 < n) : NmOk n (rs ++ [e]) (relab name e) := by
  obtain ⟨⟨hx0, hx1⟩, hy0, hy1⟩ := he
  have ax := h.le e.1 hx0 hx1
  have ay := h.le e.2 hy0 hy1
  have ix := h.idem e.1 hx0 hx1
  have iy := h.idem e.2 hy0 hy1
  obtain ⟨l1, l2, l3⟩ := lohi (nm name e.1) (nm name e.2)
  have rel : ∀ p : Int, 0 ≤ p → p < n → nm (relab name e) p = if nm name p = hiI (nm name e.1) (nm name e.2) then loI (nm name e.1) (nm name e.2) else nm name p := fun p h0 h1 => nm_map h0 (by rw [h.len]; exact h1)
  generalize hlo : loI (nm name e.1) (nm name e.2) = lo at *
  generalize hhi : hiI (nm name e.1) (nm name e.2) = hi at *
  have lo0 : 0 ≤ lo ∧ lo < n := by rcases l1 with z | z <;> omega
  have hi0 : 0 ≤ hi ∧ hi < n := by rcases l2 with z | z <;> omega
  have nlo : nm name lo = lo := by rcases l1 with z | z <;> rw [z] <;> assumption
  have nhi : nm name hi = hi := by rcases l2 with z | z <;> rw [z] <;> assumption
  have uX : nm name e.1 ∈ used (rs ++ [e]) := by
    by_cases u : e.1 ∈ used rs
    · exact mem_used.mpr (.inl (h.us _ hx0 hx1 u))
    · rw [h.un _ hx0 hx1 u]; exact mem_used.mpr (.inr (.inl rfl))
  have uY : nm name e.2 ∈ used (rs ++ [e]) := by
    by_cases u : e.2 ∈ used rs
    · exact mem_used.mpr (.inl (h.us _ hy0 hy1 u))
    · rw [h.un _ hy0 hy1 u]; exact mem_used.mpr (.inr (.inr rfl))
  have ulo : lo ∈ used (rs ++ [e]) := by rcases l1 with z | z <;> rw [z] <;> assumption
  have uhi : hi ∈ used (rs ++ [e]) := by rcases l2 with z | z <;> rw [z] <;> assumption
  refine ⟨by unfold relab; rw [List.length_map, h.len], fun p h0 h1 => ?_, fun p h0 h1 => ?_, fun p h0 h1 hu => ?_, fun p h0 h1 hu => ?_⟩
  · have := h.le p h0 h1
    rw [rel p h0 h1]
    split <;> omega
  · have hp := h.le p h0 h1
    rw [rel p h0 h1]
    by_cases hh : nm name p = hi
    · rw [if_pos hh, rel lo lo0.1 lo0.2, nlo]
      split <;> first | rfl | assumption
    · rw [if_neg hh, rel _ hp.1 (by omega), h.idem p h0 h1, if_neg hh]
  · rw [rel p h0 h1]
    split
    · exact ulo
    · rcases mem_used.mp hu with z | z | z
      · exact mem_used.mpr (.inl (h.us p h0 h1 z))
      · rw [z]; exact uX
      · rw [z]; exact uY
  · have hu' : p ∉ used rs := fun z => hu (mem_used.mpr (.inl z))
    rw [rel p h0 h1, h.un p h0 h1 hu', if_neg]
    rintro rfl
    exact hu uhi
theorem names_ok {n : Nat} {rs : List (Int × Int)} (h : InNet n rs) : NmOk n rs (names n rs) := by
  have all : ∀ (rs pre : List (Int × Int)) (name : List Int), NmOk n pre name → InNet n rs → NmOk n (pre ++ rs) (rs.foldl relab name) := by
    intro rs
    induction rs with
    | nil => intro pre name h _; rw [List.append_nil]; exact h
    | cons e rs ih =>
      intro pre name h hin
      have := ih (pre ++ [e]) (relab name e) (h.step (hin e List.mem_cons_self)) fun x hx => hin x (List.mem_cons_of_mem _ hx)
      rwa [List.append_assoc] at this
  exact all rs [] (rng n) (.start n) h
theorem dAdd_mem {g : Int → List Int} {k x : Int} : ∀ {ls : List Int}, ls.Nodup → k ∈ ls → dAdd k x (ls.map fun l => (l, g l)) = ls.map fun l => (l, if l = k then g l ++ [x] else g l)
  | [], _, h => by simp at h
  | l :: ls, nd, h => by
    have nd' := List.nodup_cons.mp nd
    rw [List.map_cons, List.map_cons]
    unfold dAdd
    by_cases e : l = k
    · subst e
      rw [if_pos rfl, if_pos rfl]
      congr 1
      refine List.map_congr_left fun y hy => ?_
      rw [if_neg]
      rintro rfl
      exact nd'.1 hy
    · rw [if_neg e, if_neg e, dAdd_mem nd'.2 ((List.mem_cons.mp h).resolve_left (Ne.symm e))]
theorem dAdd_out {g : Int → List Int} {k x : Int} : ∀ {ls : List Int}, k ∉ ls → dAdd k x (ls.map fun l => (l, g l)) = (ls.map fun l => (l, g l)) ++ [(k, [x])]
  | [], _ => rfl
  | l :: ls, h => by
    have h1 : l ≠ k := fun e => h (by rw [e]; exact List.mem_cons_self)
    rw [List.map_cons]
    show (if l = k then _ else _) = _
    rw [if_neg h1, dAdd_out fun z => h (List.mem_cons_of_mem _ z)]
    rfl
/-- the groups of the places below k -/
def grps (nms : List Int) (rs : List (Int × Int)) (k : Nat) : List (Int × List Int) := ((rng k).filter (root nms rs)).map fun l => (l, grp nms rs k l)
theorem grp_succ (nms : List Int) (rs : List (Int × Int)) (k : Nat) (f : Int) : grp nms rs (k + 1) f = grp nms rs k f ++ if (decide (nm nms k = f) && decide ((k : Int) ∈ used rs)) = true then [(k : Int)] else [] := by
  unfold grp
  rw [filter_rng_succ]
theorem grps_skip {nms : List Int} {rs : List (Int × Int)} {k : Nat} (h : (k : Int) ∉ used rs) : grps nms rs (k + 1) = grps nms rs k := by
  unfold grps
  rw [filter_rng_succ, if_neg (by unfold root; rw [decide_eq_false h]; simp), List.append_nil]
  refine List.map_congr_left fun l _ => ?_
  rw [grp_succ, if_neg (by rw [decide_eq_false h]; simp), List.append_nil]
theorem grps_add {n : Nat} {nms : List Int} {rs : List (Int × Int)} {k : Nat} (h : NmOk n rs nms) (hk : k < n) (hu : (k : Int) ∈ used rs) : grps nms rs (k + 1) = dAdd (nm nms k) k (grps nms rs k) := by
  have hle := h.le k (by omega) (by omega)
  have nd : ((rng k).filter (root nms rs)).Nodup := (rng_nodup k).sublist List.filter_sublist
  by_cases hr : nm nms k = k
  · have h1 : nm nms k ∉ (rng k).filter (root nms rs) := fun z => by
      have := (mem_rng.mp (List.mem_filter.mp z).1)
      omega
    unfold grps
    rw [dAdd_out h1, filter_rng_succ, if_pos (by unfold root; rw [decide_eq_true hu, decide_eq_true hr]; rfl), List.map_append, hr]
    congr 1
    · refine List.map_congr_left fun l hl => ?_
      have := (mem_rng.mp (List.mem_filter.mp hl).1)
      rw [grp_succ, if_neg (by rw [decide_eq_false (show ¬ nm nms k = l by omega)]; simp), List.append_nil]
    · show [((k : Int), grp nms rs (k + 1) (k : Int))] = [((k : Int), [(k : Int)])]
      have e : grp nms rs k (k : Int) = [] := by
        unfold grp
        refine List.filter_eq_nil_iff.mpr fun p hp => ?_
        have q := mem_rng.mp hp
        have := h.le p (by omega) (by omega)
        rw [decide_eq_false (show ¬ nm nms p = (k : Int) by omega)]
        simp
      rw [grp_succ, e, if_pos (by rw [decide_eq_true hr, decide_eq_true hu]; rfl)]
      rfl
  · have hid := h.idem k (by omega) (by omega)
    have hus := h.us k (by omega) (by omega) hu
    have h1 : nm nms k ∈ (rng k).filter (root nms rs) := List.mem_filter.mpr ⟨mem_rng.mpr ⟨hle.1, by omega⟩, by unfold root; rw [decide_eq_true hus, decide_eq_true hid]; rfl⟩
    unfold grps
    rw [dAdd_mem nd h1, filter_rng_succ, if_neg (by unfold root; rw [decide_eq_false hr]; simp), List.append_nil]
    refine List.map_congr_left fun l hl => ?_
    rw [grp_succ]
    by_cases e : l = nm nms k
    · rw [if_pos (by rw [decide_eq_true e.symm, decide_eq_true hu]; rfl), if_pos e]
    · rw [if_neg (by rw [decide_eq_false (Ne.symm e)]; simp), List.append_nil, if_neg e]
theorem grps_end {n : Nat} {rs : List (Int × Int)} (h : NmOk n rs (names n rs)) : (grps (names n rs) rs n).map (·.2) = partsD n rs := by
  unfold grps partsD
  rw [List.map_map, List.filter_map]
  have e : (rng n).filter (root (names n rs) rs) = (rng n).filter ((fun xs : List Int => decide ((0 : Int) < (xs.length : Nat))) ∘ fun f => grp (names n rs) rs n f) := by
    refine List.filter_congr fun l hl => ?_
    have hl' := mem_rng.mp hl
    show root (names n rs) rs l = decide ((0 : Int) < ((grp (names n rs) rs n l).length : Nat))
    cases hr : root (names n rs) rs l with
    | true =>
      unfold root at hr
      have hr' := Bool.and_eq_true_iff.mp hr
      have m : l ∈ grp (names n rs) rs n l := List.mem_filter.mpr ⟨hl, by rw [Bool.and_comm]; exact hr⟩
      have := List.length_pos_of_mem m
      exact (decide_eq_true (by omega)).symm
    | false =>
      refine (decide_eq_false fun z => ?_).symm
      have hp : 0 < (grp (names n rs) rs n l).length := by omega
      obtain ⟨p, hp⟩ := List.exists_mem_of_length_pos hp
      have q := List.mem_filter.mp hp
      have q1 := mem_rng.mp q.1
      have q2 := Bool.and_eq_true_iff.mp q.2
      have e1 : nm (names n rs) p = l := of_decide_eq_true q2.1
      have e2 := h.us p q1.1 q1.2 (of_decide_eq_true q2.2)
      have e3 := h.idem p q1.1 q1.2
      rw [e1] at e2 e3
      unfold root at hr
      rw [decide_eq_true e2, decide_eq_true e3] at hr
      cases hr
  rw [← e]
  rfl
section
variable {c : Ct}
def p_least : List (Ent c) → (List Int → Prop) → Prop := fun es R => ∃ N : NetD, es = [.sh N] ∧ (1 ≤ N.n ∧ N.n ≤ 8) ∧ InNet N.n N.rs ∧ N.rs.length ≤ 24 ∧ R (names N.n.toNat N.rs)
def p_parts : List (Ent c) → (List (List Int) → Prop) → Prop := fun es R => ∃ N : NetD, es = [.sh N] ∧ (1 ≤ N.n ∧ N.n ≤ 8) ∧ InNet N.n N.rs ∧ N.rs.length ≤ 24 ∧ R (partsD N.n.toNat N.rs)
def p_qparts : List (Ent c) → (List (List Int) → Prop) → Prop := fun es R => ∃ (n : Int) (rs : List (Int × Int)), es = [.sh n, .sh rs] ∧ (1 ≤ n ∧ n ≤ 8) ∧ InNet n rs ∧ rs.length ≤ 100 ∧ R (partsD n.toNat rs)
end
theorem foldl_take {α β : Type} (f : β → α → β) (b : β) {xs : List α} {k : Nat} {x : α} (h : xs[k]? = some x) : (xs.take (k + 1)).foldl f b = f ((xs.take k).foldl f b) x := by
  rw [List.take_add_one, h, List.foldl_append]
  rfl
theorem InNet.take {n : Int} {rs : List (Int × Int)} (h : InNet n rs) (k : Nat) : InNet n (rs.take k) := fun e he => h e (List.take_subset _ _ he)
section
variable {c : Ct}
def p_law : List (Ent c) → (Bool → Prop) → Prop := fun es R => ∃ ns : List Int, es = [.sh (⟨ns⟩ : Sc)] ∧ ns.length ≤ 63 ∧ R true
theorem law_sp {vs : List V} {H : Hp} {Q : VK} {E : XK} (h : sp_law c.K vs H Q E) : spF c p_law vs H Q E := by
  obtain ⟨a, ns, rfl, hS, hl, k⟩ := h
  exact ⟨[.sh (⟨ns⟩ : Sc)], fun b => b = true, ⟨ns, rfl, hl, rfl⟩, ⟨⟨[], a, rfl, hS, rfl⟩, trivial⟩, fun x v H' as rx s t nd n => by subst rx; rw [t.1]; exact k H'⟩
end
theorem outs_used {rs : List (Int × Int)} {f : Int × Int → Int} {k : Int} : (!((rng rs.length).filter fun j => decide ((rs[j.toNat]?).map f = some k)).isEmpty) = decide (k ∈ rs.map f) := by
  by_cases h : k ∈ rs.map f
  · rw [decide_eq_true h]
    obtain ⟨e, he, rfl⟩ := List.mem_map.mp h
    obtain ⟨j, hj, e2⟩ := List.mem_iff_getElem.mp he
    have m : (j : Int) ∈ (rng rs.length).filter fun j => decide ((rs[j.toNat]?).map f = some (f e)) := List.mem_filter.mpr ⟨mem_rng.mpr ⟨by omega, by omega⟩, decide_eq_true (by rw [Int.toNat_natCast, List.getElem?_eq_getElem hj, e2]; rfl)⟩
    cases q : (rng rs.length).filter fun j => decide ((rs[j.toNat]?).map f = some (f e)) with
    | nil => rw [q] at m; simp at m
    | cons _ _ => rfl
  · rw [decide_eq_false h]
    have e : ((rng rs.length).filter fun j => decide ((rs[j.toNat]?).map f = some k)) = [] := by
      refine List.filter_eq_nil_iff.mpr fun j hj => ?_
      intro z
      have z' := of_decide_eq_true z
      cases q : rs[j.toNat]? with
      | none => rw [q] at z'; cases z'
      | some e =>
        rw [q] at z'
        exact h (List.mem_map.mpr ⟨e, List.mem_of_getElem? q, Option.some.inj z'⟩)
    rw [e]
    rfl
end L2

set_option Elab.async false
set_option linter.all false
set_option maxRecDepth 100000
set_option maxHeartbeats 4000000
/-! Rounds and orders: pure facts. -/
namespace L2
open PySem PySem.Spec PyProof.Rows
def sp (rs : List (Int × Int)) (r : Int) : Int := (rs.getD r.toNat (0, 0)).1
def en (rs : List (Int × Int)) (r : Int) : Int := (rs.getD r.toNat (0, 0)).2
theorem rd_at {rs : List (Int × Int)} {r : Int} (h0 : 0 ≤ r) (h1 : r < rs.length) : atI rs r = some (sp rs r, en rs r) := by
  obtain ⟨v, h, h2, _⟩ := atI_ge (xs := rs) h0 h1
  rw [h]
  unfold sp en
  rw [List.getD_eq_getElem?_getD, h2]
  rfl
theorem rd_get {rs : List (Int × Int)} {r : Int} (h0 : 0 ≤ r) (h1 : r < rs.length) : rs[r.toNat]? = some (sp rs r, en rs r) := atI_lt (rd_at h0 h1) h0
theorem rd_in {rs : List (Int × Int)} {n r : Int} (hin : InNet n rs) (h0 : 0 ≤ r) (h1 : r < rs.length) : (0 ≤ sp rs r ∧ sp rs r < n) ∧ 0 ≤ en rs r ∧ en rs r < n := hin _ (List.mem_of_getElem? (rd_get h0 h1))
section
variable {rs : List (Int × Int)} {cs : List Int}
theorem IsR.len (h : IsR rs cs) : cs.length = rs.length := by rw [h.1.length_eq, rng_len]
theorem IsR.mem (h : IsR rs cs) {x : Int} (hx : x ∈ cs) : 0 ≤ x ∧ x < rs.length := mem_rng.mp (h.1.mem_iff.mp hx)
theorem IsR.step (h : IsR rs cs) {k : Nat} {x y : Int} (hx : cs[k]? = some x) (hy : cs[k + 1]? = some y) : en rs x = sp rs y := by
  have hk : k + 1 < cs.length := (List.getElem?_eq_some_iff.mp hy).1
  obtain ⟨a, b, e, f, h1, h2, h3, h4, h5⟩ := h.2 (k + 1) hk
  have ea : a = x := by
    have : atI cs (k : Int) = some x := atI_nat hx
    rw [show (((k + 1 : Nat) : Int) - 1) = (k : Int) by omega, this] at h1
    exact (Option.some.inj h1).symm
  have eb : b = y := by rw [hy] at h2; exact (Option.some.inj h2).symm
  subst ea; subst eb
  have mx := h.mem (List.mem_of_getElem? hx)
  have my := h.mem (List.mem_of_getElem? hy)
  rw [rd_at mx.1 mx.2] at h3
  rw [rd_at my.1 my.2] at h4
  cases h3; cases h4
  exact h5
theorem IsR.close (h : IsR rs cs) {x y : Int} (hx : cs[0]? = some x) (hy : cs[cs.length - 1]? = some y) : en rs y = sp rs x := by
  have hk : 0 < cs.length := (List.getElem?_eq_some_iff.mp hx).1
  obtain ⟨a, b, e, f, h1, h2, h3, h4, h5⟩ := h.2 0 hk
  have ea : a = y := by
    unfold atI ixN at h1
    rw [if_neg (by omega), if_pos (by omega)] at h1
    have h1' : cs[(((0 : Nat) : Int) - 1 + (cs.length : Int)).toNat]? = some a := h1
    rw [show (((0 : Nat) : Int) - 1 + (cs.length : Int)).toNat = cs.length - 1 by omega, hy] at h1'
    exact (Option.some.inj h1').symm
  have eb : b = x := by rw [hx] at h2; exact (Option.some.inj h2).symm
  subst ea; subst eb
  have mx := h.mem (List.mem_of_getElem? hx)
  have my := h.mem (List.mem_of_getElem? hy)
  rw [rd_at my.1 my.2] at h3
  rw [rd_at mx.1 mx.2] at h4
  cases h3; cases h4
  exact h5
theorem IsR.shift (h : IsR rs cs) : cs.map (en rs) = (cs.map (sp rs)).drop 1 ++ (cs.map (sp rs)).take 1 := by
  cases hc : cs with
  | nil => rfl
  | cons x xs =>
    rw [← hc]
    have hx : cs[0]? = some x := by rw [hc]; rfl
    have hl : 0 < cs.length := by rw [hc]; simp
    apply List.ext_getElem?
    intro k
    by_cases hk : k < cs.length
    · have h1 : cs[k]? = some cs[k] := by simp [hk]
      rw [List.getElem?_map, h1]
      by_cases hk1 : k + 1 < cs.length
      · have h2 : cs[k + 1]? = some cs[k + 1] := by simp [hk1]
        rw [List.getElem?_append_left (by rw [List.length_drop, List.length_map]; omega), List.getElem?_drop, List.getElem?_map, show 1 + k = k + 1 by omega, h2]
        show some (en rs cs[k]) = some (sp rs cs[k + 1])
        rw [h.step h1 h2]
      · have ek : k = cs.length - 1 := by omega
        rw [List.getElem?_append_right (by rw [List.length_drop, List.length_map]; omega), List.length_drop, List.length_map, show k - (cs.length - 1) = 0 by omega, List.getElem?_take_of_lt (by omega), List.getElem?_map, hx]
        show some (en rs cs[k]) = some (sp rs x)
        rw [h.close hx (by rw [← ek]; exact h1)]
    · rw [List.getElem?_eq_none (by rw [List.length_map]; omega), List.getElem?_eq_none (by rw [List.length_append, List.length_drop, List.length_take, List.length_map]; omega)]
theorem IsR.even (h : IsR rs cs) (p : Int) : (cs.filter fun r => decide (sp rs r = p)).length = (cs.filter fun r => decide (en rs r = p)).length := by
  have e1 : ∀ (f : Int → Int), (cs.filter fun r => decide (f r = p)).length = ((cs.map f).filter fun x => decide (x = p)).length := fun f => by
    rw [List.filter_map, List.length_map]
    rfl
  rw [e1, e1, h.shift, List.filter_append, List.length_append, Nat.add_comm, ← List.length_append, ← List.filter_append, List.take_append_drop]
/-- the roads from (to) a place -/
theorem outs_eq {f : Int × Int → Int} {g : Int → Int} {p : Int} (hg : ∀ r : Int, 0 ≤ r → r < rs.length → (rs[r.toNat]?).map f = some (g r)) : ((rng rs.length).filter fun j => decide ((rs[j.toNat]?).map f = some p)) = (rng rs.length).filter fun j => decide (g j = p) :=
  List.filter_congr fun j hj => by
    have := mem_rng.mp hj
    rw [hg j this.1 this.2]
    by_cases e : g j = p <;> simp [e]
theorem outs_sp (p : Int) : ((rng rs.length).filter fun j => decide ((rs[j.toNat]?).map (·.1) = some p)) = (rng rs.length).filter fun j => decide (sp rs j = p) :=
  outs_eq fun r h0 h1 => by rw [rd_get h0 h1]; rfl
theorem outs_en (p : Int) : ((rng rs.length).filter fun j => decide ((rs[j.toNat]?).map (·.2) = some p)) = (rng rs.length).filter fun j => decide (en rs j = p) :=
  outs_eq fun r h0 h1 => by rw [rd_get h0 h1]; rfl
theorem IsR.evenO (h : IsR rs cs) (p : Int) : ((rng rs.length).filter fun j => decide ((rs[j.toNat]?).map (·.1) = some p)).length = ((rng rs.length).filter fun j => decide ((rs[j.toNat]?).map (·.2) = some p)).length := by
  rw [outs_sp, outs_en, ← (h.1.filter _).length_eq, ← (h.1.filter _).length_eq]
  exact h.even p
end
/-! ### orders -/
/-! ### walks by orders -/
def tot (w : List (List Int)) : Nat := (w.map List.length).sum
def walkF (rs : List (Int × Int)) : Nat → List (List Int) → Int → List Int
  | 0, _, _ => []
  | f + 1, w, p => match w.getD p.toNat [] with
    | [] => []
    | r :: rest => r :: walkF rs f (w.set p.toNat rest) (en rs r)
theorem tot_set : ∀ {w : List (List Int)} {j : Nat} {r : Int} {rest : List Int}, w[j]? = some (r :: rest) → tot (w.set j rest) + 1 = tot w
  | [], _, _, _, h => by simp at h
  | x :: w, 0, r, rest, h => by
    simp at h; subst h
    unfold tot
    simp
    omega
  | x :: w, j + 1, r, rest, h => by
    have ih := tot_set (w := w) (j := j) (r := r) (rest := rest) (by simpa using h)
    unfold tot at ih ⊢
    simp only [List.set_cons_succ, List.map_cons, List.sum_cons] at ih ⊢
    omega
theorem getD_some {w : List (List Int)} {j : Nat} {r : Int} {rest : List Int} (h : w.getD j [] = r :: rest) : w[j]? = some (r :: rest) := by
  rw [List.getD_eq_getElem?_getD] at h
  cases e : w[j]? with
  | none => rw [e] at h; cases h
  | some x => rw [e] at h; exact congrArg some h
/-- the walk, with all the roads that there are -/
def walkD (rs : List (Int × Int)) (w : List (List Int)) (p : Int) : List Int := walkF rs (tot w) w p
/-! ### rounds, begun elsewhere -/
theorem IsR.of_cyc {rs : List (Int × Int)} {cs : List Int} (hp : cs.Perm (rng rs.length)) (h : ∀ (i : Nat) (x y : Int), cs[i]? = some x → cs[(i + 1) % cs.length]? = some y → en rs x = sp rs y) : IsR rs cs := by
  have hm : ∀ {x : Int}, x ∈ cs → 0 ≤ x ∧ x < rs.length := fun hx => mem_rng.mp (hp.mem_iff.mp hx)
  refine ⟨hp, fun k hk => ?_⟩
  have hb : cs[k]? = some cs[k] := by simp [hk]
  have mb := hm (List.mem_of_getElem? hb)
  by_cases h0 : k = 0
  · subst h0
    have ha : cs[cs.length - 1]? = some (cs[cs.length - 1]'(by omega)) := by simp
    have ma := hm (List.mem_of_getElem? ha)
    refine ⟨_, _, _, _, ?_, hb, rd_at ma.1 ma.2, rd_at mb.1 mb.2, h (cs.length - 1) _ _ ha ?_⟩
    · unfold atI ixN
      rw [if_neg (by omega), if_pos (by omega)]
      show cs[_]? = _
      rw [show (((0 : Nat) : Int) - 1 + (cs.length : Int)).toNat = cs.length - 1 by omega]
      exact ha
    · rw [show cs.length - 1 + 1 = cs.length by omega, Nat.mod_self]
      exact hb
  · have ha : cs[k - 1]? = some (cs[k - 1]'(by omega)) := by simp
    have ma := hm (List.mem_of_getElem? ha)
    refine ⟨_, _, _, _, ?_, hb, rd_at ma.1 ma.2, rd_at mb.1 mb.2, h (k - 1) _ _ ha ?_⟩
    · rw [show (k : Int) - 1 = ((k - 1 : Nat) : Int) by omega]
      exact atI_nat ha
    · rw [show k - 1 + 1 = k by omega, Nat.mod_eq_of_lt hk]
      exact hb
theorem cut_from {α : Type} {xs : List α} {t : Int} (h0 : 0 ≤ t) (h1 : t ≤ xs.length) : cutL xs (some t) none = xs.drop t.toNat := by
  obtain ⟨t, rfl⟩ := Int.eq_ofNat_of_zero_le h0
  unfold cutL
  rw [HT.sIx_nat, HT.sIx_none, Nat.min_eq_left (by omega)]
  exact List.take_of_length_le (by rw [List.length_drop]; omega)
theorem cut_to {α : Type} {xs : List α} {t : Int} (h0 : 0 ≤ t) (h1 : t ≤ xs.length) : cutL xs none (some t) = xs.take t.toNat := by
  obtain ⟨t, rfl⟩ := Int.eq_ofNat_of_zero_le h0
  unfold cutL
  rw [HT.sIx_nat, HT.sIx_none, Nat.min_eq_left (by omega)]
  rfl
/-! ### promises -/
def outsD (rs : List (Int × Int)) (p : Int) : List Int := (rng rs.length).filter fun j => decide ((rs[j.toNat]?).map (·.1) = some p)
def insD (rs : List (Int × Int)) (p : Int) : List Int := (rng rs.length).filter fun j => decide ((rs[j.toNat]?).map (·.2) = some p)
def oddD (n : Nat) (rs : List (Int × Int)) : List Int := (rng n).filter fun p => !decide (((outsD rs p).length : Int) = ((insD rs p).length : Int))
theorem outsD_len (rs : List (Int × Int)) (p : Int) : (outsD rs p).length ≤ rs.length := by
  have := List.length_filter_le (fun j => decide ((rs[j.toNat]?).map (·.1) = some p)) (rng rs.length)
  rwa [rng_len] at this
/-- orders: for each place its roads, each once -/
def Good (n : Nat) (rs : List (Int × Int)) (rows : List (List Int)) : Prop := rows.length = n ∧ ∀ (j : Nat) (row : List Int), rows[j]? = some row → row.Perm (outsD rs j)
theorem IsR.odd {rs : List (Int × Int)} {cs : List Int} (h : IsR rs cs) (n : Nat) : oddD n rs = [] := List.filter_eq_nil_iff.mpr fun p _ => by
  have := h.evenO p
  unfold outsD insD
  rw [this]
  simp
section
variable {c : Ct}
def p_odd : List (Ent c) → (List Int → Prop) → Prop := fun es R => ∃ N : NetD, es = [.sh N] ∧ (1 ≤ N.n ∧ N.n ≤ 8) ∧ N.rs.length ≤ 24 ∧ R (oddD N.n.toNat N.rs)
end
theorem tot_le : ∀ {w : List (List Int)} {b : Nat}, (∀ x ∈ w, x.length ≤ b) → tot w ≤ w.length * b
  | [], _, _ => Nat.zero_le _
  | x :: w, b, h => by
    have ih := tot_le (w := w) (b := b) fun y hy => h y (List.mem_cons_of_mem _ hy)
    have hx := h x List.mem_cons_self
    unfold tot at ih ⊢
    simp only [List.map_cons, List.sum_cons, List.length_cons]
    rw [Nat.succ_mul]
    omega
end L2

set_option Elab.async false
set_option linter.all false
set_option maxRecDepth 100000
set_option maxHeartbeats 4000000
/-! Own rules, part 15: a def that changes the data of its last argument, which is its own. -/
namespace L2
open PySem PySem.Spec PyProof.Rows
section
variable {c : Ct}
/-- data that lie at a known value -/
structure Pin (v0 : V) (γ : Type) where
  w : γ
instance {v0 : V} {γ : Type} [Rp c γ] : Rp c (Pin v0 γ) where
  tree := fun H v x as => v = v0 ∧ tree c H v x.w as
  isl := fun h => Rp.isl (c := c) h.2
  frame := fun h k => ⟨h.1, Rp.frame (c := c) h.2 k⟩
/-- what comes, and what lies at a known value -/
structure Wt (v0 : V) (β γ : Type) where
  x : β
  w : γ
instance {v0 : V} {β γ : Type} [Rp c β] [Rp c γ] : Rp c (Wt v0 β γ) where
  tree := fun H v x as => ∃ a b, tree c H v x.x a ∧ tree c H v0 x.w b ∧ as = a ++ b
  isl := fun h z hz => by
    obtain ⟨a, b, h1, h2, rfl⟩ := h
    rcases List.mem_append.mp hz with q | q
    · exact Rp.isl h1 z q
    · exact Rp.isl h2 z q
  frame := fun h k => by
    obtain ⟨a, b, h1, h2, rfl⟩ := h
    exact ⟨a, b, Rp.frame h1 fun z o e q => k z o e (q.imp id fun y => List.mem_append_left _ y), Rp.frame h2 fun z o e q => k z o e (q.imp id fun y => List.mem_append_right _ y), rfl⟩
/-- arguments apart from some addresses -/
def ArgsD (H : Hp) (as : List Addr) : List V → List (Ent c) → Prop
  | [], [] => True
  | v :: vs, @Ent.en _ _ α inst x :: es => (∃ bs, @Rp.tree c α inst H v x bs ∧ ∀ b ∈ bs, b ∉ as) ∧ ArgsD H as vs es
  | _, _ => False
theorem ArgsD.len {H : Hp} {as : List Addr} : ∀ {vs : List V} {es : List (Ent c)}, ArgsD H as vs es → vs.length = es.length
  | [], [], _ => rfl
  | _ :: _, @Ent.en _ _ α inst x :: _, h => by rw [List.length_cons, List.length_cons, ArgsD.len h.2]
theorem ArgsD.get {H : Hp} {as : List Addr} : ∀ {vs : List V} {es : List (Ent c)} {i : Nat} {e : Ent c}, ArgsD H as vs es → es[i]? = some e →
    ∃ v, vs[i]? = some v ∧ ∀ Fs : Nat → List Addr, Fs i = [] → (∀ j, ∀ a ∈ Fs j, a ∈ as) → EntOk H Fs i (some v) e.bor
  | [], [], _, _, _, he => by simp at he
  | v :: _, @Ent.en _ o α inst x :: _, 0, e, h, he => by
    simp at he; subst he
    obtain ⟨⟨bs, t, d⟩, _⟩ := h
    exact ⟨v, rfl, fun Fs h1 h2 => ⟨h1, v, bs, rfl, t, fun a ha j hj => d a ha (h2 j a hj)⟩⟩
  | _ :: vs, @Ent.en _ o α inst x :: es, i + 1, e, h, he => by
    obtain ⟨w, h1, h2⟩ := ArgsD.get (i := i) (e := e) h.2 (by simpa using he)
    refine ⟨w, by simpa using h1, fun Fs f1 f2 => ?_⟩
    have := h2 (fun j => if j = i then [] else as) (by simp) (fun j a ha => by
      have ha' : a ∈ (if j = i then [] else as) := ha
      split at ha' <;> simp_all)
    cases e with
    | no => exact f1
    | en o x =>
      obtain ⟨_, v, bs, e1, t, d⟩ := this
      refine ⟨f1, v, bs, e1, t, fun a ha j hj => ?_⟩
      have : ¬ a ∈ (if i + 1 = i then [] else as) := d a ha (i + 1)
      rw [if_neg (by omega)] at this
      exact this (f2 j a hj)
section
variable {env : List (Ent c)} {m : Md} {ta tb te : TE} {tc : TT} {t u : TS} {α β γ : Type} [Rp c α] [Rp c β] [Rp c γ] {v0 : V}
theorem we_varP {i : Nat} {o : Bool} {x : γ} {R : γ → Prop} (h : env[i]? = some (.en o (⟨x⟩ : Pin v0 γ))) (q : R x) : WE .any env (tVar i) R := fun _ _ _ _ _ S Q k => by
  obtain ⟨v, as, e, t⟩ := S.var h
  exact ⟨v, e, k x v _ as q (Same.refl _) t.2 trivial⟩
/-- return, with what lies in the own argument -/
theorem ws_retM {S' : List Nat} {R : Rs c (Wt v0 β γ)} {i : Nat} {w : γ} (hi : env[i]? = some (.ow (⟨w⟩ : Pin v0 γ))) (hS : i ∉ S') (h : WE (.mv S') env te fun x : β => R.rt ⟨x, w⟩) : WS env (tRet te) R := fun H0 F0 Fs σ H D S C => h S _ fun x v H' as r s t o => by
  obtain ⟨u, h1, v', e, tv⟩ := S.at_ hi
  obtain ⟨rfl, tw⟩ := tv
  refine C.rt ⟨x, w⟩ v H' (as ++ Fs i) r (S.kp.same s) ⟨as, Fs i, t, tree_same tw s, rfl⟩ (List.nodup_append.mpr ⟨o.1, S.nd i, fun a ha b hb z => ?_⟩) fun a ha => ?_
  · subst z
    rcases o.2 a ha with q | ⟨j, hj, q⟩
    · obtain ⟨o', e', _⟩ := S.isl hb
      rw [q] at e'; cases e'
    · exact S.dj j i (fun z => hS (z ▸ hj)) a q hb
  · rcases List.mem_append.mp ha with z | z
    · rcases o.2 a z with q | ⟨j, _, q⟩
      · exact .inl (S.kp.free q)
      · exact S.up j a q
    · exact S.up i a z
theorem putF_id {Fs : Nat → List Addr} {i : Nat} : putF' Fs i (Fs i) = Fs := by
  funext k
  by_cases hk : k = i
  · subst hk; exact putF_same
  · exact putF_ne hk
theorem Sta.unpin {H0 H : Hp} {F0 : List Addr} {Fs : Nat → List Addr} {σ : St} (S : Sta H0 F0 env Fs σ H) {i : Nat} {w : γ} (h : env[i]? = some (.ow (⟨w⟩ : Pin v0 γ))) : Sta H0 F0 (env.set i (.ow w)) Fs σ H ∧ σ[i]? = some (some v0) := by
  have hi : i < env.length := (List.getElem?_eq_some_iff.mp h).1
  obtain ⟨u, h1, v, e, t⟩ := S.at_ h
  obtain ⟨rfl, tw⟩ := t
  have q := S.put (as := Fs i) (v := some v) (e := .ow w) (Kp.refl H) hi ⟨_, rfl, by rw [putF_same]; exact tw⟩ (S.nd i) (fun z hz => .inl hz)
  rw [set_get (l := σ) (by rw [h1, e]), putF_id] at q
  exact ⟨q, by rw [h1, e]⟩
theorem Sta.pin {H0 H : Hp} {F0 : List Addr} {Fs : Nat → List Addr} {σ : St} (S : Sta H0 F0 env Fs σ H) {i : Nat} {w : γ} (h : env[i]? = some (.ow w)) (hv : σ[i]? = some (some v0)) : Sta H0 F0 (env.set i (.ow (⟨w⟩ : Pin v0 γ))) Fs σ H := by
  have hi : i < env.length := (List.getElem?_eq_some_iff.mp h).1
  obtain ⟨u, h1, v, e, t⟩ := S.at_ h
  rw [hv] at h1
  cases h1; cases e
  have q := S.put (as := Fs i) (v := some v0) (e := .ow (⟨w⟩ : Pin v0 γ)) (Kp.refl H) hi ⟨_, rfl, by rw [putF_same]; exact ⟨rfl, t⟩⟩ (S.nd i) (fun z hz => .inl hz)
  rw [set_get (l := σ) hv, putF_id] at q
  exact q
/-- y = xss[k].pop(0), xss at a known value -/
theorem ws_popIP [Flat c α] {R' : Rs c β} {i l : Nat} {xss : List (List α)} (hx : env[i]? = some (.ow (⟨xss⟩ : Pin v0 (List (List α))))) (hli : l ≠ i) (h : WE .any env ta fun k : Int => ∃ j x xs, ixN xss.length k = some j ∧ xss[j]? = some (x :: xs) ∧ R'.nx ((env.set i (.ow (⟨xss.set j xs⟩ : Pin v0 (List (List α))))).set l (.sh x))) :
    WS env (tAsg (tBM c.K "list" rPopAt (tOp (rIxL c.K) (tVar i) ta) (tCons (tC (.int 0)) tNil)) (gName l)) R' := fun H0 F0 Fs σ H D S C => by
  have hi : i < env.length := (List.getElem?_eq_some_iff.mp hx).1
  obtain ⟨SU, hv⟩ := S.unpin hx
  have hx' : (env.set i (.ow xss))[i]? = some (.ow xss) := List.getElem?_set_self hi
  obtain ⟨a, vs, as, hσ, ha, tr, hF⟩ := SU.own hx'
  refine ⟨_, hσ, h S _ fun k v H1 ks rk s1 t1 _ => ?_⟩
  obtain ⟨j, x, xs, hj, hjx, r⟩ := rk
  obtain ⟨a', vs', b, us, hσ', ha', hlen, hb1, hb2, hb3, upd'⟩ := (SU.same s1).inner hx' hjx
  rw [hσ] at hσ'
  cases hσ'
  cases us with
  | nil => exact (hb3 : False).elim
  | cons w ws =>
    obtain ⟨a1, a2, tw, tws, e⟩ := hb3
    have := Flat.flat tw; subst this
    have := tws.flat; subst this
    refine ⟨a, vs', k, .ref b, rfl, t1.1, SqL.of ha', atI_of (by rw [hlen]; exact hj) hb1, .inl ⟨rfl, _, SqL.of hb2⟩, b, w :: ws, 0, 0, w, rfl, rfl, hb2, by decide, by decide, ?_, rfl, ?_⟩
    · unfold seqIndex?
      simp
    · have S2 := upd' tws
      have t2 : tree c (upd H1 b (.lst ws)) w x [] := tree_kp tw (Kp.put hb2) (fun z hz => absurd hz (by simp))
      have S3 := S2.pin (i := i) (w := xss.set j xs) (by rw [List.set_set]; exact List.getElem?_set_self hi) hv
      rw [List.set_set, List.set_set] at S3
      obtain ⟨Fs', S4, _⟩ := S3.set' l t2 (fun z hz => absurd hz (by simp))
      exact C.nx _ _ _ _ r S4
end
end
/-- a walk from p by the lists w: the roads taken, the lists left, where it ends -/
inductive WkR (rs : List (Int × Int)) : List (List Int) → Int → List Int → List (List Int) → Int → Prop
  | nil {w : List (List Int)} {p : Int} : w.getD p.toNat [] = [] → WkR rs w p [] w p
  | cons {w : List (List Int)} {p r q : Int} {rest path : List Int} {w' : List (List Int)} : w.getD p.toNat [] = r :: rest → WkR rs (w.set p.toNat rest) (en rs r) path w' q → WkR rs w p (r :: path) w' q
section
variable {c : Ct}
end
end L2

set_option Elab.async false
set_option linter.all false
set_option maxRecDepth 100000
set_option maxHeartbeats 4000000
/-! Own rules, part 25: exchanges of stretches: the mathematics. -/
namespace L2
open PySem PySem.Spec PyProof.Rows
section
variable {rs : List (Int × Int)}
/-- a walk along roads from place to place -/
def Path (rs : List (Int × Int)) : Int → List Int → Int → Prop
  | p, [], q => p = q
  | p, x :: xs, q => sp rs x = p ∧ Path rs (en rs x) xs q
end
end L2

set_option Elab.async false
set_option linter.all false
set_option maxRecDepth 100000
set_option maxHeartbeats 4000000
/-! Own rules, part 36: expressions that change the data of a name. -/
namespace L2
open PySem PySem.Spec PyProof.Rows
section
variable {c : Ct}
/-- what is owned at one name is owned at two -/
theorem Sta.split {β γ : Type} [Rp c β] [Rp c γ] {H0 H : Hp} {F0 : List Addr} {env : List (Ent c)} {Fs : Nat → List Addr} {σ : St} {v0 u : V} {x : β} {w : γ} (S : Sta H0 F0 env Fs σ H) {i : Nat} (h : env[i]? = some (.ow (⟨x, w⟩ : Wt v0 β γ))) (hu : σ[i]? = some (some u)) :
    ∃ Fs', Sta H0 F0 (env.set i (.ow w) ++ [.ow x]) Fs' (σ.set i (some v0) ++ [some u]) H ∧ ∀ j, j ≠ i → j ≠ env.length → Fs' j = Fs j := by
  have hi : i < env.length := (List.getElem?_eq_some_iff.mp h).1
  obtain ⟨u', h1, v, e, a, b, ta, tb, hF⟩ := S.at_ h
  rw [hu] at h1
  cases h1; cases e
  have nd := S.nd i
  rw [hF] at nd
  have nd' := List.nodup_append.mp nd
  let G : Nat → List Addr := fun j => if j = i then b else if j = env.length then a else Fs j
  have Gi : G i = b := if_pos rfl
  have Gn : G env.length = a := by show (if env.length = i then b else if env.length = env.length then a else _) = a; rw [if_neg (by omega), if_pos rfl]
  have Go : ∀ j, j ≠ i → j ≠ env.length → G j = Fs j := fun j h1 h2 => by show (if j = i then b else if j = env.length then a else _) = _; rw [if_neg h1, if_neg h2]
  have sub : ∀ j, ∀ z ∈ G j, ∃ k, z ∈ Fs k ∧ (j ≠ i → j ≠ env.length → k = j) ∧ (j = i ∨ j = env.length → k = i) := fun j z hz => by
    by_cases h1 : j = i
    · subst h1
      rw [Gi] at hz
      exact ⟨j, by rw [hF]; exact List.mem_append_right _ hz, fun q => absurd rfl q, fun _ => rfl⟩
    · by_cases h2 : j = env.length
      · subst h2
        rw [Gn] at hz
        exact ⟨i, by rw [hF]; exact List.mem_append_left _ hz, fun _ q => absurd rfl q, fun _ => rfl⟩
      · rw [Go j h1 h2] at hz
        exact ⟨j, hz, fun _ _ => rfl, fun q => q.elim (fun y => absurd y h1) fun y => absurd y h2⟩
  refine ⟨G, ⟨by simp [S.len], fun j y e h1 h2 => ?_, fun j hj => ?_, fun j => ?_, fun j k hjk z hz hz2 => ?_, fun j z hz => ?_, S.kp⟩, Go⟩
  · by_cases hj : j = env.length
    · subst hj
      rw [List.getElem?_append_right (by simp [S.len])] at h1
      rw [List.getElem?_append_right (by simp)] at h2
      simp [S.len] at h1 h2
      subst h1; subst h2
      exact ⟨u, rfl, by rw [Gn]; exact ta⟩
    · have hjl : j < env.length := by
        have := (List.getElem?_eq_some_iff.mp h2).1
        simp at this
        omega
      rw [List.getElem?_append_left (by simp [S.len]; exact hjl)] at h1
      rw [List.getElem?_append_left (by simpa using hjl)] at h2
      by_cases h3 : j = i
      · subst h3
        rw [List.getElem?_set_self (by rw [S.len]; exact hi)] at h1
        rw [List.getElem?_set_self hi] at h2
        cases h1; cases h2
        exact ⟨v0, rfl, by rw [Gi]; exact tb⟩
      · rw [List.getElem?_set_ne (Ne.symm h3)] at h1 h2
        have q := S.ok j y e h1 h2
        cases e with
        | no => exact (Go j h3 hj).trans q
        | en o x =>
          cases o with
          | false =>
            obtain ⟨z, w', bs, e', t, d⟩ := q
            exact ⟨(Go j h3 hj).trans z, w', bs, e', t, fun a' ha k hk => by
              obtain ⟨k', y1, _⟩ := sub k a' hk
              exact d a' ha k' y1⟩
          | true =>
            obtain ⟨w', e', t⟩ := q
            exact ⟨w', e', by rw [Go j h3 hj]; exact t⟩
  · simp at hj
    rw [Go j (by omega) (by omega)]
    exact S.out j (by omega)
  · by_cases h1 : j = i
    · subst h1; rw [Gi]; exact nd'.2.1
    · by_cases h2 : j = env.length
      · subst h2; rw [Gn]; exact nd'.1
      · rw [Go j h1 h2]; exact S.nd j
  · by_cases p1 : j = i
    · by_cases p2 : k = env.length
      · subst p1; subst p2
        rw [Gi] at hz
        rw [Gn] at hz2
        exact nd'.2.2 z hz2 z hz rfl
      · obtain ⟨j', y1, _, y3⟩ := sub j z hz
        obtain ⟨k', y4, y5, _⟩ := sub k z hz2
        have e1 := y3 (.inl p1)
        have e2 := y5 (fun q => hjk (p1.trans q.symm)) p2
        exact S.dj j' k' (fun q => hjk (p1.trans (e1.symm.trans (q.trans e2)))) z y1 y4
    · by_cases p2 : j = env.length
      · by_cases p3 : k = i
        · subst p2; subst p3
          rw [Gn] at hz
          rw [Gi] at hz2
          exact nd'.2.2 z hz z hz2 rfl
        · obtain ⟨j', y1, _, y3⟩ := sub j z hz
          obtain ⟨k', y4, y5, _⟩ := sub k z hz2
          have e1 := y3 (.inr p2)
          have e2 := y5 p3 (fun q => hjk (p2.trans q.symm))
          exact S.dj j' k' (fun q => p3 (e2.symm.trans (q.symm.trans e1))) z y1 y4
      · obtain ⟨j', y1, y3, _⟩ := sub j z hz
        obtain ⟨k', y4, y5, y6⟩ := sub k z hz2
        have e1 := y3 p1 p2
        by_cases p3 : k = i ∨ k = env.length
        · have e2 := y6 p3
          exact S.dj j' k' (fun q => p1 (e1.symm.trans (q.trans e2))) z y1 y4
        · have e2 := y5 (fun q => p3 (.inl q)) (fun q => p3 (.inr q))
          exact S.dj j' k' (fun q => hjk (e1.symm.trans (q.trans e2))) z y1 y4
  · obtain ⟨k, y, _⟩ := sub j z hz
    exact S.up k z y
/-- the top's data go to a name -/
theorem Sta.land {β : Type} [Rp c β] {H0 H : Hp} {F0 : List Addr} {env : List (Ent c)} {Fs : Nat → List Addr} {σ : St} {v : V} {x : β} (S : Sta H0 F0 (env ++ [.ow x]) Fs (σ ++ [some v]) H) {l : Nat} (hl : l < env.length) :
    ∃ Fs', Sta H0 F0 (env.set l (.ow x)) Fs' (σ.set l (some v)) H := by
  have hlen : σ.length = env.length := by have := S.len; simp at this; exact this
  obtain ⟨u', h1, v', e, t⟩ := S.at_ (i := env.length) (e := .ow x) (by simp)
  rw [List.getElem?_append_right (by omega), hlen, Nat.sub_self] at h1
  cases h1; cases e
  let G : Nat → List Addr := fun j => if j = l then Fs env.length else if j = env.length then [] else Fs j
  have Gl : G l = Fs env.length := if_pos rfl
  have Gn : G env.length = [] := by show (if env.length = l then _ else if env.length = env.length then [] else _) = []; rw [if_neg (by omega), if_pos rfl]
  have Go : ∀ j, j ≠ l → j ≠ env.length → G j = Fs j := fun j h1 h2 => by show (if j = l then _ else if j = env.length then _ else _) = _; rw [if_neg h1, if_neg h2]
  have sub : ∀ j, ∀ z ∈ G j, (j = l ∧ z ∈ Fs env.length) ∨ (j ≠ l ∧ j ≠ env.length ∧ z ∈ Fs j) := fun j z hz => by
    by_cases h1 : j = l
    · subst h1; rw [Gl] at hz; exact .inl ⟨rfl, hz⟩
    · by_cases h2 : j = env.length
      · subst h2; rw [Gn] at hz; simp at hz
      · rw [Go j h1 h2] at hz; exact .inr ⟨h1, h2, hz⟩
  refine ⟨G, ⟨by simp [hlen], fun j y e h1 h2 => ?_, fun j hj => ?_, fun j => ?_, fun j k hjk z hz hz2 => ?_, fun j z hz => ?_, S.kp⟩⟩
  · have hjl : j < env.length := by
      have := (List.getElem?_eq_some_iff.mp h2).1
      simpa using this
    by_cases h3 : j = l
    · subst h3
      rw [List.getElem?_set_self (by omega)] at h1
      rw [List.getElem?_set_self hl] at h2
      cases h1; cases h2
      exact ⟨_, rfl, by rw [Gl]; exact t⟩
    · rw [List.getElem?_set_ne (Ne.symm h3)] at h1 h2
      have q := S.ok j y e (by rw [List.getElem?_append_left (by omega)]; exact h1) (by rw [List.getElem?_append_left hjl]; exact h2)
      cases e with
      | no => exact (Go j h3 (by omega)).trans q
      | en o x =>
        cases o with
        | false =>
          obtain ⟨z, w', bs, e', t, d⟩ := q
          exact ⟨(Go j h3 (by omega)).trans z, w', bs, e', t, fun a' ha k hk => by
            rcases sub k a' hk with ⟨_, y1⟩ | ⟨_, _, y1⟩
            · exact d a' ha _ y1
            · exact d a' ha _ y1⟩
        | true =>
          obtain ⟨w', e', t⟩ := q
          exact ⟨w', e', by rw [Go j h3 (by omega)]; exact t⟩
  · rw [List.length_set] at hj
    by_cases h2 : j = env.length
    · subst h2; exact Gn
    · rw [Go j (by omega) h2]
      exact S.out j (by simp; omega)
  · by_cases h1 : j = l
    · subst h1; rw [Gl]; exact S.nd _
    · by_cases h2 : j = env.length
      · subst h2; rw [Gn]; exact List.nodup_nil
      · rw [Go j h1 h2]; exact S.nd j
  · rcases sub j z hz with ⟨y1, y2⟩ | ⟨y1, y3, y2⟩
    · rcases sub k z hz2 with ⟨y4, y5⟩ | ⟨y4, y6, y5⟩
      · omega
      · exact S.dj env.length k (Ne.symm y6) z y2 y5
    · rcases sub k z hz2 with ⟨y4, y5⟩ | ⟨y4, y6, y5⟩
      · exact S.dj j env.length y3 z y2 y5
      · exact S.dj j k hjk z y2 y5
  · rcases sub j z hz with ⟨_, y⟩ | ⟨_, _, y⟩
    · exact S.up _ z y
    · exact S.up _ z y
/-- the top let go -/
theorem Sta.untop {H0 H : Hp} {F0 : List Addr} {env : List (Ent c)} {e : Ent c} {Fs : Nat → List Addr} {σ : St} {v : Option V} (S : Sta H0 F0 (env ++ [e]) Fs (σ ++ [v]) H) : ∃ Fs', Sta H0 F0 env Fs' σ H ∧ ∀ j, j < env.length → Fs' j = Fs j := by
  have hlen : σ.length = env.length := by have := S.len; simp at this; exact this
  let G : Nat → List Addr := fun j => if j < env.length then Fs j else []
  have Gt : ∀ j, j < env.length → G j = Fs j := fun j h => if_pos h
  have Gf : ∀ j, ¬ j < env.length → G j = [] := fun j h => if_neg h
  have sub : ∀ j, ∀ z ∈ G j, j < env.length ∧ z ∈ Fs j := fun j z hz => by
    by_cases h : j < env.length
    · rw [Gt j h] at hz; exact ⟨h, hz⟩
    · rw [Gf j h] at hz; simp at hz
  refine ⟨G, ⟨hlen, fun j y e h1 h2 => ?_, fun j hj => Gf j (by omega), fun j => ?_, fun j k hjk z hz hz2 => S.dj j k hjk z (sub j z hz).2 (sub k z hz2).2, fun j z hz => S.up j z (sub j z hz).2, S.kp⟩, Gt⟩
  · have hjl := (List.getElem?_eq_some_iff.mp h2).1
    have q := S.ok j y e (by rw [List.getElem?_append_left (by omega)]; exact h1) (by rw [List.getElem?_append_left hjl]; exact h2)
    cases e with
    | no => exact (Gt j hjl).trans q
    | en o x =>
      cases o with
      | false =>
        obtain ⟨z, w', bs, e', t, d⟩ := q
        exact ⟨(Gt j hjl).trans z, w', bs, e', t, fun a' ha k hk => d a' ha k (sub k a' hk).2⟩
      | true =>
        obtain ⟨w', e', t⟩ := q
        exact ⟨w', e', by rw [Gt j hjl]; exact t⟩
  · by_cases h : j < env.length
    · rw [Gt j h]; exact S.nd j
    · rw [Gf j h]; exact List.nodup_nil
/-- something new at the top -/
theorem Sta.top {β : Type} [Rp c β] {H0 H H' : Hp} {F0 : List Addr} {env : List (Ent c)} {Fs : Nat → List Addr} {σ : St} {v : V} {x : β} {as : List Addr} (S : Sta H0 F0 env Fs σ H) (s : Same H H') (t : tree c H' v x as) (nd : as.Nodup) (n : ∀ a ∈ as, H a = none) :
    Sta H0 F0 (env ++ [.ow x]) (putF' Fs env.length as) (σ ++ [some v]) H' := by
  have ext : Sta H0 F0 (env ++ [.no]) Fs (σ ++ [none]) H := by
    refine ⟨by simp [S.len], fun j y e h1 h2 => ?_, fun j hj => ?_, S.nd, S.dj, S.up, S.kp⟩
    · by_cases hj : j < env.length
      · rw [List.getElem?_append_left (by rw [S.len]; exact hj)] at h1
        rw [List.getElem?_append_left hj] at h2
        exact S.ok j y e h1 h2
      · have hje : j = env.length := by
          have := (List.getElem?_eq_some_iff.mp h2).1
          simp at this
          omega
        subst hje
        rw [List.getElem?_append_right (Nat.le_refl _), Nat.sub_self] at h2
        cases h2
        exact S.out _ (Nat.le_refl _)
    · simp at hj
      exact S.out j (by omega)
  have q := ext.put (i := env.length) (as := as) (v := some v) (e := .ow x) (H' := H') (Kp.of_same s) (by simp) ⟨v, rfl, by rw [putF_same]; exact t⟩ nd (fun a ha => .inr (n a ha))
  have e1 : ((env ++ [(Ent.no : Ent c)]).set env.length (Ent.ow x)) = env ++ [(Ent.ow x : Ent c)] := by simp
  have e2 : (σ ++ [none]).set env.length (some v) = σ ++ [some v] := by rw [← S.len]; simp
  rw [e1, e2] at q
  exact q
end
end L2

set_option Elab.async false
set_option linter.all false
set_option maxRecDepth 100000
set_option maxHeartbeats 4000000
/-! Own rules, part 37: calls that change the data of a name handed to them. -/
namespace L2
open PySem PySem.Spec PyProof.Rows
section
variable {c : Ct}
/-- a def's promise over data, one argument its own and changed -/
def spN (c : Ct) {β γ : Type} [Rp c β] [Rp c γ] (pre : List (Ent c) → γ → List (Ent c) → (β → γ → Prop) → Prop) : Sp := fun vs H Q _ => ∃ vs1 v vs2 es1 es2 w as R, vs = vs1 ++ v :: vs2 ∧ pre es1 w es2 R ∧ tree c H v w as ∧ as.Nodup ∧ ArgsD H as vs1 es1 ∧ ArgsD H as vs2 es2 ∧
  ∀ x u H' bs w' as', R x w' → Kp as H H' → tree c H' u x bs → tree c H' v w' as' → (bs ++ as').Nodup → (∀ a ∈ bs ++ as', H a = none ∨ a ∈ as) → Q u H'
theorem spN_len {β γ : Type} [Rp c β] [Rp c γ] {pre : List (Ent c) → γ → List (Ent c) → (β → γ → Prop) → Prop} {vs : List V} {H : Hp} {Q : VK} {E : XK} (h : spN c pre vs H Q E) {n : Nat} (hp : ∀ es1 w es2 R, pre es1 w es2 R → es1.length + (es2.length + 1) = n) : vs.length = n := by
  obtain ⟨vs1, v, vs2, es1, es2, w, as, R, rfl, p, _, _, a1, a2, _⟩ := h
  rw [← hp es1 w es2 R p, List.length_append, List.length_cons, a1.len, a2.len]
theorem argsN_start {γ : Type} [Rp c γ] {N : List Str} {H : Hp} {vs1 vs2 : List V} {es1 es2 : List (Ent c)} {v : V} {w : γ} {as : List Addr} (h1 : ArgsD H as vs1 es1) (h2 : ArgsD H as vs2 es2) (t : tree c H v w as) (nd : as.Nodup) :
    Sta H as (es1.map Ent.bor ++ (.ow (⟨w⟩ : Pin v γ) :: (es2.map Ent.bor ++ List.replicate (N.length - (es1.length + (es2.length + 1))) .no))) (fun i => if i = es1.length then as else []) (start N (vs1 ++ v :: vs2)) H := by
  have l1 := h1.len
  have l2 := h2.len
  have fi : ∀ (i : Nat), i ≠ es1.length → (fun i => if i = es1.length then as else []) i = ([] : List Addr) := fun i hi => if_neg hi
  have fs : ∀ j, ∀ a ∈ (fun i => if i = es1.length then as else ([] : List Addr)) j, j = es1.length ∧ a ∈ as := fun j a ha => by
    have ha' : a ∈ (if j = es1.length then as else []) := ha
    split at ha'
    · rename_i q; exact ⟨q, ha'⟩
    · simp at ha'
  refine ⟨by unfold start; simp [l1, l2], fun i u e h3 h4 => ?_, fun i hi => ?_, fun i => ?_, fun i j hij a ha hz => ?_, fun i a ha => .inr (fs i a ha).2, Kp.refl _⟩
  · unfold start at h3
    rw [List.map_append, List.map_cons, List.append_assoc, List.cons_append] at h3
    by_cases hi : i < es1.length
    · rw [List.getElem?_append_left (by rw [List.length_map]; exact hi), List.getElem?_map] at h4
      rw [List.getElem?_append_left (by rw [List.length_map, l1]; exact hi), List.getElem?_map] at h3
      cases q : es1[i]? with
      | none => rw [q] at h4; cases h4
      | some e' =>
        rw [q] at h4
        obtain ⟨v', y1, y2⟩ := h1.get q
        rw [y1] at h3
        cases h3; cases h4
        exact y2 _ (fi i (by omega)) (fun j a ha => (fs j a ha).2)
    · rw [List.getElem?_append_right (by rw [List.length_map]; omega), List.length_map] at h4
      rw [List.getElem?_append_right (by rw [List.length_map, l1]; omega), List.length_map, l1] at h3
      by_cases hie : i = es1.length
      · subst hie
        rw [Nat.sub_self] at h3 h4
        cases h3; cases h4
        exact ⟨v, rfl, by show Rp.tree c H v _ (if es1.length = es1.length then as else []); rw [if_pos rfl]; exact ⟨rfl, t⟩⟩
      · rw [show i - es1.length = (i - es1.length - 1) + 1 by omega, List.getElem?_cons_succ] at h3 h4
        generalize hk : i - es1.length - 1 = k at h3 h4
        by_cases hk2 : k < es2.length
        · rw [List.getElem?_append_left (by rw [List.length_map]; exact hk2), List.getElem?_map] at h4
          rw [List.getElem?_append_left (by rw [List.length_map, l2]; exact hk2), List.getElem?_map] at h3
          cases q : es2[k]? with
          | none => rw [q] at h4; cases h4
          | some e' =>
            rw [q] at h4
            obtain ⟨v', y1, y2⟩ := h2.get q
            rw [y1] at h3
            cases h3; cases h4
            have y3 := y2 (fun _ => []) rfl (fun _ a ha => absurd ha (by simp))
            obtain ⟨_, y4, y5⟩ := h2.get q
            cases e' with
            | no => exact fi i hie
            | en o x =>
              have y6 := y5 (fun j => if j = k then [] else as) (if_pos rfl) (fun j a ha => by
                have ha' : a ∈ (if j = k then [] else as) := ha
                split at ha' <;> simp_all)
              rw [y1] at y4
              cases y4
              obtain ⟨_, v2, bs, e1, t2, d⟩ := y6
              refine ⟨fi i hie, v2, bs, e1, t2, fun a ha j hj => ?_⟩
              have := d a ha (k + 1)
              have e3 : (fun j => if j = k then ([] : List Addr) else as) (k + 1) = as := if_neg (by omega)
              rw [e3] at this
              exact this (fs j a hj).2
        · rw [List.getElem?_append_right (by rw [List.length_map]; omega), List.getElem?_replicate] at h4
          split at h4
          · cases h4; exact fi i hie
          · cases h4
  · simp at hi
    exact fi i (by omega)
  · show (if i = es1.length then as else []).Nodup
    split
    · exact nd
    · exact List.nodup_nil
  · have e1 := (fs i a ha).1
    have e2 := (fs j a hz).1
    omega
theorem fn_dataN {β γ : Type} [Rp c β] [Rp c γ] {pre : List (Ent c) → γ → List (Ent c) → (β → γ → Prop) → Prop} {N : List Str} {t : TS} {vs : List V} {H : Hp} {Q : VK} {E : XK} (h : spN c pre vs H Q E)
    (hb : ∀ es1 w es2 R v0, pre es1 w es2 R → WS (es1.map Ent.bor ++ (.ow (⟨w⟩ : Pin v0 γ) :: (es2.map Ent.bor ++ List.replicate (N.length - (es1.length + (es2.length + 1))) .no))) t ({ nx := fun _ => False, rt := fun z => R z.x z.w } : Rs c (Wt v0 β γ))) : t { nx := fun _ H' => Q .non H', rt := Q } (start N vs) H := by
  obtain ⟨vs1, v, vs2, es1, es2, w, as, R, rfl, hp, tw, nd, a1, a2, k⟩ := h
  refine hb es1 w es2 R v hp (argsN_start a1 a2 tw nd) ⟨fun _ _ _ _ z => z.elim, fun _ _ _ _ z => z.elim, fun _ _ _ _ z => z.elim, fun x u H' as' r kp t nd up => ?_⟩
  obtain ⟨a, b, t1, t2, rfl⟩ := t
  exact k x.x u H' a x.w b r kp t1 t2 nd up
/-- an expression that may change names' own data; what comes is new or was theirs -/
def WM (env : List (Ent c)) (t : TE) {α : Type} [Rp c α] (R : α → List (Ent c) → Prop) : Prop :=
  ∀ ⦃H0 : Hp⦄ ⦃F0 : List Addr⦄ ⦃Fs : Nat → List Addr⦄ ⦃σ : St⦄ ⦃H : Hp⦄, Sta H0 F0 env Fs σ H → ∀ Q : VK, (∀ x v H' e Fs', R x e → Sta H0 F0 (e ++ [.ow x]) Fs' (σ ++ [some v]) H' → Q v H') → t σ H Q
/-- apart from what the name i owns -/
def WEA (i : Nat) (env : List (Ent c)) (t : TE) {α : Type} [Rp c α] (R : α → Prop) : Prop :=
  ∀ ⦃H0 : Hp⦄ ⦃F0 : List Addr⦄ ⦃Fs : Nat → List Addr⦄ ⦃σ : St⦄ ⦃H : Hp⦄, Sta H0 F0 env Fs σ H → ∀ Q : VK, (∀ x v H' as, R x → Same H H' → tree c H' v x as → (∀ a ∈ as, a ∉ Fs i) → Q v H') → t σ H Q
def WAQ (i : Nat) (env : List (Ent c)) (t : TA) (R : List (Ent c) → Prop) : Prop :=
  ∀ ⦃H0 : Hp⦄ ⦃F0 : List Addr⦄ ⦃Fs : Nat → List Addr⦄ ⦃σ : St⦄ ⦃H : Hp⦄, Sta H0 F0 env Fs σ H → ∀ Q : List V → Hp → Prop, (∀ es vs H', R es → Same H H' → ArgsD H' (Fs i) vs es → Q vs H') → t σ H Q
def WAM (i : Nat) (env : List (Ent c)) (t : TA) (R : List (Ent c) → List (Ent c) → Prop) : Prop :=
  ∀ ⦃H0 : Hp⦄ ⦃F0 : List Addr⦄ ⦃Fs : Nat → List Addr⦄ ⦃σ : St⦄ ⦃H : Hp⦄, Sta H0 F0 env Fs σ H → ∀ Q : List V → Hp → Prop, (∀ es1 es2 vs1 v vs2 H', R es1 es2 → Same H H' → σ[i]? = some (some v) → ArgsD H' (Fs i) vs1 es1 → ArgsD H' (Fs i) vs2 es2 → Q (vs1 ++ v :: vs2) H') → t σ H Q
variable {env : List (Ent c)} {m : Md} {ta tb tg te : TE} {tc : TT} {t u : TS} {α β γ δ : Type} [Rp c α] [Rp c β] [Rp c γ] [Rp c δ] {v0 : V}
theorem wea_flat [Flat c α] {i : Nat} {R : α → Prop} (h : WE .any env te R) : WEA i env te R := fun _ _ _ _ _ S Q k => h S Q fun x v H' as r s t _ => by
  have := Flat.flat t; subst this
  exact k x v H' [] r s t (fun a ha => absurd ha (by simp))
theorem wea_var {i j : Nat} {o : Bool} {x : α} {R : α → Prop} (h : env[j]? = some (.en o x)) (hj : j ≠ i) (q : R x) : WEA i env (tVar j) R := fun _ _ _ _ _ S Q k => by
  cases o with
  | false =>
    obtain ⟨u, h1, _, v, as, e, t, d⟩ := S.at_ h
    exact ⟨v, by rw [h1, e], k x v _ as q (Same.refl _) t fun a ha => d a ha i⟩
  | true =>
    obtain ⟨u, h1, v, e, t⟩ := S.at_ h
    exact ⟨v, by rw [h1, e], k x v _ _ q (Same.refl _) t fun a ha => S.dj j i hj a ha⟩
theorem waq_nil {i : Nat} {R : List (Ent c) → Prop} (q : R []) : WAQ i env tNil R := fun _ _ _ _ _ S Q k => k [] [] _ q (Same.refl _) trivial
theorem wam_self {i : Nat} {o : Bool} {x : α} {t : TA} {R : List (Ent c) → List (Ent c) → Prop} (hi : env[i]? = some (.en o x)) (h : WAQ i env t fun es => R [] es) : WAM i env (tCons (tVar i) t) R := fun _ _ _ _ _ S Q k => by
  obtain ⟨v, _, e, _⟩ := S.var hi
  exact ⟨v, e, h S _ fun es vs H' r s a => k [] es [] v vs H' r s e trivial a⟩
theorem wam_cons {i : Nat} {t : TA} {R : List (Ent c) → List (Ent c) → Prop} (h : WEA i env ta fun x : α => WAM i env t fun es1 es2 => R (.sh x :: es1) es2) : WAM i env (tCons ta t) R :=
  fun _ _ _ _ _ S Q k => h S _ fun x v H1 as r s1 t1 d => r (S.same s1) _ fun es1 es2 vs1 v' vs2 H2 r2 s2 hv a1 a2 => k (.sh x :: es1) es2 (v :: vs1) v' vs2 H2 r2 (s1.trans s2) hv ⟨⟨as, tree_same t1 s2, d⟩, a1⟩ a2
theorem wm_call {pre : List (Ent c) → γ → List (Ent c) → (β → γ → Prop) → Prop} {E : XK} {t : TA} {R : β → List (Ent c) → Prop} {i : Nat} {w : γ} (hi : env[i]? = some (.ow w)) (h : WAM i env t fun es1 es2 => pre es1 w es2 fun x w' => R x (env.set i (.ow w'))) :
    WM env (tCall (spN c pre) [] E t) R := fun H0 F0 Fs σ H S Q k => h S _ fun es1 es2 vs1 v vs2 H1 r s hv a1 a2 => by
  rw [List.append_nil]
  have hi' : i < env.length := (List.getElem?_eq_some_iff.mp hi).1
  obtain ⟨u, h1, v', e, t⟩ := S.at_ hi
  rw [hv] at h1
  cases h1; cases e
  refine ⟨vs1, v, vs2, es1, es2, w, Fs i, _, rfl, r, tree_same t s, S.nd i, a1, a2, fun x u H' bs w' as' rx kp tx tw nd up => ?_⟩
  have kp2 : Kp (Fs i) H H' := Kp.trans (Kp.of_same s) kp (fun z hz => .inr hz)
  have q := S.put (as := bs ++ as') (v := some u) (e := .ow (⟨x, w'⟩ : Wt v β γ)) kp2 hi' ⟨u, rfl, by rw [putF_same]; exact ⟨bs, as', tx, tw, rfl⟩⟩ nd (fun a ha => (up a ha).symm.imp id s.free)
  obtain ⟨Fs', q2, _⟩ := q.split (i := i) (List.getElem?_set_self hi') (List.getElem?_set_self (by rw [S.len]; exact hi'))
  rw [List.set_set, List.set_set, set_get hv] at q2
  exact k x u H' _ Fs' rx q2
theorem wm_pin {R : α → List (Ent c) → Prop} {i : Nat} {w : γ} (hi : env[i]? = some (.ow (⟨w⟩ : Pin v0 γ))) (h : WM (env.set i (.ow w)) te fun x e => ∃ w' : γ, e[i]? = some (.ow w') ∧ R x (e.set i (.ow (⟨w'⟩ : Pin v0 γ)))) : WM env te R := fun H0 F0 Fs σ H S Q k => by
  obtain ⟨SU, hv⟩ := S.unpin hi
  refine h SU Q fun x v H' e Fs' r S' => ?_
  obtain ⟨w', he, r⟩ := r
  have hie : i < e.length := (List.getElem?_eq_some_iff.mp he).1
  have hlen : σ.length = e.length := by have := S'.len; simp at this; exact this
  have q := S'.pin (v0 := v0) (i := i) (w := w') (by rw [List.getElem?_append_left hie]; exact he) (by rw [List.getElem?_append_left (by omega)]; exact hv)
  rw [List.set_append_left _ _ hie] at q
  exact k x v H' _ Fs' r q
theorem ws_setM {R : Rs c β} {l : Nat} (h : WM env te fun (x : α) e => Nat.blt l e.length = true ∧ R.nx (e.set l (.ow x))) : WS env (tAsg te (gName l)) R := fun _ _ _ _ _ _ S C => h S _ fun x v H' e Fs' r S' => by
  obtain ⟨Fs2, S2⟩ := S'.land (l := l) (by have := r.1; rwa [Nat.blt_eq] at this)
  exact C.nx _ _ _ _ r.2 S2
theorem ws_retWM {R : Rs c β} (h : WM env te fun (x : β) _ => R.rt x) : WS env (tRet te) R := fun H0 F0 Fs σ H D S C => h S _ fun x v H' e Fs' r S' => by
  have hlen : σ.length = e.length := by have := S'.len; simp at this; exact this
  obtain ⟨u, h1, v', e', t⟩ := S'.at_ (i := e.length) (e := .ow x) (by simp)
  rw [List.getElem?_append_right (by omega), hlen, Nat.sub_self] at h1
  cases h1; cases e'
  exact C.rt x _ H' _ r S'.kp t (S'.nd _) (S'.up _)
/-- f(x, g, y), g changing y's data -/
theorem wm_nest {pre : List (Ent c) → γ → List (Ent c) → (β → γ → Prop) → Prop} {E : XK} {R : β → List (Ent c) → Prop} {i0 i : Nat} {o0 : Bool} {y0 : α} (h0 : env[i0]? = some (.en o0 y0))
    (h : WM env tg fun (p : δ) e => ∃ (o : Bool) (x0 : α) (w : γ), e[i0]? = some (.en o x0) ∧ i0 ≠ i ∧ e[i]? = some (.ow w) ∧ pre [.sh x0, .sh p] w [] fun r w' => R r (e.set i (.ow w'))) :
    WM env (tCall (spN c pre) [] E (tCons (tVar i0) (tCons tg (tCons (tVar i) tNil)))) R := fun H0 F0 Fs σ H S Q k => by
  obtain ⟨v0, _, e0, _⟩ := S.var h0
  refine ⟨v0, e0, h S.rebase _ fun p pv H1 e Fs1 r S1 => ?_⟩
  obtain ⟨o, x0, w, he0, hne, hei, r⟩ := r
  have hlen : σ.length = e.length := by have := S1.len; simp at this; exact this
  have l0 : i0 < e.length := (List.getElem?_eq_some_iff.mp he0).1
  have li : i < e.length := (List.getElem?_eq_some_iff.mp hei).1
  obtain ⟨up, hp1, pv', ep, tp⟩ := S1.at_ (i := e.length) (e := .ow p) (by simp)
  rw [List.getElem?_append_right (by omega), hlen, Nat.sub_self] at hp1
  cases hp1; cases ep
  have d1 : ∀ a ∈ Fs1 e.length, a ∉ Fs1 i := fun a ha => S1.dj e.length i (by omega) a ha
  have a0 : ∃ bs, tree c H1 v0 x0 bs ∧ ∀ b ∈ bs, b ∉ Fs1 i := by
    have he0' : (e ++ [.ow p])[i0]? = some (.en o x0) := by rw [List.getElem?_append_left l0]; exact he0
    have hs0 : (σ ++ [some pv])[i0]? = some (some v0) := by rw [List.getElem?_append_left (by omega)]; exact e0
    cases o with
    | false =>
      obtain ⟨u, h1, _, v, as, e', t, d⟩ := S1.at_ he0'
      rw [hs0] at h1
      cases h1; cases e'
      exact ⟨as, t, fun b hb => d b hb i⟩
    | true =>
      obtain ⟨u, h1, v, e', t⟩ := S1.at_ he0'
      rw [hs0] at h1
      cases h1; cases e'
      exact ⟨_, t, fun b hb => S1.dj i0 i hne b hb⟩
  obtain ⟨Fs2, S2, f2⟩ := S1.untop
  obtain ⟨u, hv, v', e', tw⟩ := S2.at_ hei
  rw [f2 i li] at tw
  cases e'
  refine ⟨v', hv, ?_⟩
  show spN c pre ([v0, pv, v'] ++ []) H1 Q E
  rw [List.append_nil]
  refine ⟨[v0, pv], v', [], [.sh x0, .sh p], [], w, Fs1 i, _, rfl, r, tw, S1.nd i, ⟨a0, ⟨_, tp, d1⟩, trivial⟩, trivial, fun x u H' bs w' as' rx kp tx tw' nd up => ?_⟩
  rw [← f2 i li] at kp up
  have q := S2.put (as := bs ++ as') (v := some u) (e := .ow (⟨x, w'⟩ : Wt v' β γ)) kp li ⟨u, rfl, by rw [putF_same]; exact ⟨bs, as', tx, tw', rfl⟩⟩ nd (fun a ha => (up a ha).symm)
  obtain ⟨Fs', q2, _⟩ := q.split (i := i) (List.getElem?_set_self li) (List.getElem?_set_self (by omega))
  rw [List.set_set, List.set_set, set_get hv] at q2
  exact k x u H' _ Fs' rx (S.unbase q2)
/-- (a + m) + b, m changing a name's data -/
theorem wm_cat3 [Flat c α] {tm : TE} {R : List α → List (Ent c) → Prop} (h : WE .fr env ta fun xs : List α => WM env tm fun (ms : List α) e => xs.length + ms.length ≤ 1000 ∧ WE .any e tb fun ys : List α => xs.length + ms.length + ys.length ≤ 1000 ∧ R (xs ++ ms ++ ys) e) :
    WM env (tOp rCat (tOp rCat ta tm) tb) R := fun H0 F0 Fs σ H S Q k => h S _ fun xs v H1 as ra s1 t1 o1 => by
  have n1 : ∀ a ∈ as, H a = none := fun a ha => (o1.2 a ha).elim id fun ⟨j, z, _⟩ => absurd z (by simp)
  have S1 := S.same s1
  refine ra S1.rebase _ fun ms mv H2 e Fs2 r S2 => ?_
  have hlen : σ.length = e.length := by have := S2.len; simp at this; exact this
  have t1' := tree_kp t1 S2.kp fun a ha z => by
    obtain ⟨j, _, hj⟩ := mem_allF.mp z
    exact S.new (n1 a ha) j hj
  obtain ⟨a, vs, as', rfl, ha, tr, rfl⟩ := t1'
  have := tr.flat; subst this
  obtain ⟨um, hm1, mv', em, tm'⟩ := S2.at_ (i := e.length) (e := .ow ms) (by simp)
  rw [List.getElem?_append_right (by omega), hlen, Nat.sub_self] at hm1
  cases hm1; cases em
  obtain ⟨b, ws, bs', rfl, hb, tr2, hF2⟩ := tm'
  have := tr2.flat; subst this
  obtain ⟨Fs3, S3, _⟩ := S2.untop
  obtain ⟨lxm, r⟩ := r
  refine ⟨a, b, vs, ws, rfl, rfl, ha, hb, by rw [tr.len, tr2.len]; exact Nat.le_of_lt (small1000 lxm), fun p hp => ?_⟩
  have sp : Same H2 (upd H2 p (.lst (vs ++ ws))) := Same.new hp
  refine r (S3.same sp) _ fun ys yv H4 ds rb s4 t4 _ => ?_
  obtain ⟨d, us, ds', rfl, hd, tr4, rfl⟩ := t4
  have := tr4.flat; subst this
  have hp4 : H4 p = some (.lst (vs ++ ws)) := s4 _ _ upd_same
  refine ⟨p, d, _, us, rfl, rfl, hp4, hd, by rw [List.length_append, tr.len, tr2.len, tr4.len]; exact Nat.le_of_lt (small1000 rb.1), fun p2 hp2 => ?_⟩
  have s5 : Same H2 (upd H4 p2 (.lst (vs ++ ws ++ us))) := (sp.trans s4).trans (Same.new hp2)
  have s45 : Same H4 (upd H4 p2 (.lst (vs ++ ws ++ us))) := Same.new hp2
  have q := S3.top (v := .ref p2) (x := xs ++ ms ++ ys) (as := [p2]) s5 ⟨p2, _, [], rfl, upd_same, (((tr.same s5).append (tr2.same s5)).append (tr4.same s45)), rfl⟩ (nodup_one _) (fun z hz => by
    have : z = p2 := by simpa using hz
    subst this
    exact (sp.trans s4).free hp2)
  exact k _ _ _ e _ rb.2 (S1.unbase q)
end
end L2

set_option Elab.async false
set_option linter.all false
set_option maxRecDepth 100000
set_option maxHeartbeats 4000000
/-! Walks by waiting lists: pure facts. -/
namespace L2
open PySem PySem.Spec PyProof.Rows
section
variable {rs : List (Int × Int)} {n : Int}
def cO (rs : List (Int × Int)) (l : List Int) (p : Int) : Nat := l.countP fun r => decide (sp rs r = p)
def cI (rs : List (Int × Int)) (l : List Int) (p : Int) : Nat := l.countP fun r => decide (en rs r = p)
/-- lists of roads that wait at their places -/
structure Wo (rs : List (Int × Int)) (n : Int) (w : List (List Int)) : Prop where
  len : (w.length : Int) = n
  row : ∀ (j : Nat) (row : List Int), w[j]? = some row → ∀ r ∈ row, (0 ≤ r ∧ r < rs.length) ∧ sp rs r = (j : Int)
  sz : ∀ row ∈ w, row.length ≤ 24
theorem flat_set : ∀ {w : List (List Int)} {j : Nat} {r : Int} {rest : List Int}, w[j]? = some (r :: rest) → (r :: (w.set j rest).flatten).Perm w.flatten
  | [], _, _, _, h => by simp at h
  | x :: w, 0, r, rest, h => by
    simp at h; subst h
    exact List.Perm.refl _
  | x :: w, j + 1, r, rest, h => by
    have ih := flat_set (w := w) (j := j) (r := r) (rest := rest) (by simpa using h)
    rw [List.set_cons_succ, List.flatten_cons, List.flatten_cons]
    exact List.perm_middle.symm.trans (List.Perm.append_left x ih)
theorem Wo.mem {w : List (List Int)} (W : Wo rs n w) {r : Int} (h : r ∈ w.flatten) : (0 ≤ r ∧ r < rs.length) ∧ ∃ row, w[(sp rs r).toNat]? = some row ∧ r ∈ row := by
  obtain ⟨row, h1, h2⟩ := List.mem_flatten.mp h
  obtain ⟨j, hj, e⟩ := List.mem_iff_getElem.mp h1
  have g : w[j]? = some row := by rw [List.getElem?_eq_getElem hj, e]
  have q := W.row j row g r h2
  refine ⟨q.1, row, ?_, h2⟩
  rw [q.2, Int.toNat_natCast]
  exact g
theorem Wo.no {w : List (List Int)} (W : Wo rs n w) {p : Int} (hp : 0 ≤ p) (h : w.getD p.toNat [] = []) : cO rs w.flatten p = 0 := by
  unfold cO
  refine List.countP_eq_zero.mpr fun r hr z => ?_
  obtain ⟨_, row, h1, h2⟩ := W.mem hr
  rw [of_decide_eq_true z] at h1
  rw [List.getD_eq_getElem?_getD, h1] at h
  have : row = [] := h
  subst this
  simp at h2
theorem Wo.step {w : List (List Int)} (W : Wo rs n w) {j : Nat} {r : Int} {rest : List Int} (h : w[j]? = some (r :: rest)) : Wo rs n (w.set j rest) := by
  refine ⟨by rw [List.length_set]; exact W.len, fun i row hi x hx => ?_, fun row hr => ?_⟩
  · by_cases e : i = j
    · subst e
      rw [List.getElem?_set_self (List.getElem?_eq_some_iff.mp h).1] at hi
      cases hi
      exact W.row i _ h x (List.mem_cons_of_mem _ hx)
    · rw [List.getElem?_set_ne (Ne.symm e)] at hi
      exact W.row i row hi x hx
  · rcases List.mem_or_eq_of_mem_set hr with z | z
    · exact W.sz row z
    · subst z
      have := W.sz _ (List.mem_of_getElem? h)
      rw [List.length_cons] at this
      omega
/-- what a walk does -/
structure Wkd (rs : List (Int × Int)) (n : Int) (w : List (List Int)) (p : Int) (path : List Int) (w' : List (List Int)) (q : Int) : Prop where
  pth : Path rs p path q
  perm : (path ++ w'.flatten).Perm w.flatten
  wo : Wo rs n w'
  at_ : 0 ≤ q ∧ q < n
  last : w'.getD q.toNat [] = []
  stay : ∀ j : Nat, w.getD j [] = [] → w'.getD j [] = []
  fst : path = [] → w.getD p.toNat [] = []
  hd : ∀ r rest, w.getD p.toNat [] = r :: rest → path[0]? = some r
theorem WkR.done {w w' : List (List Int)} {p q : Int} {path : List Int} (h : WkR rs w p path w' q) (hin : InNet n rs) : Wo rs n w → (0 ≤ p ∧ p < n) → Wkd rs n w p path w' q := by
  induction h with
  | nil h => exact fun W hp => ⟨rfl, List.Perm.refl _, W, hp, h, fun _ z => z, fun _ => h, fun r rest z => by rw [h] at z; cases z⟩
  | @cons w p r q rest path w' h _ ih =>
    intro W hp
    have g := getD_some h
    have qr := W.row _ _ g r List.mem_cons_self
    have ir := rd_in hin qr.1.1 qr.1.2
    have D := ih (W.step g) ir.2
    refine ⟨⟨?_, D.pth⟩, (D.perm.cons r).trans (flat_set g), D.wo, D.at_, D.last, fun j hj => D.stay j ?_, fun z => (by cases z), fun r' rest' z => by rw [h] at z; cases z; rfl⟩
    · rw [qr.2]; omega
    · by_cases e : j = p.toNat
      · subst e
        rw [h] at hj
        cases hj
      · rw [List.getD_eq_getElem?_getD, List.getElem?_set_ne (Ne.symm e), ← List.getD_eq_getElem?_getD]
        exact hj
/-- as many roads wait from each place as to it -/
def Ev (rs : List (Int × Int)) (l : List Int) : Prop := ∀ p, cO rs l p = cI rs l p
/-- a walk with its bends -/
structure Bent (rs : List (Int × Int)) (n : Int) (a b : Int) (path : List Int) (w : List (List Int)) (whole : List Int) (w' : List (List Int)) : Prop where
  pth : Path rs a whole b
  perm : (whole ++ w'.flatten).Perm (path ++ w.flatten)
  wo : Wo rs n w'
  ev : Ev rs w'.flatten
  non : ∀ r ∈ whole, w'.getD (sp rs r).toNat [] = []
  stay : ∀ j : Nat, w.getD j [] = [] → w'.getD j [] = []
  fst : ∀ r, path[0]? = some r → w.getD (sp rs r).toNat [] = [] → whole[0]? = some r
  sub : ∀ r ∈ path, r ∈ whole
/-- on the way -/
structure Bnd (rs : List (Int × Int)) (n : Int) (a b : Int) (path : List Int) (w0 : List (List Int)) (whole : List Int) (w : List (List Int)) (k : Nat) : Prop where
  pth : Path rs a whole b
  perm : (whole ++ w.flatten).Perm (path ++ w0.flatten)
  wo : Wo rs n w
  ev : Ev rs w.flatten
  le : k ≤ whole.length
  non : ∀ (i : Nat) (r : Int), i < k → whole[i]? = some r → w.getD (sp rs r).toNat [] = []
  stay : ∀ j : Nat, w0.getD j [] = [] → w.getD j [] = []
  fst : ∀ r, path[0]? = some r → w0.getD (sp rs r).toNat [] = [] → whole[0]? = some r
  sub : ∀ r ∈ path, r ∈ whole
/-- the lists at the start -/
def waits (n : Nat) (rs : List (Int × Int)) : List (List Int) := (rng n).map (outsD rs)
theorem mem_outs {r p : Int} : r ∈ outsD rs p ↔ (0 ≤ r ∧ r < rs.length) ∧ sp rs r = p := by
  unfold outsD
  rw [outs_sp, List.mem_filter, mem_rng]
  simp
theorem flat_nodup : ∀ {w : List (List Int)}, (∀ row ∈ w, row.Nodup) → (∀ (i j : Nat) (a b : List Int), i ≠ j → w[i]? = some a → w[j]? = some b → ∀ x ∈ a, x ∉ b) → w.flatten.Nodup
  | [], _, _ => List.nodup_nil
  | x :: w, h1, h2 => by
    rw [List.flatten_cons]
    refine List.nodup_append.mpr ⟨h1 x List.mem_cons_self, flat_nodup (fun row hr => h1 row (List.mem_cons_of_mem _ hr)) (fun i j a b hij ha hb => h2 (i + 1) (j + 1) a b (by omega) (by simpa using ha) (by simpa using hb)), fun a ha b hb e => ?_⟩
    subst e
    obtain ⟨row, q1, q2⟩ := List.mem_flatten.mp hb
    obtain ⟨j, hj, e⟩ := List.mem_iff_getElem.mp q1
    exact h2 0 (j + 1) x row (by omega) rfl (by simp [List.getElem?_eq_getElem hj, e]) a ha q2
theorem waits_get {n j : Nat} {row : List Int} (h : (waits n rs)[j]? = some row) : j < n ∧ row = outsD rs (j : Int) := by
  unfold waits at h
  rw [List.getElem?_map] at h
  have hj : j < n := by
    apply Classical.byContradiction
    intro z
    rw [List.getElem?_eq_none (by rw [rng_len]; omega)] at h
    cases h
  rw [rng_get hj] at h
  exact ⟨hj, (Option.some.inj h).symm⟩
theorem waits_ok {n : Nat} (hin : InNet n rs) (hl : rs.length ≤ 24) : Wo rs n (waits n rs) ∧ (waits n rs).flatten.Perm (rng rs.length) := by
  have ndr : ∀ p, (outsD rs p).Nodup := fun p => (rng_nodup _).sublist List.filter_sublist
  refine ⟨⟨by unfold waits; rw [List.length_map, rng_len], fun j row h r hr => ?_, fun row hr => ?_⟩, ?_⟩
  · obtain ⟨_, rfl⟩ := waits_get h
    exact mem_outs.mp hr
  · unfold waits at hr
    obtain ⟨p, _, rfl⟩ := List.mem_map.mp hr
    have := outsD_len rs p
    omega
  · refine (List.perm_ext_iff_of_nodup (flat_nodup (fun row hr => ?_) (fun i j a b hij ha hb x hx hx2 => ?_)) (rng_nodup _)).mpr fun r => ?_
    · unfold waits at hr
      obtain ⟨p, _, rfl⟩ := List.mem_map.mp hr
      exact ndr p
    · obtain ⟨_, rfl⟩ := waits_get ha
      obtain ⟨_, rfl⟩ := waits_get hb
      have e1 := (mem_outs.mp hx).2
      have e2 := (mem_outs.mp hx2).2
      omega
    · rw [List.mem_flatten, mem_rng]
      constructor
      · rintro ⟨row, h1, h2⟩
        unfold waits at h1
        obtain ⟨p, _, rfl⟩ := List.mem_map.mp h1
        exact (mem_outs.mp h2).1
      · intro hr
        have ir := rd_in hin hr.1 hr.2
        refine ⟨outsD rs (sp rs r), ?_, mem_outs.mpr ⟨hr, rfl⟩⟩
        unfold waits
        exact List.mem_map.mpr ⟨sp rs r, mem_rng.mpr ir.1, rfl⟩
end
end L2

set_option Elab.async false
set_option linter.all false
set_option maxRecDepth 100000
set_option maxHeartbeats 4000000
/-! Rides: pure facts. -/
namespace L2
open PySem PySem.Spec PyProof.Rows
/-! sums -/
def sm {α : Type} (l : List α) (f : α → Nat) : Nat := (l.map f).sum
section
variable {α β : Type}
end
section
variable {rs : List (Int × Int)} {n : Nat}
/-- all the roads -/
def allR (rs : List (Int × Int)) : List Int := rng rs.length
def sur (rs : List (Int × Int)) (p : Int) : Nat := cO rs (allR rs) p - cI rs (allR rs) p
/-- walks from the places with more roads from than to: x is done so and so often -/
structure Sw (rs : List (Int × Int)) (n : Nat) (k : Int → Nat) (ws : List (List Int)) (w : List (List Int)) : Prop where
  wo : Wo rs n w
  perm : (ws.flatten ++ w.flatten).Perm (allR rs)
  walk : ∀ x ∈ ws, x ≠ [] ∧ ∃ a b, Path rs a x b ∧ (0 ≤ b ∧ b < n) ∧ w.getD b.toNat [] = [] ∧ 0 < sur rs a
  le : ∀ p, k p ≤ sur rs p
  low : ∀ p, cO rs (allR rs) p ≤ cI rs (allR rs) p → cO rs w.flatten p ≤ cI rs w.flatten p
  high : ∀ p, 0 < sur rs p → cO rs w.flatten p + k p = cI rs w.flatten p + sur rs p
  from_ : ∀ p, 0 < k p → ∃ x ∈ ws, ∃ b, Path rs p x b
end
end L2

set_option Elab.async false
set_option linter.all false
set_option maxRecDepth 100000
set_option maxHeartbeats 4000000
/-! Rides and parts: pure facts. -/
namespace L2
open PySem PySem.Spec PyProof.Rows
section
variable {rs : List (Int × Int)} {n : Nat}
/-! labels -/
theorem relab_nm {name : List Int} {e : Int × Int} {p : Int} (h0 : 0 ≤ p) (h1 : p < name.length) : nm (relab name e) p = if nm name p = hiI (nm name e.1) (nm name e.2) then loI (nm name e.1) (nm name e.2) else nm name p := nm_map h0 h1
theorem relab_len (name : List Int) (e : Int × Int) : (relab name e).length = name.length := by unfold relab; rw [List.length_map]
theorem fold_same (rs : List (Int × Int)) : ∀ (name : List Int) {p q : Int}, 0 ≤ p → p < name.length → 0 ≤ q → q < name.length → nm name p = nm name q → nm (rs.foldl relab name) p = nm (rs.foldl relab name) q := by
  induction rs with
  | nil => intro name p q _ _ _ _ h; exact h
  | cons e rs ih =>
    intro name p q p0 p1 q0 q1 h
    refine ih (relab name e) p0 (by rw [relab_len]; exact p1) q0 (by rw [relab_len]; exact q1) ?_
    rw [relab_nm p0 p1, relab_nm q0 q1, h]
theorem lohi_ne {a b : Int} : (loI a b = a ∧ hiI a b = b) ∨ (loI a b = b ∧ hiI a b = a) := by
  unfold loI hiI
  by_cases h : b < a
  · rw [if_pos h, if_neg (by omega)]; exact .inr ⟨rfl, rfl⟩
  · rw [if_neg h]
    by_cases h2 : b > a
    · rw [if_pos h2]; exact .inl ⟨rfl, rfl⟩
    · rw [if_neg h2]
      have : a = b := by omega
      subst this
      exact .inl ⟨rfl, rfl⟩
theorem fold_join (rs : List (Int × Int)) : ∀ (name : List Int), (∀ e ∈ rs, (0 ≤ e.1 ∧ e.1 < name.length) ∧ 0 ≤ e.2 ∧ e.2 < name.length) → ∀ e ∈ rs, nm (rs.foldl relab name) e.1 = nm (rs.foldl relab name) e.2 := by
  induction rs with
  | nil => intro name _ e he; simp at he
  | cons x rs ih =>
    intro name hin e he
    rcases List.mem_cons.mp he with z | z
    · subst z
      have hx := hin e List.mem_cons_self
      show nm (rs.foldl relab (relab name e)) e.1 = nm (rs.foldl relab (relab name e)) e.2
      refine fold_same rs (relab name e) hx.1.1 (by rw [relab_len]; exact hx.1.2) hx.2.1 (by rw [relab_len]; exact hx.2.2) ?_
      rw [relab_nm hx.1.1 hx.1.2, relab_nm hx.2.1 hx.2.2]
      rcases lohi_ne (a := nm name e.1) (b := nm name e.2) with ⟨q1, q2⟩ | ⟨q1, q2⟩
      · rw [q1, q2, if_pos (rfl : nm name e.2 = nm name e.2)]
        split
        · rfl
        · rfl
      · rw [q1, q2, if_pos (rfl : nm name e.1 = nm name e.1)]
        split
        · rfl
        · rfl
    · exact ih (relab name x) (fun e' he' => by rw [relab_len]; exact hin e' (List.mem_cons_of_mem _ he')) e z
theorem names_join (hin : InNet n rs) {e : Int × Int} (he : e ∈ rs) : nm (names n rs) e.1 = nm (names n rs) e.2 :=
  fold_join rs (rng n) (fun e he => by rw [rng_len]; exact hin e he) e he
theorem road_mem {r : Int} (h0 : 0 ≤ r) (h1 : r < rs.length) : (sp rs r, en rs r) ∈ rs := by
  obtain ⟨v, _, h2, h3⟩ := atI_ge (xs := rs) h0 h1
  have : v = (sp rs r, en rs r) := by
    unfold sp en
    rw [List.getD_eq_getElem?_getD, h2]
    rfl
  rw [← this]
  exact h3
theorem mem_road {e : Int × Int} (h : e ∈ rs) : ∃ r : Int, (0 ≤ r ∧ r < rs.length) ∧ sp rs r = e.1 ∧ en rs r = e.2 := by
  obtain ⟨i, hi, ei⟩ := List.mem_iff_getElem.mp h
  refine ⟨(i : Int), ⟨by omega, by omega⟩, ?_, ?_⟩
  · unfold sp
    rw [Int.toNat_natCast, List.getD_eq_getElem?_getD, List.getElem?_eq_getElem hi, ei]
    rfl
  · unfold en
    rw [Int.toNat_natCast, List.getD_eq_getElem?_getD, List.getElem?_eq_getElem hi, ei]
    rfl
theorem used_road {p : Int} : p ∈ used rs ↔ ∃ r : Int, (0 ≤ r ∧ r < rs.length) ∧ (sp rs r = p ∨ en rs r = p) := by
  unfold used
  constructor
  · intro h
    rcases List.mem_append.mp h with z | z
    · obtain ⟨e, he, rfl⟩ := List.mem_map.mp z
      obtain ⟨r, hr, h1, _⟩ := mem_road he
      exact ⟨r, hr, .inl h1⟩
    · obtain ⟨e, he, rfl⟩ := List.mem_map.mp z
      obtain ⟨r, hr, _, h1⟩ := mem_road he
      exact ⟨r, hr, .inr h1⟩
  · rintro ⟨r, hr, h⟩
    have m := road_mem (rs := rs) hr.1 hr.2
    rcases h with z | z
    · exact List.mem_append_left _ (List.mem_map.mpr ⟨_, m, z⟩)
    · exact List.mem_append_right _ (List.mem_map.mpr ⟨_, m, z⟩)
/-! the rides so far: each road is in one of them, or waits -/
structure Rw (rs : List (Int × Int)) (n : Nat) (A : Int → Prop) (ts w : List (List Int)) : Prop where
  wo : Wo rs n w
  ev : Ev rs w.flatten
  perm : (ts.flatten ++ w.flatten).Perm (allR rs)
  ride : ∀ y ∈ ts, y ≠ [] ∧ ∃ a b, Path rs a y b ∧ (∀ r ∈ y, w.getD (sp rs r).toNat [] = []) ∧ w.getD b.toNat [] = [] ∧ A a
  from_ : ∀ p, 0 < sur rs p → ∃ y ∈ ts, ∃ b, Path rs p y b
/-- a part without a place with more roads from it than to it -/
def lone (n : Nat) (rs : List (Int × Int)) (f : Int) : Prop := root (names n rs) rs f = true ∧ sm (grp (names n rs) rs n f) (sur rs) = 0
instance (f : Int) : Decidable (lone n rs f) := by unfold lone; infer_instance
/-! how many are needed -/
def needN (n : Nat) (rs : List (Int × Int)) : Nat := sm (partsD n rs) fun part => max 1 (sm part (sur rs))
/-! the bends set in, walk by walk -/
structure Cb (rs : List (Int × Int)) (n : Nat) (ws : List (List Int)) (k : Nat) (ys w : List (List Int)) : Prop where
  wo : Wo rs n w
  ev : Ev rs w.flatten
  perm : (ys.flatten ++ ((ws.drop k).flatten ++ w.flatten)).Perm (allR rs)
  len : ys.length = k
  ride : ∀ y ∈ ys, y ≠ [] ∧ ∃ a b, Path rs a y b ∧ (∀ r ∈ y, w.getD (sp rs r).toNat [] = []) ∧ w.getD b.toNat [] = [] ∧ 0 < sur rs a
  rest : ∀ x ∈ ws.drop k, x ≠ [] ∧ ∃ a b, Path rs a x b ∧ (0 ≤ b ∧ b < n) ∧ w.getD b.toNat [] = [] ∧ 0 < sur rs a
  from_ : ∀ p, 0 < sur rs p → (∃ y ∈ ys, ∃ b, Path rs p y b) ∨ ∃ x ∈ ws.drop k, ∃ b, Path rs p x b
/-- what is told at the end -/
structure Rides (rs : List (Int × Int)) (n : Nat) (ts : List (List Int)) : Prop where
  perm : ts.flatten.Perm (allR rs)
  ride : ∀ y ∈ ts, y ≠ [] ∧ ∃ a b, Path rs a y b
  len : ts.length = needN n rs
end
end L2

set_option Elab.async false
set_option linter.all false
set_option maxRecDepth 100000
set_option maxHeartbeats 4000000
/-! Two nets beside each other: pure facts; promises of rides. -/
namespace L2
open PySem PySem.Spec PyProof.Rows
section
variable {rs qs : List (Int × Int)} {n m : Nat}
theorem map_sp : (rng rs.length).map (sp rs) = rs.map (·.1) := by
  apply List.ext_getElem?
  intro i
  rw [List.getElem?_map, List.getElem?_map]
  by_cases h : i < rs.length
  · rw [rng_get h, List.getElem?_eq_getElem h]
    show some (sp rs (i : Int)) = _
    unfold sp
    rw [Int.toNat_natCast, List.getD_eq_getElem?_getD, List.getElem?_eq_getElem h]
    rfl
  · rw [List.getElem?_eq_none (by rw [rng_len]; omega), List.getElem?_eq_none (by omega)]
    rfl
theorem map_en : (rng rs.length).map (en rs) = rs.map (·.2) := by
  apply List.ext_getElem?
  intro i
  rw [List.getElem?_map, List.getElem?_map]
  by_cases h : i < rs.length
  · rw [rng_get h, List.getElem?_eq_getElem h]
    show some (en rs (i : Int)) = _
    unfold en
    rw [Int.toNat_natCast, List.getD_eq_getElem?_getD, List.getElem?_eq_getElem h]
    rfl
  · rw [List.getElem?_eq_none (by rw [rng_len]; omega), List.getElem?_eq_none (by omega)]
    rfl
theorem cO_pairs (p : Int) : cO rs (allR rs) p = rs.countP fun e => decide (e.1 = p) := by
  have h := congrArg (List.countP fun x => decide (x = p)) (map_sp (rs := rs))
  rw [List.countP_map, List.countP_map] at h
  exact h
theorem cI_pairs (p : Int) : cI rs (allR rs) p = rs.countP fun e => decide (e.2 = p) := by
  have h := congrArg (List.countP fun x => decide (x = p)) (map_en (rs := rs))
  rw [List.countP_map, List.countP_map] at h
  exact h
end
section
variable {c : Ct}
def p_waits : List (Ent c) → (List (List Int) → Prop) → Prop := fun es R => ∃ N : NetD, es = [.sh N] ∧ (1 ≤ N.n ∧ N.n ≤ 8) ∧ InNet N.n N.rs ∧ N.rs.length ≤ 24 ∧ R (waits N.n.toNat N.rs)
def p_walkN : List (Ent c) → List (List Int) → List (Ent c) → (List Int → List (List Int) → Prop) → Prop := fun es w es2 R => ∃ (N : NetD) (st : Int), es = [.sh N, .sh st] ∧ es2 = [] ∧ (1 ≤ N.n ∧ N.n ≤ 8) ∧ InNet N.n N.rs ∧ N.rs.length ≤ 24 ∧ (0 ≤ st ∧ st < N.n) ∧ Wo N.rs N.n w ∧ ∀ path w' q, Wkd N.rs N.n w st path w' q → R path w'
end
end L2

set_option Elab.async false
set_option linter.all false
set_option maxRecDepth 100000
set_option maxHeartbeats 4000000
/-! No net of so many rides needs more: pure facts; promises of k14. -/
namespace L2
open PySem PySem.Spec PyProof.Rows
section
variable {rs : List (Int × Int)} {n : Nat}
end
section
variable {c : Ct} {env : List (Ent c)} {ta tb td : TE} {α β γ : Type} [Rp c α] [Rp c β] [Rp c γ]
/-- a triple with a name's own data in the middle -/
theorem we_tri {i : Nat} {x : β} {R : T3 α β γ → Prop} [Flat c α] [Flat c γ] (hi : env[i]? = some (.en true x)) (h : WE .any env ta fun a => WE .any env td fun d => R ⟨a, x, d⟩) : WE (.mv [i]) env (tTup (tCons ta (tCons (tVar i) (tCons td tNil)))) R := fun H0 F0 Fs σ H S Q k => by
  refine h S _ fun a v H1 as ra s1 t1 _ => ?_
  have := Flat.flat t1; subst this
  obtain ⟨u, h1, w, e, t⟩ := (S.same s1).at_ hi
  refine ⟨w, by rw [h1, e], ra (S.same s1) _ fun d dv H2 ds rd s2 t2 _ => ?_⟩
  have := Flat.flat t2; subst this
  refine ⟨by show 3 ≤ sizeLine; decide, fun p hp => ?_⟩
  have sp : Same H2 (upd H2 p (.tup [v, w, dv])) := Same.new hp
  exact k ⟨a, x, d⟩ _ _ ([] ++ (Fs i ++ [])) rd ((s1.trans s2).trans sp) ⟨p, v, w, dv, [], Fs i, [], rfl, upd_same, tree_same t1 (s2.trans sp), tree_same t (s2.trans sp), tree_same t2 sp, rfl⟩ ⟨by simpa using S.nd i, fun a ha => .inr ⟨i, by simp, by simpa using ha⟩⟩
end
end L2

set_option Elab.async false
set_option linter.all false
set_option maxRecDepth 100000
set_option maxHeartbeats 4000000
/-! Where there is a round, one is found: pure facts. -/
namespace L2
open PySem PySem.Spec PyProof.Rows
section
variable {rs : List (Int × Int)} {n : Nat}
end
section
variable {c : Ct}
end
end L2

set_option Elab.async false
set_option linter.all false
set_option maxRecDepth 100000
set_option maxHeartbeats 4000000
/-! Own rules, part 45: set(list), its length; windows and rings. -/
namespace L2
open PySem PySem.Spec PyProof.Rows
/-- how many different ones -/
def fm (ns : List Int) : List Int := firstMet (fun i => ns.getD i 0) ns.length
section
variable {X : Cx} {K : PySem.W.Frag}
end
/-- a set of numbers -/
structure Sd where
  ns : List Int
section
variable {c : Ct}
instance : Rp c Sd where
  tree := fun H v x as => ∃ p, v = .ref p ∧ H p = some (.set (fun k => (fm x.ns).any (· == k)) (fm x.ns).length) ∧ as = []
  isl := fun h a ha => by
    obtain ⟨_, _, _, z⟩ := h
    rw [z] at ha; simp at ha
  frame := fun h k => by
    obtain ⟨a, e, s, z⟩ := h
    exact ⟨a, e, k _ _ s (.inl rfl), z⟩
variable {env : List (Ent c)} {m : Md} {ta : TE}
end
/-! windows -/
section
variable {a l : Nat}
/-- the roads of the net of windows -/
def wn (a l : Nat) : List (Int × Int) := (rng (a ^ l)).map fun w => (w / (a : Int), w % ((a ^ (l - 1) : Nat) : Int))
theorem wn_len : (wn a l).length = a ^ l := by unfold wn; rw [List.length_map, rng_len]
/-- an item, read round -/
def rd (told : List Int) (i : Int) : Int := nm told (i % (told.length : Int))
end
end L2

set_option Elab.async false
set_option linter.all false
set_option maxRecDepth 100000
set_option maxHeartbeats 4000000
/-! Own rules, part 46: extend, isinstance of a net; the windows of the law. -/
namespace L2
open PySem PySem.Spec PyProof.Rows
/-- what stands on the class of nets -/
structure NetK (K : PySem.W.Frag) (C : Addr) : Prop where
  cl : PySem.W.findIn K (.ref C) "__class__" = some (some (.builtin "object.__class__"))
  hn : PySem.W.specialIn K (.builtin "object.__class__") "__get__" = some (some (.builtin "getset_descriptor.__get__"))
  tk : PySem.W.takesIn K (.builtin "object.__class__") = some true
  mo : PySem.W.mroIn K C (.type "object") = some true
  is_ : PySem.W.kitOne K (.ref C) (.ref C) = some true
section
variable {c : Ct} {env : List (Ent c)} {m : Md} {ta te : TE} {α β : Type} [Rp c α] [Rp c β] {R : Rs c β}
end
section
variable {c : Ct} {env : List (Ent c)} {m : Md} {ta tb : TE}
end
/-! the windows of the law -/
def numL (a : Int) (row : List Int) : Int := row.foldl (fun n s => n * a + s) 0
def rowsAll (a : Nat) : Nat → List (List Int)
  | 0 => [[]]
  | l + 1 => (rowsAll a l).flatMap fun row => (rng a).map fun s => row ++ [s]
def szs : List (Nat × Nat) := [(2, 1), (2, 2), (2, 3), (2, 4), (3, 1), (3, 2), (4, 2), (24, 1), (5, 1)] ++ (List.range 30).map fun k => (1, k + 1)
def winC (p : Nat × Nat) : Bool :=
  decide (1 ≤ p.1) && decide (p.1 ≤ 24) && decide (1 ≤ p.2) && decide (p.2 ≤ 30) && decide (p.1 ^ p.2 ≤ 24) && decide (1 ≤ p.1 ^ (p.2 - 1)) && decide (p.1 ^ (p.2 - 1) ≤ 8) && decide (p.1 ^ (p.2 - 1) * p.1 = p.1 ^ p.2) &&
  (wn p.1 p.2).all (fun e => decide (0 ≤ e.1) && decide (e.1 < (p.1 ^ (p.2 - 1) : Nat)) && decide (0 ≤ e.2) && decide (e.2 < (p.1 ^ (p.2 - 1) : Nat))) &&
  (oddD (p.1 ^ (p.2 - 1)) (wn p.1 p.2)).isEmpty && decide ((partsD (p.1 ^ (p.2 - 1)) (wn p.1 p.2)).length ≤ 1) &&
  decide ((rowsAll p.1 p.2).length = p.1 ^ p.2) && decide ((rowsAll p.1 p.2).map (fun row => (numL p.1 (cutL row none (some (-1))), numL p.1 (cutL row (some 1) none))) = wn p.1 p.2) && (rowsAll p.1 p.2).all (fun row => decide (row.length = p.2) && row.all (fun s => decide (0 ≤ s) && decide (s < p.1)))
theorem win_all : szs.all winC = true := by decide +kernel
structure Win (a l : Nat) : Prop where
  a1 : 1 ≤ a
  a2 : a ≤ 24
  l1 : 1 ≤ l
  l2 : l ≤ 30
  cnt : a ^ l ≤ 24
  p1 : 1 ≤ a ^ (l - 1)
  p8 : a ^ (l - 1) ≤ 8
  mul : a ^ (l - 1) * a = a ^ l
  net : InNet ((a ^ (l - 1) : Nat) : Int) (wn a l)
  odd : oddD (a ^ (l - 1)) (wn a l) = []
  one : (partsD (a ^ (l - 1)) (wn a l)).length ≤ 1
  rows : (rowsAll a l).length = a ^ l
  road : (rowsAll a l).map (fun row => (numL a (cutL row none (some (-1))), numL a (cutL row (some 1) none))) = wn a l
  row : ∀ r ∈ rowsAll a l, r.length = l ∧ ∀ s ∈ r, 0 ≤ s ∧ s < a
theorem win_of {a l : Nat} (h : (a, l) ∈ szs) : Win a l := by
  have := List.all_eq_true.mp win_all _ h
  unfold winC at this
  simp only [Bool.and_eq_true, decide_eq_true_iff, List.all_eq_true] at this
  obtain ⟨⟨⟨⟨⟨⟨⟨⟨⟨⟨⟨⟨⟨h1, h2⟩, h3⟩, h4⟩, h5⟩, h6⟩, h7⟩, h8⟩, h9⟩, h10⟩, h11⟩, h12⟩, h13⟩, h14⟩ := this
  refine ⟨h1, h2, h3, h4, h5, h6, h7, h8, fun e he => ?_, List.isEmpty_iff.mp h10, h11, h12, h13, fun r hr => ?_⟩
  · obtain ⟨⟨⟨q1, q2⟩, q3⟩, q4⟩ := h9 e he
    exact ⟨⟨q1, q2⟩, q3, q4⟩
  · obtain ⟨q1, q2⟩ := h14 r hr
    exact ⟨q1, fun s hs => q2 s hs⟩
section
variable {c : Ct}
def p_wcount : List (Ent c) → (Int → Prop) → Prop := fun es R => ∃ a l : Nat, es = [.sh (a : Int), .sh (l : Int)] ∧ 1 ≤ a ∧ 1 ≤ l ∧ l ≤ 1000 ∧ a ^ l ≤ 24 ∧ R ((a ^ l : Nat) : Int)
def p_wnet : List (Ent c) → (NetD → Prop) → Prop := fun es R => ∃ a l : Nat, es = [.sh (a : Int), .sh (l : Int)] ∧ Win a l ∧ R ⟨((a ^ (l - 1) : Nat) : Int), wn a l⟩
end
end L2

set_option Elab.async false
set_option linter.all false
set_option maxRecDepth 100000
set_option maxHeartbeats 4000000
/-! Own rules, part 61: lists within a list handed to a def changed in it; list.count. -/
namespace L2
open PySem PySem.Spec PyProof.Rows
section
variable {X : Cx} {K : PySem.W.Frag}
def rCountI (K : PySem.W.Frag) : V → List V → Hp → VK → Prop := fun x vs H Q => ∃ (l : Addr) (ns : List Int) (n : Int), x = .ref l ∧ vs = [.int n] ∧ SqL K H l (ns.map V.int) ∧ Q (.int (ns.count n : Nat)) H
theorem mt_countIK (hK : X.K = K) : MtR X "list.count" (rCountI K) := by
  subst hK
  intro pins s σ H x vs v us Q I rx rv h
  obtain ⟨l, ns, n, rfl, rfl, hH, q⟩ := h
  cases rx
  obtain ⟨u, rfl, t, rfl⟩ := vals1 rv
  obtain ⟨its, r, ⟨o, k, e, hc, hdct, hd⟩, hz⟩ := I.list hH
  exact count_list_ints ⟨o, e, hc, k, hd⟩ (intsAre_of r) ⟨.int _, H, I.tok _, ⟨_, rfl⟩, q⟩
end
section
variable {c : Ct} {env : List (Ent c)} {m : Md} {ta tb te : TE} {tc : TT} {t u : TS} {α β γ : Type} [Rp c α] [Rp c β] [Rp c γ] {v0 : V} {R : List (Ent c) → Prop}
theorem we_count {R : Int → Prop} (h : WE .any env ta fun xs : List Int => WE .any env tb fun n : Int => R (xs.count n : Nat)) : WE m env (tBM c.K "list" (rCountI c.K) ta (tCons tb tNil)) R :=
  fun _ _ _ _ _ S Q k => h S _ fun xs v H1 as ra s1 t1 _ => by
    obtain ⟨a, vs, as', rfl, ha, tr, rfl⟩ := t1
    refine ⟨.inl ⟨rfl, _, SqL.of ha⟩, ra (S.same s1) _ fun n u H2 bs rb s2 t2 _ => ?_⟩
    have ha2 := s2 _ _ ha
    rw [tr.ints] at ha2
    exact ⟨a, xs, n, rfl, by rw [t2.1], SqL.of ha2, k _ _ _ [] rb (s1.trans s2) ⟨rfl, rfl⟩ Md.nil⟩
end
end L2

set_option Elab.async false
set_option linter.all false
set_option maxRecDepth 100000
set_option maxHeartbeats 4000000
/-! Own rules, part 62: orders walked or refused. -/
namespace L2
open PySem PySem.Spec PyProof.Rows
theorem count_outs {rs : List (Int × Int)} (p : Int) : (rs.map (·.1)).count p = (outsD rs p).length := by
  rw [List.count_eq_countP, List.countP_map]
  unfold outsD
  rw [outs_sp, ← List.countP_eq_length_filter]
  have := cO_pairs (rs := rs) p
  unfold cO allR at this
  rw [this]
  exact List.countP_congr fun e _ => by simp
theorem count_ins {rs : List (Int × Int)} (p : Int) : (rs.map (·.2)).count p = (insD rs p).length := by
  rw [List.count_eq_countP, List.countP_map]
  unfold insD
  rw [outs_en, ← List.countP_eq_length_filter]
  have := cI_pairs (rs := rs) p
  unfold cI allR at this
  rw [this]
  exact List.countP_congr fun e _ => by simp
/-- the roads that a walk leaves out -/
def leftD (rs : List (Int × Int)) (path : List Int) : List Int := (rng rs.length).filter fun r => !decide (r ∈ path)
section
variable {c : Ct}
/-- what comes of a walk by orders: which way it ends -/
structure ByO (N : NetD) (st : Int) (rows : List (List Int)) (r0 r1 r2 : Prop) (r3 r4 : List Int → Prop) : Prop where
  np : ¬ (0 ≤ st ∧ st < N.n) → r0
  no : (0 ≤ st ∧ st < N.n) → ¬ Good N.n.toNat N.rs rows → r1
  ne : (0 ≤ st ∧ st < N.n) → Good N.n.toNat N.rs rows → oddD N.n.toNat N.rs ≠ [] → r2
  nw : (0 ≤ st ∧ st < N.n) → Good N.n.toNat N.rs rows → oddD N.n.toNat N.rs = [] → leftD N.rs (walkD N.rs rows st) ≠ [] → r3 (leftD N.rs (walkD N.rs rows st))
  ok : (0 ≤ st ∧ st < N.n) → Good N.n.toNat N.rs rows → oddD N.n.toNat N.rs = [] → leftD N.rs (walkD N.rs rows st) = [] → r4 (walkD N.rs rows st)
def p_qodd : List (Ent c) → (List Int → Prop) → Prop := fun es R => ∃ (n : Int) (rs : List (Int × Int)), es = [.sh n, .sh rs] ∧ (1 ≤ n ∧ n ≤ 8) ∧ rs.length ≤ 24 ∧ R (oddD n.toNat rs)
end
/-! ### the walk with counts -/
/-- what is left of the rows -/
structure WkT (rs : List (Int × Int)) (rows : List (List Int)) (st : Int) (tk : List Int) (h : Int) (p : List Int) (w : List (List Int)) : Prop where
  len : w.length = rows.length
  at_ : ∀ (j : Nat) (t : Int) (row : List Int), tk[j]? = some t → rows[j]? = some row → w[j]? = some (row.drop t.toNat)
  go : ∀ path2 w' q, WkR rs w h path2 w' q → WkR rs rows st (p ++ path2) w' q
end L2

set_option Elab.async false
set_option linter.all false
set_option maxRecDepth 100000
set_option maxHeartbeats 4000000
/-! Own rules, part 74: sorted(set(..)), int(bool), bool != bool, pairs with a text in front; parts (k04). -/
namespace L2
open PySem PySem.Spec PyProof.Rows
section
variable {X : Cx} {K : PySem.W.Frag} {w : World}
end
section
variable {c : Ct} {env : List (Ent c)} {m : Md} {ta tb te : TE} {α β γ δ : Type} [Rp c α] [Rp c β] [Rp c γ] [Rp c δ] {w : World}
theorem Md.back {H H' : Hp} {Fs : Nat → List Addr} {as : List Addr} (s : Same H H') (h : m.ok H' Fs as) : m.ok H Fs as := by
  cases m with
  | any => trivial
  | sh => exact h
  | mv T => exact ⟨h.1, fun a ha => (h.2 a ha).imp (fun z => s.free z) id⟩
/-- a pair, its first flat -/
theorem we_tupT [Flat c α] {R : α × β → Prop} (h : WE .any env ta fun a => WE m env tb fun b => R (a, b)) : WE m env (tTup (tCons ta (tCons tb tNil))) R :=
  fun _ _ _ _ _ S Q k => h S _ fun a v H1 as ra s1 t1 _ => ra (S.same s1) _ fun b u H2 bs rb s2 t2 o2 => by
    refine ⟨by show 2 ≤ sizeLine; decide, fun p hp => ?_⟩
    have sp : Same H2 (upd H2 p (.tup [v, u])) := Same.new hp
    have e := Flat.flat t1
    subst e
    exact k (a, b) _ _ ([] ++ bs) rb ((s1.trans s2).trans sp) ⟨p, v, u, [], bs, rfl, upd_same, tree_same t1 (s2.trans sp), tree_same t2 sp, rfl⟩ (Md.back s1 o2)
end
/-! parts -/
section
variable {n : Nat} {rs : List (Int × Int)}
theorem parts_at {part : List Int} {i : Nat} (h : (partsD n rs)[i]? = some part) : ∃ f : Int, part = grp (names n rs) rs n f ∧ part ≠ [] ∧ ((rng n).filter fun f => decide ((0 : Int) < ((grp (names n rs) rs n f).length : Nat)))[i]? = some f := by
  have e : partsD n rs = ((rng n).filter fun f => decide ((0 : Int) < ((grp (names n rs) rs n f).length : Nat))).map fun f => grp (names n rs) rs n f := by
    unfold partsD
    rw [List.filter_map]
    rfl
  rw [e, List.getElem?_map] at h
  cases q : ((rng n).filter fun f => decide ((0 : Int) < ((grp (names n rs) rs n f).length : Nat)))[i]? with
  | none => rw [q] at h; cases h
  | some f =>
    rw [q] at h
    cases h
    refine ⟨f, rfl, fun z => ?_, rfl⟩
    have := (List.mem_filter.mp (List.mem_of_getElem? q)).2
    rw [show grp (names n rs) rs n f = [] from z] at this
    simp at this
theorem grp_mem {nms : List Int} {f p : Int} : p ∈ grp nms rs n f ↔ (0 ≤ p ∧ p < n) ∧ nm nms p = f ∧ p ∈ used rs := by
  unfold grp
  rw [List.mem_filter, mem_rng, Bool.and_eq_true, decide_eq_true_eq, decide_eq_true_eq]
end
section
variable {c : Ct}
abbrev Fd := Str × (Int ⊕ List Int)
end
end L2

set_option Elab.async false
set_option linter.all false
set_option maxRecDepth 100000
set_option maxHeartbeats 4000000
/-! Own rules, part 75: determinants by roads (rows of numbers; the last place is taken out, its roads led on). -/
namespace L2
/-- a sum -/
def Sm : Nat → (Nat → Int) → Int
  | 0, _ => 0
  | n + 1, f => Sm n f + f n
theorem Sm_congr {f g : Nat → Int} : ∀ {n : Nat}, (∀ t, t < n → f t = g t) → Sm n f = Sm n g
  | 0, _ => rfl
  | n + 1, h => by
    unfold Sm
    rw [Sm_congr fun t ht => h t (by omega), h n (by omega)]
theorem Sm_add (f g : Nat → Int) : ∀ n, Sm n (fun t => f t + g t) = Sm n f + Sm n g
  | 0 => rfl
  | n + 1 => by
    show Sm n (fun t => f t + g t) + (f n + g n) = Sm n f + f n + (Sm n g + g n)
    rw [Sm_add f g n]
    omega
theorem Sm_mul (a : Int) (f : Nat → Int) : ∀ n, Sm n (fun t => a * f t) = a * Sm n f
  | 0 => (Int.mul_zero a).symm
  | n + 1 => by unfold Sm; rw [Sm_mul a f n, Int.mul_add]
theorem Sm_zero {f : Nat → Int} {n : Nat} (h : ∀ t, t < n → f t = 0) : Sm n f = 0 := by
  induction n with
  | zero => rfl
  | succ n ih => unfold Sm; rw [ih fun t ht => h t (by omega), h n (by omega)]; rfl
theorem Sm_one {f : Nat → Int} {n k : Nat} (hk : k < n) (h : ∀ t, t < n → t ≠ k → f t = 0) : Sm n f = f k := by
  induction n with
  | zero => omega
  | succ n ih =>
    unfold Sm
    by_cases e : k = n
    · subst e
      rw [Sm_zero fun t ht => h t (by omega) (by omega)]
      omega
    · rw [ih (by omega) fun t ht hne => h t (by omega) hne, h n (by omega) (fun z => e z.symm)]
      omega
theorem Sm_comm (f : Nat → Nat → Int) : ∀ n m, Sm n (fun t => Sm m (fun u => f t u)) = Sm m (fun u => Sm n (fun t => f t u))
  | 0, m => (Sm_zero fun _ _ => rfl).symm
  | n + 1, m => by
    show Sm n (fun t => Sm m (fun u => f t u)) + Sm m (fun u => f n u) = Sm m (fun u => Sm n (fun t => f t u) + f n u)
    rw [Sm_comm f n m, ← Sm_add]
abbrev Mx := Nat → Nat → Int
def addc (M : Mx) (k t : Nat) : Mx := fun i j => if j = t then M i j + M i k else M i j
def Dt : Nat → Mx → Int
  | 0, _ => 1
  | n + 1, M => Sm (n + 1) (M n) * Dt n M - Sm n (fun t => M n t * Dt n (addc M n t))
theorem Dt_congr : ∀ {n : Nat} {M N : Mx}, (∀ i j, i < n → j < n → M i j = N i j) → Dt n M = Dt n N
  | 0, _, _, _ => rfl
  | n + 1, M, N, h => by
    unfold Dt
    rw [Sm_congr (f := M n) (g := N n) fun t ht => h n t (by omega) ht, Dt_congr (M := M) (N := N) fun i j hi hj => h i j (by omega) (by omega)]
    congr 1
    refine Sm_congr fun t ht => ?_
    rw [h n t (by omega) (by omega), Dt_congr (M := addc M n t) (N := addc N n t) fun i j hi hj => ?_]
    unfold addc
    rw [h i j (by omega) (by omega), h i n (by omega) (by omega)]
def setr (M : Mx) (r : Nat) (v : Nat → Int) : Mx := fun i j => if i = r then v j else M i j
theorem Dt_last {n : Nat} {M : Mx} {v : Nat → Int} : Dt (n + 1) (setr M n v) = Sm (n + 1) v * Dt n M - Sm n (fun t => v t * Dt n (addc M n t)) := by
  conv => lhs; unfold Dt
  rw [Sm_congr (f := setr M n v n) (g := v) fun t ht => by unfold setr; rw [if_pos rfl], Dt_congr (M := setr M n v) (N := M) fun i j hi hj => by unfold setr; rw [if_neg (by omega)]]
  congr 1
  refine Sm_congr fun t ht => ?_
  rw [Dt_congr (M := addc (setr M n v) n t) (N := addc M n t) fun i j hi hj => by
    have : ¬ i = n := by omega
    simp only [addc, setr, this, if_false]]
  unfold setr
  rw [if_pos rfl]
theorem setr_addc {n r t : Nat} {M : Mx} {v : Nat → Int} (hr : r ≠ n) : addc (setr M r v) n t = setr (addc M n t) r (fun j => if j = t then v j + v n else v j) := by
  funext i j
  unfold addc setr
  by_cases h : i = r
  · simp [h]
  · simp [h]
theorem Dt_lin : ∀ {n r : Nat} {M : Mx} {v u : Nat → Int} (a b : Int), r < n → Dt n (setr M r fun j => a * v j + b * u j) = a * Dt n (setr M r v) + b * Dt n (setr M r u)
  | 0, _, _, _, _, _, _, h => by omega
  | n + 1, r, M, v, u, a, b, h => by
    by_cases e : r = n
    · subst e
      rw [Dt_last, Dt_last, Dt_last, Sm_add, Sm_mul, Sm_mul]
      rw [Sm_congr (f := fun t => (a * v t + b * u t) * Dt r (addc M r t)) (g := fun t => a * (v t * Dt r (addc M r t)) + b * (u t * Dt r (addc M r t))) fun t _ => by
        rw [Int.add_mul, Int.mul_assoc, Int.mul_assoc]]
      rw [Sm_add, Sm_mul, Sm_mul, Int.mul_sub, Int.mul_sub, Int.add_mul, Int.mul_assoc, Int.mul_assoc]
      omega
    · have hr : r < n := by omega
      have hrow : ∀ w : Nat → Int, setr M r w n = M n := fun w => by funext j; unfold setr; rw [if_neg (by omega)]
      unfold Dt
      rw [hrow, hrow, hrow, Dt_lin a b hr]
      rw [Sm_congr (f := fun t => M n t * Dt n (addc (setr M r fun j => a * v j + b * u j) n t)) (g := fun t => a * (M n t * Dt n (addc (setr M r v) n t)) + b * (M n t * Dt n (addc (setr M r u) n t))) fun t _ => ?_]
      · rw [Sm_add, Sm_mul, Sm_mul, Int.mul_add, Int.mul_sub, Int.mul_sub, Int.mul_left_comm, Int.mul_left_comm (Sm (n + 1) (M n)) b]
        omega
      · rw [setr_addc e, setr_addc e, setr_addc e]
        have : (fun j => if j = t then (a * v j + b * u j) + (a * v n + b * u n) else a * v j + b * u j) = fun j => a * (if j = t then v j + v n else v j) + b * (if j = t then u j + u n else u j) := by
          funext j
          by_cases h : j = t
          · simp only [h, if_true, Int.mul_add]; omega
          · simp only [h, if_false]
        rw [this, Dt_lin a b hr, Int.mul_add, Int.mul_left_comm, Int.mul_left_comm (M n t) b]
/-! two places change their names -/
def sw (a b i : Nat) : Nat := if i = a then b else if i = b then a else i
def swM (M : Mx) (a b : Nat) : Mx := fun i j => M (sw a b i) (sw a b j)
/-- both of the last two taken out -/
def two (n : Nat) (M : Mx) : Int :=
  Sm (n + 2) (M (n + 1)) * Sm (n + 2) (M n) * Dt n M - Sm (n + 2) (M (n + 1)) * (M n (n + 1) * Dt n M) - Sm (n + 2) (M n) * (M (n + 1) n * Dt n M)
   - Sm (n + 2) (M (n + 1)) * Sm n (fun u => M n u * Dt n (addc M n u)) - Sm (n + 2) (M n) * Sm n (fun t => M (n + 1) t * Dt n (addc M (n + 1) t))
   + Sm n (fun t => Sm n (fun u => M (n + 1) t * M n u * Dt n (addc (addc M (n + 1) t) n u)))
   + M n (n + 1) * Sm n (fun t => M (n + 1) t * Dt n (addc (addc M (n + 1) t) n t)) + M (n + 1) n * Sm n (fun u => M n u * Dt n (addc (addc M (n + 1) u) n u))
theorem Dt_two (n : Nat) (M : Mx) : Dt (n + 2) M = two n M := by
  have e1 : Dt (n + 1) M = (Sm (n + 2) (M n) - M n (n + 1)) * Dt n M - Sm n (fun u => M n u * Dt n (addc M n u)) := by
    conv => lhs; unfold Dt
    rw [show Sm (n + 2) (M n) = Sm (n + 1) (M n) + M n (n + 1) from rfl]
    congr 2
    omega
  have e2 : ∀ t, t < n → Dt (n + 1) (addc M (n + 1) t) = Sm (n + 2) (M n) * Dt n (addc M (n + 1) t) - Sm n (fun u => M n u * Dt n (addc (addc M (n + 1) t) n u)) - M n (n + 1) * Dt n (addc (addc M (n + 1) t) n t) := fun t ht => by
    have hs : Sm (n + 1) (addc M (n + 1) t n) = Sm (n + 2) (M n) := by
      have : Sm (n + 1) (addc M (n + 1) t n) = Sm (n + 1) (fun j => M n j + (if j = t then M n (n + 1) else 0)) := Sm_congr fun j _ => by
        unfold addc
        split
        · rfl
        · omega
      rw [this, Sm_add, Sm_one (k := t) (by omega) (fun j _ hj => if_neg hj), if_pos rfl]
      rfl
    conv => lhs; unfold Dt
    rw [hs]
    have : Sm n (fun u => addc M (n + 1) t n u * Dt n (addc (addc M (n + 1) t) n u)) = Sm n (fun u => M n u * Dt n (addc (addc M (n + 1) t) n u) + (if u = t then M n (n + 1) * Dt n (addc (addc M (n + 1) t) n u) else 0)) := Sm_congr fun u _ => by
      conv => lhs; arg 1; unfold addc
      split
      · rw [Int.add_mul]
      · omega
    rw [this, Sm_add, Sm_one (k := t) ht (fun j _ hj => if_neg hj), if_pos rfl]
    omega
  have e3 : Dt (n + 1) (addc M (n + 1) n) = Sm (n + 2) (M n) * Dt n M - Sm n (fun u => M n u * Dt n (addc (addc M (n + 1) u) n u)) := by
    have hs : Sm (n + 1) (addc M (n + 1) n n) = Sm (n + 2) (M n) := by
      show Sm n (addc M (n + 1) n n) + addc M (n + 1) n n n = Sm n (M n) + M n n + M n (n + 1)
      rw [Sm_congr (f := addc M (n + 1) n n) (g := M n) fun j hj => by unfold addc; rw [if_neg (by omega)]]
      unfold addc
      rw [if_pos rfl]
      omega
    conv => lhs; unfold Dt
    rw [hs, Dt_congr (M := addc M (n + 1) n) (N := M) fun i j hi hj => by unfold addc; rw [if_neg (by omega)]]
    congr 1
    refine Sm_congr fun u hu => ?_
    rw [show addc M (n + 1) n n u = M n u by unfold addc; rw [if_neg (by omega)]]
    rw [Dt_congr (M := addc (addc M (n + 1) n) n u) (N := addc (addc M (n + 1) u) n u) fun i j hi hj => ?_]
    unfold addc
    have h1 : ¬ j = n := by omega
    have h2 : ¬ n = u := by omega
    by_cases h3 : j = u
    · simp [h1, h2, h3]
      rw [if_neg (by omega)]
      omega
    · simp [h1, h2, h3]
  conv => lhs; unfold Dt
  have e4 : Sm (n + 1) (fun t => M (n + 1) t * Dt (n + 1) (addc M (n + 1) t)) = Sm (n + 2) (M n) * Sm n (fun t => M (n + 1) t * Dt n (addc M (n + 1) t)) - Sm n (fun t => Sm n (fun u => M (n + 1) t * M n u * Dt n (addc (addc M (n + 1) t) n u))) - M n (n + 1) * Sm n (fun t => M (n + 1) t * Dt n (addc (addc M (n + 1) t) n t)) + M (n + 1) n * (Sm (n + 2) (M n) * Dt n M - Sm n (fun u => M n u * Dt n (addc (addc M (n + 1) u) n u))) := by
    show Sm n (fun t => M (n + 1) t * Dt (n + 1) (addc M (n + 1) t)) + M (n + 1) n * Dt (n + 1) (addc M (n + 1) n) = _
    rw [e3]
    rw [Sm_congr (f := fun t => M (n + 1) t * Dt (n + 1) (addc M (n + 1) t)) (g := fun t => Sm (n + 2) (M n) * (M (n + 1) t * Dt n (addc M (n + 1) t)) + ((-1) * Sm n (fun u => M (n + 1) t * M n u * Dt n (addc (addc M (n + 1) t) n u)) + (-M n (n + 1)) * (M (n + 1) t * Dt n (addc (addc M (n + 1) t) n t)))) fun t ht => ?_]
    · rw [Sm_add, Sm_add, Sm_mul, Sm_mul, Sm_mul, Int.neg_mul, Int.neg_mul, Int.one_mul]
      omega
    · rw [e2 t ht, Int.mul_sub, Int.mul_sub, ← Sm_mul, Int.mul_left_comm, Int.mul_left_comm (M (n + 1) t) (M n (n + 1)), Int.neg_mul, Int.neg_mul, Int.one_mul]
      rw [Sm_congr (f := fun u => M (n + 1) t * (M n u * Dt n (addc (addc M (n + 1) t) n u))) (g := fun u => M (n + 1) t * M n u * Dt n (addc (addc M (n + 1) t) n u)) fun u _ => (Int.mul_assoc _ _ _).symm]
      omega
  rw [e4, e1, show n + 1 + 1 = n + 2 from rfl]
  unfold two
  rw [Int.mul_sub, Int.sub_mul, Int.mul_sub, Int.mul_sub, Int.mul_left_comm (M (n + 1) n), ← Int.mul_assoc]
  omega
end L2

set_option Elab.async false
set_option linter.all false
set_option maxRecDepth 100000
set_option maxHeartbeats 4000000
/-! Own rules, part 76: determinants: two names changed, equal rows. -/
namespace L2
theorem sw_lo {n i : Nat} (h : i < n) : sw n (n + 1) i = i := by unfold sw; rw [if_neg (by omega), if_neg (by omega)]
theorem sw_a (n : Nat) : sw n (n + 1) n = n + 1 := by unfold sw; rw [if_pos rfl]
theorem sw_b (n : Nat) : sw n (n + 1) (n + 1) = n := by unfold sw; rw [if_neg (by omega), if_pos rfl]
theorem addc_ne {M : Mx} {k t i j : Nat} (h : j ≠ t) : addc M k t i j = M i j := if_neg h
theorem Sm_sw (n : Nat) (f : Nat → Int) : Sm (n + 2) (fun j => f (sw n (n + 1) j)) = Sm (n + 2) f := by
  show Sm n (fun j => f (sw n (n + 1) j)) + f (sw n (n + 1) n) + f (sw n (n + 1) (n + 1)) = Sm n f + f n + f (n + 1)
  rw [sw_a, sw_b, Sm_congr (f := fun j => f (sw n (n + 1) j)) (g := f) fun j hj => by rw [sw_lo hj]]
  omega
theorem Dt_swap (n : Nat) (M : Mx) : Dt (n + 2) (swM M n (n + 1)) = Dt (n + 2) M := by
  rw [Dt_two, Dt_two]
  have r1 : ∀ t, t < n → swM M n (n + 1) (n + 1) t = M n t := fun t ht => by unfold swM; rw [sw_b, sw_lo ht]
  have r2 : ∀ t, t < n → swM M n (n + 1) n t = M (n + 1) t := fun t ht => by unfold swM; rw [sw_a, sw_lo ht]
  have r3 : swM M n (n + 1) (n + 1) n = M n (n + 1) := by unfold swM; rw [sw_b, sw_a]
  have r4 : swM M n (n + 1) n (n + 1) = M (n + 1) n := by unfold swM; rw [sw_a, sw_b]
  have s1 : Sm (n + 2) (swM M n (n + 1) (n + 1)) = Sm (n + 2) (M n) := by
    have := Sm_sw n (M n)
    rw [← this]
    refine Sm_congr fun t _ => ?_
    unfold swM
    rw [sw_b]
  have s2 : Sm (n + 2) (swM M n (n + 1) n) = Sm (n + 2) (M (n + 1)) := by
    have := Sm_sw n (M (n + 1))
    rw [← this]
    refine Sm_congr fun t _ => ?_
    unfold swM
    rw [sw_a]
  have lo : ∀ i j, i < n → j < n → swM M n (n + 1) i j = M i j := fun i j hi hj => by unfold swM; rw [sw_lo hi, sw_lo hj]
  have la : ∀ i, i < n → swM M n (n + 1) i n = M i (n + 1) := fun i hi => by unfold swM; rw [sw_lo hi, sw_a]
  have lb : ∀ i, i < n → swM M n (n + 1) i (n + 1) = M i n := fun i hi => by unfold swM; rw [sw_lo hi, sw_b]
  have d0 : Dt n (swM M n (n + 1)) = Dt n M := Dt_congr lo
  have d1 : ∀ u, u < n → Dt n (addc (swM M n (n + 1)) n u) = Dt n (addc M (n + 1) u) := fun u hu => Dt_congr fun i j hi hj => by
    unfold addc
    rw [lo i j hi hj, la i hi]
  have d2 : ∀ u, u < n → Dt n (addc (swM M n (n + 1)) (n + 1) u) = Dt n (addc M n u) := fun u hu => Dt_congr fun i j hi hj => by
    unfold addc
    rw [lo i j hi hj, lb i hi]
  have d3 : ∀ t u, t < n → u < n → Dt n (addc (addc (swM M n (n + 1)) (n + 1) t) n u) = Dt n (addc (addc M (n + 1) u) n t) := fun t u ht hu => Dt_congr fun i j hi hj => by
    have h1 : ¬ n = t := by omega
    have h2 : ¬ n = u := by omega
    unfold addc
    rw [lo i j hi hj, la i hi, lb i hi]
    simp only [h1, h2, if_false]
    split <;> split <;> omega
  unfold two
  rw [s1, s2, r3, r4, d0]
  rw [Sm_congr (f := fun u => swM M n (n + 1) n u * Dt n (addc (swM M n (n + 1)) n u)) (g := fun t => M (n + 1) t * Dt n (addc M (n + 1) t)) fun u hu => by rw [r2 u hu, d1 u hu]]
  rw [Sm_congr (f := fun t => swM M n (n + 1) (n + 1) t * Dt n (addc (swM M n (n + 1)) (n + 1) t)) (g := fun u => M n u * Dt n (addc M n u)) fun u hu => by rw [r1 u hu, d2 u hu]]
  rw [Sm_congr (f := fun t => swM M n (n + 1) (n + 1) t * Dt n (addc (addc (swM M n (n + 1)) (n + 1) t) n t)) (g := fun u => M n u * Dt n (addc (addc M (n + 1) u) n u)) fun u hu => by rw [r1 u hu, d3 u u hu hu]]
  rw [Sm_congr (f := fun u => swM M n (n + 1) n u * Dt n (addc (addc (swM M n (n + 1)) (n + 1) u) n u)) (g := fun t => M (n + 1) t * Dt n (addc (addc M (n + 1) t) n t)) fun u hu => by rw [r2 u hu, d3 u u hu hu]]
  rw [Sm_congr (f := fun t => Sm n (fun u => swM M n (n + 1) (n + 1) t * swM M n (n + 1) n u * Dt n (addc (addc (swM M n (n + 1)) (n + 1) t) n u))) (g := fun t => Sm n (fun u => M (n + 1) u * M n t * Dt n (addc (addc M (n + 1) u) n t))) fun t ht => Sm_congr fun u hu => by rw [r1 t ht, r2 u hu, d3 t u ht hu, Int.mul_comm (M n t)]]
  rw [Sm_comm (fun t u => M (n + 1) u * M n t * Dt n (addc (addc M (n + 1) u) n t))]
  rw [Int.mul_comm (Sm (n + 2) (M n)) (Sm (n + 2) (M (n + 1)))]
  omega
/-- the two ahead of the last change names -/
theorem Dt_swap2 (n : Nat) (M : Mx) : Dt (n + 3) (swM M n (n + 1)) = Dt (n + 3) M := by
  unfold Dt
  have hl : sw n (n + 1) (n + 2) = n + 2 := by unfold sw; rw [if_neg (by omega), if_neg (by omega)]
  have e1 : Sm (n + 2 + 1) (swM M n (n + 1) (n + 2)) = Sm (n + 2 + 1) (M (n + 2)) := by
    show Sm (n + 2) (swM M n (n + 1) (n + 2)) + swM M n (n + 1) (n + 2) (n + 2) = Sm (n + 2) (M (n + 2)) + M (n + 2) (n + 2)
    rw [← Sm_sw n (M (n + 2))]
    unfold swM
    rw [hl]
  rw [e1, Dt_swap]
  congr 1
  have e2 : ∀ t, Dt (n + 2) (addc (swM M n (n + 1)) (n + 2) t) = Dt (n + 2) (addc M (n + 2) (sw n (n + 1) t)) := fun t => by
    rw [← Dt_swap n (addc M (n + 2) (sw n (n + 1) t))]
    refine Dt_congr fun i j hi hj => ?_
    show (if j = t then M (sw n (n + 1) i) (sw n (n + 1) j) + M (sw n (n + 1) i) (sw n (n + 1) (n + 2)) else M (sw n (n + 1) i) (sw n (n + 1) j)) = if sw n (n + 1) j = sw n (n + 1) t then M (sw n (n + 1) i) (sw n (n + 1) j) + M (sw n (n + 1) i) (n + 2) else M (sw n (n + 1) i) (sw n (n + 1) j)
    rw [hl]
    by_cases h : j = t
    · subst h; simp
    · rw [if_neg h, if_neg]
      intro z
      apply h
      unfold sw at z
      split at z <;> split at z <;> (try split at z) <;> (try split at z) <;> omega
  have := Sm_sw n (fun t => M (n + 2) t * Dt (n + 2) (addc M (n + 2) t))
  rw [← this]
  refine Sm_congr fun t _ => ?_
  rw [e2 t]
  unfold swM
  rw [hl]
theorem Dt_eq : ∀ {n : Nat} {M : Mx} {i p : Nat}, i < p → p < n → (∀ j, j < n → M i j = M p j) → Dt n M = 0 := by
  intro n
  induction n with
  | zero => intro M i p _ h; omega
  | succ m ih =>
    have low : ∀ {M : Mx} {i p : Nat}, i < p → p < m → (∀ j, j < m + 1 → M i j = M p j) → Dt (m + 1) M = 0 := fun {M i p} h1 h2 h => by
      unfold Dt
      have z : Sm m (fun t => M m t * Dt m (addc M m t)) = 0 := Sm_zero fun t ht => by
        rw [ih (M := addc M m t) h1 h2 fun j hj => by unfold addc; rw [h j (by omega), h m (by omega)], Int.mul_zero]
      rw [ih h1 h2 fun j hj => h j (by omega), z, Int.mul_zero]
      rfl
    intro M i p h1 h2 h
    by_cases hp : p < m
    · exact low h1 hp h
    have hpm : p = m := by omega
    subst hpm
    rcases p with _ | _ | k
    · omega
    ·
      have : i = 0 := by omega
      subst this
      have a := h 0 (by omega)
      have b := h 1 (by omega)
      simp only [Dt, Sm, addc, if_true]
      rw [← a, ← b]
      simp
      rw [Int.mul_comm]
      omega
    ·
      have near : ∀ {M : Mx} {i : Nat}, i < k + 1 → (∀ j, j < k + 3 → M i j = M (k + 2) j) → Dt (k + 3) M = 0 := fun {M i} hi h => by
        rw [← Dt_swap (k + 1) M]
        refine low (i := i) (p := k + 1) hi (by omega) fun j hj => ?_
        unfold swM
        rw [sw_lo hi, sw_a]
        refine h _ ?_
        unfold sw
        split
        · omega
        · split <;> omega
      by_cases hi : i < k + 1
      · exact near hi h
      · have : i = k + 1 := by omega
        subst this
        rw [← Dt_swap2 k M]
        refine near (i := k) (by omega) fun j hj => ?_
        unfold swM
        rw [sw_a, show sw k (k + 1) (k + 2) = k + 2 by unfold sw; rw [if_neg (by omega), if_neg (by omega)]]
        refine h _ ?_
        unfold sw
        split
        · omega
        · split <;> omega
end L2

set_option Elab.async false
set_option linter.all false
set_option maxRecDepth 100000
set_option maxHeartbeats 4000000
/-! Own rules, part 77: determinants by clearing rows, all divisions whole. -/
namespace L2
theorem setr_self {M : Mx} {r : Nat} : setr M r (M r) = M := by
  funext i j
  unfold setr
  split
  · next h => rw [h]
  · rfl
/-- other rows may be added to a row -/
theorem Dt_comb {n r : Nat} {N : Mx} {v u : Nat → Int} (c : Int) (hr : r < n) : ∀ m, m ≤ n → (∀ l, l < m → l ≠ r) → Dt n (setr N r fun j => c * v j + Sm m (fun l => u l * N l j)) = c * Dt n (setr N r v)
  | 0, _, _ => by
    have := Dt_lin (n := n) (r := r) (M := N) (v := v) (u := fun _ => 0) c 0 hr
    rw [show c * Dt n (setr N r v) = c * Dt n (setr N r v) + 0 * Dt n (setr N r fun _ => 0) by omega, ← this]
    congr 1
  | m + 1, hm, h => by
    have e : (fun j => c * v j + Sm (m + 1) (fun l => u l * N l j)) = fun j => 1 * (c * v j + Sm m (fun l => u l * N l j)) + u m * N m j := by
      funext j
      show c * v j + (Sm m (fun l => u l * N l j) + u m * N m j) = _
      omega
    rw [e, Dt_lin 1 (u m) hr, Dt_comb c hr m (by omega) fun l hl => h l (by omega)]
    have hmr := h m (by omega)
    have z : Dt n (setr N r (N m)) = 0 := by
      rcases Nat.lt_or_gt_of_ne hmr with q | q
      · refine Dt_eq (i := m) (p := r) q hr fun j _ => ?_
        unfold setr
        rw [if_neg hmr, if_pos rfl]
      · refine Dt_eq (i := r) (p := m) q (by omega) fun j _ => ?_
        unfold setr
        rw [if_neg hmr, if_pos rfl]
    rw [z]
    omega
def B1 (M : Mx) (k i j : Nat) : Mx := fun a b => M (if a < k then a else i) (if b < k then b else j)
theorem B1_lo {M : Mx} {k i j : Nat} {m : Nat} (hm : m ≤ k) : Dt m (B1 M k i j) = Dt m M := Dt_congr fun a b ha hb => by
  unfold B1
  rw [if_pos (by omega), if_pos (by omega)]
/-- what is left of row i when the first k rows have cleared it -/
def Rel (M : Mx) (k : Nat) (d : Int) (ρ : Nat → Int) (i : Nat) : Prop := (∃ (c : Int) (u : Nat → Int), c ≠ 0 ∧ ∀ j, c * ρ j = c * d * M i j + Sm k (fun l => u l * M l j)) ∧ ∀ j, j < k → ρ j = 0
/-- the last row is nought but for its last number -/
theorem Dt_unit {n : Nat} {N : Mx} {v : Nat → Int} (h : ∀ j, j < n → v j = 0) : Dt (n + 1) (setr N n v) = v n * Dt n N := by
  rw [Dt_last]
  rw [Sm_zero (n := n) fun t ht => by rw [h t ht, Int.zero_mul]]
  rw [show Sm (n + 1) v = Sm n v + v n from rfl, Sm_zero (n := n) h]
  rw [Int.zero_add, Int.sub_zero]
theorem bord1 {M : Mx} {k i j : Nat} {d : Int} {ρ : Nat → Int} (R : Rel M k d ρ i) (hd : Dt k M = d) (h0 : d ≠ 0) (hj : k ≤ j) : Dt (k + 1) (B1 M k i j) = ρ j := by
  obtain ⟨⟨c, u, hc, e⟩, z⟩ := R
  have e1 := Dt_comb (n := k + 1) (r := k) (N := B1 M k i j) (v := B1 M k i j k) (u := u) (c * d) (by omega) k (by omega) (fun l hl => by omega)
  rw [setr_self] at e1
  have e2 : (fun b => c * d * B1 M k i j k b + Sm k (fun l => u l * B1 M k i j l b)) = fun b => c * (if b < k then (0 : Int) else ρ j) := by
    funext b
    have : Sm k (fun l => u l * B1 M k i j l b) = Sm k (fun l => u l * M l (if b < k then b else j)) := Sm_congr fun l hl => by
      unfold B1
      rw [if_pos hl]
    rw [this]
    unfold B1
    rw [if_neg (Nat.lt_irrefl k), ← e]
    by_cases hb : b < k
    · rw [if_pos hb, if_pos hb, z b hb]
    · rw [if_neg hb, if_neg hb]
  rw [e2, Dt_unit fun b hb => by rw [if_pos hb, Int.mul_zero], if_neg (Nat.lt_irrefl k), B1_lo (Nat.le_refl k), hd] at e1
  have e3 : (c * d) * Dt (k + 1) (B1 M k i j) = (c * d) * ρ j := by rw [← e1, Int.mul_assoc, Int.mul_assoc, Int.mul_comm (ρ j)]
  exact Int.eq_of_mul_eq_mul_left (Int.mul_ne_zero hc h0) e3
theorem bord2 {M : Mx} {k i j : Nat} {d : Int} {ρ ρk : Nat → Int} (R : Rel M k d ρ i) (Rk : Rel M k d ρk k) (hd : Dt k M = d) (h0 : d ≠ 0) (hj : k < j) : d * Dt (k + 2) (B1 M (k + 1) i j) = ρk k * ρ j - ρ k * ρk j := by
  obtain ⟨⟨c, u, hc, e⟩, z⟩ := R
  obtain ⟨⟨c1, u1, hc1, f⟩, z1⟩ := Rk
  -- the columns
  have colj : ∀ b, (if b < k + 1 then b else j) = if b < k then b else if b = k then k else j := fun b => by
    split <;> split <;> (try split) <;> omega
  have lo : ∀ l, l < k → ∀ b, B1 M (k + 1) i j l b = M l (if b < k + 1 then b else j) := fun l hl b => by unfold B1; rw [if_pos (by omega)]
  have rk : ∀ b, B1 M (k + 1) i j k b = M k (if b < k + 1 then b else j) := fun b => by unfold B1; rw [if_pos (by omega)]
  have ri : ∀ b, B1 M (k + 1) i j (k + 1) b = M i (if b < k + 1 then b else j) := fun b => by unfold B1; rw [if_neg (by omega)]
  have e1 := Dt_comb (n := k + 2) (r := k + 1) (N := B1 M (k + 1) i j) (v := B1 M (k + 1) i j (k + 1)) (u := u) (c * d) (by omega) k (by omega) (fun l hl => by omega)
  rw [setr_self] at e1
  have e2 : (fun b => c * d * B1 M (k + 1) i j (k + 1) b + Sm k (fun l => u l * B1 M (k + 1) i j l b)) = fun b => c * ρ (if b < k + 1 then b else j) := by
    funext b
    rw [Sm_congr (f := fun l => u l * B1 M (k + 1) i j l b) (g := fun l => u l * M l (if b < k + 1 then b else j)) fun l hl => by rw [lo l hl b], ri b, ← e]
  rw [e2] at e1
  -- now row k
  have e3 := Dt_comb (n := k + 2) (r := k) (N := setr (B1 M (k + 1) i j) (k + 1) fun b => c * ρ (if b < k + 1 then b else j)) (v := B1 M (k + 1) i j k) (u := u1) (c1 * d) (by omega) k (by omega) (fun l hl => by omega)
  have e4 : setr (setr (B1 M (k + 1) i j) (k + 1) fun b => c * ρ (if b < k + 1 then b else j)) k (B1 M (k + 1) i j k) = setr (B1 M (k + 1) i j) (k + 1) fun b => c * ρ (if b < k + 1 then b else j) := by
    funext a b
    unfold setr
    by_cases ha : a = k
    · rw [if_pos ha, if_neg (by omega), ha]
    · rw [if_neg ha]
  rw [e4, e1] at e3
  have e5 : (fun b => c1 * d * B1 M (k + 1) i j k b + Sm k (fun l => u1 l * setr (B1 M (k + 1) i j) (k + 1) (fun b => c * ρ (if b < k + 1 then b else j)) l b)) = fun b => c1 * ρk (if b < k + 1 then b else j) := by
    funext b
    rw [Sm_congr (f := fun l => u1 l * setr (B1 M (k + 1) i j) (k + 1) (fun b => c * ρ (if b < k + 1 then b else j)) l b) (g := fun l => u1 l * M l (if b < k + 1 then b else j)) fun l hl => by
      show u1 l * (if l = k + 1 then _ else _) = _
      rw [if_neg (by omega), lo l hl b], rk b, ← f]
  rw [e5] at e3
  -- the determinant of the stairs
  generalize hN : B1 M (k + 1) i j = N at e3
  have e6 : setr (setr N (k + 1) fun b => c * ρ (if b < k + 1 then b else j)) k (fun b => c1 * ρk (if b < k + 1 then b else j)) = setr (setr N k fun b => c1 * ρk (if b < k + 1 then b else j)) (k + 1) (fun b => c * ρ (if b < k + 1 then b else j)) := by
    funext a b
    unfold setr
    by_cases ha : a = k
    · rw [if_pos ha, if_neg (by omega), if_pos ha]
    · rw [if_neg ha]
      by_cases hb : a = k + 1
      · rw [if_pos hb, if_pos hb]
      · rw [if_neg hb, if_neg hb, if_neg ha]
  rw [e6, Dt_last] at e3
  have hzr : ∀ t, t < k → ρ (if t < k + 1 then t else j) = 0 := fun t ht => by rw [if_pos (by omega)]; exact z t ht
  have hzk : ∀ t, t < k → ρk (if t < k + 1 then t else j) = 0 := fun t ht => by rw [if_pos (by omega)]; exact z1 t ht
  have atk : (if k < k + 1 then k else j) = k := if_pos (by omega)
  have atj : (if k + 1 < k + 1 then k + 1 else j) = j := if_neg (by omega)
  have hdN : Dt k N = d := by rw [← hN, B1_lo (by omega), hd]
  have s1 : Sm (k + 1 + 1) (fun b => c * ρ (if b < k + 1 then b else j)) = c * (ρ k + ρ j) := by
    show Sm k (fun b => c * ρ (if b < k + 1 then b else j)) + c * ρ (if k < k + 1 then k else j) + c * ρ (if k + 1 < k + 1 then k + 1 else j) = _
    rw [Sm_zero fun t ht => by rw [hzr t ht, Int.mul_zero], atk, atj, Int.mul_add, Int.zero_add]
  have d1 : Dt (k + 1) (setr N k fun b => c1 * ρk (if b < k + 1 then b else j)) = c1 * ρk k * d := by
    rw [Dt_unit fun b hb => by rw [hzk b hb, Int.mul_zero], atk, hdN]
  have s2 : Sm (k + 1) (fun t => c * ρ (if t < k + 1 then t else j) * Dt (k + 1) (addc (setr N k fun b => c1 * ρk (if b < k + 1 then b else j)) (k + 1) t)) = c * ρ k * (c1 * (ρk k + ρk j) * d) := by
    show Sm k _ + c * ρ (if k < k + 1 then k else j) * Dt (k + 1) (addc (setr N k fun b => c1 * ρk (if b < k + 1 then b else j)) (k + 1) k) = _
    rw [Sm_zero fun t ht => by rw [hzr t ht, Int.mul_zero, Int.zero_mul], atk, Int.zero_add]
    congr 1
    have : addc (setr N k fun b => c1 * ρk (if b < k + 1 then b else j)) (k + 1) k = setr (addc N (k + 1) k) k (fun b => if b = k then c1 * ρk (if b < k + 1 then b else j) + c1 * ρk (if k + 1 < k + 1 then k + 1 else j) else c1 * ρk (if b < k + 1 then b else j)) := setr_addc (by omega)
    rw [this, Dt_unit fun b hb => by rw [if_neg (by omega), hzk b hb, Int.mul_zero], if_pos rfl, atk, atj, ← Int.mul_add]
    congr 1
    rw [← hdN]
    exact Dt_congr fun a b ha hb => addc_ne (by omega)
  rw [s1, d1, s2] at e3
  -- cancel
  have e7 : (c * c1 * d) * (d * Dt (k + 2) N) = (c * c1 * d) * (ρk k * ρ j - ρ k * ρk j) := by
    have l : (c * c1 * d) * (d * Dt (k + 2) N) = c1 * d * (c * d * Dt (k + 2) N) := by
      simp only [Int.mul_assoc, Int.mul_comm, Int.mul_left_comm]
    rw [l, ← e3]
    simp only [Int.mul_add, Int.add_mul, Int.mul_sub]
    simp only [Int.mul_assoc, Int.mul_comm, Int.mul_left_comm]
    omega
  exact Int.eq_of_mul_eq_mul_left (Int.mul_ne_zero (Int.mul_ne_zero hc hc1) h0) e7
theorem rel0 {M : Mx} {i : Nat} : Rel M 0 1 (M i) i := ⟨⟨1, fun _ => 0, by decide, fun j => by show 1 * M i j = 1 * 1 * M i j + 0; omega⟩, fun j hj => absurd hj (by omega)⟩
theorem rel_step {M : Mx} {k i : Nat} {d : Int} {ρ ρk : Nat → Int} (R : Rel M k d ρ i) (Rk : Rel M k d ρk k) (hd : Dt k M = d) (h0 : d ≠ 0) :
    ∃ ρ', Rel M (k + 1) (ρk k) ρ' i ∧ ∀ j, d * ρ' j = ρk k * ρ j - ρ k * ρk j := by
  have key : ∀ j, d * (if j < k + 1 then 0 else Dt (k + 2) (B1 M (k + 1) i j)) = ρk k * ρ j - ρ k * ρk j := fun j => by
    by_cases hj : j < k + 1
    · rw [if_pos hj]
      by_cases e : j = k
      · subst e; rw [Int.mul_comm (ρ j)]; omega
      · rw [R.2 j (by omega), Rk.2 j (by omega)]; omega
    · rw [if_neg hj]
      exact bord2 R Rk hd h0 (by omega)
  refine ⟨fun j => if j < k + 1 then 0 else Dt (k + 2) (B1 M (k + 1) i j), ⟨?_, fun j hj => if_pos hj⟩, key⟩
  obtain ⟨⟨c, u, hc, e⟩, _⟩ := R
  obtain ⟨⟨c1, u1, hc1, f⟩, _⟩ := Rk
  refine ⟨c * c1 * d, fun l => if l < k then ρk k * c1 * u l - ρ k * c * u1 l else -(ρ k * (c * c1 * d)), Int.mul_ne_zero (Int.mul_ne_zero hc hc1) h0, fun j => ?_⟩
  have a : (c * c1 * d) * (if j < k + 1 then 0 else Dt (k + 2) (B1 M (k + 1) i j)) = ρk k * c1 * (c * ρ j) - ρ k * c * (c1 * ρk j) := by
    rw [Int.mul_assoc, key j, Int.mul_sub]
    simp only [Int.mul_assoc, Int.mul_comm, Int.mul_left_comm]
  dsimp only
  rw [a, e, f]
  show _ = _ + (Sm k (fun l => (if l < k then ρk k * c1 * u l - ρ k * c * u1 l else -(ρ k * (c * c1 * d))) * M l j) + (if k < k then ρk k * c1 * u k - ρ k * c * u1 k else -(ρ k * (c * c1 * d))) * M k j)
  rw [if_neg (Nat.lt_irrefl k)]
  have s : Sm k (fun l => (if l < k then ρk k * c1 * u l - ρ k * c * u1 l else -(ρ k * (c * c1 * d))) * M l j) = ρk k * c1 * Sm k (fun l => u l * M l j) + (-(ρ k * c)) * Sm k (fun l => u1 l * M l j) := by
    rw [← Sm_mul, ← Sm_mul, ← Sm_add]
    refine Sm_congr fun l hl => ?_
    rw [if_pos hl, Int.sub_mul, Int.neg_mul, Int.mul_assoc, Int.mul_assoc (ρ k * c)]
    omega
  rw [s]
  simp only [Int.mul_add, Int.neg_mul]
  simp only [Int.mul_assoc, Int.mul_comm, Int.mul_left_comm]
  omega
/-- the rows that are left when k have been taken -/
def Bst (M : Mx) (n k : Nat) (rows : List (List Int)) (last : Int) : Prop := last = Dt k M ∧ last ≠ 0 ∧ ∃ R : Mx, (∀ i, k ≤ i → i < n → Rel M k last (R i) i) ∧ rows = (List.range' k (n - k)).map fun i => (List.range' k (n - k)).map (R i)
def clD (row top : List Int) (last : Int) : List Int := (List.range (row.length - 1)).map fun t => (top.getD 0 0 * row.getD (t + 1) 0 - row.getD 0 0 * top.getD (t + 1) 0) / last
theorem bst0 {M : Mx} {n : Nat} : Bst M n 0 ((List.range' 0 n).map fun i => (List.range' 0 n).map (M i)) 1 := ⟨rfl, by decide, M, fun i _ _ => rel0, rfl⟩
theorem bst_end {M : Mx} {n : Nat} {rows : List (List Int)} {last : Int} (B : Bst M n n rows last) : rows = [] ∧ last = Dt n M := by
  obtain ⟨h1, _, R, _, h2⟩ := B
  rw [Nat.sub_self] at h2
  exact ⟨h2, h1⟩
theorem bst_step {M : Mx} {n k : Nat} {rows : List (List Int)} {last : Int} (B : Bst M n k rows last) (hk : k < n) :
    ∃ top rest, rows = top :: rest ∧ top.length = n - k ∧ (∀ r ∈ rest, r.length = n - k) ∧ top.getD 0 0 = Dt (k + 1) M ∧ (Dt (k + 1) M ≠ 0 → Bst M n (k + 1) (rest.map fun r => clD r top last) (Dt (k + 1) M)) := by
  obtain ⟨hl, h0, R, hR, rfl⟩ := B
  have er : List.range' k (n - k) = k :: List.range' (k + 1) (n - (k + 1)) := by
    rw [show n - k = (n - (k + 1)) + 1 by omega, List.range'_succ]
  have Rk := hR k (Nat.le_refl k) hk
  have hp : Dt (k + 1) M = R k k := by
    rw [← bord1 Rk hl.symm h0 (Nat.le_refl k)]
    exact Dt_congr fun a b ha hb => by
      unfold B1
      have e1 : (if a < k then a else k) = a := by split <;> omega
      have e2 : (if b < k then b else k) = b := by split <;> omega
      rw [e1, e2]
  refine ⟨(List.range' k (n - k)).map (R k), (List.range' (k + 1) (n - (k + 1))).map fun i => (List.range' k (n - k)).map (R i), ?_, ?_, ?_, ?_, fun hne => ?_⟩
  · conv => lhs; arg 2; rw [er]
    rw [List.map_cons]
  · rw [List.length_map, List.length_range']
  · intro r hr
    obtain ⟨i, _, rfl⟩ := List.mem_map.mp hr
    rw [List.length_map, List.length_range']
  · rw [hp, er]
    rfl
  · have ex : ∀ i, ∃ ρ', (k + 1 ≤ i → i < n → Rel M (k + 1) (R k k) ρ' i) ∧ (k + 1 ≤ i → i < n → ∀ j, last * ρ' j = R k k * R i j - R i k * R k j) := fun i => by
      by_cases h : k + 1 ≤ i ∧ i < n
      · obtain ⟨ρ', a, b⟩ := rel_step (hR i (by omega) h.2) Rk hl.symm h0
        exact ⟨ρ', fun _ _ => a, fun _ _ => b⟩
      · exact ⟨fun _ => 0, fun a b => absurd ⟨a, b⟩ h, fun a b => absurd ⟨a, b⟩ h⟩
    refine ⟨rfl, hne, fun i => Classical.choose (ex i), fun i h1 h2 => ?_, ?_⟩
    · rw [hp]
      exact (Classical.choose_spec (ex i)).1 h1 h2
    · rw [List.map_map]
      refine List.map_congr_left fun i hi => ?_
      have hi' := List.mem_range'_1.mp hi
      have sp := (Classical.choose_spec (ex i)).2 hi'.1 (by omega)
      show clD _ _ _ = _
      unfold clD
      rw [List.length_map, List.length_range']
      refine List.ext_getElem? fun t => ?_
      rw [List.getElem?_map, List.getElem?_map]
      by_cases ht : t < n - k - 1
      · rw [List.getElem?_range ht, List.getElem?_range' (by omega)]
        show some _ = some _
        congr 1
        have g0 : ∀ i, ((List.range' k (n - k)).map (R i)).getD 0 0 = R i k := fun i => by rw [er]; rfl
        have gt : ∀ i, ((List.range' k (n - k)).map (R i)).getD (t + 1) 0 = R i (k + 1 + t) := fun i => by
          rw [List.getD_eq_getElem?_getD, List.getElem?_map, List.getElem?_range' (by omega)]
          show R i _ = _
          congr 1
          omega
        dsimp only
        rw [g0, g0, gt, gt, ← sp (k + 1 + t), Int.mul_ediv_cancel_left _ h0]
        rw [Nat.one_mul]
      · rw [List.getElem?_eq_none (by rw [List.length_range]; omega), List.getElem?_eq_none (by rw [List.length_range']; omega)]
        rfl
end L2

set_option Elab.async false
set_option linter.all false
set_option maxRecDepth 100000
set_option maxHeartbeats 4000000
/-! Own rules, part 78: choices of a road from each place, counted. -/
namespace L2
/-- where a road leads: to the place asked for (none), to one of the others -/
abbrev Tg := Option Nat
def eqT : Tg → Tg → Bool
  | none, none => true
  | some a, some b => Nat.beq a b
  | _, _ => false
theorem eqT_iff {x y : Tg} : eqT x y = true ↔ x = y := by
  cases x <;> cases y <;> simp [eqT, Nat.beq_eq]
theorem eqT_self (x : Tg) : eqT x x = true := eqT_iff.mpr rfl
theorem eqT_ne {x y : Tg} (h : x ≠ y) : eqT x y = false := by
  cases e : eqT x y with
  | false => rfl
  | true => exact absurd (eqT_iff.mp e) h
def rd1 (n : Nat) (t x : Tg) : Tg := if eqT x (some n) = true then t else x
theorem rd1_n {n : Nat} {t : Tg} : rd1 n t (some n) = t := if_pos (eqT_self _)
theorem rd1_ne {n : Nat} {t x : Tg} (h : x ≠ some n) : rd1 n t x = x := if_neg fun z => h (eqT_iff.mp z)
def rdU (U : Nat → List Tg) (n : Nat) (t : Tg) : Nat → List Tg := fun i => (U i).map (rd1 n t)
/-- it leads to none or to one below n -/
def okT (n : Nat) : Tg → Bool
  | none => true
  | some j => decide (j < n)
def lsum (l : List Int) : Int := l.foldr (· + ·) 0
theorem lsum_cons (a : Int) (l : List Int) : lsum (a :: l) = a + lsum l := rfl
/-- how many choices lead all to none -/
def cntU : Nat → (Nat → List Tg) → Int
  | 0, _ => 1
  | n + 1, U => lsum (((U n).filter (okT n)).map fun x => cntU n (rdU U n x))
theorem cntU_nonneg : ∀ (n : Nat) (U : Nat → List Tg), 0 ≤ cntU n U
  | 0, _ => by show (0 : Int) ≤ 1; decide
  | n + 1, U => by
    unfold cntU
    induction (U n).filter (okT n) with
    | nil => exact Int.le_refl 0
    | cons x l ih =>
      rw [List.map_cons, lsum_cons]
      have := cntU_nonneg n (rdU U n x)
      omega
/-! the matrix -/
def MU (U : Nat → List Tg) : Mx := fun i j => if i = j then (((U i).countP fun x => !eqT x (some i) : Nat) : Int) else -(((U i).countP fun x => eqT x (some j) : Nat) : Int)
def InU (n : Nat) (U : Nat → List Tg) : Prop := ∀ i, i < n → ∀ x ∈ U i, okT n x = true
theorem group {F : Tg → Int} {n : Nat} : ∀ {L : List Tg}, (∀ x ∈ L, okT (n + 1) x = true) → lsum ((L.filter (okT n)).map F) = ((L.countP fun x => eqT x (none) : Nat) : Int) * F none + Sm n (fun t => ((L.countP fun x => eqT x (some t) : Nat) : Int) * F (some t))
  | [], _ => by
    rw [Sm_zero fun t _ => by show ((0 : Nat) : Int) * _ = 0; omega]
    show (0 : Int) = ((0 : Nat) : Int) * F none + 0
    omega
  | x :: L, h => by
    have ih := group (F := F) (n := n) (L := L) fun y hy => h y (List.mem_cons_of_mem _ hy)
    have hx := h x List.mem_cons_self
    have e : ∀ y : Tg, (((x :: L).countP fun z => eqT z (y) : Nat) : Int) = ((L.countP fun z => eqT z (y) : Nat) : Int) + (if x = y then 1 else 0) := fun y => by
      rw [List.countP_cons]
      by_cases q : x = y
      · subst q
        rw [if_pos (eqT_self x), if_pos rfl]
        rfl
      · rw [if_neg (by rw [eqT_ne q]; exact Bool.false_ne_true), if_neg q]
        rfl
    rw [e none, Sm_congr (f := fun t => (((x :: L).countP fun z => eqT z (some t) : Nat) : Int) * F (some t)) (g := fun t => ((L.countP fun z => eqT z (some t) : Nat) : Int) * F (some t) + (if x = some t then F (some t) else 0)) fun t _ => by
      rw [e (some t), Int.add_mul]
      split <;> omega]
    rw [Sm_add]
    cases x with
    | none =>
      rw [List.filter_cons_of_pos rfl, List.map_cons, lsum_cons, ih, if_pos rfl, Sm_zero (f := fun t => if (none : Tg) = some t then F (some t) else 0) fun t _ => if_neg (by simp), Int.add_mul]
      omega
    | some j =>
      rw [if_neg (by simp), Int.add_zero]
      by_cases hj : j < n
      · rw [List.filter_cons_of_pos (p := okT n) (a := some j) (decide_eq_true hj), List.map_cons, lsum_cons, ih, Sm_one (k := j) hj fun t _ ht => if_neg fun z => ht (by injection z with z; exact z.symm), if_pos rfl]
        omega
      · rw [List.filter_cons_of_neg (p := okT n) (a := some j) (by show ¬ decide (j < n) = true; simp; omega), ih, Sm_zero (f := fun t => if some j = some t then F (some t) else 0) fun t ht => if_neg fun z => by injection z with z; omega]
        omega
theorem count_map {L : List Tg} {f : Tg → Tg} {p : Tg → Bool} : (L.map f).countP p = L.countP fun x => p (f x) := by
  rw [List.countP_map]
  rfl
theorem cnt_two {L : List Tg} {p q r : Tg → Bool} (h : ∀ x ∈ L, (p x = (q x || r x)) ∧ ¬ (q x = true ∧ r x = true)) : L.countP p = L.countP q + L.countP r := by
  induction L with
  | nil => rfl
  | cons x L ih =>
    rw [List.countP_cons, List.countP_cons, List.countP_cons, ih fun y hy => h y (List.mem_cons_of_mem _ hy)]
    obtain ⟨a, b⟩ := h x List.mem_cons_self
    rw [a]
    cases hq : q x <;> cases hr : r x <;> simp [hq, hr] at b ⊢ <;> omega
theorem MU_none {U : Nat → List Tg} {n i j : Nat} (hi : i < n) (hj : j < n) : MU (rdU U n none) i j = MU U i j := by
  unfold MU rdU
  by_cases e : i = j
  · rw [if_pos e, if_pos e, count_map]
    congr 2
    funext x
    by_cases q : x = some n
    · subst q
      rw [rd1_n, eqT_ne (x := none) (by simp), eqT_ne (x := some n) (by simp; omega)]
    · rw [rd1_ne q]
  · rw [if_neg e, if_neg e, count_map]
    congr 3
    funext x
    by_cases q : x = some n
    · subst q
      rw [rd1_n, eqT_ne (x := none) (by simp), eqT_ne (x := some n) (by simp; omega)]
    · rw [rd1_ne q]
theorem MU_some {U : Nat → List Tg} {n i j t : Nat} (hi : i < n) (hj : j < n) (ht : t < n) : MU (rdU U n (some t)) i j = addc (MU U) n t i j := by
  unfold addc
  have hin : MU U i n = -(((U i).countP fun x => eqT x (some n) : Nat) : Int) := by unfold MU; rw [if_neg (by omega)]
  rw [hin]
  unfold MU rdU
  by_cases e : i = j
  · subst e
    rw [if_pos rfl, if_pos rfl, count_map]
    by_cases q : i = t
    · subst q
      rw [if_pos rfl]
      have := cnt_two (L := U i) (p := fun x => !eqT x (some i)) (q := fun x => !eqT (rd1 n (some i) x) (some i)) (r := fun x => eqT x (some n)) fun x _ => by
        by_cases z : x = some n
        · subst z
          rw [rd1_n, eqT_self, eqT_self, eqT_ne (x := some n) (by simp; omega)]
          simp
        · rw [rd1_ne z, eqT_ne z]
          simp
      omega
    · rw [if_neg q]
      congr 2
      funext x
      by_cases z : x = some n
      · subst z
        rw [rd1_n, eqT_ne (x := some t) (by simp; omega), eqT_ne (x := some n) (by simp; omega)]
      · rw [rd1_ne z]
  · rw [if_neg e, if_neg e, count_map]
    by_cases q : j = t
    · subst q
      rw [if_pos rfl]
      have := cnt_two (L := U i) (p := fun x => eqT (rd1 n (some j) x) (some j)) (q := fun x => eqT x (some j)) (r := fun x => eqT x (some n)) fun x _ => by
        by_cases z : x = some n
        · subst z
          rw [rd1_n, eqT_self, eqT_self, eqT_ne (x := some n) (by simp; omega)]
          simp
        · rw [rd1_ne z, eqT_ne z]
          simp
      omega
    · rw [if_neg q]
      congr 3
      funext x
      by_cases z : x = some n
      · subst z
        rw [rd1_n, eqT_ne (x := some t) (by simp; omega), eqT_ne (x := some n) (by simp; omega)]
      · rw [rd1_ne z]
theorem InU.rd {U : Nat → List Tg} {n : Nat} {x : Tg} (h : InU (n + 1) U) (hx : okT n x = true) : InU n (rdU U n x) := fun i hi y hy => by
  obtain ⟨z, hz, rfl⟩ := List.mem_map.mp hy
  by_cases q : z = some n
  · subst q
    rw [rd1_n]
    exact hx
  · rw [rd1_ne q]
    have := h i (by omega) z hz
    cases z with
    | none => rfl
    | some j =>
      have h1 : j < n + 1 := of_decide_eq_true this
      exact decide_eq_true (by
        have : j ≠ n := fun e => q (by rw [e])
        omega)
/-- the determinant counts the choices -/
theorem Dt_cnt : ∀ (n : Nat) (U : Nat → List Tg), InU n U → Dt n (MU U) = cntU n U
  | 0, _, _ => rfl
  | n + 1, U, h => by
    have g := group (F := fun x => cntU n (rdU U n x)) (n := n) (L := U n) (h n (by omega))
    have hrow : ∀ t, t < n → MU U n t = -(((U n).countP fun x => eqT x (some t) : Nat) : Int) := fun t ht => by unfold MU; rw [if_neg (by omega)]
    have hs : Sm (n + 1) (MU U n) = (((U n).countP fun x => eqT x (none) : Nat) : Int) := by
      show Sm n (MU U n) + MU U n n = _
      rw [Sm_congr hrow]
      have hd : MU U n n = (((U n).countP fun x => !eqT x (some n) : Nat) : Int) := by unfold MU; rw [if_pos rfl]
      rw [hd]
      have g1 := group (F := fun _ => 1) (n := n) (L := U n) (h n (by omega))
      have e1 : ∀ L : List Tg, (∀ x ∈ L, okT (n + 1) x = true) → lsum ((L.filter (okT n)).map fun _ => (1 : Int)) = ((L.countP fun x => !eqT x (some n) : Nat) : Int) := fun L hL => by
        induction L with
        | nil => rfl
        | cons x L ih =>
          have ih' := ih fun y hy => hL y (List.mem_cons_of_mem _ hy)
          have hx := hL x List.mem_cons_self
          rw [List.countP_cons]
          cases x with
          | none => rw [List.filter_cons_of_pos rfl, List.map_cons, lsum_cons, ih', if_pos (show (!eqT none (some n)) = true from rfl)]; omega
          | some j =>
            have hj : j < n + 1 := of_decide_eq_true hx
            by_cases q : j < n
            · rw [List.filter_cons_of_pos (p := okT n) (a := some j) (decide_eq_true q), List.map_cons, lsum_cons, ih', if_pos (by rw [eqT_ne (by simp; omega)]; rfl)]
              omega
            · rw [List.filter_cons_of_neg (p := okT n) (a := some j) (by show ¬ decide (j < n) = true; simp; omega), ih', if_neg (by rw [show j = n by omega, eqT_self]; decide)]
              omega
      rw [e1 _ (h n (by omega))] at g1
      rw [g1, Int.mul_one]
      have : Sm n (fun t => -(((U n).countP fun x => eqT x (some t) : Nat) : Int)) = (-1) * Sm n (fun t => (((U n).countP fun x => eqT x (some t) : Nat) : Int) * 1) := by
        rw [← Sm_mul]
        exact Sm_congr fun t _ => by omega
      rw [this]
      omega
    unfold Dt
    unfold cntU
    rw [g, hs]
    have d0 : Dt n (MU U) = cntU n (rdU U n none) := by
      rw [← Dt_cnt n _ (h.rd (x := none) rfl)]
      exact Dt_congr fun i j hi hj => (MU_none hi hj).symm
    rw [d0]
    have d1 : Sm n (fun t => MU U n t * Dt n (addc (MU U) n t)) = (-1) * Sm n (fun t => (((U n).countP fun x => eqT x (some t) : Nat) : Int) * cntU n (rdU U n (some t))) := by
      rw [← Sm_mul]
      refine Sm_congr fun t ht => ?_
      rw [hrow t ht, ← Dt_cnt n _ (h.rd (x := some t) (decide_eq_true ht)), Dt_congr (M := addc (MU U) n t) (N := MU (rdU U n (some t))) fun i j hi hj => (MU_some hi hj ht).symm, Int.neg_mul, Int.neg_mul, Int.one_mul]
    rw [d1]
    omega
end L2

set_option Elab.async false
set_option linter.all false
set_option maxRecDepth 100000
set_option maxHeartbeats 4000000
/-! Own rules, part 79: choices: some, all, ranks. -/
namespace L2
/-! there is a choice -/
def Pos : Nat → (Nat → List Tg) → Prop
  | 0, _ => True
  | n + 1, U => ∃ x ∈ U n, okT n x = true ∧ Pos n (rdU U n x)
theorem lsum_pos {l : List Int} (h : ∀ x ∈ l, 0 ≤ x) : 0 ≤ lsum l ∧ (lsum l ≠ 0 ↔ ∃ x ∈ l, x ≠ 0) := by
  induction l with
  | nil => exact ⟨Int.le_refl 0, fun z => absurd rfl z, fun ⟨x, hx, _⟩ => absurd hx (by simp)⟩
  | cons a l ih =>
    obtain ⟨i1, i2⟩ := ih fun x hx => h x (List.mem_cons_of_mem _ hx)
    have ha := h a List.mem_cons_self
    rw [lsum_cons]
    refine ⟨by omega, fun z => ?_, fun ⟨x, hx, hz⟩ => ?_⟩
    · by_cases q : a = 0
      · obtain ⟨x, hx, hz⟩ := i2.mp (by omega)
        exact ⟨x, List.mem_cons_of_mem _ hx, hz⟩
      · exact ⟨a, List.mem_cons_self, q⟩
    · rcases List.mem_cons.mp hx with e | e
      · subst e; omega
      · have := i2.mpr ⟨x, e, hz⟩; omega
theorem cnt_pos : ∀ (n : Nat) (U : Nat → List Tg), cntU n U ≠ 0 ↔ Pos n U
  | 0, U => ⟨fun _ => trivial, fun _ => by show (1 : Int) ≠ 0; decide⟩
  | n + 1, U => by
    unfold cntU Pos
    rw [(lsum_pos fun x hx => by
      obtain ⟨y, _, rfl⟩ := List.mem_map.mp hx
      exact cntU_nonneg n _).2]
    constructor
    · rintro ⟨x, hx, hz⟩
      obtain ⟨y, hy, rfl⟩ := List.mem_map.mp hx
      have := List.mem_filter.mp hy
      exact ⟨y, this.1, this.2, (cnt_pos n _).mp hz⟩
    · rintro ⟨y, hy, ho, hp⟩
      exact ⟨_, List.mem_map.mpr ⟨y, List.mem_filter.mpr ⟨hy, ho⟩, rfl⟩, (cnt_pos n _).mpr hp⟩
theorem pos_mono : ∀ (n : Nat) {U V : Nat → List Tg}, (∀ i, i < n → ∀ x ∈ U i, x ∈ V i ∨ none ∈ V i) → Pos n U → Pos n V
  | 0, _, _, _, _ => trivial
  | n + 1, U, V, h, ⟨x, hx, ho, hp⟩ => by
    rcases h n (by omega) x hx with q | q
    · refine ⟨x, q, ho, pos_mono n (fun i hi y hy => ?_) hp⟩
      obtain ⟨z, hz, rfl⟩ := List.mem_map.mp hy
      rcases h i (by omega) z hz with r | r
      · exact .inl (List.mem_map.mpr ⟨z, r, rfl⟩)
      · exact .inr (List.mem_map.mpr ⟨none, r, rd1_ne (by simp)⟩)
    · refine ⟨none, q, rfl, pos_mono n (fun i hi y hy => ?_) hp⟩
      obtain ⟨z, hz, rfl⟩ := List.mem_map.mp hy
      rcases h i (by omega) z hz with r | r
      · by_cases e : z = some n
        · subst e
          exact .inr (List.mem_map.mpr ⟨some n, r, rd1_n⟩)
        · exact .inl (List.mem_map.mpr ⟨z, r, by rw [rd1_ne e, rd1_ne e]⟩)
      · exact .inr (List.mem_map.mpr ⟨none, r, rd1_ne (by simp)⟩)
/-- those from m on count as none -/
def cut1 (m : Nat) (x : Tg) : Tg := if okT m x = true then x else none
def cutU (m : Nat) (U : Nat → List Tg) : Nat → List Tg := fun i => (U i).map (cut1 m)
theorem cut_rd {U : Nat → List Tg} {k : Nat} : rdU (cutU (k + 1) U) k none = cutU k U := by
  funext i
  unfold rdU cutU
  rw [List.map_map]
  refine List.map_congr_left fun x _ => ?_
  show rd1 k none (cut1 (k + 1) x) = cut1 k x
  unfold cut1
  cases x with
  | none => exact rd1_ne (by simp)
  | some j =>
    by_cases h1 : j < k
    · rw [if_pos (show okT (k + 1) (some j) = true from decide_eq_true (by omega)), if_pos (show okT k (some j) = true from decide_eq_true h1)]
      exact rd1_ne (by simp; omega)
    · rw [if_neg (show ¬ okT k (some j) = true by show ¬ decide (j < k) = true; simp; omega)]
      by_cases h2 : j = k
      · subst h2
        rw [if_pos (show okT (j + 1) (some j) = true from decide_eq_true (by omega))]
        exact rd1_n
      · rw [if_neg (show ¬ okT (k + 1) (some j) = true by show ¬ decide (j < k + 1) = true; simp; omega)]
        exact rd1_ne (by simp)
theorem pos_cut {n : Nat} {U : Nat → List Tg} (h : Pos n U) : ∀ d k, k + d = n → Pos k (cutU k U)
  | 0, k, e => by
    have : k = n := by omega
    subst this
    refine pos_mono k (fun i _ x hx => ?_) h
    by_cases q : okT k x = true
    · exact .inl (List.mem_map.mpr ⟨x, hx, if_pos q⟩)
    · exact .inr (List.mem_map.mpr ⟨x, hx, if_neg q⟩)
  | d + 1, k, e => by
    obtain ⟨x, hx, ho, hp⟩ := pos_cut h d (k + 1) (by omega)
    rw [← cut_rd]
    refine pos_mono k (fun i _ y hy => ?_) hp
    obtain ⟨z, hz, rfl⟩ := List.mem_map.mp hy
    by_cases q : z = some k
    · subst q
      exact .inr (List.mem_map.mpr ⟨some k, hz, rd1_n⟩)
    · exact .inl (List.mem_map.mpr ⟨z, hz, by rw [rd1_ne q, rd1_ne q]⟩)
theorem Dt_cut {n k : Nat} {U : Nat → List Tg} (hk : k ≤ n) : Dt k (MU U) = cntU k (cutU k U) := by
  rw [← Dt_cnt k (cutU k U) fun i _ x hx => by
    obtain ⟨z, _, rfl⟩ := List.mem_map.mp hx
    unfold cut1
    split
    · next q => exact q
    · rfl]
  refine Dt_congr fun i j hi hj => ?_
  unfold MU cutU
  by_cases e : i = j
  · rw [if_pos e, if_pos e, count_map]
    congr 2
    funext x
    unfold cut1
    by_cases q : okT k x = true
    · rw [if_pos q]
    · rw [if_neg q]
      cases x with
      | none => rfl
      | some l =>
        have : ¬ l < k := fun z => q (decide_eq_true z)
        rw [eqT_ne (x := some l) (by simp; omega), eqT_ne (x := none) (by simp)]
  · rw [if_neg e, if_neg e, count_map]
    congr 3
    funext x
    unfold cut1
    by_cases q : okT k x = true
    · rw [if_pos q]
    · rw [if_neg q]
      cases x with
      | none => rfl
      | some l =>
        have : ¬ l < k := fun z => q (decide_eq_true z)
        rw [eqT_ne (x := some l) (by simp; omega), eqT_ne (x := none) (by simp)]
/-- where a head is nought, there is no choice -/
theorem cnt_zero {n k : Nat} {U : Nat → List Tg} (hk : k ≤ n) (h : Dt k (MU U) = 0) : cntU n U = 0 := by
  by_cases z : cntU n U = 0
  · exact z
  · exfalso
    have := pos_cut ((cnt_pos n U).mp z) (n - k) k (by omega)
    rw [Dt_cut hk] at h
    exact (cnt_pos k _).mpr this h
/-! roads that are in no tree may be left out -/
def good (n i : Nat) (x : Tg) : Bool := okT n x && !eqT x (some i)
theorem cnt_filter : ∀ (n : Nat) {U V : Nat → List Tg}, (∀ i, i < n → (U i).filter (good n i) = (V i).filter (good n i)) → cntU n U = cntU n V
  | 0, _, _, _ => rfl
  | n + 1, U, V, h => by
    unfold cntU
    have e : ∀ L : List Tg, L.filter (okT n) = L.filter (good (n + 1) n) := fun L => by
      congr 1
      funext x
      unfold good
      cases x with
      | none => rfl
      | some j =>
        show decide (j < n) = (decide (j < n + 1) && !Nat.beq j n)
        by_cases q : j = n
        · subst q
          simp
        · have : Nat.beq j n = false := by
            cases z : Nat.beq j n with
            | false => rfl
            | true => exact absurd (Nat.eq_of_beq_eq_true z) q
          rw [this]
          by_cases r : j < n
          · simp [r]; omega
          · simp [r]; omega
    rw [e, e, h n (by omega)]
    congr 1
    refine List.map_congr_left fun x hx => ?_
    refine cnt_filter n fun i hi => ?_
    unfold rdU
    rw [List.filter_map, List.filter_map]
    congr 1
    have hf : ∀ y, (good n i ∘ rd1 n x) y = true → good (n + 1) i y = true := fun y hy => by
      have hy' : good n i (rd1 n x y) = true := hy
      by_cases q : y = some n
      · subst q
        unfold good
        rw [eqT_ne (by simp; omega)]
        show (decide (n < n + 1) && true) = true
        simp
      · rw [rd1_ne q] at hy'
        unfold good at hy' ⊢
        cases y with
        | none => exact hy'
        | some j =>
          rw [Bool.and_eq_true] at hy' ⊢
          exact ⟨decide_eq_true (by have := of_decide_eq_true hy'.1; omega), hy'.2⟩
    have key : ∀ L : List Tg, L.filter (good n i ∘ rd1 n x) = (L.filter (good (n + 1) i)).filter (good n i ∘ rd1 n x) := fun L => by
      rw [List.filter_filter]
      congr 1
      funext y
      cases z : (good n i ∘ rd1 n x) y with
      | false => rfl
      | true => rw [hf y z]; rfl
    rw [key (U i), key (V i), h i (by omega)]
/-! choices told one by one -/
def tup (U : Nat → List Tg) : Nat → List (List Tg)
  | 0 => [[]]
  | n + 1 => (tup U n).flatMap fun row => (U n).map fun x => row ++ [x]
/-! ranks -/
end L2

set_option Elab.async false
set_option linter.all false
set_option maxRecDepth 100000
set_option maxHeartbeats 4000000
/-! Own rules, part 80: the trees of a net (k09). -/
namespace L2
variable {n : Nat} {rs : List (Int × Int)} {p0 : Int}
/-- another place, from which roads lead -/
def isO (rs : List (Int × Int)) (p0 q : Int) : Bool := decide (q ≠ p0) && !(outsD rs q).isEmpty
def othD (n : Nat) (rs : List (Int × Int)) (p0 : Int) : List Int := (rng n).filter (isO rs p0)
def io (os : List Int) (p0 g : Int) : Tg := if g = p0 then none else some (os.idxOf g)
def goalsD (rs : List (Int × Int)) (q : Int) : List Int := (outsD rs q).map (en rs)
def usefulD (os : List Int) (p0 : Int) (rs : List (Int × Int)) (q : Int) : List Int := (goalsD rs q).filter fun g => decide (g ≠ q) && (decide (g = p0) || decide (g ∈ os))
def Uall (os : List Int) (p0 : Int) (rs : List (Int × Int)) (i : Nat) : List Tg := (goalsD rs (os.getD i 0)).map (io os p0)
def Uuse (os : List Int) (p0 : Int) (rs : List (Int × Int)) (i : Nat) : List Tg := (usefulD os p0 rs (os.getD i 0)).map (io os p0)
def treesD (n : Nat) (rs : List (Int × Int)) (p0 : Int) : Int := cntU (othD n rs p0).length (Uall (othD n rs p0) p0 rs)
theorem oth_nodup : (othD n rs p0).Nodup := by
  unfold othD
  refine List.Pairwise.filter _ ?_
  unfold rng
  exact List.pairwise_map.mpr (List.nodup_range.imp fun h z => h (by omega))
theorem oth_mem {q : Int} : q ∈ othD n rs p0 ↔ (0 ≤ q ∧ q < n) ∧ q ≠ p0 ∧ outsD rs q ≠ [] := by
  unfold othD isO
  rw [List.mem_filter, mem_rng, Bool.and_eq_true, decide_eq_true_eq, Bool.not_eq_true']
  cases outsD rs q <;> simp
theorem oth_len : (othD n rs p0).length ≤ n := by
  unfold othD
  have := List.length_filter_le (isO rs p0) (rng n)
  rw [rng_len] at this
  exact this
theorem idxAt {os : List Int} (nd : os.Nodup) {i : Nat} (hi : i < os.length) : os.idxOf os[i] = i := by
  have h1 : os.idxOf os[i] < os.length := List.idxOf_lt_length_iff.mpr (List.getElem_mem hi)
  have h2 := List.getElem_idxOf h1
  exact (List.getElem_inj nd (h₀ := h1) (h₁ := hi)).mp h2
theorem io_some {os : List Int} {g : Int} {j : Nat} (hj : j < os.length) (h : io os p0 g = some j) : g = os[j] := by
  unfold io at h
  split at h
  · cases h
  · injection h with h
    subst h
    exact (List.getElem_idxOf hj).symm
theorem use_good {os : List Int} (nd : os.Nodup) (hp : p0 ∉ os) {i : Nat} (hi : i < os.length) : Uuse os p0 rs i = (Uall os p0 rs i).filter (good os.length i) := by
  unfold Uuse Uall usefulD
  rw [List.filter_map]
  congr 1
  refine List.filter_congr fun g _ => ?_
  have hq : os.getD i 0 = os[i] := by rw [List.getD_eq_getElem?_getD, List.getElem?_eq_getElem hi]; rfl
  rw [hq]
  show _ = good os.length i (io os p0 g)
  unfold good io
  by_cases h1 : g = p0
  · subst h1
    rw [if_pos rfl]
    have : g ≠ os[i] := fun z => hp (by rw [z]; exact List.getElem_mem hi)
    simp [this, okT, eqT]
  · rw [if_neg h1]
    by_cases h2 : g ∈ os
    · have h3 : os.idxOf g < os.length := List.idxOf_lt_length_iff.mpr h2
      by_cases h4 : g = os[i]
      · rw [h4, idxAt nd hi, eqT_self]
        simp
      · have : os.idxOf g ≠ i := fun z => h4 (by subst z; exact (List.getElem_idxOf h3).symm)
        rw [eqT_ne (by simp; exact this)]
        simp [h4, h2, okT, h3]
    · have h3 : ¬ os.idxOf g < os.length := fun z => h2 (List.idxOf_lt_length_iff.mp z)
      simp [h1, h2, okT, h3]
theorem cnt_use {os : List Int} (nd : os.Nodup) (hp : p0 ∉ os) : cntU os.length (Uuse os p0 rs) = cntU os.length (Uall os p0 rs) := cnt_filter _ fun i hi => by
  rw [use_good nd hp hi, List.filter_filter]
  congr 1
  funext x
  cases good os.length i x <;> rfl
theorem use_in {os : List Int} (nd : os.Nodup) (hp : p0 ∉ os) : InU os.length (Uuse os p0 rs) := fun i hi x hx => by
  rw [use_good nd hp hi] at hx
  have := (List.mem_filter.mp hx).2
  unfold good at this
  exact (Bool.and_eq_true_iff.mp this).1
/-- the row that tree_row tells -/
def rowD (os : List Int) (p0 : Int) (rs : List (Int × Int)) (q : Int) : List Int := os.map fun o => if o = q then (((usefulD os p0 rs q).length : Nat) : Int) else -(((usefulD os p0 rs q).count o : Nat) : Int)
theorem rows_MU {os : List Int} (nd : os.Nodup) (hp : p0 ∉ os) : (os.map fun q => rowD os p0 rs q) = (List.range' 0 os.length).map fun i => (List.range' 0 os.length).map (MU (Uuse os p0 rs) i) := by
  refine List.ext_getElem? fun i => ?_
  rw [List.getElem?_map, List.getElem?_map]
  by_cases hi : i < os.length
  · rw [List.getElem?_eq_getElem hi, List.getElem?_range' hi]
    show some _ = some _
    congr 1
    unfold rowD
    refine List.ext_getElem? fun j => ?_
    rw [List.getElem?_map, List.getElem?_map]
    by_cases hj : j < os.length
    · rw [List.getElem?_eq_getElem hj, List.getElem?_range' hj]
      show some _ = some _
      congr 1
      have hq : os.getD i 0 = os[i] := by rw [List.getD_eq_getElem?_getD, List.getElem?_eq_getElem hi]; rfl
      rw [show 0 + 1 * i = i by omega, show 0 + 1 * j = j by omega]
      dsimp only
      unfold MU
      by_cases e : i = j
      · subst e
        rw [if_pos rfl, if_pos rfl]
        congr 1
        rw [List.countP_eq_length.mpr fun x hx => by
          rw [use_good nd hp hi] at hx
          have := (List.mem_filter.mp hx).2
          unfold good at this
          exact (Bool.and_eq_true_iff.mp this).2]
        unfold Uuse
        rw [List.length_map, hq]
      · rw [if_neg e, if_neg fun z => e ((List.getElem_inj nd (h₀ := hj) (h₁ := hi)).mp z).symm]
        congr 2
        unfold Uuse
        rw [List.countP_map, hq, List.count_eq_countP]
        refine List.countP_congr fun g _ => ?_
        show _ ↔ eqT (io os p0 g) (some j) = true
        rw [eqT_iff]
        constructor
        · intro z
          have : g = os[j] := by simpa using z
          subst this
          unfold io
          rw [if_neg fun z => hp (by rw [← z]; exact List.getElem_mem hj), idxAt nd hj]
        · intro z
          have := io_some hj z
          simp [this]
    · rw [List.getElem?_eq_none (by omega), List.getElem?_eq_none (by rw [List.length_range']; omega)]
      rfl
  · rw [List.getElem?_eq_none (by omega), List.getElem?_eq_none (by rw [List.length_range']; omega)]
    rfl
theorem trees_Dt : Dt (othD n rs p0).length (MU (Uuse (othD n rs p0) p0 rs)) = treesD n rs p0 := by
  have hp : p0 ∉ othD n rs p0 := fun z => (oth_mem.mp z).2.1 rfl
  unfold treesD
  rw [← cnt_use oth_nodup hp]
  exact Dt_cnt _ _ (use_in oth_nodup hp)
theorem trees_zero {k : Nat} (hk : k ≤ (othD n rs p0).length) (h : Dt k (MU (Uuse (othD n rs p0) p0 rs)) = 0) : treesD n rs p0 = 0 := by
  have hp : p0 ∉ othD n rs p0 := fun z => (oth_mem.mp z).2.1 rfl
  unfold treesD
  rw [← cnt_use oth_nodup hp]
  exact cnt_zero hk h
/-! sizes -/
theorem cnt_le : ∀ (m : Nat) {U : Nat → List Tg} {b : Nat}, (∀ i, i < m → (U i).length ≤ b) → cntU m U ≤ ((b ^ m : Nat) : Int)
  | 0, _, _, _ => by show (1 : Int) ≤ ((1 : Nat) : Int); omega
  | m + 1, U, b, h => by
    show lsum (((U m).filter (okT m)).map fun x => cntU m (rdU U m x)) ≤ _
    have e : ∀ x, cntU m (rdU U m x) ≤ ((b ^ m : Nat) : Int) := fun x => cnt_le m fun i hi => by unfold rdU; rw [List.length_map]; exact h i (by omega)
    have hl : ((U m).filter (okT m)).length ≤ b := Nat.le_trans (List.length_filter_le _ _) (h m (by omega))
    have : ∀ l : List Tg, lsum (l.map fun x => cntU m (rdU U m x)) ≤ (l.length : Int) * ((b ^ m : Nat) : Int) := fun l => by
      induction l with
      | nil => show (0 : Int) ≤ ((0 : Nat) : Int) * _; omega
      | cons x l ih =>
        rw [List.map_cons, lsum_cons, List.length_cons, Int.natCast_add, Int.add_mul]
        have := e x
        omega
    refine Int.le_trans (this _) ?_
    rw [Nat.pow_succ, Nat.mul_comm, Int.natCast_mul]
    exact Int.mul_le_mul_of_nonneg_right (by omega) (by omega)
theorem outs_le {q : Int} : (outsD rs q).length ≤ rs.length := by
  unfold outsD
  have := List.length_filter_le (fun j : Int => decide ((rs[j.toNat]?).map (·.1) = some q)) (rng rs.length)
  rw [rng_len] at this
  exact this
theorem use_le {os : List Int} {q : Int} : (usefulD os p0 rs q).length ≤ rs.length := by
  unfold usefulD goalsD
  have := List.length_filter_le (fun g : Int => decide (g ≠ q) && (decide (g = p0) || decide (g ∈ os))) ((outsD rs q).map (en rs))
  rw [List.length_map] at this
  exact Nat.le_trans this outs_le
theorem head_small {k : Nat} (hl : rs.length ≤ 24) (hk : k ≤ 6) : 0 ≤ Dt k (MU (Uuse (othD n rs p0) p0 rs)) ∧ Dt k (MU (Uuse (othD n rs p0) p0 rs)) < 1073741824 := by
  rw [Dt_cut (n := k) (Nat.le_refl k)]
  refine ⟨cntU_nonneg _ _, ?_⟩
  have := cnt_le k (U := cutU k (Uuse (othD n rs p0) p0 rs)) (b := 24) fun i hi => by
    unfold cutU Uuse
    rw [List.length_map, List.length_map]
    exact Nat.le_trans use_le hl
  have h2 : (24 : Nat) ^ k ≤ 24 ^ 6 := Nat.pow_le_pow_right (by decide) hk
  have h3 : (24 : Nat) ^ 6 = 191102976 := by decide
  omega
theorem ent_small (hl : rs.length ≤ 24) {i j : Nat} : (MU (Uuse (othD n rs p0) p0 rs) i j).natAbs ≤ 24 := by
  have h : ∀ p : Tg → Bool, (Uuse (othD n rs p0) p0 rs i).countP p ≤ 24 := fun p => by
    refine Nat.le_trans List.countP_le_length ?_
    unfold Uuse
    rw [List.length_map]
    exact Nat.le_trans use_le hl
  unfold MU
  split
  · rw [Int.natAbs_natCast]; exact h _
  · rw [Int.natAbs_neg, Int.natAbs_natCast]; exact h _
/-- a determinant is not greater than the sums of its rows let it be -/
def SmN : Nat → (Nat → Nat) → Nat
  | 0, _ => 0
  | n + 1, f => SmN n f + f n
theorem Sm_abs {f : Nat → Int} : ∀ n, (Sm n f).natAbs ≤ SmN n fun t => (f t).natAbs
  | 0 => Nat.le_refl 0
  | n + 1 => by
    show (Sm n f + f n).natAbs ≤ SmN n (fun t => (f t).natAbs) + (f n).natAbs
    have := Sm_abs (f := f) n
    have := Int.natAbs_add_le (Sm n f) (f n)
    omega
theorem SmN_le {f g : Nat → Nat} : ∀ n, (∀ t, t < n → f t ≤ g t) → SmN n f ≤ SmN n g
  | 0, _ => Nat.le_refl 0
  | n + 1, h => by
    show SmN n f + f n ≤ SmN n g + g n
    have := SmN_le (f := f) (g := g) n fun t ht => h t (by omega)
    have := h n (by omega)
    omega
theorem SmN_mul {f : Nat → Nat} {b : Nat} : ∀ n, SmN n (fun t => f t * b) = SmN n f * b
  | 0 => (Nat.zero_mul b).symm
  | n + 1 => by
    show SmN n (fun t => f t * b) + f n * b = (SmN n f + f n) * b
    rw [SmN_mul n, Nat.add_mul]
theorem SmN_at {f : Nat → Nat} {x : Nat} : ∀ n t, t < n → SmN n (fun j => if j = t then f j + x else f j) = SmN n f + x
  | 0, _, h => by omega
  | n + 1, t, h => by
    show SmN n (fun j => if j = t then f j + x else f j) + (if n = t then f n + x else f n) = SmN n f + f n + x
    by_cases e : n = t
    · subst e
      rw [if_pos rfl]
      have : SmN n (fun j => if j = n then f j + x else f j) = SmN n f := by
        have h1 := SmN_le (f := fun j => if j = n then f j + x else f j) (g := f) n fun j hj => by rw [if_neg (by omega)]; exact Nat.le_refl _
        have h2 := SmN_le (f := f) (g := fun j => if j = n then f j + x else f j) n fun j hj => by rw [if_neg (by omega)]; exact Nat.le_refl _
        omega
      omega
    · rw [if_neg e, SmN_at n t (by omega)]
      omega
theorem Dt_abs {c : Nat} : ∀ (n : Nat) {M : Mx}, (∀ i, i < n → SmN n (fun j => (M i j).natAbs) ≤ c) → (Dt n M).natAbs ≤ (2 * c) ^ n
  | 0, _, _ => Nat.le_refl 1
  | n + 1, M, h => by
    unfold Dt
    have h0 : (Dt n M).natAbs ≤ (2 * c) ^ n := Dt_abs n fun i hi => by
      have := h i (by omega)
      have e : SmN (n + 1) (fun j => (M i j).natAbs) = SmN n (fun j => (M i j).natAbs) + (M i n).natAbs := rfl
      omega
    have h1 : ∀ t, t < n → (Dt n (addc M n t)).natAbs ≤ (2 * c) ^ n := fun t ht => Dt_abs n fun i hi => by
      have := h i (by omega)
      have e : SmN (n + 1) (fun j => (M i j).natAbs) = SmN n (fun j => (M i j).natAbs) + (M i n).natAbs := rfl
      have e2 := SmN_at (f := fun j => (M i j).natAbs) (x := (M i n).natAbs) n t ht
      have e3 := SmN_le (f := fun j => (addc M n t i j).natAbs) (g := fun j => if j = t then (M i j).natAbs + (M i n).natAbs else (M i j).natAbs) n fun j _ => by
        unfold addc
        split
        · exact Int.natAbs_add_le _ _
        · exact Nat.le_refl _
      omega
    have hr := h n (by omega)
    have a1 : (Sm (n + 1) (M n) * Dt n M).natAbs ≤ c * (2 * c) ^ n := by
      rw [Int.natAbs_mul]
      exact Nat.mul_le_mul (Nat.le_trans (Sm_abs _) hr) h0
    have a2 : (Sm n (fun t => M n t * Dt n (addc M n t))).natAbs ≤ c * (2 * c) ^ n := by
      refine Nat.le_trans (Sm_abs n) ?_
      refine Nat.le_trans (SmN_le (g := fun t => (M n t).natAbs * (2 * c) ^ n) n fun t ht => ?_) ?_
      · rw [Int.natAbs_mul]
        exact Nat.mul_le_mul (Nat.le_refl _) (h1 t ht)
      · rw [SmN_mul]
        refine Nat.mul_le_mul (Nat.le_trans ?_ hr) (Nat.le_refl _)
        show SmN n _ ≤ SmN n _ + _
        omega
    have a3 := Int.natAbs_sub_le (Sm (n + 1) (M n) * Dt n M) (Sm n (fun t => M n t * Dt n (addc M n t)))
    have e : (2 * c) ^ (n + 1) = c * (2 * c) ^ n + c * (2 * c) ^ n := by
      rw [Nat.pow_succ, Nat.mul_comm, Nat.two_mul, Nat.add_mul]
    omega
theorem SmN_const {b : Nat} : ∀ n, SmN n (fun _ => b) = n * b
  | 0 => (Nat.zero_mul b).symm
  | n + 1 => by
    show SmN n (fun _ => b) + b = _
    rw [SmN_const n, Nat.add_mul, Nat.one_mul]
theorem minor_small {M : Mx} (h : ∀ i j, (M i j).natAbs ≤ 24) {k i j : Nat} (hk : k ≤ 6) : (Dt (k + 1) (B1 M k i j)).natAbs < 2 ^ 64 := by
  have h1 := Dt_abs (c := 168) (k + 1) (M := B1 M k i j) fun a _ => by
    refine Nat.le_trans (SmN_le (g := fun _ => 24) (k + 1) fun t _ => h _ _) ?_
    rw [SmN_const]
    omega
  have h2 : (2 * 168) ^ (k + 1) ≤ (2 * 168) ^ 7 := Nat.pow_le_pow_right (by decide) (by omega)
  have h3 : (2 * 168) ^ 7 < 2 ^ 64 := by decide
  omega
end L2

set_option Elab.async false
set_option linter.all false
set_option maxRecDepth 100000
set_option maxHeartbeats 4000000
/-! Own rules, part 81: the law's own count of trees (k09). -/
namespace L2
variable {n : Nat} {rs : List (Int × Int)} {p0 : Int}
theorem oth_succ {h : Nat} : othD (h + 1) rs p0 = othD h rs p0 ++ (if isO rs p0 (h : Int) = true then [(h : Int)] else []) := by
  unfold othD
  rw [rng_succ, List.filter_append]
  congr 1
  by_cases q : isO rs p0 (h : Int) = true
  · rw [if_pos q, List.filter_cons_of_pos q, List.filter_nil]
  · rw [if_neg q, List.filter_cons_of_neg q, List.filter_nil]
end L2

set_option Elab.async false
set_option linter.all false
set_option maxRecDepth 100000
set_option maxHeartbeats 4000000
/-! Own rules, part 82: an argument used up, rows taken; sizes (k09). -/
namespace L2
open PySem PySem.Spec PyProof.Rows
section
variable {c : Ct} {β γ : Type} [Rp c β] [Rp c γ]
/-- one argument, used up -/
def spK (c : Ct) {β γ : Type} [Rp c β] [Rp c γ] (pre : γ → (β → Prop) → Prop) : Sp := fun vs H Q _ => ∃ v w as R, vs = [v] ∧ pre w R ∧ tree c H v (w : γ) as ∧ as.Nodup ∧ ∀ (x : β) u H' bs, R x → Kp as H H' → tree c H' u x bs → bs.Nodup → (∀ b ∈ bs, H b = none ∨ b ∈ as) → Q u H'
theorem spK_len {pre : γ → (β → Prop) → Prop} {vs : List V} {H : Hp} {Q : VK} {E : XK} (h : spK c pre vs H Q E) : vs.length = 1 := by
  obtain ⟨v, w, as, R, rfl, _⟩ := h
  rfl
theorem fnK_data {pre : γ → (β → Prop) → Prop} {N : List Str} {t : TS} {vs : List V} {H : Hp} {Q : VK} {E : XK} (h : spK c pre vs H Q E)
    (hb : ∀ w R, pre w R → WS (.ow w :: List.replicate (N.length - 1) .no) t ({ nx := fun _ => False, rt := R } : Rs c β)) : t { nx := fun _ H' => Q .non H', rt := Q } (start N vs) H := by
  obtain ⟨v, w, as, R, rfl, hp, tw, nd, k⟩ := h
  have S0 := argsN_start (c := c) (N := N) (vs1 := []) (vs2 := []) (es1 := []) (es2 := []) trivial trivial tw nd
  have S1 := S0.put (i := 0) (as := as) (v := some v) (e := .ow w) (Kp.refl H) (by simp) ⟨v, rfl, by rw [putF_same]; exact tw⟩ nd (fun a ha => .inl (by simpa using ha))
  have hσ : (start N ([] ++ v :: [])).set 0 (some v) = start N [v] := by
    unfold start
    rfl
  rw [hσ] at S1
  exact hb w R hp S1 ⟨fun _ _ _ _ z => z.elim, fun _ _ _ _ z => z.elim, fun _ _ _ _ z => z.elim, fun x u H' bs r kp t nd' up => k x u H' bs r kp t nd' up⟩
variable {env : List (Ent c)} {m : Md} {ta te : TE} {α : Type} [Rp c α]
theorem we_callK {pre : γ → (β → Prop) → Prop} {E : XK} {R : β → Prop} (h : WE .fr env ta fun w : γ => pre w R) : WE m env (tCall (spK c pre) [] E (tCons ta tNil)) R := fun _ _ _ _ H S Q k => h S _ fun w v H1 as r s t o => by
  show spK c pre [v] H1 Q E
  have n : ∀ z ∈ as, H z = none := fun z hz => (o.2 z hz).elim id fun ⟨j, y, _⟩ => absurd y (by simp)
  refine ⟨v, w, as, R, rfl, r, t, o.1, fun x u H' bs rx kp tx nd up => k x u H' bs rx (fun b o' hb => ?_) tx (Md.fresh S nd fun b hb => ?_)⟩
  · refine kp.keep b o' (s b o' hb) (.inr fun z => ?_)
    rw [n b z] at hb
    cases hb
  · rcases up b hb with z | z
    · exact s.free z
    · exact n b z
/-- list(x), x's own lists -/
theorem wm_listM {R : List (List α) → List (Ent c) → Prop} {i : Nat} {xs : List (List α)} (h : env[i]? = some (.ow xs)) (r : R xs (env.set i .no)) : WM env (tCB (rListOf c.K) (tCons (tVar i) tNil)) R := fun H0 F0 Fs σ H S Q k => by
  have hi : i < env.length := (List.getElem?_eq_some_iff.mp h).1
  obtain ⟨a, vs, as, hσ, ha, tr, hF⟩ := S.own h
  refine ⟨_, hσ, a, vs, rfl, .inl (SqL.of ha), fun l hl => ?_⟩
  have s : Same H (upd H l (.lst vs)) := Same.new hl
  have nd := S.nd i
  rw [hF] at nd
  have hla : ∀ z ∈ as, z ≠ l := fun z hz e => by
    subst e
    obtain ⟨o, q, _⟩ := S.isl (i := i) (a := z) (by rw [hF]; exact List.mem_cons_of_mem _ hz)
    rw [hl] at q; cases q
  have q1 := S.put (i := i) (as := l :: as) (v := some (.ref l)) (e := .ow (⟨xs, ()⟩ : Wt V.non (List (List α)) Unit)) (Kp.of_same s) hi
    ⟨.ref l, rfl, by rw [putF_same]; exact ⟨l :: as, [], ⟨l, vs, as, rfl, upd_same, tr.same s, rfl⟩, ⟨rfl, rfl⟩, (List.append_nil _).symm⟩⟩
    (List.nodup_cons.mpr ⟨fun z => hla l z rfl, (List.nodup_cons.mp nd).2⟩) (fun z hz => by
      rcases List.mem_cons.mp hz with e | e
      · exact .inr (by rw [e]; exact hl)
      · exact .inl (by rw [hF]; exact List.mem_cons_of_mem _ e))
  obtain ⟨Fs', q2, _⟩ := q1.split (i := i) (List.getElem?_set_self hi) (List.getElem?_set_self (by rw [S.len]; exact hi))
  have q3 := q2.put (i := i) (as := []) (v := some (.ref a)) (e := .no) (Kp.refl _) (by simp; omega) putF_same List.nodup_nil (fun z hz => absurd hz (by simp))
  rw [List.set_append_left _ _ (by simp; omega), List.set_append_left _ _ (by simp [S.len]; omega), List.set_set, List.set_set, List.set_set, List.set_set, set_get hσ] at q3
  exact k xs _ _ _ _ r q3
/-- x.pop(0), one of x's own lists -/
theorem wm_pop0 {R : List α → List (Ent c) → Prop} {i : Nat} {x : List α} {xs : List (List α)} (h : env[i]? = some (.ow (x :: xs))) (r : R x (env.set i (.ow xs))) : WM env (tBM c.K "list" rPopAt (tVar i) (tCons (tC (.int 0)) tNil)) R := fun H0 F0 Fs σ H S Q k => by
  have hi : i < env.length := (List.getElem?_eq_some_iff.mp h).1
  obtain ⟨a, vs, as, hσ, ha, tr, hF⟩ := S.own h
  obtain ⟨v, vs', rfl⟩ : ∃ v vs', vs = v :: vs' := by
    cases vs with
    | nil => exact (show False from tr).elim
    | cons v vs' => exact ⟨v, vs', rfl⟩
  obtain ⟨a1, a2, t1, t2, rfl⟩ := tr
  refine ⟨_, hσ, .inl ⟨rfl, _, SqL.of ha⟩, a, v :: vs', 0, 0, v, rfl, rfl, ha, by decide, by decide, by rw [show (0 : Int) = ((0 : Nat) : Int) from rfl]; simp [seqIndex?], rfl, ?_⟩
  have nd := S.nd i
  rw [hF] at nd
  have hne : ∀ z ∈ a1 ++ a2, z ≠ a := fun z hz e => (List.nodup_cons.mp nd).1 (e ▸ hz)
  have kp : Kp (Fs i) H (upd H a (.lst vs')) := by
    rw [hF]
    exact (Kp.put ha).sub fun b hb => by
      have : b = a := by simpa using hb
      rw [this]; exact List.mem_cons_self
  have fr : ∀ {δ : Type} [Rp c δ] {u : V} {y : δ} {bs : List Addr}, tree c H u y bs → (∀ z ∈ bs, z ≠ a) → tree c (upd H a (.lst vs')) u y bs := fun {δ _ u y bs} t hb => Rp.frame t fun b o hbo hc => by
    have : b ≠ a := by
      rcases hc with z | z
      · intro e
        subst e
        rw [ha] at hbo
        cases hbo
        cases z
      · exact hb b z
    rw [upd_ne this]
    exact hbo
  have q1 := S.put (i := i) (as := a1 ++ (a :: a2)) (v := some v) (e := .ow (⟨x, xs⟩ : Wt (V.ref a) (List α) (List (List α)))) kp hi
    ⟨v, rfl, by
      rw [putF_same]
      refine ⟨a1, a :: a2, fr t1 fun z hz => hne z (List.mem_append_left _ hz), ⟨a, vs', a2, rfl, upd_same, ?_, rfl⟩, rfl⟩
      exact t2.frame (fun b o hbo hc => by
        have : b ≠ a := by
          rcases hc with z | z
          · intro e
            subst e
            rw [ha] at hbo
            cases hbo
            cases z
          · exact hne b (List.mem_append_right _ z)
        rw [upd_ne this]
        exact hbo)⟩
    (by
      have h1 := (List.nodup_cons.mp nd).2
      have h2 := List.nodup_append.mp h1
      refine List.nodup_append.mpr ⟨h2.1, List.nodup_cons.mpr ⟨fun z => hne a (List.mem_append_right _ z) rfl, h2.2.1⟩, fun y hy z hz => ?_⟩
      rcases List.mem_cons.mp hz with e | e
      · rw [e]; exact hne y (List.mem_append_left _ hy)
      · exact h2.2.2 y hy z e)
    (fun z hz => .inl (by
      rw [hF]
      rcases List.mem_append.mp hz with e | e
      · exact List.mem_cons_of_mem _ (List.mem_append_left _ e)
      · rcases List.mem_cons.mp e with e | e
        · rw [e]; exact List.mem_cons_self
        · exact List.mem_cons_of_mem _ (List.mem_append_right _ e)))
  obtain ⟨Fs', q2, _⟩ := q1.split (i := i) (List.getElem?_set_self hi) (List.getElem?_set_self (by rw [S.len]; exact hi))
  rw [List.set_set, List.set_set, set_get hσ] at q2
  exact k x _ _ _ _ r q2
theorem we_unSome {R : Int → Prop} (h : WE m env te fun o : Option Int => ∃ n, o = some n ∧ R n) : WE m env te R := fun _ _ _ _ _ S Q k => h S Q fun x v H' as r s t o => by
  obtain ⟨n, rfl, r⟩ := r
  exact k n v H' as r s t o
end
end L2

set_option Elab.async false
set_option linter.all false
set_option maxRecDepth 100000
set_option maxHeartbeats 4000000
/-! Own rules, part 83: promises for k09. -/
namespace L2
open PySem PySem.Spec PyProof.Rows
section
variable {n : Nat} {rs : List (Int × Int)} {p0 : Int}
/-! roads to lesser places alone -/
def PrI : Nat → (Nat → Int) → Int
  | 0, _ => 1
  | n + 1, f => PrI n f * f n
structure Down (n : Nat) (rs : List (Int × Int)) : Prop where
  lt : ∀ e ∈ rs, 0 ≤ e.2 ∧ e.2 < e.1
  out : ∀ h : Nat, 1 ≤ h → h < n → outsD rs (h : Int) ≠ []
theorem outs_filter {q : Int} : (outsD rs q).length = (rs.filter fun e => decide (e.1 = q)).length := by
  rw [← List.countP_eq_length_filter, ← cO_pairs]
  unfold outsD cO allR
  rw [outs_sp, List.countP_eq_length_filter]
end
section
variable {c : Ct}
def p_clear : List (Ent c) → (List Int → Prop) → Prop := fun es R => ∃ (row top : List Int) (last : Int), es = [.sh row, .sh top, .sh last] ∧ (1 ≤ row.length ∧ row.length ≤ 8) ∧ top.length = row.length ∧ (0 < last ∧ last < 1073741824) ∧ (-(2 ^ 64) < top.getD 0 0 ∧ top.getD 0 0 < 2 ^ 64) ∧ (-(2 ^ 64) < row.getD 0 0 ∧ row.getD 0 0 < 2 ^ 64) ∧ R (clD row top last)
def p_deter : List (List Int) → (Int → Prop) → Prop := fun rows R => ∃ (M : Mx) (n : Nat), rows = ((List.range' 0 n).map fun i => (List.range' 0 n).map (M i)) ∧ n ≤ 7 ∧ (∀ i j, (M i j).natAbs ≤ 24) ∧ (∀ k, k ≤ 6 → 0 ≤ Dt k M ∧ Dt k M < 1073741824) ∧ ∀ v, (v = Dt n M ∨ (v = 0 ∧ ∃ k, k ≤ n ∧ Dt k M = 0)) → R v
def p_trow : List (Ent c) → (List Int → Prop) → Prop := fun es R => ∃ (N : NetD) (p0 : Int) (os : List Int) (q : Int), es = [.sh N, .sh p0, .sh os, .sh q] ∧ (1 ≤ N.n ∧ N.n ≤ 8) ∧ InNet N.n N.rs ∧ N.rs.length ≤ 24 ∧ os.length ≤ 8 ∧ (0 ≤ q ∧ q < N.n) ∧ R (rowD os p0 N.rs q)
def p_trees : List (Ent c) → (Int → Prop) → Prop := fun es R => ∃ (N : NetD) (p0 : Int), es = [.sh N, .sh p0] ∧ (1 ≤ N.n ∧ N.n ≤ 8) ∧ InNet N.n N.rs ∧ N.rs.length ≤ 24 ∧ (0 ≤ p0 ∧ p0 < N.n) ∧ R (treesD N.n.toNat N.rs p0)
end
end L2

set_option Elab.async false
set_option linter.all false
set_option maxRecDepth 100000
set_option maxHeartbeats 4000000
/-! Own rules, part 84: determinants: columns; the trees to each place are as many (k21). -/
namespace L2
def setc (M : Mx) (t : Nat) (v : Nat → Int) : Mx := fun i j => if j = t then v i else M i j
theorem setc_self {M : Mx} {t : Nat} : setc M t (fun i => M i t) = M := by
  funext i j
  unfold setc
  split
  · next h => rw [h]
  · rfl
theorem addc_setc {M : Mx} {n t : Nat} : addc M n t = setc M t (fun i => 1 * M i t + 1 * M i n) := by
  funext i j
  unfold addc setc
  split
  · next h =>
    rw [h]
    show M i t + M i n = 1 * M i t + 1 * M i n
    omega
  · rfl
/-- by the last row -/
def LapP (n : Nat) : Prop := ∀ M : Mx, Dt (n + 1) M = M n n * Dt n M - Sm n (fun t => M n t * Dt n (setc M t fun i => M i n))
def ClinP (n : Nat) : Prop := ∀ (M : Mx) (t : Nat) (v u : Nat → Int) (a b : Int), t < n → Dt n (setc M t fun i => a * v i + b * u i) = a * Dt n (setc M t v) + b * Dt n (setc M t u)
theorem lap_of {n : Nat} (h : ClinP n) : LapP n := fun M => by
  conv => lhs; unfold Dt
  have e : ∀ t, t < n → Dt n (addc M n t) = Dt n M + Dt n (setc M t fun i => M i n) := fun t ht => by
    rw [addc_setc, h M t _ _ 1 1 ht, setc_self]
    omega
  rw [Sm_congr (f := fun t => M n t * Dt n (addc M n t)) (g := fun t => Dt n M * M n t + M n t * Dt n (setc M t fun i => M i n)) fun t ht => by rw [e t ht, Int.mul_add, Int.mul_comm (M n t) (Dt n M)]]
  rw [Sm_add, Sm_mul]
  show (Sm n (M n) + M n n) * Dt n M - _ = _
  rw [Int.add_mul, Int.mul_comm (Sm n (M n))]
  show _ - (Dt n M * Sm n (M n) + _) = _
  omega
theorem setc_row {M : Mx} {t i j : Nat} {v : Nat → Int} (h : j ≠ t) : setc M t v i j = M i j := if_neg h
theorem clin : ∀ n, ClinP n
  | 0 => fun M t v u a b h => by omega
  | n + 1 => fun M t v u a b h => by
    have L := lap_of (clin n)
    rw [L, L, L]
    by_cases e : t = n
    · subst e
      have hc : ∀ w : Nat → Int, Dt t (setc M t w) = Dt t M := fun w => Dt_congr fun i j hi hj => setc_row (by omega)
      have hr : ∀ (w : Nat → Int) j, j < t → setc M t w t j = M t j := fun w j hj => setc_row (by omega)
      have hd : ∀ (w : Nat → Int) j, j < t → Dt t (setc (setc M t w) j fun i => setc M t w i t) = Dt t (setc M j w) := fun w j hj => Dt_congr fun i j' hi hj' => by
        unfold setc
        split
        · show (if t = t then w i else M i t) = w i
          rw [if_pos rfl]
        · rw [if_neg (by omega)]
      rw [hc, hc, hc]
      rw [Sm_congr (f := fun t' => setc M t (fun i => a * v i + b * u i) t t' * _) (g := fun t' => a * (M t t' * Dt t (setc M t' v)) + b * (M t t' * Dt t (setc M t' u))) fun j hj => by
        rw [hr _ j hj, hd _ j hj, clin t M j v u a b hj, Int.mul_add, Int.mul_left_comm, Int.mul_left_comm (M t j) b]]
      rw [Sm_congr (f := fun t' => setc M t v t t' * _) (g := fun t' => M t t' * Dt t (setc M t' v)) fun j hj => by rw [hr _ j hj, hd _ j hj]]
      rw [Sm_congr (f := fun t' => setc M t u t t' * _) (g := fun t' => M t t' * Dt t (setc M t' u)) fun j hj => by rw [hr _ j hj, hd _ j hj]]
      rw [Sm_add, Sm_mul, Sm_mul]
      have z : ∀ w : Nat → Int, setc M t w t t = w t := fun w => if_pos rfl
      rw [z, z, z, Int.mul_sub, Int.mul_sub, Int.add_mul, Int.mul_assoc, Int.mul_assoc]
      omega
    · have ht : t < n := by omega
      have hnn : ∀ w : Nat → Int, setc M t w n n = M n n := fun w => setc_row (by omega)
      have hcol : ∀ w : Nat → Int, (fun i => setc M t w i n) = fun i => M i n := fun w => by funext i; exact setc_row (by omega)
      rw [hnn, hnn, hnn, hcol, hcol, hcol, clin n M t v u a b ht]
      have comm : ∀ (w : Nat → Int) j, j ≠ t → setc (setc M t w) j (fun i => M i n) = setc (setc M j fun i => M i n) t w := fun w j hj => by
        funext x y
        unfold setc
        by_cases h1 : y = j
        · rw [if_pos h1, if_neg (by omega), if_pos h1]
        · rw [if_neg h1, if_neg h1]
      have same : ∀ w : Nat → Int, setc (setc M t w) t (fun i => M i n) = setc M t fun i => M i n := fun w => by
        funext x y
        unfold setc
        by_cases h1 : y = t
        · rw [if_pos h1, if_pos h1]
        · rw [if_neg h1, if_neg h1, if_neg h1]
      rw [Sm_congr (f := fun t' => setc M t (fun i => a * v i + b * u i) n t' * Dt n (setc (setc M t fun i => a * v i + b * u i) t' fun i => M i n)) (g := fun t' => a * (setc M t v n t' * Dt n (setc (setc M t v) t' fun i => M i n)) + b * (setc M t u n t' * Dt n (setc (setc M t u) t' fun i => M i n))) fun j hj => ?_]
      · rw [Sm_add, Sm_mul, Sm_mul, Int.mul_add, Int.mul_sub, Int.mul_sub, Int.mul_left_comm, Int.mul_left_comm (M n n) b]
        omega
      · by_cases hjt : j = t
        · subst hjt
          rw [same, same, same]
          have z : ∀ w : Nat → Int, setc M j w n j = w n := fun w => if_pos rfl
          rw [z, z, z, Int.add_mul, Int.mul_assoc, Int.mul_assoc]
        · rw [setc_row hjt, setc_row hjt, setc_row hjt, comm _ j hjt, comm _ j hjt, comm _ j hjt, clin n _ t v u a b ht, Int.mul_add, Int.mul_left_comm, Int.mul_left_comm (M n j) b]
theorem lap (n : Nat) (M : Mx) : Dt (n + 1) M = M n n * Dt n M - Sm n (fun t => M n t * Dt n (setc M t fun i => M i n)) := lap_of (clin n) M
/-- equal columns -/
theorem Dt_ceq : ∀ (n : Nat) {M : Mx} {a b : Nat}, a < b → b < n → (∀ i, i < n → M i a = M i b) → Dt n M = 0
  | 0, _, _, _, _, h, _ => by omega
  | n + 1, M, a, b, hab, hb, h => by
    rw [lap]
    by_cases hbn : b = n
    · subst hbn
      have z : Sm b (fun t => M b t * Dt b (setc M t fun i => M i b)) = M b a * Dt b M := by
        rw [Sm_one (k := a) hab fun t ht hta => ?_]
        · rw [Dt_congr (M := setc M a fun i => M i b) (N := M) fun i j hi hj => by
            unfold setc
            split
            · next q => rw [q, h i (by omega)]
            · rfl]
        · have : Dt b (setc M t fun i => M i b) = 0 := by
            rcases Nat.lt_or_gt_of_ne hta with q | q
            · refine Dt_ceq b (a := t) (b := a) q hab fun i hi => ?_
              unfold setc
              rw [if_pos rfl, if_neg (by omega), h i (by omega)]
            · refine Dt_ceq b (a := a) (b := t) q ht fun i hi => ?_
              unfold setc
              rw [if_pos rfl, if_neg (by omega), h i (by omega)]
          rw [this, Int.mul_zero]
      rw [z, h b (by omega)]
      omega
    · have hbl : b < n := by omega
      rw [Dt_ceq n hab hbl fun i hi => h i (by omega), Int.mul_zero]
      -- only a and b are left
      have key : Sm n (fun t => M n t * Dt n (setc M t fun i => M i n)) = 0 := by
        have other : ∀ t, t < n → t ≠ a → t ≠ b → Dt n (setc M t fun i => M i n) = 0 := fun t _ h1 h2 => Dt_ceq n hab hbl fun i hi => by
          unfold setc
          rw [if_neg (by omega), if_neg (by omega), h i (by omega)]
        have swp : Dt n (setc M b fun i => M i n) = -Dt n (setc M a fun i => M i n) := by
          -- (v + c) in both
          have z1 : Dt n (setc (setc M a fun i => 1 * M i a + 1 * M i n) b fun i => 1 * M i a + 1 * M i n) = 0 := Dt_ceq n hab hbl fun i hi => by
            unfold setc
            rw [if_neg (by omega), if_pos rfl, if_pos rfl]
          rw [clin n _ b _ _ 1 1 hbl] at z1
          have c1 : ∀ w : Nat → Int, setc (setc M a fun i => 1 * M i a + 1 * M i n) b w = setc (setc M b w) a fun i => 1 * M i a + 1 * M i n := fun w => by
            funext x y
            unfold setc
            by_cases q : y = b
            · rw [if_pos q, if_neg (by omega), if_pos q]
            · rw [if_neg q, if_neg q]
          rw [c1, c1, clin n _ a _ _ 1 1 (by omega), clin n _ a _ _ 1 1 (by omega)] at z1
          have e1 : Dt n (setc (setc M b fun i => M i a) a fun i => M i a) = 0 := Dt_ceq n hab hbl fun i hi => by
            unfold setc
            rw [if_pos rfl, if_neg (by omega), if_pos rfl]
          have e4 : Dt n (setc (setc M b fun i => M i n) a fun i => M i n) = 0 := Dt_ceq n hab hbl fun i hi => by
            unfold setc
            rw [if_pos rfl, if_neg (by omega), if_pos rfl]
          have e2 : Dt n (setc (setc M b fun i => M i a) a fun i => M i n) = Dt n (setc M a fun i => M i n) := Dt_congr fun i j hi hj => by
            unfold setc
            by_cases q : j = a
            · rw [if_pos q, if_pos q]
            · rw [if_neg q, if_neg q]
              by_cases q2 : j = b
              · rw [if_pos q2, q2]; exact h i (by omega)
              · rw [if_neg q2]
          have e3 : Dt n (setc (setc M b fun i => M i n) a fun i => M i a) = Dt n (setc M b fun i => M i n) := Dt_congr fun i j hi hj => by
            unfold setc
            by_cases q : j = a
            · rw [if_pos q, if_neg (by omega), q]
            · rw [if_neg q]
          rw [e1, e2, e3, e4] at z1
          omega
        have : Sm n (fun t => M n t * Dt n (setc M t fun i => M i n)) = Sm n (fun t => (if t = a then M n a * Dt n (setc M a fun i => M i n) else 0) + (if t = b then M n b * Dt n (setc M b fun i => M i n) else 0)) := Sm_congr fun t ht => by
          by_cases q : t = a
          · subst q
            rw [if_pos rfl, if_neg (by omega)]
            omega
          · rw [if_neg q]
            by_cases q2 : t = b
            · subst q2
              rw [if_pos rfl]
              omega
            · rw [if_neg q2, other t ht q q2]
              omega
        rw [this, Sm_add, Sm_one (k := a) (by omega) fun t _ ht => if_neg ht, Sm_one (k := b) hbl fun t _ ht => if_neg ht, if_pos rfl, if_pos rfl, swp, h n (by omega), Int.mul_neg]
        omega
      rw [key]
      rfl
/-- rows, columns may be put together -/
theorem Dt_combR {n r : Nat} {N : Mx} {v u : Nat → Int} (c : Int) (hr : r < n) (hu : u r = 0) : ∀ m, m ≤ n → Dt n (setr N r fun j => c * v j + Sm m (fun l => u l * N l j)) = c * Dt n (setr N r v)
  | 0, _ => by
    have := Dt_lin (n := n) (r := r) (M := N) (v := v) (u := fun _ => 0) c 0 hr
    rw [show c * Dt n (setr N r v) = c * Dt n (setr N r v) + 0 * Dt n (setr N r fun _ => 0) by omega, ← this]
    congr 1
  | m + 1, hm => by
    have e : (fun j => c * v j + Sm (m + 1) (fun l => u l * N l j)) = fun j => 1 * (c * v j + Sm m (fun l => u l * N l j)) + u m * N m j := by
      funext j
      show c * v j + (Sm m (fun l => u l * N l j) + u m * N m j) = _
      omega
    rw [e, Dt_lin 1 (u m) hr, Dt_combR c hr hu m (by omega)]
    by_cases hq : m = r
    · subst hq
      rw [hu]
      omega
    · have z : Dt n (setr N r (N m)) = 0 := by
        rcases Nat.lt_or_gt_of_ne hq with q | q
        · refine Dt_eq (i := m) (p := r) q hr fun j _ => ?_
          unfold setr
          rw [if_neg hq, if_pos rfl]
        · refine Dt_eq (i := r) (p := m) q (by omega) fun j _ => ?_
          unfold setr
          rw [if_neg hq, if_pos rfl]
      rw [z]
      omega
theorem Dt_combC {n r : Nat} {N : Mx} {v u : Nat → Int} (c : Int) (hr : r < n) (hu : u r = 0) : ∀ m, m ≤ n → Dt n (setc N r fun i => c * v i + Sm m (fun l => u l * N i l)) = c * Dt n (setc N r v)
  | 0, _ => by
    have := clin n N r v (fun _ => 0) c 0 hr
    rw [show c * Dt n (setc N r v) = c * Dt n (setc N r v) + 0 * Dt n (setc N r fun _ => 0) by omega, ← this]
    congr 1
  | m + 1, hm => by
    have e : (fun i => c * v i + Sm (m + 1) (fun l => u l * N i l)) = fun i => 1 * (c * v i + Sm m (fun l => u l * N i l)) + u m * N i m := by
      funext i
      show c * v i + (Sm m (fun l => u l * N i l) + u m * N i m) = _
      omega
    rw [e, clin n N r _ (fun i => N i m) 1 (u m) hr, Dt_combC c hr hu m (by omega)]
    by_cases hq : m = r
    · subst hq
      rw [hu]
      omega
    · have z : Dt n (setc N r fun i => N i m) = 0 := by
        rcases Nat.lt_or_gt_of_ne hq with q | q
        · refine Dt_ceq n (a := m) (b := r) q hr fun j _ => ?_
          unfold setc
          rw [if_neg hq, if_pos rfl]
        · refine Dt_ceq n (a := r) (b := m) q (by omega) fun j _ => ?_
          unfold setc
          rw [if_neg hq, if_pos rfl]
      rw [z]
      omega
/-- all but a -/
def dl (a i : Nat) : Nat := if i < a then i else i + 1
theorem Sm_skip {f : Nat → Int} {a : Nat} : ∀ m, a ≤ m → Sm m (fun l => f (dl a l)) + f a = Sm (m + 1) f
  | 0, h => by
    have : a = 0 := by omega
    subst this
    rfl
  | m + 1, h => by
    show Sm m (fun l => f (dl a l)) + f (dl a m) + f a = Sm (m + 1) f + f (m + 1)
    by_cases e : a = m + 1
    · subst e
      have e1 : Sm m (fun l => f (dl (m + 1) l)) = Sm m f := Sm_congr fun t ht => by unfold dl; rw [if_pos (by omega)]
      rw [e1, show dl (m + 1) m = m by unfold dl; rw [if_pos (by omega)]]
      rfl
    · have := Sm_skip (f := f) (a := a) m (by omega)
      rw [show dl a m = m + 1 by unfold dl; rw [if_neg (by omega)], ← this]
      omega
/-- the same of the next -/
theorem minor_next {L : Mx} {m k : Nat} (hk : k + 1 ≤ m) (hr : ∀ i, i < m + 1 → Sm (m + 1) (L i) = 0) (hc : ∀ j, j < m + 1 → Sm (m + 1) (fun i => L i j) = 0) :
    Dt m (fun i j => L (dl k i) (dl k j)) = Dt m (fun i j => L (dl (k + 1) i) (dl (k + 1) j)) := by
  have dk : ∀ i, i ≠ k → dl k i = dl (k + 1) i := fun i hi => by unfold dl; split <;> split <;> omega
  have d1 : dl k k = k + 1 := by unfold dl; rw [if_neg (by omega)]
  have d2 : dl (k + 1) k = k := by unfold dl; rw [if_pos (by omega)]
  have hd : ∀ a i, i < m → dl a i < m + 1 := fun a i hi => by unfold dl; split <;> omega
  -- the row
  have e1 : Dt m (fun i j => L (dl k i) (dl k j)) = (-1) * Dt m (fun i j => L (dl (k + 1) i) (dl k j)) := by
    have := Dt_combR (n := m) (r := k) (N := fun i j => L (dl (k + 1) i) (dl k j)) (v := fun j => L (dl (k + 1) k) (dl k j)) (u := fun l => if l = k then 0 else -1) (-1) (by omega) (if_pos rfl) m (Nat.le_refl m)
    have s1 : setr (fun i j => L (dl (k + 1) i) (dl k j)) k (fun j => L (dl (k + 1) k) (dl k j)) = fun i j => L (dl (k + 1) i) (dl k j) := setr_self (M := fun i j => L (dl (k + 1) i) (dl k j))
    rw [s1] at this
    rw [← this]
    refine Dt_congr fun i j hi hj => ?_
    unfold setr
    by_cases q : i = k
    · subst q
      rw [if_pos rfl, d1]
      have c0 := hc (dl i j) (hd i j hj)
      rw [← Sm_skip (f := fun x => L x (dl i j)) (a := i + 1) m (by omega)] at c0
      have s2 : Sm m (fun l => (if l = i then (0 : Int) else -1) * L (dl (i + 1) l) (dl i j)) = Sm m (fun l => (-1) * L (dl (i + 1) l) (dl i j) + (if l = i then L (dl (i + 1) l) (dl i j) else 0)) := Sm_congr fun l _ => by split <;> omega
      dsimp only
      rw [s2, Sm_add, Sm_mul, Sm_one (k := i) (by omega) fun t _ ht => if_neg ht, if_pos rfl]
      omega
    · rw [if_neg q, dk i q]
  -- the column
  have e2 : Dt m (fun i j => L (dl (k + 1) i) (dl k j)) = (-1) * Dt m (fun i j => L (dl (k + 1) i) (dl (k + 1) j)) := by
    have := Dt_combC (n := m) (r := k) (N := fun i j => L (dl (k + 1) i) (dl (k + 1) j)) (v := fun i => L (dl (k + 1) i) (dl (k + 1) k)) (u := fun l => if l = k then 0 else -1) (-1) (by omega) (if_pos rfl) m (Nat.le_refl m)
    have s1 : setc (fun i j => L (dl (k + 1) i) (dl (k + 1) j)) k (fun i => L (dl (k + 1) i) (dl (k + 1) k)) = fun i j => L (dl (k + 1) i) (dl (k + 1) j) := setc_self (M := fun i j => L (dl (k + 1) i) (dl (k + 1) j))
    rw [s1] at this
    rw [← this]
    refine Dt_congr fun i j hi hj => ?_
    unfold setc
    by_cases q : j = k
    · subst q
      rw [if_pos rfl, d1]
      have c0 := hr (dl (j + 1) i) (hd (j + 1) i hi)
      rw [← Sm_skip (f := L (dl (j + 1) i)) (a := j + 1) m (by omega)] at c0
      have s2 : Sm m (fun l => (if l = j then (0 : Int) else -1) * L (dl (j + 1) i) (dl (j + 1) l)) = Sm m (fun l => (-1) * L (dl (j + 1) i) (dl (j + 1) l) + (if l = j then L (dl (j + 1) i) (dl (j + 1) l) else 0)) := Sm_congr fun l _ => by split <;> omega
      dsimp only
      rw [s2, Sm_add, Sm_mul, Sm_one (k := j) (by omega) fun t _ ht => if_neg ht, if_pos rfl]
      omega
    · rw [if_neg q, dk j q]
  rw [e1, e2]
  omega
theorem minors_same {L : Mx} {m : Nat} (hr : ∀ i, i < m + 1 → Sm (m + 1) (L i) = 0) (hc : ∀ j, j < m + 1 → Sm (m + 1) (fun i => L i j) = 0) : ∀ k, k ≤ m → Dt m (fun i j => L (dl 0 i) (dl 0 j)) = Dt m (fun i j => L (dl k i) (dl k j))
  | 0, _ => rfl
  | k + 1, h => (minors_same hr hc k (by omega)).trans (minor_next (by omega) hr hc)
end L2

set_option Elab.async false
set_option linter.all false
set_option maxRecDepth 100000
set_option maxHeartbeats 4000000
/-! Own rules, part 85: trees of nets with as many roads from each place as to it (k21). -/
namespace L2
variable {n : Nat} {rs : List (Int × Int)} {p0 : Int}
def usD (n : Nat) (rs : List (Int × Int)) : List Int := (rng n).filter fun q => !(outsD rs q).isEmpty
theorem us_nodup : (usD n rs).Nodup := by
  unfold usD
  refine List.Pairwise.filter _ ?_
  unfold rng
  exact List.pairwise_map.mpr (List.nodup_range.imp fun h z => h (by omega))
theorem us_mem {q : Int} : q ∈ usD n rs ↔ (0 ≤ q ∧ q < n) ∧ outsD rs q ≠ [] := by
  unfold usD
  rw [List.mem_filter, mem_rng, Bool.not_eq_true']
  cases outsD rs q <;> simp
theorem oth_us : othD n rs p0 = (usD n rs).filter fun q => decide (q ≠ p0) := by
  unfold othD usD isO
  rw [List.filter_filter]
theorem getD_at {xs : List Int} {i : Nat} (h : i < xs.length) : xs.getD i 0 = xs[i] := by rw [List.getD_eq_getElem?_getD, List.getElem?_eq_getElem h]; rfl
/-- leaving one out of different ones -/
theorem filter_ne {xs : List Int} (nd : xs.Nodup) {r : Nat} (hr : r < xs.length) : (xs.filter fun q => decide (q ≠ xs[r])) = xs.take r ++ xs.drop (r + 1) := by
  have e : xs = xs.take r ++ xs[r] :: xs.drop (r + 1) := by rw [← List.drop_eq_getElem_cons hr, List.take_append_drop]
  have nd2 := nd
  rw [e] at nd2
  have h2 := List.nodup_append.mp nd2
  have hm : xs.filter (fun q => decide (q ≠ xs[r])) = (xs.take r ++ xs[r] :: xs.drop (r + 1)).filter fun q => decide (q ≠ xs[r]) := congrArg (List.filter _) e
  rw [hm, List.filter_append, List.filter_cons_of_neg (by simp)]
  congr 1
  · refine List.filter_eq_self.mpr fun q hq => decide_eq_true fun z => ?_
    exact h2.2.2 q hq _ List.mem_cons_self z
  · refine List.filter_eq_self.mpr fun q hq => decide_eq_true fun z => ?_
    have := (List.nodup_cons.mp h2.2.1).1
    rw [z] at hq
    exact this hq
theorem oth_at {r : Nat} (hr : r < (usD n rs).length) : (othD n rs (usD n rs)[r]).length + 1 = (usD n rs).length ∧ ∀ i, i + 1 < (usD n rs).length → (othD n rs (usD n rs)[r]).getD i 0 = (usD n rs).getD (dl r i) 0 := by
  rw [oth_us, filter_ne us_nodup hr]
  refine ⟨by rw [List.length_append, List.length_take, List.length_drop]; omega, fun i hi => ?_⟩
  rw [List.getD_eq_getElem?_getD, List.getD_eq_getElem?_getD]
  unfold dl
  by_cases h : i < r
  · rw [if_pos h, List.getElem?_append_left (by rw [List.length_take]; omega), List.getElem?_take_of_lt h]
  · rw [if_neg h, List.getElem?_append_right (by rw [List.length_take]; omega), List.length_take, List.getElem?_drop]
    congr 2
    omega
/-- as many from each place as to it -/
def Even (n : Nat) (rs : List (Int × Int)) : Prop := ∀ q : Int, 0 ≤ q → q < n → (outsD rs q).length = (insD rs q).length
theorem even_of_odd (h : oddD n rs = []) : Even n rs := fun q h0 h1 => by
  have := List.filter_eq_nil_iff.mp h q (mem_rng.mpr ⟨h0, h1⟩)
  simp at this
  omega
theorem mem_ins {r p : Int} : r ∈ insD rs p ↔ (0 ≤ r ∧ r < rs.length) ∧ en rs r = p := by
  unfold insD
  rw [List.mem_filter, mem_rng, decide_eq_true_eq]
  constructor
  · rintro ⟨h, z⟩
    refine ⟨h, ?_⟩
    have hr : r.toNat < rs.length := by omega
    rw [List.getElem?_eq_getElem hr] at z
    unfold en
    rw [List.getD_eq_getElem?_getD, List.getElem?_eq_getElem hr]
    simpa using z
  · rintro ⟨h, z⟩
    refine ⟨h, ?_⟩
    have hr : r.toNat < rs.length := by omega
    rw [List.getElem?_eq_getElem hr]
    unfold en at z
    rw [List.getD_eq_getElem?_getD, List.getElem?_eq_getElem hr] at z
    simpa using z
theorem goal_us (hin : InNet n rs) (ev : Even n rs) {q g : Int} (hg : g ∈ goalsD rs q) : g ∈ usD n rs := by
  unfold goalsD at hg
  obtain ⟨r, hr, rfl⟩ := List.mem_map.mp hg
  have hm := (mem_outs.mp hr).1
  have i := (rd_in hin hm.1 hm.2).2
  refine us_mem.mpr ⟨i, fun z => ?_⟩
  have h1 := ev (en rs r) i.1 i.2
  rw [z] at h1
  have : r ∈ insD rs (en rs r) := mem_ins.mpr ⟨hm, rfl⟩
  rw [List.eq_nil_of_length_eq_zero h1.symm] at this
  simp at this
theorem start_us (hin : InNet n rs) {r : Int} (h0 : 0 ≤ r) (h1 : r < rs.length) : sp rs r ∈ usD n rs := by
  refine us_mem.mpr ⟨(rd_in hin h0 h1).1, fun z => ?_⟩
  have : r ∈ outsD rs (sp rs r) := mem_outs.mpr ⟨⟨h0, h1⟩, rfl⟩
  rw [z] at this
  simp at this
/-- each thing stands with one of different ones -/
theorem count_by {α : Type} {us : List Int} (nd : us.Nodup) {f : α → Int} {p : α → Bool} : ∀ {l : List α}, (∀ x ∈ l, f x ∈ us) → Sm us.length (fun j => ((l.countP fun x => decide (f x = us.getD j 0) && p x : Nat) : Int)) = ((l.countP p : Nat) : Int)
  | [], _ => Sm_zero fun _ _ => rfl
  | x :: l, h => by
    have ih := count_by nd (f := f) (p := p) (l := l) fun y hy => h y (List.mem_cons_of_mem _ hy)
    have hx := h x List.mem_cons_self
    obtain ⟨i, hi, hxi⟩ := List.mem_iff_getElem.mp hx
    have e : ∀ j, j < us.length → (((x :: l).countP fun x => decide (f x = us.getD j 0) && p x : Nat) : Int) = ((l.countP fun x => decide (f x = us.getD j 0) && p x : Nat) : Int) + (if j = i then (if p x = true then 1 else 0) else 0) := fun j hj => by
      rw [List.countP_cons]
      by_cases q : j = i
      · subst q
        rw [getD_at hj, hxi, if_pos rfl]
        by_cases z : p x = true
        · simp [z]
        · simp [z]
      · have : f x ≠ us.getD j 0 := fun z => q (by
          rw [getD_at hj, ← hxi] at z
          exact ((List.getElem_inj nd (h₀ := hi) (h₁ := hj)).mp z).symm)
        rw [if_neg q, if_neg (by rw [decide_eq_false this]; exact Bool.false_ne_true)]
        rfl
    rw [Sm_congr e, Sm_add, ih, Sm_one (k := i) hi fun t _ ht => if_neg ht, if_pos rfl, List.countP_cons]
    split <;> omega
/-- the whole matrix -/
def LapM (n : Nat) (rs : List (Int × Int)) : Mx := fun i j => if i = j then (((goalsD rs ((usD n rs).getD i 0)).countP fun g => decide (g ≠ (usD n rs).getD i 0) : Nat) : Int) else -(((goalsD rs ((usD n rs).getD i 0)).countP fun g => decide (g = (usD n rs).getD j 0) : Nat) : Int)
theorem count_split {l : List Int} {a : Int} : l.countP (fun g => decide (g ≠ a)) + l.countP (fun g => decide (g = a)) = l.length := by
  induction l with
  | nil => rfl
  | cons x l ih =>
    rw [List.countP_cons, List.countP_cons, List.length_cons]
    by_cases h : x = a
    · simp [h] at ih ⊢; omega
    · simp [h] at ih ⊢; omega
theorem Lap_row (hin : InNet n rs) (ev : Even n rs) {i : Nat} (hi : i < (usD n rs).length) : Sm (usD n rs).length (LapM n rs i) = 0 := by
  have h1 := count_by (α := Int) us_nodup (f := id) (p := fun _ => true) (l := goalsD rs ((usD n rs).getD i 0)) fun g hg => goal_us hin ev hg
  have e1 : ∀ j, j < (usD n rs).length → LapM n rs i j = (-1) * (((goalsD rs ((usD n rs).getD i 0)).countP fun x => decide (id x = (usD n rs).getD j 0) && true : Nat) : Int) + (if j = i then (((goalsD rs ((usD n rs).getD i 0)).length : Nat) : Int) else 0) := fun j _ => by
    unfold LapM
    have e2 : (fun x : Int => decide (id x = (usD n rs).getD j 0) && true) = fun g => decide (g = (usD n rs).getD j 0) := by funext x; simp
    rw [e2]
    by_cases q : i = j
    · subst q
      rw [if_pos rfl, if_pos rfl]
      have := count_split (l := goalsD rs ((usD n rs).getD i 0)) (a := (usD n rs).getD i 0)
      omega
    · rw [if_neg q, if_neg (by omega)]
      omega
  rw [Sm_congr e1, Sm_add, Sm_mul, h1, Sm_one (k := i) hi fun t _ ht => if_neg ht, if_pos rfl, List.countP_eq_length.mpr fun _ _ => rfl]
  omega
theorem goals_count {q a : Int} : (goalsD rs q).countP (fun g => decide (g = a)) = (rng rs.length).countP fun r => decide (sp rs r = q) && decide (en rs r = a) := by
  unfold goalsD outsD
  rw [outs_sp, List.countP_map, List.countP_filter]
  congr 1
  funext r
  show (decide (en rs r = a) && decide (sp rs r = q)) = _
  rw [Bool.and_comm]
theorem Lap_col (hin : InNet n rs) (ev : Even n rs) {j : Nat} (hj : j < (usD n rs).length) : Sm (usD n rs).length (fun i => LapM n rs i j) = 0 := by
  have h1 := count_by (α := Int) us_nodup (f := sp rs) (p := fun r => decide (en rs r = (usD n rs).getD j 0)) (l := rng rs.length) fun r hr => start_us hin (mem_rng.mp hr).1 (mem_rng.mp hr).2
  have hu := us_mem.mp (List.getElem_mem hj)
  have hlen := ev _ hu.1.1 hu.1.2
  have hins : ((rng rs.length).countP fun r => decide (en rs r = (usD n rs).getD j 0)) = (insD rs (usD n rs)[j]).length := by
    rw [getD_at hj, List.countP_eq_length_filter]
    congr 1
    unfold insD
    refine List.filter_congr fun r hr => ?_
    have := mem_rng.mp hr
    have h3 := mem_ins (rs := rs) (r := r) (p := (usD n rs)[j])
    unfold insD at h3
    rw [List.mem_filter, mem_rng] at h3
    have h4 : (decide ((rs[r.toNat]?).map (·.2) = some (usD n rs)[j]) = true) ↔ en rs r = (usD n rs)[j] := ⟨fun z => (h3.mp ⟨this, z⟩).2, fun z => (h3.mpr ⟨this, z⟩).2⟩
    cases e1 : decide (en rs r = (usD n rs)[j]) with
    | true => exact (h4.mpr (of_decide_eq_true e1)).symm
    | false =>
      cases e2 : decide ((rs[r.toNat]?).map (·.2) = some (usD n rs)[j]) with
      | false => rfl
      | true => exact absurd (h4.mp e2) (of_decide_eq_false e1)
  have e1 : ∀ i, i < (usD n rs).length → LapM n rs i j = (-1) * (((rng rs.length).countP fun r => decide (sp rs r = (usD n rs).getD i 0) && decide (en rs r = (usD n rs).getD j 0) : Nat) : Int) + (if i = j then (((goalsD rs ((usD n rs).getD j 0)).length : Nat) : Int) else 0) := fun i _ => by
    unfold LapM
    rw [← goals_count]
    by_cases q : i = j
    · subst q
      rw [if_pos rfl, if_pos rfl]
      have := count_split (l := goalsD rs ((usD n rs).getD i 0)) (a := (usD n rs).getD i 0)
      omega
    · rw [if_neg q, if_neg q]
      omega
  rw [Sm_congr e1, Sm_add, Sm_mul, h1, Sm_one (k := j) hj fun t _ ht => if_neg ht, if_pos rfl, hins]
  unfold goalsD
  rw [List.length_map, getD_at hj, hlen]
  omega
theorem trees_minor (hin : InNet n rs) (ev : Even n rs) {r : Nat} (hr : r < (usD n rs).length) : treesD n rs (usD n rs)[r] = Dt ((usD n rs).length - 1) (fun i j => LapM n rs (dl r i) (dl r j)) := by
  obtain ⟨hlen, hat⟩ := oth_at hr
  rw [← trees_Dt, show (othD n rs (usD n rs)[r]).length = (usD n rs).length - 1 by omega]
  refine Dt_congr fun i j hi hj => ?_
  have hp : (usD n rs)[r] ∉ othD n rs (usD n rs)[r] := fun z => (oth_mem.mp z).2.1 rfl
  have hmu := rows_MU (rs := rs) oth_nodup hp
  have hi' : i < (othD n rs (usD n rs)[r]).length := by omega
  have hj' : j < (othD n rs (usD n rs)[r]).length := by omega
  have h1 := congrArg (fun l : List (List Int) => (l.getD i []).getD j 0) hmu
  have e1 : (((List.range' 0 (othD n rs (usD n rs)[r]).length).map fun i => (List.range' 0 (othD n rs (usD n rs)[r]).length).map (MU (Uuse (othD n rs (usD n rs)[r]) (usD n rs)[r] rs) i)).getD i []).getD j 0 = MU (Uuse (othD n rs (usD n rs)[r]) (usD n rs)[r] rs) i j := by
    rw [List.getD_eq_getElem?_getD, List.getD_eq_getElem?_getD (l := List.map _ _) (i := i), List.getElem?_map, List.getElem?_range' hi']
    show (((List.range' 0 (othD n rs (usD n rs)[r]).length).map (MU (Uuse (othD n rs (usD n rs)[r]) (usD n rs)[r] rs) (0 + 1 * i)))[j]?).getD 0 = _
    rw [List.getElem?_map, List.getElem?_range' hj']
    show MU _ (0 + 1 * i) (0 + 1 * j) = _
    rw [show 0 + 1 * i = i by omega, show 0 + 1 * j = j by omega]
  have e2 : (((othD n rs (usD n rs)[r]).map fun q => rowD (othD n rs (usD n rs)[r]) (usD n rs)[r] rs q).getD i []).getD j 0 = if (othD n rs (usD n rs)[r]).getD j 0 = (othD n rs (usD n rs)[r]).getD i 0 then (((usefulD (othD n rs (usD n rs)[r]) (usD n rs)[r] rs ((othD n rs (usD n rs)[r]).getD i 0)).length : Nat) : Int) else -(((usefulD (othD n rs (usD n rs)[r]) (usD n rs)[r] rs ((othD n rs (usD n rs)[r]).getD i 0)).count ((othD n rs (usD n rs)[r]).getD j 0) : Nat) : Int) := by
    rw [List.getD_eq_getElem?_getD, List.getD_eq_getElem?_getD (l := List.map _ _) (i := i), List.getElem?_map, List.getElem?_eq_getElem hi']
    show ((rowD _ _ rs (othD n rs (usD n rs)[r])[i])[j]?).getD 0 = _
    unfold rowD
    rw [List.getElem?_map, List.getElem?_eq_getElem hj', getD_at hi', getD_at hj']
    rfl
  have h2 : MU (Uuse (othD n rs (usD n rs)[r]) (usD n rs)[r] rs) i j = _ := e1.symm.trans (h1.symm.trans e2)
  rw [h2, hat i (by omega), hat j (by omega)]
  have hdi : dl r i < (usD n rs).length := by unfold dl; split <;> omega
  have hdj : dl r j < (usD n rs).length := by unfold dl; split <;> omega
  have huse : ∀ q, usefulD (othD n rs (usD n rs)[r]) (usD n rs)[r] rs q = (goalsD rs q).filter fun g => decide (g ≠ q) := fun q => by
    unfold usefulD
    refine List.filter_congr fun g hg => ?_
    have hgu := goal_us hin ev hg
    by_cases z : g = (usD n rs)[r]
    · simp [z]
    · have : g ∈ othD n rs (usD n rs)[r] := by
        rw [oth_us]
        exact List.mem_filter.mpr ⟨hgu, decide_eq_true z⟩
      simp [this]
  rw [huse]
  unfold LapM
  by_cases q : dl r i = dl r j
  · rw [q, if_pos rfl, if_pos rfl, ← List.countP_eq_length_filter]
  · have hne : (usD n rs).getD (dl r j) 0 ≠ (usD n rs).getD (dl r i) 0 := fun z => q (by
      rw [getD_at hdi, getD_at hdj] at z
      exact ((List.getElem_inj us_nodup (h₀ := hdj) (h₁ := hdi)).mp z).symm)
    rw [if_neg hne, if_neg q]
    congr 2
    rw [List.count_eq_countP, List.countP_filter]
    refine List.countP_congr fun g _ => ?_
    rw [Bool.and_eq_true, decide_eq_true_eq, decide_eq_true_eq, beq_iff_eq]
    constructor
    · rintro ⟨z, _⟩; exact z
    · intro z
      exact ⟨z, by rw [z]; exact hne⟩
/-- as many trees lead to each place -/
theorem trees_same (hin : InNet n rs) (ev : Even n rs) {p q : Int} (hp : p ∈ usD n rs) (hq : q ∈ usD n rs) : treesD n rs p = treesD n rs q := by
  obtain ⟨a, ha, rfl⟩ := List.mem_iff_getElem.mp hp
  obtain ⟨b, hb, rfl⟩ := List.mem_iff_getElem.mp hq
  rw [trees_minor hin ev ha, trees_minor hin ev hb]
  have e : (usD n rs).length - 1 + 1 = (usD n rs).length := by omega
  have hr : ∀ i, i < (usD n rs).length - 1 + 1 → Sm ((usD n rs).length - 1 + 1) (LapM n rs i) = 0 := fun i hi => by rw [e] at hi ⊢; exact Lap_row hin ev hi
  have hc : ∀ j, j < (usD n rs).length - 1 + 1 → Sm ((usD n rs).length - 1 + 1) (fun i => LapM n rs i j) = 0 := fun j hj => by rw [e] at hj ⊢; exact Lap_col hin ev hj
  rw [← minors_same hr hc a (by omega), ← minors_same hr hc b (by omega)]
/-! there is one -/
theorem rank_pos : ∀ (m : Nat) {U : Nat → List Tg} {e : Nat → Nat}, (∀ i, i < m → ∃ x ∈ U i, x = none ∨ ∃ j, j < m ∧ x = some j ∧ e j < e i) → Pos m U
  | 0, _, _, _ => trivial
  | m + 1, U, e, h => by
    obtain ⟨x, hx, hc⟩ := h m (by omega)
    refine ⟨x, hx, ?_, rank_pos m (e := e) fun i hi => ?_⟩
    · rcases hc with z | ⟨j, hj, z, r⟩
      · rw [z]; rfl
      · rw [z]
        refine decide_eq_true ?_
        have : j ≠ m := fun q => by subst q; omega
        omega
    · obtain ⟨y, hy, hd⟩ := h i (by omega)
      refine ⟨rd1 m x y, List.mem_map.mpr ⟨y, hy, rfl⟩, ?_⟩
      rcases hd with z | ⟨j, hj, z, r⟩
      · rw [z]; exact .inl (rd1_ne (by simp))
      · by_cases q : j = m
        · subst q
          rw [z, rd1_n]
          rcases hc with z' | ⟨l, hl, z', r'⟩
          · exact .inl z'
          · exact .inr ⟨l, by
              have : l ≠ j := fun q => by subst q; omega
              omega, z', by omega⟩
        · rw [z]
          exact .inr ⟨j, by omega, rd1_ne (by simp; exact q), r⟩
/-- the last one that is so -/
theorem last_at {α : Type} {p : α → Bool} : ∀ {l : List α}, (∃ x ∈ l, p x = true) → ∃ (k : Nat) (x : α), l[k]? = some x ∧ p x = true ∧ ∀ (k' : Nat) (y : α), k < k' → l[k']? = some y → p y = false
  | [], ⟨x, hx, _⟩ => absurd hx (by simp)
  | a :: l, h => by
    by_cases hl : ∃ x ∈ l, p x = true
    · obtain ⟨k, x, h1, h2, h3⟩ := last_at hl
      refine ⟨k + 1, x, h1, h2, fun k' y hk hy => ?_⟩
      cases k' with
      | zero => omega
      | succ k' => exact h3 k' y (by omega) hy
    · refine ⟨0, a, rfl, ?_, fun k' y hk hy => ?_⟩
      · obtain ⟨x, hx, hp⟩ := h
        rcases List.mem_cons.mp hx with e | e
        · rw [← e]; exact hp
        · exact absurd ⟨x, e, hp⟩ hl
      · cases k' with
        | zero => omega
        | succ k' =>
          have hm : y ∈ l := List.mem_of_getElem? hy
          cases z : p y with
          | false => rfl
          | true => exact absurd ⟨y, hm, z⟩ hl
theorem trees_pos (hin : InNet n rs) {cs : List Int} {c0 : Int} (h : IsR rs cs) (h0 : cs[0]? = some c0) : treesD n rs (sp rs c0) ≠ 0 := by
  unfold treesD
  refine (cnt_pos _ _).mpr ?_
  -- the last place in the round
  have ex : ∀ q : Int, q ∈ usD n rs → ∃ (k : Nat) (x : Int), cs[k]? = some x ∧ decide (sp rs x = q) = true ∧ ∀ (k' : Nat) (y : Int), k < k' → cs[k']? = some y → decide (sp rs y = q) = false := fun q hq => by
    refine last_at ?_
    have := (us_mem.mp hq).2
    obtain ⟨r, hr⟩ := List.exists_mem_of_ne_nil _ this
    have hm := mem_outs.mp hr
    exact ⟨r, h.1.mem_iff.mpr (mem_rng.mpr hm.1), decide_eq_true hm.2⟩
  let K : Int → Nat := fun q => if hq : q ∈ usD n rs then Classical.choose (ex q hq) else 0
  have hK : ∀ q, q ∈ usD n rs → ∃ x : Int, cs[K q]? = some x ∧ sp rs x = q ∧ ∀ (k' : Nat) (y : Int), K q < k' → cs[k']? = some y → sp rs y ≠ q := fun q hq => by
    have e : K q = Classical.choose (ex q hq) := dif_pos hq
    obtain ⟨x, a, b, c⟩ := Classical.choose_spec (ex q hq)
    rw [← e] at a c
    exact ⟨x, a, of_decide_eq_true b, fun k' y hk hy => of_decide_eq_false (c k' y hk hy)⟩
  refine rank_pos _ (e := fun i => cs.length - K ((othD n rs (sp rs c0)).getD i 0)) fun i hi => ?_
  have hoi := List.getElem_mem hi
  have hou : (othD n rs (sp rs c0))[i] ∈ usD n rs := us_mem.mpr ⟨(oth_mem.mp hoi).1, (oth_mem.mp hoi).2.2⟩
  obtain ⟨x, hx1, hx2, hx3⟩ := hK _ hou
  have hxr := h.mem (List.mem_of_getElem? hx1)
  have hxm : x ∈ outsD rs (othD n rs (sp rs c0))[i] := mem_outs.mpr ⟨hxr, hx2⟩
  refine ⟨io (othD n rs (sp rs c0)) (sp rs c0) (en rs x), ?_, ?_⟩
  · unfold Uall goalsD
    rw [getD_at hi]
    exact List.mem_map.mpr ⟨en rs x, List.mem_map.mpr ⟨x, hxm, rfl⟩, rfl⟩
  · have hkl : K (othD n rs (sp rs c0))[i] < cs.length := (List.getElem?_eq_some_iff.mp hx1).1
    by_cases hz : en rs x = sp rs c0
    · left
      unfold io
      rw [if_pos hz]
    · right
      have hlast : K (othD n rs (sp rs c0))[i] + 1 < cs.length := by
        by_cases q : K (othD n rs (sp rs c0))[i] + 1 < cs.length
        · exact q
        · exfalso
          apply hz
          have : K (othD n rs (sp rs c0))[i] = cs.length - 1 := by omega
          rw [this] at hx1
          exact h.close h0 hx1
      have hy := List.getElem?_eq_getElem hlast
      have hstep := h.step hx1 hy
      have hyr := h.mem (List.mem_of_getElem? hy)
      have hgu : en rs x ∈ usD n rs := by rw [hstep]; exact start_us hin hyr.1 hyr.2
      have hgo : en rs x ∈ othD n rs (sp rs c0) := by
        rw [oth_us]
        exact List.mem_filter.mpr ⟨hgu, decide_eq_true hz⟩
      obtain ⟨j, hj, hji⟩ := List.mem_iff_getElem.mp hgo
      refine ⟨j, hj, ?_, ?_⟩
      · unfold io
        rw [if_neg hz, ← hji, idxAt oth_nodup hj]
      · rw [getD_at hj, getD_at hi, hji]
        obtain ⟨y, hy1, hy2, hy3⟩ := hK _ hgu
        have hkl2 : K (en rs x) < cs.length := (List.getElem?_eq_some_iff.mp hy1).1
        have : K (othD n rs (sp rs c0))[i] + 1 ≤ K (en rs x) := by
          by_cases q : K (othD n rs (sp rs c0))[i] + 1 ≤ K (en rs x)
          · exact q
          · exact absurd hstep.symm (hy3 _ _ (by omega) hy)
        omega
/-- a round's net is in one part -/
theorem parts_of_round (hin : InNet n rs) {cs : List Int} (h : IsR rs cs) : (partsD n rs).length ≤ 1 := by
  by_cases q : (partsD n rs).length ≤ 1
  · exact q
  · exfalso
    have hl0 : 0 < (partsD n rs).length := by omega
    have hl1 : 1 < (partsD n rs).length := by omega
    obtain ⟨f0, e0, ne0, g0⟩ := parts_at (List.getElem?_eq_getElem hl0)
    obtain ⟨f1, e1, ne1, g1⟩ := parts_at (List.getElem?_eq_getElem hl1)
    have nd : ((rng n).filter fun f => decide ((0 : Int) < ((grp (names n rs) rs n f).length : Nat))).Nodup := by
      refine List.Pairwise.filter _ ?_
      unfold rng
      exact List.pairwise_map.mpr (List.nodup_range.imp fun h z => h (by omega))
    have hf : f0 ≠ f1 := by
      intro z
      obtain ⟨l0, g0'⟩ := List.getElem?_eq_some_iff.mp g0
      obtain ⟨l1, g1'⟩ := List.getElem?_eq_some_iff.mp g1
      have := (List.getElem_inj nd (h₀ := l0) (h₁ := l1)).mp (by rw [g0', g1', z])
      omega
    -- all along the round the name is the same
    have same : ∀ (k : Nat) (x y : Int), cs[0]? = some y → cs[k]? = some x → nm (names n rs) (sp rs x) = nm (names n rs) (sp rs y) := fun k => by
      induction k with
      | zero =>
        intro x y h1 h2
        rw [h1] at h2
        cases h2
        rfl
      | succ k ih =>
        intro x y h1 h2
        have hk : k < cs.length := by have := (List.getElem?_eq_some_iff.mp h2).1; omega
        have hz := List.getElem?_eq_getElem hk
        have hm := h.mem (List.mem_of_getElem? hz)
        rw [← h.step hz h2, ← ih _ y h1 hz]
        exact (names_join hin (road_mem (rs := rs) hm.1 hm.2)).symm
    have look : ∀ {f p : Int}, p ∈ grp (names n rs) rs n f → ∃ x, x ∈ cs ∧ nm (names n rs) (sp rs x) = f := fun {f p} hp => by
      have := grp_mem.mp hp
      obtain ⟨r, hr, e⟩ := used_road.mp this.2.2
      have hj := names_join hin (road_mem (rs := rs) hr.1 hr.2)
      refine ⟨r, h.1.mem_iff.mpr (mem_rng.mpr hr), ?_⟩
      rcases e with e | e
      · rw [e]; exact this.2.1
      · rw [show nm (names n rs) (sp rs r) = nm (names n rs) (en rs r) from hj, e]; exact this.2.1
    rw [e0] at ne0
    rw [e1] at ne1
    obtain ⟨a, ha⟩ := List.exists_mem_of_ne_nil _ ne0
    obtain ⟨b, hb⟩ := List.exists_mem_of_ne_nil _ ne1
    obtain ⟨x, hx, ex⟩ := look ha
    obtain ⟨y, hy, ey⟩ := look hb
    obtain ⟨i, hi, rfl⟩ := List.mem_iff_getElem.mp hx
    obtain ⟨j, hj, rfl⟩ := List.mem_iff_getElem.mp hy
    have h0 : cs[0]? = some (cs[0]'(by omega)) := List.getElem?_eq_getElem (by omega)
    have s1 := same i _ _ h0 (List.getElem?_eq_getElem hi)
    have s2 := same j _ _ h0 (List.getElem?_eq_getElem hj)
    exact hf (by rw [← ex, ← ey, s1, s2])
end L2

set_option Elab.async false
set_option linter.all false
set_option maxRecDepth 100000
set_option maxHeartbeats 4000000
/-! Own rules, part 86: promises for k21. -/
namespace L2
open PySem PySem.Spec PyProof.Rows
/-- a ring of n places, m roads from each to the next -/
def ringR (n m : Nat) : List (Int × Int) := (rng (n * m)).map fun k => (k % (n : Int), (k + 1) % (n : Int))
def ringC (p : Nat × Nat) : Bool := decide (treesD p.1 (ringR p.1 p.2) 0 = ((p.2 ^ (p.1 - 1) : Nat) : Int))
def ringsAll : List (Nat × Nat) := (List.range' 1 8).flatMap fun n => (List.range' 1 3).map fun m => (n, m)
theorem rings_ok : ringsAll.all ringC = true := by decide +kernel
theorem ring_trees {n m : Nat} (hn : 1 ≤ n ∧ n ≤ 8) (hm : 1 ≤ m ∧ m ≤ 3) : treesD n (ringR n m) 0 = ((m ^ (n - 1) : Nat) : Int) := by
  have := List.all_eq_true.mp rings_ok (n, m) (List.mem_flatMap.mpr ⟨n, List.mem_range'_1.mpr (by omega), List.mem_map.mpr ⟨m, List.mem_range'_1.mpr (by omega), rfl⟩⟩)
  exact of_decide_eq_true this
theorem ring_len {n m : Nat} : (ringR n m).length = n * m := by unfold ringR; rw [List.length_map, rng_len]
theorem ring_get {n m : Nat} {r : Int} (h0 : 0 ≤ r) (h1 : r < (n * m : Nat)) : sp (ringR n m) r = r % (n : Int) ∧ en (ringR n m) r = (r + 1) % (n : Int) := by
  have g : (ringR n m)[r.toNat]? = some (r % (n : Int), (r + 1) % (n : Int)) := by
    unfold ringR
    rw [List.getElem?_map, rng_get (by omega)]
    show some ((((r.toNat : Nat) : Int)) % (n : Int), _) = _
    rw [show ((r.toNat : Nat) : Int) = r by omega]
  unfold sp en
  rw [List.getD_eq_getElem?_getD, g]
  exact ⟨rfl, rfl⟩
theorem ring_in {n m : Nat} (hn : 1 ≤ n) : InNet (n : Int) (ringR n m) := fun e he => by
  unfold ringR at he
  obtain ⟨k, _, rfl⟩ := List.mem_map.mp he
  exact ⟨⟨Int.emod_nonneg _ (by omega), Int.emod_lt_of_pos _ (by omega)⟩, Int.emod_nonneg _ (by omega), Int.emod_lt_of_pos _ (by omega)⟩
theorem ring_round {n m : Nat} (hn : 1 ≤ n) : IsR (ringR n m) (rng (n * m)) := by
  refine IsR.of_cyc (by rw [ring_len]) fun i x y hx hy => ?_
  have hi := (List.getElem?_eq_some_iff.mp hx).1
  rw [rng_len] at hi hy
  have hj : (i + 1) % (n * m) < n * m := Nat.mod_lt _ (by omega)
  rw [rng_get hi] at hx
  rw [rng_get hj] at hy
  cases hx; cases hy
  rw [(ring_get (by omega) (by omega)).2, (ring_get (by omega) (by omega)).1]
  have e1 : ((i : Int) + 1) % (n : Int) = (((i + 1) % n : Nat) : Int) := by
    rw [show (i : Int) + 1 = ((i + 1 : Nat) : Int) by omega]
    exact (Int.natCast_emod (i + 1) n).symm
  have e2 : (((i + 1) % (n * m) : Nat) : Int) % (n : Int) = ((((i + 1) % (n * m)) % n : Nat) : Int) := (Int.natCast_emod _ n).symm
  rw [e1, e2, Nat.mod_mod_of_dvd _ (Nat.dvd_mul_right n m)]
/-! how many rounds -/
def facI (d : Nat) : Int := PrI (d - 1) fun i => ((i + 1 : Nat) : Int)
def prodsD (n : Nat) (rs : List (Int × Int)) : Int := PrI n fun p => facI (outsD rs (p : Int)).length
def hasR (n : Nat) (rs : List (Int × Int)) : Bool := (oddD n rs).isEmpty && decide ((partsD n rs).length ≤ 1)
def rcD (n : Nat) (rs : List (Int × Int)) : Int := if hasR n rs = true then (if rs = [] then 1 else treesD n rs (sp rs 0) * prodsD n rs) else 0
theorem hasR_round {n : Nat} {rs : List (Int × Int)} {cs : List Int} (hin : InNet n rs) (h : IsR rs cs) : hasR n rs = true := by
  unfold hasR
  rw [h.odd n, decide_eq_true (parts_of_round hin h)]
  rfl
theorem hasR_not {n : Nat} {rs : List (Int × Int)} (h : 0 < (oddD n rs).length ∨ 1 < (partsD n rs).length) : hasR n rs = false := by
  unfold hasR
  rcases h with h | h
  · cases q : oddD n rs with
    | nil => rw [q] at h; cases h
    | cons _ _ => rfl
  · rw [decide_eq_false (by omega), Bool.and_false]
def wsome : List (Nat × Nat × Int) := [(2, 2, 1), (2, 3, 2), (2, 4, 16), (3, 2, 24), (4, 2, 20736), (1, 1, 1), (2, 1, 1)]
theorem wcounts : (wsome.all fun p => decide (treesD (p.1 ^ (p.2.1 - 1)) (wn p.1 p.2.1) (sp (wn p.1 p.2.1) 0) * prodsD (p.1 ^ (p.2.1 - 1)) (wn p.1 p.2.1) = p.2.2)) = true := by decide +kernel
section
variable {c : Ct}
def p_hasr : List (Ent c) → (Bool → Prop) → Prop := fun es R => ∃ N : NetD, es = [.sh N] ∧ (1 ≤ N.n ∧ N.n ≤ 8) ∧ InNet N.n N.rs ∧ N.rs.length ≤ 24 ∧ R (hasR N.n.toNat N.rs)
def p_rcount : List (Ent c) → (Int → Prop) → Prop := fun es R => ∃ N : NetD, es = [.sh N] ∧ (1 ≤ N.n ∧ N.n ≤ 8) ∧ InNet N.n N.rs ∧ N.rs.length ≤ 24 ∧ R (rcD N.n.toNat N.rs)
def p_prods : List (Ent c) → (Int → Prop) → Prop := fun es R => ∃ (n : Int) (rs : List (Int × Int)), es = [.sh n, .sh rs] ∧ (1 ≤ n ∧ n ≤ 8) ∧ rs.length ≤ 24 ∧ R (prodsD n.toNat rs)
def p_ringby : List (Ent c) → (T3 Int (List (Int × Int)) Int → Prop) → Prop := fun es R => ∃ ns : List Int, es = [.sh (⟨ns⟩ : Sc)] ∧ ∀ n m : Nat, (1 ≤ n ∧ n ≤ 8) → (1 ≤ m ∧ m ≤ 3) → R ⟨(n : Int), ringR n m, ((m ^ (n - 1) : Nat) : Int)⟩
def p_windows : List (Ent c) → (Bool → Prop) → Prop := fun es R => ∃ ns : List Int, es = [.sh (⟨ns⟩ : Sc)] ∧ R true
end
end L2

set_option Elab.async false
set_option linter.all false
set_option maxRecDepth 100000
set_option maxHeartbeats 4000000
/-! Own rules, part 87: written triples. -/
namespace L2
open PySem PySem.Spec PyProof.Rows
/-- a written triple of numbers in a list -/
theorem pa_triple {X : Cx} {es : List Expr} {t : TA} {a b d : Int} {i j l k} {p1 p2 p3 p : PySem.Pos} (h : PA X es t) : PA X (.Tuple [.Constant (.int a) i p1, .Constant (.int b) j p2, .Constant (.int d) l p3] k p :: es) (tCons (tTup (tCons (tC (.int a)) (tCons (tC (.int b)) (tCons (tC (.int d)) tNil)))) t) :=
  pa_cons (pe_tup (pa_cons pe_int (pa_cons pe_int (pa_cons pe_int pa_nil)))) h
section
variable {c : Ct} {env : List (Ent c)} {m : Md}
instance {α β γ : Type} [Rp c α] [Rp c β] [Rp c γ] [Flat c α] [Flat c β] [Flat c γ] : Flat c (T3 α β γ) := ⟨fun h => by
  obtain ⟨p, v1, v2, v3, a1, a2, a3, _, _, t1, t2, t3, e⟩ := h
  rw [e, Flat.flat t1, Flat.flat t2, Flat.flat t3]
  rfl⟩
theorem we_tripI {a b d : Int} {R : T3 Int Int Int → Prop} (q : R ⟨a, b, d⟩) : WE m env (tTup (tCons (tC (.int a)) (tCons (tC (.int b)) (tCons (tC (.int d)) tNil)))) R := fun _ _ _ _ H S Q k =>
  ⟨by show 3 ≤ sizeLine; decide, fun p hp => k ⟨a, b, d⟩ _ _ [] q (Same.new hp) ⟨p, _, _, _, [], [], [], rfl, upd_same, ⟨rfl, rfl⟩, ⟨rfl, rfl⟩, ⟨rfl, rfl⟩, rfl⟩ Md.nil⟩
end
/-- trees are not very many -/
theorem trees_le {n : Nat} {rs : List (Int × Int)} {p0 : Int} (hp : 0 ≤ p0 ∧ p0 < n) (hn : n ≤ 8) (hl : rs.length ≤ 24) : 0 ≤ treesD n rs p0 ∧ treesD n rs p0 < 2 ^ 64 := by
  unfold treesD
  refine ⟨cntU_nonneg _ _, ?_⟩
  have h1 := cnt_le (othD n rs p0).length (U := Uall (othD n rs p0) p0 rs) (b := 24) fun i hi => by
    unfold Uall goalsD
    rw [List.length_map, List.length_map]
    exact Nat.le_trans outs_le hl
  have h2 := oth_len (n := n) (rs := rs) (p0 := p0)
  have h3 : (24 : Nat) ^ (othD n rs p0).length ≤ 24 ^ 8 := Nat.pow_le_pow_right (by decide) (by omega)
  have h4 : (24 : Nat) ^ 8 = 110075314176 := by decide
  omega
end L2

set_option Elab.async false
set_option linter.all false
set_option maxRecDepth 100000
set_option maxHeartbeats 4000000
/-! Own rules, part 90: what find's word alone asks of the walks (k21). -/
namespace L2
open PySem PySem.Spec PyProof.Rows
section
variable {c : Ct}
def p_bendsW : List (Ent c) → List (List Int) → List (Ent c) → (List Int → List (List Int) → Prop) → Prop := fun es w es2 R => ∃ (N : NetD) (path : List Int), es = [.sh N, .sh path] ∧ es2 = [] ∧ (1 ≤ N.n ∧ N.n ≤ 8) ∧ InNet N.n N.rs ∧ N.rs.length ≤ 24 ∧
  path ≠ [] ∧ (∀ r ∈ path, 0 ≤ r ∧ r < N.rs.length) ∧ path.length + w.flatten.length ≤ 24 ∧ Wo N.rs N.n w ∧ ∀ whole w', R whole w'
def p_wroundW : List (Ent c) → (List Int → Prop) → Prop := fun es R => ∃ N : NetD, es = [.sh N] ∧ (1 ≤ N.n ∧ N.n ≤ 8) ∧ InNet N.n N.rs ∧ N.rs.length ≤ 24 ∧ N.rs ≠ [] ∧ ∀ cs, R cs
def FindW (n : Nat) (rs : List (Int × Int)) (x : Fd) : Prop := decide (x.1 = ("round" : Str)) = hasR n rs
def p_findW : List (Ent c) → (Fd → Prop) → Prop := fun es R => ∃ N : NetD, es = [.sh N] ∧ (1 ≤ N.n ∧ N.n ≤ 8) ∧ InNet N.n N.rs ∧ N.rs.length ≤ 24 ∧ ∀ x, FindW N.n.toNat N.rs x → R x
end
section
variable {n : Nat} {rs : List (Int × Int)}
theorem findW_odd {a : Int} {l : List Int} {y : Int ⊕ List Int} (e : oddD n rs = a :: l) : FindW n rs (("odd" : Str), y) := by
  unfold FindW hasR
  rw [e]
  rfl
theorem findW_apart {y : Int ⊕ List Int} (h : 1 < (partsD n rs).length) : FindW n rs (("apart" : Str), y) := by
  unfold FindW hasR
  rw [decide_eq_false (Nat.not_le_of_lt h), Bool.and_false]
  rfl
theorem findW_round {y : Int ⊕ List Int} (e : oddD n rs = []) (h : (partsD n rs).length ≤ 1) : FindW n rs (("round" : Str), y) := by
  unfold FindW hasR
  rw [e, decide_eq_true h]
  rfl
end
end L2

set_option Elab.async false
set_option linter.all false
set_option maxRecDepth 100000
set_option maxHeartbeats 4000000
namespace Mine
set_option genInjectivity false
set_option genSizeOfSpec false
set_option genSizeOf false
open PySem L2

def top (i : Nat) : Stmt := PySem.Challenge.pw_everyroad_k21_whole_counts_of_many.main.body.getD i (.Pass ⟨0, 0, 0, 0⟩)
abbrev s_Net_init : Stmt := inClass (top 8) 0
abbrev s_Net_need_place : Stmt := inClass (top 8) 1
abbrev s_Net_lay : Stmt := inClass (top 8) 2
abbrev s_Net_outs : Stmt := inClass (top 8) 3
abbrev s_Net_ins : Stmt := inClass (top 8) 4
abbrev s_least_joined : Stmt := top 9
abbrev s_parts : Stmt := top 10
abbrev s_odd_places : Stmt := top 16
abbrev s_waiting_roads : Stmt := top 12
abbrev s_walk_on : Stmt := top 13
abbrev s_with_bends : Stmt := top 14
abbrev s_walk_round : Stmt := top 17
abbrev s_find : Stmt := top 18
abbrev s_cleared : Stmt := top 20
abbrev s_determinant : Stmt := top 21
abbrev s_tree_row : Stmt := top 22
abbrev s_trees : Stmt := top 23
abbrev s_has_round : Stmt := top 24
abbrev s_round_count : Stmt := top 25
abbrev s_window_count : Stmt := top 27
abbrev s_window_net : Stmt := top 28
abbrev s_q_drawn : Stmt := top 30
abbrev s_q_whole : Stmt := top 31
abbrev s_q_laid : Stmt := top 34
abbrev s_q_stands : Stmt := top 35
abbrev s_q_closed_by : Stmt := top 36
abbrev s_q_net_by : Stmt := top 37
abbrev s_q_odd : Stmt := top 38
abbrev s_q_parts : Stmt := top 39
abbrev s_q_products : Stmt := top 40
abbrev s_q_ring_by : Stmt := top 41
abbrev s_q_windows : Stmt := top 42
abbrev s_law : Stmt := top 43
/-- where things stand behind the top -/
structure Adr where
  c_Net : Addr
  a_Net_init : Addr
  d_Net_init : FuncData
  a_Net_need_place : Addr
  d_Net_need_place : FuncData
  a_Net_lay : Addr
  d_Net_lay : FuncData
  a_Net_outs : Addr
  d_Net_outs : FuncData
  a_Net_ins : Addr
  d_Net_ins : FuncData
  a_least_joined : Addr
  d_least_joined : FuncData
  a_parts : Addr
  d_parts : FuncData
  a_odd_places : Addr
  d_odd_places : FuncData
  a_waiting_roads : Addr
  d_waiting_roads : FuncData
  a_walk_on : Addr
  d_walk_on : FuncData
  a_with_bends : Addr
  d_with_bends : FuncData
  a_walk_round : Addr
  d_walk_round : FuncData
  a_find : Addr
  d_find : FuncData
  a_cleared : Addr
  d_cleared : FuncData
  a_determinant : Addr
  d_determinant : FuncData
  a_tree_row : Addr
  d_tree_row : FuncData
  a_trees : Addr
  d_trees : FuncData
  a_has_round : Addr
  d_has_round : FuncData
  a_round_count : Addr
  d_round_count : FuncData
  a_window_count : Addr
  d_window_count : FuncData
  a_window_net : Addr
  d_window_net : FuncData
  a_q_drawn : Addr
  d_q_drawn : FuncData
  a_q_whole : Addr
  d_q_whole : FuncData
  a_q_laid : Addr
  d_q_laid : FuncData
  a_q_stands : Addr
  d_q_stands : FuncData
  a_q_closed_by : Addr
  d_q_closed_by : FuncData
  a_q_net_by : Addr
  d_q_net_by : FuncData
  a_q_odd : Addr
  d_q_odd : FuncData
  a_q_parts : Addr
  d_q_parts : FuncData
  a_q_products : Addr
  d_q_products : FuncData
  a_q_ring_by : Addr
  d_q_ring_by : FuncData
  a_q_windows : Addr
  d_q_windows : FuncData
  a_law : Addr
  d_law : FuncData
structure Tx (K : PySem.W.Frag) (mg : Str → Option Value) (t : Adr) : Prop where
  c_Net : Cls K t.c_Net
  m_Net : mg "Net" = some (.ref t.c_Net)
  k_Net : Mk K t.c_Net t.a_Net_init
  n_Net_size : NoAttr K t.c_Net "size"
  n_Net_roads : NoAttr K t.c_Net "roads"
  F_Net_init : Fun K "__init__" "Net.__init__" s_Net_init t.a_Net_init t.d_Net_init
  b_Net_init : Binds K t.d_Net_init ["self", "size"] []
  F_Net_need_place : Fun K "need_place" "Net.need_place" s_Net_need_place t.a_Net_need_place t.d_Net_need_place
  b_Net_need_place : Binds K t.d_Net_need_place ["self", "place"] []
  t_Net_need_place : Meth K t.c_Net "need_place" t.a_Net_need_place
  F_Net_lay : Fun K "lay" "Net.lay" s_Net_lay t.a_Net_lay t.d_Net_lay
  b_Net_lay : Binds K t.d_Net_lay ["self", "start", "goal"] []
  t_Net_lay : Meth K t.c_Net "lay" t.a_Net_lay
  F_Net_outs : Fun K "outs" "Net.outs" s_Net_outs t.a_Net_outs t.d_Net_outs
  b_Net_outs : Binds K t.d_Net_outs ["self", "place"] []
  t_Net_outs : Meth K t.c_Net "outs" t.a_Net_outs
  F_Net_ins : Fun K "ins" "Net.ins" s_Net_ins t.a_Net_ins t.d_Net_ins
  b_Net_ins : Binds K t.d_Net_ins ["self", "place"] []
  t_Net_ins : Meth K t.c_Net "ins" t.a_Net_ins
  F_least_joined : Fun K "least_joined" "least_joined" s_least_joined t.a_least_joined t.d_least_joined
  b_least_joined : Binds K t.d_least_joined ["net"] []
  m_least_joined : mg "least_joined" = some (.ref t.a_least_joined)
  F_parts : Fun K "parts" "parts" s_parts t.a_parts t.d_parts
  b_parts : Binds K t.d_parts ["net"] []
  m_parts : mg "parts" = some (.ref t.a_parts)
  F_odd_places : Fun K "odd_places" "odd_places" s_odd_places t.a_odd_places t.d_odd_places
  b_odd_places : Binds K t.d_odd_places ["net"] []
  m_odd_places : mg "odd_places" = some (.ref t.a_odd_places)
  F_waiting_roads : Fun K "waiting_roads" "waiting_roads" s_waiting_roads t.a_waiting_roads t.d_waiting_roads
  b_waiting_roads : Binds K t.d_waiting_roads ["net"] []
  m_waiting_roads : mg "waiting_roads" = some (.ref t.a_waiting_roads)
  F_walk_on : Fun K "walk_on" "walk_on" s_walk_on t.a_walk_on t.d_walk_on
  b_walk_on : Binds K t.d_walk_on ["net", "start", "waiting"] []
  m_walk_on : mg "walk_on" = some (.ref t.a_walk_on)
  F_with_bends : Fun K "with_bends" "with_bends" s_with_bends t.a_with_bends t.d_with_bends
  b_with_bends : Binds K t.d_with_bends ["net", "path", "waiting"] []
  m_with_bends : mg "with_bends" = some (.ref t.a_with_bends)
  F_walk_round : Fun K "walk_round" "walk_round" s_walk_round t.a_walk_round t.d_walk_round
  b_walk_round : Binds K t.d_walk_round ["net"] []
  m_walk_round : mg "walk_round" = some (.ref t.a_walk_round)
  F_find : Fun K "find" "find" s_find t.a_find t.d_find
  b_find : Binds K t.d_find ["net"] []
  m_find : mg "find" = some (.ref t.a_find)
  F_cleared : Fun K "cleared" "cleared" s_cleared t.a_cleared t.d_cleared
  b_cleared : Binds K t.d_cleared ["row", "top", "last"] []
  m_cleared : mg "cleared" = some (.ref t.a_cleared)
  F_determinant : Fun K "determinant" "determinant" s_determinant t.a_determinant t.d_determinant
  b_determinant : Binds K t.d_determinant ["matrix"] []
  m_determinant : mg "determinant" = some (.ref t.a_determinant)
  F_tree_row : Fun K "tree_row" "tree_row" s_tree_row t.a_tree_row t.d_tree_row
  b_tree_row : Binds K t.d_tree_row ["net", "place", "others", "one"] []
  m_tree_row : mg "tree_row" = some (.ref t.a_tree_row)
  F_trees : Fun K "trees" "trees" s_trees t.a_trees t.d_trees
  b_trees : Binds K t.d_trees ["net", "place"] []
  m_trees : mg "trees" = some (.ref t.a_trees)
  F_has_round : Fun K "has_round" "has_round" s_has_round t.a_has_round t.d_has_round
  b_has_round : Binds K t.d_has_round ["net"] []
  m_has_round : mg "has_round" = some (.ref t.a_has_round)
  F_round_count : Fun K "round_count" "round_count" s_round_count t.a_round_count t.d_round_count
  b_round_count : Binds K t.d_round_count ["net"] []
  m_round_count : mg "round_count" = some (.ref t.a_round_count)
  F_window_count : Fun K "window_count" "window_count" s_window_count t.a_window_count t.d_window_count
  b_window_count : Binds K t.d_window_count ["signs", "length"] []
  m_window_count : mg "window_count" = some (.ref t.a_window_count)
  F_window_net : Fun K "window_net" "window_net" s_window_net t.a_window_net t.d_window_net
  b_window_net : Binds K t.d_window_net ["signs", "length"] []
  m_window_net : mg "window_net" = some (.ref t.a_window_net)
  F_q_drawn : Fun K "_law_drawn" "_law_drawn" s_q_drawn t.a_q_drawn t.d_q_drawn
  b_q_drawn : Binds K t.d_q_drawn ["script", "k", "many"] []
  m_q_drawn : mg "_law_drawn" = some (.ref t.a_q_drawn)
  F_q_whole : Fun K "_law_whole" "_law_whole" s_q_whole t.a_q_whole t.d_q_whole
  b_q_whole : Binds K t.d_q_whole ["found"] []
  m_q_whole : mg "_law_whole" = some (.ref t.a_q_whole)
  F_q_laid : Fun K "_law_laid" "_law_laid" s_q_laid t.a_q_laid t.d_q_laid
  b_q_laid : Binds K t.d_q_laid ["size", "roads"] []
  m_q_laid : mg "_law_laid" = some (.ref t.a_q_laid)
  F_q_stands : Fun K "_law_stands" "_law_stands" s_q_stands t.a_q_stands t.d_q_stands
  b_q_stands : Binds K t.d_q_stands ["net", "size", "roads"] []
  m_q_stands : mg "_law_stands" = some (.ref t.a_q_stands)
  F_q_closed_by : Fun K "_law_closed_by" "_law_closed_by" s_q_closed_by t.a_q_closed_by t.d_q_closed_by
  b_q_closed_by : Binds K t.d_q_closed_by ["script", "size", "many", "base"] []
  m_q_closed_by : mg "_law_closed_by" = some (.ref t.a_q_closed_by)
  F_q_net_by : Fun K "_law_net_by" "_law_net_by" s_q_net_by t.a_q_net_by t.d_q_net_by
  b_q_net_by : Binds K t.d_q_net_by ["script", "most"] []
  m_q_net_by : mg "_law_net_by" = some (.ref t.a_q_net_by)
  F_q_odd : Fun K "_law_odd" "_law_odd" s_q_odd t.a_q_odd t.d_q_odd
  b_q_odd : Binds K t.d_q_odd ["size", "roads"] []
  m_q_odd : mg "_law_odd" = some (.ref t.a_q_odd)
  F_q_parts : Fun K "_law_parts" "_law_parts" s_q_parts t.a_q_parts t.d_q_parts
  b_q_parts : Binds K t.d_q_parts ["size", "roads"] []
  m_q_parts : mg "_law_parts" = some (.ref t.a_q_parts)
  F_q_products : Fun K "_law_products" "_law_products" s_q_products t.a_q_products t.d_q_products
  b_q_products : Binds K t.d_q_products ["size", "roads"] []
  m_q_products : mg "_law_products" = some (.ref t.a_q_products)
  F_q_ring_by : Fun K "_law_ring_by" "_law_ring_by" s_q_ring_by t.a_q_ring_by t.d_q_ring_by
  b_q_ring_by : Binds K t.d_q_ring_by ["script"] []
  m_q_ring_by : mg "_law_ring_by" = some (.ref t.a_q_ring_by)
  F_q_windows : Fun K "_law_windows" "_law_windows" s_q_windows t.a_q_windows t.d_q_windows
  b_q_windows : Binds K t.d_q_windows ["script"] []
  m_q_windows : mg "_law_windows" = some (.ref t.a_q_windows)
  F_law : Fun K "law" "law" s_law t.a_law t.d_law
  b_law : Binds K t.d_law ["script"] []
  m_law : mg "law" = some (.ref t.a_law)
  z_bool : mg "bool" = none
  z_enumerate : mg "enumerate" = none
  z_int : mg "int" = none
  z_isinstance : mg "isinstance" = none
  z_len : mg "len" = none
  z_list : mg "list" = none
  z_max : mg "max" = none
  z_min : mg "min" = none
  z_range : mg "range" = none
  g_MOST_PLACES : ∃ u, mg "MOST_PLACES" = some (Value.int 8 u)
  g_MOST_ROADS : ∃ u, mg "MOST_ROADS" = some (Value.int 24 u)
theorem sc_Net_init : FnScope ["self", "size"] ["self", "size"] (defScope s_Net_init) := ⟨rfl, rfl, rfl, by decide +kernel, rfl, by decide +kernel, by decide +kernel⟩
theorem sc_Net_need_place : FnScope ["self", "place"] ["self", "place"] (defScope s_Net_need_place) := ⟨rfl, rfl, rfl, by decide +kernel, rfl, by decide +kernel, by decide +kernel⟩
theorem sc_Net_lay : FnScope ["self", "start", "goal"] ["self", "start", "goal"] (defScope s_Net_lay) := ⟨rfl, rfl, rfl, by decide +kernel, rfl, by decide +kernel, by decide +kernel⟩
theorem sc_Net_outs : FnScope ["self", "place"] ["self", "place"] (defScope s_Net_outs) := ⟨rfl, rfl, rfl, by decide +kernel, rfl, by decide +kernel, by decide +kernel⟩
theorem sc_Net_ins : FnScope ["self", "place"] ["self", "place"] (defScope s_Net_ins) := ⟨rfl, rfl, rfl, by decide +kernel, rfl, by decide +kernel, by decide +kernel⟩
theorem sc_least_joined : FnScope ["net", "least", "start", "goal", "low", "high"] ["net"] (defScope s_least_joined) := ⟨rfl, rfl, rfl, by decide +kernel, rfl, by decide +kernel, by decide +kernel⟩
theorem sc_parts : FnScope ["net", "least", "found", "place"] ["net"] (defScope s_parts) := ⟨rfl, rfl, rfl, by decide +kernel, rfl, by decide +kernel, by decide +kernel⟩
theorem sc_odd_places : FnScope ["net"] ["net"] (defScope s_odd_places) := ⟨rfl, rfl, rfl, by decide +kernel, rfl, by decide +kernel, by decide +kernel⟩
theorem sc_waiting_roads : FnScope ["net"] ["net"] (defScope s_waiting_roads) := ⟨rfl, rfl, rfl, by decide +kernel, rfl, by decide +kernel, by decide +kernel⟩
theorem sc_walk_on : FnScope ["net", "start", "waiting", "place", "path", "road"] ["net", "start", "waiting"] (defScope s_walk_on) := ⟨rfl, rfl, rfl, by decide +kernel, rfl, by decide +kernel, by decide +kernel⟩
theorem sc_with_bends : FnScope ["net", "path", "waiting", "whole", "spot", "begin"] ["net", "path", "waiting"] (defScope s_with_bends) := ⟨rfl, rfl, rfl, by decide +kernel, rfl, by decide +kernel, by decide +kernel⟩
theorem sc_walk_round : FnScope ["net", "waiting"] ["net"] (defScope s_walk_round) := ⟨rfl, rfl, rfl, by decide +kernel, rfl, by decide +kernel, by decide +kernel⟩
theorem sc_find : FnScope ["net", "odd", "apart"] ["net"] (defScope s_find) := ⟨rfl, rfl, rfl, by decide +kernel, rfl, by decide +kernel, by decide +kernel⟩
theorem sc_cleared : FnScope ["row", "top", "last"] ["row", "top", "last"] (defScope s_cleared) := ⟨rfl, rfl, rfl, by decide +kernel, rfl, by decide +kernel, by decide +kernel⟩
theorem sc_determinant : FnScope ["matrix", "rows", "last", "top"] ["matrix"] (defScope s_determinant) := ⟨rfl, rfl, rfl, by decide +kernel, rfl, by decide +kernel, by decide +kernel⟩
theorem sc_tree_row : FnScope ["net", "place", "others", "one", "goals", "useful"] ["net", "place", "others", "one"] (defScope s_tree_row) := ⟨rfl, rfl, rfl, by decide +kernel, rfl, by decide +kernel, by decide +kernel⟩
theorem sc_trees : FnScope ["net", "place", "others"] ["net", "place"] (defScope s_trees) := ⟨rfl, rfl, rfl, by decide +kernel, rfl, by decide +kernel, by decide +kernel⟩
theorem sc_has_round : FnScope ["net"] ["net"] (defScope s_has_round) := ⟨rfl, rfl, rfl, by decide +kernel, rfl, by decide +kernel, by decide +kernel⟩
theorem sc_round_count : FnScope ["net", "count", "place", "factor"] ["net"] (defScope s_round_count) := ⟨rfl, rfl, rfl, by decide +kernel, rfl, by decide +kernel, by decide +kernel⟩
theorem sc_window_count : FnScope ["signs", "length", "count", "turn"] ["signs", "length"] (defScope s_window_count) := ⟨rfl, rfl, rfl, by decide +kernel, rfl, by decide +kernel, by decide +kernel⟩
theorem sc_window_net : FnScope ["signs", "length", "count", "places", "net", "window"] ["signs", "length"] (defScope s_window_net) := ⟨rfl, rfl, rfl, by decide +kernel, rfl, by decide +kernel, by decide +kernel⟩
theorem sc_q_drawn : FnScope ["script", "k", "many", "cell", "mixed"] ["script", "k", "many"] (defScope s_q_drawn) := ⟨rfl, rfl, rfl, by decide +kernel, rfl, by decide +kernel, by decide +kernel⟩
theorem sc_q_whole : FnScope ["found"] ["found"] (defScope s_q_whole) := ⟨rfl, rfl, rfl, by decide +kernel, rfl, by decide +kernel, by decide +kernel⟩
theorem sc_q_laid : FnScope ["size", "roads", "net", "road"] ["size", "roads"] (defScope s_q_laid) := ⟨rfl, rfl, rfl, by decide +kernel, rfl, by decide +kernel, by decide +kernel⟩
theorem sc_q_stands : FnScope ["net", "size", "roads"] ["net", "size", "roads"] (defScope s_q_stands) := ⟨rfl, rfl, rfl, by decide +kernel, rfl, by decide +kernel, by decide +kernel⟩
theorem sc_q_closed_by : FnScope ["script", "size", "many", "base", "walk", "numbers", "k", "roads"] ["script", "size", "many", "base"] (defScope s_q_closed_by) := ⟨rfl, rfl, rfl, by decide +kernel, rfl, by decide +kernel, by decide +kernel⟩
theorem sc_q_net_by : FnScope ["script", "most", "size", "many", "roads", "at"] ["script", "most"] (defScope s_q_net_by) := ⟨rfl, rfl, rfl, by decide +kernel, rfl, by decide +kernel, by decide +kernel⟩
theorem sc_q_odd : FnScope ["size", "roads", "starts", "goals"] ["size", "roads"] (defScope s_q_odd) := ⟨rfl, rfl, rfl, by decide +kernel, rfl, by decide +kernel, by decide +kernel⟩
theorem sc_q_parts : FnScope ["size", "roads", "name", "road", "low", "high", "used", "found"] ["size", "roads"] (defScope s_q_parts) := ⟨rfl, rfl, rfl, by decide +kernel, rfl, by decide +kernel, by decide +kernel⟩
theorem sc_q_products : FnScope ["size", "roads", "many", "place", "k"] ["size", "roads"] (defScope s_q_products) := ⟨rfl, rfl, rfl, by decide +kernel, rfl, by decide +kernel, by decide +kernel⟩
theorem sc_q_ring_by : FnScope ["script", "size", "many", "roads", "due", "k"] ["script"] (defScope s_q_ring_by) := ⟨rfl, rfl, rfl, by decide +kernel, rfl, by decide +kernel, by decide +kernel⟩
theorem sc_q_windows : FnScope ["script", "some", "told", "found"] ["script"] (defScope s_q_windows) := ⟨rfl, rfl, rfl, by decide +kernel, rfl, by decide +kernel, by decide +kernel⟩
theorem sc_law : FnScope ["script", "way", "made", "none", "size", "roads", "due", "net", "first", "road", "found"] ["script"] (defScope s_law) := ⟨rfl, rfl, rfl, by decide +kernel, rfl, by decide +kernel, by decide +kernel⟩
theorem iteDn {c A B : Prop} [Decidable c] (h : ¬ c) (b : B) : if decide c = true then A else B := by
  rw [decide_eq_false h]
  exact iteF b
theorem iteDp {c A B : Prop} [Decidable c] (h : c) (a : A) : if decide c = true then A else B := by
  rw [decide_eq_true h]
  exact iteT a
local macro_rules | `(tactic| walk_at "rd") => `(tactic| repeat (first | refine ⟨_, rfl, ?_⟩ | refine ⟨_, _, rfl, rfl, ?_⟩))
section
variable {P : Program} {w : World} {K : PySem.W.Frag} {mg : Str → Option Value} {base : Heap} {t : Adr}
theorem ok_Net_init (T : Tx K mg t) : FnOk P w K mg base CX0 1 t.a_Net_init t.d_Net_init ["self", "size"] (sp_netinit t.c_Net) := by
  refine T.F_Net_init.ok sc_Net_init (fun vs H Q E h => ?_) (fun cdv A outer s H vs Q E hr h => ?_)
  · obtain ⟨p, dx, n, rfl, _⟩ := h
    rfl
  · obtain ⟨p, dx, n, rfl, hp, ⟨h1, h2⟩, k⟩ := h
    refine ⟨_, (pss_cons (ps_if (pt_not (pt_chain op_le op_le pe_int (pv 1) (pe_glob (v := .int 8) rfl T.g_MOST_PLACES.choose_spec ⟨_, rfl⟩)))
        (pss_one ps_never)
        pss_nil)
      (pss_cons (ps_fld (pv 0) (pv 1) rfl)
      (pss_one (ps_fld (pv 0) (pe_lst pa_nil) rfl)))), ?_⟩
    walk_at "rd"
    refine iteDp h1 ?_
    walk_at "rd"
    refine iteNS h2 ?_
    refine ⟨_, rfl, _, rfl, p, _, dx, [], rfl, hp, T.c_Net, T.n_Net_size, (by show 0 < 1000; decide), ?_⟩
    refine ⟨Nat.zero_le _, fun r hr0 => ?_⟩
    have nrp : r ≠ p := by
      intro z
      subst z
      rw [upd_same] at hr0
      cases hr0
    have hr1 : H r = none := by rw [upd_ne nrp] at hr0; exact hr0
    refine ⟨_, rfl, p, _, dx, _, rfl, (by rw [upd_ne nrp.symm, upd_same]), T.c_Net, T.n_Net_roads, (by show 1 < 1000; decide), ?_⟩
    refine k r _ hr1 ⟨⟨dx, upd_same⟩, [], (by rw [upd_ne nrp, upd_same]; rfl), .nil⟩ fun b o e hb => ?_
    rw [upd_ne hb, upd_ne (ne_of_none e hr1), upd_ne hb]
    exact e
theorem ok_Net_need_place (T : Tx K mg t) : FnOk P w K mg base CX0 1 t.a_Net_need_place t.d_Net_need_place ["self", "place"] (sp_need t.c_Net) := by
  refine T.F_Net_need_place.ok sc_Net_need_place (fun vs H Q E h => ?_) (fun cdv A outer s H vs Q E hr h => ?_)
  · obtain ⟨p, r, n, k, rs, rfl, _⟩ := h
    rfl
  · obtain ⟨p, r, n, k, rs, rfl, N, h0, h1, q⟩ := h
    obtain ⟨dx, hp⟩ := N.ob
    refine ⟨_, (pss_one (ps_if (pt_not (pt_chain op_le op_lt pe_int (pv 1) (pe_fldK (K := K) rfl (pv 0) rfl)))
        (pss_one ps_never)
        pss_nil)), ?_⟩
    walk_at "rd"
    refine iteDp h0 ?_
    refine ⟨_, rfl, p, _, dx, _, _, rfl, hp, T.c_Net, T.n_Net_size, flds_size _ _, ?_⟩
    walk_at "rd"
    exact iteNS h1 q
theorem ok_Net_lay (T : Tx K mg t) : FnOk P w K mg base CX0 2 t.a_Net_lay t.d_Net_lay ["self", "start", "goal"] (sp_lay t.c_Net) := by
  refine T.F_Net_lay.ok sc_Net_lay (fun vs H Q E h => ?_) (fun cdv A outer s H vs Q E hr h => ?_)
  · obtain ⟨p, r, n, a, b, rs, rfl, _⟩ := h
    rfl
  · obtain ⟨p, r, n, a, b, rs, rfl, N, ⟨ha0, ha1⟩, ⟨hb0, hb1⟩, hl, k⟩ := h
    obtain ⟨dx, hp⟩ := id N.ob
    obtain ⟨ps, hr1, hps⟩ := id N.rd
    have hlen := hps.len
    refine ⟨_, (pss_cons (ps_expr (pe_meth (pv 0) T.c_Net T.t_Net_need_place (ok_Net_need_place T) (hr.mono (by decide)) T.b_Net_need_place .nil pass0 (pa_cons (pv 1) pa_nil)))
      (pss_cons (ps_expr (pe_meth (pv 0) T.c_Net T.t_Net_need_place (ok_Net_need_place T) (hr.mono (by decide)) T.b_Net_need_place .nil pass0 (pa_cons (pv 2) pa_nil)))
      (pss_cons (ps_if (pt_cmpR op_ge (pe_callB (call_lenK (K := K) rfl) rfl T.z_len PySem.boot_len (pa_cons (pe_fldK (K := K) rfl (pv 0) rfl) pa_nil)) (pe_glob (v := .int 24) rfl T.g_MOST_ROADS.choose_spec ⟨_, rfl⟩) (nomark _))
        (pss_one ps_never)
        pss_nil)
      (pss_cons (ps_expr (pe_bmK (K := K) rfl PySem.F.plainAttrs_list PySem.F.slot_list_append PySem.F.type_list_append mt_append (pe_fldK (K := K) rfl (pv 0) rfl) (pa_cons (pe_tup (pa_cons (pv 1) (pa_cons (pv 2) pa_nil))) pa_nil)))
      (pss_one (ps_ret (pe_op op_sub (pe_callB (call_lenK (K := K) rfl) rfl T.z_len PySem.boot_len (pa_cons (pe_fldK (K := K) rfl (pv 0) rfl) pa_nil)) pe_int))))))), ?_⟩
    refine ⟨_, rfl, p, dx, _, rfl, hp, flds_no _ _ (by decide +kernel) (by decide +kernel), _, rfl, p, r, n, a, rs, rfl, N, ha0, ha1, ?_⟩
    refine ⟨_, rfl, p, dx, _, rfl, hp, flds_no _ _ (by decide +kernel) (by decide +kernel), _, rfl, p, r, n, b, rs, rfl, N, hb0, hb1, ?_⟩
    refine ⟨_, rfl, p, _, dx, _, _, rfl, hp, T.c_Net, T.n_Net_roads, flds_roads _ _, r, _, rfl, .inl (SqL.of hr1), ?_⟩
    walk_at "rd"
    refine iteDn (by rw [List.length_map]; omega) ?_
    refine ⟨_, rfl, p, _, dx, _, _, rfl, hp, T.c_Net, T.n_Net_roads, flds_roads _ _, .inl ⟨rfl, _, SqL.of hr1⟩, _, rfl, _, rfl, (by show 2 ≤ sizeLine; decide), fun q hq => ?_⟩
    have nrq : r ≠ q := ne_of_none hr1 hq
    have npq : p ≠ q := ne_of_none hp hq
    have nrp : p ≠ r := ne_of hp hr1 (by intro z; cases z)
    refine ⟨r, _, _, rfl, rfl, (by rw [upd_ne nrq]; exact hr1), (by rw [List.length_map]; exact small1000 (by omega)), ?_⟩
    have hp2 : (upd (upd H q (.tup [.int a, .int b])) r (.lst (ps.map V.ref ++ [V.ref q]))) p = some (.ins t.c_Net dx (flds n r)) := by rw [upd_ne nrp, upd_ne npq]; exact hp
    refine ⟨_, rfl, p, _, dx, _, _, rfl, hp2, T.c_Net, T.n_Net_roads, flds_roads _ _, r, _, rfl, .inl (SqL.of upd_same), ?_⟩
    walk_at "rd"
    have e1 : (((ps.map V.ref ++ [V.ref q]).length : Nat) : Int) - 1 = (rs.length : Int) := by rw [List.length_append, List.length_map]; simp; omega
    show Q (V.int (((ps.map V.ref ++ [V.ref q]).length : Nat) - 1)) _
    rw [e1]
    have tk : TupKeep H (upd (upd H q (.tup [.int a, .int b])) r (.lst (ps.map V.ref ++ [V.ref q]))) :=
      TupKeep.put (TupKeep.new (fun _ _ e => e) hq) (u := .lst (ps.map V.ref)) (by rw [upd_ne nrq]; exact hr1) (fun xs z => by cases z)
    refine k q _ hq ⟨⟨dx, hp2⟩, ps ++ [q], (by rw [upd_same, List.map_append]; rfl), RoadsP.snoc (hps.mono tk) ?_⟩ fun c o e hc => ?_
    · rw [upd_ne (Ne.symm nrq), upd_same]
    · rw [upd_ne hc, upd_ne (ne_of_none e hq)]
      exact e

abbrev cc (K : PySem.W.Frag) (t : Adr) : Ct := ⟨K, t.c_Net⟩
theorem ok_q_drawn (T : Tx K mg t) : FnOk P w K mg base CX0 1 t.a_q_drawn t.d_q_drawn ["script", "k", "many"] (spF (cc K t) p_drawn) := by
  refine T.F_q_drawn.ok sc_q_drawn (fun vs H Q E h => spF_len h (by rintro es R ⟨ns, k, m, rfl, _⟩; rfl)) (fun cdv A outer s H vs Q E hr h => ⟨_, (pss_cons (ps_set (i := 3) sc_q_drawn.nd rfl (by first | exact Or.inl rfl | exact Or.inr rfl) pe_int)
      (pss_cons (ps_if (pt_cmpR op_gt (pe_callB (call_lenK (K := K) rfl) rfl T.z_len PySem.boot_len (pa_cons (pv 0) pa_nil)) pe_int (nomark _))
        (pss_one (ps_set (i := 3) sc_q_drawn.nd rfl (by first | exact Or.inl rfl | exact Or.inr rfl) (pe_ix (ix_listK (K := K) rfl) (pv 0) (pe_op op_mod (pv 1) (pe_callB (call_lenK (K := K) rfl) rfl T.z_len PySem.boot_len (pa_cons (pv 0) pa_nil))) (fun _ _ => rfl))))
        pss_nil)
      (pss_cons (ps_set (i := 4) sc_q_drawn.nd rfl (by first | exact Or.inl rfl | exact Or.inr rfl) (pe_op op_add (pe_op op_add (pe_op op_mul (pv 3) (pe_op op_add pe_int (pe_op op_mul pe_int (pe_op op_mod (pv 1) pe_int)))) (pe_op op_mul (pe_op op_mul (pe_op op_add (pv 1) pe_int) (pe_op op_add (pv 1) pe_int)) pe_int)) (pe_callB (call_lenK (K := K) rfl) rfl T.z_len PySem.boot_len (pa_cons (pv 0) pa_nil))))
      (pss_one (ps_ret (pe_op op_mod (pe_op op_fdiv (pe_op op_mod (pv 4) pe_int) pe_int) (pv 2))))))), fn_data h ?_⟩)
  rintro es R ⟨ns, k, m, rfl, ⟨hk0, hk1⟩, hm, q⟩
  have c1 : (-(2 ^ 64) : Int) < 48271 + 9973 * (k % 97) ∧ (48271 + 9973 * (k % 97) : Int) < 2 ^ 64 := by omega
  refine ws_seq (ws_setF (we_int ?_))
  refine ws_seq (ws_ifJ (fun e => ∃ z : Int, e = [.sh (⟨ns⟩ : Sc), .sh k, .sh m, .sh z, .no]) (wt_test (we_iB (we_lenSc (we_var rfl (we_int ⟨fun hb => ?_, fun _ => ws_next ⟨_, rfl⟩⟩))))) ?_)
  · have hb' : (0 : Int) < (ns.length : Int) := of_decide_eq_true hb
    obtain ⟨z, hz, _⟩ := atI_mem (xs := ns) (i := k % (ns.length : Int)) (by have := Int.emod_nonneg k (show (ns.length : Int) ≠ 0 by omega); omega) (Int.emod_lt_of_pos _ (by omega))
    exact ws_setF (we_ixSc (we_var rfl (we_iC (we_var rfl (we_lenSc (we_var rfl ⟨(show (0 : Int) < (ns.length : Int) from hb'), ⟨_, hz, ⟨z, rfl⟩⟩⟩))))))
  · rintro e ⟨z, rfl⟩
    refine ws_seq (ws_setF (we_add (we_add (we_iC (we_var rfl (we_add (we_int (we_iC (we_int (we_iC (we_var rfl (we_int ⟨(show (0 : Int) < 97 by decide), ⟨.inl ⟨by decide, by decide⟩, ⟨.inr c1, (we_iC (we_iC (we_add (we_var rfl (we_int (we_add (we_var rfl (we_int ⟨.inl ⟨by omega, by omega⟩, (we_int ⟨.inr ⟨by decide, by decide⟩, (we_lenSc (we_var rfl ?_))⟩)⟩))))))))⟩⟩⟩))))))))))))
    exact ws_retF (we_iC (we_iC (we_iC (we_var rfl (we_int ⟨(show (0 : Int) < 2147483647 by decide), (we_int ⟨⟨by decide, by decide⟩, (we_var rfl ⟨hm, q _ (Int.emod_nonneg _ (by omega)) (Int.emod_lt_of_pos _ hm)⟩)⟩)⟩)))))
theorem ok_q_whole (T : Tx K mg t) : FnOk P w K mg base CX0 1 t.a_q_whole t.d_q_whole ["found"] (spF (cc K t) p_whole) := by
  refine T.F_q_whole.ok sc_q_whole (fun vs H Q E h => spF_len h (by rintro es R ⟨n, rfl, _⟩; rfl)) (fun cdv A outer s H vs Q E hr h => ⟨_, (pss_one (ps_ret (pe_and (pe_callB (call_isiK (K := K) rfl) rfl T.z_isinstance (by decide +kernel) (pa_cons (pv 0) (pa_cons (pe_bltn (v := .ty "int") rfl T.z_int (by decide +kernel) rfl) pa_nil))) (pe_one (pe_not (pe_callB (call_isiK (K := K) rfl) rfl T.z_isinstance (by decide +kernel) (pa_cons (pv 0) (pa_cons (pe_bltn (v := .ty "bool") rfl T.z_bool (by decide +kernel) rfl) pa_nil)))))))), fn_data h ?_⟩)
  rintro es R ⟨n, rfl, q⟩
  exact ws_retF (we_and (we_isi (we_var rfl ⟨true, kit_int_int _, ⟨fun _ => we_not (we_isi (we_var rfl ⟨false, kit_int_bool _, q⟩)), fun h => (by cases h)⟩⟩)))
theorem ok_q_laid (T : Tx K mg t) : FnOk P w K mg base CX0 3 t.a_q_laid t.d_q_laid ["size", "roads"] (spF (cc K t) p_laid) := by
  refine T.F_q_laid.ok sc_q_laid (fun vs H Q E h => spF_len h (by rintro es R ⟨n, rs, rfl, _⟩; rfl)) (fun cdv A outer s H vs Q E hr h => ⟨_, (pss_cons (ps_set (i := 2) sc_q_laid.nd rfl (by first | exact Or.inl rfl | exact Or.inr rfl) (pe_make T.k_Net (ok_Net_init T) (hr.mono (by decide)) rfl T.m_Net T.b_Net_init .nil pass0 (pa_cons (pv 0) pa_nil)))
      (pss_cons (ps_for PassesOwn.never rfl (pi_listK (K := K) rfl (pv 1)) (pg_name (i := 3) sc_q_laid.nd rfl (by first | exact Or.inl rfl | exact Or.inr rfl))
        (pss_one (ps_expr (pe_meth (pv 2) T.c_Net T.t_Net_lay (ok_Net_lay T) (hr.mono (by decide)) T.b_Net_lay .nil pass0 (pa_cons (pe_ix (ix_tupK (K := K) rfl) (pv 3) pe_int (fun _ _ => rfl)) (pa_cons (pe_ix (ix_tupK (K := K) rfl) (pv 3) pe_int (fun _ _ => rfl)) pa_nil))))))
      (pss_one (ps_ret (pv 2))))), fn_data h ?_⟩)
  rintro es R ⟨n, rs, rfl, hn, hin, hl, q⟩
  refine ws_seq (ws_setO (we_net (we_var rfl ⟨hn, ⟨rfl, ?_⟩⟩)))
  refine ws_seq (ws_forL (we_varS rfl ⟨fun k e => ∃ o, e = [.sh n, .sh rs, .ow (⟨n, rs.take k⟩ : NetD), o], ⟨_, rfl⟩, ?_, ?_⟩))
  · rintro k x e hx ⟨o, rfl⟩
    have hk : k < rs.length := (List.getElem?_eq_some_iff.mp hx).1
    obtain ⟨⟨e10, e11⟩, e20, e21⟩ := hin x (List.mem_of_getElem? hx)
    refine ws_lay rfl (we_fst (we_var rfl (we_snd (we_var rfl ⟨⟨⟨e10, e11⟩, ⟨e20, e21⟩, by rw [List.length_take]; omega⟩, ?_⟩))))
    refine ⟨.sh x, ?_⟩
    rw [List.take_add_one, hx]
    rfl
  · rintro e ⟨o, rfl⟩
    rw [List.take_length]
    exact ws_ret (we_varM rfl q)
theorem ok_q_stands (T : Tx K mg t) : FnOk P w K mg base CX0 1 t.a_q_stands t.d_q_stands ["net", "size", "roads"] (spF (cc K t) p_stands) := by
  refine T.F_q_stands.ok sc_q_stands (fun vs H Q E h => spF_len h (by rintro es R ⟨N, n, rs, rfl, _⟩; rfl)) (fun cdv A outer s H vs Q E hr h => ⟨_, (pss_one (ps_ret (pe_and (pe_cmpR op_eq (pe_fldK (K := K) rfl (pv 0) rfl) (pv 1) (nomark _)) (pe_one (pe_cmpR (op_eqDK (K := K) rfl hr.units) (pe_fldK (K := K) rfl (pv 0) rfl) (pv 2) (nomark _)))))), fn_data h ?_⟩)
  rintro es R ⟨N, n, rs, rfl, q⟩
  refine ws_retF (we_and (we_eqI (we_size T.c_Net T.n_Net_size (we_var rfl (we_var rfl ⟨fun h => we_eqD (we_roads T.c_Net T.n_Net_roads (we_var rfl (we_var rfl ?_))), fun h => ?_⟩)))))
  · rw [h] at q; exact q
  · rw [h] at q; exact q

theorem ok_q_closed_by (T : Tx K mg t) : FnOk P w K mg base CX0 2 t.a_q_closed_by t.d_q_closed_by ["script", "size", "many", "base"] (spF (cc K t) p_closed) := by
  refine T.F_q_closed_by.ok sc_q_closed_by (fun vs H Q E h => spF_len h (by rintro es R ⟨ns, n, m, b, rfl, _⟩; rfl)) (fun cdv A outer s H vs Q E hr h => ⟨_, (pss_cons (ps_set (i := 4) sc_q_closed_by.nd rfl (by first | exact Or.inl rfl | exact Or.inr rfl) (pe_comp (comp_mk ["k"] ["script", "base", "size"] [0, 3, 1] rfl (pi_range1 rfl T.z_range (pa_cons (pv 2) pa_nil)) (fun _ _ _ _ => (pg_name (i := 0) (show (([("k" : Str)] : List Str) ++ ([("script" : Str), ("base" : Str), ("size" : Str)] : List Str)).Nodup by decide +kernel) rfl (by first | exact Or.inl rfl | exact Or.inr rfl))) own_name (fun _ _ _ _ => pts_nil) (fun _ _ _ _ => (pe_call (ok_q_drawn T) (hr.mono (by decide)) rfl T.m_q_drawn T.F_q_drawn.kp T.b_q_drawn .nil pass0 (pa_cons (pv 1) (pa_cons (pe_op op_add (pv 2) (pv 0)) (pa_cons (pv 3) pa_nil))))))))
      (pss_cons (ps_set (i := 5) sc_q_closed_by.nd rfl (by first | exact Or.inl rfl | exact Or.inr rfl) (pe_lst pa_nil))
      (pss_cons (ps_for PassesOwn.never rfl (pi_range1 rfl T.z_range (pa_cons (pv 2) pa_nil)) (pg_name (i := 6) sc_q_closed_by.nd rfl (by first | exact Or.inl rfl | exact Or.inr rfl))
        (pss_one (ps_expr (pe_bmK (K := K) rfl PySem.F.plainAttrs_list PySem.F.slot_list_insert PySem.F.type_list_insert mt_insert (pv 5) (pa_cons (pe_call (ok_q_drawn T) (hr.mono (by decide)) rfl T.m_q_drawn T.F_q_drawn.kp T.b_q_drawn .nil pass0 (pa_cons (pv 0) (pa_cons (pe_op op_add (pe_op op_add (pv 3) pe_int) (pv 6)) (pa_cons (pe_op op_add (pv 6) pe_int) pa_nil)))) (pa_cons (pv 6) pa_nil))))))
      (pss_cons (ps_setComp (i := 7) sc_q_closed_by.nd rfl rfl (comp_mk ["k"] ["walk", "many"] [4, 2] rfl (pi_listK (K := K) rfl (pv 5)) (fun _ _ _ _ => (pg_name (i := 0) (show (([("k" : Str)] : List Str) ++ ([("walk" : Str), ("many" : Str)] : List Str)).Nodup by decide +kernel) rfl (by first | exact Or.inl rfl | exact Or.inr rfl))) own_name (fun _ _ _ _ => pts_nil) (fun _ _ _ _ => (pe_tup (pa_cons (pe_ix (ix_listK (K := K) rfl) (pv 1) (pv 0) (fun _ _ => rfl)) (pa_cons (pe_ix (ix_listK (K := K) rfl) (pv 1) (pe_op op_mod (pe_op op_add (pv 0) pe_int) (pv 2)) (fun _ _ => rfl)) pa_nil))))))
      (pss_one (ps_ret (pe_tup (pa_cons (pv 7) (pa_cons (pe_comp (comp_mk ["k"] ["numbers"] [5] rfl (pi_range1 rfl T.z_range (pa_cons (pv 2) pa_nil)) (fun _ _ _ _ => (pg_name (i := 0) (show (([("k" : Str)] : List Str) ++ ([("numbers" : Str)] : List Str)).Nodup by decide +kernel) rfl (by first | exact Or.inl rfl | exact Or.inr rfl))) own_name (fun _ _ _ _ => pts_nil) (fun _ _ _ _ => (pe_bmK (K := K) rfl PySem.F.plainAttrs_list PySem.F.slot_list_index PySem.F.type_list_index (mt_indexIK (K := K) rfl) (pv 1) (pa_cons (pv 0) pa_nil))))) pa_nil))))))))), fn_data h ?_⟩)
  rintro es R ⟨ns, n, m, b, rfl, ⟨hn1, hn2⟩, ⟨hm0, hm1⟩, ⟨hb0, hb1⟩, q⟩
  refine ws_seq (ws_setO (we_compR (we_var rfl ⟨⟨by omega, by omega⟩, fun k ys => ys.length = k ∧ ∀ x ∈ ys, 0 ≤ x ∧ x < n, ⟨rfl, by simp⟩, ?_, ?_⟩)))
  · rintro k ys hk ⟨hl, hy⟩
    refine wt_all (we_call (wa_cons (we_var rfl (wa_cons (we_add (we_var rfl (we_var rfl (wa_cons (we_var rfl (wa_nil ⟨ns, b + (k : Int), n, rfl, ⟨by omega, by omega⟩, by omega, fun z hz0 hz1 => ⟨by simp [hl], ?_⟩⟩))))))))))
    intro x hx
    rcases List.mem_append.mp hx with hx | hx
    · exact hy x hx
    · have : x = z := by simpa using hx
      subst this
      exact ⟨hz0, hz1⟩
  rintro ws ⟨hwl, hw⟩
  refine ⟨rfl, ?_⟩
  refine ws_seq (ws_setO (α := List Int) (we_nil ⟨rfl, ?_⟩))
  refine ws_seq (ws_for1 (we_var rfl ⟨⟨by omega, by omega⟩, fun k e => ∃ o xs, e = [.sh (⟨ns⟩ : Sc), .sh n, .sh m, .sh b, .ow ws, .ow xs, o, .no] ∧ xs.Perm (rng k), ⟨_, [], rfl, List.Perm.refl _⟩, ?_, ?_⟩))
  · rintro k e hk ⟨o, xs, rfl, hp⟩
    have hxl : xs.length = k := by rw [hp.length_eq, rng_len]
    refine ws_insert rfl (we_call (wa_cons (we_var rfl (wa_cons (we_add (we_add (we_var rfl (we_int (we_var rfl (wa_cons (we_add (we_var rfl (we_int (wa_nil ⟨ns, b + 30 + (k : Int), (k : Int) + 1, rfl, ⟨by omega, by omega⟩, by omega, fun z hz0 hz1 => (we_var rfl ⟨⟨hz0, by omega⟩, by omega, ?_⟩)⟩))))))))))))))
    refine ⟨_, xs.take z.toNat ++ (k : Int) :: xs.drop z.toNat, rfl, ?_⟩
    rw [rng_succ]
    refine List.perm_middle.trans (List.Perm.trans ?_ (List.perm_append_singleton _ _).symm)
    rw [List.take_append_drop]
    exact List.Perm.cons _ hp
  rintro e ⟨o, xs, rfl, hp⟩
  have hxl : xs.length = m.toNat := by rw [hp.length_eq, rng_len]
  have hxm : ∀ x ∈ xs, 0 ≤ x ∧ x < m := fun x hx => by
    have := mem_rng.mp (hp.mem_iff.mp hx)
    omega
  have f_in : ∀ j : Int, 0 ≤ j → j < m → (0 ≤ nm ws j ∧ nm ws j < n) := fun j h0 h1 => hw _ (nm_mem h0 (by omega))
  refine ws_seq (ws_setO (we_compL (we_var rfl ⟨by omega, fun k ys => ys = (xs.take k).map (fun j => (nm ws j, nm ws ((j + 1) % m))), rfl, ?_, ?_⟩)))
  · rintro k x ys hx rfl
    obtain ⟨g0, g1⟩ := hxm x (List.mem_of_getElem? hx)
    have g2 := Int.emod_nonneg (x + 1) (show m ≠ 0 by omega)
    have g3 := Int.emod_lt_of_pos (x + 1) (show 0 < m by omega)
    refine wt_all (we_tup (we_flat (we_ix (we_var rfl (we_var rfl ⟨_, nm_at g0 (by omega), (we_flat (we_ix (we_var rfl (we_iC (we_add (we_var rfl (we_int (we_var rfl ⟨(show 0 < m by omega), ⟨_, nm_at g2 (by omega), ?_⟩⟩))))))))⟩)))) trivial)
    dsimp only
    rw [List.take_add_one, hx, List.map_append]
    rfl
  rintro rs rfl
  rw [List.take_length]
  refine ⟨rfl, ?_⟩
  refine ws_ret (we_tupM rfl (we_compR (we_var rfl ⟨⟨by omega, by omega⟩, fun k ys => ys = (rng k).map (fun k => ((xs.idxOf k : Nat) : Int)), rfl, ?_, ?_⟩)))
  · rintro k ys hk rfl
    refine wt_all (we_index (we_var rfl (we_var rfl ⟨hp.mem_iff.mpr (mem_rng.mpr ⟨by omega, by omega⟩), ?_⟩)))
    dsimp only
    rw [rng_succ, List.map_append]
    rfl
  · rintro cs rfl
    refine q _ _ (by rw [List.length_map]; omega) ?_ (closed_isR (ws := ws) hp _ fun j => by rw [show ((m.toNat : Nat) : Int) = m by omega])
    intro e he
    obtain ⟨j, hj, rfl⟩ := List.mem_map.mp he
    obtain ⟨g0, g1⟩ := hxm j hj
    exact ⟨f_in j g0 g1, f_in _ (Int.emod_nonneg _ (by omega)) (Int.emod_lt_of_pos _ (by omega))⟩

theorem ok_q_net_by (T : Tx K mg t) : FnOk P w K mg base CX0 3 t.a_q_net_by t.d_q_net_by ["script", "most"] (spF (cc K t) p_netby) := by
  refine T.F_q_net_by.ok sc_q_net_by (fun vs H Q E h => spF_len h (by rintro es R ⟨ns, m, rfl, _⟩; rfl)) (fun cdv A outer s H vs Q E hr h => ⟨_, (pss_cons (ps_set (i := 2) sc_q_net_by.nd rfl (by first | exact Or.inl rfl | exact Or.inr rfl) (pe_op op_add pe_int (pe_call (ok_q_drawn T) (hr.mono (by decide)) rfl T.m_q_drawn T.F_q_drawn.kp T.b_q_drawn .nil pass0 (pa_cons (pv 0) (pa_cons pe_int (pa_cons pe_int pa_nil))))))
      (pss_cons (ps_if (pt_cmpR op_gt (pe_call (ok_q_drawn T) (hr.mono (by decide)) rfl T.m_q_drawn T.F_q_drawn.kp T.b_q_drawn .nil pass0 (pa_cons (pv 0) (pa_cons pe_int (pa_cons pe_int pa_nil)))) pe_int (nomark _))
        (pss_one (ps_set (i := 2) sc_q_net_by.nd rfl (by first | exact Or.inl rfl | exact Or.inr rfl) (pe_op op_add pe_int (pe_call (ok_q_drawn T) (hr.mono (by decide)) rfl T.m_q_drawn T.F_q_drawn.kp T.b_q_drawn .nil pass0 (pa_cons (pv 0) (pa_cons pe_int (pa_cons pe_int pa_nil)))))))
        pss_nil)
      (pss_cons (ps_set (i := 3) sc_q_net_by.nd rfl (by first | exact Or.inl rfl | exact Or.inr rfl) (pe_call (ok_q_drawn T) (hr.mono (by decide)) rfl T.m_q_drawn T.F_q_drawn.kp T.b_q_drawn .nil pass0 (pa_cons (pv 0) (pa_cons pe_int (pa_cons (pe_op op_add (pv 1) pe_int) pa_nil)))))
      (pss_cons (ps_set (i := 4) sc_q_net_by.nd rfl (by first | exact Or.inl rfl | exact Or.inr rfl) (pe_lst pa_nil))
      (pss_cons (ps_if (pt_cmpR op_gt (pe_call (ok_q_drawn T) (hr.mono (by decide)) rfl T.m_q_drawn T.F_q_drawn.kp T.b_q_drawn .nil pass0 (pa_cons (pv 0) (pa_cons pe_int (pa_cons pe_int pa_nil)))) pe_int (nomark _))
        (pss_one (ps_set (i := 4) sc_q_net_by.nd rfl (by first | exact Or.inl rfl | exact Or.inr rfl) (pe_ix (ix_tupK (K := K) rfl) (pe_call (ok_q_closed_by T) (hr.mono (by decide)) rfl T.m_q_closed_by T.F_q_closed_by.kp T.b_q_closed_by .nil pass0 (pa_cons (pv 0) (pa_cons (pv 2) (pa_cons (pv 3) (pa_cons pe_int pa_nil))))) pe_int (fun _ _ => rfl))))
        (pss_one (ps_setComp (i := 4) sc_q_net_by.nd rfl rfl (comp_mk ["k"] ["script", "size"] [0, 2] rfl (pi_range1 rfl T.z_range (pa_cons (pv 3) pa_nil)) (fun _ _ _ _ => (pg_name (i := 0) (show (([("k" : Str)] : List Str) ++ ([("script" : Str), ("size" : Str)] : List Str)).Nodup by decide +kernel) rfl (by first | exact Or.inl rfl | exact Or.inr rfl))) own_name (fun _ _ _ _ => pts_nil) (fun _ _ _ _ => (pe_tup (pa_cons (pe_call (ok_q_drawn T) (hr.mono (by decide)) rfl T.m_q_drawn T.F_q_drawn.kp T.b_q_drawn .nil pass0 (pa_cons (pv 1) (pa_cons (pe_op op_add pe_int (pv 0)) (pa_cons (pv 2) pa_nil)))) (pa_cons (pe_call (ok_q_drawn T) (hr.mono (by decide)) rfl T.m_q_drawn T.F_q_drawn.kp T.b_q_drawn .nil pass0 (pa_cons (pv 1) (pa_cons (pe_op op_add pe_int (pv 0)) (pa_cons (pv 2) pa_nil)))) pa_nil))))))))
      (pss_cons (ps_if (PW.pt (pw_and (pt_cmpR op_gt (pv 3) pe_int (nomark _)) (pw_and1 (pt_cmpR op_eq (pe_call (ok_q_drawn T) (hr.mono (by decide)) rfl T.m_q_drawn T.F_q_drawn.kp T.b_q_drawn .nil pass0 (pa_cons (pv 0) (pa_cons pe_int (pa_cons pe_int pa_nil)))) pe_int (nomark _)))))
        (pss_cons (ps_set (i := 5) sc_q_net_by.nd rfl (by first | exact Or.inl rfl | exact Or.inr rfl) (pe_call (ok_q_drawn T) (hr.mono (by decide)) rfl T.m_q_drawn T.F_q_drawn.kp T.b_q_drawn .nil pass0 (pa_cons (pv 0) (pa_cons pe_int (pa_cons (pv 3) pa_nil)))))
      (pss_one (ps_asg (pe_tup (pa_cons (pe_ix (ix_tupK (K := K) rfl) (pe_ix (ix_listK (K := K) rfl) (pv 4) (pv 5) (fun _ _ => rfl)) pe_int (fun _ _ => rfl)) (pa_cons (pe_call (ok_q_drawn T) (hr.mono (by decide)) rfl T.m_q_drawn T.F_q_drawn.kp T.b_q_drawn .nil pass0 (pa_cons (pv 0) (pa_cons pe_int (pa_cons (pv 2) pa_nil)))) pa_nil))) (pg_sub (pv 4) (pv 5) set_list))))
        pss_nil)
      (pss_one (ps_ret (pe_tup (pa_cons (pv 2) (pa_cons (pv 4) pa_nil))))))))))), fn_data h ?_⟩)
  rintro es R ⟨ns, m, rfl, ⟨hm0, hm1⟩, q⟩
  refine ws_seq (ws_setF (we_add (we_int (we_call (wa_cons (we_var rfl (wa_cons (we_int (wa_cons (we_int (wa_nil ⟨ns, 0, 8, rfl, ⟨by decide, by decide⟩, by decide, fun z hz0 hz1 => ?_⟩)))))))))))
  refine ws_seq (ws_ifJ (fun e => ∃ n : Int, (1 ≤ n ∧ n ≤ 8) ∧ e = [.sh (⟨ns⟩ : Sc), .sh m, .sh n, .no, .no, .no]) (wt_test (we_iB (we_call (wa_cons (we_var rfl (wa_cons (we_int (wa_cons (we_int (wa_nil ⟨ns, 1, 3, rfl, ⟨by decide, by decide⟩, by decide, fun y _ _ => (we_int ⟨fun _ => ?_, fun _ => ws_next ⟨_, by omega, rfl⟩⟩)⟩)))))))))) ?_)
  · exact ws_setF (we_add (we_int (we_call (wa_cons (we_var rfl (wa_cons (we_int (wa_cons (we_int (wa_nil ⟨ns, 2, 4, rfl, ⟨by decide, by decide⟩, by decide, fun z hz0 hz1 => ⟨_, by omega, rfl⟩⟩))))))))))
  rintro e ⟨n, hn, rfl⟩
  refine ws_seq (ws_setF (α := Int) (we_call (wa_cons (we_var rfl (wa_cons (we_int (wa_cons (we_add (we_var rfl (we_int (wa_nil ⟨ns, 3, m + 1, rfl, ⟨by decide, by decide⟩, by omega, fun k hk0 hk1 => ?_⟩)))))))))))
  refine ws_seq (ws_setO (α := List (Int × Int)) (we_nil ⟨rfl, ?_⟩))
  refine ws_seq (ws_ifJ (fun e => ∃ rs : List (Int × Int), (rs.length : Int) = k ∧ InNet n rs ∧ e = [.sh (⟨ns⟩ : Sc), .sh m, .sh n, .sh k, .ow rs, .no]) (wt_test (we_iB (we_call (wa_cons (we_var rfl (wa_cons (we_int (wa_cons (we_int (wa_nil ⟨ns, 4, 3, rfl, ⟨by decide, by decide⟩, by decide, fun y _ _ => (we_int ⟨fun _ => ?_, fun _ => ?_⟩)⟩)))))))))) ?_)
  · exact ws_setO (we_fst (we_call (wa_cons (we_var rfl (wa_cons (we_var rfl (wa_cons (we_var rfl (wa_cons (we_int (wa_nil ⟨ns, n, k, 10, rfl, hn, ⟨hk0, by omega⟩, ⟨by decide, by decide⟩, fun rs cs h1 h2 _ => ⟨rfl, rs, h1, h2, rfl⟩⟩)))))))))))
  · refine ws_setO (we_compR (we_var rfl ⟨⟨by omega, by omega⟩, fun j ys => ys.length = j ∧ InNet n ys, ⟨rfl, fun e he => by simp at he⟩, ?_, ?_⟩))
    · rintro j ys hj ⟨hl, hin⟩
      refine wt_all (we_tup (we_call (wa_cons (we_var rfl (wa_cons (we_add (we_int (we_var rfl (wa_cons (we_var rfl (wa_nil ⟨ns, 10 + (j : Int), n, rfl, ⟨by omega, by omega⟩, by omega, fun x hx0 hx1 => (we_call (wa_cons (we_var rfl (wa_cons (we_add (we_int (we_var rfl (wa_cons (we_var rfl (wa_nil ⟨ns, 40 + (j : Int), n, rfl, ⟨by omega, by omega⟩, by omega, fun y hy0 hy1 => ⟨by simp [hl], ?_⟩⟩))))))))))⟩)))))))))) trivial)
      intro e he
      rcases List.mem_append.mp he with he | he
      · exact hin e he
      · have : e = (x, y) := by simpa using he
        subst this
        exact ⟨⟨hx0, hx1⟩, hy0, hy1⟩
    · rintro rs ⟨h1, h2⟩
      exact ⟨rfl, rs, by omega, h2, rfl⟩
  rintro e ⟨rs, hrl, hin, rfl⟩
  refine ws_seq (ws_ifJ (fun e => ∃ (rs : List (Int × Int)) (o : Ent (cc K t)), (rs.length : Int) = k ∧ InNet n rs ∧ e = [.sh (⟨ns⟩ : Sc), .sh m, .sh n, .sh k, .ow rs, o]) (wt_and (wt_test (we_iB (we_var rfl (we_int ⟨fun hk => ?_, fun _ => ⟨fun h => (by cases h), fun _ => ws_next ⟨rs, _, hrl, hin, rfl⟩⟩⟩))))) ?_)
  · have hk' : 0 < k := of_decide_eq_true hk
    refine (wt_test (we_eqI (we_call (wa_cons (we_var rfl (wa_cons (we_int (wa_cons (we_int (wa_nil ⟨ns, 5, 4, rfl, ⟨by decide, by decide⟩, by decide, fun y _ _ => (we_int ⟨fun _ => ?_, fun _ => ws_next ⟨rs, _, hrl, hin, rfl⟩⟩)⟩))))))))))
    refine ws_seq (ws_setF (α := Int) (we_call (wa_cons (we_var rfl (wa_cons (we_int (wa_cons (we_var rfl (wa_nil ⟨ns, 6, k, rfl, ⟨by decide, by decide⟩, hk', fun a ha0 ha1 => ?_⟩)))))))))
    obtain ⟨e, he, _, hem⟩ := atI_ge (xs := rs) (i := a) ha0 (by omega)
    refine ws_setI rfl (we_tup (we_fst (we_ix (we_var rfl (we_var rfl ⟨e, he, (we_call (wa_cons (we_var rfl (wa_cons (we_int (wa_cons (we_var rfl (wa_nil ⟨ns, 7, n, rfl, ⟨by decide, by decide⟩, by omega, fun z hz0 hz1 => (we_var rfl ⟨a.toNat, ?_, ?_⟩)⟩))))))))⟩)))) trivial)
    · unfold ixN
      rw [if_pos ha0, if_pos (by omega)]
    · refine ⟨rs.set a.toNat (e.1, z), _, by rw [List.length_set]; exact hrl, ?_, rfl⟩
      intro x hx
      rcases List.mem_or_eq_of_mem_set hx with hx | hx
      · exact hin x hx
      · subst hx
        exact ⟨(hin e hem).1, hz0, hz1⟩
  rintro e ⟨rs, o, hrl, hin, rfl⟩
  exact ws_ret (we_tupM2 rfl (we_var rfl (q n rs hn hin (by omega))))

theorem ok_Net_outs (T : Tx K mg t) : FnOk P w K mg base CX0 2 t.a_Net_outs t.d_Net_outs ["self", "place"] (spF (cc K t) (p_outs (·.1))) := by
  refine T.F_Net_outs.ok sc_Net_outs (fun vs H Q E h => spF_len h (by rintro es R ⟨N, k, rfl, _⟩; rfl)) (fun cdv A outer s H vs Q E hr h => ⟨_, (pss_cons (ps_expr (pe_meth (pv 0) T.c_Net T.t_Net_need_place (ok_Net_need_place T) (hr.mono (by decide)) T.b_Net_need_place .nil pass0 (pa_cons (pv 1) pa_nil)))
      (pss_one (ps_ret (pe_comp (comp_mk ["number", "road"] ["place"] [1] rfl (pi_enumK (K := K) rfl rfl T.z_enumerate (pa_cons (pe_fldK (K := K) rfl (pv 0) rfl) pa_nil)) (fun _ _ _ _ => (pg_tupK (K := K) rfl rfl (pgs_cons (pg_name (i := 0) (show (([("number" : Str), ("road" : Str)] : List Str) ++ ([("place" : Str)] : List Str)).Nodup by decide +kernel) rfl (by first | exact Or.inl rfl | exact Or.inr rfl)) (pgs_cons (pg_name (i := 1) (show (([("number" : Str), ("road" : Str)] : List Str) ++ ([("place" : Str)] : List Str)).Nodup by decide +kernel) rfl (by first | exact Or.inl rfl | exact Or.inr rfl)) pgs_nil)))) own_pair (fun _ _ _ _ => (pts_one (pt_cmpR op_eq (pe_ix (ix_tupK (K := K) rfl) (pv 1) pe_int (fun _ _ => rfl)) (pv 2) (nomark _)))) (fun _ _ _ _ => (pv 0))))))), fn_data h ?_⟩)
  rintro es R ⟨N, p, rfl, hp, hl, q⟩
  refine ws_seq (ws_drop (we_need (we_var rfl (we_var rfl ⟨hp, ?_⟩))))
  refine ws_ret (S' := []) (we_compE (we_roads T.c_Net T.n_Net_roads (we_var rfl ⟨by omega, fun k ys => ys = (rng k).filter fun j => decide ((N.rs[j.toNat]?).map (·.1) = some p), rfl, ?_, ?_⟩)))
  · rintro k x ys hx rfl
    have e : (rng (k + 1)).filter (fun j => decide ((N.rs[j.toNat]?).map (·.1) = some p)) = (rng k).filter (fun j => decide ((N.rs[j.toNat]?).map (·.1) = some p)) ++ if x.1 = p then [(k : Int)] else [] := by
      rw [filter_rng_succ, Int.toNat_natCast, hx]
      by_cases h : x.1 = p <;> simp [h]
    refine (wt_test (we_eqI (we_fst (we_var rfl (we_var rfl ⟨fun h => we_varF rfl ?_, fun h => ?_⟩)))))
    · dsimp only
      rw [e, if_pos (of_decide_eq_true h)]
    · dsimp only
      rw [e, if_neg (of_decide_eq_false h), List.append_nil]
  · rintro ys rfl
    exact q
theorem ok_Net_ins (T : Tx K mg t) : FnOk P w K mg base CX0 2 t.a_Net_ins t.d_Net_ins ["self", "place"] (spF (cc K t) (p_outs (·.2))) := by
  refine T.F_Net_ins.ok sc_Net_ins (fun vs H Q E h => spF_len h (by rintro es R ⟨N, k, rfl, _⟩; rfl)) (fun cdv A outer s H vs Q E hr h => ⟨_, (pss_cons (ps_expr (pe_meth (pv 0) T.c_Net T.t_Net_need_place (ok_Net_need_place T) (hr.mono (by decide)) T.b_Net_need_place .nil pass0 (pa_cons (pv 1) pa_nil)))
      (pss_one (ps_ret (pe_comp (comp_mk ["number", "road"] ["place"] [1] rfl (pi_enumK (K := K) rfl rfl T.z_enumerate (pa_cons (pe_fldK (K := K) rfl (pv 0) rfl) pa_nil)) (fun _ _ _ _ => (pg_tupK (K := K) rfl rfl (pgs_cons (pg_name (i := 0) (show (([("number" : Str), ("road" : Str)] : List Str) ++ ([("place" : Str)] : List Str)).Nodup by decide +kernel) rfl (by first | exact Or.inl rfl | exact Or.inr rfl)) (pgs_cons (pg_name (i := 1) (show (([("number" : Str), ("road" : Str)] : List Str) ++ ([("place" : Str)] : List Str)).Nodup by decide +kernel) rfl (by first | exact Or.inl rfl | exact Or.inr rfl)) pgs_nil)))) own_pair (fun _ _ _ _ => (pts_one (pt_cmpR op_eq (pe_ix (ix_tupK (K := K) rfl) (pv 1) pe_int (fun _ _ => rfl)) (pv 2) (nomark _)))) (fun _ _ _ _ => (pv 0))))))), fn_data h ?_⟩)
  rintro es R ⟨N, p, rfl, hp, hl, q⟩
  refine ws_seq (ws_drop (we_need (we_var rfl (we_var rfl ⟨hp, ?_⟩))))
  refine ws_ret (S' := []) (we_compE (we_roads T.c_Net T.n_Net_roads (we_var rfl ⟨by omega, fun k ys => ys = (rng k).filter fun j => decide ((N.rs[j.toNat]?).map (·.2) = some p), rfl, ?_, ?_⟩)))
  · rintro k x ys hx rfl
    have e : (rng (k + 1)).filter (fun j => decide ((N.rs[j.toNat]?).map (·.2) = some p)) = (rng k).filter (fun j => decide ((N.rs[j.toNat]?).map (·.2) = some p)) ++ if x.2 = p then [(k : Int)] else [] := by
      rw [filter_rng_succ, Int.toNat_natCast, hx]
      by_cases h : x.2 = p <;> simp [h]
    refine (wt_test (we_eqI (we_snd (we_var rfl (we_var rfl ⟨fun h => we_varF rfl ?_, fun h => ?_⟩)))))
    · dsimp only
      rw [e, if_pos (of_decide_eq_true h)]
    · dsimp only
      rw [e, if_neg (of_decide_eq_false h), List.append_nil]
  · rintro ys rfl
    exact q

theorem ok_least_joined (T : Tx K mg t) : FnOk P w K mg base CX0 1 t.a_least_joined t.d_least_joined ["net"] (spF (cc K t) p_least) := by
  refine T.F_least_joined.ok sc_least_joined (fun vs H Q E h => spF_len h (by rintro es R ⟨N, rfl, _⟩; rfl)) (fun cdv A outer s H vs Q E hr h => ⟨_, (pss_cons (ps_set (i := 1) sc_least_joined.nd rfl (by first | exact Or.inl rfl | exact Or.inr rfl) (pe_callTy (call_listRange rfl) rfl T.z_list (by decide +kernel) (pa_cons (pe_callTy call_rangeV rfl T.z_range (by decide +kernel) (pa_cons (pe_fldK (K := K) rfl (pv 0) rfl) pa_nil)) pa_nil)))
      (pss_cons (ps_for PassesOwn.never rfl (pi_listK (K := K) rfl (pe_fldK (K := K) rfl (pv 0) rfl)) (pg_tupK (K := K) rfl rfl (pgs_cons (pg_name (i := 2) sc_least_joined.nd rfl (by first | exact Or.inl rfl | exact Or.inr rfl)) (pgs_cons (pg_name (i := 3) sc_least_joined.nd rfl (by first | exact Or.inl rfl | exact Or.inr rfl)) pgs_nil)))
        (pss_cons (ps_set (i := 4) sc_least_joined.nd rfl (by first | exact Or.inl rfl | exact Or.inr rfl) (pe_callB (call_min2 rfl) rfl T.z_min (by decide +kernel) (pa_cons (pe_ix (ix_listK (K := K) rfl) (pv 1) (pv 2) (fun _ _ => rfl)) (pa_cons (pe_ix (ix_listK (K := K) rfl) (pv 1) (pv 3) (fun _ _ => rfl)) pa_nil))))
      (pss_cons (ps_set (i := 5) sc_least_joined.nd rfl (by first | exact Or.inl rfl | exact Or.inr rfl) (pe_callB (call_max2 rfl) rfl T.z_max (by decide +kernel) (pa_cons (pe_ix (ix_listK (K := K) rfl) (pv 1) (pv 2) (fun _ _ => rfl)) (pa_cons (pe_ix (ix_listK (K := K) rfl) (pv 1) (pv 3) (fun _ _ => rfl)) pa_nil))))
      (pss_one (ps_setComp (i := 1) sc_least_joined.nd rfl rfl (comp_mk ["mark"] ["high", "low"] [5, 4] rfl (pi_listK (K := K) rfl (pv 1)) (fun _ _ _ _ => (pg_name (i := 0) (show (([("mark" : Str)] : List Str) ++ ([("high" : Str), ("low" : Str)] : List Str)).Nodup by decide +kernel) rfl (by first | exact Or.inl rfl | exact Or.inr rfl))) own_name (fun _ _ _ _ => pts_nil) (fun _ _ _ _ => (pe_ifExp (pt_cmpR op_eq (pv 0) (pv 1) (nomark _)) (pv 2) (pv 0)))))))))
      (pss_one (ps_ret (pv 1))))), fn_data h ?_⟩)
  rintro es R ⟨N, rfl, hn, hin, hl, q⟩
  obtain ⟨n, rs⟩ := N
  dsimp only at hn hin hl q
  have hin' : InNet ((n.toNat : Nat) : Int) rs := by rw [show ((n.toNat : Nat) : Int) = n by omega]; exact hin
  refine ws_seq (ws_setO (we_listRange (we_size T.c_Net T.n_Net_size (we_var rfl ⟨⟨by show 0 ≤ n; omega, by show n ≤ 100000; omega⟩, rfl, ?_⟩))))
  refine ws_seq (ws_forLP (we_roads T.c_Net T.n_Net_roads (we_varS rfl ⟨fun k e => ∃ a b d f, e = [.sh (⟨n, rs⟩ : NetD), .ow (names n.toNat (rs.take k)), a, b, d, f], ⟨_, _, _, _, rfl⟩, ?_, ?_⟩)))
  · rintro k x e hx ⟨a, b, d, f, rfl⟩
    have ok := names_ok (hin'.take k)
    have hx' := hin x (List.mem_of_getElem? hx)
    have a1 : atI (names n.toNat (rs.take k)) x.1 = some (nm (names n.toNat (rs.take k)) x.1) := nm_at hx'.1.1 (by rw [ok.len]; omega)
    have a2 : atI (names n.toNat (rs.take k)) x.2 = some (nm (names n.toNat (rs.take k)) x.2) := nm_at hx'.2.1 (by rw [ok.len]; omega)
    refine ws_seq (ws_setF (we_min (we_ix (we_var rfl (we_var rfl ⟨_, a1, (we_ix (we_var rfl (we_var rfl ⟨_, a2, ?_⟩)))⟩)))))
    refine ws_seq (ws_setF (we_max (we_ix (we_var rfl (we_var rfl ⟨_, a1, (we_ix (we_var rfl (we_var rfl ⟨_, a2, ?_⟩)))⟩)))))
    refine ws_setO (we_compL (we_var rfl ⟨by rw [ok.len]; omega, fun j ys => ys = ((names n.toNat (rs.take k)).take j).map fun o => if o = hiI (nm (names n.toNat (rs.take k)) x.1) (nm (names n.toNat (rs.take k)) x.2) then loI (nm (names n.toNat (rs.take k)) x.1) (nm (names n.toNat (rs.take k)) x.2) else o, rfl, ?_, ?_⟩))
    · rintro j y ys hy rfl
      refine wt_all (we_if (wt_test (we_eqI (we_var rfl (we_var rfl ⟨fun h => we_varF rfl ?_, fun h => we_varF rfl ?_⟩)))))
      · dsimp only
        rw [List.take_add_one, hy, List.map_append]
        have hy2 : y = hiI (nm (names n.toNat (rs.take k)) x.1) (nm (names n.toNat (rs.take k)) x.2) := of_decide_eq_true h
        show _ = _ ++ [if y = hiI (nm (names n.toNat (rs.take k)) x.1) (nm (names n.toNat (rs.take k)) x.2) then _ else _]
        rw [if_pos hy2]
        rfl
      · dsimp only
        rw [List.take_add_one, hy, List.map_append]
        have hy2 : ¬ y = hiI (nm (names n.toNat (rs.take k)) x.1) (nm (names n.toNat (rs.take k)) x.2) := of_decide_eq_false h
        show _ = _ ++ [if y = hiI (nm (names n.toNat (rs.take k)) x.1) (nm (names n.toNat (rs.take k)) x.2) then _ else _]
        rw [if_neg hy2]
    · rintro ys rfl
      have en : names n.toNat (rs.take (k + 1)) = relab (names n.toNat (rs.take k)) x := foldl_take relab _ hx
      rw [List.take_length]
      refine ⟨rfl, ?_⟩
      dsimp only
      rw [en]
      exact ⟨_, _, _, _, rfl⟩
  · rintro e ⟨a, b, d, f, rfl⟩
    refine ws_ret (we_varM rfl ?_)
    dsimp only
    rw [List.take_length]
    exact q
theorem ok_parts (T : Tx K mg t) : FnOk P w K mg base CX0 3 t.a_parts t.d_parts ["net"] (spF (cc K t) p_parts) := by
  refine T.F_parts.ok sc_parts (fun vs H Q E h => spF_len h (by rintro es R ⟨N, rfl, _⟩; rfl)) (fun cdv A outer s H vs Q E hr h => ⟨_, (pss_cons (ps_set (i := 1) sc_parts.nd rfl (by first | exact Or.inl rfl | exact Or.inr rfl) (pe_call (ok_least_joined T) (hr.mono (by decide)) rfl T.m_least_joined T.F_least_joined.kp T.b_least_joined .nil pass0 (pa_cons (pv 0) pa_nil)))
      (pss_cons (ps_set (i := 2) sc_parts.nd rfl (by first | exact Or.inl rfl | exact Or.inr rfl) pe_newD)
      (pss_cons (ps_for PassesOwn.never rfl (pi_range1 rfl T.z_range (pa_cons (pe_fldK (K := K) rfl (pv 0) rfl) pa_nil)) (pg_name (i := 3) sc_parts.nd rfl (by first | exact Or.inl rfl | exact Or.inr rfl))
        (pss_one (ps_if (PW.pt (pw_or (pt_truthK (K := K) rfl (pe_meth (pv 0) T.c_Net T.t_Net_outs (ok_Net_outs T) (hr.mono (by decide)) T.b_Net_outs .nil pass0 (pa_cons (pv 3) pa_nil)) (fun _ => rfl)) (pw_or1 (pt_truthK (K := K) rfl (pe_meth (pv 0) T.c_Net T.t_Net_ins (ok_Net_ins T) (hr.mono (by decide)) T.b_Net_ins .nil pass0 (pa_cons (pv 3) pa_nil)) (fun _ => rfl)))))
        (pss_one (ps_expr (pe_bmK (K := K) rfl PySem.F.plainAttrs_list PySem.F.slot_list_append PySem.F.type_list_append mt_append (pe_bmK (K := K) rfl PySem.F.plainAttrs_dict PySem.F.slot_dict_setdefault PySem.F.type_dict_setdefault mt_setdef (pv 2) (pa_cons (pe_ix (ix_listK (K := K) rfl) (pv 1) (pv 3) (fun _ _ => rfl)) (pa_cons (pe_lst pa_nil) pa_nil))) (pa_cons (pv 3) pa_nil))))
        pss_nil)))
      (pss_one (ps_ret (pe_callTy (call_listView rfl) rfl T.z_list (by decide +kernel) (pa_cons (pe_bm0K (K := K) rfl PySem.F.plainAttrs_dict PySem.F.slot_dict_values PySem.F.type_dict_values mt_values (pv 2)) pa_nil))))))), fn_data h ?_⟩)
  rintro es R ⟨N, rfl, hn, hin, hl, q⟩
  have hn' : ((N.n.toNat : Nat) : Int) = N.n := by omega
  have hin' : InNet ((N.n.toNat : Nat) : Int) N.rs := by rw [hn']; exact hin
  have ok := names_ok hin'
  refine ws_seq (ws_setO (α := List Int) (we_call (wa_cons (we_var rfl (wa_nil ⟨N, rfl, hn, hin, hl, ⟨rfl, ?_⟩⟩)))))
  refine ws_seq (ws_setO (α := Dc) (we_newD ⟨rfl, ?_⟩))
  refine ws_seq (ws_for1 (we_size T.c_Net T.n_Net_size (we_var rfl ⟨⟨by omega, by omega⟩, fun k e => ∃ o, e = [.sh N, .ow (names N.n.toNat N.rs), .ow (⟨grps (names N.n.toNat N.rs) N.rs k⟩ : Dc), o], ⟨_, rfl⟩, ?_, ?_⟩)))
  · rintro k e hk ⟨o, rfl⟩
    have gl : (grps (names N.n.toNat N.rs) N.rs k).length < 1000 ∧ ∀ p ∈ grps (names N.n.toNat N.rs) N.rs k, p.2.length < 1000 := by
      unfold grps
      refine ⟨?_, fun p hp => ?_⟩
      · rw [List.length_map]
        have := List.length_filter_le (root (names N.n.toNat N.rs) N.rs) (rng k)
        rw [rng_len] at this
        omega
      · obtain ⟨l, _, rfl⟩ := List.mem_map.mp hp
        have := List.length_filter_le (fun p => decide (nm (names N.n.toNat N.rs) p = l) && decide (p ∈ used N.rs)) (rng k)
        rw [rng_len] at this
        show (grp _ _ _ _).length < _
        unfold grp
        omega
    refine ws_if (wt_or (wt_truth (we_meth (by decide +kernel) (by decide +kernel) (we_var rfl (wa_cons (we_var rfl (wa_nil ⟨N, (k : Int), rfl, ⟨by omega, hk⟩, hl, ⟨fun h => ⟨fun _ => ?_, fun h => (by cases h)⟩, fun h => ?_⟩⟩)))))))
    · rw [outs_used] at h
      have hu : (k : Int) ∈ used N.rs := List.mem_append_left _ (of_decide_eq_true h)
      exact ws_setdef rfl (we_ix (we_var rfl (we_var rfl ⟨_, nm_at (xs := names N.n.toNat N.rs) (i := (k : Int)) (by omega) (by rw [ok.len]; omega), gl, fun e h1 h2 h3 => we_var (x := (k : Int)) (by rw [h2 3 (by decide)]; rfl) ⟨_, by rw [grps_add ok (by omega) hu]; rfl⟩⟩)))
    · refine (wt_truth (we_meth (by decide +kernel) (by decide +kernel) (we_var rfl (wa_cons (we_var rfl (wa_nil ⟨N, (k : Int), rfl, ⟨by omega, hk⟩, hl, ⟨fun h2 => ?_, fun h2 => ws_next ?_⟩⟩))))))
      · rw [outs_used] at h2
        have hu : (k : Int) ∈ used N.rs := List.mem_append_right _ (of_decide_eq_true h2)
        exact ws_setdef rfl (we_ix (we_var rfl (we_var rfl ⟨_, nm_at (xs := names N.n.toNat N.rs) (i := (k : Int)) (by omega) (by rw [ok.len]; omega), gl, fun e h1 h2 h3 => we_var (x := (k : Int)) (by rw [h2 3 (by decide)]; rfl) ⟨_, by rw [grps_add ok (by omega) hu]; rfl⟩⟩)))
      · rw [outs_used] at h h2
        have hu : (k : Int) ∉ used N.rs := fun z => by
          rcases List.mem_append.mp z with y | y
          · exact of_decide_eq_false h y
          · exact of_decide_eq_false h2 y
        exact ⟨_, by rw [grps_skip hu]; rfl⟩
  · rintro e ⟨o, rfl⟩
    refine ws_ret (we_values rfl ?_)
    rw [grps_end ok]
    exact q
theorem ok_q_parts (T : Tx K mg t) : FnOk P w K mg base CX0 1 t.a_q_parts t.d_q_parts ["size", "roads"] (spF (cc K t) p_qparts) := by
  refine T.F_q_parts.ok sc_q_parts (fun vs H Q E h => spF_len h (by rintro es R ⟨n, rs, rfl, _⟩; rfl)) (fun cdv A outer s H vs Q E hr h => ⟨_, (pss_cons (ps_set (i := 2) sc_q_parts.nd rfl (by first | exact Or.inl rfl | exact Or.inr rfl) (pe_comp (comp_mk ["place"] [] [] rfl (pi_range1 rfl T.z_range (pa_cons (pv 0) pa_nil)) (fun _ _ _ _ => (pg_name (i := 0) (show (([("place" : Str)] : List Str) ++ ([] : List Str)).Nodup by decide +kernel) rfl (by first | exact Or.inl rfl | exact Or.inr rfl))) own_name (fun _ _ _ _ => pts_nil) (fun _ _ _ _ => (pv 0)))))
      (pss_cons (ps_for PassesOwn.never rfl (pi_listK (K := K) rfl (pv 1)) (pg_name (i := 3) sc_q_parts.nd rfl (by first | exact Or.inl rfl | exact Or.inr rfl))
        (pss_cons (ps_set (i := 4) sc_q_parts.nd rfl (by first | exact Or.inl rfl | exact Or.inr rfl) (pe_callB (call_min2 rfl) rfl T.z_min (by decide +kernel) (pa_cons (pe_ix (ix_listK (K := K) rfl) (pv 2) (pe_ix (ix_tupK (K := K) rfl) (pv 3) pe_int (fun _ _ => rfl)) (fun _ _ => rfl)) (pa_cons (pe_ix (ix_listK (K := K) rfl) (pv 2) (pe_ix (ix_tupK (K := K) rfl) (pv 3) pe_int (fun _ _ => rfl)) (fun _ _ => rfl)) pa_nil))))
      (pss_cons (ps_set (i := 5) sc_q_parts.nd rfl (by first | exact Or.inl rfl | exact Or.inr rfl) (pe_callB (call_max2 rfl) rfl T.z_max (by decide +kernel) (pa_cons (pe_ix (ix_listK (K := K) rfl) (pv 2) (pe_ix (ix_tupK (K := K) rfl) (pv 3) pe_int (fun _ _ => rfl)) (fun _ _ => rfl)) (pa_cons (pe_ix (ix_listK (K := K) rfl) (pv 2) (pe_ix (ix_tupK (K := K) rfl) (pv 3) pe_int (fun _ _ => rfl)) (fun _ _ => rfl)) pa_nil))))
      (pss_one (ps_set (i := 2) sc_q_parts.nd rfl (by first | exact Or.inl rfl | exact Or.inr rfl) (pe_comp (comp_mk ["other"] ["high", "low"] [5, 4] rfl (pi_listK (K := K) rfl (pv 2)) (fun _ _ _ _ => (pg_name (i := 0) (show (([("other" : Str)] : List Str) ++ ([("high" : Str), ("low" : Str)] : List Str)).Nodup by decide +kernel) rfl (by first | exact Or.inl rfl | exact Or.inr rfl))) own_name (fun _ _ _ _ => pts_nil) (fun _ _ _ _ => (pe_ifExp (pt_cmpR op_eq (pv 0) (pv 1) (nomark _)) (pv 2) (pv 0))))))))))
      (pss_cons (ps_set (i := 6) sc_q_parts.nd rfl (by first | exact Or.inl rfl | exact Or.inr rfl) (pe_op op_cat (pe_comp (comp_mk ["road"] [] [] rfl (pi_listK (K := K) rfl (pv 1)) (fun _ _ _ _ => (pg_name (i := 0) (show (([("road" : Str)] : List Str) ++ ([] : List Str)).Nodup by decide +kernel) rfl (by first | exact Or.inl rfl | exact Or.inr rfl))) own_name (fun _ _ _ _ => pts_nil) (fun _ _ _ _ => (pe_ix (ix_tupK (K := K) rfl) (pv 0) pe_int (fun _ _ => rfl))))) (pe_comp (comp_mk ["road"] [] [] rfl (pi_listK (K := K) rfl (pv 1)) (fun _ _ _ _ => (pg_name (i := 0) (show (([("road" : Str)] : List Str) ++ ([] : List Str)).Nodup by decide +kernel) rfl (by first | exact Or.inl rfl | exact Or.inr rfl))) own_name (fun _ _ _ _ => pts_nil) (fun _ _ _ _ => (pe_ix (ix_tupK (K := K) rfl) (pv 0) pe_int (fun _ _ => rfl)))))))
      (pss_cons (ps_setComp (i := 7) sc_q_parts.nd rfl rfl (comp_mk ["first"] ["size", "name", "used"] [0, 2, 6] rfl (pi_range1 rfl T.z_range (pa_cons (pv 0) pa_nil)) (fun _ _ _ _ => (pg_name (i := 0) (show (([("first" : Str)] : List Str) ++ ([("size" : Str), ("name" : Str), ("used" : Str)] : List Str)).Nodup by decide +kernel) rfl (by first | exact Or.inl rfl | exact Or.inr rfl))) own_name (fun _ _ _ _ => pts_nil) (fun _ _ _ _ => (pe_comp (comp_mk ["place"] ["name", "first", "used"] [2, 0, 3] rfl (pi_range1 rfl T.z_range (pa_cons (pv 1) pa_nil)) (fun _ _ _ _ => (pg_name (i := 0) (show (([("place" : Str)] : List Str) ++ ([("name" : Str), ("first" : Str), ("used" : Str)] : List Str)).Nodup by decide +kernel) rfl (by first | exact Or.inl rfl | exact Or.inr rfl))) own_name (fun _ _ _ _ => (pts_one (PW.pt (pw_and (pt_cmpR op_eq (pe_ix (ix_listK (K := K) rfl) (pv 1) (pv 0) (fun _ _ => rfl)) (pv 2) (nomark _)) (pw_and1 (pt_cmpR (op_inK (K := K) rfl) (pv 0) (pv 3) (by with_unfolding_all rfl))))))) (fun _ _ _ _ => (pv 0)))))))
      (pss_one (ps_ret (pe_comp (comp_mk ["part"] [] [] rfl (pi_listK (K := K) rfl (pv 7)) (fun _ _ _ _ => (pg_name (i := 0) (show (([("part" : Str)] : List Str) ++ ([] : List Str)).Nodup by decide +kernel) rfl (by first | exact Or.inl rfl | exact Or.inr rfl))) own_name (fun _ _ _ _ => (pts_one (pt_cmpR op_gt (pe_callB (call_lenK (K := K) rfl) rfl T.z_len PySem.boot_len (pa_cons (pv 0) pa_nil)) pe_int (nomark _)))) (fun _ _ _ _ => (pv 0)))))))))), fn_data h ?_⟩)
  rintro es R ⟨n, rs, rfl, hn, hin, hl, q⟩
  have hn' : ((n.toNat : Nat) : Int) = n := by omega
  have hin' : InNet ((n.toNat : Nat) : Int) rs := by rw [hn']; exact hin
  refine ws_seq (ws_setO (we_compR (we_var rfl ⟨⟨by omega, by omega⟩, fun k ys => ys = rng k, rfl, ?_, ?_⟩)))
  · rintro k ys hk rfl
    exact wt_all (we_varF rfl (rng_succ k).symm)
  rintro ys rfl
  refine ⟨rfl, ?_⟩
  refine ws_seq (ws_forL (we_varS rfl ⟨fun k e => ∃ a b d, e = [.sh n, .sh rs, .ow (names n.toNat (rs.take k)), a, b, d, .no, .no], ⟨_, _, _, rfl⟩, ?_, ?_⟩))
  · rintro k x e hx ⟨a, b, d, rfl⟩
    have ok := names_ok (hin'.take k)
    have hx' := hin x (List.mem_of_getElem? hx)
    have a1 : atI (names n.toNat (rs.take k)) x.1 = some (nm (names n.toNat (rs.take k)) x.1) := nm_at hx'.1.1 (by rw [ok.len]; omega)
    have a2 : atI (names n.toNat (rs.take k)) x.2 = some (nm (names n.toNat (rs.take k)) x.2) := nm_at hx'.2.1 (by rw [ok.len]; omega)
    refine ws_seq (ws_setF (we_min (we_ix (we_var rfl (we_fst (we_var rfl ⟨_, a1, (we_ix (we_var rfl (we_snd (we_var rfl ⟨_, a2, ?_⟩))))⟩))))))
    refine ws_seq (ws_setF (we_max (we_ix (we_var rfl (we_fst (we_var rfl ⟨_, a1, (we_ix (we_var rfl (we_snd (we_var rfl ⟨_, a2, ?_⟩))))⟩))))))
    refine ws_setO (we_compL (we_var rfl ⟨by rw [ok.len]; omega, fun j ys => ys = ((names n.toNat (rs.take k)).take j).map fun o => if o = hiI (nm (names n.toNat (rs.take k)) x.1) (nm (names n.toNat (rs.take k)) x.2) then loI (nm (names n.toNat (rs.take k)) x.1) (nm (names n.toNat (rs.take k)) x.2) else o, rfl, ?_, ?_⟩))
    · rintro j y ys hy rfl
      refine wt_all (we_if (wt_test (we_eqI (we_var rfl (we_var rfl ⟨fun h => we_varF rfl ?_, fun h => we_varF rfl ?_⟩)))))
      · dsimp only
        rw [List.take_add_one, hy, List.map_append]
        have hy2 : y = hiI (nm (names n.toNat (rs.take k)) x.1) (nm (names n.toNat (rs.take k)) x.2) := of_decide_eq_true h
        show _ = _ ++ [if y = hiI (nm (names n.toNat (rs.take k)) x.1) (nm (names n.toNat (rs.take k)) x.2) then _ else _]
        rw [if_pos hy2]
        rfl
      · dsimp only
        rw [List.take_add_one, hy, List.map_append]
        have hy2 : ¬ y = hiI (nm (names n.toNat (rs.take k)) x.1) (nm (names n.toNat (rs.take k)) x.2) := of_decide_eq_false h
        show _ = _ ++ [if y = hiI (nm (names n.toNat (rs.take k)) x.1) (nm (names n.toNat (rs.take k)) x.2) then _ else _]
        rw [if_neg hy2]
    · rintro ys rfl
      have en : names n.toNat (rs.take (k + 1)) = relab (names n.toNat (rs.take k)) x := foldl_take relab _ hx
      rw [List.take_length]
      refine ⟨rfl, ?_⟩
      dsimp only
      rw [en]
      exact ⟨_, _, _, rfl⟩
  rintro e ⟨a, b, d, rfl⟩
  rw [List.take_length]
  have ok := names_ok hin'
  refine ws_seq (ws_setO (we_cat (we_compL (we_var rfl ⟨by omega, fun k ys => ys = (rs.take k).map (·.1), rfl, ?_, ?_⟩))))
  · rintro k x ys hx rfl
    refine wt_all (we_flat (we_fst (we_var rfl ?_)))
    dsimp only
    rw [List.take_add_one, hx, List.map_append]
    rfl
  rintro ys rfl
  refine we_compL (we_var rfl ⟨by omega, fun k ys => ys = (rs.take k).map (·.2), rfl, ?_, ?_⟩)
  · rintro k x ys hx rfl
    refine wt_all (we_flat (we_snd (we_var rfl ?_)))
    dsimp only
    rw [List.take_add_one, hx, List.map_append]
    rfl
  rintro ys rfl
  rw [List.take_length]
  refine ⟨by rw [List.length_map, List.length_map]; omega, rfl, ?_⟩
  refine ws_seq (ws_setO (we_compR (we_var rfl ⟨⟨by omega, by omega⟩, fun k ys => ys = (rng k).map fun f => grp (names n.toNat rs) rs n.toNat f, rfl, ?_, ?_⟩)))
  · rintro k ys hk rfl
    refine wt_all (we_compR (we_var rfl ⟨⟨by omega, by omega⟩, fun j zs => zs = grp (names n.toNat rs) rs j (k : Int), rfl, ?_, ?_⟩))
    · rintro j zs hj rfl
      have hu : decide ((j : Int) ∈ rs.map (·.1) ++ rs.map (·.2)) = decide ((j : Int) ∈ used rs) := rfl
      refine (wt_and (wt_test (we_eqI (we_ix (we_var rfl (we_var rfl ⟨_, nm_at (xs := names n.toNat rs) (i := (j : Int)) (by omega) (by rw [ok.len]; omega), (we_var rfl ⟨fun hc0 => (wt_test (we_in (we_var rfl (we_var rfl ⟨fun hb => ?_, fun hb => ?_⟩)))), fun hc0 => ⟨fun hb => ?_, fun hb => ?_⟩⟩)⟩))))))
      · refine we_varF rfl ?_
        dsimp only
        rw [grp_succ, hc0, if_pos (by rw [← hu, hb]; rfl)]
      · dsimp only
        rw [grp_succ, hc0, if_neg (by rw [← hu, hb]; exact Bool.false_ne_true), List.append_nil]
      · cases hb
      · dsimp only
        rw [grp_succ, hc0, if_neg (by rw [Bool.false_and]; exact Bool.false_ne_true), List.append_nil]
    · rintro zs rfl
      show _ = _
      rw [rng_succ, List.map_append]
      rfl
  rintro xss rfl
  refine ⟨rfl, ?_⟩
  have gl : ∀ f, (grp (names n.toNat rs) rs n.toNat f).length ≤ 1000 := fun f => by
    unfold grp
    have := List.length_filter_le (fun p => decide (nm (names n.toNat rs) p = f) && decide (p ∈ used rs)) (rng n.toNat)
    rw [rng_len] at this
    omega
  refine ws_ret (we_filterM (α := Int) rfl (by rw [List.length_map, rng_len]; omega) (fun xs => decide ((0 : Int) < (xs.length : Nat))) (fun x hx => ?_) q)
  exact (wt_test (we_iB (we_len (we_var rfl (we_int rfl)))))

theorem ok_waiting_roads (T : Tx K mg t) : FnOk P w K mg base CX0 3 t.a_waiting_roads t.d_waiting_roads ["net"] (spF (cc K t) p_waits) := by
  refine T.F_waiting_roads.ok sc_waiting_roads (fun vs H Q E h => spF_len h (by rintro es R ⟨N, rfl, _⟩; rfl)) (fun cdv A outer s H vs Q E hr h => ⟨_, (pss_one (ps_ret (pe_comp (comp_mk ["place"] ["net"] [0] rfl (pi_range1 rfl T.z_range (pa_cons (pe_fldK (K := K) rfl (pv 0) rfl) pa_nil)) (fun _ _ _ _ => (pg_name (i := 0) (show (([("place" : Str)] : List Str) ++ ([("net" : Str)] : List Str)).Nodup by decide +kernel) rfl (by first | exact Or.inl rfl | exact Or.inr rfl))) own_name (fun _ _ _ _ => pts_nil) (fun _ _ _ _ => (pe_meth (pv 1) T.c_Net T.t_Net_outs (ok_Net_outs T) (hr.mono (by decide)) T.b_Net_outs .nil pass0 (pa_cons (pv 0) pa_nil))))))), fn_data h ?_⟩)
  rintro es R ⟨N, rfl, hn, hin, hrl, q⟩
  refine ws_ret (S' := []) (we_compR (we_size T.c_Net T.n_Net_size (we_var rfl ⟨⟨by omega, by omega⟩, fun k ys => ys = (rng k).map (outsD N.rs), rfl, ?_, ?_⟩)))
  · rintro k ys hk rfl
    refine wt_all (we_meth (by decide +kernel) (by decide +kernel) (we_var rfl (wa_cons (we_var rfl (wa_nil ⟨N, (k : Int), rfl, ⟨by omega, hk⟩, hrl, ?_⟩)))))
    dsimp only
    rw [rng_succ, List.map_append]
    rfl
  rintro ys rfl
  exact q
theorem ok_walk_on (T : Tx K mg t) : FnOk P w K mg base CX0 1 t.a_walk_on t.d_walk_on ["net", "start", "waiting"] (spN (cc K t) p_walkN) := by
  refine T.F_walk_on.ok sc_walk_on (fun vs H Q E h => spN_len h (by rintro es w es2 R ⟨N, st, rfl, rfl, _⟩; rfl)) (fun cdv A outer s H vs Q E hr h => ⟨_, (pss_cons (ps_set (i := 3) sc_walk_on.nd rfl (by first | exact Or.inl rfl | exact Or.inr rfl) (pv 1))
      (pss_cons (ps_set (i := 4) sc_walk_on.nd rfl (by first | exact Or.inl rfl | exact Or.inr rfl) (pe_lst pa_nil))
      (pss_cons (ps_while PassesOwn.never (pt_truthK (K := K) rfl (pe_ix (ix_listK (K := K) rfl) (pv 2) (pv 3) (fun _ _ => rfl)) (fun _ => rfl))
        (pss_cons (ps_set (i := 5) sc_walk_on.nd rfl (by first | exact Or.inl rfl | exact Or.inr rfl) (pe_bmK (K := K) rfl PySem.F.plainAttrs_list PySem.F.slot_list_pop PySem.F.type_list_pop mt_popAt (pe_ix (ix_listK (K := K) rfl) (pv 2) (pv 3) (fun _ _ => rfl)) (pa_cons pe_int pa_nil)))
      (pss_cons (ps_expr (pe_bmK (K := K) rfl PySem.F.plainAttrs_list PySem.F.slot_list_append PySem.F.type_list_append mt_append (pv 4) (pa_cons (pv 5) pa_nil)))
      (pss_one (ps_set (i := 3) sc_walk_on.nd rfl (by first | exact Or.inl rfl | exact Or.inr rfl) (pe_ix (ix_tupK (K := K) rfl) (pe_ix (ix_listK (K := K) rfl) (pe_fldK (K := K) rfl (pv 0) rfl) (pv 5) (fun _ _ => rfl)) pe_int (fun _ _ => rfl)))))))
      (pss_one (ps_ret (pv 4)))))), fn_dataN h ?_⟩)
  rintro es rows es2 R v0 ⟨N, st, rfl, rfl, hn, hin, hrl, hst, W0, q⟩
  have hlen := W0.len
  have hlen' : rows.length ≤ 8 := by omega
  refine ws_seq (ws_setF (we_var rfl ?_))
  refine ws_seq (ws_setO (α := List Int) (we_nil ⟨rfl, ?_⟩))
  have ht : tot rows ≤ 200 := by
    have := tot_le (w := rows) (b := 24) fun x hx => W0.sz x hx
    have : rows.length * 24 ≤ 8 * 24 := Nat.mul_le_mul_right _ hlen'
    omega
  refine ws_seq (ws_while (fun k e => ∃ w p path o, e = [.sh N, .sh st, .ow (⟨w⟩ : Pin v0 (List (List Int))), .sh p, .ow path, o] ∧ tot w = k ∧ path.length + tot w ≤ 200 ∧ (0 ≤ p ∧ p < N.n) ∧ (w.length : Int) = N.n ∧ (∀ row ∈ w, ∀ r ∈ row, 0 ≤ r ∧ r < N.rs.length) ∧ ∀ path2 w' q, WkR N.rs w p path2 w' q → WkR N.rs rows st (path ++ path2) w' q)
    ⟨_, rows, st, [], _, rfl, rfl, by simpa using ht, hst, hlen, fun row hr r hrr => ?_, fun _ _ _ h => h⟩ ?_)
  · obtain ⟨j, hj, e⟩ := List.mem_iff_getElem.mp hr
    exact (W0.row j row (by rw [List.getElem?_eq_getElem hj, e]) r hrr).1
  rintro k e ⟨w, p, path, o, rfl, hk, hpl, hp, hwl, hw, he⟩
  obtain ⟨row, hrow, hrow2, hrm⟩ := atI_ge (xs := w) (i := p) hp.1 (by omega)
  have hgd : w.getD p.toNat [] = row := by rw [List.getD_eq_getElem?_getD, hrow2]; rfl
  refine wt_truth (we_ix (we_varP (γ := List (List Int)) rfl (we_var rfl ⟨_, hrow, ⟨fun h => ?_, fun h => ?_⟩⟩)))
  · cases row with
    | nil => cases h
    | cons r rest =>
      have hr := hw _ hrm r List.mem_cons_self
      have hrd := rd_in hin hr.1 hr.2
      have ht2 := tot_set hrow2
      refine ws_seq (ws_popIP rfl (by decide) (we_var rfl ⟨p.toNat, r, rest, ?_, hrow2, ?_⟩))
      · unfold ixN
        rw [if_pos hp.1, if_pos (by omega)]
      refine ws_seq (ws_append rfl (we_varF rfl ⟨by omega, ?_⟩))
      refine ws_setF (we_snd (we_ix (we_roads T.c_Net T.n_Net_roads (we_var rfl (we_var rfl ⟨_, rd_at hr.1 hr.2, ?_⟩)))))
      refine ⟨tot (w.set p.toNat rest), by omega, w.set p.toNat rest, en N.rs r, path ++ [r], _, rfl, rfl, ?_, hrd.2, by rw [List.length_set]; exact hwl, fun row hrw x hx => ?_, fun path2 w' q h2 => ?_⟩
      · rw [List.length_append]
        simp
        omega
      · rcases List.mem_or_eq_of_mem_set hrw with z | z
        · exact hw row z x hx
        · subst z
          exact hw _ hrm x (List.mem_cons_of_mem _ hx)
      · rw [List.append_assoc]
        exact he _ _ _ (.cons hgd h2)
  · have hr0 : row = [] := by cases row with | nil => rfl | cons _ _ => cases h
    subst hr0
    have h2 := he [] w p (.nil hgd)
    rw [List.append_nil] at h2
    exact ws_retM (i := 2) (S' := [4]) rfl (by decide) (we_varM rfl (q _ _ _ (h2.done hin W0 hst)))
theorem ok_with_bends (T : Tx K mg t) : FnOk P w K mg base CX0 2 t.a_with_bends t.d_with_bends ["net", "path", "waiting"] (spN (cc K t) p_bendsW) := by
  refine T.F_with_bends.ok sc_with_bends (fun vs H Q E h => spN_len h (by rintro es w es2 R ⟨N, path, rfl, rfl, _⟩; rfl)) (fun cdv A outer s H vs Q E hr h => ⟨_, (pss_cons (ps_set (i := 3) sc_with_bends.nd rfl (by first | exact Or.inl rfl | exact Or.inr rfl) (pv 1))
      (pss_cons (ps_set (i := 4) sc_with_bends.nd rfl (by first | exact Or.inl rfl | exact Or.inr rfl) pe_int)
      (pss_cons (ps_while PassesOwn.never (pt_cmpR op_lt (pv 4) (pe_callB (call_lenK (K := K) rfl) rfl T.z_len PySem.boot_len (pa_cons (pv 3) pa_nil)) (nomark _))
        (pss_cons (ps_set (i := 5) sc_with_bends.nd rfl (by first | exact Or.inl rfl | exact Or.inr rfl) (pe_ix (ix_tupK (K := K) rfl) (pe_ix (ix_listK (K := K) rfl) (pe_fldK (K := K) rfl (pv 0) rfl) (pe_ix (ix_listK (K := K) rfl) (pv 3) (pv 4) (fun _ _ => rfl)) (fun _ _ => rfl)) pe_int (fun _ _ => rfl)))
      (pss_cons (ps_set (i := 3) sc_with_bends.nd rfl (by first | exact Or.inl rfl | exact Or.inr rfl) (pe_op op_cat (pe_op op_cat (pe_slice (sl_listK (K := K) rfl) (pv 3) po_none (po_some (pv 4))) (pe_call (ok_walk_on T) (hr.mono (by decide)) rfl T.m_walk_on T.F_walk_on.kp T.b_walk_on .nil pass0 (pa_cons (pv 0) (pa_cons (pv 5) (pa_cons (pv 2) pa_nil))))) (pe_slice (sl_listK (K := K) rfl) (pv 3) (po_some (pv 4)) po_none)))
      (pss_one (ps_set (i := 4) sc_with_bends.nd rfl (by first | exact Or.inl rfl | exact Or.inr rfl) (pe_op op_add (pv 4) pe_int))))))
      (pss_one (ps_ret (pv 3)))))), fn_dataN h ?_⟩)
  rintro es w0 es2 R v0 ⟨N, path, rfl, rfl, hn, hin, hrl, hne, hpr, htot, W0, q⟩
  refine ws_seq (ws_set (α := List Int) (we_varS rfl ?_))
  refine ws_seq (ws_setF (we_int ?_))
  refine ws_seq (ws_while (fun m e => ∃ (whole : List Int) (w : List (List Int)) (k : Nat) (o : Bool) (x : Ent (cc K t)), e = [.sh N, .sh path, .ow (⟨w⟩ : Pin v0 (List (List Int))), .en o whole, .sh (k : Int), x] ∧ (∀ r ∈ whole, 0 ≤ r ∧ r < N.rs.length) ∧ whole.length + w.flatten.length ≤ 24 ∧ Wo N.rs N.n w ∧ k ≤ whole.length ∧ (k = 0 ∨ o = true) ∧ whole ≠ [] ∧ m = whole.length + 2 * w.flatten.length - k)
    ⟨_, path, w0, 0, false, _, rfl, hpr, htot, W0, Nat.zero_le _, .inl rfl, hne, rfl⟩ ?_)
  rintro m e ⟨whole, w, k, o, x, rfl, hwr, hpl, W, hle, hk, hwne, hm⟩
  refine (wt_test (we_iB (we_var rfl (we_len (we_var rfl ⟨fun h => ?_, fun h => ?_⟩)))))
  · have hlt : k < whole.length := by have := of_decide_eq_true h; omega
    obtain ⟨y, gy, gy', ym⟩ := atI_ge (xs := whole) (i := (k : Int)) (by omega) (by omega)
    have hyr := hwr y ym
    have ir := rd_in hin hyr.1 hyr.2
    refine ws_seq (ws_setF (we_fst (we_ix (we_roads T.c_Net T.n_Net_roads (we_var rfl (we_ix (we_var rfl (we_var rfl ⟨_, gy, ⟨_, rd_at hyr.1 hyr.2, ?_⟩⟩))))))))
    refine ws_seq (ws_setM (wm_cat3 (α := Int) (we_slice (we_var rfl (wo_none (wo_some (we_var rfl ?_)))))))
    have e1 : cutL whole none (some (k : Int)) = whole.take k := by rw [cut_to (by omega) (by omega), Int.toNat_natCast]
    have e2 : cutL whole (some (k : Int)) none = whole.drop k := by rw [cut_from (by omega) (by omega), Int.toNat_natCast]
    have htk : (whole.take k).length = k := List.length_take_of_le (Nat.le_of_lt hlt)
    rw [e1]
    refine wm_pin (γ := List (List Int)) (i := 2) rfl (wm_call (γ := List (List Int)) (i := 2) rfl (wam_cons (wea_var rfl (by decide) (wam_cons (wea_flat (we_var rfl (wam_self (α := List (List Int)) rfl (waq_nil ⟨N, sp N.rs y, rfl, rfl, hn, hin, hrl, ir.1, W, fun bend w' qe D => ⟨w', rfl, ?_, (we_slice (we_var rfl (wo_some (we_var rfl (wo_none ⟨?_, rfl, ?_⟩)))))⟩⟩))))))))
    · have := D.perm.length_eq
      rw [List.length_append] at this
      rw [htk]
      omega
    · have := D.perm.length_eq
      rw [List.length_append] at this
      rw [e2, htk, List.length_drop]
      omega
    have hl2 := D.perm.length_eq
    rw [List.length_append] at hl2
    rw [e2]
    have hlen : (whole.take k ++ bend ++ whole.drop k).length = whole.length + bend.length := by
      rw [List.length_append, List.length_append, htk, List.length_drop]
      omega
    refine ws_setF (we_add (we_var rfl (we_int ?_)))
    refine ⟨(whole.take k ++ bend ++ whole.drop k).length + 2 * w'.flatten.length - (k + 1), ?_, whole.take k ++ bend ++ whole.drop k, w', k + 1, true, _, rfl, fun r hr => ?_, ?_, D.wo, ?_, .inr rfl, fun z => ?_, rfl⟩
    · rw [hlen]
      omega
    · rcases List.mem_append.mp hr with z | z
      · rcases List.mem_append.mp z with z | z
        · exact hwr r (List.mem_of_mem_take z)
        · exact (W.mem (D.perm.mem_iff.mp (List.mem_append_left _ z))).1
      · exact hwr r (List.mem_of_mem_drop z)
    · rw [hlen]
      omega
    · rw [hlen]
      omega
    · rw [z] at hlen
      have : 0 = whole.length + bend.length := hlen
      omega
  · have hge : k = whole.length := by have := of_decide_eq_false h; omega
    subst hge
    have ho : o = true := by
      rcases hk with z | z
      · exact absurd (List.length_eq_zero_iff.mp z) hwne
      · exact z
    subst ho
    exact ws_retM (i := 2) (S' := [3]) rfl (by decide) (we_varM rfl (q _ _))

theorem ok_odd_places (T : Tx K mg t) : FnOk P w K mg base CX0 3 t.a_odd_places t.d_odd_places ["net"] (spF (cc K t) p_odd) := by
  refine T.F_odd_places.ok sc_odd_places (fun vs H Q E h => spF_len h (by rintro es R ⟨N, rfl, _⟩; rfl)) (fun cdv A outer s H vs Q E hr h => ⟨_, (pss_one (ps_ret (pe_comp (comp_mk ["place"] ["net"] [0] rfl (pi_range1 rfl T.z_range (pa_cons (pe_fldK (K := K) rfl (pv 0) rfl) pa_nil)) (fun _ _ _ _ => (pg_name (i := 0) (show (([("place" : Str)] : List Str) ++ ([("net" : Str)] : List Str)).Nodup by decide +kernel) rfl (by first | exact Or.inl rfl | exact Or.inr rfl))) own_name (fun _ _ _ _ => (pts_one (pt_cmpR op_ne (pe_callB (call_lenK (K := K) rfl) rfl T.z_len PySem.boot_len (pa_cons (pe_meth (pv 1) T.c_Net T.t_Net_outs (ok_Net_outs T) (hr.mono (by decide)) T.b_Net_outs .nil pass0 (pa_cons (pv 0) pa_nil)) pa_nil)) (pe_callB (call_lenK (K := K) rfl) rfl T.z_len PySem.boot_len (pa_cons (pe_meth (pv 1) T.c_Net T.t_Net_ins (ok_Net_ins T) (hr.mono (by decide)) T.b_Net_ins .nil pass0 (pa_cons (pv 0) pa_nil)) pa_nil)) (nomark _)))) (fun _ _ _ _ => (pv 0)))))), fn_data h ?_⟩)
  rintro es R ⟨N, rfl, hn, hrl, q⟩
  refine ws_ret (S' := []) (we_compR (we_size T.c_Net T.n_Net_size (we_var rfl ⟨⟨by omega, by omega⟩, fun k ys => ys = oddD k N.rs, rfl, ?_, ?_⟩)))
  · rintro k ys hk rfl
    refine (wt_test (we_neI (we_len (we_meth (by decide +kernel) (by decide +kernel) (we_var rfl (wa_cons (we_var rfl (wa_nil ⟨N, (k : Int), rfl, ⟨by omega, hk⟩, hrl, (we_len (we_meth (by decide +kernel) (by decide +kernel) (we_var rfl (wa_cons (we_var rfl (wa_nil ⟨N, (k : Int), rfl, ⟨by omega, hk⟩, hrl, ⟨fun h => we_varF rfl ?_, fun h => ?_⟩⟩))))))⟩))))))))
    · show _ = oddD (k + 1) N.rs
      unfold oddD
      rw [filter_rng_succ, if_pos]
      exact h
    · show _ = oddD (k + 1) N.rs
      unfold oddD
      rw [filter_rng_succ, if_neg, List.append_nil]
      unfold outsD insD
      rw [h]
      exact Bool.false_ne_true
  · rintro ys rfl
    exact q

theorem ok_walk_round (T : Tx K mg t) : FnOk P w K mg base CX0 4 t.a_walk_round t.d_walk_round ["net"] (spF (cc K t) p_wroundW) := by
  refine T.F_walk_round.ok sc_walk_round (fun vs H Q E h => spF_len h (by rintro es R ⟨N, rfl, _⟩; rfl)) (fun cdv A outer s H vs Q E hr h => ⟨_, (pss_cons (ps_set (i := 1) sc_walk_round.nd rfl (by first | exact Or.inl rfl | exact Or.inr rfl) (pe_call (ok_waiting_roads T) (hr.mono (by decide)) rfl T.m_waiting_roads T.F_waiting_roads.kp T.b_waiting_roads .nil pass0 (pa_cons (pv 0) pa_nil)))
      (pss_one (ps_ret (pe_call (ok_with_bends T) (hr.mono (by decide)) rfl T.m_with_bends T.F_with_bends.kp T.b_with_bends .nil pass0 (pa_cons (pv 0) (pa_cons (pe_call (ok_walk_on T) (hr.mono (by decide)) rfl T.m_walk_on T.F_walk_on.kp T.b_walk_on .nil pass0 (pa_cons (pv 0) (pa_cons (pe_ix (ix_tupK (K := K) rfl) (pe_ix (ix_listK (K := K) rfl) (pe_fldK (K := K) rfl (pv 0) rfl) pe_int (fun _ _ => rfl)) pe_int (fun _ _ => rfl)) (pa_cons (pv 1) pa_nil)))) (pa_cons (pv 1) pa_nil))))))), fn_data h ?_⟩)
  rintro es R ⟨N, rfl, hn, hin, hrl, hne, q⟩
  have hn' : ((N.n.toNat : Nat) : Int) = N.n := by omega
  have hin' : InNet ((N.n.toNat : Nat) : Int) N.rs := by rw [hn']; exact hin
  have hpos := List.length_pos_iff.mpr hne
  have ir := rd_in hin (r := 0) (by omega) (by omega)
  obtain ⟨W0, P0⟩ := waits_ok hin' hrl
  have Wn := W0
  rw [hn'] at Wn
  have l0 := P0.length_eq
  rw [rng_len] at l0
  refine ws_seq (ws_setO (α := List (List Int)) (we_call (wa_cons (we_var rfl (wa_nil ⟨N, rfl, hn, hin, hrl, ⟨rfl, ?_⟩⟩)))))
  refine ws_retWM (wm_nest (α := NetD) (γ := List (List Int)) (i0 := 0) (i := 1) rfl (wm_call (γ := List (List Int)) (i := 1) rfl (wam_cons (wea_var rfl (by decide) (wam_cons (wea_flat (we_fst (we_ix (we_roads T.c_Net T.n_Net_roads (we_var rfl (we_int ⟨_, rd_at (by omega) (by omega), (wam_self (α := List (List Int)) rfl (waq_nil ⟨N, sp N.rs 0, rfl, rfl, hn, hin, hrl, ir.1, Wn, fun path w1 qe D => ⟨false, N, w1, rfl, by decide, rfl, ⟨N, path, rfl, rfl, hn, hin, hrl, ?_, ?_, ?_, D.wo, fun whole w2 => q whole⟩⟩⟩))⟩)))))))))))
  · intro z
    have h1 := D.fst z
    have h2 := W0.no ir.1.1 h1
    have h3 : 0 < cO N.rs (waits N.n.toNat N.rs).flatten (sp N.rs 0) := List.countP_pos_iff.mpr ⟨0, P0.mem_iff.mpr (mem_rng.mpr ⟨by omega, by omega⟩), decide_eq_true rfl⟩
    omega
  · intro r hr
    exact mem_rng.mp (P0.mem_iff.mp (D.perm.mem_iff.mp (List.mem_append_left _ hr)))
  · have := D.perm.length_eq
    rw [List.length_append] at this
    omega

theorem ok_find (T : Tx K mg t) : FnOk P w K mg base CX0 5 t.a_find t.d_find ["net"] (spF (cc K t) p_findW) := by
  refine T.F_find.ok sc_find (fun vs H Q E h => spF_len h (by rintro es R ⟨N, rfl, _⟩; rfl)) (fun cdv A outer s H vs Q E hr h => ⟨_, (pss_cons (ps_set (i := 1) sc_find.nd rfl (by first | exact Or.inl rfl | exact Or.inr rfl) (pe_call (ok_odd_places T) (hr.mono (by decide)) rfl T.m_odd_places T.F_odd_places.kp T.b_odd_places .nil pass0 (pa_cons (pv 0) pa_nil)))
      (pss_cons (ps_if (pt_truthK (K := K) rfl (pv 1) (fun _ => rfl))
        (pss_one (ps_ret (pe_tup (pa_cons pe_str (pa_cons (pe_ix (ix_listK (K := K) rfl) (pv 1) pe_int (fun _ _ => rfl)) pa_nil)))))
        pss_nil)
      (pss_cons (ps_set (i := 2) sc_find.nd rfl (by first | exact Or.inl rfl | exact Or.inr rfl) (pe_call (ok_parts T) (hr.mono (by decide)) rfl T.m_parts T.F_parts.kp T.b_parts .nil pass0 (pa_cons (pv 0) pa_nil)))
      (pss_cons (ps_if (pt_cmpR op_gt (pe_callB (call_lenK (K := K) rfl) rfl T.z_len PySem.boot_len (pa_cons (pv 2) pa_nil)) pe_int (nomark _))
        (pss_one (ps_ret (pe_tup (pa_cons pe_str (pa_cons (pe_ix (ix_listK (K := K) rfl) (pv 2) pe_int (fun _ _ => rfl)) pa_nil)))))
        pss_nil)
      (pss_cons (ps_if (pt_not (pt_truthK (K := K) rfl (pe_fldK (K := K) rfl (pv 0) rfl) (fun _ => rfl)))
        (pss_one (ps_ret (pe_tup (pa_cons pe_str (pa_cons (pe_lst pa_nil) pa_nil)))))
        pss_nil)
      (pss_one (ps_ret (pe_tup (pa_cons pe_str (pa_cons (pe_call (ok_walk_round T) (hr.mono (by decide)) rfl T.m_walk_round T.F_walk_round.kp T.b_walk_round .nil pass0 (pa_cons (pv 0) pa_nil)) pa_nil)))))))))), fn_data h ?_⟩)
  rintro es R ⟨N, rfl, hn, hin, hrl, q⟩
  refine ws_seq (ws_setO (α := List Int) (we_call (wa_cons (we_var rfl (wa_nil ⟨N, rfl, hn, hrl, ⟨rfl, ?_⟩⟩)))))
  cases e : oddD N.n.toNat N.rs with
  | cons a l =>
    refine ws_seq (ws_if (wt_truth (we_var rfl ⟨fun _ => ?_, fun h => (by cases h)⟩)))
    exact ws_ret (S' := []) (we_tupT (we_str (we_inl (we_flat (we_ix (we_var rfl (we_int ⟨a, atI_nat (j := 0) rfl, q _ (findW_odd e)⟩)))))))
  | nil =>
    refine ws_seq (ws_if (wt_truth (we_var rfl ⟨fun h => (by cases h), fun _ => ws_next ?_⟩)))
    refine ws_seq (ws_setO (α := List (List Int)) (we_call (wa_cons (we_var rfl (wa_nil ⟨N, rfl, hn, hin, hrl, ⟨rfl, ?_⟩⟩)))))
    refine ws_seq (ws_if (wt_test (we_iB (we_len (we_var rfl (we_int ⟨fun h => ?_, fun h => ws_next ?_⟩))))))
    · have h1 : 1 < (partsD N.n.toNat N.rs).length := by
        have := of_decide_eq_true h
        omega
      have h0 := List.getElem?_eq_getElem (l := partsD N.n.toNat N.rs) (i := 0) (by omega)
      exact ws_ret (S' := [2]) (we_tupT (we_str (we_inr (we_ix (we_varM rfl (we_int ⟨_, atI_nat (j := 0) h0, q _ (findW_apart h1)⟩))))))
    have hone : (partsD N.n.toNat N.rs).length ≤ 1 := by
      have := of_decide_eq_false h
      omega
    refine ws_seq (ws_if (wt_not (wt_truth (we_roads T.c_Net T.n_Net_roads (we_var rfl ⟨fun h => ?_, fun h => ws_next ?_⟩)))))
    · have hz : N.rs = [] := by
        cases e2 : N.rs with
        | nil => rfl
        | cons _ _ => rw [e2] at h; cases h
      exact ws_ret (S' := []) (we_tupT (we_str (we_inr (we_nil (q _ (findW_round e hone))))))
    · have hne : N.rs ≠ [] := by
        intro e2
        rw [e2] at h
        cases h
      exact ws_ret (S' := []) (we_tup (we_str (we_inr (we_call (wa_cons (we_var rfl (wa_nil ⟨N, rfl, hn, hin, hrl, hne, fun cs => (q _ (findW_round e hone))⟩)))))) trivial)

theorem ok_q_odd (T : Tx K mg t) : FnOk P w K mg base CX0 1 t.a_q_odd t.d_q_odd ["size", "roads"] (spF (cc K t) p_qodd) := by
  refine T.F_q_odd.ok sc_q_odd (fun vs H Q E h => spF_len h (by rintro es R ⟨n, rs, rfl, _⟩; rfl)) (fun cdv A outer s H vs Q E hr h => ⟨_, (pss_cons (ps_set (i := 2) sc_q_odd.nd rfl (by first | exact Or.inl rfl | exact Or.inr rfl) (pe_comp (comp_mk ["road"] [] [] rfl (pi_listK (K := K) rfl (pv 1)) (fun _ _ _ _ => (pg_name (i := 0) (show (([("road" : Str)] : List Str) ++ ([] : List Str)).Nodup by decide +kernel) rfl (by first | exact Or.inl rfl | exact Or.inr rfl))) own_name (fun _ _ _ _ => pts_nil) (fun _ _ _ _ => (pe_ix (ix_tupK (K := K) rfl) (pv 0) pe_int (fun _ _ => rfl))))))
      (pss_cons (ps_set (i := 3) sc_q_odd.nd rfl (by first | exact Or.inl rfl | exact Or.inr rfl) (pe_comp (comp_mk ["road"] [] [] rfl (pi_listK (K := K) rfl (pv 1)) (fun _ _ _ _ => (pg_name (i := 0) (show (([("road" : Str)] : List Str) ++ ([] : List Str)).Nodup by decide +kernel) rfl (by first | exact Or.inl rfl | exact Or.inr rfl))) own_name (fun _ _ _ _ => pts_nil) (fun _ _ _ _ => (pe_ix (ix_tupK (K := K) rfl) (pv 0) pe_int (fun _ _ => rfl))))))
      (pss_one (ps_ret (pe_comp (comp_mk ["place"] ["starts", "goals"] [2, 3] rfl (pi_range1 rfl T.z_range (pa_cons (pv 0) pa_nil)) (fun _ _ _ _ => (pg_name (i := 0) (show (([("place" : Str)] : List Str) ++ ([("starts" : Str), ("goals" : Str)] : List Str)).Nodup by decide +kernel) rfl (by first | exact Or.inl rfl | exact Or.inr rfl))) own_name (fun _ _ _ _ => (pts_one (pt_cmpR op_ne (pe_bmK (K := K) rfl PySem.F.plainAttrs_list PySem.F.slot_list_count PySem.F.type_list_count (mt_countIK (K := K) rfl) (pv 1) (pa_cons (pv 0) pa_nil)) (pe_bmK (K := K) rfl PySem.F.plainAttrs_list PySem.F.slot_list_count PySem.F.type_list_count (mt_countIK (K := K) rfl) (pv 2) (pa_cons (pv 0) pa_nil)) (nomark _)))) (fun _ _ _ _ => (pv 0)))))))), fn_data h ?_⟩)
  rintro es R ⟨n, rs, rfl, hn, hrl, q⟩
  refine ws_seq (ws_setO (we_compL (α := Int × Int) (β := Int) (we_var rfl ⟨by omega, fun k ys => ys = (rs.take k).map (·.1), rfl, ?_, ?_⟩)))
  · rintro k x ys hx rfl
    refine wt_all (we_flat (we_fst (we_var rfl ?_)))
    dsimp only
    rw [List.take_add_one, hx, List.map_append]
    rfl
  rintro ys rfl
  refine ⟨rfl, ?_⟩
  rw [List.take_length]
  refine ws_seq (ws_setO (we_compL (α := Int × Int) (β := Int) (we_var rfl ⟨by omega, fun k ys => ys = (rs.take k).map (·.2), rfl, ?_, ?_⟩)))
  · rintro k x ys hx rfl
    refine wt_all (we_flat (we_snd (we_var rfl ?_)))
    dsimp only
    rw [List.take_add_one, hx, List.map_append]
    rfl
  rintro ys rfl
  refine ⟨rfl, ?_⟩
  rw [List.take_length]
  refine ws_ret (S' := []) (we_compR (we_var rfl ⟨⟨by omega, by omega⟩, fun k ys => ys = oddD k rs, rfl, ?_, ?_⟩))
  · rintro k ys hk rfl
    refine (wt_test (we_neI (we_count (we_var rfl (we_var rfl (we_count (we_var rfl (we_var rfl ⟨fun h => we_varF rfl ?_, fun h => ?_⟩))))))))
    · rw [count_outs, count_ins] at h
      show _ = oddD (k + 1) rs
      unfold oddD
      rw [filter_rng_succ, if_pos]
      exact h
    · rw [count_outs, count_ins] at h
      show _ = oddD (k + 1) rs
      unfold oddD
      rw [filter_rng_succ, if_neg, List.append_nil]
      rw [h]
      exact Bool.false_ne_true
  · rintro ys rfl
    exact q

theorem at_getD {xs : List Int} {i : Nat} (h : i < xs.length) : atI xs (i : Int) = some (xs.getD i 0) := by
  obtain ⟨v, h1, h2, _⟩ := atI_ge (xs := xs) (i := (i : Int)) (by omega) (by omega)
  rw [Int.toNat_natCast] at h2
  rw [h1, List.getD_eq_getElem?_getD, h2]
  rfl
theorem ok_cleared (T : Tx K mg t) : FnOk P w K mg base CX0 1 t.a_cleared t.d_cleared ["row", "top", "last"] (spF (cc K t) p_clear) := by
  refine T.F_cleared.ok sc_cleared (fun vs H Q E h => spF_len h (by rintro es R ⟨row, top, last, rfl, _⟩; rfl)) (fun cdv A outer s H vs Q E hr h => ⟨_, (pss_one (ps_ret (pe_comp (comp_mk ["k"] ["top", "row", "last"] [1, 0, 2] rfl (pi_range2 rfl T.z_range (pa_cons pe_int (pa_cons (pe_callB (call_lenK (K := K) rfl) rfl T.z_len PySem.boot_len (pa_cons (pv 0) pa_nil)) pa_nil))) (fun _ _ _ _ => (pg_name (i := 0) (show (([("k" : Str)] : List Str) ++ ([("top" : Str), ("row" : Str), ("last" : Str)] : List Str)).Nodup by decide +kernel) rfl (by first | exact Or.inl rfl | exact Or.inr rfl))) own_name (fun _ _ _ _ => pts_nil) (fun _ _ _ _ => (pe_op op_fdiv (pe_op op_sub (pe_op op_mul (pe_ix (ix_listK (K := K) rfl) (pv 1) pe_int (fun _ _ => rfl)) (pe_ix (ix_listK (K := K) rfl) (pv 2) (pv 0) (fun _ _ => rfl))) (pe_op op_mul (pe_ix (ix_listK (K := K) rfl) (pv 2) pe_int (fun _ _ => rfl)) (pe_ix (ix_listK (K := K) rfl) (pv 1) (pv 0) (fun _ _ => rfl)))) (pv 3))))))), fn_data h ?_⟩)
  rintro es R ⟨row, top, last, rfl, hl, htl, hd, hc1, hc2, q⟩
  refine ws_ret (S' := []) (we_compR2 (we_int (we_len (we_var rfl ⟨⟨by omega, by omega, by decide, by decide, by omega⟩, fun k ys => ys = (List.range k).map fun i => (top.getD 0 0 * row.getD (i + 1) 0 - row.getD 0 0 * top.getD (i + 1) 0) / last, rfl, ?_, ?_⟩))))
  · rintro k ys hk rfl
    have a1 : atI row (1 + (k : Int)) = some (row.getD (k + 1) 0) := by
      rw [show 1 + (k : Int) = ((k + 1 : Nat) : Int) by omega]
      exact at_getD (by omega)
    have a2 : atI top (1 + (k : Int)) = some (top.getD (k + 1) 0) := by
      rw [show 1 + (k : Int) = ((k + 1 : Nat) : Int) by omega]
      exact at_getD (by omega)
    refine wt_all (we_iC (we_sub (we_iC (we_ix (we_var rfl (we_int ⟨_, at_getD (i := 0) (by omega), (we_ix (we_var rfl (we_var rfl ⟨_, a1, ⟨.inl hc1, (we_iC (we_ix (we_var rfl (we_int ⟨_, at_getD (i := 0) (by omega), (we_ix (we_var rfl (we_var rfl ⟨_, a2, ⟨.inl hc2, (we_var rfl ⟨hd, ?_⟩)⟩⟩)))⟩))))⟩⟩)))⟩))))))
    dsimp only
    rw [List.range_succ, List.map_append]
    rfl
  · rintro ys rfl
    have : (((row.length : Nat) : Int) - 1).toNat = row.length - 1 := by omega
    rw [this]
    exact q
theorem bst_small {M : Mx} {n k : Nat} {rows : List (List Int)} {last : Int} (B : Bst M n k rows last) (hk : k < n) (hn : n ≤ 7) (h : ∀ i j, (M i j).natAbs ≤ 24) : ∀ r ∈ rows, -(2 ^ 64) < r.getD 0 0 ∧ r.getD 0 0 < 2 ^ 64 := by
  obtain ⟨hl, h0, R, hR, rfl⟩ := B
  intro r hr
  obtain ⟨i, hi, rfl⟩ := List.mem_map.mp hr
  have hi' := List.mem_range'_1.mp hi
  have e : ((List.range' k (n - k)).map (R i)).getD 0 0 = R i k := by
    rw [show n - k = (n - (k + 1)) + 1 by omega, List.range'_succ]
    rfl
  rw [e, ← bord1 (hR i hi'.1 (by omega)) hl.symm h0 (Nat.le_refl k)]
  have := minor_small h (k := k) (i := i) (j := k) (by omega)
  omega
theorem ok_determinant (T : Tx K mg t) : FnOk P w K mg base CX0 2 t.a_determinant t.d_determinant ["matrix"] (spK (cc K t) p_deter) := by
  refine T.F_determinant.ok sc_determinant (fun vs H Q E h => spK_len h) (fun cdv A outer s H vs Q E hr h => ⟨_, (pss_cons (ps_set (i := 1) sc_determinant.nd rfl (by first | exact Or.inl rfl | exact Or.inr rfl) (pe_callTy (call_listK (K := K) rfl) rfl T.z_list (by decide +kernel) (pa_cons (pv 0) pa_nil)))
      (pss_cons (ps_set (i := 2) sc_determinant.nd rfl (by first | exact Or.inl rfl | exact Or.inr rfl) pe_int)
      (pss_cons (ps_while PassesOwn.never (pt_truthK (K := K) rfl (pv 1) (fun _ => rfl))
        (pss_cons (ps_set (i := 3) sc_determinant.nd rfl (by first | exact Or.inl rfl | exact Or.inr rfl) (pe_bmK (K := K) rfl PySem.F.plainAttrs_list PySem.F.slot_list_pop PySem.F.type_list_pop mt_popAt (pv 1) (pa_cons pe_int pa_nil)))
      (pss_cons (ps_if (pt_cmpR op_eq (pe_ix (ix_listK (K := K) rfl) (pv 3) pe_int (fun _ _ => rfl)) pe_int (nomark _))
        (pss_one (ps_ret pe_int))
        pss_nil)
      (pss_cons (ps_setComp (i := 1) sc_determinant.nd rfl rfl (comp_mk ["row"] ["top", "last"] [3, 2] rfl (pi_listK (K := K) rfl (pv 1)) (fun _ _ _ _ => (pg_name (i := 0) (show (([("row" : Str)] : List Str) ++ ([("top" : Str), ("last" : Str)] : List Str)).Nodup by decide +kernel) rfl (by first | exact Or.inl rfl | exact Or.inr rfl))) own_name (fun _ _ _ _ => pts_nil) (fun _ _ _ _ => (pe_call (ok_cleared T) (hr.mono (by decide)) rfl T.m_cleared T.F_cleared.kp T.b_cleared .nil pass0 (pa_cons (pv 0) (pa_cons (pv 1) (pa_cons (pv 2) pa_nil)))))))
      (pss_one (ps_set (i := 2) sc_determinant.nd rfl (by first | exact Or.inl rfl | exact Or.inr rfl) (pe_ix (ix_listK (K := K) rfl) (pv 3) pe_int (fun _ _ => rfl))))))))
      (pss_one (ps_ret (pv 2)))))), fnK_data h ?_⟩)
  rintro rows R ⟨M, n, rfl, hn, hent, hhd, q⟩
  refine ws_seq (ws_setM (wm_listM rfl ⟨rfl, ?_⟩))
  refine ws_seq (ws_setF (we_int ?_))
  refine ws_seq (ws_while (fun k e => ∃ (j : Nat) (rows : List (List Int)) (last : Int) (o : Ent (cc K t)), k = n - j ∧ j ≤ n ∧ Bst M n j rows last ∧ e = [.no, .ow rows, .sh last, o]) ⟨n, 0, _, 1, _, rfl, by omega, bst0, rfl⟩ ?_)
  rintro k e ⟨j, rows, last, o, rfl, hj, B, rfl⟩
  refine wt_truth (we_var rfl ⟨fun h => ?_, fun h => ?_⟩)
  · have hjn : j < n := by
      by_cases z : j = n
      · subst z
        rw [(bst_end B).1] at h
        cases h
      · omega
    have hsm := bst_small B hjn hn hent
    have hlast : 0 < last ∧ last < 1073741824 := by
      have h1 := hhd j (by omega)
      have h2 := B.1
      have h3 := B.2.1
      omega
    obtain ⟨top, rest, rfl, htl, hrl, htop, hst⟩ := bst_step B hjn
    have hts := hsm top List.mem_cons_self
    refine ws_seq (ws_setM (wm_pop0 rfl ⟨rfl, ?_⟩))
    have a0 : atI top 0 = some (top.getD 0 0) := at_getD (i := 0) (by omega)
    refine ws_seq (ws_if (wt_test (we_eqI (we_ix (we_var rfl (we_int ⟨_, a0, (we_int ⟨fun h => ws_retF (we_int (q 0 (.inr ⟨rfl, j + 1, by omega, by rw [← htop]; exact of_decide_eq_true h⟩))), fun h => ws_next ?_⟩)⟩))))))
    have hne : Dt (j + 1) M ≠ 0 := by rw [← htop]; exact of_decide_eq_false h
    have B' := hst hne
    have hrest : rest.length ≤ 8 := by
      obtain ⟨_, _, R', _, e⟩ := B
      have := congrArg List.length e
      rw [List.length_map, List.length_range', List.length_cons] at this
      omega
    refine ws_seq (ws_setO (α := List (List Int)) (we_compL (α := List Int) (β := List Int) (we_var rfl ⟨by omega, fun i ys => ys = (rest.take i).map (fun r => clD r top last), rfl, ?_, ?_⟩)))
    · rintro i r ys hr rfl
      have hrm := List.mem_of_getElem? hr
      have hr1 := hrl r hrm
      refine wt_all (we_call (wa_cons (we_var rfl (wa_cons (we_var rfl (wa_cons (we_var rfl (wa_nil ⟨r, top, last, rfl, by omega, by omega, hlast, hts, hsm r (List.mem_cons_of_mem _ hrm), ?_⟩))))))))
      dsimp only
      rw [List.take_add_one, hr, List.map_append]
      rfl
    rintro ys rfl
    rw [List.take_length]
    refine ⟨rfl, ?_⟩
    refine ws_setF (we_ix (we_var rfl (we_int ⟨_, a0, ?_⟩)))
    rw [htop]
    exact ⟨n - (j + 1), by omega, j + 1, _, _, _, rfl, by omega, B', rfl⟩
  · have hjn : j = n := by
      by_cases z : j < n
      · exfalso
        obtain ⟨top, rest, rfl, _⟩ := bst_step B z
        cases h
      · omega
    subst hjn
    exact ws_retF (we_var rfl (q _ (.inl (bst_end B).2)))
theorem take_filter {xs : List Int} {k : Nat} {g : Int} {f : Int → Bool} (h : xs[k]? = some g) : (xs.take (k + 1)).filter f = (xs.take k).filter f ++ (if f g = true then [g] else []) := by
  rw [List.take_add_one, h, List.filter_append]
  congr 1
  show List.filter f [g] = _
  by_cases e : f g = true
  · rw [if_pos e, List.filter_cons_of_pos e, List.filter_nil]
  · rw [if_neg e, List.filter_cons_of_neg e, List.filter_nil]
theorem ok_tree_row (T : Tx K mg t) : FnOk P w K mg base CX0 3 t.a_tree_row t.d_tree_row ["net", "place", "others", "one"] (spF (cc K t) p_trow) := by
  refine T.F_tree_row.ok sc_tree_row (fun vs H Q E h => spF_len h (by rintro es R ⟨N, p0, os, q, rfl, _⟩; rfl)) (fun cdv A outer s H vs Q E hr h => ⟨_, (pss_cons (ps_setComp (i := 4) sc_tree_row.nd rfl rfl (comp_mk ["road"] ["net"] [0] rfl (pi_listK (K := K) rfl (pe_meth (pv 0) T.c_Net T.t_Net_outs (ok_Net_outs T) (hr.mono (by decide)) T.b_Net_outs .nil pass0 (pa_cons (pv 3) pa_nil))) (fun _ _ _ _ => (pg_name (i := 0) (show (([("road" : Str)] : List Str) ++ ([("net" : Str)] : List Str)).Nodup by decide +kernel) rfl (by first | exact Or.inl rfl | exact Or.inr rfl))) own_name (fun _ _ _ _ => pts_nil) (fun _ _ _ _ => (pe_ix (ix_tupK (K := K) rfl) (pe_ix (ix_listK (K := K) rfl) (pe_fldK (K := K) rfl (pv 1) rfl) (pv 0) (fun _ _ => rfl)) pe_int (fun _ _ => rfl)))))
      (pss_cons (ps_set (i := 5) sc_tree_row.nd rfl (by first | exact Or.inl rfl | exact Or.inr rfl) (pe_comp (comp_mk ["goal"] ["one", "place", "others"] [3, 1, 2] rfl (pi_listK (K := K) rfl (pv 4)) (fun _ _ _ _ => (pg_name (i := 0) (show (([("goal" : Str)] : List Str) ++ ([("one" : Str), ("place" : Str), ("others" : Str)] : List Str)).Nodup by decide +kernel) rfl (by first | exact Or.inl rfl | exact Or.inr rfl))) own_name (fun _ _ _ _ => (pts_one (PW.pt (pw_and (pt_cmpR op_ne (pv 0) (pv 1) (nomark _)) (pw_and1 (PW.pt (pw_or (pt_cmpR op_eq (pv 0) (pv 2) (nomark _)) (pw_or1 (pt_cmpR (op_inK (K := K) rfl) (pv 0) (pv 3) (by with_unfolding_all rfl)))))))))) (fun _ _ _ _ => (pv 0)))))
      (pss_one (ps_ret (pe_comp (comp_mk ["other"] ["one", "useful"] [3, 5] rfl (pi_listK (K := K) rfl (pv 2)) (fun _ _ _ _ => (pg_name (i := 0) (show (([("other" : Str)] : List Str) ++ ([("one" : Str), ("useful" : Str)] : List Str)).Nodup by decide +kernel) rfl (by first | exact Or.inl rfl | exact Or.inr rfl))) own_name (fun _ _ _ _ => pts_nil) (fun _ _ _ _ => (pe_ifExp (pt_cmpR op_eq (pv 0) (pv 1) (nomark _)) (pe_callB (call_lenK (K := K) rfl) rfl T.z_len PySem.boot_len (pa_cons (pv 2) pa_nil)) (pe_un un_neg (pe_bmK (K := K) rfl PySem.F.plainAttrs_list PySem.F.slot_list_count PySem.F.type_list_count (mt_countIK (K := K) rfl) (pv 2) (pa_cons (pv 0) pa_nil))))))))))), fn_data h ?_⟩)
  rintro es R ⟨N, p0, os, one, rfl, hn, hin, hrl, hol, ho, q⟩
  have hlen := outs_le (rs := N.rs) (q := one)
  refine ws_seq (ws_setO (α := List Int) (we_compL (α := Int) (β := Int) (we_meth (by decide +kernel) (by decide +kernel) (we_var rfl (wa_cons (we_var rfl (wa_nil ⟨N, one, rfl, ho, hrl, ⟨by show (outsD N.rs one).length ≤ 1000; omega, fun k ys => ys = ((outsD N.rs one).take k).map (en N.rs), rfl, ?_, ?_⟩⟩)))))))
  · rintro k r ys hr rfl
    have hr' : (outsD N.rs one)[k]? = some r := hr
    have hm := (mem_outs.mp (List.mem_of_getElem? hr')).1
    refine wt_all (we_flat (we_snd (we_ix (we_roads T.c_Net T.n_Net_roads (we_var rfl (we_var rfl ⟨_, rd_at hm.1 hm.2, ?_⟩))))))
    dsimp only
    rw [List.take_add_one, hr', List.map_append]
    rfl
  rintro ys hys
  have hys' : ys = goalsD N.rs one := by
    rw [hys]
    exact congrArg (List.map (en N.rs)) List.take_length
  subst hys'
  refine ⟨rfl, ?_⟩
  have hgl : (goalsD N.rs one).length ≤ 24 := by
    unfold goalsD
    rw [List.length_map]
    omega
  refine ws_seq (ws_setO (α := List Int) (we_compL (α := Int) (β := Int) (we_var rfl ⟨by omega, fun k ys => ys = ((goalsD N.rs one).take k).filter (fun g => decide (g ≠ one) && (decide (g = p0) || decide (g ∈ os))), rfl, ?_, ?_⟩)))
  · rintro k g ys hg rfl
    refine (wt_and (wt_test (we_neI (we_var rfl (we_var rfl ⟨fun hc0 => (wt_or (wt_test (we_eqI (we_var rfl (we_var rfl ⟨fun hc0 => ?_, fun hc0 => (wt_test (we_in (we_var rfl (we_var rfl ?_))))⟩))))), fun hc0 => ?_⟩)))))
    all_goals (dsimp only; rw [take_filter hg])
    · rename_i h1
      have h1 : ¬ g = one := by simpa using h1
      refine ⟨fun _ => we_varF rfl ?_, fun z => (by cases z)⟩
      have h2' : g = p0 := of_decide_eq_true hc0
      have hf : (decide (g ≠ one) && (decide (g = p0) || decide (g ∈ os))) = true := by
        rw [decide_eq_true h1, decide_eq_true h2']
        rfl
      rw [if_pos hf]
    · rename_i h1
      have h1 : ¬ g = one := by simpa using h1
      have h2' : ¬ g = p0 := of_decide_eq_false hc0
      refine ⟨fun z => we_varF rfl ?_, fun z => ?_⟩
      · rw [if_pos (by simp [h1, h2', of_decide_eq_true z])]
      · rw [if_neg (by simp [h1, h2', of_decide_eq_false z]), List.append_nil]
    · have h1 : g = one := by
        have : decide (g = one) = true := by simpa using hc0
        exact of_decide_eq_true this
      refine ⟨fun z => (by cases z), fun _ => ?_⟩
      rw [if_neg (by simp [h1]), List.append_nil]
  rintro ys hys
  have hys' : ys = usefulD os p0 N.rs one := by
    rw [hys, List.take_length]
    rfl
  subst hys'
  refine ⟨rfl, ?_⟩
  refine ws_ret (S' := []) (we_compL (α := Int) (β := Int) (we_var rfl ⟨by omega, fun k ys => ys = (os.take k).map (fun o => if o = one then (((usefulD os p0 N.rs one).length : Nat) : Int) else -(((usefulD os p0 N.rs one).count o : Nat) : Int)), rfl, ?_, ?_⟩))
  · rintro k o ys hk rfl
    have e : ∀ v : Int, (if o = one then (((usefulD os p0 N.rs one).length : Nat) : Int) else -(((usefulD os p0 N.rs one).count o : Nat) : Int)) = v → (os.take k).map (fun o => if o = one then (((usefulD os p0 N.rs one).length : Nat) : Int) else -(((usefulD os p0 N.rs one).count o : Nat) : Int)) ++ [v] = (os.take (k + 1)).map (fun o => if o = one then (((usefulD os p0 N.rs one).length : Nat) : Int) else -(((usefulD os p0 N.rs one).count o : Nat) : Int)) := fun v hv => by
      rw [List.take_add_one, hk, List.map_append, ← hv]
      rfl
    refine wt_all (we_if (wt_test (we_eqI (we_var rfl (we_var rfl ⟨fun _ => (we_len (we_var rfl (e _ ?_))), fun _ => (we_neg (we_count (we_var rfl (we_var rfl (e _ ?_)))))⟩)))))
    · rename_i h
      rw [if_pos (of_decide_eq_true h)]
    · rename_i h
      rw [if_neg (of_decide_eq_false h)]
  · rintro ys rfl
    rw [List.take_length]
    exact q
theorem oth_lt {n : Nat} {rs : List (Int × Int)} {p0 : Int} (hp : 0 ≤ p0 ∧ p0 < n) : (othD n rs p0).length < n := by
  unfold othD
  have := List.length_filter_lt_length_iff_exists (l := rng n) (p := isO rs p0)
  rw [rng_len] at this
  refine this.mpr ⟨p0, mem_rng.mpr hp, ?_⟩
  unfold isO
  simp
theorem ok_trees (T : Tx K mg t) : FnOk P w K mg base CX0 4 t.a_trees t.d_trees ["net", "place"] (spF (cc K t) p_trees) := by
  refine T.F_trees.ok sc_trees (fun vs H Q E h => spF_len h (by rintro es R ⟨N, p0, rfl, _⟩; rfl)) (fun cdv A outer s H vs Q E hr h => ⟨_, (pss_cons (ps_expr (pe_meth (pv 0) T.c_Net T.t_Net_need_place (ok_Net_need_place T) (hr.mono (by decide)) T.b_Net_need_place .nil pass0 (pa_cons (pv 1) pa_nil)))
      (pss_cons (ps_set (i := 2) sc_trees.nd rfl (by first | exact Or.inl rfl | exact Or.inr rfl) (pe_comp (comp_mk ["other"] ["place", "net"] [1, 0] rfl (pi_range1 rfl T.z_range (pa_cons (pe_fldK (K := K) rfl (pv 0) rfl) pa_nil)) (fun _ _ _ _ => (pg_name (i := 0) (show (([("other" : Str)] : List Str) ++ ([("place" : Str), ("net" : Str)] : List Str)).Nodup by decide +kernel) rfl (by first | exact Or.inl rfl | exact Or.inr rfl))) own_name (fun _ _ _ _ => (pts_one (PW.pt (pw_and (pt_cmpR op_ne (pv 0) (pv 1) (nomark _)) (pw_and1 (pt_truthK (K := K) rfl (pe_meth (pv 2) T.c_Net T.t_Net_outs (ok_Net_outs T) (hr.mono (by decide)) T.b_Net_outs .nil pass0 (pa_cons (pv 0) pa_nil)) (fun _ => rfl))))))) (fun _ _ _ _ => (pv 0)))))
      (pss_one (ps_ret (pe_call (ok_determinant T) (hr.mono (by decide)) rfl T.m_determinant T.F_determinant.kp T.b_determinant .nil pass0 (pa_cons (pe_comp (comp_mk ["one"] ["net", "place", "others"] [0, 1, 2] rfl (pi_listK (K := K) rfl (pv 2)) (fun _ _ _ _ => (pg_name (i := 0) (show (([("one" : Str)] : List Str) ++ ([("net" : Str), ("place" : Str), ("others" : Str)] : List Str)).Nodup by decide +kernel) rfl (by first | exact Or.inl rfl | exact Or.inr rfl))) own_name (fun _ _ _ _ => pts_nil) (fun _ _ _ _ => (pe_call (ok_tree_row T) (hr.mono (by decide)) rfl T.m_tree_row T.F_tree_row.kp T.b_tree_row .nil pass0 (pa_cons (pv 1) (pa_cons (pv 2) (pa_cons (pv 3) (pa_cons (pv 0) pa_nil)))))))) pa_nil)))))), fn_data h ?_⟩)
  rintro es R ⟨N, p0, rfl, hn, hin, hrl, hp, q⟩
  have hn' : ((N.n.toNat : Nat) : Int) = N.n := by omega
  refine ws_seq (ws_drop (we_need (we_var rfl (we_var rfl ⟨hp, ?_⟩))))
  refine ws_seq (ws_setO (α := List Int) (we_compR (we_size T.c_Net T.n_Net_size (we_var rfl ⟨⟨by omega, by omega⟩, fun k ys => ys = othD k N.rs p0, rfl, ?_, ?_⟩))))
  · rintro k ys hk rfl
    refine (wt_and (wt_test (we_neI (we_var rfl (we_var rfl ⟨fun hc0 => (wt_truth (we_meth (by decide +kernel) (by decide +kernel) (we_var rfl (wa_cons (we_var rfl (wa_nil ⟨N, (k : Int), rfl, ⟨by omega, by omega⟩, hrl, ?_⟩)))))), fun hc0 => ?_⟩)))))
    all_goals (dsimp only; rw [oth_succ])
    · have h1 : ¬ (k : Int) = p0 := by simpa using hc0
      have e : isO N.rs p0 (k : Int) = !(outsD N.rs (k : Int)).isEmpty := by
        unfold isO
        simp [h1]
      refine ⟨fun z => we_varF rfl ?_, fun z => ?_⟩
      · rw [if_pos (by rw [e]; exact z)]
      · rw [if_neg (by rw [e, show (!(outsD N.rs (k : Int)).isEmpty) = false from z]; exact Bool.false_ne_true), List.append_nil]
    · have h1 : (k : Int) = p0 := by
        have : decide ((k : Int) = p0) = true := by simpa using hc0
        exact of_decide_eq_true this
      refine ⟨fun z => (by cases z), fun _ => ?_⟩
      rw [if_neg (by unfold isO; simp [h1]), List.append_nil]
  rintro ys rfl
  refine ⟨rfl, ?_⟩
  have hp' : 0 ≤ p0 ∧ p0 < ((N.n.toNat : Nat) : Int) := by omega
  have hol := oth_lt (rs := N.rs) hp'
  have hpo : p0 ∉ othD N.n.toNat N.rs p0 := fun z => (oth_mem.mp z).2.1 rfl
  refine ws_retF (we_callK (we_compL (α := Int) (β := List Int) (we_var rfl ⟨by omega, fun k ys => ys = ((othD N.n.toNat N.rs p0).take k).map (fun o => rowD (othD N.n.toNat N.rs p0) p0 N.rs o), rfl, ?_, ?_⟩)))
  · rintro k o ys hk rfl
    have hm := (oth_mem.mp (List.mem_of_getElem? hk)).1
    refine wt_all (we_call (wa_cons (we_var rfl (wa_cons (we_var rfl (wa_cons (we_var rfl (wa_cons (we_var rfl (wa_nil ⟨N, p0, _, o, rfl, hn, hin, hrl, by omega, ⟨hm.1, by omega⟩, ?_⟩))))))))))
    dsimp only
    rw [List.take_add_one, hk, List.map_append]
    rfl
  rintro ys rfl
  rw [List.take_length]
  refine ⟨MU (Uuse (othD N.n.toNat N.rs p0) p0 N.rs), (othD N.n.toNat N.rs p0).length, rows_MU oth_nodup hpo, by omega, fun i j => ent_small hrl, fun k hk => head_small hrl hk, fun v hv => ?_⟩
  rcases hv with z | ⟨z, k, hk, hz⟩
  · rw [z, trees_Dt]
    exact q
  · rw [z]
    rw [trees_zero hk hz] at q
    exact q

theorem ok_has_round (T : Tx K mg t) : FnOk P w K mg base CX0 6 t.a_has_round t.d_has_round ["net"] (spF (cc K t) p_hasr) := by
  refine T.F_has_round.ok sc_has_round (fun vs H Q E h => spF_len h (by rintro es R ⟨N, rfl, _⟩; rfl)) (fun cdv A outer s H vs Q E hr h => ⟨_, (pss_one (ps_ret (pe_cmpR op_eq (pe_ix (ix_tupK (K := K) rfl) (pe_call (ok_find T) (hr.mono (by decide)) rfl T.m_find T.F_find.kp T.b_find .nil pass0 (pa_cons (pv 0) pa_nil)) pe_int (fun _ _ => rfl)) pe_str (nomark _)))), fn_data h ?_⟩)
  rintro es R ⟨N, rfl, hn, hin, hrl, q⟩
  have hn' : ((N.n.toNat : Nat) : Int) = N.n := by omega
  refine ws_retF (we_eqS (we_fst (we_call (wa_cons (we_var rfl (wa_nil ⟨N, rfl, hn, hin, hrl, fun x hx => (we_str ?_)⟩))))))
  rw [show decide (x.1 = ("round" : Str)) = hasR N.n.toNat N.rs from hx]
  exact q
theorem ok_round_count (T : Tx K mg t) : FnOk P w K mg base CX0 7 t.a_round_count t.d_round_count ["net"] (spF (cc K t) p_rcount) := by
  refine T.F_round_count.ok sc_round_count (fun vs H Q E h => spF_len h (by rintro es R ⟨N, rfl, _⟩; rfl)) (fun cdv A outer s H vs Q E hr h => ⟨_, (pss_cons (ps_if (pt_not (pt_val (pe_call (ok_has_round T) (hr.mono (by decide)) rfl T.m_has_round T.F_has_round.kp T.b_has_round .nil pass0 (pa_cons (pv 0) pa_nil))))
        (pss_one (ps_ret pe_int))
        pss_nil)
      (pss_cons (ps_if (pt_not (pt_truthK (K := K) rfl (pe_fldK (K := K) rfl (pv 0) rfl) (fun _ => rfl)))
        (pss_one (ps_ret pe_int))
        pss_nil)
      (pss_cons (ps_set (i := 1) sc_round_count.nd rfl (by first | exact Or.inl rfl | exact Or.inr rfl) (pe_call (ok_trees T) (hr.mono (by decide)) rfl T.m_trees T.F_trees.kp T.b_trees .nil pass0 (pa_cons (pv 0) (pa_cons (pe_ix (ix_tupK (K := K) rfl) (pe_ix (ix_listK (K := K) rfl) (pe_fldK (K := K) rfl (pv 0) rfl) pe_int (fun _ _ => rfl)) pe_int (fun _ _ => rfl)) pa_nil))))
      (pss_cons (ps_for PassesOwn.never rfl (pi_range1 rfl T.z_range (pa_cons (pe_fldK (K := K) rfl (pv 0) rfl) pa_nil)) (pg_name (i := 2) sc_round_count.nd rfl (by first | exact Or.inl rfl | exact Or.inr rfl))
        (pss_one (ps_for PassesOwn.never rfl (pi_range2 rfl T.z_range (pa_cons pe_int (pa_cons (pe_callB (call_lenK (K := K) rfl) rfl T.z_len PySem.boot_len (pa_cons (pe_meth (pv 0) T.c_Net T.t_Net_outs (ok_Net_outs T) (hr.mono (by decide)) T.b_Net_outs .nil pass0 (pa_cons (pv 2) pa_nil)) pa_nil)) pa_nil))) (pg_name (i := 3) sc_round_count.nd rfl (by first | exact Or.inl rfl | exact Or.inr rfl))
        (pss_one (ps_set (i := 1) sc_round_count.nd rfl (by first | exact Or.inl rfl | exact Or.inr rfl) (pe_op op_mul (pv 1) (pv 3)))))))
      (pss_one (ps_ret (pv 1))))))), fn_data h ?_⟩)
  rintro es R ⟨N, rfl, hn, hin, hrl, q⟩
  have hn' : ((N.n.toNat : Nat) : Int) = N.n := by omega
  refine ws_seq (ws_if (wt_not (wt_val (we_call (wa_cons (we_var rfl (wa_nil ⟨N, rfl, hn, hin, hrl, ⟨fun h => ?_, fun h => ws_next ?_⟩⟩)))))))
  · have h1 : hasR N.n.toNat N.rs = false := by simpa using h
    unfold rcD at q
    rw [if_neg (by rw [h1]; exact Bool.false_ne_true)] at q
    exact ws_retF (we_int q)
  have h1 : hasR N.n.toNat N.rs = true := by simpa using h
  refine ws_seq (ws_if (wt_not (wt_truth (we_roads T.c_Net T.n_Net_roads (we_var rfl ⟨fun h => ?_, fun h => ws_next ?_⟩)))))
  · have hz : N.rs = [] := by
      cases e2 : N.rs with
      | nil => rfl
      | cons _ _ => rw [e2] at h; cases h
    unfold rcD at q
    rw [if_pos h1, if_pos hz] at q
    exact ws_retF (we_int q)
  have hne : N.rs ≠ [] := by
    intro e2
    rw [e2] at h
    cases h
  unfold rcD at q
  rw [if_pos h1, if_neg hne] at q
  have hpos := List.length_pos_iff.mpr hne
  have ir := rd_in hin (r := 0) (by omega) (by omega)
  refine ws_seq (ws_setF (α := Int) (we_call (wa_cons (we_var rfl (wa_cons (we_fst (we_ix (we_roads T.c_Net T.n_Net_roads (we_var rfl (we_int ⟨_, rd_at (by omega) (by omega), (wa_nil ⟨N, sp N.rs 0, rfl, hn, hin, hrl, ir.1, ?_⟩)⟩))))))))))
  generalize treesD N.n.toNat N.rs (sp N.rs 0) = tr at q
  refine ws_seq (ws_for1 (we_size T.c_Net T.n_Net_size (we_var rfl ⟨⟨by omega, by omega⟩, fun k e => ∃ o1 o2, e = [.sh N, .sh (tr * PrI k fun p => facI (outsD N.rs (p : Int)).length), o1, o2], ⟨_, _, by rw [show PrI 0 (fun p => facI (outsD N.rs (p : Int)).length) = 1 from rfl, Int.mul_one]; rfl⟩, ?_, ?_⟩)))
  · rintro k e hk ⟨o1, o2, rfl⟩
    have hol := outs_le (rs := N.rs) (q := (k : Int))
    refine ws_for2 (we_int (we_len (we_meth (by decide +kernel) (by decide +kernel) (we_var rfl (wa_cons (we_var rfl (wa_nil ⟨N, (k : Int), rfl, ⟨by omega, by omega⟩, hrl, ⟨⟨by show -(2 ^ 62) ≤ (((outsD N.rs (k : Int)).length : Nat) : Int); omega, by show (((outsD N.rs (k : Int)).length : Nat) : Int) < 2 ^ 62; omega, by decide, by decide⟩, fun j e => ∃ o2, e = [.sh N, .sh (tr * (PrI k fun p => facI (outsD N.rs (p : Int)).length) * PrI j fun i => ((i + 1 : Nat) : Int)), .sh (k : Int), o2], ⟨_, by rw [show PrI 0 (fun i => ((i + 1 : Nat) : Int)) = 1 from rfl, Int.mul_one]; rfl⟩, ?_, ?_⟩⟩)))))))
    · rintro j e hj ⟨o2, rfl⟩
      have hj' : 1 + (j : Int) < (((outsD N.rs (k : Int)).length : Nat) : Int) := hj
      refine ws_setF (we_iC (we_var rfl (we_var rfl ⟨.inr ⟨by omega, by omega⟩, ?_⟩)))
      dsimp only
      rw [show PrI (j + 1) (fun i => ((i + 1 : Nat) : Int)) = PrI j (fun i => ((i + 1 : Nat) : Int)) * ((j + 1 : Nat) : Int) from rfl, ← Int.mul_assoc, show 1 + (j : Int) = ((j + 1 : Nat) : Int) by omega]
      exact ⟨_, rfl⟩
    · rintro e ⟨o2, rfl⟩
      have e1 : ((((outsD N.rs (k : Int)).length : Nat) : Int) - 1).toNat = (outsD N.rs (k : Int)).length - 1 := by omega
      have e2 : tr * PrI (k + 1) (fun p => facI (outsD N.rs (p : Int)).length) = tr * PrI k (fun p => facI (outsD N.rs (p : Int)).length) * PrI ((((outsD N.rs (k : Int)).length : Nat) : Int) - 1).toNat (fun i => ((i + 1 : Nat) : Int)) := by
        rw [show PrI (k + 1) (fun p => facI (outsD N.rs (p : Int)).length) = PrI k (fun p => facI (outsD N.rs (p : Int)).length) * facI (outsD N.rs (k : Int)).length from rfl, ← Int.mul_assoc, e1]
        rfl
      dsimp only
      rw [e2]
      exact ⟨_, _, rfl⟩
  · rintro e ⟨o1, o2, rfl⟩
    exact ws_retF (we_var rfl q)

theorem ok_window_count (T : Tx K mg t) : FnOk P w K mg base CX0 1 t.a_window_count t.d_window_count ["signs", "length"] (spF (cc K t) p_wcount) := by
  refine T.F_window_count.ok sc_window_count (fun vs H Q E h => spF_len h (by rintro es R ⟨a, l, rfl, _⟩; rfl)) (fun cdv A outer s H vs Q E hr h => ⟨_, (pss_cons (ps_if (PW.pt (pw_or (pt_cmpR op_lt (pv 0) pe_int (nomark _)) (pw_or1 (pt_cmpR op_lt (pv 1) pe_int (nomark _)))))
        (pss_one ps_never)
        pss_nil)
      (pss_cons (ps_set (i := 2) sc_window_count.nd rfl (by first | exact Or.inl rfl | exact Or.inr rfl) pe_int)
      (pss_cons (ps_for PassesOwn.never rfl (pi_range1 rfl T.z_range (pa_cons (pv 1) pa_nil)) (pg_name (i := 3) sc_window_count.nd rfl (by first | exact Or.inl rfl | exact Or.inr rfl))
        (pss_cons (ps_set (i := 2) sc_window_count.nd rfl (by first | exact Or.inl rfl | exact Or.inr rfl) (pe_op op_mul (pv 2) (pv 0)))
      (pss_one (ps_if (pt_cmpR op_gt (pv 2) (pe_glob (v := .int 24) rfl T.g_MOST_ROADS.choose_spec ⟨_, rfl⟩) (nomark _))
        (pss_one ps_never)
        pss_nil))))
      (pss_one (ps_ret (pv 2)))))), fn_data h ?_⟩)
  rintro es R ⟨a, l, rfl, ha, hl, hl2, hc, q⟩
  refine ws_seq (ws_if (wt_or (wt_test (we_iB (we_var rfl (we_int ⟨fun h => ?_, fun _ => (wt_test (we_iB (we_var rfl (we_int ⟨fun h => ?_, fun _ => ws_next ?_⟩))))⟩))))))
  · exfalso
    have := of_decide_eq_true h
    omega
  · exfalso
    have := of_decide_eq_true h
    omega
  refine ws_seq (ws_setF (we_int ?_))
  refine ws_seq (ws_for1 (we_var rfl ⟨⟨by omega, by omega⟩, fun k e => ∃ o, e = [.sh (a : Int), .sh (l : Int), .sh ((a ^ k : Nat) : Int), o] ∧ k ≤ l, ⟨_, rfl, by omega⟩, ?_, ?_⟩))
  · rintro k e hk ⟨o, rfl, _⟩
    have hp : a ^ (k + 1) ≤ a ^ l := Nat.pow_le_pow_right ha (by omega)
    have hp2 : a ^ k ≤ a ^ l := Nat.pow_le_pow_right ha (by omega)
    have e1 : ((a ^ k : Nat) : Int) * (a : Int) = ((a ^ (k + 1) : Nat) : Int) := by rw [Nat.pow_succ]; exact (Int.natCast_mul _ _).symm
    refine ws_seq (ws_setF (α := Int) (we_iC (we_var rfl (we_var rfl ⟨.inl ⟨by omega, by omega⟩, ?_⟩))))
    rw [e1]
    refine ws_if (wt_test (we_iB (we_var rfl (we_int ⟨fun h => ?_, fun _ => ws_next ⟨_, rfl, by omega⟩⟩))))
    exfalso
    have := of_decide_eq_true h
    omega
  · rintro e ⟨o, rfl, _⟩
    rw [Int.toNat_natCast]
    exact ws_retF (we_var rfl q)
theorem ok_window_net (T : Tx K mg t) : FnOk P w K mg base CX0 3 t.a_window_net t.d_window_net ["signs", "length"] (spF (cc K t) p_wnet) := by
  refine T.F_window_net.ok sc_window_net (fun vs H Q E h => spF_len h (by rintro es R ⟨a, l, rfl, _⟩; rfl)) (fun cdv A outer s H vs Q E hr h => ⟨_, (pss_cons (ps_set (i := 2) sc_window_net.nd rfl (by first | exact Or.inl rfl | exact Or.inr rfl) (pe_call (ok_window_count T) (hr.mono (by decide)) rfl T.m_window_count T.F_window_count.kp T.b_window_count .nil pass0 (pa_cons (pv 0) (pa_cons (pv 1) pa_nil))))
      (pss_cons (ps_set (i := 3) sc_window_net.nd rfl (by first | exact Or.inl rfl | exact Or.inr rfl) (pe_op op_fdiv (pv 2) (pv 0)))
      (pss_cons (ps_set (i := 4) sc_window_net.nd rfl (by first | exact Or.inl rfl | exact Or.inr rfl) (pe_make T.k_Net (ok_Net_init T) (hr.mono (by decide)) rfl T.m_Net T.b_Net_init .nil pass0 (pa_cons (pv 3) pa_nil)))
      (pss_cons (ps_for PassesOwn.never rfl (pi_range1 rfl T.z_range (pa_cons (pv 2) pa_nil)) (pg_name (i := 5) sc_window_net.nd rfl (by first | exact Or.inl rfl | exact Or.inr rfl))
        (pss_one (ps_expr (pe_meth (pv 4) T.c_Net T.t_Net_lay (ok_Net_lay T) (hr.mono (by decide)) T.b_Net_lay .nil pass0 (pa_cons (pe_op op_fdiv (pv 5) (pv 0)) (pa_cons (pe_op op_mod (pv 5) (pv 3)) pa_nil))))))
      (pss_one (ps_ret (pv 4))))))), fn_data h ?_⟩)
  rintro es R ⟨a, l, rfl, W, q⟩
  have w1 := W.a1; have w2 := W.l1; have w3 := W.l2; have w4 := W.cnt; have w5 := W.p1; have w6 := W.p8; have w7 := W.mul; have w8 := W.a2
  refine ws_seq (ws_setF (α := Int) (we_call (wa_cons (we_var rfl (wa_cons (we_var rfl (wa_nil ⟨a, l, rfl, w1, w2, by omega, w4, ?_⟩)))))))
  have e1 : ((a ^ l : Nat) : Int) / (a : Int) = ((a ^ (l - 1) : Nat) : Int) := by
    rw [← w7]
    show ((a ^ (l - 1) * a : Nat) : Int) / (a : Int) = _
    rw [Int.natCast_mul]
    exact Int.mul_ediv_cancel _ (by omega)
  refine ws_seq (ws_setF (α := Int) (we_iC (we_var rfl (we_var rfl ⟨⟨by omega, by omega⟩, ?_⟩))))
  rw [e1]
  refine ws_seq (ws_setO (α := NetD) (we_net (we_var rfl ⟨⟨by omega, by omega⟩, ⟨rfl, ?_⟩⟩)))
  refine ws_seq (ws_for1 (we_var rfl ⟨⟨by omega, by omega⟩, fun k e => ∃ o, e = [.sh (a : Int), .sh (l : Int), .sh ((a ^ l : Nat) : Int), .sh ((a ^ (l - 1) : Nat) : Int), .ow (⟨((a ^ (l - 1) : Nat) : Int), (wn a l).take k⟩ : NetD), o], ⟨_, rfl⟩, ?_, ?_⟩))
  · rintro k e hk ⟨o, rfl⟩
    have hkl : k < (wn a l).length := by rw [wn_len]; omega
    have g : (wn a l)[k]? = some ((k : Int) / (a : Int), (k : Int) % ((a ^ (l - 1) : Nat) : Int)) := by
      unfold wn
      rw [List.getElem?_map, rng_get (by omega)]
      rfl
    have hin := W.net _ (List.mem_of_getElem? g)
    dsimp only at hin
    refine ws_lay rfl (we_iC (we_var rfl (we_var rfl ⟨⟨by omega, by omega⟩, (we_iC (we_var rfl (we_var rfl ⟨by omega, ⟨⟨hin.1, hin.2, ?_⟩, ?_⟩⟩)))⟩)))
    · show ((wn a l).take k).length < 24
      rw [List.length_take]
      rw [wn_len] at hkl ⊢
      omega
    · refine ⟨.sh (k : Int), ?_⟩
      rw [List.take_add_one, g]
      rfl
  · rintro e ⟨o, rfl⟩
    rw [Int.toNat_natCast, show (wn a l).take (a ^ l) = wn a l by rw [← wn_len (a := a) (l := l), List.take_length]]
    exact ws_ret (we_varM rfl q)
theorem ok_q_products (T : Tx K mg t) : FnOk P w K mg base CX0 1 t.a_q_products t.d_q_products ["size", "roads"] (spF (cc K t) p_prods) := by
  refine T.F_q_products.ok sc_q_products (fun vs H Q E h => spF_len h (by rintro es R ⟨n, rs, rfl, _⟩; rfl)) (fun cdv A outer s H vs Q E hr h => ⟨_, (pss_cons (ps_set (i := 2) sc_q_products.nd rfl (by first | exact Or.inl rfl | exact Or.inr rfl) pe_int)
      (pss_cons (ps_for PassesOwn.never rfl (pi_range1 rfl T.z_range (pa_cons (pv 0) pa_nil)) (pg_name (i := 3) sc_q_products.nd rfl (by first | exact Or.inl rfl | exact Or.inr rfl))
        (pss_one (ps_for PassesOwn.never rfl (pi_range2 rfl T.z_range (pa_cons pe_int (pa_cons (pe_callB (call_lenK (K := K) rfl) rfl T.z_len PySem.boot_len (pa_cons (pe_comp (comp_mk ["road"] ["place"] [3] rfl (pi_listK (K := K) rfl (pv 1)) (fun _ _ _ _ => (pg_name (i := 0) (show (([("road" : Str)] : List Str) ++ ([("place" : Str)] : List Str)).Nodup by decide +kernel) rfl (by first | exact Or.inl rfl | exact Or.inr rfl))) own_name (fun _ _ _ _ => (pts_one (pt_cmpR op_eq (pe_ix (ix_tupK (K := K) rfl) (pv 0) pe_int (fun _ _ => rfl)) (pv 1) (nomark _)))) (fun _ _ _ _ => (pv 0)))) pa_nil)) pa_nil))) (pg_name (i := 4) sc_q_products.nd rfl (by first | exact Or.inl rfl | exact Or.inr rfl))
        (pss_one (ps_set (i := 2) sc_q_products.nd rfl (by first | exact Or.inl rfl | exact Or.inr rfl) (pe_op op_mul (pv 2) (pv 4)))))))
      (pss_one (ps_ret (pv 2))))), fn_data h ?_⟩)
  rintro es R ⟨n, rs, rfl, hn, hrl, q⟩
  refine ws_seq (ws_setF (we_int ?_))
  refine ws_seq (ws_for1 (we_var rfl ⟨⟨by omega, by omega⟩, fun k e => ∃ o1 o2, e = [.sh n, .sh rs, .sh (PrI k fun p => facI (outsD rs (p : Int)).length), o1, o2], ⟨_, _, rfl⟩, ?_, ?_⟩))
  · rintro k e hk ⟨o1, o2, rfl⟩
    have hol := outs_le (rs := rs) (q := (k : Int))
    refine ws_for2 (we_int (we_len (we_compL (α := Int × Int) (β := Int × Int) (we_var rfl ⟨by omega, fun i ys => ys = (rs.take i).filter fun e => decide (e.1 = (k : Int)), rfl, ?_, ?_⟩))))
    · rintro i e1 ys he rfl
      refine (wt_test (we_eqI (we_fst (we_var rfl (we_var rfl ⟨fun h => we_varF rfl ?_, fun h => ?_⟩)))))
      · dsimp only
        rw [List.take_add_one, he, List.filter_append]
        simp [of_decide_eq_true h]
      · dsimp only
        rw [List.take_add_one, he, List.filter_append]
        show _ = _ ++ List.filter _ [e1]
        rw [List.filter_cons_of_neg (by rw [h]; exact Bool.false_ne_true), List.filter_nil, List.append_nil]
    rintro ys rfl
    rw [List.take_length, ← outs_filter]
    refine ⟨⟨by omega, by omega, by decide, by decide⟩, fun j e => ∃ o2, e = [.sh n, .sh rs, .sh ((PrI k fun p => facI (outsD rs (p : Int)).length) * PrI j fun i => ((i + 1 : Nat) : Int)), .sh (k : Int), o2], ⟨_, by rw [show PrI 0 (fun i => ((i + 1 : Nat) : Int)) = 1 from rfl, Int.mul_one]; rfl⟩, ?_, ?_⟩
    · rintro j e hj ⟨o2, rfl⟩
      refine ws_setF (we_iC (we_var rfl (we_var rfl ⟨.inr ⟨by omega, by omega⟩, ?_⟩)))
      dsimp only
      rw [show PrI (j + 1) (fun i => ((i + 1 : Nat) : Int)) = PrI j (fun i => ((i + 1 : Nat) : Int)) * ((j + 1 : Nat) : Int) from rfl, ← Int.mul_assoc, show 1 + (j : Int) = ((j + 1 : Nat) : Int) by omega]
      exact ⟨_, rfl⟩
    · rintro e ⟨o2, rfl⟩
      have e1 : ((((outsD rs (k : Int)).length : Nat) : Int) - 1).toNat = (outsD rs (k : Int)).length - 1 := by omega
      have e2 : PrI (k + 1) (fun p => facI (outsD rs (p : Int)).length) = PrI k (fun p => facI (outsD rs (p : Int)).length) * PrI ((((outsD rs (k : Int)).length : Nat) : Int) - 1).toNat (fun i => ((i + 1 : Nat) : Int)) := by
        rw [show PrI (k + 1) (fun p => facI (outsD rs (p : Int)).length) = PrI k (fun p => facI (outsD rs (p : Int)).length) * facI (outsD rs (k : Int)).length from rfl, e1]
        rfl
      dsimp only
      rw [e2]
      exact ⟨_, _, rfl⟩
  · rintro e ⟨o1, o2, rfl⟩
    exact ws_retF (we_var rfl q)
theorem ok_q_ring_by (T : Tx K mg t) : FnOk P w K mg base CX0 2 t.a_q_ring_by t.d_q_ring_by ["script"] (spF (cc K t) p_ringby) := by
  refine T.F_q_ring_by.ok sc_q_ring_by (fun vs H Q E h => spF_len h (by rintro es R ⟨ns, rfl, _⟩; rfl)) (fun cdv A outer s H vs Q E hr h => ⟨_, (pss_cons (ps_set (i := 1) sc_q_ring_by.nd rfl (by first | exact Or.inl rfl | exact Or.inr rfl) (pe_op op_add pe_int (pe_call (ok_q_drawn T) (hr.mono (by decide)) rfl T.m_q_drawn T.F_q_drawn.kp T.b_q_drawn .nil pass0 (pa_cons (pv 0) (pa_cons pe_int (pa_cons pe_int pa_nil))))))
      (pss_cons (ps_set (i := 2) sc_q_ring_by.nd rfl (by first | exact Or.inl rfl | exact Or.inr rfl) (pe_op op_add pe_int (pe_call (ok_q_drawn T) (hr.mono (by decide)) rfl T.m_q_drawn T.F_q_drawn.kp T.b_q_drawn .nil pass0 (pa_cons (pv 0) (pa_cons pe_int (pa_cons pe_int pa_nil))))))
      (pss_cons (ps_setComp (i := 3) sc_q_ring_by.nd rfl rfl (comp_mk ["k"] ["size"] [1] rfl (pi_range1 rfl T.z_range (pa_cons (pe_op op_mul (pv 1) (pv 2)) pa_nil)) (fun _ _ _ _ => (pg_name (i := 0) (show (([("k" : Str)] : List Str) ++ ([("size" : Str)] : List Str)).Nodup by decide +kernel) rfl (by first | exact Or.inl rfl | exact Or.inr rfl))) own_name (fun _ _ _ _ => pts_nil) (fun _ _ _ _ => (pe_tup (pa_cons (pe_op op_mod (pv 0) (pv 1)) (pa_cons (pe_op op_mod (pe_op op_add (pv 0) pe_int) (pv 1)) pa_nil))))))
      (pss_cons (ps_set (i := 4) sc_q_ring_by.nd rfl (by first | exact Or.inl rfl | exact Or.inr rfl) pe_int)
      (pss_cons (ps_for PassesOwn.never rfl (pi_range1 rfl T.z_range (pa_cons (pe_op op_sub (pv 1) pe_int) pa_nil)) (pg_name (i := 5) sc_q_ring_by.nd rfl (by first | exact Or.inl rfl | exact Or.inr rfl))
        (pss_one (ps_set (i := 4) sc_q_ring_by.nd rfl (by first | exact Or.inl rfl | exact Or.inr rfl) (pe_op op_mul (pv 4) (pv 2)))))
      (pss_one (ps_ret (pe_tup (pa_cons (pv 1) (pa_cons (pv 3) (pa_cons (pv 4) pa_nil))))))))))), fn_data h ?_⟩)
  rintro es R ⟨ns, rfl, q⟩
  refine ws_seq (ws_setF (we_add (we_int (we_call (wa_cons (we_var rfl (wa_cons (we_int (wa_cons (we_int (wa_nil ⟨ns, 101, 8, rfl, ⟨by decide, by decide⟩, by decide, fun y hy0 hy1 => ?_⟩)))))))))))
  refine ws_seq (ws_setF (we_add (we_int (we_call (wa_cons (we_var rfl (wa_cons (we_int (wa_cons (we_int (wa_nil ⟨ns, 102, 3, rfl, ⟨by decide, by decide⟩, by decide, fun z hz0 hz1 => ?_⟩)))))))))))
  obtain ⟨n, hn, hn1, hn2⟩ : ∃ n : Nat, 1 + y = (n : Int) ∧ 1 ≤ n ∧ n ≤ 8 := ⟨(1 + y).toNat, by omega, by omega, by omega⟩
  obtain ⟨m, hm, hm1, hm2⟩ : ∃ m : Nat, 1 + z = (m : Int) ∧ 1 ≤ m ∧ m ≤ 3 := ⟨(1 + z).toNat, by omega, by omega, by omega⟩
  rw [hn, hm]
  have hnm : n * m ≤ 24 := Nat.mul_le_mul hn2 hm2
  have hcast : (n : Int) * (m : Int) = ((n * m : Nat) : Int) := (Int.natCast_mul n m).symm
  refine ws_seq (ws_setO (α := List (Int × Int)) (we_compR (we_iC (we_var rfl (we_var rfl ⟨.inl ⟨by omega, by omega⟩, ⟨⟨by rw [hcast]; omega, by rw [hcast]; omega⟩, fun k ys => ys = (rng k).map (fun k => (k % (n : Int), (k + 1) % (n : Int))), rfl, ?_, ?_⟩⟩)))))
  · rintro k ys hk rfl
    refine wt_all (we_tup (we_iC (we_var rfl (we_var rfl ⟨(show (0 : Int) < (n : Int) by omega), (we_iC (we_add (we_var rfl (we_int (we_var rfl ⟨(show (0 : Int) < (n : Int) by omega), ?_⟩)))))⟩))) trivial)
    dsimp only
    rw [rng_succ, List.map_append]
    rfl
  rintro ys hys
  have hys' : ys = ringR n m := by
    rw [hys, hcast, Int.toNat_natCast]
    rfl
  subst hys'
  refine ⟨rfl, ?_⟩
  refine ws_seq (ws_setF (we_int ?_))
  refine ws_seq (ws_for1 (we_sub (we_var rfl (we_int ⟨⟨by omega, by omega⟩, fun k e => ∃ o, e = [.sh (⟨ns⟩ : Sc), .sh (n : Int), .sh (m : Int), .ow (ringR n m), .sh ((m ^ k : Nat) : Int), o], ⟨_, rfl⟩, ?_, ?_⟩))))
  · rintro k e hk ⟨o, rfl⟩
    refine ws_setF (we_iC (we_var rfl (we_var rfl ⟨.inr ⟨by omega, by omega⟩, ?_⟩)))
    dsimp only
    rw [show ((m ^ (k + 1) : Nat) : Int) = ((m ^ k : Nat) : Int) * (m : Int) by rw [Nat.pow_succ, Int.natCast_mul]]
    exact ⟨_, rfl⟩
  · rintro e ⟨o, rfl⟩
    rw [show ((n : Int) - 1).toNat = n - 1 by omega]
    exact ws_ret (we_tri (i := 3) rfl (we_var rfl (we_var rfl (q n m ⟨hn1, hn2⟩ ⟨hm1, hm2⟩))))
theorem ok_q_windows (T : Tx K mg t) : FnOk P w K mg base CX0 8 t.a_q_windows t.d_q_windows ["script"] (spF (cc K t) p_windows) := by
  refine T.F_q_windows.ok sc_q_windows (fun vs H Q E h => spF_len h (by rintro es R ⟨ns, rfl, _⟩; rfl)) (fun cdv A outer s H vs Q E hr h => ⟨_, (@pss_cons _ _ _ _ _ (@ps_set _ _ 1 _ _ _ _ sc_q_windows.nd rfl (by first | exact Or.inl rfl | exact Or.inr rfl) (@pe_lst _ _ _ _ (@pa_triple _ _ _ _ _ _ _ _ _ _ _ _ _ _ (@pa_triple _ _ _ _ _ _ _ _ _ _ _ _ _ _ (@pa_triple _ _ _ _ _ _ _ _ _ _ _ _ _ _ (@pa_triple _ _ _ _ _ _ _ _ _ _ _ _ _ _ (@pa_triple _ _ _ _ _ _ _ _ _ _ _ _ _ _ (@pa_triple _ _ _ _ _ _ _ _ _ _ _ _ _ _ (@pa_triple _ _ _ _ _ _ _ _ _ _ _ _ _ _ (@pa_nil _))))))))) (by rfl) (by first | exact .inl rfl | exact .inr rfl))
      (pss_cons (ps_set (i := 2) sc_q_windows.nd rfl (by first | exact Or.inl rfl | exact Or.inr rfl) (pe_ix (ix_listK (K := K) rfl) (pv 1) (pe_call (ok_q_drawn T) (hr.mono (by decide)) rfl T.m_q_drawn T.F_q_drawn.kp T.b_q_drawn .nil pass0 (pa_cons (pv 0) (pa_cons pe_int (pa_cons pe_int pa_nil)))) (fun _ _ => rfl)))
      (pss_cons (ps_set (i := 3) sc_q_windows.nd rfl (by first | exact Or.inl rfl | exact Or.inr rfl) (pe_call (ok_round_count T) (hr.mono (by decide)) rfl T.m_round_count T.F_round_count.kp T.b_round_count .nil pass0 (pa_cons (pe_call (ok_window_net T) (hr.mono (by decide)) rfl T.m_window_net T.F_window_net.kp T.b_window_net .nil pass0 (pa_cons (pe_ix (ix_tupK (K := K) rfl) (pv 2) pe_int (fun _ _ => rfl)) (pa_cons (pe_ix (ix_tupK (K := K) rfl) (pv 2) pe_int (fun _ _ => rfl)) pa_nil))) pa_nil)))
      (pss_one (ps_ret (pe_and (pe_call (ok_q_whole T) (hr.mono (by decide)) rfl T.m_q_whole T.F_q_whole.kp T.b_q_whole .nil pass0 (pa_cons (pv 3) pa_nil)) (pe_one (pe_cmpR op_eq (pv 3) (pe_ix (ix_tupK (K := K) rfl) (pv 2) pe_int (fun _ _ => rfl)) (nomark _))))))))), fn_data h ?_⟩)
  rintro es R ⟨ns, rfl, q⟩
  refine ws_seq (ws_setO (α := List (T3 Int Int Int)) (we_lst (wl_cons (we_tripI (wl_cons (we_tripI (wl_cons (we_tripI (wl_cons (we_tripI (wl_cons (we_tripI (wl_cons (we_tripI (wl_cons (we_tripI (wl_nil ⟨(by show 7 ≤ 1000; decide), rfl, ?_⟩)) trivial)) trivial)) trivial)) trivial)) trivial)) trivial)) trivial) trivial))
  refine ws_seq (ws_setF (α := T3 Int Int Int) (we_ix (we_var rfl (we_call (wa_cons (we_var rfl (wa_cons (we_int (wa_cons (we_int (wa_nil ⟨ns, 103, 7, rfl, ⟨by decide, by decide⟩, by decide, fun y hy0 hy1 => ?_⟩)))))))))))
  obtain ⟨x, hx, hx2, hxm⟩ := atI_ge (xs := ([⟨2, 2, 1⟩, ⟨2, 3, 2⟩, ⟨2, 4, 16⟩, ⟨3, 2, 24⟩, ⟨4, 2, 20736⟩, ⟨1, 1, 1⟩, ⟨2, 1, 1⟩] : List (T3 Int Int Int))) (i := y) hy0 hy1
  refine ⟨x, hx, ?_⟩
  have hw : ∃ a l : Nat, x.a = (a : Int) ∧ x.b = (l : Int) ∧ (a, l) ∈ szs ∧ (a, l, x.d) ∈ wsome := by
    simp only [List.mem_cons, List.not_mem_nil, or_false] at hxm
    rcases hxm with rfl | rfl | rfl | rfl | rfl | rfl | rfl
    · exact ⟨2, 2, rfl, rfl, by decide, by decide⟩
    · exact ⟨2, 3, rfl, rfl, by decide, by decide⟩
    · exact ⟨2, 4, rfl, rfl, by decide, by decide⟩
    · exact ⟨3, 2, rfl, rfl, by decide, by decide⟩
    · exact ⟨4, 2, rfl, rfl, by decide, by decide⟩
    · exact ⟨1, 1, rfl, rfl, by decide, by decide⟩
    · exact ⟨2, 1, rfl, rfl, by decide, by decide⟩
  obtain ⟨a, l, ha, hl, hs, hc⟩ := hw
  have W := win_of hs
  have hwl : (wn a l).length = a ^ l := wn_len
  have hne : wn a l ≠ [] := by
    intro z
    rw [z] at hwl
    have := Nat.pow_pos (n := l) (show 0 < a from W.a1)
    simp at hwl
    omega
  have hv := List.all_eq_true.mp wcounts _ hc
  have hv' := of_decide_eq_true hv
  have hR : hasR (a ^ (l - 1)) (wn a l) = true := by
    unfold hasR
    rw [W.odd, decide_eq_true W.one]
    rfl
  refine ws_seq (ws_setF (α := Int) (we_call (wa_cons (we_call (wa_cons (we_t1 (we_var rfl (wa_cons (we_t2 (we_var rfl (wa_nil ⟨a, l, by rw [ha, hl]; rfl, W, (wa_nil ⟨_, rfl, ⟨by show (1 : Int) ≤ ((a ^ (l - 1) : Nat) : Int); have := W.p1; omega, by show ((a ^ (l - 1) : Nat) : Int) ≤ 8; have := W.p8; omega⟩, W.net, by show (wn a l).length ≤ 24; rw [hwl]; exact W.cnt, ?_⟩)⟩)))))))))))
  refine ws_retF (we_and (we_call (wa_cons (we_var rfl (wa_nil ⟨_, rfl, ⟨fun _ => (we_eqI (we_var rfl (we_t3 (we_var rfl ?_)))), fun h => (by cases h)⟩⟩)))))
  have e : rcD (((a ^ (l - 1) : Nat) : Int)).toNat (wn a l) = x.d := by
    rw [Int.toNat_natCast]
    unfold rcD
    rw [if_pos hR, if_neg hne]
    exact hv'
  show R (decide (rcD (((a ^ (l - 1) : Nat) : Int)).toNat (wn a l) = x.d))
  rw [decide_eq_true e]
  exact q
theorem ok_lawD (T : Tx K mg t) : FnOk P w K mg base CX0 9 t.a_law t.d_law ["script"] (spF (cc K t) p_law) := by
  refine T.F_law.ok sc_law (fun vs H Q E h => spF_len h (by rintro es R ⟨ns, rfl, _⟩; rfl)) (fun cdv A outer s H vs Q E hr h => ⟨_, (pss_cons (ps_set (i := 1) sc_law.nd rfl (by first | exact Or.inl rfl | exact Or.inr rfl) (pe_call (ok_q_drawn T) (hr.mono (by decide)) rfl T.m_q_drawn T.F_q_drawn.kp T.b_q_drawn .nil pass0 (pa_cons (pv 0) (pa_cons pe_int (pa_cons pe_int pa_nil)))))
      (pss_cons (ps_if (pt_cmpR op_eq (pv 1) pe_int (nomark _))
        (pss_one (ps_ret (pe_call (ok_q_windows T) (hr.mono (by decide)) rfl T.m_q_windows T.F_q_windows.kp T.b_q_windows .nil pass0 (pa_cons (pv 0) pa_nil))))
        pss_nil)
      (pss_cons (ps_set (i := 2) sc_law.nd rfl (by first | exact Or.inl rfl | exact Or.inr rfl) (pe_call (ok_q_net_by T) (hr.mono (by decide)) rfl T.m_q_net_by T.F_q_net_by.kp T.b_q_net_by .nil pass0 (pa_cons (pv 0) (pa_cons pe_int pa_nil))))
      (pss_cons (ps_if (PW.pt (pw_and (pt_cmpR op_eq (pv 1) pe_int (nomark _)) (pw_and1 (PW.pt (pw_or (pt_cmpR op_gt (pe_callB (call_lenK (K := K) rfl) rfl T.z_len PySem.boot_len (pa_cons (pe_call (ok_q_odd T) (hr.mono (by decide)) rfl T.m_q_odd T.F_q_odd.kp T.b_q_odd .nil pass0 (pa_cons (pe_ix (ix_tupK (K := K) rfl) (pv 2) pe_int (fun _ _ => rfl)) (pa_cons (pe_ix (ix_tupK (K := K) rfl) (pv 2) pe_int (fun _ _ => rfl)) pa_nil))) pa_nil)) pe_int (nomark _)) (pw_or1 (pt_cmpR op_gt (pe_callB (call_lenK (K := K) rfl) rfl T.z_len PySem.boot_len (pa_cons (pe_call (ok_q_parts T) (hr.mono (by decide)) rfl T.m_q_parts T.F_q_parts.kp T.b_q_parts .nil pass0 (pa_cons (pe_ix (ix_tupK (K := K) rfl) (pv 2) pe_int (fun _ _ => rfl)) (pa_cons (pe_ix (ix_tupK (K := K) rfl) (pv 2) pe_int (fun _ _ => rfl)) pa_nil))) pa_nil)) pe_int (nomark _))))))))
        (pss_cons (ps_set (i := 3) sc_law.nd rfl (by first | exact Or.inl rfl | exact Or.inr rfl) (pe_call (ok_round_count T) (hr.mono (by decide)) rfl T.m_round_count T.F_round_count.kp T.b_round_count .nil pass0 (pa_cons (pe_call (ok_q_laid T) (hr.mono (by decide)) rfl T.m_q_laid T.F_q_laid.kp T.b_q_laid .nil pass0 (pa_cons (pe_ix (ix_tupK (K := K) rfl) (pv 2) pe_int (fun _ _ => rfl)) (pa_cons (pe_ix (ix_tupK (K := K) rfl) (pv 2) pe_int (fun _ _ => rfl)) pa_nil))) pa_nil)))
      (pss_one (ps_ret (pe_and (pe_call (ok_q_whole T) (hr.mono (by decide)) rfl T.m_q_whole T.F_q_whole.kp T.b_q_whole .nil pass0 (pa_cons (pv 3) pa_nil)) (pe_one (pe_cmpR op_eq (pv 3) pe_int (nomark _)))))))
        pss_nil)
      (pss_cons (ps_set (i := 4) sc_law.nd rfl (by first | exact Or.inl rfl | exact Or.inr rfl) (pe_op op_add pe_int (pe_call (ok_q_drawn T) (hr.mono (by decide)) rfl T.m_q_drawn T.F_q_drawn.kp T.b_q_drawn .nil pass0 (pa_cons (pv 0) (pa_cons pe_int (pa_cons pe_int pa_nil))))))
      (pss_cons (ps_set (i := 5) sc_law.nd rfl (by first | exact Or.inl rfl | exact Or.inr rfl) (pe_ix (ix_tupK (K := K) rfl) (pe_call (ok_q_closed_by T) (hr.mono (by decide)) rfl T.m_q_closed_by T.F_q_closed_by.kp T.b_q_closed_by .nil pass0 (pa_cons (pv 0) (pa_cons (pv 4) (pa_cons (pe_op op_add pe_int (pe_call (ok_q_drawn T) (hr.mono (by decide)) rfl T.m_q_drawn T.F_q_drawn.kp T.b_q_drawn .nil pass0 (pa_cons (pv 0) (pa_cons pe_int (pa_cons pe_int pa_nil))))) (pa_cons pe_int pa_nil))))) pe_int (fun _ _ => rfl)))
      (pss_cons (ps_set (i := 6) sc_law.nd rfl (by first | exact Or.inl rfl | exact Or.inr rfl) pe_non)
      (pss_cons (ps_if (pt_cmpR op_eq (pv 1) pe_int (nomark _))
        (pss_cons (ps_set (i := 2) sc_law.nd rfl (by first | exact Or.inl rfl | exact Or.inr rfl) (pe_call (ok_q_ring_by T) (hr.mono (by decide)) rfl T.m_q_ring_by T.F_q_ring_by.kp T.b_q_ring_by .nil pass0 (pa_cons (pv 0) pa_nil)))
      (pss_cons (ps_set (i := 4) sc_law.nd rfl (by first | exact Or.inl rfl | exact Or.inr rfl) (pe_ix (ix_tupK (K := K) rfl) (pv 2) pe_int (fun _ _ => rfl)))
      (pss_cons (ps_set (i := 5) sc_law.nd rfl (by first | exact Or.inl rfl | exact Or.inr rfl) (pe_ix (ix_tupK (K := K) rfl) (pv 2) pe_int (fun _ _ => rfl)))
      (pss_one (ps_set (i := 6) sc_law.nd rfl (by first | exact Or.inl rfl | exact Or.inr rfl) (pe_ix (ix_tupK (K := K) rfl) (pv 2) pe_int (fun _ _ => rfl)))))))
        pss_nil)
      (pss_cons (ps_set (i := 7) sc_law.nd rfl (by first | exact Or.inl rfl | exact Or.inr rfl) (pe_call (ok_q_laid T) (hr.mono (by decide)) rfl T.m_q_laid T.F_q_laid.kp T.b_q_laid .nil pass0 (pa_cons (pv 4) (pa_cons (pv 5) pa_nil))))
      (pss_cons (ps_set (i := 8) sc_law.nd rfl (by first | exact Or.inl rfl | exact Or.inr rfl) (pe_call (ok_trees T) (hr.mono (by decide)) rfl T.m_trees T.F_trees.kp T.b_trees .nil pass0 (pa_cons (pv 7) (pa_cons (pe_ix (ix_tupK (K := K) rfl) (pe_ix (ix_listK (K := K) rfl) (pv 5) pe_int (fun _ _ => rfl)) pe_int (fun _ _ => rfl)) pa_nil))))
      (pss_cons (ps_if (PW.pt (pw_or (pt_not (pt_val (pe_call (ok_q_whole T) (hr.mono (by decide)) rfl T.m_q_whole T.F_q_whole.kp T.b_q_whole .nil pass0 (pa_cons (pv 8) pa_nil)))) (pw_or (pt_cmpR op_lt (pv 8) pe_int (nomark _)) (pw_or1 (PW.pt (pw_and (pt_cmpR op_notN (pv 6) pe_non (nomark _)) (pw_and1 (pt_cmpR op_ne (pv 8) (pv 6) (nomark _)))))))))
        (pss_one (ps_ret pe_bl))
        pss_nil)
      (pss_cons (ps_for PassesOwn.never rfl (pi_listK (K := K) rfl (pv 5)) (pg_name (i := 9) sc_law.nd rfl (by first | exact Or.inl rfl | exact Or.inr rfl))
        (pss_one (ps_if (pt_cmpR op_ne (pe_call (ok_trees T) (hr.mono (by decide)) rfl T.m_trees T.F_trees.kp T.b_trees .nil pass0 (pa_cons (pv 7) (pa_cons (pe_ix (ix_tupK (K := K) rfl) (pv 9) pe_int (fun _ _ => rfl)) pa_nil))) (pv 8) (nomark _))
        (pss_one (ps_ret pe_bl))
        pss_nil)))
      (pss_cons (ps_set (i := 10) sc_law.nd rfl (by first | exact Or.inl rfl | exact Or.inr rfl) (pe_call (ok_round_count T) (hr.mono (by decide)) rfl T.m_round_count T.F_round_count.kp T.b_round_count .nil pass0 (pa_cons (pv 7) pa_nil)))
      (pss_one (ps_ret (pe_and (pe_call (ok_q_whole T) (hr.mono (by decide)) rfl T.m_q_whole T.F_q_whole.kp T.b_q_whole .nil pass0 (pa_cons (pv 10) pa_nil)) (pe_and (pe_cmpR op_eq (pv 10) (pe_op op_mul (pv 8) (pe_call (ok_q_products T) (hr.mono (by decide)) rfl T.m_q_products T.F_q_products.kp T.b_q_products .nil pass0 (pa_cons (pv 4) (pa_cons (pv 5) pa_nil)))) (nomark _)) (pe_one (pe_call (ok_q_stands T) (hr.mono (by decide)) rfl T.m_q_stands T.F_q_stands.kp T.b_q_stands .nil pass0 (pa_cons (pv 7) (pa_cons (pv 4) (pa_cons (pv 5) pa_nil)))))))))))))))))))))), fn_data h ?_⟩)
  rintro es R ⟨ns, rfl, _, q⟩
  refine ws_seq (ws_setF (α := Int) (we_call (wa_cons (we_var rfl (wa_cons (we_int (wa_cons (we_int (wa_nil ⟨ns, 100, 4, rfl, ⟨by decide, by decide⟩, by decide, fun way hw0 hw1 => ?_⟩)))))))))
  refine ws_seq (ws_if (wt_test (we_eqI (we_var rfl (we_int ⟨fun _ => ?_, fun _ => ws_next ?_⟩)))))
  · exact ws_retF (we_call (wa_cons (we_var rfl (wa_nil ⟨ns, rfl, q⟩))))
  refine ws_seq (ws_set (α := Int × List (Int × Int)) (we_call (wa_cons (we_var rfl (wa_cons (we_int (wa_nil ⟨ns, 24, rfl, ⟨by decide, by decide⟩, fun n0 rs0 hn0 hin0 hl0 => ?_⟩)))))))
  have none0 : 0 < (oddD n0.toNat rs0).length ∨ 1 < (partsD n0.toNat rs0).length → rcD n0.toNat rs0 = 0 := fun h => by
    unfold rcD
    rw [if_neg (by rw [hasR_not h]; exact Bool.false_ne_true)]
  have bad : 0 < (oddD n0.toNat rs0).length ∨ 1 < (partsD n0.toNat rs0).length → ∀ {R' : Rs (cc K t) Bool}, R'.rt true → WS [.sh (⟨ns⟩ : Sc), .sh way, .sh (n0, rs0), .no, .no, .no, .no, .no, .no, .no, .no] (tSeq (tAsg (tCall (spF (cc K t) p_rcount) [] E0 (tCons (tCall (spF (cc K t) p_laid) [] E0 (tCons (tOp (rIxT K) (tVar 2) (tC (.int 0))) (tCons (tOp (rIxT K) (tVar 2) (tC (.int 1))) tNil))) tNil)) (gName 3)) (tRet (tAndV (tCall (spF (cc K t) p_whole) [] E0 (tCons (tVar 3) tNil)) (tOp rEq (tVar 3) (tC (.int 0)))))) R' := fun h {R'} r => by
    refine ws_seq (ws_setF (α := Int) (we_call (wa_cons (we_call (wa_cons (we_fst (we_var rfl (wa_cons (we_snd (we_var rfl (wa_nil ⟨n0, rs0, rfl, hn0, hin0, by omega, (wa_nil ⟨_, rfl, hn0, hin0, by show rs0.length ≤ 24; omega, ?_⟩)⟩)))))))))))
    refine ws_retF (we_and (we_call (wa_cons (we_var rfl (wa_nil ⟨_, rfl, ⟨fun _ => (we_eqI (we_var rfl (we_int ?_))), fun h => (by cases h)⟩⟩)))))
    show R'.rt (decide (rcD n0.toNat rs0 = 0))
    rw [decide_eq_true (none0 h)]
    exact r
  refine ws_seq (ws_ifJ (fun e => e = [.sh (⟨ns⟩ : Sc), .sh way, .sh (n0, rs0), .no, .no, .no, .no, .no, .no, .no, .no]) (wt_and (wt_test (we_eqI (we_var rfl (we_int ⟨fun _ => wt_or (wt_test (we_iB (we_len (we_call (wa_cons (we_fst (we_var rfl (wa_cons (we_snd (we_var rfl (wa_nil ⟨n0, rs0, rfl, hn0, by omega, (we_int ⟨fun h => ⟨fun _ => bad (.inl (by have := of_decide_eq_true h; omega)) q, fun z => (by cases z)⟩, fun _ => (wt_test (we_iB (we_len (we_call (wa_cons (we_fst (we_var rfl (wa_cons (we_snd (we_var rfl (wa_nil ⟨n0, rs0, rfl, hn0, hin0, by omega, (we_int ⟨fun h => bad (.inr (by have := of_decide_eq_true h; omega)) q, fun _ => ws_next rfl⟩)⟩)))))))))))⟩)⟩))))))))))), fun _ => ⟨fun z => (by cases z), fun _ => ws_next rfl⟩⟩))))) ?_)
  rintro e rfl
  refine ws_seq (ws_setF (we_add (we_int (we_call (wa_cons (we_var rfl (wa_cons (we_int (wa_cons (we_int (wa_nil ⟨ns, 0, 8, rfl, ⟨by decide, by decide⟩, by decide, fun y hy0 hy1 => ?_⟩)))))))))))
  refine ws_seq (ws_setO (α := List (Int × Int)) (we_fst (we_call (wa_cons (we_var rfl (wa_cons (we_var rfl (wa_cons (we_add (we_int (we_call (wa_cons (we_var rfl (wa_cons (we_int (wa_cons (we_int (wa_nil ⟨ns, 1, 24, rfl, ⟨by decide, by decide⟩, by decide, fun z hz0 hz1 => (wa_cons (we_int (wa_nil ⟨ns, 1 + y, 1 + z, 10, rfl, ⟨by omega, by omega⟩, ⟨by omega, by omega⟩, ⟨by decide, by decide⟩, fun rs1 cs1 h1 h2 hR1 => ⟨rfl, ?_⟩⟩)))⟩))))))))))))))))))
  refine ws_seq (ws_setF (α := Option Int) (we_none ?_))
  refine ws_share (i := 5) (x := rs1) rfl ?_
  refine ws_seq (ws_ifJ (fun e => ∃ (n : Int) (rs : List (Int × Int)) (cs : List Int) (d : Option Int) (o1 : Ent (cc K t)), (1 ≤ n ∧ n ≤ 8) ∧ InNet n rs ∧ rs.length ≤ 24 ∧ 0 < rs.length ∧ IsR rs cs ∧ (∀ v, d = some v → treesD n.toNat rs (sp rs 0) = v) ∧ e = [.sh (⟨ns⟩ : Sc), .sh way, o1, .no, .sh n, .sh rs, .sh d, .no, .no, .no, .no]) (wt_test (we_eqI (we_var rfl (we_int ⟨fun _ => ?_, fun _ => ws_next ⟨1 + y, rs1, cs1, none, _, ⟨by omega, by omega⟩, h2, by omega, by omega, hR1, fun v hv => (by cases hv), rfl⟩⟩)))) ?_)
  · refine ws_seq (ws_set (α := T3 Int (List (Int × Int)) Int) (we_call (wa_cons (we_var rfl (wa_nil ⟨ns, rfl, fun n m hn hm => ?_⟩)))))
    refine ws_seq (ws_setF (α := Int) (we_t1 (we_var rfl ?_)))
    refine ws_seq (ws_set (α := List (Int × Int)) (we_t2 (we_varS rfl ?_)))
    refine ws_setF (α := Option Int) (we_some (we_t3 (we_var rfl ?_)))
    have hnm : n * m ≤ 24 := Nat.mul_le_mul hn.2 hm.2
    have hnm0 : 1 ≤ n * m := Nat.mul_le_mul hn.1 hm.1
    have hlen := ring_len (n := n) (m := m)
    have hsp : sp (ringR n m) 0 = 0 := by
      rw [(ring_get (by omega) (by omega)).1]
      exact Int.zero_emod _
    refine ⟨(n : Int), ringR n m, rng (n * m), some _, _, ⟨by omega, by omega⟩, ring_in hn.1, by omega, by omega, ring_round hn.1, fun v hv => ?_, rfl⟩
    cases hv
    rw [hsp, Int.toNat_natCast]
    exact ring_trees hn hm
  rintro e ⟨n, rs, cs, d, o1, hn, hin, hl, hpos, hR, hd, rfl⟩
  have hn' : ((n.toNat : Nat) : Int) = n := by omega
  have hin' : InNet ((n.toNat : Nat) : Int) rs := by rw [hn']; exact hin
  have ev : Even n.toNat rs := even_of_odd (hR.odd _)
  have ir := rd_in hin (r := 0) (by omega) (by omega)
  have us0 : sp rs 0 ∈ usD n.toNat rs := start_us hin' (by omega) (by omega)
  have hne : rs ≠ [] := fun z => by rw [z] at hpos; cases hpos
  have htp : treesD n.toNat rs (sp rs 0) ≠ 0 := by
    have hl0 : 0 < cs.length := by rw [hR.len]; exact hpos
    have h0 := List.getElem?_eq_getElem hl0
    have hm := hR.mem (List.mem_of_getElem? h0)
    have := trees_pos (n := n.toNat) hin' hR h0
    rw [trees_same hin' ev (start_us hin' hm.1 hm.2) us0] at this
    exact this
  have htb := trees_le (n := n.toNat) (rs := rs) (p0 := sp rs 0) (by omega) (by omega) hl
  have hrc : rcD n.toNat rs = treesD n.toNat rs (sp rs 0) * prodsD n.toNat rs := by
    unfold rcD
    rw [if_pos (hasR_round hin' hR), if_neg hne]
  refine ws_seq (ws_setO (α := NetD) (we_call (wa_cons (we_var rfl (wa_cons (we_var rfl (wa_nil ⟨n, rs, rfl, hn, hin, hl, ⟨rfl, ?_⟩⟩)))))))
  refine ws_seq (ws_setF (α := Int) (we_call (wa_cons (we_var rfl (wa_cons (we_fst (we_ix (we_var rfl (we_int ⟨_, rd_at (by omega) (by omega), (wa_nil ⟨_, sp rs 0, rfl, hn, hin, hl, ir.1, ?_⟩)⟩)))))))))
  have hend : ∀ (k : Nat) (x : Int × Int), rs[k]? = some x → treesD n.toNat rs x.2 = treesD n.toNat rs (sp rs 0) := fun k x hx => by
    have hk := (List.getElem?_eq_some_iff.mp hx).1
    have e1 : en rs (k : Int) = x.2 := by
      unfold en
      rw [Int.toNat_natCast, List.getD_eq_getElem?_getD, hx]
      rfl
    have hg : x.2 ∈ goalsD rs (sp rs (k : Int)) := by
      unfold goalsD
      rw [← e1]
      exact List.mem_map.mpr ⟨(k : Int), mem_outs.mpr ⟨⟨by omega, by omega⟩, rfl⟩, rfl⟩
    exact trees_same hin' ev (goal_us hin' ev hg) us0
  show WS [.sh (⟨ns⟩ : Sc), .sh way, o1, .no, .sh n, .sh rs, .sh d, .ow (⟨n, rs⟩ : NetD), .sh (treesD n.toNat rs (sp rs 0)), .no, .no] _ _
  generalize htr : treesD n.toNat rs (sp rs 0) = tr at *
  refine ws_seq (ws_ifJ (fun e => e = [.sh (⟨ns⟩ : Sc), .sh way, o1, .no, .sh n, .sh rs, .sh d, .ow (⟨n, rs⟩ : NetD), .sh tr, .no, .no]) (wt_or (wt_not (wt_val (we_call (wa_cons (we_var rfl (wa_nil ⟨_, rfl, ⟨fun h => (by cases h), fun _ => wt_or (wt_test (we_iB (we_var rfl (we_int ⟨fun h => ?_, fun _ => wt_and (wt_test (we_notN (we_var rfl ⟨fun h => ?_, fun _ => ⟨fun z => (by cases z), fun _ => ws_next rfl⟩⟩)))⟩))))⟩⟩))))))) ?_)
  · exfalso
    have := of_decide_eq_true h
    omega
  · cases d with
    | none => cases h
    | some v =>
      refine wt_test (we_neI (we_var rfl (we_unSome (we_var rfl ⟨v, rfl, ⟨fun h2 => ?_, fun _ => ws_next rfl⟩⟩))))
      rw [decide_eq_true (hd v rfl)] at h2
      cases h2
  rintro e rfl
  refine ws_seq (ws_forL (we_varS rfl ⟨fun k e => ∃ o2, e = [.sh (⟨ns⟩ : Sc), .sh way, o1, .no, .sh n, .sh rs, .sh d, .ow (⟨n, rs⟩ : NetD), .sh tr, o2, .no], ⟨_, rfl⟩, ?_, ?_⟩))
  · rintro k x e hx ⟨o2, rfl⟩
    have hxi := hin x (List.mem_of_getElem? hx)
    refine ws_if (wt_test (we_neI (we_call (wa_cons (we_var rfl (wa_cons (we_snd (we_var rfl (wa_nil ⟨_, x.2, rfl, hn, hin, hl, hxi.2, (we_var rfl ⟨fun h => ?_, fun _ => ws_next ⟨_, rfl⟩⟩)⟩)))))))))
    exfalso
    have e1 : decide (treesD n.toNat rs x.2 = tr) = true := decide_eq_true (hend k x hx)
    have h' : (!decide (treesD n.toNat rs x.2 = tr)) = true := h
    rw [e1] at h'
    cases h'
  · rintro e ⟨o2, rfl⟩
    refine ws_seq (ws_setF (α := Int) (we_call (wa_cons (we_var rfl (wa_nil ⟨_, rfl, hn, hin, hl, ?_⟩)))))
    refine ws_retF (we_and (we_call (wa_cons (we_var rfl (wa_nil ⟨_, rfl, ⟨fun _ => we_and (we_eqI (we_var rfl (we_iC (we_var rfl (we_call (wa_cons (we_var rfl (wa_cons (we_var rfl (wa_nil ⟨n, rs, rfl, hn, hl, ⟨.inl ⟨by omega, by omega⟩, ⟨fun _ => (we_call (wa_cons (we_var rfl (wa_cons (we_var rfl (wa_cons (we_var rfl (wa_nil ⟨_, n, rs, rfl, ?_⟩)))))))), fun h => ?_⟩⟩⟩)))))))))), fun h => (by cases h)⟩⟩)))))
    · rw [decide_eq_true rfl, decide_eq_true rfl]
      exact q
    · exfalso
      have h' : decide (rcD n.toNat rs = tr * prodsD n.toNat rs) = false := h
      rw [decide_eq_true hrc] at h'
      cases h'
theorem ok_law (T : Tx K mg t) : FnOk P w K mg base CX0 9 t.a_law t.d_law ["script"] (sp_law K) := (ok_lawD T).imp fun _ _ _ _ h => law_sp (c := cc K t) h
end
/-- the text's facts from what stands behind the top -/
theorem tx_mk {K : PySem.W.Frag} {h : Heap} {mg : Str → Option Value} {C_Net f_Net_init f_Net_need_place f_Net_lay f_Net_outs f_Net_ins f_least_joined f_parts f_odd_places f_waiting_roads f_walk_on f_with_bends f_walk_round f_find f_cleared f_determinant f_tree_row f_trees f_has_round f_round_count f_window_count f_window_net f_q_drawn f_q_whole f_q_laid f_q_stands f_q_closed_by f_q_net_by f_q_odd f_q_parts f_q_products f_q_ring_by f_q_windows f_law : Addr} {oc_Net_init kV_Net_init dc_Net_init pm_Net_init cd_Net_init ct_Net_init : Value} {od_Net_init an_Net_init : Option Addr} {sl_Net_init : Array (Option Value)}
    {oc_Net_need_place kV_Net_need_place dc_Net_need_place pm_Net_need_place cd_Net_need_place ct_Net_need_place : Value} {od_Net_need_place an_Net_need_place : Option Addr} {sl_Net_need_place : Array (Option Value)}
    {oc_Net_lay kV_Net_lay dc_Net_lay pm_Net_lay cd_Net_lay ct_Net_lay : Value} {od_Net_lay an_Net_lay : Option Addr} {sl_Net_lay : Array (Option Value)}
    {oc_Net_outs kV_Net_outs dc_Net_outs pm_Net_outs cd_Net_outs ct_Net_outs : Value} {od_Net_outs an_Net_outs : Option Addr} {sl_Net_outs : Array (Option Value)}
    {oc_Net_ins kV_Net_ins dc_Net_ins pm_Net_ins cd_Net_ins ct_Net_ins : Value} {od_Net_ins an_Net_ins : Option Addr} {sl_Net_ins : Array (Option Value)}
    {oc_least_joined kV_least_joined dc_least_joined pm_least_joined cd_least_joined ct_least_joined : Value} {od_least_joined an_least_joined : Option Addr} {sl_least_joined : Array (Option Value)}
    {oc_parts kV_parts dc_parts pm_parts cd_parts ct_parts : Value} {od_parts an_parts : Option Addr} {sl_parts : Array (Option Value)}
    {oc_odd_places kV_odd_places dc_odd_places pm_odd_places cd_odd_places ct_odd_places : Value} {od_odd_places an_odd_places : Option Addr} {sl_odd_places : Array (Option Value)}
    {oc_waiting_roads kV_waiting_roads dc_waiting_roads pm_waiting_roads cd_waiting_roads ct_waiting_roads : Value} {od_waiting_roads an_waiting_roads : Option Addr} {sl_waiting_roads : Array (Option Value)}
    {oc_walk_on kV_walk_on dc_walk_on pm_walk_on cd_walk_on ct_walk_on : Value} {od_walk_on an_walk_on : Option Addr} {sl_walk_on : Array (Option Value)}
    {oc_with_bends kV_with_bends dc_with_bends pm_with_bends cd_with_bends ct_with_bends : Value} {od_with_bends an_with_bends : Option Addr} {sl_with_bends : Array (Option Value)}
    {oc_walk_round kV_walk_round dc_walk_round pm_walk_round cd_walk_round ct_walk_round : Value} {od_walk_round an_walk_round : Option Addr} {sl_walk_round : Array (Option Value)}
    {oc_find kV_find dc_find pm_find cd_find ct_find : Value} {od_find an_find : Option Addr} {sl_find : Array (Option Value)}
    {oc_cleared kV_cleared dc_cleared pm_cleared cd_cleared ct_cleared : Value} {od_cleared an_cleared : Option Addr} {sl_cleared : Array (Option Value)}
    {oc_determinant kV_determinant dc_determinant pm_determinant cd_determinant ct_determinant : Value} {od_determinant an_determinant : Option Addr} {sl_determinant : Array (Option Value)}
    {oc_tree_row kV_tree_row dc_tree_row pm_tree_row cd_tree_row ct_tree_row : Value} {od_tree_row an_tree_row : Option Addr} {sl_tree_row : Array (Option Value)}
    {oc_trees kV_trees dc_trees pm_trees cd_trees ct_trees : Value} {od_trees an_trees : Option Addr} {sl_trees : Array (Option Value)}
    {oc_has_round kV_has_round dc_has_round pm_has_round cd_has_round ct_has_round : Value} {od_has_round an_has_round : Option Addr} {sl_has_round : Array (Option Value)}
    {oc_round_count kV_round_count dc_round_count pm_round_count cd_round_count ct_round_count : Value} {od_round_count an_round_count : Option Addr} {sl_round_count : Array (Option Value)}
    {oc_window_count kV_window_count dc_window_count pm_window_count cd_window_count ct_window_count : Value} {od_window_count an_window_count : Option Addr} {sl_window_count : Array (Option Value)}
    {oc_window_net kV_window_net dc_window_net pm_window_net cd_window_net ct_window_net : Value} {od_window_net an_window_net : Option Addr} {sl_window_net : Array (Option Value)}
    {oc_q_drawn kV_q_drawn dc_q_drawn pm_q_drawn cd_q_drawn ct_q_drawn : Value} {od_q_drawn an_q_drawn : Option Addr} {sl_q_drawn : Array (Option Value)}
    {oc_q_whole kV_q_whole dc_q_whole pm_q_whole cd_q_whole ct_q_whole : Value} {od_q_whole an_q_whole : Option Addr} {sl_q_whole : Array (Option Value)}
    {oc_q_laid kV_q_laid dc_q_laid pm_q_laid cd_q_laid ct_q_laid : Value} {od_q_laid an_q_laid : Option Addr} {sl_q_laid : Array (Option Value)}
    {oc_q_stands kV_q_stands dc_q_stands pm_q_stands cd_q_stands ct_q_stands : Value} {od_q_stands an_q_stands : Option Addr} {sl_q_stands : Array (Option Value)}
    {oc_q_closed_by kV_q_closed_by dc_q_closed_by pm_q_closed_by cd_q_closed_by ct_q_closed_by : Value} {od_q_closed_by an_q_closed_by : Option Addr} {sl_q_closed_by : Array (Option Value)}
    {oc_q_net_by kV_q_net_by dc_q_net_by pm_q_net_by cd_q_net_by ct_q_net_by : Value} {od_q_net_by an_q_net_by : Option Addr} {sl_q_net_by : Array (Option Value)}
    {oc_q_odd kV_q_odd dc_q_odd pm_q_odd cd_q_odd ct_q_odd : Value} {od_q_odd an_q_odd : Option Addr} {sl_q_odd : Array (Option Value)}
    {oc_q_parts kV_q_parts dc_q_parts pm_q_parts cd_q_parts ct_q_parts : Value} {od_q_parts an_q_parts : Option Addr} {sl_q_parts : Array (Option Value)}
    {oc_q_products kV_q_products dc_q_products pm_q_products cd_q_products ct_q_products : Value} {od_q_products an_q_products : Option Addr} {sl_q_products : Array (Option Value)}
    {oc_q_ring_by kV_q_ring_by dc_q_ring_by pm_q_ring_by cd_q_ring_by ct_q_ring_by : Value} {od_q_ring_by an_q_ring_by : Option Addr} {sl_q_ring_by : Array (Option Value)}
    {oc_q_windows kV_q_windows dc_q_windows pm_q_windows cd_q_windows ct_q_windows : Value} {od_q_windows an_q_windows : Option Addr} {sl_q_windows : Array (Option Value)}
    {oc_law kV_law dc_law pm_law cd_law ct_law : Value} {od_law an_law : Option Addr} {sl_law : Array (Option Value)}
    {tk_MOST_PLACES : Tok}
    {tk_MOST_ROADS : Tok} (X : K.In h) (G : h.Ns mainGlobals mg)
    (a_Net : PySem.W.nsIn K mainGlobals "Net" = some (some (.ref C_Net)))
    (a_Net_init : PySem.W.findIn K (.ref C_Net) "__init__" = some (some (.ref f_Net_init)))
    (i_Net_init : PySem.W.isFn K (.ref f_Net_init) = true)
    (l_Net_init : K.lookup f_Net_init = some ⟨oc_Net_init, od_Net_init, .func (PySem.W.fnOf "__init__" "Net.__init__" (defArgs s_Net_init) (defBody s_Net_init) (defScope s_Net_init) .none kV_Net_init dc_Net_init pm_Net_init an_Net_init cd_Net_init ct_Net_init), sl_Net_init⟩)
    (c_Net_init : PySem.W.codeIn K cd_Net_init "Net.__init__" = true)
    (k_Net_init : PySem.W.keepIn K (.ref f_Net_init) = true)
    (a_Net_need_place : PySem.W.findIn K (.ref C_Net) "need_place" = some (some (.ref f_Net_need_place)))
    (i_Net_need_place : PySem.W.isFn K (.ref f_Net_need_place) = true)
    (l_Net_need_place : K.lookup f_Net_need_place = some ⟨oc_Net_need_place, od_Net_need_place, .func (PySem.W.fnOf "need_place" "Net.need_place" (defArgs s_Net_need_place) (defBody s_Net_need_place) (defScope s_Net_need_place) .none kV_Net_need_place dc_Net_need_place pm_Net_need_place an_Net_need_place cd_Net_need_place ct_Net_need_place), sl_Net_need_place⟩)
    (c_Net_need_place : PySem.W.codeIn K cd_Net_need_place "Net.need_place" = true)
    (k_Net_need_place : PySem.W.keepIn K (.ref f_Net_need_place) = true)
    (a_Net_lay : PySem.W.findIn K (.ref C_Net) "lay" = some (some (.ref f_Net_lay)))
    (i_Net_lay : PySem.W.isFn K (.ref f_Net_lay) = true)
    (l_Net_lay : K.lookup f_Net_lay = some ⟨oc_Net_lay, od_Net_lay, .func (PySem.W.fnOf "lay" "Net.lay" (defArgs s_Net_lay) (defBody s_Net_lay) (defScope s_Net_lay) .none kV_Net_lay dc_Net_lay pm_Net_lay an_Net_lay cd_Net_lay ct_Net_lay), sl_Net_lay⟩)
    (c_Net_lay : PySem.W.codeIn K cd_Net_lay "Net.lay" = true)
    (k_Net_lay : PySem.W.keepIn K (.ref f_Net_lay) = true)
    (a_Net_outs : PySem.W.findIn K (.ref C_Net) "outs" = some (some (.ref f_Net_outs)))
    (i_Net_outs : PySem.W.isFn K (.ref f_Net_outs) = true)
    (l_Net_outs : K.lookup f_Net_outs = some ⟨oc_Net_outs, od_Net_outs, .func (PySem.W.fnOf "outs" "Net.outs" (defArgs s_Net_outs) (defBody s_Net_outs) (defScope s_Net_outs) .none kV_Net_outs dc_Net_outs pm_Net_outs an_Net_outs cd_Net_outs ct_Net_outs), sl_Net_outs⟩)
    (c_Net_outs : PySem.W.codeIn K cd_Net_outs "Net.outs" = true)
    (k_Net_outs : PySem.W.keepIn K (.ref f_Net_outs) = true)
    (a_Net_ins : PySem.W.findIn K (.ref C_Net) "ins" = some (some (.ref f_Net_ins)))
    (i_Net_ins : PySem.W.isFn K (.ref f_Net_ins) = true)
    (l_Net_ins : K.lookup f_Net_ins = some ⟨oc_Net_ins, od_Net_ins, .func (PySem.W.fnOf "ins" "Net.ins" (defArgs s_Net_ins) (defBody s_Net_ins) (defScope s_Net_ins) .none kV_Net_ins dc_Net_ins pm_Net_ins an_Net_ins cd_Net_ins ct_Net_ins), sl_Net_ins⟩)
    (c_Net_ins : PySem.W.codeIn K cd_Net_ins "Net.ins" = true)
    (k_Net_ins : PySem.W.keepIn K (.ref f_Net_ins) = true)
    (a_least_joined : PySem.W.nsIn K mainGlobals "least_joined" = some (some (.ref f_least_joined)))
    (l_least_joined : K.lookup f_least_joined = some ⟨oc_least_joined, od_least_joined, .func (PySem.W.fnOf "least_joined" "least_joined" (defArgs s_least_joined) (defBody s_least_joined) (defScope s_least_joined) .none kV_least_joined dc_least_joined pm_least_joined an_least_joined cd_least_joined ct_least_joined), sl_least_joined⟩)
    (c_least_joined : PySem.W.codeIn K cd_least_joined "least_joined" = true)
    (k_least_joined : PySem.W.keepIn K (.ref f_least_joined) = true)
    (a_parts : PySem.W.nsIn K mainGlobals "parts" = some (some (.ref f_parts)))
    (l_parts : K.lookup f_parts = some ⟨oc_parts, od_parts, .func (PySem.W.fnOf "parts" "parts" (defArgs s_parts) (defBody s_parts) (defScope s_parts) .none kV_parts dc_parts pm_parts an_parts cd_parts ct_parts), sl_parts⟩)
    (c_parts : PySem.W.codeIn K cd_parts "parts" = true)
    (k_parts : PySem.W.keepIn K (.ref f_parts) = true)
    (a_odd_places : PySem.W.nsIn K mainGlobals "odd_places" = some (some (.ref f_odd_places)))
    (l_odd_places : K.lookup f_odd_places = some ⟨oc_odd_places, od_odd_places, .func (PySem.W.fnOf "odd_places" "odd_places" (defArgs s_odd_places) (defBody s_odd_places) (defScope s_odd_places) .none kV_odd_places dc_odd_places pm_odd_places an_odd_places cd_odd_places ct_odd_places), sl_odd_places⟩)
    (c_odd_places : PySem.W.codeIn K cd_odd_places "odd_places" = true)
    (k_odd_places : PySem.W.keepIn K (.ref f_odd_places) = true)
    (a_waiting_roads : PySem.W.nsIn K mainGlobals "waiting_roads" = some (some (.ref f_waiting_roads)))
    (l_waiting_roads : K.lookup f_waiting_roads = some ⟨oc_waiting_roads, od_waiting_roads, .func (PySem.W.fnOf "waiting_roads" "waiting_roads" (defArgs s_waiting_roads) (defBody s_waiting_roads) (defScope s_waiting_roads) .none kV_waiting_roads dc_waiting_roads pm_waiting_roads an_waiting_roads cd_waiting_roads ct_waiting_roads), sl_waiting_roads⟩)
    (c_waiting_roads : PySem.W.codeIn K cd_waiting_roads "waiting_roads" = true)
    (k_waiting_roads : PySem.W.keepIn K (.ref f_waiting_roads) = true)
    (a_walk_on : PySem.W.nsIn K mainGlobals "walk_on" = some (some (.ref f_walk_on)))
    (l_walk_on : K.lookup f_walk_on = some ⟨oc_walk_on, od_walk_on, .func (PySem.W.fnOf "walk_on" "walk_on" (defArgs s_walk_on) (defBody s_walk_on) (defScope s_walk_on) .none kV_walk_on dc_walk_on pm_walk_on an_walk_on cd_walk_on ct_walk_on), sl_walk_on⟩)
    (c_walk_on : PySem.W.codeIn K cd_walk_on "walk_on" = true)
    (k_walk_on : PySem.W.keepIn K (.ref f_walk_on) = true)
    (a_with_bends : PySem.W.nsIn K mainGlobals "with_bends" = some (some (.ref f_with_bends)))
    (l_with_bends : K.lookup f_with_bends = some ⟨oc_with_bends, od_with_bends, .func (PySem.W.fnOf "with_bends" "with_bends" (defArgs s_with_bends) (defBody s_with_bends) (defScope s_with_bends) .none kV_with_bends dc_with_bends pm_with_bends an_with_bends cd_with_bends ct_with_bends), sl_with_bends⟩)
    (c_with_bends : PySem.W.codeIn K cd_with_bends "with_bends" = true)
    (k_with_bends : PySem.W.keepIn K (.ref f_with_bends) = true)
    (a_walk_round : PySem.W.nsIn K mainGlobals "walk_round" = some (some (.ref f_walk_round)))
    (l_walk_round : K.lookup f_walk_round = some ⟨oc_walk_round, od_walk_round, .func (PySem.W.fnOf "walk_round" "walk_round" (defArgs s_walk_round) (defBody s_walk_round) (defScope s_walk_round) .none kV_walk_round dc_walk_round pm_walk_round an_walk_round cd_walk_round ct_walk_round), sl_walk_round⟩)
    (c_walk_round : PySem.W.codeIn K cd_walk_round "walk_round" = true)
    (k_walk_round : PySem.W.keepIn K (.ref f_walk_round) = true)
    (a_find : PySem.W.nsIn K mainGlobals "find" = some (some (.ref f_find)))
    (l_find : K.lookup f_find = some ⟨oc_find, od_find, .func (PySem.W.fnOf "find" "find" (defArgs s_find) (defBody s_find) (defScope s_find) .none kV_find dc_find pm_find an_find cd_find ct_find), sl_find⟩)
    (c_find : PySem.W.codeIn K cd_find "find" = true)
    (k_find : PySem.W.keepIn K (.ref f_find) = true)
    (a_cleared : PySem.W.nsIn K mainGlobals "cleared" = some (some (.ref f_cleared)))
    (l_cleared : K.lookup f_cleared = some ⟨oc_cleared, od_cleared, .func (PySem.W.fnOf "cleared" "cleared" (defArgs s_cleared) (defBody s_cleared) (defScope s_cleared) .none kV_cleared dc_cleared pm_cleared an_cleared cd_cleared ct_cleared), sl_cleared⟩)
    (c_cleared : PySem.W.codeIn K cd_cleared "cleared" = true)
    (k_cleared : PySem.W.keepIn K (.ref f_cleared) = true)
    (a_determinant : PySem.W.nsIn K mainGlobals "determinant" = some (some (.ref f_determinant)))
    (l_determinant : K.lookup f_determinant = some ⟨oc_determinant, od_determinant, .func (PySem.W.fnOf "determinant" "determinant" (defArgs s_determinant) (defBody s_determinant) (defScope s_determinant) .none kV_determinant dc_determinant pm_determinant an_determinant cd_determinant ct_determinant), sl_determinant⟩)
    (c_determinant : PySem.W.codeIn K cd_determinant "determinant" = true)
    (k_determinant : PySem.W.keepIn K (.ref f_determinant) = true)
    (a_tree_row : PySem.W.nsIn K mainGlobals "tree_row" = some (some (.ref f_tree_row)))
    (l_tree_row : K.lookup f_tree_row = some ⟨oc_tree_row, od_tree_row, .func (PySem.W.fnOf "tree_row" "tree_row" (defArgs s_tree_row) (defBody s_tree_row) (defScope s_tree_row) .none kV_tree_row dc_tree_row pm_tree_row an_tree_row cd_tree_row ct_tree_row), sl_tree_row⟩)
    (c_tree_row : PySem.W.codeIn K cd_tree_row "tree_row" = true)
    (k_tree_row : PySem.W.keepIn K (.ref f_tree_row) = true)
    (a_trees : PySem.W.nsIn K mainGlobals "trees" = some (some (.ref f_trees)))
    (l_trees : K.lookup f_trees = some ⟨oc_trees, od_trees, .func (PySem.W.fnOf "trees" "trees" (defArgs s_trees) (defBody s_trees) (defScope s_trees) .none kV_trees dc_trees pm_trees an_trees cd_trees ct_trees), sl_trees⟩)
    (c_trees : PySem.W.codeIn K cd_trees "trees" = true)
    (k_trees : PySem.W.keepIn K (.ref f_trees) = true)
    (a_has_round : PySem.W.nsIn K mainGlobals "has_round" = some (some (.ref f_has_round)))
    (l_has_round : K.lookup f_has_round = some ⟨oc_has_round, od_has_round, .func (PySem.W.fnOf "has_round" "has_round" (defArgs s_has_round) (defBody s_has_round) (defScope s_has_round) .none kV_has_round dc_has_round pm_has_round an_has_round cd_has_round ct_has_round), sl_has_round⟩)
    (c_has_round : PySem.W.codeIn K cd_has_round "has_round" = true)
    (k_has_round : PySem.W.keepIn K (.ref f_has_round) = true)
    (a_round_count : PySem.W.nsIn K mainGlobals "round_count" = some (some (.ref f_round_count)))
    (l_round_count : K.lookup f_round_count = some ⟨oc_round_count, od_round_count, .func (PySem.W.fnOf "round_count" "round_count" (defArgs s_round_count) (defBody s_round_count) (defScope s_round_count) .none kV_round_count dc_round_count pm_round_count an_round_count cd_round_count ct_round_count), sl_round_count⟩)
    (c_round_count : PySem.W.codeIn K cd_round_count "round_count" = true)
    (k_round_count : PySem.W.keepIn K (.ref f_round_count) = true)
    (a_window_count : PySem.W.nsIn K mainGlobals "window_count" = some (some (.ref f_window_count)))
    (l_window_count : K.lookup f_window_count = some ⟨oc_window_count, od_window_count, .func (PySem.W.fnOf "window_count" "window_count" (defArgs s_window_count) (defBody s_window_count) (defScope s_window_count) .none kV_window_count dc_window_count pm_window_count an_window_count cd_window_count ct_window_count), sl_window_count⟩)
    (c_window_count : PySem.W.codeIn K cd_window_count "window_count" = true)
    (k_window_count : PySem.W.keepIn K (.ref f_window_count) = true)
    (a_window_net : PySem.W.nsIn K mainGlobals "window_net" = some (some (.ref f_window_net)))
    (l_window_net : K.lookup f_window_net = some ⟨oc_window_net, od_window_net, .func (PySem.W.fnOf "window_net" "window_net" (defArgs s_window_net) (defBody s_window_net) (defScope s_window_net) .none kV_window_net dc_window_net pm_window_net an_window_net cd_window_net ct_window_net), sl_window_net⟩)
    (c_window_net : PySem.W.codeIn K cd_window_net "window_net" = true)
    (k_window_net : PySem.W.keepIn K (.ref f_window_net) = true)
    (a_q_drawn : PySem.W.nsIn K mainGlobals "_law_drawn" = some (some (.ref f_q_drawn)))
    (l_q_drawn : K.lookup f_q_drawn = some ⟨oc_q_drawn, od_q_drawn, .func (PySem.W.fnOf "_law_drawn" "_law_drawn" (defArgs s_q_drawn) (defBody s_q_drawn) (defScope s_q_drawn) .none kV_q_drawn dc_q_drawn pm_q_drawn an_q_drawn cd_q_drawn ct_q_drawn), sl_q_drawn⟩)
    (c_q_drawn : PySem.W.codeIn K cd_q_drawn "_law_drawn" = true)
    (k_q_drawn : PySem.W.keepIn K (.ref f_q_drawn) = true)
    (a_q_whole : PySem.W.nsIn K mainGlobals "_law_whole" = some (some (.ref f_q_whole)))
    (l_q_whole : K.lookup f_q_whole = some ⟨oc_q_whole, od_q_whole, .func (PySem.W.fnOf "_law_whole" "_law_whole" (defArgs s_q_whole) (defBody s_q_whole) (defScope s_q_whole) .none kV_q_whole dc_q_whole pm_q_whole an_q_whole cd_q_whole ct_q_whole), sl_q_whole⟩)
    (c_q_whole : PySem.W.codeIn K cd_q_whole "_law_whole" = true)
    (k_q_whole : PySem.W.keepIn K (.ref f_q_whole) = true)
    (a_q_laid : PySem.W.nsIn K mainGlobals "_law_laid" = some (some (.ref f_q_laid)))
    (l_q_laid : K.lookup f_q_laid = some ⟨oc_q_laid, od_q_laid, .func (PySem.W.fnOf "_law_laid" "_law_laid" (defArgs s_q_laid) (defBody s_q_laid) (defScope s_q_laid) .none kV_q_laid dc_q_laid pm_q_laid an_q_laid cd_q_laid ct_q_laid), sl_q_laid⟩)
    (c_q_laid : PySem.W.codeIn K cd_q_laid "_law_laid" = true)
    (k_q_laid : PySem.W.keepIn K (.ref f_q_laid) = true)
    (a_q_stands : PySem.W.nsIn K mainGlobals "_law_stands" = some (some (.ref f_q_stands)))
    (l_q_stands : K.lookup f_q_stands = some ⟨oc_q_stands, od_q_stands, .func (PySem.W.fnOf "_law_stands" "_law_stands" (defArgs s_q_stands) (defBody s_q_stands) (defScope s_q_stands) .none kV_q_stands dc_q_stands pm_q_stands an_q_stands cd_q_stands ct_q_stands), sl_q_stands⟩)
    (c_q_stands : PySem.W.codeIn K cd_q_stands "_law_stands" = true)
    (k_q_stands : PySem.W.keepIn K (.ref f_q_stands) = true)
    (a_q_closed_by : PySem.W.nsIn K mainGlobals "_law_closed_by" = some (some (.ref f_q_closed_by)))
    (l_q_closed_by : K.lookup f_q_closed_by = some ⟨oc_q_closed_by, od_q_closed_by, .func (PySem.W.fnOf "_law_closed_by" "_law_closed_by" (defArgs s_q_closed_by) (defBody s_q_closed_by) (defScope s_q_closed_by) .none kV_q_closed_by dc_q_closed_by pm_q_closed_by an_q_closed_by cd_q_closed_by ct_q_closed_by), sl_q_closed_by⟩)
    (c_q_closed_by : PySem.W.codeIn K cd_q_closed_by "_law_closed_by" = true)
    (k_q_closed_by : PySem.W.keepIn K (.ref f_q_closed_by) = true)
    (a_q_net_by : PySem.W.nsIn K mainGlobals "_law_net_by" = some (some (.ref f_q_net_by)))
    (l_q_net_by : K.lookup f_q_net_by = some ⟨oc_q_net_by, od_q_net_by, .func (PySem.W.fnOf "_law_net_by" "_law_net_by" (defArgs s_q_net_by) (defBody s_q_net_by) (defScope s_q_net_by) .none kV_q_net_by dc_q_net_by pm_q_net_by an_q_net_by cd_q_net_by ct_q_net_by), sl_q_net_by⟩)
    (c_q_net_by : PySem.W.codeIn K cd_q_net_by "_law_net_by" = true)
    (k_q_net_by : PySem.W.keepIn K (.ref f_q_net_by) = true)
    (a_q_odd : PySem.W.nsIn K mainGlobals "_law_odd" = some (some (.ref f_q_odd)))
    (l_q_odd : K.lookup f_q_odd = some ⟨oc_q_odd, od_q_odd, .func (PySem.W.fnOf "_law_odd" "_law_odd" (defArgs s_q_odd) (defBody s_q_odd) (defScope s_q_odd) .none kV_q_odd dc_q_odd pm_q_odd an_q_odd cd_q_odd ct_q_odd), sl_q_odd⟩)
    (c_q_odd : PySem.W.codeIn K cd_q_odd "_law_odd" = true)
    (k_q_odd : PySem.W.keepIn K (.ref f_q_odd) = true)
    (a_q_parts : PySem.W.nsIn K mainGlobals "_law_parts" = some (some (.ref f_q_parts)))
    (l_q_parts : K.lookup f_q_parts = some ⟨oc_q_parts, od_q_parts, .func (PySem.W.fnOf "_law_parts" "_law_parts" (defArgs s_q_parts) (defBody s_q_parts) (defScope s_q_parts) .none kV_q_parts dc_q_parts pm_q_parts an_q_parts cd_q_parts ct_q_parts), sl_q_parts⟩)
    (c_q_parts : PySem.W.codeIn K cd_q_parts "_law_parts" = true)
    (k_q_parts : PySem.W.keepIn K (.ref f_q_parts) = true)
    (a_q_products : PySem.W.nsIn K mainGlobals "_law_products" = some (some (.ref f_q_products)))
    (l_q_products : K.lookup f_q_products = some ⟨oc_q_products, od_q_products, .func (PySem.W.fnOf "_law_products" "_law_products" (defArgs s_q_products) (defBody s_q_products) (defScope s_q_products) .none kV_q_products dc_q_products pm_q_products an_q_products cd_q_products ct_q_products), sl_q_products⟩)
    (c_q_products : PySem.W.codeIn K cd_q_products "_law_products" = true)
    (k_q_products : PySem.W.keepIn K (.ref f_q_products) = true)
    (a_q_ring_by : PySem.W.nsIn K mainGlobals "_law_ring_by" = some (some (.ref f_q_ring_by)))
    (l_q_ring_by : K.lookup f_q_ring_by = some ⟨oc_q_ring_by, od_q_ring_by, .func (PySem.W.fnOf "_law_ring_by" "_law_ring_by" (defArgs s_q_ring_by) (defBody s_q_ring_by) (defScope s_q_ring_by) .none kV_q_ring_by dc_q_ring_by pm_q_ring_by an_q_ring_by cd_q_ring_by ct_q_ring_by), sl_q_ring_by⟩)
    (c_q_ring_by : PySem.W.codeIn K cd_q_ring_by "_law_ring_by" = true)
    (k_q_ring_by : PySem.W.keepIn K (.ref f_q_ring_by) = true)
    (a_q_windows : PySem.W.nsIn K mainGlobals "_law_windows" = some (some (.ref f_q_windows)))
    (l_q_windows : K.lookup f_q_windows = some ⟨oc_q_windows, od_q_windows, .func (PySem.W.fnOf "_law_windows" "_law_windows" (defArgs s_q_windows) (defBody s_q_windows) (defScope s_q_windows) .none kV_q_windows dc_q_windows pm_q_windows an_q_windows cd_q_windows ct_q_windows), sl_q_windows⟩)
    (c_q_windows : PySem.W.codeIn K cd_q_windows "_law_windows" = true)
    (k_q_windows : PySem.W.keepIn K (.ref f_q_windows) = true)
    (a_law : PySem.W.nsIn K mainGlobals "law" = some (some (.ref f_law)))
    (l_law : K.lookup f_law = some ⟨oc_law, od_law, .func (PySem.W.fnOf "law" "law" (defArgs s_law) (defBody s_law) (defScope s_law) .none kV_law dc_law pm_law an_law cd_law ct_law), sl_law⟩)
    (c_law : PySem.W.codeIn K cd_law "law" = true)
    (k_law : PySem.W.keepIn K (.ref f_law) = true)
    (pg_Net : PySem.W.plainGet K C_Net Str.empty = true)
    (hd_Net : PySem.W.hasDictIn K C_Net = true)
    (po_Net : PySem.W.plainOver K C_Net = true)
    (sa_Net : PySem.W.findIn K (.ref C_Net) "__setattr__" = some (some (.builtin "object.__setattr__")))
    (mk_Net : PySem.W.makesIn K C_Net = true)
    (kc_Net : PySem.W.keepIn K (.ref C_Net) = true)
    (n_Net_size : PySem.W.findIn K (.ref C_Net) "size" = some none)
    (n_Net_roads : PySem.W.findIn K (.ref C_Net) "roads" = some none)
    (z_bool : PySem.W.nsIn K mainGlobals "bool" = some none)
    (z_enumerate : PySem.W.nsIn K mainGlobals "enumerate" = some none)
    (z_int : PySem.W.nsIn K mainGlobals "int" = some none)
    (z_isinstance : PySem.W.nsIn K mainGlobals "isinstance" = some none)
    (z_len : PySem.W.nsIn K mainGlobals "len" = some none)
    (z_list : PySem.W.nsIn K mainGlobals "list" = some none)
    (z_max : PySem.W.nsIn K mainGlobals "max" = some none)
    (z_min : PySem.W.nsIn K mainGlobals "min" = some none)
    (z_range : PySem.W.nsIn K mainGlobals "range" = some none)
    (g_MOST_PLACES : PySem.W.nsIn K mainGlobals "MOST_PLACES" = some (some (.int 8 tk_MOST_PLACES)))
    (g_MOST_ROADS : PySem.W.nsIn K mainGlobals "MOST_ROADS" = some (some (.int 24 tk_MOST_ROADS))) :
    ∃ t : Adr, (∀ (s : Shared) (v : Value), BindsTo s t.d_law ⟨[v], []⟩ [("script", v)]) ∧ Tx K mg t := by
  have F_Net_init := fun_mk (st := s_Net_init) l_Net_init c_Net_init k_Net_init
  have b_Net_init := F_Net_init.binds (ps := ["self", "size"]) fun _ _ _ _ _ _ us hl => match us, hl with | [_, _], _ => rfl
  have F_Net_need_place := fun_mk (st := s_Net_need_place) l_Net_need_place c_Net_need_place k_Net_need_place
  have b_Net_need_place := F_Net_need_place.binds (ps := ["self", "place"]) fun _ _ _ _ _ _ us hl => match us, hl with | [_, _], _ => rfl
  have F_Net_lay := fun_mk (st := s_Net_lay) l_Net_lay c_Net_lay k_Net_lay
  have b_Net_lay := F_Net_lay.binds (ps := ["self", "start", "goal"]) fun _ _ _ _ _ _ us hl => match us, hl with | [_, _, _], _ => rfl
  have F_Net_outs := fun_mk (st := s_Net_outs) l_Net_outs c_Net_outs k_Net_outs
  have b_Net_outs := F_Net_outs.binds (ps := ["self", "place"]) fun _ _ _ _ _ _ us hl => match us, hl with | [_, _], _ => rfl
  have F_Net_ins := fun_mk (st := s_Net_ins) l_Net_ins c_Net_ins k_Net_ins
  have b_Net_ins := F_Net_ins.binds (ps := ["self", "place"]) fun _ _ _ _ _ _ us hl => match us, hl with | [_, _], _ => rfl
  have F_least_joined := fun_mk (st := s_least_joined) l_least_joined c_least_joined k_least_joined
  have b_least_joined := F_least_joined.binds (ps := ["net"]) fun _ _ _ _ _ _ us hl => match us, hl with | [_], _ => rfl
  have F_parts := fun_mk (st := s_parts) l_parts c_parts k_parts
  have b_parts := F_parts.binds (ps := ["net"]) fun _ _ _ _ _ _ us hl => match us, hl with | [_], _ => rfl
  have F_odd_places := fun_mk (st := s_odd_places) l_odd_places c_odd_places k_odd_places
  have b_odd_places := F_odd_places.binds (ps := ["net"]) fun _ _ _ _ _ _ us hl => match us, hl with | [_], _ => rfl
  have F_waiting_roads := fun_mk (st := s_waiting_roads) l_waiting_roads c_waiting_roads k_waiting_roads
  have b_waiting_roads := F_waiting_roads.binds (ps := ["net"]) fun _ _ _ _ _ _ us hl => match us, hl with | [_], _ => rfl
  have F_walk_on := fun_mk (st := s_walk_on) l_walk_on c_walk_on k_walk_on
  have b_walk_on := F_walk_on.binds (ps := ["net", "start", "waiting"]) fun _ _ _ _ _ _ us hl => match us, hl with | [_, _, _], _ => rfl
  have F_with_bends := fun_mk (st := s_with_bends) l_with_bends c_with_bends k_with_bends
  have b_with_bends := F_with_bends.binds (ps := ["net", "path", "waiting"]) fun _ _ _ _ _ _ us hl => match us, hl with | [_, _, _], _ => rfl
  have F_walk_round := fun_mk (st := s_walk_round) l_walk_round c_walk_round k_walk_round
  have b_walk_round := F_walk_round.binds (ps := ["net"]) fun _ _ _ _ _ _ us hl => match us, hl with | [_], _ => rfl
  have F_find := fun_mk (st := s_find) l_find c_find k_find
  have b_find := F_find.binds (ps := ["net"]) fun _ _ _ _ _ _ us hl => match us, hl with | [_], _ => rfl
  have F_cleared := fun_mk (st := s_cleared) l_cleared c_cleared k_cleared
  have b_cleared := F_cleared.binds (ps := ["row", "top", "last"]) fun _ _ _ _ _ _ us hl => match us, hl with | [_, _, _], _ => rfl
  have F_determinant := fun_mk (st := s_determinant) l_determinant c_determinant k_determinant
  have b_determinant := F_determinant.binds (ps := ["matrix"]) fun _ _ _ _ _ _ us hl => match us, hl with | [_], _ => rfl
  have F_tree_row := fun_mk (st := s_tree_row) l_tree_row c_tree_row k_tree_row
  have b_tree_row := F_tree_row.binds (ps := ["net", "place", "others", "one"]) fun _ _ _ _ _ _ us hl => match us, hl with | [_, _, _, _], _ => rfl
  have F_trees := fun_mk (st := s_trees) l_trees c_trees k_trees
  have b_trees := F_trees.binds (ps := ["net", "place"]) fun _ _ _ _ _ _ us hl => match us, hl with | [_, _], _ => rfl
  have F_has_round := fun_mk (st := s_has_round) l_has_round c_has_round k_has_round
  have b_has_round := F_has_round.binds (ps := ["net"]) fun _ _ _ _ _ _ us hl => match us, hl with | [_], _ => rfl
  have F_round_count := fun_mk (st := s_round_count) l_round_count c_round_count k_round_count
  have b_round_count := F_round_count.binds (ps := ["net"]) fun _ _ _ _ _ _ us hl => match us, hl with | [_], _ => rfl
  have F_window_count := fun_mk (st := s_window_count) l_window_count c_window_count k_window_count
  have b_window_count := F_window_count.binds (ps := ["signs", "length"]) fun _ _ _ _ _ _ us hl => match us, hl with | [_, _], _ => rfl
  have F_window_net := fun_mk (st := s_window_net) l_window_net c_window_net k_window_net
  have b_window_net := F_window_net.binds (ps := ["signs", "length"]) fun _ _ _ _ _ _ us hl => match us, hl with | [_, _], _ => rfl
  have F_q_drawn := fun_mk (st := s_q_drawn) l_q_drawn c_q_drawn k_q_drawn
  have b_q_drawn := F_q_drawn.binds (ps := ["script", "k", "many"]) fun _ _ _ _ _ _ us hl => match us, hl with | [_, _, _], _ => rfl
  have F_q_whole := fun_mk (st := s_q_whole) l_q_whole c_q_whole k_q_whole
  have b_q_whole := F_q_whole.binds (ps := ["found"]) fun _ _ _ _ _ _ us hl => match us, hl with | [_], _ => rfl
  have F_q_laid := fun_mk (st := s_q_laid) l_q_laid c_q_laid k_q_laid
  have b_q_laid := F_q_laid.binds (ps := ["size", "roads"]) fun _ _ _ _ _ _ us hl => match us, hl with | [_, _], _ => rfl
  have F_q_stands := fun_mk (st := s_q_stands) l_q_stands c_q_stands k_q_stands
  have b_q_stands := F_q_stands.binds (ps := ["net", "size", "roads"]) fun _ _ _ _ _ _ us hl => match us, hl with | [_, _, _], _ => rfl
  have F_q_closed_by := fun_mk (st := s_q_closed_by) l_q_closed_by c_q_closed_by k_q_closed_by
  have b_q_closed_by := F_q_closed_by.binds (ps := ["script", "size", "many", "base"]) fun _ _ _ _ _ _ us hl => match us, hl with | [_, _, _, _], _ => rfl
  have F_q_net_by := fun_mk (st := s_q_net_by) l_q_net_by c_q_net_by k_q_net_by
  have b_q_net_by := F_q_net_by.binds (ps := ["script", "most"]) fun _ _ _ _ _ _ us hl => match us, hl with | [_, _], _ => rfl
  have F_q_odd := fun_mk (st := s_q_odd) l_q_odd c_q_odd k_q_odd
  have b_q_odd := F_q_odd.binds (ps := ["size", "roads"]) fun _ _ _ _ _ _ us hl => match us, hl with | [_, _], _ => rfl
  have F_q_parts := fun_mk (st := s_q_parts) l_q_parts c_q_parts k_q_parts
  have b_q_parts := F_q_parts.binds (ps := ["size", "roads"]) fun _ _ _ _ _ _ us hl => match us, hl with | [_, _], _ => rfl
  have F_q_products := fun_mk (st := s_q_products) l_q_products c_q_products k_q_products
  have b_q_products := F_q_products.binds (ps := ["size", "roads"]) fun _ _ _ _ _ _ us hl => match us, hl with | [_, _], _ => rfl
  have F_q_ring_by := fun_mk (st := s_q_ring_by) l_q_ring_by c_q_ring_by k_q_ring_by
  have b_q_ring_by := F_q_ring_by.binds (ps := ["script"]) fun _ _ _ _ _ _ us hl => match us, hl with | [_], _ => rfl
  have F_q_windows := fun_mk (st := s_q_windows) l_q_windows c_q_windows k_q_windows
  have b_q_windows := F_q_windows.binds (ps := ["script"]) fun _ _ _ _ _ _ us hl => match us, hl with | [_], _ => rfl
  have F_law := fun_mk (st := s_law) l_law c_law k_law
  have b_law := F_law.binds (ps := ["script"]) fun _ _ _ _ _ _ us hl => match us, hl with | [_], _ => rfl
  exact ⟨⟨C_Net, f_Net_init, _, f_Net_need_place, _, f_Net_lay, _, f_Net_outs, _, f_Net_ins, _, f_least_joined, _, f_parts, _, f_odd_places, _, f_waiting_roads, _, f_walk_on, _, f_with_bends, _, f_walk_round, _, f_find, _, f_cleared, _, f_determinant, _, f_tree_row, _, f_trees, _, f_has_round, _, f_round_count, _, f_window_count, _, f_window_net, _, f_q_drawn, _, f_q_whole, _, f_q_laid, _, f_q_stands, _, f_q_closed_by, _, f_q_net_by, _, f_q_odd, _, f_q_parts, _, f_q_products, _, f_q_ring_by, _, f_q_windows, _, f_law, _⟩, fun s v => .of_eq rfl, ⟨⟨pg_Net, hd_Net, po_Net, sa_Net⟩,
    PySem.W.mg_of X G a_Net,
    ⟨mk_Net, a_Net_init, i_Net_init, kc_Net⟩,
    n_Net_size,
    n_Net_roads,
    F_Net_init,
    b_Net_init,
    F_Net_need_place,
    b_Net_need_place,
    ⟨a_Net_need_place, i_Net_need_place, k_Net_need_place⟩,
    F_Net_lay,
    b_Net_lay,
    ⟨a_Net_lay, i_Net_lay, k_Net_lay⟩,
    F_Net_outs,
    b_Net_outs,
    ⟨a_Net_outs, i_Net_outs, k_Net_outs⟩,
    F_Net_ins,
    b_Net_ins,
    ⟨a_Net_ins, i_Net_ins, k_Net_ins⟩,
    F_least_joined,
    b_least_joined,
    PySem.W.mg_of X G a_least_joined,
    F_parts,
    b_parts,
    PySem.W.mg_of X G a_parts,
    F_odd_places,
    b_odd_places,
    PySem.W.mg_of X G a_odd_places,
    F_waiting_roads,
    b_waiting_roads,
    PySem.W.mg_of X G a_waiting_roads,
    F_walk_on,
    b_walk_on,
    PySem.W.mg_of X G a_walk_on,
    F_with_bends,
    b_with_bends,
    PySem.W.mg_of X G a_with_bends,
    F_walk_round,
    b_walk_round,
    PySem.W.mg_of X G a_walk_round,
    F_find,
    b_find,
    PySem.W.mg_of X G a_find,
    F_cleared,
    b_cleared,
    PySem.W.mg_of X G a_cleared,
    F_determinant,
    b_determinant,
    PySem.W.mg_of X G a_determinant,
    F_tree_row,
    b_tree_row,
    PySem.W.mg_of X G a_tree_row,
    F_trees,
    b_trees,
    PySem.W.mg_of X G a_trees,
    F_has_round,
    b_has_round,
    PySem.W.mg_of X G a_has_round,
    F_round_count,
    b_round_count,
    PySem.W.mg_of X G a_round_count,
    F_window_count,
    b_window_count,
    PySem.W.mg_of X G a_window_count,
    F_window_net,
    b_window_net,
    PySem.W.mg_of X G a_window_net,
    F_q_drawn,
    b_q_drawn,
    PySem.W.mg_of X G a_q_drawn,
    F_q_whole,
    b_q_whole,
    PySem.W.mg_of X G a_q_whole,
    F_q_laid,
    b_q_laid,
    PySem.W.mg_of X G a_q_laid,
    F_q_stands,
    b_q_stands,
    PySem.W.mg_of X G a_q_stands,
    F_q_closed_by,
    b_q_closed_by,
    PySem.W.mg_of X G a_q_closed_by,
    F_q_net_by,
    b_q_net_by,
    PySem.W.mg_of X G a_q_net_by,
    F_q_odd,
    b_q_odd,
    PySem.W.mg_of X G a_q_odd,
    F_q_parts,
    b_q_parts,
    PySem.W.mg_of X G a_q_parts,
    F_q_products,
    b_q_products,
    PySem.W.mg_of X G a_q_products,
    F_q_ring_by,
    b_q_ring_by,
    PySem.W.mg_of X G a_q_ring_by,
    F_q_windows,
    b_q_windows,
    PySem.W.mg_of X G a_q_windows,
    F_law,
    b_law,
    PySem.W.mg_of X G a_law,
    PySem.W.mg_none_of X G z_bool,
    PySem.W.mg_none_of X G z_enumerate,
    PySem.W.mg_none_of X G z_int,
    PySem.W.mg_none_of X G z_isinstance,
    PySem.W.mg_none_of X G z_len,
    PySem.W.mg_none_of X G z_list,
    PySem.W.mg_none_of X G z_max,
    PySem.W.mg_none_of X G z_min,
    PySem.W.mg_none_of X G z_range,
    ⟨_, PySem.W.mg_of X G g_MOST_PLACES⟩,
    ⟨_, PySem.W.mg_of X G g_MOST_ROADS⟩⟩⟩
theorem walk {l : PySem.W.OpenLaw} {q : Program} {loose : List Str} {XP : (Str → Option Value) → Heap → Prop} {YP : World → Heap → Prop} {d : DefRec} {K : Params → PySem.W.Frag} (hn : l.most = some 63) (hdf : d.params.defaults = []) (hname : d.name = "law")
    (hY : ∀ (w : World) (h : Heap), YP w h → (K w.params).In h)
    (F : ∀ (w : World) (mg : Str → Option Value) (h : Heap), (K w.params).In h → h.Ns mainGlobals mg → ∃ t, mg "law" = some (.ref t.a_law) ∧ (∀ (s : Shared) (v : Value), BindsTo s t.d_law ⟨[v], []⟩ [("script", v)]) ∧ Tx (K w.params) mg t) :
    PySem.W.WalkO q loose XP YP l.row.toRowW d [] (fun f vs => PySem.call f vs) :=
  L2.walk_of (n := 63) (k := 9) (x := "script") (CX := fun _ => CX0) (sp := fun w => sp_law (K w.params)) hn (by decide) hdf ⟨rfl, by decide, by decide⟩ hY (fun w mg fa h KX G hm => by
    obtain ⟨t, e, b, T⟩ := F w mg h KX G
    rw [hname, e] at hm
    cases hm
    exact ⟨t.d_law, b, fun base _ _ => ok_law T⟩) (fun _ _ a ns hl hO hS => ⟨a, ns, rfl, scr_of hO hS, hl, fun _ => rfl⟩) fun _ _ _ _ _ z => z
end Mine
open PySem PySem.W PyProof.Rows
def PySem.W.Fast.tw15628084143082206367 : Unit := ()
set_option maxRecDepth 100000 in
set_option maxHeartbeats 0 in
theorem PySem.Challenge.cw_everyroad_k21_whole_counts_of_many_holds : PySem.Challenge.rw_everyroad_k21_whole_counts_of_many.Holds := by
  w_on; o_law; k_head; (case hw => w_witness2)
  k_fill
  refine Mine.walk (l := PySem.Challenge.rw_everyroad_k21_whole_counts_of_many) rfl rfl rfl (fun w h Y => PySem.W.kIn_of Y) ?F
  case F =>
    intro w mg h KX G
    have T : ∃ t : Mine.Adr, (∀ (s : Shared) (v : Value), BindsTo s t.d_law ⟨[v], []⟩ [("script", v)]) ∧ Mine.Tx (L2.KOf KX) mg t := by
      dsimp only [L2.KOf]
      refine' Mine.tx_mk KX G ?a_Net ?a_Net_init ?i_Net_init ?l_Net_init ?c_Net_init ?k_Net_init ?a_Net_need_place ?i_Net_need_place ?l_Net_need_place ?c_Net_need_place ?k_Net_need_place ?a_Net_lay ?i_Net_lay ?l_Net_lay ?c_Net_lay ?k_Net_lay ?a_Net_outs ?i_Net_outs ?l_Net_outs ?c_Net_outs ?k_Net_outs ?a_Net_ins ?i_Net_ins ?l_Net_ins ?c_Net_ins ?k_Net_ins ?a_least_joined ?l_least_joined ?c_least_joined ?k_least_joined ?a_parts ?l_parts ?c_parts ?k_parts ?a_odd_places ?l_odd_places ?c_odd_places ?k_odd_places ?a_waiting_roads ?l_waiting_roads ?c_waiting_roads ?k_waiting_roads ?a_walk_on ?l_walk_on ?c_walk_on ?k_walk_on ?a_with_bends ?l_with_bends ?c_with_bends ?k_with_bends ?a_walk_round ?l_walk_round ?c_walk_round ?k_walk_round ?a_find ?l_find ?c_find ?k_find ?a_cleared ?l_cleared ?c_cleared ?k_cleared ?a_determinant ?l_determinant ?c_determinant ?k_determinant ?a_tree_row ?l_tree_row ?c_tree_row ?k_tree_row ?a_trees ?l_trees ?c_trees ?k_trees ?a_has_round ?l_has_round ?c_has_round ?k_has_round ?a_round_count ?l_round_count ?c_round_count ?k_round_count ?a_window_count ?l_window_count ?c_window_count ?k_window_count ?a_window_net ?l_window_net ?c_window_net ?k_window_net ?a_q_drawn ?l_q_drawn ?c_q_drawn ?k_q_drawn ?a_q_whole ?l_q_whole ?c_q_whole ?k_q_whole ?a_q_laid ?l_q_laid ?c_q_laid ?k_q_laid ?a_q_stands ?l_q_stands ?c_q_stands ?k_q_stands ?a_q_closed_by ?l_q_closed_by ?c_q_closed_by ?k_q_closed_by ?a_q_net_by ?l_q_net_by ?c_q_net_by ?k_q_net_by ?a_q_odd ?l_q_odd ?c_q_odd ?k_q_odd ?a_q_parts ?l_q_parts ?c_q_parts ?k_q_parts ?a_q_products ?l_q_products ?c_q_products ?k_q_products ?a_q_ring_by ?l_q_ring_by ?c_q_ring_by ?k_q_ring_by ?a_q_windows ?l_q_windows ?c_q_windows ?k_q_windows ?a_law ?l_law ?c_law ?k_law ?pg_Net ?hd_Net ?po_Net ?sa_Net ?mk_Net ?kc_Net ?n_Net_size ?n_Net_roads ?z_bool ?z_enumerate ?z_int ?z_isinstance ?z_len ?z_list ?z_max ?z_min ?z_range ?g_MOST_PLACES ?g_MOST_ROADS
      (case a_Net => k_is)
      (case a_Net_init => k_is)
      (case i_Net_init => k_is)
      (case l_Net_init => k_is)
      (case c_Net_init => k_is)
      (case k_Net_init => k_is)
      (case a_Net_need_place => k_is)
      (case i_Net_need_place => k_is)
      (case l_Net_need_place => k_is)
      (case c_Net_need_place => k_is)
      (case k_Net_need_place => k_is)
      (case a_Net_lay => k_is)
      (case i_Net_lay => k_is)
      (case l_Net_lay => k_is)
      (case c_Net_lay => k_is)
      (case k_Net_lay => k_is)
      (case a_Net_outs => k_is)
      (case i_Net_outs => k_is)
      (case l_Net_outs => k_is)
      (case c_Net_outs => k_is)
      (case k_Net_outs => k_is)
      (case a_Net_ins => k_is)
      (case i_Net_ins => k_is)
      (case l_Net_ins => k_is)
      (case c_Net_ins => k_is)
      (case k_Net_ins => k_is)
      (case a_least_joined => k_is)
      (case l_least_joined => k_is)
      (case c_least_joined => k_is)
      (case k_least_joined => k_is)
      (case a_parts => k_is)
      (case l_parts => k_is)
      (case c_parts => k_is)
      (case k_parts => k_is)
      (case a_odd_places => k_is)
      (case l_odd_places => k_is)
      (case c_odd_places => k_is)
      (case k_odd_places => k_is)
      (case a_waiting_roads => k_is)
      (case l_waiting_roads => k_is)
      (case c_waiting_roads => k_is)
      (case k_waiting_roads => k_is)
      (case a_walk_on => k_is)
      (case l_walk_on => k_is)
      (case c_walk_on => k_is)
      (case k_walk_on => k_is)
      (case a_with_bends => k_is)
      (case l_with_bends => k_is)
      (case c_with_bends => k_is)
      (case k_with_bends => k_is)
      (case a_walk_round => k_is)
      (case l_walk_round => k_is)
      (case c_walk_round => k_is)
      (case k_walk_round => k_is)
      (case a_find => k_is)
      (case l_find => k_is)
      (case c_find => k_is)
      (case k_find => k_is)
      (case a_cleared => k_is)
      (case l_cleared => k_is)
      (case c_cleared => k_is)
      (case k_cleared => k_is)
      (case a_determinant => k_is)
      (case l_determinant => k_is)
      (case c_determinant => k_is)
      (case k_determinant => k_is)
      (case a_tree_row => k_is)
      (case l_tree_row => k_is)
      (case c_tree_row => k_is)
      (case k_tree_row => k_is)
      (case a_trees => k_is)
      (case l_trees => k_is)
      (case c_trees => k_is)
      (case k_trees => k_is)
      (case a_has_round => k_is)
      (case l_has_round => k_is)
      (case c_has_round => k_is)
      (case k_has_round => k_is)
      (case a_round_count => k_is)
      (case l_round_count => k_is)
      (case c_round_count => k_is)
      (case k_round_count => k_is)
      (case a_window_count => k_is)
      (case l_window_count => k_is)
      (case c_window_count => k_is)
      (case k_window_count => k_is)
      (case a_window_net => k_is)
      (case l_window_net => k_is)
      (case c_window_net => k_is)
      (case k_window_net => k_is)
      (case a_q_drawn => k_is)
      (case l_q_drawn => k_is)
      (case c_q_drawn => k_is)
      (case k_q_drawn => k_is)
      (case a_q_whole => k_is)
      (case l_q_whole => k_is)
      (case c_q_whole => k_is)
      (case k_q_whole => k_is)
      (case a_q_laid => k_is)
      (case l_q_laid => k_is)
      (case c_q_laid => k_is)
      (case k_q_laid => k_is)
      (case a_q_stands => k_is)
      (case l_q_stands => k_is)
      (case c_q_stands => k_is)
      (case k_q_stands => k_is)
      (case a_q_closed_by => k_is)
      (case l_q_closed_by => k_is)
      (case c_q_closed_by => k_is)
      (case k_q_closed_by => k_is)
      (case a_q_net_by => k_is)
      (case l_q_net_by => k_is)
      (case c_q_net_by => k_is)
      (case k_q_net_by => k_is)
      (case a_q_odd => k_is)
      (case l_q_odd => k_is)
      (case c_q_odd => k_is)
      (case k_q_odd => k_is)
      (case a_q_parts => k_is)
      (case l_q_parts => k_is)
      (case c_q_parts => k_is)
      (case k_q_parts => k_is)
      (case a_q_products => k_is)
      (case l_q_products => k_is)
      (case c_q_products => k_is)
      (case k_q_products => k_is)
      (case a_q_ring_by => k_is)
      (case l_q_ring_by => k_is)
      (case c_q_ring_by => k_is)
      (case k_q_ring_by => k_is)
      (case a_q_windows => k_is)
      (case l_q_windows => k_is)
      (case c_q_windows => k_is)
      (case k_q_windows => k_is)
      (case a_law => k_is)
      (case l_law => k_is)
      (case c_law => k_is)
      (case k_law => k_is)
      (case pg_Net => k_is)
      (case hd_Net => k_is)
      (case po_Net => k_is)
      (case sa_Net => k_is)
      (case mk_Net => k_is)
      (case kc_Net => k_is)
      (case n_Net_size => k_is)
      (case n_Net_roads => k_is)
      (case z_bool => k_is)
      (case z_enumerate => k_is)
      (case z_int => k_is)
      (case z_isinstance => k_is)
      (case z_len => k_is)
      (case z_list => k_is)
      (case z_max => k_is)
      (case z_min => k_is)
      (case z_range => k_is)
      (case g_MOST_PLACES => k_is)
      (case g_MOST_ROADS => k_is)
    obtain ⟨t, b, T⟩ := T
    exact ⟨t, T.m_law, b, T⟩
#print axioms PySem.Challenge.cw_everyroad_k21_whole_counts_of_many_holds

