import PyProof.Rows.All
import Wide.All
import OpenK.AllK
import Wide.FinOn
import Lean
import PyProof.EqAt
import PyProof.EqKinds
import PyProof.TupleCall
import PySem.Challenge.RW_skewhouse_k64_least_rings
set_option Elab.async false
set_option linter.all false
set_option maxRecDepth 100000
/-! THE HAND LAYER, for ints, bools, texts, own classes, LISTS and tuples (index, slices, in, append, pop ..), calls, loops. Paste it whole ahead of your own text; what your proof does not reach may be deleted. -/
namespace L2
open PySem PySem.Spec PyProof.Rows

/-- a key: an int or a str -/
abbrev Key := Sum Int Str
def keyIs : Key → Value → Bool
  | .inl k, v => Value.isInt k v
  | .inr x, v => Value.isStrOf x v
def keyH (w : World) : Key → Int
  | .inl k => hashInt k
  | .inr x => hashStr w x
theorem keyIs_shape : ∀ {k : Key} {v : Value}, keyIs k v = true → (∃ i t, k = Sum.inl i ∧ v = Value.int i t) ∨ (∃ x t, k = Sum.inr x ∧ v = Value.str x t)
  | .inl i, v, h => by
    obtain ⟨t, e⟩ := Value.isInt_shape (k := i) (v := v) h
    exact .inl ⟨i, t, rfl, e⟩
  | .inr x, v, h => by
    obtain ⟨t, e⟩ := Value.isStrOf_shape (x := x) (v := v) h
    exact .inr ⟨x, t, rfl, e⟩
theorem keyIs_int (i : Int) (t : Tok) : keyIs (.inl i) (.int i t) = true := by simp [keyIs, Value.isInt]
theorem keyIs_str (x : Str) (t : Tok) : keyIs (.inr x) (.str x t) = true := by simp [keyIs, Value.isStrOf]
theorem key_ll (a b : Int) : decide ((Sum.inl a : Key) = Sum.inl b) = (a == b) := by
  by_cases e : a = b
  · subst e; simp
  · have h : ¬ (Sum.inl a : Key) = Sum.inl b := fun q => e (Sum.inl.inj q)
    rw [decide_eq_false h]
    exact (beq_eq_false_iff_ne.mpr e).symm
theorem key_rr (a b : Str) : decide ((Sum.inr a : Key) = Sum.inr b) = decide (a = b) := by
  by_cases e : a = b
  · subst e; simp
  · have h : ¬ (Sum.inr a : Key) = Sum.inr b := fun q => e (Sum.inr.inj q)
    rw [decide_eq_false h, decide_eq_false e]
theorem key_lr (a : Int) (b : Str) : decide ((Sum.inl a : Key) = Sum.inr b) = false := decide_eq_false (fun q => nomatch q)
theorem key_rl (a : Str) (b : Int) : decide ((Sum.inr a : Key) = Sum.inl b) = false := decide_eq_false (fun q => nomatch q)

def mixKind (prog : Program) (w : World) : PySem.KeyKind prog w Key where
  is := keyIs
  hash := keyH w
  inj := fun v a b ha hb => by
    rcases keyIs_shape ha with ⟨i, t, rfl, rfl⟩ | ⟨x, t, rfl, rfl⟩
    · rcases keyIs_shape hb with ⟨j, u, rfl, e⟩ | ⟨y, u, rfl, e⟩
      · injection e with e1 _; rw [e1]
      · exact nomatch e
    · rcases keyIs_shape hb with ⟨j, u, rfl, e⟩ | ⟨y, u, rfl, e⟩
      · exact nomatch e
      · injection e with e1 _; rw [e1]
  byValue := fun k v h => by
    rcases keyIs_shape h with ⟨i, t, rfl, rfl⟩ | ⟨x, t, rfl, rfl⟩ <;> rfl
  pyHash := fun hv h => by
    rcases keyIs_shape hv with ⟨i, t, rfl, rfl⟩ | ⟨x, t, rfl, rfl⟩
    · exact wpAny_pyHash_int h
    · exact wpAny_pyHash_str h
  eqBool := fun hu hv h => by
    rcases keyIs_shape hu with ⟨i, t, rfl, rfl⟩ | ⟨x, t, rfl, rfl⟩
    · rcases keyIs_shape hv with ⟨j, u, rfl, rfl⟩ | ⟨y, u, rfl, rfl⟩
      · rw [key_ll] at h; exact wpAny_eqBool_int h
      · rw [key_lr] at h; exact SeqAt.EqAt.int_str i t y u _ _ _ _ h
    · rcases keyIs_shape hv with ⟨j, u, rfl, rfl⟩ | ⟨y, u, rfl, rfl⟩
      · rw [key_rl] at h; exact SeqAt.EqAt.str_int x t j u _ _ _ _ h
      · rw [key_rr] at h; exact wpAny_eqBool_str h
  «strs» := fun k x t v h => by
    rcases keyIs_shape h with ⟨i, u, rfl, e⟩ | ⟨y, u, rfl, e⟩
    · exact nomatch e
    · injection e with e1 _
      subst e1
      cases v <;> rfl

theorem mixKind_int (prog : Program) (w : World) (i : Int) (t : Tok) : (mixKind prog w).is (.inl i) (.int i t) = true := keyIs_int i t
theorem mixKind_str (prog : Program) (w : World) (x : Str) (t : Tok) : (mixKind prog w).is (.inr x) (.str x t) = true := keyIs_str x t
end L2

namespace L2
open PySem PySem.Spec PyProof.Rows

/-- a value, without the heap -/
inductive V where
  | non | bl (b : Bool) | int (i : Int) | str (x : Str) | byt (b : Array UInt8) | flt (b : UInt64) | ref (a : Addr) | ty (n : String)
  deriving DecidableEq

def RelV : V → Value → Prop
  | .non, u => u = Value.none
  | .bl b, u => u = Value.bool b
  | .int i, u => ∃ t, u = Value.int i t
  | .str x, u => ∃ t, u = Value.str x t
  | .byt b, u => ∃ t, u = Value.bytes b t
  | .flt b, u => ∃ t, u = Value.float b t
  | .ref a, u => u = Value.ref a
  | .ty n, u => u = Value.type n

abbrev Vals : List V → List Value → Prop := Paired RelV
theorem Vals.length {xs : List V} {us : List Value} (r : Vals xs us) : xs.length = us.length := Paired.length r
theorem Vals.get : ∀ {xs : List V} {us : List Value} {i : Nat} {x : V}, Vals xs us → xs[i]? = some x → ∃ u, us[i]? = some u ∧ RelV x u
  | _, _, _, _, .nil, e => by simp at e
  | _, _, 0, _, .cons r _, e => by simp at e; subst e; exact ⟨_, rfl, r⟩
  | _, _, i + 1, x, .cons _ t, e => by
    obtain ⟨u, h1, h2⟩ := Vals.get (i := i) (x := x) t (by simpa using e)
    exact ⟨u, by simpa using h1, h2⟩
theorem Vals.set {x : V} {u : Value} (r : RelV x u) : ∀ {xs : List V} {us : List Value} (i : Nat), Vals xs us → Vals (xs.set i x) (us.set i u)
  | _, _, _, .nil => .nil
  | _, _, 0, .cons _ t => .cons r t
  | _, _, i + 1, .cons q t => .cons q (Vals.set r i t)
theorem Vals.append : ∀ {xs ys : List V} {us ws : List Value}, Vals xs us → Vals ys ws → Vals (xs ++ ys) (us ++ ws)
  | _, _, _, _, .nil, s => s
  | _, _, _, _, .cons r t, s => .cons r (Vals.append t s)
theorem Vals.take : ∀ {xs : List V} {us : List Value} (n : Nat), Vals xs us → Vals (xs.take n) (us.take n)
  | _, _, 0, _ => .nil
  | _, _, _ + 1, .nil => .nil
  | _, _, n + 1, .cons r t => .cons r (Vals.take n t)
theorem Vals.drop : ∀ {xs : List V} {us : List Value} (n : Nat), Vals xs us → Vals (xs.drop n) (us.drop n)
  | _, _, 0, r => r
  | _, _, _ + 1, .nil => .nil
  | _, _, n + 1, .cons _ t => Vals.drop n t
def RelO : Option V → Option Value → Prop
  | some v, some u => RelV v u
  | none, none => True
  | _, _ => False
def KV {κ : Type} : List (κ × V) → List (κ × Value) → Prop := Paired fun (p : κ × V) (q : κ × Value) => p.1 = q.1 ∧ RelV p.2 q.2

/-- a key of a dict (00_mix): an int or a text -/
def kV : Key → V
  | .inl i => .int i
  | .inr x => .str x

/-- what stands at a tracked address -/
inductive HO where
  /-- a list -/
  | lst (xs : List V)
  /-- a tuple (never changes) -/
  | tup (xs : List V)
  /-- a dict whose keys are ints and texts; one whose keys are tuples of ints and texts (the empty one is both) -/
  | dK (kvs : List (Key × V)) | dT (kvs : List (List Key × V))
  /-- a set of ints: its members, its size -/
  | set (S : Int → Bool) (n : Nat)
  /-- an instance of the class at C, its dict at dx, its attributes -/
  | ins (C dx : Addr) (fs : List (Str × V))
  /-- the dict of the instance at x -/
  | own (x : Addr)
  /-- the dict of an exception -/
  | xd (fs : List (Str × V))
  /-- a bound method, f of x -/
  | met (f x : Addr)
  /-- a range object lo, lo + 1, .. below hi -/
  | rng (lo hi : Int)
  /-- a thing that is known to the object (the script; a dict while a loop walks it): read, never written while it is so -/
  | frz (o : Obj) (u : HO)
  /-- a code object's table -/
  | tbl (ps : Array Value)
  /-- any other thing, by what is true of its one object (a def of one's own: SetO a S n := HO.ext fun h => ..) -/
  | ext (φ : Heap → Prop)

abbrev Hp := Addr → Option HO
def upd (H : Hp) (a : Addr) (o : HO) : Hp := fun b => if b = a then some o else H b
theorem upd_same {H : Hp} {a : Addr} {o : HO} : upd H a o a = some o := by unfold upd; rw [if_pos rfl]
theorem upd_ne {H : Hp} {a b : Addr} {o : HO} (h : b ≠ a) : upd H a o b = H b := by unfold upd; rw [if_neg h]
/-- two objects of different content stand apart -/
theorem ne_of {H : Hp} {a b : Addr} {o u : HO} (h : H a = some o) (h' : H b = some u) (d : o ≠ u) : a ≠ b := by
  intro e; subst e; rw [h] at h'; exact d (Option.some.inj h')
theorem ne_of_none {H : Hp} {a b : Addr} {o : HO} (h : H a = some o) (h' : H b = none) : a ≠ b := by
  intro e; subst e; rw [h] at h'; cases h'

section
variable (P : Program) (w : World)
def ObjOk (H : Hp) (h : Heap) (a : Addr) : HO → Prop
  | .lst xs => xs.length ≤ sizeLine ∧ ∃ (its : List Value) (n : Nat), Vals xs its ∧ h.get? a = some { cls := .type "list", data := .seq its.toArray n }
  | .tup xs => xs.length ≤ sizeLine ∧ ∃ its : List Value, Vals xs its ∧ IsTup h a its.toArray
  | .dK kvs => kvs.length ≤ sizeLine ∧ (a == sysModules) = false ∧ ∃ vs, KV kvs vs ∧ h.DictOf (mixKind P w) a vs
  | .dT kvs => kvs.length ≤ sizeLine ∧ (a == sysModules) = false ∧ ∃ xs : List (List Key × Addr × Value),
      Paired (fun (p : List Key × V) (q : List Key × Addr × Value) => p.1 = q.1 ∧ H q.2.1 = some (.tup (p.1.map kV)) ∧ RelV p.2 q.2.2) kvs xs ∧
      ∃ o es ep, h.get? a = some o ∧ o.ExactDict ∧ o.data = .dict es ep ∧ es.toList = xs.map (entryOfKey (tupleKind (mixKind P w))) ∧ (xs.map (·.1)).Nodup
  | .set S n => h.SetOf (intKind P w) a S n
  | .ins C dx fs => H dx = some (.own a) ∧ fs.length ≤ 1000 ∧ dx ≠ a ∧ h.get? a = some (PySem.W.instObj C dx) ∧
      ∃ mA, h.Ns1 dx mA ∧ (∀ f, RelO (fs.lookup f) (mA f)) ∧ PySem.Within mA (fs.map (·.1))
  | .own _ => ∃ o, h.get? a = some o
  | .xd fs => ∃ mA, h.Ns1 a mA ∧ ∀ f, RelO (fs.lookup f) (mA f)
  | .rng lo hi => ∃ t u v, h.get? a = some { cls := .type "range", data := .fields #[.int lo t, .int hi u, .int 1 v] }
  | .frz o u => h.get? a = some o ∧ ObjOk H h a u
  | .tbl ps => h.get? a = some { cls := .none, data := .fields ps }
  | .met f x => h.get? a = some (PySem.W.methodObj (.ref f) (.ref x))
  | .ext φ => φ h ∧ (∃ o, h.get? a = some o) ∧ ∀ h1 h2 : Heap, φ h1 → (∀ o, h1.get? a = some o → h2.get? a = some o) → φ h2
/-- the abstract heap is held -/
def HOk (H : Hp) (h : Heap) : Prop := ∀ a o, H a = some o → ObjOk P w H h a o
end

section
variable {P : Program} {w : World} {H H' : Hp} {h h' : Heap} {a : Addr} {o : HO}
theorem ObjOk.lt (x : ObjOk P w H h a o) : a < h.objs.size := by
  cases o with
  | lst xs => obtain ⟨_, _, _, _, e⟩ := x; exact Heap.lt_size e
  | tup xs => obtain ⟨_, _, _, p⟩ := x; exact p.lt
  | dK kvs => obtain ⟨_, _, _, _, o, _, _, e, _⟩ := x; exact Heap.lt_size e
  | dT kvs => obtain ⟨_, _, _, _, o, _, _, e, _⟩ := x; exact Heap.lt_size e
  | set S n => obtain ⟨o, _, _, _, e, _⟩ := x; exact Heap.lt_size e
  | ins C dx fs => obtain ⟨_, _, _, e, _⟩ := x; exact Heap.lt_size e
  | own y => obtain ⟨_, e⟩ := x; exact Heap.lt_size e
  | xd fs => obtain ⟨_, ⟨_, _, _, e, _⟩, _⟩ := x; exact Heap.lt_size e
  | rng lo hi => obtain ⟨_, _, _, e⟩ := x; exact Heap.lt_size e
  | frz ob u => obtain ⟨e, _⟩ := x; exact Heap.lt_size e
  | tbl ps => exact Heap.lt_size (show h.get? a = some _ from x)
  | met f y => exact Heap.lt_size (show h.get? a = some _ from x)
  | ext φ => obtain ⟨_, ⟨_, e⟩, _⟩ := x; exact Heap.lt_size e
theorem Paired.mapP {α β : Type} {F G : α → β → Prop} : ∀ {l₁ : List α} {l₂ : List β}, Paired F l₁ l₂ → (∀ a b, F a b → G a b) → Paired G l₁ l₂
  | _, _, .nil, _ => .nil
  | _, _, .cons r t, f => .cons (f _ _ r) (Paired.mapP t f)
/-- what an object's description leans on: its own object, its own dict, the tuples -/
theorem ObjOk.stay (x : ObjOk P w H h a o) (k : ∀ b u, (b = a ∨ H b = some (.own a)) → h.get? b = some u → h'.get? b = some u)
    (ho : ∀ b, H b = some (.own a) → H' b = some (.own a)) (ht : ∀ b xs, H b = some (.tup xs) → H' b = some (.tup xs)) : ObjOk P w H' h' a o := by
  induction o with
  | lst xs => obtain ⟨z, its, n, r, e⟩ := x; exact ⟨z, its, n, r, k _ _ (.inl rfl) e⟩
  | tup xs => obtain ⟨z, its, r, ob, e, c⟩ := x; exact ⟨z, its, r, ob, k _ _ (.inl rfl) e, c⟩
  | dK kvs => obtain ⟨z, y, vs, r, ob, es, ep, e, c⟩ := x; exact ⟨z, y, vs, r, ob, es, ep, k _ _ (.inl rfl) e, c⟩
  | dT kvs =>
    obtain ⟨z, y, xs, r, ob, es, ep, e, c⟩ := x
    exact ⟨z, y, xs, Paired.mapP r fun p q z => ⟨z.1, ht _ _ z.2.1, z.2.2⟩, ob, es, ep, k _ _ (.inl rfl) e, c⟩
  | set S n => obtain ⟨ob, es, ep, t, e, c⟩ := x; exact ⟨ob, es, ep, t, k _ _ (.inl rfl) e, c⟩
  | ins C dx fs =>
    obtain ⟨d, z, ne, e, mA, ⟨od, es, ep, e2, c⟩, r⟩ := x
    exact ⟨ho _ d, z, ne, k _ _ (.inl rfl) e, mA, ⟨od, es, ep, k _ _ (.inr d) e2, c⟩, r⟩
  | own y => obtain ⟨ob, e⟩ := x; exact ⟨ob, k _ _ (.inl rfl) e⟩
  | xd fs => obtain ⟨mA, ⟨od, es, ep, e, c⟩, r⟩ := x; exact ⟨mA, ⟨od, es, ep, k _ _ (.inl rfl) e, c⟩, r⟩
  | rng lo hi => obtain ⟨t, u, v, e⟩ := x; exact ⟨t, u, v, k _ _ (.inl rfl) e⟩
  | frz ob u ih => obtain ⟨e, q⟩ := x; exact ⟨k _ _ (.inl rfl) e, ih q⟩
  | tbl ps =>
    have e : h.get? a = some { cls := .none, data := .fields ps } := x
    show h'.get? a = some { cls := .none, data := .fields ps }
    exact k a _ (.inl rfl) e
  | met f y =>
    have e : h.get? a = some (PySem.W.methodObj (.ref f) (.ref y)) := x
    show h'.get? a = some (PySem.W.methodObj (.ref f) (.ref y))
    exact k a _ (.inl rfl) e
  | ext φ => obtain ⟨p, ⟨o, e⟩, st⟩ := x; exact ⟨st _ _ p fun o q => k _ _ (.inl rfl) q, ⟨o, k _ _ (.inl rfl) e⟩, st⟩
theorem HOk.lt (x : HOk P w H h) (e : H a = some o) : a < h.objs.size := (x a o e).lt
theorem HOk.fresh (x : HOk P w H h) (e : h.objs.size ≤ a) : H a = none := by
  cases q : H a with
  | none => rfl
  | some u => exact absurd (Nat.lt_of_lt_of_le (x.lt q) e) (Nat.lt_irrefl _)
/-- every object of the heap is kept -/
theorem HOk.kept (x : HOk P w H h) (k : ∀ b u, h.get? b = some u → h'.get? b = some u) : HOk P w H h' := fun a o e =>
  (x a o e).stay (fun b u _ q => k b u q) (fun _ q => q) fun _ _ q => q
/-- a new object is laid and tracked -/
theorem HOk.laid (x : HOk P w H h) (k : ∀ b u, h.get? b = some u → h'.get? b = some u) (hp : h.objs.size ≤ a) (new : ObjOk P w (upd H a o) h' a o) : HOk P w (upd H a o) h' := fun b u e => by
  have hn := x.fresh hp
  by_cases hb : b = a
  · subst hb; rw [upd_same] at e; cases e; exact new
  · rw [upd_ne hb] at e
    exact (x b u e).stay (fun c v _ q => k c v q) (fun c q => by rw [upd_ne (ne_of_none q hn)]; exact q) fun c xs q => by rw [upd_ne (ne_of_none q hn)]; exact q
end

/-- what may be read as u: it is u, or a known u -/
def Rd (H : Hp) (a : Addr) (u : HO) : Prop := H a = some u ∨ ∃ o, H a = some (.frz o u)
theorem Rd.of {H : Hp} {a : Addr} {u : HO} (h : H a = some u) : Rd H a u := .inl h
theorem Rd.ok {P : Program} {w : World} {H : Hp} {h : Heap} {a : Addr} {u : HO} (r : Rd H a u) (x : HOk P w H h) : ObjOk P w H h a u := by
  rcases r with r | ⟨o, r⟩
  · exact x a u r
  · obtain ⟨_, q⟩ := x a _ r
    exact q
/-- what may be written -/
def Mut : Option HO → Prop
  | some (.lst _) => True
  | some (.dK _) => True
  | some (.dT _) => True
  | some (.set _ _) => True
  | some (.ins _ _ _) => True
  | some (.ext _) => True
  | _ => False
section
variable {P : Program} {w : World} {H : Hp} {h h' : Heap} {x e : Addr} {o' : HO}
/-- the object at e is changed: x itself, or the dict of the instance x -/
theorem HOk.write (ok : HOk P w H h) (mu : Mut (H x)) (he : e = x ∨ H e = some (.own x)) (k : ∀ b u, b ≠ e → h.get? b = some u → h'.get? b = some u) (heo : ∃ u, h'.get? e = some u)
    (new : ObjOk P w (upd H x o') h' x o') : HOk P w (upd H x o') h' := fun b u q => by
  have nown : ∀ c y, H c = some (.own y) → c ≠ x := fun c y r z => by subst z; rw [r] at mu; exact mu
  have ntup : ∀ c xs, H c = some (.tup xs) → c ≠ x := fun c xs r z => by subst z; rw [r] at mu; exact mu
  by_cases hb : b = x
  · subst hb; rw [upd_same] at q; cases q; exact new
  · rw [upd_ne hb] at q
    by_cases hbe : b = e
    · have q' : H b = some (.own x) := by
        rcases he with z | z
        · exact absurd (hbe.trans z) hb
        · rw [hbe]; exact z
      rw [q] at q'; cases q'
      obtain ⟨v, hv⟩ := heo
      exact ⟨v, by rw [hbe]; exact hv⟩
    · refine (ok b u q).stay (fun c v hc r => k c v ?_ r) (fun c r => by rw [upd_ne (nown c b r)]; exact r) fun c xs r => by rw [upd_ne (ntup c xs r)]; exact r
      rcases hc with rfl | hc
      · exact hbe
      · rintro rfl
        rcases he with z | z
        · exact nown c b hc z
        · rw [hc] at z; cases z; exact hb rfl
end

/-! ### kept unless tracked; of the frames at fs (the callers') the slots may change (an exception that passes writes there); of the records at ex (iterators) nothing is said -/
structure Un (fs ex : List Addr) (H H' : Hp) (h h' : Heap) : Prop where
  keep : ∀ b o, h.get? b = some o → H b = none → b ∉ fs → b ∉ ex → h'.get? b = some o
  slot : ∀ b o, h.get? b = some o → H b = none → b ∈ fs → b ∉ ex → ∃ sl, h'.get? b = some { o with slots := sl }
  free : ∀ b o, h.get? b = some o → H b = none → b ∉ ex → H' b = none
  there : ∀ b o, h.get? b = some o → b ∉ ex → ∃ o', h'.get? b = some o'
  tups : ∀ b xs, H b = some (.tup xs) → H' b = some (.tup xs)
  frzs : ∀ b o u, H b = some (.frz o u) → H' b = some (.frz o u)
  tbls : ∀ b ps, H b = some (.tbl ps) → ∃ more, H' b = some (.tbl (ps ++ more))
section
variable {fs fs' ex ex' : List Addr} {H H1 H2 : Hp} {h h1 h2 h' : Heap} {a x e : Addr} {o : HO}
theorem Un.any (u : Un fs ex H H1 h h1) {b : Addr} {ob : Obj} (q : h.get? b = some ob) (n : H b = none) (hx : b ∉ ex) : ∃ sl, h1.get? b = some { ob with slots := sl } := by
  by_cases hb : b ∈ fs
  · exact u.slot b ob q n hb hx
  · exact ⟨ob.slots, u.keep b ob q n hb hx⟩
theorem Un.trans (a : Un fs ex H H1 h h1) (b : Un fs ex H1 H2 h1 h2) : Un fs ex H H2 h h2 where
  keep := fun c ob q n hc hx => b.keep c ob (a.keep c ob q n hc hx) (a.free c ob q n hx) hc hx
  slot := fun c ob q n hc hx => by
    obtain ⟨sl, e1⟩ := a.slot c ob q n hc hx
    obtain ⟨sl', e2⟩ := b.slot c _ e1 (a.free c ob q n hx) hc hx
    exact ⟨sl', e2⟩
  free := fun c ob q n hx => by
    obtain ⟨o', e1⟩ := a.there c ob q hx
    exact b.free c o' e1 (a.free c ob q n hx) hx
  there := fun c ob q hx => by
    obtain ⟨o', e1⟩ := a.there c ob q hx
    exact b.there c o' e1 hx
  tups := fun c xs q => b.tups c xs (a.tups c xs q)
  frzs := fun c ob xs q => b.frzs c ob xs (a.frzs c ob xs q)
  tbls := fun c ps q => by
    obtain ⟨m1, e1⟩ := a.tbls c ps q
    obtain ⟨m2, e2⟩ := b.tbls c _ e1
    exact ⟨m1 ++ m2, by rw [e2, Array.append_assoc]⟩
theorem Un.kept (k : ∀ b u, h.get? b = some u → h'.get? b = some u) : Un fs ex H H h h' :=
  ⟨fun b ob q _ _ _ => k b ob q, fun b ob q _ _ _ => ⟨ob.slots, k b ob q⟩, fun _ _ _ n _ => n, fun b ob q _ => ⟨ob, k b ob q⟩, fun _ _ q => q, fun _ _ _ q => q, fun _ ps q => ⟨#[], by rw [q]; simp⟩⟩
theorem Un.refl : Un fs ex H H h h := Un.kept fun _ _ q => q
theorem Un.laid (k : ∀ b u, h.get? b = some u → h'.get? b = some u) (hp : h.objs.size ≤ a) (hn : H a = none) : Un fs ex H (upd H a o) h h' where
  keep := fun b u q _ _ _ => k b u q
  slot := fun b u q _ _ _ => ⟨u.slots, k b u q⟩
  free := fun b u q n _ => by rw [upd_ne (Nat.ne_of_lt (Nat.lt_of_lt_of_le (Heap.lt_size q) hp))]; exact n
  there := fun b u q _ => ⟨u, k b u q⟩
  tups := fun b xs q => by rw [upd_ne (ne_of_none q hn)]; exact q
  frzs := fun b u xs q => by rw [upd_ne (ne_of_none q hn)]; exact q
  tbls := fun b ps q => ⟨#[], by rw [upd_ne (ne_of_none q hn), q]; simp⟩
theorem Un.write (mu : Mut (H x)) (he : e = x ∨ H e = some (.own x)) (k : ∀ b u, b ≠ e → h.get? b = some u → h'.get? b = some u) (heo : ∃ u, h'.get? e = some u) : Un fs ex H (upd H x o) h h' := by
  have hx : ∀ b, H b = none → b ≠ x := fun b n z => by subst z; rw [n] at mu; exact mu
  have hb : ∀ b, H b = none → b ≠ e := fun b n z => by
    subst z
    rcases he with r | r
    · exact hx b n r
    · rw [n] at r; cases r
  have hm : ∀ b u, H b = some u → ¬ Mut (some u) → b ≠ x := fun b u q nm z => by subst z; rw [q] at mu; exact nm mu
  refine ⟨fun b u q n _ _ => k b u (hb b n) q, fun b u q n _ _ => ⟨u.slots, k b u (hb b n) q⟩, fun b u q n _ => by rw [upd_ne (hx b n)]; exact n, fun b u q _ => ?_,
    fun b xs q => by rw [upd_ne (hm b _ q fun z => z)]; exact q, fun b u xs q => by rw [upd_ne (hm b _ q fun z => z)]; exact q, fun b ps q => ⟨#[], by rw [upd_ne (hm b _ q fun z => z), q]; simp⟩⟩
  by_cases hbe : b = e
  · subst hbe; exact heo
  · exact ⟨u, k b u hbe q⟩
theorem Un.mono (u : Un fs ex H H1 h h1) (hs : ∀ b ∈ fs, b ∈ fs') (hx : ∀ b ∈ ex, b ∈ ex') : Un fs' ex' H H1 h h1 :=
  ⟨fun b ob q n hb he => u.keep b ob q n (fun z => hb (hs b z)) fun z => he (hx b z), fun _ _ q n _ he => u.any q n fun z => he (hx _ z), fun b ob q n he => u.free b ob q n fun z => he (hx b z), fun b ob q he => u.there b ob q fun z => he (hx b z), u.tups, u.frzs, u.tbls⟩
end

/-! ### the heap without what is tracked -/
def trk (h : Heap) (H : Hp) : List Addr := (List.range h.objs.size).filter fun a => (H a).isSome
def hidT (h : Heap) (H : Hp) : Heap := PySem.W.hideAll h (trk h H)
theorem hidT_size (h : Heap) (H : Hp) : (hidT h H).objs.size = h.objs.size := PySem.W.hideAll_size _ _
theorem hidT_get {h : Heap} {H : Hp} {b : Addr} {o : Obj} (e : h.get? b = some o) (n : H b = none) : (hidT h H).get? b = some o :=
  PySem.W.hideAll_get _ e fun hm => by
    have q : (H b).isSome = true := (List.mem_filter.mp hm).2
    rw [n] at q; simp at q
theorem of_hidT {h : Heap} {H : Hp} {b : Addr} {o : Obj} (e : (hidT h H).get? b = some o) : h.get? b = some o ∧ H b = none := by
  have e' : h.get? b = some o := PySem.W.of_hideAll (trk h H) e
  refine ⟨e', ?_⟩
  cases q : H b with
  | none => rfl
  | some x =>
    have hm : b ∈ trk h H := List.mem_filter.mpr ⟨List.mem_range.mpr (Heap.lt_size e'), by simp [q]⟩
    have z : (hidT h H).get? b = none := PySem.W.hideAll_none (trk h H) hm
    rw [z] at e; cases e

/-! ### OpenK's ledger, filled with every new object but one -/
def allNews (g h : Heap) (L : Addr) : List (Addr × Obj) := (List.range h.objs.size).filterMap fun a => if a = L ∨ (g.get? a).isSome = true then none else (h.get? a).map fun o => (a, o)
def rest (g h : Heap) (L d : Addr) : List (Addr × Obj) := (allNews g h L).filter fun p => decide (p.1 ≠ d)
end L2

namespace L2
open PySem PySem.Spec PyProof.Rows

/-- the module's facts, over the base: the heap at the law's entry without what is tracked there -/
structure Mod (K : PySem.W.Frag) (mg : Str → Option Value) (base : Heap) : Prop where
  kin : K.In base
  glob : base.Ns mainGlobals mg
  blt : ∃ mb, base.Ns builtinsNs mb ∧ ∀ x : Str, x ≠ "__name__" → mb x = bootBuiltins x
  nolimit : base.NoLimit

/-- the context: a def's body (or a comprehension's block) running. base: fixed through the whole law; s₀, H₀: the entry; outer: the frames whose slots others may change (a def's callers); stack: all frames that run;
   ex: iterators that were made ahead of the entry and are walked here (a comprehension's); fn: the names whose cells were made at the entry (a def: all; a comprehension's block: its own); calm: not within an except suite; pn: pins that every state bears; xe: what is wanted of an exception that leaves the code -/
structure Cx where
  prog : Program
  w : World
  K : PySem.W.Frag
  mg : Str → Option Value
  base : Heap
  A : Around
  N : List Str
  s₀ : Shared
  H₀ : Hp
  env : Env
  outer : List Env
  stack : List Env
  ex : List Addr
  fn : Str → Bool
  calm : Bool
  pn : List (Addr × Obj)
  xe : Value → Shared → Prop
/-- the callers' frames -/
def frs (l : List Env) : List Addr := l.filterMap (·.frame)
abbrev Cx.fs (X : Cx) : List Addr := frs X.outer

def Vis (sc : Scope) (x : Str) : Prop := sc.names.lookup x = some .local ∨ sc.names.lookup x = some .cell ∨ sc.names.lookup x = some .free
def Loc (sc : Scope) (x : Str) : Prop := sc.names.lookup x = some .local ∨ sc.names.lookup x = some .cell
def Look (env : Env) (h : Heap) (m : Str → Option Value) (x : Str) (u : Value) : Prop :=
  (env.kindOf x = some .local ∧ m x = some u) ∨ ((env.kindOf x = some .cell ∨ env.kindOf x = some .free) ∧ ∃ c, env.cells.lookup x = some c ∧ h.IsCell c (some u))

structure Cx.Ok (X : Cx) : Prop where
  mod : Mod X.K X.mg X.base
  kind : X.env.scope.kind = .function
  glob : X.env.globals = mainGlobals
  blt : X.env.builtins = builtinsNs
  above : X.s₀.heap.objs.size ≤ X.env.locals
  inj : ∀ x y c, X.env.cells.lookup x = some c → X.env.cells.lookup y = some c → x = y
  has : ∀ x, (X.env.kindOf x = some .cell ∨ X.env.kindOf x = some .free) → ∃ c, X.env.cells.lookup x = some c
  cab : ∀ x c, X.fn x = true → X.env.cells.lookup x = some c → X.s₀.heap.objs.size ≤ c
  hd : X.calm = true → X.A.handled = none
  frames : X.A.frames = some X.stack
  stk : X.stack = X.outer ∨ (X.stack = X.env :: X.outer ∧ X.env.frame = some X.env.locals)
  exf : ∀ b ∈ X.ex, b ≠ X.env.locals ∧ ∀ x c, X.env.cells.lookup x = some c → c ≠ b
  bs : ∀ b o, X.base.get? b = some o → X.s₀.heap.get? b = some o ∧ X.H₀ b = none
  bsz : X.base.objs.size ≤ X.s₀.heap.objs.size
  noex : ∀ b o, X.base.get? b = some o → b ∉ X.ex
  exfs : ∀ b ∈ X.ex, b ∉ X.fs
  funs : X.s₀.heap.FunFrames X.base X.outer
  frf : ∀ b ∈ X.fs, X.H₀ b = none

structure Inv (X : Cx) (pins : List (Addr × Obj)) (σ : List (Option V)) (H : Hp) (s : Shared) : Prop where
  ok : X.Ok
  os : s.os = X.s₀.os
  bare : AllBare s.gens
  base : Un X.fs X.ex X.H₀ H X.s₀.heap s.heap
  loc : ∃ m, s.heap.Ns X.env.locals m ∧ ∀ (i : Nat) (x : Str) (v : V), X.N[i]? = some x → σ[i]? = some (some v) → Vis X.env.scope x → ∃ u, RelV v u ∧ Look X.env s.heap m x u
  cell : ∀ x c, X.env.cells.lookup x = some c → ∃ v, s.heap.IsCell c v
  free : H X.env.locals = none
  freeC : ∀ x c, X.env.cells.lookup x = some c → H c = none
  pin : ∀ p ∈ X.pn ++ pins, s.heap.get? p.1 = some p.2 ∧ H p.1 = none ∧ p.1 ≠ X.env.locals ∧ p.1 ∉ X.fs ∧ ∀ v, p.2.data ≠ .cell v
  hok : HOk X.prog X.w H s.heap
  len : σ.length = X.N.length

section
variable {X : Cx} {pins : List (Addr × Obj)} {σ : List (Option V)} {H H' : Hp} {s : Shared} {h' : Heap}

theorem Cx.Ok.nofr (ok : X.Ok) {b : Addr} {o : Obj} (e : X.base.get? b = some o) : b ∉ X.fs := fun hb => by
  have := (ok.funs.mem hb).1
  rw [e] at this; cases this
theorem Inv.bs (I : Inv X pins σ H s) : ∀ b o, X.base.get? b = some o → s.heap.get? b = some o ∧ H b = none := fun b o e =>
  ⟨I.base.keep b o (I.ok.bs b o e).1 (I.ok.bs b o e).2 (I.ok.nofr e) (I.ok.noex b o e), I.base.free b o (I.ok.bs b o e).1 (I.ok.bs b o e).2 (I.ok.noex b o e)⟩
theorem Inv.bk (I : Inv X pins σ H s) : ∀ b o, X.base.get? b = some o → s.heap.get? b = some o := fun b o e => (I.bs b o e).1
theorem Inv.mod (I : Inv X pins σ H s) : Mod X.K X.mg X.base := I.ok.mod
theorem Inv.kIn (I : Inv X pins σ H s) : X.K.In s.heap := I.ok.mod.kin.keeps I.bk
theorem Inv.nolimit (I : Inv X pins σ H s) : s.heap.NoLimit := I.ok.mod.nolimit.keeps I.bk
/-- the frame over the base: for OpenK's rules (K.In X.base is I.mod.kin) -/
theorem Inv.fr (I : Inv X pins σ H s) : ∃ m, Fr X.base X.env.locals s.heap m :=
  let ⟨m, hn, _⟩ := I.loc
  ⟨m, hn, I.bk, Nat.le_trans I.ok.bsz I.ok.above⟩
theorem Inv.lt (I : Inv X pins σ H s) : X.env.locals < s.heap.objs.size := let ⟨_, hn, _⟩ := I.loc; hn.lt
theorem Inv.sz (I : Inv X pins σ H s) : X.s₀.heap.objs.size ≤ s.heap.objs.size := Nat.le_trans I.ok.above (Nat.le_of_lt I.lt)
theorem Inv.nofs (I : Inv X pins σ H s) {a : Addr} (h : s.heap.objs.size ≤ a) : a ∉ X.fs := fun hb => by
  obtain ⟨_, o, ho, _⟩ := I.ok.funs.mem hb
  exact absurd (Nat.lt_of_lt_of_le (Heap.lt_size ho) (Nat.le_trans I.sz h)) (Nat.lt_irrefl _)
theorem Inv.cne (I : Inv X pins σ H s) : ∀ x c, X.env.cells.lookup x = some c → c ≠ X.env.locals := fun x c e z => by
  obtain ⟨v, o, ho, hd⟩ := I.cell x c e
  obtain ⟨m, ⟨o', es, ep, ho', hd', _⟩, _⟩ := I.loc
  rw [z, ho'] at ho; cases ho; rw [hd'] at hd; cases hd
theorem Inv.funs (I : Inv X pins σ H s) : s.heap.FunFrames X.base X.outer := by
  have all : ∀ (l : List Env), (∀ b ∈ frs l, b ∈ X.fs) → X.s₀.heap.FunFrames X.base l → s.heap.FunFrames X.base l := by
    intro l
    induction l with
    | nil => intro _ _; trivial
    | cons env r ih =>
      intro hs hl
      obtain ⟨hk, ⟨L, o, hf, hn, ho, hd⟩, hr⟩ := hl
      have hL : L ∈ X.fs := hs L (by unfold frs; rw [List.filterMap_cons, hf]; exact List.mem_cons_self)
      obtain ⟨sl, e⟩ := I.base.slot L o ho (I.ok.frf L hL) hL fun z => I.ok.exfs L z hL
      exact ⟨hk, ⟨L, _, hf, hn, e, hd⟩, ih (fun b hb => hs b (by unfold frs; rw [List.filterMap_cons, hf]; exact List.mem_cons_of_mem _ hb)) hr⟩
  exact all X.outer (fun _ hb => hb) I.ok.funs

/-- the frames that run, for a call -/
theorem Inv.stack (I : Inv X pins σ H s) : s.heap.FunFrames X.base X.stack := by
  rcases I.ok.stk with e | ⟨e, hf⟩
  · rw [e]; exact I.funs
  · rw [e]
    obtain ⟨m, hn, _⟩ := I.loc
    refine .cons (by rw [I.ok.kind]; decide) hf hn ?_ I.funs
    exact Heap.get?_none_of_le (Nat.le_trans I.ok.bsz I.ok.above)
theorem Inv.stkSub (I : Inv X pins σ H s) : ∀ b ∈ frs X.stack, b ∈ X.env.locals :: X.fs := fun b hb => by
  rcases I.ok.stk with e | ⟨e, hf⟩
  · rw [e] at hb; exact List.mem_cons_of_mem _ hb
  · rw [e] at hb
    unfold frs at hb
    rw [List.filterMap_cons, hf] at hb
    exact hb
theorem Inv.stkFree (I : Inv X pins σ H s) : ∀ b ∈ frs X.stack, H b = none := fun b hb => by
  rcases List.mem_cons.mp (I.stkSub b hb) with e | hb
  · rw [e]; exact I.free
  · obtain ⟨_, o, ho, _⟩ := I.ok.funs.mem hb
    exact I.base.free b o ho (I.ok.frf b hb) fun z => I.ok.exfs b z hb

/-- THE STEP: the untracked objects but the frame and the records at ch are kept (the callers' frames up to slots), the frame's map is kept, the new abstract heap is held -/
theorem Inv.step {g' : Array GenState} {t' : Nat} {d' : Drawn} {ch : List Addr} (I : Inv X pins σ H s)
    (hch : ∀ b ∈ ch, (b ∈ X.ex ∨ X.s₀.heap.objs.size ≤ b) ∧ b ≠ X.env.locals ∧ (∀ x c, X.env.cells.lookup x = some c → c ≠ b) ∧ ∀ p ∈ X.pn ++ pins, p.1 ≠ b)
    (keep : ∀ b o, b ≠ X.env.locals → b ∉ X.fs → b ∉ ch → s.heap.get? b = some o → H b = none → h'.get? b = some o)
    (slot : ∀ b o, b ≠ X.env.locals → b ∈ X.fs → b ∉ ch → s.heap.get? b = some o → H b = none → ∃ sl, h'.get? b = some { o with slots := sl }) (free : ∀ b o, b ∉ ch → s.heap.get? b = some o → H b = none → H' b = none)
    (there : ∀ b o, b ∉ ch → s.heap.get? b = some o → ∃ o', h'.get? b = some o')
    (tups : ∀ b xs, H b = some (.tup xs) → H' b = some (.tup xs)) (frzs : ∀ b o u, H b = some (.frz o u) → H' b = some (.frz o u)) (tbls : ∀ b ps, H b = some (.tbl ps) → ∃ more, H' b = some (.tbl (ps ++ more)))
    (ns : ∀ m, s.heap.Ns X.env.locals m → h'.Ns X.env.locals m) (hok : HOk X.prog X.w H' h') (hg : AllBare g') :
    Inv X pins σ H' { s with heap := h', gens := g', drawn := d', toks := t' } := by
  have neL : ∀ b o, X.s₀.heap.get? b = some o → b ≠ X.env.locals := fun b o e => Nat.ne_of_lt (Nat.lt_of_lt_of_le (Heap.lt_size e) I.ok.above)
  have neC : ∀ b o, X.s₀.heap.get? b = some o → b ∉ X.ex → b ∉ ch := fun b o e hx hb => by
    rcases (hch b hb).1 with z | z
    · exact hx z
    · exact absurd (Nat.lt_of_lt_of_le (Heap.lt_size e) z) (Nat.lt_irrefl _)
  have cellK : ∀ x c, X.env.cells.lookup x = some c → ∀ v, s.heap.IsCell c v → h'.IsCell c v := fun x c e v ⟨o, ho, hd⟩ => by
    have nch : c ∉ ch := fun z => (hch c z).2.2.1 x c e rfl
    by_cases hc : c ∈ X.fs
    · obtain ⟨sl, q⟩ := slot c o (I.cne x c e) hc nch ho (I.freeC x c e)
      exact ⟨_, q, hd⟩
    · exact ⟨o, keep c o (I.cne x c e) hc nch ho (I.freeC x c e), hd⟩
  refine ⟨I.ok, I.os, hg, ⟨fun b o e n hb hx => ?_, fun b o e n hb hx => ?_, fun b o e n hx => ?_, fun b o e hx => ?_, fun b xs e => tups b xs (I.base.tups b xs e), fun b o xs e => frzs b o xs (I.base.frzs b o xs e), fun b ps e => ?_⟩, ?_, fun x c e => ?_, ?_, fun x c e => ?_, fun p hp => ?_, hok, I.len⟩
  · exact keep b o (neL b o e) hb (neC b o e hx) (I.base.keep b o e n hb hx) (I.base.free b o e n hx)
  · obtain ⟨sl, e1⟩ := I.base.slot b o e n hb hx
    obtain ⟨sl', e2⟩ := slot b _ (neL b o e) hb (neC b o e hx) e1 (I.base.free b o e n hx)
    exact ⟨sl', e2⟩
  · obtain ⟨o', e1⟩ := I.base.there b o e hx
    exact free b o' (neC b o e hx) e1 (I.base.free b o e n hx)
  · obtain ⟨o', e1⟩ := I.base.there b o e hx
    exact there b o' (neC b o e hx) e1
  · obtain ⟨m1, e1⟩ := I.base.tbls b ps e
    obtain ⟨m2, e2⟩ := tbls b _ e1
    exact ⟨m1 ++ m2, by rw [e2, Array.append_assoc]⟩
  · obtain ⟨m, hn, hl⟩ := I.loc
    refine ⟨m, ns m hn, fun i x v e1 e2 e3 => ?_⟩
    obtain ⟨u, r, l⟩ := hl i x v e1 e2 e3
    refine ⟨u, r, ?_⟩
    rcases l with l | ⟨k, c, e, z⟩
    · exact .inl l
    · exact .inr ⟨k, c, e, cellK x c e _ z⟩
  · obtain ⟨v, z⟩ := I.cell x c e
    exact ⟨v, cellK x c e v z⟩
  · obtain ⟨m, ⟨o, _, _, ho, _⟩, _⟩ := I.loc
    exact free _ o (fun z => (hch _ z).2.1 rfl) ho I.free
  · obtain ⟨v, o, ho, hd⟩ := I.cell x c e
    exact free c o (fun z => (hch c z).2.2.1 x c e rfl) ho (I.freeC x c e)
  · obtain ⟨e, n, ne, nf, d⟩ := I.pin p hp
    have nch : p.1 ∉ ch := fun z => (hch p.1 z).2.2.2 p hp rfl
    exact ⟨keep p.1 p.2 ne nf nch e n, free p.1 p.2 nch e n, ne, nf, d⟩
/-- .. where the frame's own object is kept too -/
theorem Inv.un {t' : Nat} (I : Inv X pins σ H s) (u : Un X.fs [] H H' s.heap h') (hok : HOk X.prog X.w H' h') : Inv X pins σ H' { s with heap := h', toks := t' } := by
  obtain ⟨m, ⟨o, es, ep, ho, r⟩, _⟩ := id I.loc
  obtain ⟨sl, hL⟩ := u.any ho I.free (by simp)
  exact I.step (g' := s.gens) (d' := s.drawn) (ch := []) (fun _ z => nomatch z) (fun b o _ hb _ e n => u.keep b o e n hb (by simp)) (fun b o _ hb _ e n => u.slot b o e n hb (by simp)) (fun b o _ e n => u.free b o e n (by simp)) (fun b o _ e => u.there b o e (by simp)) u.tups u.frzs u.tbls (fun m' hm => by
    obtain ⟨o', es', ep', ho', r'⟩ := hm
    rw [ho] at ho'; cases ho'
    exact ⟨_, es', ep', hL, r'⟩) hok I.bare
/-- behind a call (or a comprehension's block): the slots of this frame may have changed too, the records at ch may have turned -/
theorem Inv.call {g' : Array GenState} {t' : Nat} {d' : Drawn} {ch : List Addr} (I : Inv X pins σ H s) (u : Un (frs X.stack) ch H H' s.heap h') (hok : HOk X.prog X.w H' h') (hg : AllBare g')
    (hch : ∀ b ∈ ch, (b ∈ X.ex ∨ X.s₀.heap.objs.size ≤ b) ∧ b ≠ X.env.locals ∧ (∀ x c, X.env.cells.lookup x = some c → c ≠ b) ∧ ∀ p ∈ X.pn ++ pins, p.1 ≠ b) :
    Inv X pins σ H' { s with heap := h', gens := g', drawn := d', toks := t' } := by
  obtain ⟨m, ⟨o, es, ep, ho, r⟩, _⟩ := id I.loc
  obtain ⟨sl, hL⟩ := u.any ho I.free fun z => (hch _ z).2.1 rfl
  exact I.step (ch := ch) hch (fun b o hL hb hc e n => u.keep b o e n (fun z => (List.mem_cons.mp (I.stkSub b z)).elim hL hb) hc) (fun b o _ _ hc e n => u.any e n hc) (fun b o hc e n => u.free b o e n hc) (fun b o hc e => u.there b o e hc) u.tups u.frzs u.tbls (fun m' hm => by
    obtain ⟨o', es', ep', ho', r'⟩ := hm
    rw [ho] at ho'; cases ho'
    exact ⟨_, es', ep', hL, r'⟩) hok hg
/-- an untracked record of ours (an iterator) has turned -/
theorem Inv.turned {t' : Nat} {it : Addr} (I : Inv X pins σ H s) (k : ∀ b o, b ≠ it → s.heap.get? b = some o → h'.get? b = some o) (hn : H it = none) (hL : it ≠ X.env.locals)
    (h1 : it ∈ X.ex ∨ X.s₀.heap.objs.size ≤ it) (h2 : ∀ x c, X.env.cells.lookup x = some c → c ≠ it) (h3 : ∀ p ∈ X.pn ++ pins, p.1 ≠ it) : Inv X pins σ H { s with heap := h', toks := t' } := by
  have nit : ∀ b u, H b = some u → b ≠ it := fun b u e z => by rw [z, hn] at e; cases e
  refine I.step (g' := s.gens) (d' := s.drawn) (ch := [it]) (fun b hb => ?_) (fun b o _ _ hc e _ => k b o (fun z => hc (by simp [z])) e) (fun b o _ _ hc e _ => ⟨o.slots, k b o (fun z => hc (by simp [z])) e⟩) (fun _ _ _ _ n => n)
    (fun b o hc e => ⟨o, k b o (fun z => hc (by simp [z])) e⟩) (fun _ _ e => e) (fun _ _ _ e => e) (fun b ps e => ⟨#[], by rw [e]; simp⟩) (fun m hm => ?_) (fun b u e => ?_) I.bare
  · have e : b = it := by simpa using hb
    subst e
    exact ⟨h1, hL, h2, h3⟩
  · obtain ⟨o, es, ep, ho, r⟩ := hm
    exact ⟨o, es, ep, k _ o (Ne.symm hL) ho, r⟩
  · refine (I.hok b u e).stay (fun c v hc q => k c v ?_ q) (fun _ q => q) fun _ _ q => q
    rcases hc with z | z
    · rw [z]; exact nit b u e
    · exact nit c _ z
theorem Inv.tok (I : Inv X pins σ H s) (t : Nat) : Inv X pins σ H { s with toks := t } := I.un (h' := s.heap) (t' := t) Un.refl I.hok
/-- all objects kept -/
theorem Inv.kept {t' : Nat} (I : Inv X pins σ H s) (k : ∀ b u, s.heap.get? b = some u → h'.get? b = some u) : Inv X pins σ H { s with heap := h', toks := t' } := I.un (Un.kept k) (I.hok.kept k)
/-- a new object laid and tracked -/
theorem Inv.laid {a : Addr} {o : HO} {t' : Nat} (I : Inv X pins σ H s) (k : ∀ b u, s.heap.get? b = some u → h'.get? b = some u) (hp : s.heap.objs.size ≤ a) (new : ObjOk X.prog X.w (upd H a o) h' a o) :
    Inv X pins σ (upd H a o) { s with heap := h', toks := t' } := I.un (Un.laid k hp (I.hok.fresh hp)) (I.hok.laid k hp new)
/-- an object written -/
theorem Inv.write {x e : Addr} {o : HO} {t' : Nat} (I : Inv X pins σ H s) (mu : Mut (H x)) (he : e = x ∨ H e = some (.own x)) (k : ∀ b u, b ≠ e → s.heap.get? b = some u → h'.get? b = some u) (heo : ∃ u, h'.get? e = some u)
    (new : ObjOk X.prog X.w (upd H x o) h' x o) : Inv X pins σ (upd H x o) { s with heap := h', toks := t' } := I.un (Un.write mu he k heo) (I.hok.write mu he k heo new)
theorem Inv.pins_of {pins' : List (Addr × Obj)} (I : Inv X pins σ H s) (h : ∀ p ∈ pins', s.heap.get? p.1 = some p.2 ∧ H p.1 = none ∧ p.1 ≠ X.env.locals ∧ p.1 ∉ X.fs ∧ ∀ v, p.2.data ≠ .cell v) : Inv X pins' σ H s :=
  ⟨I.ok, I.os, I.bare, I.base, I.loc, I.cell, I.free, I.freeC, fun p hp => (List.mem_append.mp hp).elim (fun z => I.pin p (List.mem_append_left _ z)) (h p), I.hok, I.len⟩

theorem nodup_ix {N : List Str} (hN : N.Nodup) {i j : Nat} {x : Str} (a : N[i]? = some x) (b : N[j]? = some x) : i = j := by
  obtain ⟨h1, e1⟩ := List.getElem?_eq_some_iff.mp a
  obtain ⟨h2, e2⟩ := List.getElem?_eq_some_iff.mp b
  exact (List.getElem_inj hN).mp (e1.trans e2.symm)

/-- a name is stored; what changed -/
theorem store_ok2 {M : Model} {A : Around} {E : Value → Shared → Prop} {i : Nat} {x : Str} {v : V} {u : Value} {Q : Unit → Shared → Prop} (I : Inv X pins σ H s) (hN : X.N.Nodup) (hi : X.N[i]? = some x) (hx : Loc X.env.scope x) (r : RelV v u)
    (h : ∀ s', Inv X pins (σ.set i (some v)) H s' → (∃ a, Heap.SameBut a s.heap s'.heap ∧ (a = X.env.locals ∨ X.env.cells.lookup x = some a)) → Q () s') (hf : X.fn x = true ∨ X.env.scope.names.lookup x = some .local := by first | exact .inl rfl | exact .inr rfl | assumption) : wpAny M A (storeName X.env x u) Q E s := by
  obtain ⟨m, hn, hl⟩ := id I.loc
  have hcls : (X.env.scope.kind == .class || (X.env.scope.kind == .module && X.env.locals != X.env.globals)) = false := by rw [I.ok.kind]; rfl
  have hiσ : i < σ.length := by rw [I.len]; exact (List.getElem?_eq_some_iff.mp hi).1
  have cne := I.cne
  have tracked : ∀ {a : Addr} {h' : Heap}, (∃ o, s.heap.get? a = some o ∧ H a = none) → Heap.SameBut a s.heap h' → HOk X.prog X.w H h' := fun {a h'} ha hs b ob e => by
    obtain ⟨_, _, hfree⟩ := ha
    refine (I.hok b ob e).stay (fun c w' hc q => (hs.2 c ?_).trans q) (fun _ q => q) fun _ _ q => q
    rintro rfl
    rcases hc with rfl | hc
    · rw [hfree] at e; cases e
    · rw [hfree] at hc; cases hc
  rcases hx with hk | hk
  · refine wpAny_storeName_local hk hn (fun h' hn' hs => ?_) hcls
    obtain ⟨oL, _, _, hoL, _⟩ := id hn
    refine h _ ⟨I.ok, I.os, I.bare, ⟨fun b o e n hb hx => ?_, fun b o e n hb hx => ?_, I.base.free, fun b o e hx => ?_, I.base.tups, I.base.frzs, I.base.tbls⟩, ⟨_, hn', fun j y v' e1 e2 e3 => ?_⟩, fun y c e => ?_, I.free, I.freeC, fun p hp => ?_, tracked ⟨oL, hoL, I.free⟩ hs, by simpa using I.len⟩ ⟨_, hs, .inl rfl⟩
    · exact (hs.2 b (Nat.ne_of_lt (Nat.lt_of_lt_of_le (Heap.lt_size e) I.ok.above))).trans (I.base.keep b o e n hb hx)
    · obtain ⟨sl, e1⟩ := I.base.slot b o e n hb hx
      exact ⟨sl, (hs.2 b (Nat.ne_of_lt (Nat.lt_of_lt_of_le (Heap.lt_size e) I.ok.above))).trans e1⟩
    · obtain ⟨o', e1⟩ := I.base.there b o e hx
      exact ⟨o', (hs.2 b (Nat.ne_of_lt (Nat.lt_of_lt_of_le (Heap.lt_size e) I.ok.above))).trans e1⟩
    · by_cases hj : j = i
      · subst hj
        rw [hi] at e1; cases e1
        rw [List.getElem?_set_self hiσ] at e2
        cases e2
        exact ⟨u, r, .inl ⟨hk, by simp⟩⟩
      · rw [List.getElem?_set_ne (Ne.symm hj)] at e2
        obtain ⟨u', r', q⟩ := hl j y v' e1 e2 e3
        refine ⟨u', r', ?_⟩
        rcases q with ⟨k, e⟩ | ⟨k, c, e, z⟩
        · refine .inl ⟨k, ?_⟩
          have : y ≠ x := fun e => hj (nodup_ix hN e1 (e ▸ hi))
          simp [this, e]
        · exact .inr ⟨k, c, e, z.sameBut hs (cne y c e)⟩
    · obtain ⟨w', z⟩ := I.cell y c e
      exact ⟨w', z.sameBut hs (cne y c e)⟩
    · obtain ⟨e, n, ne, nf, d⟩ := I.pin p hp
      exact ⟨(hs.2 p.1 ne).trans e, n, ne, nf, d⟩
  · have hfn : X.fn x = true := by
      rcases hf with z | z
      · exact z
      · rw [z] at hk; cases hk
    obtain ⟨c, hc⟩ := I.ok.has x (.inl hk)
    obtain ⟨w', z⟩ := I.cell x c hc
    refine wpAny_storeName_cell I.ok.kind hk hc z (fun h' hc' hs => ?_)
    obtain ⟨oc, hoc, hocd⟩ := id z
    refine h { s with heap := h' } ⟨I.ok, I.os, I.bare, ⟨fun b o e n hb hx => ?_, fun b o e n hb hx => ?_, I.base.free, fun b o e hx => ?_, I.base.tups, I.base.frzs, I.base.tbls⟩, ⟨m, hn.sameBut hs (Ne.symm (cne x c hc)), fun j y v' e1 e2 e3 => ?_⟩, fun y c' e => ?_, I.free, I.freeC, fun p hp => ?_, tracked ⟨oc, hoc, I.freeC x c hc⟩ hs, by simpa using I.len⟩ ⟨c, hs, .inr hc⟩
    · exact (hs.2 b (Nat.ne_of_lt (Nat.lt_of_lt_of_le (Heap.lt_size e) (I.ok.cab x c hfn hc)))).trans (I.base.keep b o e n hb hx)
    · obtain ⟨sl, e1⟩ := I.base.slot b o e n hb hx
      exact ⟨sl, (hs.2 b (Nat.ne_of_lt (Nat.lt_of_lt_of_le (Heap.lt_size e) (I.ok.cab x c hfn hc)))).trans e1⟩
    · obtain ⟨o', e1⟩ := I.base.there b o e hx
      exact ⟨o', (hs.2 b (Nat.ne_of_lt (Nat.lt_of_lt_of_le (Heap.lt_size e) (I.ok.cab x c hfn hc)))).trans e1⟩
    · by_cases hj : j = i
      · subst hj
        rw [hi] at e1; cases e1
        rw [List.getElem?_set_self hiσ] at e2
        cases e2
        exact ⟨u, r, .inr ⟨.inl hk, c, hc, hc'⟩⟩
      · rw [List.getElem?_set_ne (Ne.symm hj)] at e2
        obtain ⟨u', r', q⟩ := hl j y v' e1 e2 e3
        refine ⟨u', r', ?_⟩
        rcases q with q | ⟨k, c', e, z'⟩
        · exact .inl q
        · refine .inr ⟨k, c', e, z'.sameBut hs ?_⟩
          rintro rfl
          exact hj (nodup_ix hN e1 (I.ok.inj _ _ _ e hc ▸ hi))
    · by_cases hcc : c' = c
      · subst hcc; exact ⟨_, hc'⟩
      · obtain ⟨w2, z2⟩ := I.cell y c' e
        exact ⟨w2, z2.sameBut hs hcc⟩
    · obtain ⟨e, n, ne, nf, d⟩ := I.pin p hp
      refine ⟨(hs.2 p.1 ?_).trans e, n, ne, nf, d⟩
      intro q
      rw [q, hoc] at e
      have q' : oc = p.2 := Option.some.inj e
      exact d w' (by rw [← q']; exact hocd)
theorem store_ok {M : Model} {A : Around} {E : Value → Shared → Prop} {i : Nat} {x : Str} {v : V} {u : Value} {Q : Unit → Shared → Prop} (I : Inv X pins σ H s) (hN : X.N.Nodup) (hi : X.N[i]? = some x) (hx : Loc X.env.scope x) (r : RelV v u)
    (h : ∀ s', Inv X pins (σ.set i (some v)) H s' → Q () s') (hf : X.fn x = true ∨ X.env.scope.names.lookup x = some .local := by first | exact .inl rfl | exact .inr rfl | assumption) : wpAny M A (storeName X.env x u) Q E s :=
  store_ok2 I hN hi hx r (fun s' I' _ => h s' I') hf
/-- behind a call or a block, the state as it is -/
theorem Inv.call' {s' : Shared} {ch : List Addr} (I : Inv X pins σ H s) (ho : s'.os = s.os) (u : Un (frs X.stack) ch H H' s.heap s'.heap) (hok : HOk X.prog X.w H' s'.heap) (hg : AllBare s'.gens)
    (hch : ∀ b ∈ ch, (b ∈ X.ex ∨ X.s₀.heap.objs.size ≤ b) ∧ b ≠ X.env.locals ∧ (∀ x c, X.env.cells.lookup x = some c → c ≠ b) ∧ ∀ p ∈ X.pn ++ pins, p.1 ≠ b) : Inv X pins σ H' s' := by
  obtain ⟨h', g', d', t', o'⟩ := s'
  have e : o' = s.os := ho
  subst e
  exact I.call (g' := g') (t' := t') (d' := d') u hok hg hch
end

/-! ### the judgements -/
/-- an exception: its class, its own dict's address (where it has one), the abstract heap behind it -/
abbrev XK := Value → Option Addr → Hp → Prop
abbrev St := List (Option V)
abbrev VK := V → Hp → Prop
/-- an expression's reading; a test's; an argument list's -/
abbrev TE := St → Hp → VK → Prop
abbrev TT := St → Hp → (Bool → Hp → Prop) → Prop
abbrev TA := St → Hp → (List V → Hp → Prop) → Prop
/-- what is wanted behind a statement -/
structure Ends where
  nx : St → Hp → Prop
  rt : VK
  bk : St → Hp → Prop := fun _ _ => False
  ct : St → Hp → Prop := fun _ _ => False
abbrev TS := Ends → St → Hp → Prop

def EP (X : Cx) (pins : List (Addr × Obj)) (σ : St) (Q : VK) (u : Value) (s' : Shared) : Prop := ∃ v H', Inv X pins σ H' s' ∧ RelV v u ∧ Q v H'
def TP (X : Cx) (pins : List (Addr × Obj)) (σ : St) (Q : Bool → Hp → Prop) (b : Bool) (s' : Shared) : Prop := ∃ H', Inv X pins σ H' s' ∧ Q b H'
def AP (X : Cx) (pins : List (Addr × Obj)) (σ : St) (Q : List V → Hp → Prop) (us : List Value) (s' : Shared) : Prop := ∃ vs H', Inv X pins σ H' s' ∧ Vals vs us ∧ Q vs H'
def SP (X : Cx) (pins : List (Addr × Obj)) (D : Ends) (f : Flow) (s' : Shared) : Prop :=
  match f with
  | .next => ∃ σ' H', Inv X pins σ' H' s' ∧ D.nx σ' H'
  | .brk => ∃ σ' H', Inv X pins σ' H' s' ∧ D.bk σ' H'
  | .cont => ∃ σ' H', Inv X pins σ' H' s' ∧ D.ct σ' H'
  | .ret u => ∃ v σ' H', Inv X pins σ' H' s' ∧ RelV v u ∧ D.rt v H'

structure PE (X : Cx) (e : Expr) (t : TE) : Prop where
  run : ∀ (pins : List (Addr × Obj)) (s : Shared) (σ : St) (H : Hp) (Q : VK), Inv X pins σ H s → t σ H Q → wpAny (model X.prog X.w) X.A (eval e X.env) (EP X pins σ Q) X.xe s
instance {X : Cx} {e : Expr} {t : TE} : CoeFun (PE X e t) fun _ => ∀ (pins : List (Addr × Obj)) (s : Shared) (σ : St) (H : Hp) (Q : VK), Inv X pins σ H s → t σ H Q → wpAny (model X.prog X.w) X.A (eval e X.env) (EP X pins σ Q) X.xe s := ⟨PE.run⟩
structure PT (X : Cx) (e : Expr) (t : TT) : Prop where
  run : ∀ (pins : List (Addr × Obj)) (s : Shared) (σ : St) (H : Hp) (Q : Bool → Hp → Prop), Inv X pins σ H s → t σ H Q → wpAny (model X.prog X.w) X.A (isTrue e X.env (eval e X.env)) (TP X pins σ Q) X.xe s
instance {X : Cx} {e : Expr} {t : TT} : CoeFun (PT X e t) fun _ => ∀ (pins : List (Addr × Obj)) (s : Shared) (σ : St) (H : Hp) (Q : Bool → Hp → Prop), Inv X pins σ H s → t σ H Q → wpAny (model X.prog X.w) X.A (isTrue e X.env (eval e X.env)) (TP X pins σ Q) X.xe s := ⟨PT.run⟩
/-- a test whatever its 'whole' is (and, or) -/
structure PW (X : Cx) (e : Expr) (t : TT) : Prop where
  run : ∀ (whole : Sem Value) (pins : List (Addr × Obj)) (s : Shared) (σ : St) (H : Hp) (Q : Bool → Hp → Prop), Inv X pins σ H s → t σ H Q → wpAny (model X.prog X.w) X.A (isTrue e X.env whole) (TP X pins σ Q) X.xe s
instance {X : Cx} {e : Expr} {t : TT} : CoeFun (PW X e t) fun _ => ∀ (whole : Sem Value) (pins : List (Addr × Obj)) (s : Shared) (σ : St) (H : Hp) (Q : Bool → Hp → Prop), Inv X pins σ H s → t σ H Q → wpAny (model X.prog X.w) X.A (isTrue e X.env whole) (TP X pins σ Q) X.xe s := ⟨PW.run⟩
theorem PW.pt {X : Cx} {e : Expr} {t : TT} (h : PW X e t) : PT X e t := ⟨h.run _⟩
/-- an argument list (no star), from the left -/
structure PA (X : Cx) (es : List Expr) (t : TA) : Prop where
  run : ∀ (pos : Pos) (pins : List (Addr × Obj)) (s : Shared) (σ : St) (H : Hp) (Q : List V → Hp → Prop), Inv X pins σ H s → t σ H Q → wpAny (model X.prog X.w) X.A (spliced (backTo pos (starEach es X.env))) (AP X pins σ Q) X.xe s
instance {X : Cx} {es : List Expr} {t : TA} : CoeFun (PA X es t) fun _ => ∀ (pos : Pos) (pins : List (Addr × Obj)) (s : Shared) (σ : St) (H : Hp) (Q : List V → Hp → Prop), Inv X pins σ H s → t σ H Q → wpAny (model X.prog X.w) X.A (spliced (backTo pos (starEach es X.env))) (AP X pins σ Q) X.xe s := ⟨PA.run⟩
structure PS (X : Cx) (st : Stmt) (t : TS) : Prop where
  run : ∀ (pins : List (Addr × Obj)) (s : Shared) (σ : St) (H : Hp) (D : Ends), Inv X pins σ H s → t D σ H → wpAny (model X.prog X.w) X.A (exec st X.env) (SP X pins D) X.xe s
instance {X : Cx} {st : Stmt} {t : TS} : CoeFun (PS X st t) fun _ => ∀ (pins : List (Addr × Obj)) (s : Shared) (σ : St) (H : Hp) (D : Ends), Inv X pins σ H s → t D σ H → wpAny (model X.prog X.w) X.A (exec st X.env) (SP X pins D) X.xe s := ⟨PS.run⟩
structure PSs (X : Cx) (st : List Stmt) (t : TS) : Prop where
  run : ∀ (pins : List (Addr × Obj)) (s : Shared) (σ : St) (H : Hp) (D : Ends), Inv X pins σ H s → t D σ H → wpAny (model X.prog X.w) X.A (execs st X.env) (SP X pins D) X.xe s
instance {X : Cx} {st : List Stmt} {t : TS} : CoeFun (PSs X st t) fun _ => ∀ (pins : List (Addr × Obj)) (s : Shared) (σ : St) (H : Hp) (D : Ends), Inv X pins σ H s → t D σ H → wpAny (model X.prog X.w) X.A (execs st X.env) (SP X pins D) X.xe s := ⟨PSs.run⟩
/-- weaken the end -/
theorem thn {α : Type} {t : Sem α} {Q Q' : α → Shared → Prop} {M : Model} {A : Around} {E : Value → Shared → Prop} {s : Shared} (h : wpAny M A t Q E s) (hQ : ∀ a s, Q a s → Q' a s) : wpAny M A t Q' E s := wpAny_mono h hQ fun _ _ x => x
end L2

namespace L2
open PySem PySem.Spec PyProof.Rows
section
variable {X : Cx}

/-! ### names and constants -/
def tVar (i : Nat) : TE := fun σ H Q => ∃ v, σ[i]? = some (some v) ∧ Q v H
def tC (v : V) : TE := fun _ H Q => Q v H
theorem pe_var {i : Nat} {x : Str} {pos : Pos} (hN : X.N[i]? = some x) (hv : Vis X.env.scope x) (hd : (x == ("__debug__" : Str)) = false := by decide) (hcd : (x == ("__classdict__" : Str)) = false := by decide) : PE X (.Name x pos) (tVar i) := by
  constructor; intro pins s σ H Q I h
  obtain ⟨v, e, h⟩ := h
  obtain ⟨m, hn, hl⟩ := I.loc
  obtain ⟨u, r, l⟩ := hl i x v hN e hv
  have fin : EP X pins σ Q u s := ⟨v, H, I, r, h⟩
  rcases l with ⟨hk, hm⟩ | ⟨hk, c, hc, hcell⟩
  · exact wpAny_Name (wpAny_loadName_local I.ok.kind hk hn hm fin) hd
  · rcases hk with hk | hk
    · exact wpAny_Name (wpAny_loadName_cell I.ok.kind hk hc hcell fin) hd
    · exact wpAny_Name (wpAny_loadName_free I.ok.kind hk hc hcell fin hcd) hd
theorem pe_int {i j pos} : PE X (.Constant (.int i) j pos) (tC (.int i)) := ⟨fun _ _ _ H _ I h => wpAny_Constant_int ⟨.int i, H, I.tok _, ⟨_, rfl⟩, h⟩⟩
theorem pe_bl {b j pos} : PE X (.Constant (.bool b) j pos) (tC (.bl b)) := ⟨fun _ _ _ H _ I h => Constant_bool ⟨.bl b, H, I, rfl, h⟩⟩
theorem pe_non {j pos} : PE X (.Constant .none j pos) (tC .non) := ⟨fun _ _ _ H _ I h => Constant_none ⟨.non, H, I, rfl, h⟩⟩
/-- a global name of the def -/
def Gl (X : Cx) (x : Str) : Prop := X.env.kindOf x = some .globalImplicit
theorem ld_glob {E : Value → Shared → Prop} {pins : List (Addr × Obj)} {s : Shared} {σ : St} {H : Hp} {x : Str} {u : Value} {pos : Pos} {Q : Value → Shared → Prop} (I : Inv X pins σ H s) (hg : Gl X x) (hm : X.mg x = some u) (h : Q u s)
    (hd : (x == ("__debug__" : Str)) = false := by decide) : wpAny (model X.prog X.w) X.A (eval (.Name x pos) X.env) Q E s :=
  Calls.Name_function_global I.ok.kind hg (Calls.loadGlobal_global (by rw [I.ok.glob]; exact I.mod.glob.keeps I.bk) hm h) hd
theorem ld_blt {E : Value → Shared → Prop} {pins : List (Addr × Obj)} {s : Shared} {σ : St} {H : Hp} {x : Str} {u : Value} {pos : Pos} {Q : Value → Shared → Prop} (I : Inv X pins σ H s) (hg : Gl X x) (hm : X.mg x = none) (hv : bootBuiltins x = some u) (h : Q u s)
    (hn : x ≠ "__name__" := by decide) (hd : (x == ("__debug__" : Str)) = false := by decide) : wpAny (model X.prog X.w) X.A (eval (.Name x pos) X.env) Q E s := by
  obtain ⟨mb, h1, h2⟩ := I.mod.blt
  exact Calls.Name_function_global I.ok.kind hg (Calls.loadGlobal_builtin (by rw [I.ok.glob]; exact I.mod.glob.keeps I.bk) hm (by rw [I.ok.blt]; exact h1.keeps I.bk) ((h2 x hn).trans hv) h) hd
theorem pe_bltn {x : Str} {v : V} {u : Value} {pos : Pos} (hg : Gl X x) (hm : X.mg x = none) (hv : bootBuiltins x = some u) (r : RelV v u) (hn : x ≠ "__name__" := by decide) (hd : (x == ("__debug__" : Str)) = false := by decide) : PE X (.Name x pos) (tC v) :=
  ⟨fun _ _ _ H _ I h => ld_blt I hg hm hv ⟨v, H, I, r, h⟩ hn hd⟩

/-! ### arithmetic -/
variable {a b : Expr} {ta tb : TE} {pos : Pos}
/-! ### comparisons -/
structure PC (X : Cx) (op : CmpOp) (a b : Expr) (t : TE) : Prop where
  run : ∀ (pins : List (Addr × Obj)) (s : Shared) (σ : St) (H : Hp) (Q : VK), Inv X pins σ H s → t σ H Q →
    wpAny (model X.prog X.w) X.A (eval a X.env) (fun v s₁ => wpAny (model X.prog X.w) X.A (eval b X.env) (fun u s₂ => wpAny (model X.prog X.w) X.A (compareOp op v u) (EP X pins σ Q) X.xe s₂) X.xe s₁) X.xe s
instance {X : Cx} {op : CmpOp} {a b : Expr} {t : TE} : CoeFun (PC X op a b t) fun _ => ∀ (pins : List (Addr × Obj)) (s : Shared) (σ : St) (H : Hp) (Q : VK), Inv X pins σ H s → t σ H Q →
    wpAny (model X.prog X.w) X.A (eval a X.env) (fun v s₁ => wpAny (model X.prog X.w) X.A (eval b X.env) (fun u s₂ => wpAny (model X.prog X.w) X.A (compareOp op v u) (EP X pins σ Q) X.xe s₂) X.xe s₁) X.xe s := ⟨PC.run⟩
theorem nobehind (b : Expr) {op : CmpOp} (h : op ≠ .In) (h2 : op ≠ .NotIn) : behindInMarks op b = false := by
  have e1 : (op == CmpOp.In) = false := by cases op <;> first | rfl | exact absurd rfl h
  have e2 : (op == CmpOp.NotIn) = false := by cases op <;> first | rfl | exact absurd rfl h2
  cases b <;> simp [behindInMarks, e1, e2]
/-- a comparison as a value, as a test -/
def tB (t : TE) : TT := fun σ H Q => t σ H fun x H1 => ∃ c, x = .bl c ∧ Q c H1
theorem pt_cmp {op : CmpOp} {t : TE} (h : PC X op a b t) (h1 : behindInMarks op b = false := by first | exact nobehind _ (by decide) (by decide) | rfl) : PT X (.Compare a [op] [b] pos) (tB t) := by
  constructor; intro pins s σ H Q I hw
  refine wpAny_isTrue_Compare1 (thn (h pins s σ H _ I hw) fun v s1 h1 => thn h1 fun u s2 h2 => thn h2 fun c s3 ⟨x, H1, I1, r1, q1⟩ => ?_) h1
  obtain ⟨d, rfl, q⟩ := q1
  cases r1
  exact wpAny_truthy_bool ⟨H1, I1, q⟩
/-- an expression whose value is a bool, as a test -/
theorem pt_val {e : Expr} {t : TE} (h : PE X e t) (he : ∀ whole, isTrue e X.env whole = (do let v ← whole; standAt e.pos; holding [v] (truthy v)) := by intro _; rfl) : PT X e (tB t) := by
  constructor; intro pins s σ H Q I hw
  refine isTrue_plain (thn (h pins s σ H _ I hw) fun v s1 ⟨x, H1, I1, r1, q1⟩ => ?_) (he _)
  obtain ⟨d, rfl, q⟩ := q1
  cases r1
  exact wpAny_truthy_bool ⟨H1, I1, q⟩

/-! ### and, or, not -/
variable {tA tB' : TT} {rest : List Expr}
def tAnd (t u : TT) : TT := fun σ H Q => t σ H fun c H1 => if c = true then u σ H1 Q else Q false H1
def tOr (t u : TT) : TT := fun σ H Q => t σ H fun c H1 => if c = true then Q true H1 else u σ H1 Q
def tNot (t : TT) : TT := fun σ H Q => t σ H fun c H1 => Q (!c) H1
theorem pw_and1 (ha : PT X a tA) : PW X (.BoolOp .And [a] pos) tA := by
  constructor; intro wh pins s σ H Q I h
  refine isTrue_and (thn (ha pins s σ H Q I h) fun c s1 e => ?_)
  cases c with
  | true => exact isTrue_and_nil e
  | false => exact e
theorem pw_or1 (ha : PT X a tA) : PW X (.BoolOp .Or [a] pos) tA := by
  constructor; intro wh pins s σ H Q I h
  refine isTrue_or (thn (ha pins s σ H Q I h) fun c s1 e => ?_)
  cases c with
  | false => exact isTrue_or_nil e
  | true => exact e
theorem pw_and (ha : PT X a tA) (hb : PW X (.BoolOp .And (b :: rest) pos) tB') : PW X (.BoolOp .And (a :: b :: rest) pos) (tAnd tA tB') := by
  constructor; intro wh pins s σ H Q I h
  refine isTrue_and (thn (ha pins s σ H _ I h) fun c s1 ⟨H1, I1, q1⟩ => ?_)
  cases c with
  | true => exact hb wh pins s1 σ H1 Q I1 q1
  | false => exact ⟨H1, I1, q1⟩
theorem pw_or (ha : PT X a tA) (hb : PW X (.BoolOp .Or (b :: rest) pos) tB') : PW X (.BoolOp .Or (a :: b :: rest) pos) (tOr tA tB') := by
  constructor; intro wh pins s σ H Q I h
  refine isTrue_or (thn (ha pins s σ H _ I h) fun c s1 ⟨H1, I1, q1⟩ => ?_)
  cases c with
  | true => exact ⟨H1, I1, q1⟩
  | false => exact hb wh pins s1 σ H1 Q I1 q1
theorem pt_not (ha : PT X a tA) : PT X (.UnaryOp .Not a pos) (tNot tA) := by
  constructor; intro pins s σ H Q I h
  exact isTrue_not (ha pins s σ H (fun c H1 => Q (!c) H1) I h)
/-- .. as values (bools) -/
def tAndV (ta tb : TE) : TE := fun σ H Q => ta σ H fun x H1 => ∃ c, x = .bl c ∧ if c = true then tb σ H1 Q else Q (.bl false) H1
def tNotV (ta : TE) : TE := fun σ H Q => ta σ H fun x H1 => ∃ c, x = .bl c ∧ Q (.bl (!c)) H1
theorem pe_one {op} {t : TE} (h : PE X a t) : PE X (.BoolOp op [a] pos) t := ⟨fun pins s σ H Q I hw => BoolOp_one (h pins s σ H Q I hw)⟩
theorem pe_and (ha : PE X a ta) (hb : PE X (.BoolOp .And (b :: rest) pos) tb) : PE X (.BoolOp .And (a :: b :: rest) pos) (tAndV ta tb) := by
  constructor; intro pins s σ H Q I h
  refine BoolOp_and (thn (ha pins s σ H _ I h) fun v s1 ⟨x, H1, I1, r1, q1⟩ => ?_)
  obtain ⟨c, rfl, q1⟩ := q1
  cases r1
  refine wpAny_truthy_bool ?_
  cases c with
  | true => exact hb pins s1 σ H1 Q I1 q1
  | false => exact ⟨.bl false, H1, I1, rfl, q1⟩
theorem pe_not (ha : PE X a ta) : PE X (.UnaryOp .Not a pos) (tNotV ta) := by
  constructor; intro pins s σ H Q I h
  refine UnaryOp_ (thn (ha pins s σ H _ I h) fun v s1 ⟨x, H1, I1, r1, q1⟩ => ?_)
  obtain ⟨c, rfl, q1⟩ := q1
  cases r1
  exact not_of (wpAny_truthy_bool ⟨.bl (!c), H1, I1, rfl, q1⟩)
end
end L2

namespace L2
open PySem PySem.Spec PyProof.Rows

/-! ### a list, a tuple that is read: tracked, frozen, or an object of the module -/
def SqL (K : PySem.W.Frag) (H : Hp) (a : Addr) (xs : List V) : Prop :=
  Rd H a (.lst xs) ∨
    ∃ (o : Obj) (its : Array Value) (n : Nat), K.lookup a = some o ∧ o.cls = .type "list" ∧ o.dict = none ∧ o.data = .seq its n ∧ its.size ≤ sizeLine ∧ Vals xs its.toList
def SqT (K : PySem.W.Frag) (H : Hp) (a : Addr) (xs : List V) : Prop :=
  Rd H a (.tup xs) ∨
    ∃ (o : Obj) (its : Array Value) (n : Nat), K.lookup a = some o ∧ o.cls = .type "tuple" ∧ o.data = .seq its n ∧ its.size ≤ sizeLine ∧ Vals xs its.toList
def absV : Value → Option V
  | .none => some .non
  | .bool b => some (.bl b)
  | .int i _ => some (.int i)
  | .str x _ => some (.str x)
  | .bytes b _ => some (.byt b)
  | .float b _ => some (.flt b)
  | .ref a => some (.ref a)
  | .type n => some (.ty n)
  | _ => none
theorem RelV.abs {x : V} {u : Value} (r : RelV x u) : absV u = some x := by
  cases x with
  | non => cases r; rfl
  | bl _ => cases r; rfl
  | int _ => obtain ⟨t, rfl⟩ := r; rfl
  | str _ => obtain ⟨t, rfl⟩ := r; rfl
  | byt _ => obtain ⟨t, rfl⟩ := r; rfl
  | flt _ => obtain ⟨t, rfl⟩ := r; rfl
  | ref _ => cases r; rfl
  | ty _ => cases r; rfl
theorem RelV.inj {x y : V} {u : Value} (r : RelV x u) (q : RelV y u) : x = y := Option.some.inj (r.abs.symm.trans q.abs)
theorem Vals.inj : ∀ {xs ys : List V} {us : List Value}, Vals xs us → Vals ys us → xs = ys
  | _, _, _, .nil, .nil => rfl
  | _, _, _, .cons r t, .cons r' t' => by rw [r.inj r', Vals.inj t t']
section
variable {X : Cx} {pins : List (Addr × Obj)} {σ : St} {H : Hp} {s : Shared} {a : Addr} {xs ys : List V}
theorem SqL.of {K : PySem.W.Frag} (h : H a = some (.lst xs)) : SqL K H a xs := .inl (.inl h)
theorem SqT.of {K : PySem.W.Frag} (h : H a = some (.tup xs)) : SqT K H a xs := .inl (.inl h)
theorem Inv.list (I : Inv X pins σ H s) (h : SqL X.K H a xs) : ∃ its : List Value, Vals xs its ∧ PlainL s.heap a its.toArray ∧ xs.length ≤ sizeLine := by
  rcases h with h | ⟨o, its, n, hk, hc, hd, hs, hz, r⟩
  · obtain ⟨z, its, n, r, e⟩ := h.ok I.hok
    exact ⟨its, r, ⟨_, n, e, rfl, rfl, rfl⟩, z⟩
  · refine ⟨its.toList, r, ⟨o, n, I.kIn a o hk, hc, hd, by simpa using hs⟩, ?_⟩
    have e := r.length
    simp only [Array.length_toList] at e
    omega
theorem Inv.tuple (I : Inv X pins σ H s) (h : SqT X.K H a xs) : ∃ its : List Value, Vals xs its ∧ IsTup s.heap a its.toArray ∧ xs.length ≤ sizeLine := by
  rcases h with h | ⟨o, its, n, hk, hc, hs, hz, r⟩
  · obtain ⟨z, its, r, p⟩ := h.ok I.hok
    exact ⟨its, r, p, z⟩
  · refine ⟨its.toList, r, ⟨o, I.kIn a o hk, hc, n, by simpa using hs⟩, ?_⟩
    have e := r.length
    simp only [Array.length_toList] at e
    omega
theorem Inv.list_inj (I : Inv X pins σ H s) (h : SqL X.K H a xs) (h' : SqL X.K H a ys) : xs = ys := by
  obtain ⟨its, r, ⟨o, n, e, _, _, d⟩, _⟩ := I.list h
  obtain ⟨its', r', ⟨o', n', e', _, _, d'⟩, _⟩ := I.list h'
  rw [e] at e'; cases e'
  rw [d] at d'
  injection d' with d1 _
  have : its = its' := by simpa using congrArg Array.toList d1
  subst this
  exact r.inj r'
end

/-! ### another wish about exceptions -/
abbrev Cx.wish (X : Cx) (E : Value → Shared → Prop) : Cx := { X with xe := E }
/-- no exception leaves -/
abbrev Cx.nox (X : Cx) : Cx := X.wish fun _ _ => False
theorem Cx.Ok.wish {X : Cx} (ok : X.Ok) (E : Value → Shared → Prop) : (X.wish E).Ok :=
  ⟨ok.mod, ok.kind, ok.glob, ok.blt, ok.above, ok.inj, ok.has, ok.cab, ok.hd, ok.frames, ok.stk, ok.exf, ok.bs, ok.bsz, ok.noex, ok.exfs, ok.funs, ok.frf⟩
theorem Cx.Ok.unwish {X : Cx} {E : Value → Shared → Prop} (ok : (X.wish E).Ok) : X.Ok :=
  ⟨ok.mod, ok.kind, ok.glob, ok.blt, ok.above, ok.inj, ok.has, ok.cab, ok.hd, ok.frames, ok.stk, ok.exf, ok.bs, ok.bsz, ok.noex, ok.exfs, ok.funs, ok.frf⟩
section
variable {X : Cx} {pins : List (Addr × Obj)} {σ : St} {H : Hp} {s : Shared} {E : Value → Shared → Prop}
theorem Inv.wish (I : Inv X pins σ H s) (E : Value → Shared → Prop) : Inv (X.wish E) pins σ H s := ⟨I.ok.wish E, I.os, I.bare, I.base, I.loc, I.cell, I.free, I.freeC, I.pin, I.hok, I.len⟩
theorem Inv.unwish (I : Inv (X.wish E) pins σ H s) : Inv X pins σ H s := ⟨I.ok.unwish, I.os, I.bare, I.base, I.loc, I.cell, I.free, I.freeC, I.pin, I.hok, I.len⟩
theorem SP.unwish {D : Ends} {f : Flow} {s' : Shared} (h : SP (X.wish E) pins D f s') : SP X pins D f s' := by
  cases f with
  | next => obtain ⟨σ', H', I, q⟩ := h; exact ⟨σ', H', I.unwish, q⟩
  | brk => obtain ⟨σ', H', I, q⟩ := h; exact ⟨σ', H', I.unwish, q⟩
  | cont => obtain ⟨σ', H', I, q⟩ := h; exact ⟨σ', H', I.unwish, q⟩
  | ret u => obtain ⟨v, σ', H', I, r, q⟩ := h; exact ⟨v, σ', H', I.unwish, r, q⟩
theorem PE.nox {e : Expr} {t : TE} (h : PE X.nox e t) : PE X e t := ⟨fun pins s σ H Q I hw =>
  wpAny_mono (h pins s σ H Q (I.wish _) hw) (fun _ _ ⟨v, H', I', r, q⟩ => ⟨v, H', I'.unwish, r, q⟩) fun _ _ z => False.elim z⟩
theorem PT.nox {e : Expr} {t : TT} (h : PT X.nox e t) : PT X e t := ⟨fun pins s σ H Q I hw =>
  wpAny_mono (h pins s σ H Q (I.wish _) hw) (fun _ _ ⟨H', I', q⟩ => ⟨H', I'.unwish, q⟩) fun _ _ z => False.elim z⟩
theorem PSs.nox {st : List Stmt} {t : TS} (h : PSs X.nox st t) : PSs X st t := ⟨fun pins s σ H D I hw =>
  wpAny_mono (h pins s σ H D (I.wish _) hw) (fun _ _ q => q.unwish) fun _ _ z => False.elim z⟩
end

/-! ### blocks and small statements -/
section
variable {X : Cx} {st : Stmt} {rest : List Stmt} {t u : TS} {e : Expr} {te : TE} {pos : Pos}
def tNext : TS := fun D σ H => D.nx σ H
def tSeq (t u : TS) : TS := fun D σ H => t { D with nx := u D } σ H
theorem pss_nil : PSs X [] tNext := ⟨fun _ _ σ H _ I h => wpAny_execs_nil ⟨σ, H, I, h⟩⟩
theorem pss_cons (h1 : PS X st t) (h2 : PSs X rest u) : PSs X (st :: rest) (tSeq t u) := by
  constructor; intro pins s σ H D I h
  refine wpAny_execs_cons (thn (h1 pins s σ H { D with nx := u D } I h) fun f s1 q => ?_)
  cases f with
  | next =>
    obtain ⟨σ', H', I', q⟩ := q
    exact h2 pins s1 σ' H' D I' q
  | ret v => exact q
  | brk => exact q
  | cont => exact q
theorem pss_one (h1 : PS X st t) : PSs X [st] t := by
  constructor; intro pins s σ H D I h
  refine wpAny_execs_cons (thn (h1 pins s σ H D I h) fun f s1 q => ?_)
  cases f with
  | next => exact wpAny_execs_nil q
  | ret v => exact q
  | brk => exact q
  | cont => exact q
/-- in a def's body nothing is shown -/
theorem Inv.quiet {pins : List (Addr × Obj)} {σ : St} {H : Hp} {s : Shared} (I : Inv X pins σ H s) : interactive X.env = false := by simp [interactive, I.ok.kind]
/-- an expression whose value is dropped -/
def tDrop (te : TE) : TS := fun D σ H => te σ H fun _ H1 => D.nx σ H1
theorem ps_expr (he : PE X e te) (hs : swapsWith e none pos.line X.env = pure false := by rfl) : PS X (.Expr e pos) (tDrop te) := by
  constructor; intro pins s σ H D I h
  exact wpAny_Expr_any (thn (he pins s σ H _ I h) fun v s1 ⟨x, H1, I1, r1, q1⟩ => ⟨σ, H1, I1, q1⟩) I.quiet hs
def tRet (te : TE) : TS := fun D σ H => te σ H D.rt
theorem ps_ret (he : PE X e te) : PS X (.Return (some e) pos) (tRet te) := by
  constructor; intro pins s σ H D I h
  exact wpAny_Return_some (thn (he pins s σ H _ I h) fun v s1 ⟨x, H1, I1, r1, q1⟩ => ⟨x, σ, H1, I1, r1, q1⟩)
def tIfS (c : TT) (t u : TS) : TS := fun D σ H => c σ H fun b H1 => if b = true then t D σ H1 else u D σ H1
theorem ps_if {c : Expr} {a b : List Stmt} {tc : TT} (hc : PT X c tc) (ha : PSs X a t) (hb : PSs X b u) : PS X (.If c a b pos) (tIfS tc t u) := by
  constructor; intro pins s σ H D I h
  refine wpAny_If (thn (hc pins s σ H _ I h) fun d s1 ⟨H1, I1, q1⟩ => ?_)
  cases d with
  | true => exact ha pins s1 σ H1 D I1 q1
  | false => exact hb pins s1 σ H1 D I1 q1
end

/-! ### targets -/
abbrev TG := V → St → Hp → (St → Hp → Prop) → Prop
abbrev TGs := List V → St → Hp → (St → Hp → Prop) → Prop
structure PG (X : Cx) (target : Expr) (t : TG) : Prop where
  run : ∀ (pins : List (Addr × Obj)) (s : Shared) (σ : St) (H : Hp) (v : V) (u : Value) (Q : St → Hp → Prop), Inv X pins σ H s → RelV v u → t v σ H Q →
    wpAny (model X.prog X.w) X.A (assign target X.env u) (fun _ s' => ∃ σ' H', Inv X pins σ' H' s' ∧ Q σ' H') X.xe s
instance {X : Cx} {target : Expr} {t : TG} : CoeFun (PG X target t) fun _ => ∀ (pins : List (Addr × Obj)) (s : Shared) (σ : St) (H : Hp) (v : V) (u : Value) (Q : St → Hp → Prop), Inv X pins σ H s → RelV v u → t v σ H Q →
    wpAny (model X.prog X.w) X.A (assign target X.env u) (fun _ s' => ∃ σ' H', Inv X pins σ' H' s' ∧ Q σ' H') X.xe s := ⟨PG.run⟩
/-- several targets, one after another -/
structure PGs (X : Cx) (ts : List Expr) (t : TGs) : Prop where
  run : ∀ (pins : List (Addr × Obj)) (s : Shared) (σ : St) (H : Hp) (vs : List V) (us : List Value) (Q : St → Hp → Prop), Inv X pins σ H s → Vals vs us → t vs σ H Q →
    wpAny (model X.prog X.w) X.A (assignInOrder ((assignEach ts X.env).map (·.2)) us) (fun _ s' => ∃ σ' H', Inv X pins σ' H' s' ∧ Q σ' H') X.xe s
instance {X : Cx} {ts : List Expr} {t : TGs} : CoeFun (PGs X ts t) fun _ => ∀ (pins : List (Addr × Obj)) (s : Shared) (σ : St) (H : Hp) (vs : List V) (us : List Value) (Q : St → Hp → Prop), Inv X pins σ H s → Vals vs us → t vs σ H Q →
    wpAny (model X.prog X.w) X.A (assignInOrder ((assignEach ts X.env).map (·.2)) us) (fun _ s' => ∃ σ' H', Inv X pins σ' H' s' ∧ Q σ' H') X.xe s := ⟨PGs.run⟩
section
variable {X : Cx} {pos : Pos}
def gName (i : Nat) : TG := fun v σ H Q => Q (σ.set i (some v)) H
theorem pg_name {i : Nat} {x : Str} (hN : X.N.Nodup) (hi : X.N[i]? = some x) (hx : Loc X.env.scope x) (hf : X.fn x = true ∨ X.env.scope.names.lookup x = some .local := by first | exact .inl rfl | exact .inr rfl | assumption) : PG X (.Name x pos) (gName i) := by
  constructor; intro pins s σ H v u Q I r h
  exact wpAny_assign_Name (store_ok I hN hi hx r (fun s' I' => ⟨_, H, I', h⟩) hf)
def gNil : TGs := fun vs σ H Q => vs = [] ∧ Q σ H
def gCons (t : TG) (u : TGs) : TGs := fun vs σ H Q => ∃ v r, vs = v :: r ∧ t v σ H fun σ' H' => u r σ' H' Q
theorem pgs_nil : PGs X [] gNil := by
  constructor; intro pins s σ H vs us Q I r h
  obtain ⟨e, h⟩ := h
  subst e
  cases r
  exact assignInOrder_nil ⟨σ, H, I, h⟩
theorem pgs_cons {e : Expr} {es : List Expr} {t : TG} {u : TGs} (h1 : PG X e t) (h2 : PGs X es u)
    (hs : (assignEach (e :: es) X.env).map (·.2) = assign e X.env :: (assignEach es X.env).map (·.2) := by rfl) : PGs X (e :: es) (gCons t u) := by
  constructor; intro pins s σ H vs us Q I r h
  obtain ⟨v, vr, e1, h⟩ := h
  subst e1
  cases r with
  | cons r rr =>
    rw [hs]
    refine assignInOrder_cons (thn (h1 pins s σ H _ _ _ I r h) fun _ s1 ⟨σ1, H1, I1, q1⟩ => ?_)
    exact h2 pins s1 σ1 H1 _ _ Q I1 rr q1
/-- (a, b, ..) = a tuple of that length -/
def gTup (K : PySem.W.Frag) (n : Nat) (t : TGs) : TG := fun v σ H Q => ∃ a xs, v = .ref a ∧ SqT K H a xs ∧ xs.length = n ∧ t xs σ H Q
theorem pg_tup {es : List Expr} {k : Nat} {t : TGs} {n : Nat} (hc : X.calm = true) (h : PGs X es t)
    (hn : (assignEach es X.env).length = n := by rfl) (hst : (assignEach es X.env).findIdx? (·.1) = none := by rfl) : PG X (.Tuple es k pos) (gTup X.K n t) := by
  constructor; intro pins s σ H v u Q I r hw
  obtain ⟨a, xs, e1, hq, hl, hw⟩ := hw
  subst e1
  cases r
  obtain ⟨its, rv, ht, hz⟩ := I.tuple hq
  refine assign_Tuple_tuple (I.ok.hd hc) ht (by simp [hn, ← hl, rv.length]) hst fun h' hx => ?_
  have I1 : Inv X pins σ H { s with heap := h' } := I.kept (t' := s.toks) fun b o e => hx b o (Nat.ne_of_lt (Heap.lt_size e)) e
  exact h pins _ σ H xs _ Q I1 (by simpa using rv) hw
/-- target = value -/
def tAsg (te : TE) (g : TG) : TS := fun D σ H => te σ H fun x H1 => g x σ H1 D.nx
/-- name = value -/
theorem ps_set {i : Nat} {x : Str} {e : Expr} {te : TE} {pos' : Pos} (hN : X.N.Nodup) (hi : X.N[i]? = some x) (hx : Loc X.env.scope x) (he : PE X e te) (hs : swapsWith e (some (.Name x pos')) pos.line X.env = pure false := by rfl) (hf : X.fn x = true ∨ X.env.scope.names.lookup x = some .local := by first | exact .inl rfl | exact .inr rfl | assumption) :
    PS X (.Assign [.Name x pos'] e pos) (tAsg te (gName i)) := by
  constructor; intro pins s σ H D I h
  refine wpAny_Assign_Name (thn (he pins s σ H _ I h) fun v s1 ⟨y, H1, I1, r1, q1⟩ => ?_) hs
  exact store_ok I1 hN hi hx r1 (fun s2 I2 => ⟨_, H1, I2, q1⟩) hf
/-- a, b = x, y with plain local names: stored from the right; the pair itself is not tracked (the opening rows as in PyProof/Rows/TupAssign.lean:23) -/
def tPar (i j : Nat) (ta : TA) : TS := fun D σ H => ta σ H fun vs H1 => ∃ v w, vs = [v, w] ∧ D.nx ((σ.set i (some v)).set j (some w)) H1
theorem ps_par {i j : Nat} {x y : Str} {a b : Expr} {ta : TA} {px py pt : Pos} {kt k2 pt2} (hc : X.calm = true) (hN : X.N.Nodup) (hi : X.N[i]? = some x) (hj : X.N[j]? = some y) (hij : i ≠ j)
    (hx : X.env.scope.names.lookup x = some .local) (hy : X.env.scope.names.lookup y = some .local) (ha : PA X [a, b] ta)
    (hw : swappedStores [.Tuple [.Name x px, .Name y py] kt pt] (.Tuple [a, b] k2 pt2) X.env = pure (some [x, y]))
    (hs : swapsWithSole [.Tuple [.Name x px, .Name y py] kt pt] (.Tuple [a, b] k2 pt2) pos.line X.env = pure false := by rfl) :
    PS X (.Assign [.Tuple [.Name x px, .Name y py] kt pt] (.Tuple [a, b] k2 pt2) pos) (tPar i j ta) := by
  constructor; intro pins s σ H D I h
  rw [exec_Assign_arm]
  refine wpAny_bind (wpAny_standAt ?_)
  rw [hs]
  refine wpAny_bind (wpAny_pure ?_)
  rw [if_neg (by decide)]
  refine wpAny_bind (Tuple_ (thn (ha _ pins s σ H _ I h) fun us s1 ⟨vs, H1, I1, r1, q1⟩ => ?_))
  obtain ⟨v, w, e1, q1⟩ := q1
  subst e1
  obtain ⟨u1, u2, rfl, rv, rw'⟩ : ∃ u1 u2, us = [u1, u2] ∧ RelV v u1 ∧ RelV w u2 := by
    cases r1 with
    | cons p q =>
      cases q with
      | cons p' q' =>
        cases q'
        exact ⟨_, _, rfl, p, p'⟩
  refine wpAny_newObj_type ?_ (by show 2 ≤ sizeLine; decide)
  have I2 : Inv X pins σ H1 { s1 with heap := s1.heap.push { cls := .type "tuple", data := .seq [u1, u2].toArray } } := I1.kept (t' := s1.toks) fun b o e => Heap.get?_push_of_some _ e
  rw [hw]
  refine wpAny_bind (wpAny_pure ?_)
  show wpAny (model X.prog X.w) X.A (do rule "assign.swapped-stores"; let items ← unpackItems (.ref s1.heap.objs.size) 2 none; assignInOrder [fun v => bindName X.env y v, fun v => bindName X.env x v] items.reverse; pure Flow.next) _ _ _
  refine wpAny_bind (wpAny_rule (wpAny_bind (unpackItems_tuple (items := #[u1, u2]) (I.ok.hd hc) (IsTup.new s1.heap _) fun h' hx' => ?_)))
  have I3 := I2.kept (h' := h') (t' := s1.toks) fun b o e => hx' b o (Nat.ne_of_lt (Heap.lt_size e)) e
  show wpAny _ _ (assignInOrder [fun v => bindName X.env y v, fun v => bindName X.env x v] [u2, u1] >>= fun _ => pure Flow.next) _ _ _
  refine wpAny_bind (assignInOrder_cons (wpAny_bindName (store_ok I3 hN hj (.inl hy) rw' (fun s2 I4 => ?_) (.inr hy))))
  refine assignInOrder_cons (wpAny_bindName (store_ok I4 hN hi (.inl hx) rv (fun s3 I5 => assignInOrder_nil (wpAny_pure ?_)) (.inr hx)))
  rw [List.set_comm _ _ (Ne.symm hij)] at I5
  exact ⟨_, H1, I5, q1⟩
end

/-! ### while -/
section
variable {X : Cx} {pos : Pos}
/-- the invariant W with its measure -/
def tWhile (c : TT) (tb : TS) : TS := fun D σ H => ∃ W : Nat → St → Hp → Prop, (∃ m, W m σ H) ∧ ∀ m σ H, W m σ H →
  c σ H fun b H1 => if b = true then ∃ N : St → Hp → Prop, (∀ σ' H', N σ' H' → ∃ m', m' < m ∧ W m' σ' H') ∧ tb { D with nx := N, ct := N, bk := D.nx } σ H1 else D.nx σ H1
theorem ps_while {c : Expr} {body : List Stmt} {tc : TT} {tb : TS} (hp : PassesOwn (model X.prog X.w) X.A X.env X.xe) (hc : PT X c tc) (hb : PSs X body tb) : PS X (.While c body [] pos) (tWhile tc tb) := by
  constructor; intro pins s σ H D I h
  obtain ⟨W, ⟨m0, w0⟩, turn⟩ := h
  refine wpAny_While (codeAny_whileLoop (fun n s' => ∃ σ' H', Inv X pins σ' H' s' ∧ W n σ' H') ?_ m0 ⟨σ, H, I, w0⟩)
  rintro n s1 ⟨σ1, H1, I1, w1⟩
  refine wpAny_passesOwn hp (thn (hc pins s1 σ1 H1 _ I1 (turn n σ1 H1 w1)) fun b s2 ⟨H2, I2, q2⟩ => ?_)
  cases b with
  | true =>
    obtain ⟨N, hN, q2⟩ := q2
    rw [if_pos rfl]
    refine wpAny_passesOwn hp (thn (hb pins s2 σ1 H2 _ I2 q2) fun f s3 q3 => ?_)
    cases f with
    | next =>
      obtain ⟨σ3, H3, I3, n3⟩ := q3
      obtain ⟨m', hm, w3⟩ := hN σ3 H3 n3
      exact ⟨m', hm, σ3, H3, I3, w3⟩
    | cont =>
      obtain ⟨σ3, H3, I3, n3⟩ := q3
      obtain ⟨m', hm, w3⟩ := hN σ3 H3 n3
      exact ⟨m', hm, σ3, H3, I3, w3⟩
    | brk => exact q3
    | ret v => exact q3
  | false =>
    rw [if_neg Bool.false_ne_true]
    exact wpAny_execs_nil ⟨σ1, H2, I2, q2⟩
end

/-! ### what a loop or a comprehension walks -/
/-- at turn i: it yields x (the heap may grow), or it stops -/
structure It where
  go : Nat → Hp → Prop
  yld : Nat → Hp → V → Hp → Prop
  stop : Nat → Hp → Prop
/-- the iterator's own objects may turn: they are not the frame's, not pinned, younger than the entry (or a comprehension's own) -/
def FpOk (X : Cx) (pins : List (Addr × Obj)) (H : Hp) (b : Addr) : Prop :=
  H b = none ∧ b ≠ X.env.locals ∧ b ∉ X.fs ∧ (b ∈ X.ex ∨ X.s₀.heap.objs.size ≤ b) ∧ (∀ x c, X.env.cells.lookup x = some c → c ≠ b) ∧ ∀ p ∈ X.pn ++ pins, p.1 ≠ b
theorem Inv.fpOk {X : Cx} {pins : List (Addr × Obj)} {σ : St} {H H' : Hp} {s : Shared} {b : Addr} (I : Inv X pins σ H s) (hb : s.heap.objs.size ≤ b) (hn : H' b = none) : FpOk X pins H' b := by
  refine ⟨hn, Nat.ne_of_gt (Nat.lt_of_lt_of_le I.lt hb), I.nofs hb, .inr (Nat.le_trans I.sz hb), fun x c e z => ?_, fun p hp z => ?_⟩
  · obtain ⟨v, q⟩ := I.cell x c e
    exact absurd (Nat.lt_of_lt_of_le q.lt (by rw [z]; exact hb)) (Nat.lt_irrefl _)
  · exact absurd (Nat.lt_of_lt_of_le (Heap.lt_size (I.pin p hp).1) (by rw [z]; exact hb)) (Nat.lt_irrefl _)
structure Turn (P : Program) (w : World) (K : PySem.W.Frag) (tg : Expr) (J : It) (fp : List Addr) (it : Addr) (tn : Nat → Heap → Prop) : Prop where
  mem : it ∈ fp
  obj : ∀ i h, tn i h → ∀ b ∈ fp, ∃ o, h.get? b = some o ∧ ∀ v, o.data ≠ .cell v
  keep : ∀ i h h', tn i h → (∀ b ∈ fp, ∀ o, h.get? b = some o → h'.get? b = some o) → tn i h'
  item : ∀ (X : Cx), X.prog = P → X.w = w → X.K = K → X.calm = true → ∀ (i : Nat) (pins : List (Addr × Obj)) (s : Shared) (σ : St) (H : Hp) (E : Value → Shared → Prop), Inv X pins σ H s → (∀ b ∈ fp, FpOk X pins H b) → tn i s.heap → J.go i H →
    wpAny (model P w) X.A (pyNext (.ref it)) (fun r s1 => ∃ u, r = some u ∧
      wpAny (model P w) X.A (letOwnedTupleGo tg (.ref it) u) (fun _ s2 => ∃ x H', Inv X pins σ H' s2 ∧ RelV x u ∧ J.yld i H x H' ∧ tn (i + 1) s2.heap ∧ ∀ b ∈ fp, H' b = none) E s1) E s
  done : ∀ (X : Cx), X.prog = P → X.w = w → X.K = K → X.calm = true → ∀ (i : Nat) (pins : List (Addr × Obj)) (s : Shared) (σ : St) (H : Hp) (E : Value → Shared → Prop), Inv X pins σ H s → (∀ b ∈ fp, FpOk X pins H b) → tn i s.heap → J.stop i H →
    wpAny (model P w) X.A (pyNext (.ref it)) (fun r s1 => r = none ∧ Inv X pins σ H s1) E s
  self : ∀ (A : Around) (i : Nat) (s : Shared) (Q : Value → Shared → Prop) (E : Value → Shared → Prop), tn i s.heap → Q (.ref it) s → wpAny (model P w) A (pyIter (.ref it)) Q E s
abbrev TI := St → Hp → (It → Hp → Prop) → Prop
/-- an iterator has come -/
def PIE (X : Cx) (pins : List (Addr × Obj)) (σ : St) (tg : Expr) (R : It → Hp → Prop) (itv : Value) (s2 : Shared) : Prop :=
  ∃ (it : Addr) (fp : List Addr) (tn : Nat → Heap → Prop) (J : It) (H' : Hp), itv = .ref it ∧ Inv X pins σ H' s2 ∧ Turn X.prog X.w X.K tg J fp it tn ∧ tn 0 s2.heap ∧ (∀ b ∈ fp, FpOk X pins H' b) ∧ R J H'
structure PI (X : Cx) (tg iter : Expr) (wi : TI) : Prop where
  run : ∀ (pins : List (Addr × Obj)) (s : Shared) (σ : St) (H : Hp) (R : It → Hp → Prop), Inv X pins σ H s → wi σ H R →
    wpAny (model X.prog X.w) X.A (eval iter X.env) (fun v s1 => wpAny (model X.prog X.w) X.A (pyIter v) (PIE X pins σ tg R) X.xe s1) X.xe s
instance {X : Cx} {tg iter : Expr} {wi : TI} : CoeFun (PI X tg iter wi) fun _ => ∀ (pins : List (Addr × Obj)) (s : Shared) (σ : St) (H : Hp) (R : It → Hp → Prop), Inv X pins σ H s → wi σ H R →
    wpAny (model X.prog X.w) X.A (eval iter X.env) (fun v s1 => wpAny (model X.prog X.w) X.A (pyIter v) (PIE X pins σ tg R) X.xe s1) X.xe s := ⟨PI.run⟩

/-- the step ahead of the store is nothing for an iterator that keeps no tuple -/
theorem go_of {M : Model} {A : Around} {E : Value → Shared → Prop} {s : Shared} {tg : Expr} {it : Addr} {u : Value} {o : Obj} {n : String} {vs : Array Value} {Q : Unit → Shared → Prop} (ho : s.heap.get? it = some o) (hc : o.cls = .type n) (hd : o.data = .fields vs)
    (hn : ["enumerate", "zip", "dict_itemiterator", "dict_reverseitemiterator", "odict_iterator", "itertools.zip_longest", "itertools.pairwise"].contains n = false) (hQ : Q () s) : wpAny M A (letOwnedTupleGo tg (.ref it) u) Q E s := by
  unfold letOwnedTupleGo
  cases tg <;> first
    | exact wpAny_pure hQ
    | (cases u <;> first
        | exact wpAny_pure hQ
        | (refine wpAny_bind (wpAny_load ho ?_)
           rw [hc, hd]
           show wpAny M A (if (["enumerate", "zip", "dict_itemiterator", "dict_reverseitemiterator", "odict_iterator", "itertools.zip_longest", "itertools.pairwise"].contains n && vs[0]? == some (rawInt _)) = true then _ else _) Q E s
           rw [if_neg (by intro h; rw [hn, Bool.false_and] at h; cases h)]
           exact wpAny_pure hQ))

/-- the list at a, as it stands at each turn (a loop may append to it) -/
def Itl (K : PySem.W.Frag) (a : Addr) : It :=
  ⟨fun i H => ∃ xs x, SqL K H a xs ∧ xs[i]? = some x, fun i H x H' => H' = H ∧ ∀ xs, SqL K H a xs → xs[i]? = some x, fun i H => ∃ xs, SqL K H a xs ∧ xs.length ≤ i⟩
def Itt (K : PySem.W.Frag) (a : Addr) : It :=
  ⟨fun i H => ∃ xs x, SqT K H a xs ∧ xs[i]? = some x, fun i H x H' => H' = H ∧ ∀ xs, SqT K H a xs → xs[i]? = some x, fun i H => ∃ xs, SqT K H a xs ∧ xs.length ≤ i⟩
/-- lo, lo + 1, .. (n of them) -/
def Itr (lo : Int) (n : Nat) : It := ⟨fun i _ => i < n, fun i H x H' => H' = H ∧ x = .int (lo + i), fun i _ => n ≤ i⟩
theorem turn_list {P : Program} {w : World} {K : PySem.W.Frag} {tg : Expr} (a it : Addr) : Turn P w K tg (Itl K a) [it] it (fun i h => h.IsListIter it a i) where
  mem := by simp
  obj := fun i h st b hb => by
    have e : b = it := by simpa using hb
    subst e
    obtain ⟨o, e, c, d⟩ := st
    exact ⟨o, e, fun v z => by rw [d] at z; cases z⟩
  keep := fun i h h' st k => st.at fun o e => k it (by simp) o e
  item := by
    intro X hP hw hK hc i pins s σ H E I hf st hg
    subst hP hw hK
    obtain ⟨xs, x, hq, hx⟩ := hg
    obtain ⟨its, rv, p, hz⟩ := I.list hq
    obtain ⟨u, hu, ru⟩ := rv.get hx
    obtain ⟨f0, f1, f2, f3, f4, f5⟩ := hf it (by simp)
    refine wpAny_pyNext_list_item st p.isList (x := u) (by simpa using hu) fun h' st' sb => ?_
    have I1 : Inv X pins σ H { s with heap := h' } := I.turned (t' := s.toks) (fun b o hb e => (sb.2 b hb).trans e) f0 f1 f3 f4 f5
    obtain ⟨o, e, c, d⟩ := id st'
    exact ⟨u, rfl, go_of (s := { s with heap := h' }) e c d (by decide) ⟨x, H, I1, ru, ⟨rfl, fun ys hy => by rw [I.list_inj hy hq]; exact hx⟩, st', fun b hb => (hf b hb).1⟩⟩
  done := by
    intro X hP hw hK hc i pins s σ H E I hf st hg
    subst hP hw hK
    obtain ⟨xs, hq, hx⟩ := hg
    obtain ⟨its, rv, p, hz⟩ := I.list hq
    obtain ⟨f0, f1, f2, f3, f4, f5⟩ := hf it (by simp)
    have hl := rv.length
    exact wpAny_pyNext_list_end (I.ok.hd hc) st p.isList (by simp; omega) fun h' eb => ⟨rfl, I.turned (t' := s.toks) (fun b o hb e => eb b o hb e) f0 f1 f3 f4 f5⟩
  self := fun _ _ _ _ _ st h => wpAny_pyIter_listiter st h
theorem turn_range {P : Program} {w : World} {K : PySem.W.Frag} {tg : Expr} (it : Addr) (lo : Int) (n : Nat) : Turn P w K tg (Itr lo n) [it] it (fun i h => IsRangeIter h it (lo + (i : Nat) * 1) ((n : Int) - (i : Nat)) 1) where
  mem := by simp
  obj := fun i h st b hb => by
    have e : b = it := by simpa using hb
    subst e
    exact ⟨_, st, fun v z => by
      have z' : Data.fields _ = Data.cell v := z
      cases z'⟩
  keep := fun i h h' st k => k it (by simp) _ st
  item := by
    intro X hP hw hK hc i pins s σ H E I hf st hg
    subst hP hw hK
    obtain ⟨f0, f1, f2, f3, f4, f5⟩ := hf it (by simp)
    have W := Walks.range (prog := X.prog) (w := X.w) (I.ok.hd hc) it lo 1 n
    refine W.item i s _ _ hg st fun v h' tk hv st' kk => ?_
    obtain ⟨t, rfl⟩ := hv
    have I1 : Inv X pins σ H { s with heap := h', toks := tk } := I.turned (fun b o hb e => kk b o (by simpa using hb) e) f0 f1 f3 f4 f5
    refine ⟨_, rfl, go_of (s := { s with heap := h', toks := tk }) (n := "range_iterator") st' rfl rfl (by decide) ⟨.int (lo + i), H, I1, ⟨t, ?_⟩, ⟨rfl, rfl⟩, st', fun b hb => (hf b hb).1⟩⟩
    rw [Int.mul_one]
  done := by
    intro X hP hw hK hc i pins s σ H E I hf st hg
    subst hP hw hK
    obtain ⟨f0, f1, f2, f3, f4, f5⟩ := hf it (by simp)
    exact wpAny_pyNext_range_end (I.ok.hd hc) st (by have : n ≤ i := hg; omega) fun h' eb => ⟨rfl, I.turned (t' := s.toks) (fun b o hb e => eb b o hb e) f0 f1 f3 f4 f5⟩
  self := fun _ _ _ _ _ st h => wpAny_pyIter_rangeiter st h
end L2

namespace L2
open PySem PySem.Spec PyProof.Rows
section
variable {X : Cx} {tg : Expr}
def iList (K : PySem.W.Frag) (tl : TE) : TI := fun σ H R => tl σ H fun x H1 => ∃ a, x = .ref a ∧ (∃ xs, SqL K H1 a xs) ∧ R (Itl K a) H1
theorem pi_list {l : Expr} {tl : TE} (hl : PE X l tl) : PI X tg l (iList X.K tl) := by
  constructor; intro pins s σ H R I h
  refine thn (hl pins s σ H _ I h) fun v s1 ⟨x, H1, I1, r1, q1⟩ => ?_
  obtain ⟨a, e, ⟨xs, hq⟩, q⟩ := q1
  subst e
  cases r1
  obtain ⟨its, rv, p, hz⟩ := I1.list hq
  refine wpAny_pyIter_list p.isList ?_
  refine ⟨s1.heap.objs.size, [s1.heap.objs.size], _, _, H1, rfl, I1.kept (t' := s1.toks) fun b o e => Heap.get?_push_of_some _ e, turn_list a _, ⟨_, Heap.get?_push_size _ rfl, rfl, rfl⟩, fun b hb => ?_, q⟩
  have e : b = s1.heap.objs.size := by simpa using hb
  subst e
  exact I1.fpOk (Nat.le_refl _) (I1.hok.fresh (Nat.le_refl _))
/-- a range object just made, walked -/
theorem range_it {pins : List (Addr × Obj)} {σ : St} {H : Hp} {s : Shared} {R : It → Hp → Prop} {E : Value → Shared → Prop} {lo hi : Int} {t u v : Tok} {tk : Nat} (I : Inv X pins σ H s) (h1 : -(2 ^ 62) ≤ lo) (h2 : lo < 2 ^ 62) (h3 : -(2 ^ 62) ≤ hi) (h4 : hi < 2 ^ 62)
    (q : R (Itr lo (hi - lo).toNat) H) : wpAny (model X.prog X.w) X.A (pyIter (.ref s.heap.objs.size)) (PIE X pins σ tg R) E { s with heap := s.heap.push { cls := .type "range", data := .fields #[.int lo t, .int hi u, .int 1 v] }, toks := tk } := by
  refine wpAny_pyIter_range (IsRange.new ..) (small_one h1 h2 h3 h4) ?_
  have I1 : Inv X pins σ H { s with heap := s.heap.push { cls := .type "range", data := .fields #[.int lo t, .int hi u, .int 1 v] }, toks := tk } := I.kept fun b o e => Heap.get?_push_of_some _ e
  refine ⟨(s.heap.push { cls := .type "range", data := .fields #[.int lo t, .int hi u, .int 1 v] }).objs.size, [(s.heap.push { cls := .type "range", data := .fields #[.int lo t, .int hi u, .int 1 v] }).objs.size], _, _, H, rfl,
    I1.kept (t' := tk) fun b o e => Heap.get?_push_of_some _ e, turn_range _ lo (hi - lo).toNat, ?_, fun b hb => ?_, q⟩
  · have e1 : lo + ((0 : Nat) : Int) * 1 = lo := by simp
    have e2 : (((hi - lo).toNat : Nat) : Int) - ((0 : Nat) : Int) = Builtin.Range.rangeSize lo hi 1 := by rw [rangeSize_one]; split <;> omega
    show IsRangeIter _ _ (lo + ((0 : Nat) : Int) * 1) ((((hi - lo).toNat : Nat) : Int) - ((0 : Nat) : Int)) 1
    rw [e1, e2]
    exact Heap.get?_push_size _ rfl
  · have e : b = (s.heap.push { cls := .type "range", data := .fields #[.int lo t, .int hi u, .int 1 v] }).objs.size := by simpa using hb
    subst e
    exact I1.fpOk (Nat.le_refl _) (I1.hok.fresh (Nat.le_refl _))
def iRng1 (ta : TA) : TI := fun σ H R => ta σ H fun vs H1 => ∃ j : Int, vs = [.int j] ∧ -(2 ^ 62) ≤ j ∧ j < 2 ^ 62 ∧ R (Itr 0 j.toNat) H1
def iRng2 (ta : TA) : TI := fun σ H R => ta σ H fun vs H1 => ∃ i j : Int, vs = [.int i, .int j] ∧ (-(2 ^ 62) ≤ i ∧ i < 2 ^ 62 ∧ -(2 ^ 62) ≤ j ∧ j < 2 ^ 62) ∧ R (Itr i (j - i).toNat) H1
theorem pi_range1 {a : Expr} {ta : TA} {p pos : Pos} (hg : Gl X "range") (hm : X.mg "range" = none) (ha : PA X [a] ta) (hs : starEach [a] X.env = [(false, eval a X.env)] := by rfl) : PI X tg (.Call (.Name "range" p) [a] [] pos) (iRng1 ta) := by
  constructor; intro pins s σ H R I h
  refine Call_ (ld_blt I hg hm boot_range (PyProof.Rows.callWith_type1 (thn (ha pos pins s σ H _ I h) fun us s1 ⟨vs, H1, I1, r1, q1⟩ => ?_) hs rfl))
  obtain ⟨j, e, q1, q2, q⟩ := q1
  subst e
  cases r1 with
  | cons r rr =>
    cases rr
    obtain ⟨t, rfl⟩ := r
    exact call_range_1 (range_it I1 (by omega) (by omega) q1 q2 (by simpa using q))
theorem pi_range2 {a b : Expr} {ta : TA} {p pos : Pos} (hg : Gl X "range") (hm : X.mg "range" = none) (ha : PA X [a, b] ta) (hs : starEach [a, b] X.env = [(false, eval a X.env), (false, eval b X.env)] := by rfl) (hs2 : starEach [b] X.env = [(false, eval b X.env)] := by rfl) :
    PI X tg (.Call (.Name "range" p) [a, b] [] pos) (iRng2 ta) := by
  constructor; intro pins s σ H R I h
  refine Call_ (ld_blt I hg hm boot_range (PyProof.Rows.callWith_type1 (thn (ha pos pins s σ H _ I h) fun us s1 ⟨vs, H1, I1, r1, q1⟩ => ?_) (by rw [hs, hs2]) (by rw [hs2]; rfl)))
  obtain ⟨i, j, e, ⟨q1, q2, q3, q4⟩, q⟩ := q1
  subst e
  cases r1 with
  | cons r rr =>
    cases rr with
    | cons r' rr =>
      cases rr
      obtain ⟨t, rfl⟩ := r
      obtain ⟨t', rfl⟩ := r'
      exact call_range_2 (range_it I1 q1 q2 q3 q4 q)

/-! ### for -/
/-- W: the invariant by the turn and a measure; N: what the body is to reach -/
def tFor (wi : TI) (g : TG) (tb : TS) : TS := fun D σ H => wi σ H fun J H1 => ∃ W : Nat → Nat → St → Hp → Prop, (∃ m, W 0 m σ H1) ∧ ∀ i m σ H, W i m σ H →
  (J.stop i H ∧ D.nx σ H) ∨ (J.go i H ∧ ∃ N : St → Hp → Prop, (∀ σ' H', N σ' H' → ∃ m', m' < m ∧ W (i + 1) m' σ' H') ∧ ∀ x H', J.yld i H x H' → g x σ H' fun σ2 H2 => tb { D with nx := N, ct := N, bk := D.nx } σ2 H2)
/-- the records at fp as they stand -/
def pinsAt (fp : List Addr) (h : Heap) : List (Addr × Obj) := fp.filterMap fun b => (h.get? b).map fun o => (b, o)
theorem mem_pinsAt {fp : List Addr} {h : Heap} {b : Addr} {o : Obj} (hb : b ∈ fp) (e : h.get? b = some o) : (b, o) ∈ pinsAt fp h := List.mem_filterMap.mpr ⟨b, hb, by rw [e]; rfl⟩
theorem of_pinsAt {fp : List Addr} {h : Heap} {p : Addr × Obj} (hp : p ∈ pinsAt fp h) : p.1 ∈ fp ∧ h.get? p.1 = some p.2 := by
  obtain ⟨b, hb, e⟩ := List.mem_filterMap.mp hp
  cases q : h.get? b with
  | none => rw [q] at e; cases e
  | some o =>
    rw [q] at e
    have e' : (b, o) = p := Option.some.inj e
    subst e'
    exact ⟨hb, q⟩
theorem Inv.pinned {pins : List (Addr × Obj)} {σ : St} {H : Hp} {s : Shared} {fp : List Addr} (I : Inv X pins σ H s) (hf : ∀ b ∈ fp, FpOk X pins H b) (ho : ∀ b ∈ fp, ∃ o, s.heap.get? b = some o ∧ ∀ v, o.data ≠ .cell v) : Inv X (pins ++ pinsAt fp s.heap) σ H s :=
  I.pins_of fun p hp => (List.mem_append.mp hp).elim (fun z => I.pin p (List.mem_append_right _ z)) fun z => by
    obtain ⟨hb, e⟩ := of_pinsAt z
    obtain ⟨f0, f1, f2, _⟩ := hf p.1 hb
    obtain ⟨o, e', d⟩ := ho p.1 hb
    rw [e] at e'; cases e'
    exact ⟨e, f0, f1, f2, d⟩
theorem Inv.unpinned {pins pl : List (Addr × Obj)} {σ : St} {H : Hp} {s : Shared} (I : Inv X (pins ++ pl) σ H s) : Inv X pins σ H s := I.pins_of fun p hp => I.pin p (List.mem_append_right _ (List.mem_append_left _ hp))
theorem ps_for {iter : Expr} {body : List Stmt} {wi : TI} {g : TG} {tb : TS} {pos : Pos} (hp : PassesOwn (model X.prog X.w) X.A X.env X.xe) (hc : X.calm = true) (hi : PI X tg iter wi) (hg : PG X tg g) (hb : PSs X body tb)
    (hs : ∀ x, foldedSetIterable iter X.env x = pure x := by intro _; rfl) : PS X (.For tg iter body [] pos) (tFor wi g tb) := by
  constructor; intro pins s σ H D I h
  refine wpAny_For (thn (hi pins s σ H _ I h) fun v s1 h1 => thn h1 fun itv s2 h2 => ?_) hs
  obtain ⟨it, fp, tn, J, H2, e, I2, T, st2, f2, W, ⟨m0, w0⟩, turn⟩ := h2
  subst e
  -- what stays true of the iterator's objects through the loop
  have stat : ∀ {H' : Hp}, (∀ b ∈ fp, H' b = none) → ∀ b ∈ fp, FpOk X pins H' b := fun hn b hb => ⟨hn b hb, (f2 b hb).2⟩
  refine codeAny_forLoop_any (fun n s' => ∃ i σ' H', Inv X pins σ' H' s' ∧ tn i s'.heap ∧ (∀ b ∈ fp, H' b = none) ∧ W i n σ' H') ?_ m0 ⟨0, σ, H2, I2, st2, fun b hb => (f2 b hb).1, w0⟩
  rintro n s3 ⟨i, σ3, H3, I3, st3, fr3, w3⟩
  rcases turn i n σ3 H3 w3 with ⟨stop, qn⟩ | ⟨go, N, hN, step⟩
  · refine wpAny_passesOwn hp (thn (T.done X rfl rfl rfl hc i pins s3 σ3 H3 X.xe I3 (stat fr3) st3 stop) fun r s4 ⟨hr, I4⟩ => ?_)
    subst hr
    exact wpAny_execs_nil ⟨σ3, H3, I4, qn⟩
  · refine wpAny_passesOwn hp (thn (T.item X rfl rfl rfl hc i pins s3 σ3 H3 X.xe I3 (stat fr3) st3 go) fun r s4 ⟨u, hr, h4⟩ => ?_)
    subst hr
    refine wpAny_passesOwn hp (thn h4 fun _ s5 ⟨x, H5, I5, r5, y5, st5, fr5⟩ => ?_)
    have I5' := I5.pinned (stat fr5) (T.obj _ _ st5)
    refine wpAny_passesOwn hp (thn (hg _ s5 σ3 H5 x u _ I5' r5 (step x H5 y5)) fun _ s6 ⟨σ6, H6, I6, q6⟩ => ?_)
    refine wpAny_passesOwn hp (thn (hb _ s6 σ6 H6 _ I6 q6) fun f s7 q7 => ?_)
    have again : ∀ {σ7 : St} {H7 : Hp}, Inv X (pins ++ pinsAt fp s5.heap) σ7 H7 s7 → N σ7 H7 → ∃ m, m < n ∧ ∃ i σ' H', Inv X pins σ' H' s7 ∧ tn i s7.heap ∧ (∀ b ∈ fp, H' b = none) ∧ W i m σ' H' := fun {σ7 H7} I7 n7 => by
      obtain ⟨m', hm, w7⟩ := hN σ7 H7 n7
      refine ⟨m', hm, i + 1, σ7, H7, I7.unpinned, T.keep _ _ _ st5 fun b hb o e => (I7.pin (b, o) (List.mem_append_right _ (List.mem_append_right _ (mem_pinsAt hb e)))).1, fun b hb => ?_, w7⟩
      obtain ⟨o, e, d⟩ := T.obj _ _ st5 b hb
      exact (I7.pin (b, o) (List.mem_append_right _ (List.mem_append_right _ (mem_pinsAt hb e)))).2.1
    cases f with
    | next => obtain ⟨σ7, H7, I7, n7⟩ := q7; exact again I7 n7
    | cont => obtain ⟨σ7, H7, I7, n7⟩ := q7; exact again I7 n7
    | brk => obtain ⟨σ7, H7, I7, q7⟩ := q7; exact ⟨σ7, H7, I7.unpinned, q7⟩
    | ret v => obtain ⟨x7, σ7, H7, I7, r7, q7⟩ := q7; exact ⟨x7, σ7, H7, I7.unpinned, r7, q7⟩
end

/-! ### the forms one uses -/
/-- over a list that the body leaves as it is -/
theorem for_list {K : PySem.W.Frag} {a : Addr} {xs : List V} {g : TG} {tb : TS} {D : Ends} {σ : St} {H : Hp} (Pv : Nat → St → Hp → Prop) (h0 : Pv 0 σ H) (hl : ∀ i σ H, i ≤ xs.length → Pv i σ H → SqL K H a xs)
    (hs : ∀ i x σ H, xs[i]? = some x → Pv i σ H → g x σ H fun σ2 H2 => tb { D with nx := Pv (i + 1), ct := Pv (i + 1), bk := D.nx } σ2 H2) (hd : ∀ σ H, Pv xs.length σ H → D.nx σ H) :
    ∃ W : Nat → Nat → St → Hp → Prop, (∃ m, W 0 m σ H) ∧ ∀ i m σ H, W i m σ H →
      ((Itl K a).stop i H ∧ D.nx σ H) ∨ ((Itl K a).go i H ∧ ∃ N : St → Hp → Prop, (∀ σ' H', N σ' H' → ∃ m', m' < m ∧ W (i + 1) m' σ' H') ∧ ∀ x H', (Itl K a).yld i H x H' → g x σ H' fun σ2 H2 => tb { D with nx := N, ct := N, bk := D.nx } σ2 H2) := by
  refine ⟨fun i m σ H => m = xs.length - i ∧ i ≤ xs.length ∧ Pv i σ H, ⟨xs.length, by simp, Nat.zero_le _, h0⟩, ?_⟩
  rintro i m σ H ⟨rfl, hi, p⟩
  have q := hl i σ H hi p
  by_cases hlt : i < xs.length
  · refine .inr ⟨⟨xs, xs[i], q, by simp [hlt]⟩, Pv (i + 1), fun σ' H' p' => ⟨xs.length - (i + 1), by omega, rfl, hlt, p'⟩, fun x H' y => ?_⟩
    obtain ⟨e, y⟩ := y
    subst e
    exact hs i x σ _ (y xs q) p
  · have e : i = xs.length := by omega
    subst e
    exact .inl ⟨⟨xs, q, Nat.le_refl _⟩, hd σ H p⟩
theorem for_range {lo : Int} {n : Nat} {g : TG} {tb : TS} {D : Ends} {σ : St} {H : Hp} (Pv : Nat → St → Hp → Prop) (h0 : Pv 0 σ H)
    (hs : ∀ i σ H, i < n → Pv i σ H → g (.int (lo + i)) σ H fun σ2 H2 => tb { D with nx := Pv (i + 1), ct := Pv (i + 1), bk := D.nx } σ2 H2) (hd : ∀ σ H, Pv n σ H → D.nx σ H) :
    ∃ W : Nat → Nat → St → Hp → Prop, (∃ m, W 0 m σ H) ∧ ∀ i m σ H, W i m σ H →
      ((Itr lo n).stop i H ∧ D.nx σ H) ∨ ((Itr lo n).go i H ∧ ∃ N : St → Hp → Prop, (∀ σ' H', N σ' H' → ∃ m', m' < m ∧ W (i + 1) m' σ' H') ∧ ∀ x H', (Itr lo n).yld i H x H' → g x σ H' fun σ2 H2 => tb { D with nx := N, ct := N, bk := D.nx } σ2 H2) := by
  refine ⟨fun i m σ H => m = n - i ∧ i ≤ n ∧ Pv i σ H, ⟨n, by simp, Nat.zero_le _, h0⟩, ?_⟩
  rintro i m σ H ⟨rfl, hi, p⟩
  by_cases hlt : i < n
  · refine .inr ⟨hlt, Pv (i + 1), fun σ' H' p' => ⟨n - (i + 1), by omega, rfl, hlt, p'⟩, fun x H' y => ?_⟩
    obtain ⟨e, y⟩ := y
    subst e y
    exact hs i σ _ hlt p
  · have e : i = n := by omega
    subst e
    exact .inl ⟨Nat.le_refl _, hd σ H p⟩
end L2

namespace L2
open PySem PySem.Spec PyProof.Rows

abbrev R2 := V → V → Hp → VK → Prop
/-- a two-place operation on values: f is binaryOp op, inplaceOp op or compareOp op -/
def OpR (X : Cx) (f : Value → Value → Sem Value) (r : R2) : Prop :=
  ∀ (pins : List (Addr × Obj)) (s : Shared) (σ : St) (H : Hp) (x y : V) (v u : Value) (Q : VK), Inv X pins σ H s → RelV x v → RelV y u → r x y H Q →
    wpAny (model X.prog X.w) X.A (f v u) (EP X pins σ Q) X.xe s
/-- a one-place operation -/
def UnR (X : Cx) (f : Value → Sem Value) (r : V → Hp → VK → Prop) : Prop :=
  ∀ (pins : List (Addr × Obj)) (s : Shared) (σ : St) (H : Hp) (x : V) (v : Value) (Q : VK), Inv X pins σ H s → RelV x v → r x H Q →
    wpAny (model X.prog X.w) X.A (f v) (EP X pins σ Q) X.xe s
/-- a call of a value that is known (a builtin, a type) with values -/
def CallR (X : Cx) (f : Value) (r : List V → Hp → VK → Prop) : Prop :=
  ∀ (pins : List (Addr × Obj)) (s : Shared) (σ : St) (H : Hp) (xs : List V) (us : List Value) (Q : VK), Inv X pins σ H s → Vals xs us → r xs H Q →
    wpAny (model X.prog X.w) X.A (call f us) (EP X pins σ Q) X.xe s
def tOp (r : R2) (ta tb : TE) : TE := fun σ H Q => ta σ H fun x H1 => tb σ H1 fun y H2 => r x y H2 Q
def tUn (r : V → Hp → VK → Prop) (ta : TE) : TE := fun σ H Q => ta σ H fun x H1 => r x H1 Q
/-- ints in, under C, and a value out -/
def rI (C : Int → Int → Prop) (g : Int → Int → V) : R2 := fun x y H Q => ∃ i j, x = .int i ∧ y = .int j ∧ C i j ∧ Q (g i j) H
def rI0 (g : Int → Int → V) : R2 := fun x y H Q => ∃ i j, x = .int i ∧ y = .int j ∧ Q (g i j) H
def rU (g : Int → V) : V → Hp → VK → Prop := fun x H Q => ∃ i, x = .int i ∧ Q (g i) H

section
variable {X : Cx} {a b c : Expr} {ta tb tc : TE} {pos : Pos}

theorem binT (ha : PE X a ta) (hb : PE X b tb) {pins : List (Addr × Obj)} {s : Shared} {σ : St} {H : Hp} {R : V → V → Hp → Prop} (I : Inv X pins σ H s)
    (h : ta σ H fun x H1 => tb σ H1 fun y H2 => R x y H2) {Q : Value → Shared → Prop} {f : Value → Value → Sem Value}
    (hf : ∀ v u s2 x y H2, Inv X pins σ H2 s2 → RelV x v → RelV y u → R x y H2 → wpAny (model X.prog X.w) X.A (f v u) Q X.xe s2) :
    wpAny (model X.prog X.w) X.A (eval a X.env) (fun v s₁ => wpAny (model X.prog X.w) X.A (eval b X.env) (fun u s₂ => wpAny (model X.prog X.w) X.A (f v u) Q X.xe s₂) X.xe s₁) X.xe s := by
  refine thn (ha pins s σ H _ I h) fun v s1 ⟨x, H1, I1, r1, q1⟩ => ?_
  refine thn (hb pins s1 σ H1 _ I1 q1) fun u s2 ⟨y, H2, I2, r2, q2⟩ => ?_
  exact hf v u s2 x y H2 I2 r1 r2 q2

theorem pe_op {op : Operator} {r : R2} (ho : OpR X (binaryOp op) r) (ha : PE X a ta) (hb : PE X b tb) : PE X (.BinOp a op b pos) (tOp r ta tb) := by
  constructor; intro pins s σ H Q I h
  exact wpAny_BinOp (binT ha hb I h fun v u s2 x y H2 I2 rx ry q => ho pins s2 σ H2 x y v u Q I2 rx ry q)
theorem pe_un {op : UnaryOp} {r : V → Hp → VK → Prop} (ho : UnR X (unaryOp op) r) (ha : PE X a ta) : PE X (.UnaryOp op a pos) (tUn r ta) := by
  constructor; intro pins s σ H Q I h
  exact UnaryOp_ (thn (ha pins s σ H _ I h) fun v s1 ⟨x, H1, I1, r1, q1⟩ => ho pins s1 σ H1 x v Q I1 r1 q1)
/-! ### ints -/
theorem opI {f : Value → Value → Sem Value} {C : Int → Int → Prop} {g : Int → Int → Int}
    (rule : ∀ (i j : Int) (t u : Tok) (s : Shared) (Q : Value → Shared → Prop) (E : Value → Shared → Prop), C i j → Q (.int (g i j) s.toks) { s with toks := s.toks + 1 } → wpAny (model X.prog X.w) X.A (f (.int i t) (.int j u)) Q E s) :
    OpR X f (rI C fun i j => .int (g i j)) := by
  intro pins s σ H x y v u Q I rx ry h
  obtain ⟨i, j, rfl, rfl, hc, q⟩ := h
  obtain ⟨t, rfl⟩ := rx
  obtain ⟨t', rfl⟩ := ry
  exact rule i j t t' s _ _ hc ⟨.int (g i j), H, I.tok _, ⟨_, rfl⟩, q⟩
theorem opI0 {f : Value → Value → Sem Value} {g : Int → Int → Int}
    (rule : ∀ (i j : Int) (t u : Tok) (s : Shared) (Q : Value → Shared → Prop) (E : Value → Shared → Prop), Q (.int (g i j) s.toks) { s with toks := s.toks + 1 } → wpAny (model X.prog X.w) X.A (f (.int i t) (.int j u)) Q E s) :
    OpR X f (rI0 fun i j => .int (g i j)) := by
  intro pins s σ H x y v u Q I rx ry h
  obtain ⟨i, j, rfl, rfl, q⟩ := h
  obtain ⟨t, rfl⟩ := rx
  obtain ⟨t', rfl⟩ := ry
  exact rule i j t t' s _ _ ⟨.int (g i j), H, I.tok _, ⟨_, rfl⟩, q⟩
theorem opB0 {f : Value → Value → Sem Value} {g : Int → Int → Bool}
    (rule : ∀ (i j : Int) (t u : Tok) (s : Shared) (Q : Value → Shared → Prop) (E : Value → Shared → Prop), Q (.bool (g i j)) s → wpAny (model X.prog X.w) X.A (f (.int i t) (.int j u)) Q E s) :
    OpR X f (rI0 fun i j => .bl (g i j)) := by
  intro pins s σ H x y v u Q I rx ry h
  obtain ⟨i, j, rfl, rfl, q⟩ := h
  obtain ⟨t, rfl⟩ := rx
  obtain ⟨t', rfl⟩ := ry
  exact rule i j t t' s _ _ ⟨.bl (g i j), H, I, rfl, q⟩

def CDiv (i j : Int) : Prop := 0 < j ∧ j < 1073741824
def CPow (i j : Int) : Prop := 0 ≤ j ∧ j ≤ 1000000 ∧ i.natAbs < 2 ^ 64
def CMul (i j : Int) : Prop := (-(2 ^ 64) < i ∧ i < 2 ^ 64) ∨ (-(2 ^ 64) < j ∧ j < 2 ^ 64)
theorem CMul.ok {i j : Int} (h : CMul i j) : IntMulOk i j := by
  rcases h with ⟨h1, h2⟩ | ⟨h1, h2⟩
  · exact .of_left (intBits_le_64 h1 h2)
  · exact .of_right (intBits_le_64 h1 h2)
theorem op_add : OpR X (binaryOp .Add) (rI0 fun i j => .int (i + j)) := opI0 fun _ _ _ _ _ _ _ q => add_int q
theorem op_sub : OpR X (binaryOp .Sub) (rI0 fun i j => .int (i - j)) := opI0 fun _ _ _ _ _ _ _ q => sub_int q
theorem op_mul : OpR X (binaryOp .Mult) (rI CMul fun i j => .int (i * j)) := opI fun _ _ _ _ _ _ _ hc q => mul_int q hc.ok
/-- // by a positive divisor -/
theorem op_fdiv : OpR X (binaryOp .FloorDiv) (rI CDiv fun i j => .int (i / j)) := opI fun i j _ _ _ _ _ hc q => by
  have h1 : (0 : Int) < j := hc.1
  have h2 : j < 1073741824 := hc.2
  exact floordiv_int (by omega) (by rw [Int.fdiv_eq_ediv_of_nonneg i (by omega)]; exact q) (.inl (PyProof.noPylong_small (by omega)))
/-- % by a positive divisor of any size -/
theorem op_mod : OpR X (binaryOp .Mod) (rI (fun _ j => 0 < j) fun i j => .int (i % j)) := opI fun i j _ _ _ _ _ hc q => by
  have h1 : (0 : Int) < j := hc
  exact mod_int' (by omega) (by rw [Int.fmod_eq_emod_of_nonneg i (by omega)]; exact q)
theorem op_pow : OpR X (binaryOp .Pow) (rI CPow fun i j => .int (i ^ j.toNat)) := opI fun _ _ _ _ _ _ _ hc q => pow_int_small hc.1 hc.2.1 hc.2.2 q
theorem unI {f : Value → Sem Value} {g : Int → Int}
    (rule : ∀ (i : Int) (t : Tok) (s : Shared) (Q : Value → Shared → Prop) (E : Value → Shared → Prop), Q (.int (g i) s.toks) { s with toks := s.toks + 1 } → wpAny (model X.prog X.w) X.A (f (.int i t)) Q E s) :
    UnR X f (rU fun i => .int (g i)) := by
  intro pins s σ H x v Q I rx h
  obtain ⟨i, rfl, q⟩ := h
  obtain ⟨t, rfl⟩ := rx
  exact rule i t s _ _ ⟨.int (g i), H, I.tok _, ⟨_, rfl⟩, q⟩
theorem un_neg : UnR X (unaryOp .USub) (rU fun i => .int (-i)) := unI fun _ _ _ _ _ q => neg_int q
/-! ### bools among ints: n += (a < b) -/
end

/-! ### comparisons -/
/-- the scalars that == tells apart as data does -/
def scal : V → V → Bool
  | .non, .non => true | .non, .int _ => true | .int _, .non => true | .non, .bl _ => true | .bl _, .non => true | .non, .str _ => true | .str _, .non => true
  | .int _, .int _ => true | .bl _, .bl _ => true | .str _, .str _ => true | .byt _, .byt _ => true
  | .int _, .str _ => true | .str _, .int _ => true | .bl _, .str _ => true | .str _, .bl _ => true
  | _, _ => false
def rEq : R2 := fun x y H Q => scal x y = true ∧ Q (.bl (decide (x = y))) H
def rNe : R2 := fun x y H Q => scal x y = true ∧ Q (.bl (!decide (x = y))) H

theorem dec_int {i j : Int} : decide (V.int i = V.int j) = (i == j) := by
  rw [Bool.eq_iff_iff]
  simp
theorem dec_bl {i j : Bool} : decide (V.bl i = V.bl j) = (i == j) := by
  rw [Bool.eq_iff_iff]
  simp
theorem dec_str {i j : Str} : decide (V.str i = V.str j) = (i == j) := by
  rw [Bool.eq_iff_iff]
  simp
theorem dec_byt {i j : Array UInt8} : decide (V.byt i = V.byt j) = (i.toList == j.toList) := by
  rw [Bool.eq_iff_iff]
  cases i
  cases j
  simp

section
variable {X : Cx} {a b c : Expr} {ta tb tc : TE} {pos : Pos}
theorem fin_bl {pins : List (Addr × Obj)} {σ : St} {H : Hp} {s : Shared} {Q : VK} {k k' : Bool} (I : Inv X pins σ H s) (q : Q (.bl k) H) (e : k = k') : EP X pins σ Q (.bool k') s := by
  subst e
  exact ⟨.bl k, H, I, rfl, q⟩
theorem op_eq : OpR X (compareOp .Eq) rEq := by
  intro pins s σ H x y v u Q I rx ry h
  obtain ⟨hs, q⟩ := h
  cases x with
  | non =>
    cases rx
    cases y with
    | non => cases ry; exact PySem.EqNone.eq_none_none (fin_bl I q (by simp))
    | bl j => cases ry; exact PySem.EqNone.eq_none_bool (fin_bl I q (by simp))
    | int j => obtain ⟨t', rfl⟩ := ry; exact PySem.EqNone.eq_none_int (fin_bl I q (by simp))
    | str j => obtain ⟨t', rfl⟩ := ry; exact PySem.EqNone.eq_none_str (fin_bl I q (by simp))
    | _ => exact absurd (show false = true from hs) Bool.false_ne_true
  | bl i =>
    cases rx
    cases y with
    | non => cases ry; exact PySem.EqNone.eq_bool_none (fin_bl I q (by simp))
    | bl j => cases ry; exact eq_bool (fin_bl I q dec_bl)
    | str j => obtain ⟨t', rfl⟩ := ry; exact PySem.EqMixed.eq_bool_str (fin_bl I q (by simp))
    | _ => exact absurd (show false = true from hs) Bool.false_ne_true
  | int i =>
    obtain ⟨t, rfl⟩ := rx
    cases y with
    | non => cases ry; exact PySem.EqNone.eq_int_none (fin_bl I q (by simp))
    | int j => obtain ⟨t', rfl⟩ := ry; exact eq_int (fin_bl I q dec_int)
    | str j => obtain ⟨t', rfl⟩ := ry; exact PySem.EqMixed.eq_int_str (fin_bl I q (by simp))
    | _ => exact absurd (show false = true from hs) Bool.false_ne_true
  | str i =>
    obtain ⟨t, rfl⟩ := rx
    cases y with
    | non => cases ry; exact PySem.EqNone.eq_str_none (fin_bl I q (by simp))
    | bl j => cases ry; exact PySem.EqMixed.eq_str_bool (fin_bl I q (by simp))
    | int j => obtain ⟨t', rfl⟩ := ry; exact PySem.EqMixed.eq_str_int (fin_bl I q (by simp))
    | str j => obtain ⟨t', rfl⟩ := ry; exact eq_str (fin_bl I q dec_str)
    | _ => exact absurd (show false = true from hs) Bool.false_ne_true
  | byt i =>
    obtain ⟨t, rfl⟩ := rx
    cases y with
    | byt j => obtain ⟨t', rfl⟩ := ry; exact PySem.W.eq_bytes (fin_bl I q dec_byt)
    | _ => exact absurd (show false = true from hs) Bool.false_ne_true
  | _ => cases y <;> exact absurd (show false = true from hs) Bool.false_ne_true
theorem op_ne : OpR X (compareOp .NotEq) rNe := by
  intro pins s σ H x y v u Q I rx ry h
  obtain ⟨hs, q⟩ := h
  cases x with
  | non =>
    cases rx
    cases y with
    | non => cases ry; exact PySem.EqNone.ne_none_none (fin_bl I q (by simp))
    | bl j => cases ry; exact PySem.EqNone.ne_none_bool (fin_bl I q (by simp))
    | int j => obtain ⟨t', rfl⟩ := ry; exact PySem.EqNone.ne_none_int (fin_bl I q (by simp))
    | str j => obtain ⟨t', rfl⟩ := ry; exact PySem.EqNone.ne_none_str (fin_bl I q (by simp))
    | _ => exact absurd (show false = true from hs) Bool.false_ne_true
  | bl i =>
    cases rx
    cases y with
    | non => cases ry; exact PySem.EqNone.ne_bool_none (fin_bl I q (by simp))
    | bl j => cases ry; exact ne_bool (fin_bl I q (congrArg not dec_bl))
    | str j => obtain ⟨t', rfl⟩ := ry; exact PySem.EqMixed.ne_bool_str (fin_bl I q (by simp))
    | _ => exact absurd (show false = true from hs) Bool.false_ne_true
  | int i =>
    obtain ⟨t, rfl⟩ := rx
    cases y with
    | non => cases ry; exact PySem.EqNone.ne_int_none (fin_bl I q (by simp))
    | int j => obtain ⟨t', rfl⟩ := ry; exact ne_int (fin_bl I q (congrArg not dec_int))
    | str j => obtain ⟨t', rfl⟩ := ry; exact PySem.EqMixed.ne_int_str (fin_bl I q (by simp))
    | _ => exact absurd (show false = true from hs) Bool.false_ne_true
  | str i =>
    obtain ⟨t, rfl⟩ := rx
    cases y with
    | non => cases ry; exact PySem.EqNone.ne_str_none (fin_bl I q (by simp))
    | bl j => cases ry; exact PySem.EqMixed.ne_str_bool (fin_bl I q (by simp))
    | int j => obtain ⟨t', rfl⟩ := ry; exact PySem.EqMixed.ne_str_int (fin_bl I q (by simp))
    | str j => obtain ⟨t', rfl⟩ := ry; exact ne_str (fin_bl I q (congrArg not dec_str))
    | _ => exact absurd (show false = true from hs) Bool.false_ne_true
  | byt i =>
    obtain ⟨t, rfl⟩ := rx
    cases y with
    | byt j => obtain ⟨t', rfl⟩ := ry; exact PySem.W.ne_bytes (fin_bl I q (congrArg not dec_byt))
    | _ => exact absurd (show false = true from hs) Bool.false_ne_true
  | _ => cases y <;> exact absurd (show false = true from hs) Bool.false_ne_true

theorem op_lt : OpR X (compareOp .Lt) (rI0 fun i j => .bl (decide (i < j))) := opB0 fun _ _ _ _ _ _ _ q => lt_int q
theorem op_gt : OpR X (compareOp .Gt) (rI0 fun i j => .bl (decide (j < i))) := opB0 fun _ _ _ _ _ _ _ q => gt_int q
/-- is None, is not None: the right side a value none -/
theorem op_isN : OpR X (compareOp .Is) (fun x y H Q => y = .non ∧ Q (.bl (decide (x = .non))) H) := by
  intro pins s σ H x y v u Q I rx ry h
  obtain ⟨rfl, q⟩ := h
  cases ry
  refine is_none_gen (fin_bl I q ?_)
  cases x <;> first
    | (cases rx; rfl)
    | (obtain ⟨t, rfl⟩ := rx; rfl)
theorem op_notN : OpR X (compareOp .IsNot) (fun x y H Q => y = .non ∧ Q (.bl (!decide (x = .non))) H) := by
  intro pins s σ H x y v u Q I rx ry h
  obtain ⟨rfl, q⟩ := h
  cases ry
  refine isnot_none_gen (fin_bl I q ?_)
  cases x <;> first
    | (cases rx; rfl)
    | (obtain ⟨t, rfl⟩ := rx; rfl)

/-- two rules for one operation: by cases -/
theorem OpR.or {f : Value → Value → Sem Value} {r r' : R2} (h : OpR X f r) (h' : OpR X f r') : OpR X f (fun x y H Q => r x y H Q ∨ r' x y H Q) := by
  intro pins s σ H x y v u Q I rx ry q
  rcases q with q | q
  · exact h pins s σ H x y v u Q I rx ry q
  · exact h' pins s σ H x y v u Q I rx ry q

theorem nomark (b : Expr) {op : CmpOp} (h : op ≠ .In := by decide) (h2 : op ≠ .NotIn := by decide) : behindInMarks op b = false := by
  have e1 : (op == CmpOp.In) = false := by cases op <;> first | rfl | exact absurd rfl h
  have e2 : (op == CmpOp.NotIn) = false := by cases op <;> first | rfl | exact absurd rfl h2
  cases b <;> simp [behindInMarks, e1, e2]
/-- a comparison as a value; hm: nomark b, or (for in, not in) by with_unfolding_all rfl -/
theorem pe_cmpR {op : CmpOp} {r : R2} (ho : OpR X (compareOp op) r) (ha : PE X a ta) (hb : PE X b tb) (hm : behindInMarks op b = false) : PE X (.Compare a [op] [b] pos) (tOp r ta tb) := by
  constructor; intro pins s σ H Q I h
  exact wpAny_Compare1 (binT ha hb I h fun v u s2 x y H2 I2 rx ry q => ho pins s2 σ H2 x y v u Q I2 rx ry q) hm
/-- a reading of a value as a test -/
def tTest (t : TE) : TT := fun σ H Q => t σ H fun x H' => ∃ k, x = .bl k ∧ Q k H'
theorem pt_cmpR {op : CmpOp} {r : R2} (ho : OpR X (compareOp op) r) (ha : PE X a ta) (hb : PE X b tb) (hm : behindInMarks op b = false) : PT X (.Compare a [op] [b] pos) (tTest (tOp r ta tb)) := by
  constructor; intro pins s σ H Q I h
  refine wpAny_isTrue_Compare1 (thn (ha pins s σ H _ I h) fun v s1 ⟨x, H1, I1, r1, q1⟩ => thn (hb pins s1 σ H1 _ I1 q1) fun u s2 ⟨y, H2, I2, r2, q2⟩ =>
    thn (ho pins s2 σ H2 x y v u _ I2 r1 r2 q2) fun c s3 ⟨z, H3, I3, r3, k, e, q3⟩ => ?_) hm
  subst e
  cases r3
  exact wpAny_truthy_bool ⟨H3, I3, q3⟩
/-! ### truth -/
theorem line63 : (sizeLine : Nat) < 2 ^ 63 := by rw [sizeLine_eq]; decide
/-! ### strs and bytes -/
/-! ### scalar builtins, by CallR -/
theorem vals1 {x : V} {us : List Value} (r : Vals [x] us) : ∃ u, us = [u] ∧ RelV x u := by
  cases r with
  | cons r1 r2 => cases r2; exact ⟨_, rfl, r1⟩
theorem vals2 {x y : V} {us : List Value} (r : Vals [x, y] us) : ∃ u w', us = [u, w'] ∧ RelV x u ∧ RelV y w' := by
  cases r with
  | cons r1 r2 =>
    cases r2 with
    | cons r3 r4 => cases r4; exact ⟨_, _, rfl, r1, r3⟩
theorem call_max2 (hc : X.calm = true) : CallR X (.builtin "max") (fun xs H Q => ∃ i j, xs = [.int i, .int j] ∧ Q (.int (if j > i then j else i)) H) := by
  intro pins s σ H xs us Q I r h
  obtain ⟨i, j, rfl, q⟩ := h
  obtain ⟨u, w', rfl, ⟨t, rfl⟩, ⟨t', rfl⟩⟩ := vals2 r
  refine max_two_ints (I.ok.hd hc) fun h' tk k => ⟨_, H, I.kept k, ?_, q⟩
  by_cases hj : j > i
  · rw [if_pos hj, if_pos hj]; exact ⟨_, rfl⟩
  · rw [if_neg hj, if_neg hj]; exact ⟨_, rfl⟩
theorem call_min2 (hc : X.calm = true) : CallR X (.builtin "min") (fun xs H Q => ∃ i j, xs = [.int i, .int j] ∧ Q (.int (if j < i then j else i)) H) := by
  intro pins s σ H xs us Q I r h
  obtain ⟨i, j, rfl, q⟩ := h
  obtain ⟨u, w', rfl, ⟨t, rfl⟩, ⟨t', rfl⟩⟩ := vals2 r
  refine min_two_ints (I.ok.hd hc) fun h' tk k => ⟨_, H, I.kept k, ?_, q⟩
  by_cases hj : j < i
  · rw [if_pos hj, if_pos hj]; exact ⟨_, rfl⟩
  · rw [if_neg hj, if_neg hj]; exact ⟨_, rfl⟩
/-- len of a str, a bytes, a list, a tuple -/
def LenV (K : PySem.W.Frag) (x : V) (H : Hp) (n : Nat) : Prop :=
  match x with
  | .str y => y.length ≤ sizeLine ∧ n = y.length
  | .byt y => y.size ≤ sizeLine ∧ n = y.size
  | .ref p => (∃ xs, SqL K H p xs ∧ n = xs.length) ∨ ∃ xs, SqT K H p xs ∧ n = xs.length
  | _ => False
theorem call_len : CallR X (.builtin "len") (fun xs H Q => ∃ x n, xs = [x] ∧ LenV X.K x H n ∧ Q (.int n) H) := by
  intro pins s σ H xs us Q I r h
  obtain ⟨x, n, rfl, e, q⟩ := h
  obtain ⟨u, rfl, rx⟩ := vals1 r
  have hl := line63
  have hs : sizeLine = 16777216 := sizeLine_eq
  cases x with
  | str y =>
    obtain ⟨t, rfl⟩ := rx
    obtain ⟨hy, e'⟩ : y.length ≤ sizeLine ∧ n = y.length := e
    subst e'
    exact len_str (by omega) ⟨.int _, H, I.tok _, ⟨_, rfl⟩, q⟩
  | byt y =>
    obtain ⟨t, rfl⟩ := rx
    obtain ⟨hy, e'⟩ : y.size ≤ sizeLine ∧ n = y.size := e
    subst e'
    exact PySem.W.len_bytes (by omega) ⟨.int _, H, I.tok _, ⟨_, rfl⟩, q⟩
  | ref p =>
    cases rx
    have e' : (∃ xs, SqL X.K H p xs ∧ n = xs.length) ∨ ∃ xs, SqT X.K H p xs ∧ n = xs.length := e
    rcases e' with ⟨xs, hx, e'⟩ | ⟨xs, hx, e'⟩
    · subst e'
      obtain ⟨its, r', pl, hz⟩ := I.list hx
      have hlen := r'.length
      exact Calls.call_len_list pl.isList (by simp only [List.size_toArray]; omega) ⟨.int xs.length, H, I.tok _, ⟨_, by simp only [List.size_toArray]; rw [hlen]⟩, q⟩
    · subst e'
      obtain ⟨its, r', pl, hz⟩ := I.tuple hx
      have hlen := r'.length
      exact len_tuple pl (by simp only [List.size_toArray]; omega) ⟨.int xs.length, H, I.tok _, ⟨_, by simp only [List.size_toArray]; rw [hlen]⟩, q⟩
  | _ => exact (show False from e).elim
end
end L2

namespace L2
open PySem PySem.Spec PyProof.Rows

/-! ### an instance, its attributes a map -/
structure ObjM (h : Heap) (x dx C : Addr) (mA : Str → Option Value) : Prop where
  obj : h.get? x = some (PySem.W.instObj C dx)
  ns : h.Ns1 dx mA
  ne : dx ≠ x

theorem lookIn_ns {h : Heap} {dx : Addr} {mA : Str → Option Value} (n : h.Ns1 dx mA) : ∃ od, h.get? dx = some od ∧ ∀ name, PySem.W.lookIn name od = some (mA name) := by
  obtain ⟨o, es, ep, ho, hd, hk, _, hm⟩ := n
  refine ⟨o, ho, fun name => ?_⟩
  have e := hm name
  unfold nsFind findBy at e
  rw [← Array.find?_toList] at e
  unfold PySem.W.lookIn
  rw [hd]
  dsimp only
  split
  · rename_i y q
    rw [q] at e
    exact congrArg some e
  · rename_i q
    rw [q] at e
    have a : es.toList.any (·.refKey) = false := by
      rw [List.any_eq_false]
      intro y hy
      obtain ⟨z, t, hkey⟩ := hk y (Array.mem_toList_iff.mp hy)
      simp [DictEntry.refKey, hkey]
    have a' : ¬ es.toList.any (·.refKey) = true := by rw [a]; exact Bool.false_ne_true
    rw [if_neg a']
    exact congrArg some e

theorem ObjM.look {h : Heap} {x dx C : Addr} {mA : Str → Option Value} (I : ObjM h x dx C mA) : ∃ od, PySem.W.InstAt h x (PySem.W.instObj C dx) C (some od) ∧ ∀ name, PySem.W.lookIn name od = some (mA name) :=
  let ⟨od, ho, hl⟩ := lookIn_ns I.ns
  ⟨od, ⟨I.obj, rfl, rfl, ho⟩, hl⟩

section
variable {prog : Program} {w : World} {A : Around} {E : Value → Shared → Prop} {s : Shared} {K : PySem.W.Frag} {x dx C f : Addr} {mA : Str → Option Value} {name : Str} {v : Value}

end

/-! ### the attributes as a list of pairs -/
theorem RelO.some_of {v : V} {o : Option Value} (r : RelO (some v) o) : ∃ u, o = some u ∧ RelV v u := by
  cases o with
  | none => exact (show False from r).elim
  | some u => exact ⟨u, rfl, r⟩
section
variable {P : Program} {w : World} {H H' : Hp} {h h' : Heap} {a C dx : Addr} {fs fs' : List (Str × V)}
theorem ins_get (hok : HOk P w H h) (e : H a = some (.ins C dx fs)) : ∃ mA, ObjM h a dx C mA ∧ (∀ f, RelO (fs.lookup f) (mA f)) ∧ PySem.Within mA (fs.map (·.1)) ∧ fs.length ≤ 1000 ∧ H dx = some (.own a) := by
  obtain ⟨d, z, ne, ob, mA, n, r, q⟩ := (show ObjOk P w H h a (.ins C dx fs) from hok a _ e)
  exact ⟨mA, ⟨ob, n, ne⟩, r, q, z, d⟩
end

/-! ### what of the text a class must have -/
structure Cls (K : PySem.W.Frag) (C : Addr) : Prop where
  pg : PySem.W.plainGet K C Str.empty = true
  hd : PySem.W.hasDictIn K C = true
  po : PySem.W.plainOver K C = true
  sa : PySem.W.findIn K (.ref C) "__setattr__" = some (some (.builtin "object.__setattr__"))
theorem Cls.get {K : PySem.W.Frag} {C : Addr} (c : Cls K C) (f : Str) : PySem.W.plainGet K C f = true := c.pg
/-- a constant of the class -/
structure Con (K : PySem.W.Frag) (C : Addr) (f : Str) (v : V) (u : Value) : Prop where
  at_ : PySem.W.findIn K (.ref C) f = some (some u)
  rel : RelV v u
  get : PySem.W.specialIn K u "__get__" = some none
  cp : PySem.W.copiedNames.contains f = false
/-- a method: a plain def of the class or of one above it -/
structure Meth (K : PySem.W.Frag) (C : Addr) (m : Str) (f : Addr) : Prop where
  at_ : PySem.W.findIn K (.ref C) m = some (some (.ref f))
  fn : PySem.W.isFn K (.ref f) = true
  kp : PySem.W.keepIn K (.ref f) = true

section
variable {X : Cx} {pins : List (Addr × Obj)} {σ : St} {H : Hp} {s : Shared} {a C dx : Addr} {fs : List (Str × V)} {f : Str} {v : V} {A : Around} {E : Value → Shared → Prop}

/-- a new instance, tracked, without attributes -/
theorem Inv.made (I : Inv X pins σ H s) : Inv X pins σ (upd (upd H s.heap.objs.size (.own (s.heap.objs.size + 1))) (s.heap.objs.size + 1) (.ins C s.heap.objs.size []))
    { s with heap := (s.heap.push PySem.W.emptyDict).push (PySem.W.instObj C s.heap.objs.size) } := by
  have e1 : (s.heap.push PySem.W.emptyDict).get? s.heap.objs.size = some PySem.W.emptyDict := Heap.get?_push_size s.heap rfl
  have e2 : ((s.heap.push PySem.W.emptyDict).push (PySem.W.instObj C s.heap.objs.size)).get? (s.heap.objs.size + 1) = some (PySem.W.instObj C s.heap.objs.size) := by
    have := Heap.get?_push_size (s.heap.push PySem.W.emptyDict) (o := PySem.W.instObj C s.heap.objs.size) rfl
    rwa [Heap.size_push] at this
  have e3 : (s.heap.push PySem.W.emptyDict).Ns s.heap.objs.size (fun _ => none) := ⟨PySem.W.emptyDict, #[], _, e1, rfl, (fun e he => absurd he (by simp)), fun _ => rfl⟩
  have I1 := I.laid (a := s.heap.objs.size) (o := .own (s.heap.objs.size + 1)) (h' := s.heap.push PySem.W.emptyDict) (t' := s.toks) (fun b u q => Heap.get?_push_of_some _ q) (Nat.le_refl _) ⟨_, e1⟩
  refine I1.laid (a := s.heap.objs.size + 1) (o := .ins C s.heap.objs.size []) (t' := s.toks) (fun b u q => Heap.get?_push_of_some _ q) (Nat.le_of_eq (Heap.size_push _ _)) ?_
  have ne : s.heap.objs.size ≠ s.heap.objs.size + 1 := Nat.ne_of_lt (Nat.lt_succ_self _)
  refine ⟨by rw [upd_ne ne, upd_same], Nat.zero_le _, ne, e2, fun _ => none, (Heap.Ns1.of_empty e3).at fun o q => Heap.get?_push_of_some _ q, fun _ => True.intro, fun y hy => absurd rfl hy⟩

end

/-! ### readings and rules -/
section
variable {X : Cx} {o e value : Expr} {f : Str} {pos pos' tpos : Pos} {ta tv : TE}
end

/-! ### isinstance -/
section
variable {X : Cx} {pins : List (Addr × Obj)} {σ : St} {H : Hp} {s : Shared} {A : Around} {E : Value → Shared → Prop} {Q : Value → Shared → Prop} {c : Value} {b : Bool}
/-- the type of a value, as the fragment's deciders take it; for an instance its class -/
inductive TyOf (K : PySem.W.Frag) (H : Hp) : V → Value → Prop where
  | non : TyOf K H .non (.type "NoneType")
  | bl (x : Bool) : TyOf K H (.bl x) (.type "bool")
  | int (i : Int) : TyOf K H (.int i) (.type "int")
  | str (x : Str) : TyOf K H (.str x) (.type "str")
  | flt (x : UInt64) : TyOf K H (.flt x) (.type "float")
  | lst {a : Addr} {xs : List V} (e : H a = some (.lst xs)) : TyOf K H (.ref a) (.type "list")
  | frz {a : Addr} {o : Obj} {xs : List V} (e : H a = some (.frz o (.lst xs))) : TyOf K H (.ref a) (.type "list")
  | tup {a : Addr} {xs : List V} (e : H a = some (.tup xs)) : TyOf K H (.ref a) (.type "tuple")
  | dK {a : Addr} {kvs : List (Key × V)} (e : H a = some (.dK kvs)) : TyOf K H (.ref a) (.type "dict")
  | dT {a : Addr} {kvs : List (List Key × V)} (e : H a = some (.dT kvs)) : TyOf K H (.ref a) (.type "dict")
  | ins {a C dx : Addr} {fs : List (Str × V)} (e : H a = some (.ins C dx fs)) (cl : Cls K C) (ha : PySem.W.findIn K (.ref C) "__class__" = some (some (.builtin "object.__class__")))
      (hn : PySem.W.specialIn K (.builtin "object.__class__") "__get__" = some (some (.builtin "getset_descriptor.__get__"))) (htk : PySem.W.takesIn K (.builtin "object.__class__") = some true)
      (hm : PySem.W.mroIn K C (.type "object") = some true) : TyOf K H (.ref a) (.ref C)
/-- isinstance(x, c) for one class c, a built-in or an own one: kitOne's answer -/
theorem isinst_ok {x : V} {u t : Value} (I : Inv X pins σ H s) (rx : RelV x u) (ty : TyOf X.K H x t) (e : PySem.W.kitOne X.K t c = some b) (h : ∀ tk, Q (.bool b) { s with toks := tk }) :
    wpAny (model X.prog X.w) A (call (.builtin "isinstance") [u, c]) Q E s := by
  cases ty with
  | non => cases (show u = Value.none from rx); exact PySem.W.kia_one PySem.W.kitx_none I.kIn True.intro e (fun z => nomatch z) h
  | bl y => cases (show u = Value.bool y from rx); exact PySem.W.kia_one PySem.W.kitx_bool I.kIn True.intro e (fun z => nomatch z) h
  | int i => obtain ⟨t, q⟩ := (show ∃ t, u = Value.int i t from rx); cases q; exact PySem.W.kia_one PySem.W.kitx_int I.kIn True.intro e (fun z => nomatch z) h
  | str y => obtain ⟨t, q⟩ := (show ∃ t, u = Value.str y t from rx); cases q; exact PySem.W.kia_one PySem.W.kitx_str I.kIn True.intro e (fun z => nomatch z) h
  | flt y => obtain ⟨t, q⟩ := (show ∃ t, u = Value.float y t from rx); cases q; exact PySem.W.kia_one PySem.W.kitx_float I.kIn True.intro e (fun z => nomatch z) h
  | @lst a xs ea =>
    cases (show u = Value.ref a from rx)
    obtain ⟨_, _, n, _, h1⟩ := (show ObjOk X.prog X.w H s.heap a (.lst xs) from I.hok a _ ea)
    exact PySem.W.kia_one PySem.W.kitx_list I.kIn ⟨_, h1, rfl⟩ e (fun z => nomatch z) h
  | @frz a ob xs ea =>
    cases (show u = Value.ref a from rx)
    obtain ⟨_, _, _, n, _, h1⟩ := (show ObjOk X.prog X.w H s.heap a (.frz ob (.lst xs)) from I.hok a _ ea)
    exact PySem.W.kia_one PySem.W.kitx_list I.kIn ⟨_, h1, rfl⟩ e (fun z => nomatch z) h
  | @tup a xs ea =>
    cases (show u = Value.ref a from rx)
    obtain ⟨_, _, _, p⟩ := (show ObjOk X.prog X.w H s.heap a (.tup xs) from I.hok a _ ea)
    obtain ⟨o, h1, h2, _⟩ := p
    exact PySem.W.kia_one PySem.W.kitx_tuple I.kIn ⟨o, h1, h2⟩ e (fun z => nomatch z) h
  | @dK a kvs ea =>
    cases (show u = Value.ref a from rx)
    obtain ⟨_, _, vs, _, p⟩ := (show ObjOk X.prog X.w H s.heap a (.dK kvs) from I.hok a _ ea)
    obtain ⟨o, es, ep, h1, h2, _⟩ := p
    exact PySem.W.kia_one PySem.W.kitx_dict I.kIn ⟨o, h1, h2.1⟩ e (fun z => nomatch z) h
  | @dT a kvs ea =>
    cases (show u = Value.ref a from rx)
    obtain ⟨_, _, xs, _, o, es, ep, h1, h2, _⟩ := (show ObjOk X.prog X.w H s.heap a (.dT kvs) from I.hok a _ ea)
    exact PySem.W.kia_one PySem.W.kitx_dict I.kIn ⟨o, h1, h2.1⟩ e (fun z => nomatch z) h
  | @ins a C dx fs ea cl ha hn htk hm =>
    cases (show u = Value.ref a from rx)
    obtain ⟨mA, O, _⟩ := ins_get I.hok ea
    obtain ⟨od, J, _⟩ := O.look
    exact PySem.W.kia_one (PySem.W.kitx_own (cl.get _) cl.hd ha hn htk hm) I.kIn J e (fun z => nomatch z) h
end
end L2

namespace L2
open PySem PySem.Spec PyProof.Rows

/-! ### room -/
structure Room (k : Nat) (A : Around) : Prop where
  hd : A.handled = none
  dp : A.depth + 3 * k + 5 < recursionLimit
  un : A.units + 16 * k + 200 < cLine
theorem Room.mono {j k : Nat} {A : Around} (r : Room k A) (h : j ≤ k) : Room j A := ⟨r.hd, by have := r.dp; omega, by have := r.un; omega⟩
theorem Room.deeper {k : Nat} {A : Around} (r : Room (k + 1) A) (env : Env) : Room k (A.deeper env) :=
  ⟨r.hd, by have := r.dp; show A.depth + 1 + 3 * k + 5 < _; omega, by have := r.un; show A.units + 3 + 16 * k + 200 < _; omega⟩
theorem Room.in1 {k : Nat} {A : Around} (r : Room (k + 1) A) : Room k A.in1 :=
  ⟨r.hd, by have := r.dp; show A.depth + 3 * k + 5 < _; omega, by have := r.un; show A.units + 1 + 16 * k + 200 < _; omega⟩
theorem Room.depth {k : Nat} {A : Around} (r : Room k A) : A.depth < recursionLimit := by have := r.dp; omega
theorem Room.units {k : Nat} {A : Around} (r : Room k A) : A.units + 64 < cLine := by have := r.un; omega
/-! ### argument lists and displays -/
def tNil : TA := fun _ H Q => Q [] H
def tCons (ta : TE) (tr : TA) : TA := fun σ H Q => ta σ H fun x H1 => tr σ H1 fun xs H2 => Q (x :: xs) H2
section
variable {X : Cx} {e : Expr} {es : List Expr} {te : TE} {t : TA} {pos : Pos}
theorem pa_nil : PA X [] tNil := ⟨fun _ _ _ _ H Q I h => Calls.spliced_nil ⟨[], H, I, .nil, h⟩⟩
theorem pa_cons (ha : PE X e te) (hr : PA X es t) (hs : starEach (e :: es) X.env = (false, eval e X.env) :: starEach es X.env := by rfl) : PA X (e :: es) (tCons te t) := by
  constructor; intro pos pins s σ H Q I h
  rw [hs]
  show wpAny _ _ (spliced ((false, eval e X.env) :: backTo pos (starEach es X.env))) _ _ s
  refine Calls.spliced_cons (thn (ha pins s σ H _ I h) fun u s1 ⟨x, H1, I1, r1, q1⟩ => ?_)
  exact thn (hr pos pins s1 σ H1 _ I1 q1) fun us s2 ⟨xs, H2, I2, r2, q2⟩ => ⟨x :: xs, H2, I2, .cons r1 r2, q2⟩

/-- a tuple, a list of written items -/
def tTup (t : TA) : TE := fun σ H Q => t σ H fun xs H1 => xs.length ≤ sizeLine ∧ ∀ p, H1 p = none → Q (.ref p) (upd H1 p (.tup xs))
def tLst (t : TA) : TE := fun σ H Q => t σ H fun xs H1 => xs.length ≤ sizeLine ∧ ∀ p, H1 p = none → Q (.ref p) (upd H1 p (.lst xs))
theorem pe_tup {x1} (h : PA X es t) : PE X (.Tuple es x1 pos) (tTup t) := by
  constructor; intro pins s σ H Q I hq
  refine wpAny_Tuple_spliced (thn (h pos pins s σ H _ I hq) fun us s1 ⟨xs, H1, I1, r, z, q⟩ => ⟨by rw [← r.length]; exact z, ?_⟩)
  have hf : H1 s1.heap.objs.size = none := I1.hok.fresh (Nat.le_refl _)
  refine ⟨.ref s1.heap.objs.size, upd H1 s1.heap.objs.size (.tup xs), I1.laid (t' := s1.toks) (fun b u e => Heap.get?_push_of_some _ e) (Nat.le_refl _) ?_, rfl, q _ hf⟩
  exact ⟨z, us, r, ⟨_, Heap.get?_push_size _ rfl, rfl, _, rfl⟩⟩
theorem pe_lst (h : PA X es t) : PE X (.List es pos) (tLst t) := by
  constructor; intro pins s σ H Q I hq
  refine wpAny_List_spliced (thn (h pos pins s σ H _ I hq) fun us s1 ⟨xs, H1, I1, r, z, q⟩ => ⟨by rw [← r.length]; exact z, ?_⟩)
  have hf : H1 s1.heap.objs.size = none := I1.hok.fresh (Nat.le_refl _)
  refine ⟨.ref s1.heap.objs.size, upd H1 s1.heap.objs.size (.lst xs), I1.laid (t' := s1.toks) (fun b u e => Heap.get?_push_of_some _ e) (Nat.le_refl _) ?_, rfl, q _ hf⟩
  exact ⟨z, us, 0, r, Heap.get?_push_size _ rfl⟩
end

/-! ### what a def promises -/
/-- a def's promise: the bound arguments in the parameters' order, the heap, the wanted end, the wanted exception -/
abbrev Sp := List V → Hp → VK → XK → Prop
/-- how an exception lies behind a call (file 08 gives it): the callers' frames, abstract heap and state ahead of the call, the wish, the exception, the state -/
abbrev CXT := List Env → Hp → Shared → XK → Value → Shared → Prop

/-- the state at a call -/
structure Env0 (P : Program) (w : World) (K : PySem.W.Frag) (mg : Str → Option Value) (base : Heap) (A : Around) (outer : List Env) (s : Shared) (H : Hp) : Prop where
  frames : A.frames = some outer
  mod : Mod K mg base
  bs : ∀ b o, base.get? b = some o → s.heap.get? b = some o ∧ H b = none
  bsz : base.objs.size ≤ s.heap.objs.size
  funs : s.heap.FunFrames base outer
  frf : ∀ b ∈ frs outer, H b = none
  hok : HOk P w H s.heap
  bare : AllBare s.gens
/-- a call's end -/
def CE (outer : List Env) (P : Program) (w : World) (H : Hp) (s : Shared) (Q : VK) (u : Value) (s' : Shared) : Prop :=
  ∃ v H', s'.os = s.os ∧ AllBare s'.gens ∧ Un (frs outer) [] H H' s.heap s'.heap ∧ HOk P w H' s'.heap ∧ RelV v u ∧ Q v H'
def CR (CX : CXT) (outer : List Env) (P : Program) (w : World) (H : Hp) (s : Shared) (Q : VK) (E : XK) (r : Result) (s' : Shared) : Prop :=
  match r with
  | .ok (.ret u) => CE outer P w H s Q u s'
  | .ok _ => False
  | .error e => CX outer H s E e s'
structure FnOk (P : Program) (w : World) (K : PySem.W.Frag) (mg : Str → Option Value) (base : Heap) (CX : CXT) (k : Nat) (f : Addr) (fd : FuncData) (ps : List Str) (sp : Sp) : Prop where
  len : ∀ vs H Q E, sp vs H Q E → vs.length = ps.length
  run : ∀ (A : Around) (outer : List Env) (s : Shared) (H : Hp) (args : Args) (us : List Value) (vs : List V) (Q : VK) (E : XK), Room k A → Env0 P w K mg base A outer s H → BindsTo s fd args (ps.zip us) → Vals vs us → sp vs H Q E →
    codeAny (model P w) A (.call (.ref f) args) (CR CX outer P w H s Q E) s
theorem FnOk.mono {P : Program} {w : World} {K : PySem.W.Frag} {mg : Str → Option Value} {base : Heap} {CX : CXT} {j k : Nat} {f : Addr} {fd : FuncData} {ps : List Str} {sp : Sp} (F : FnOk P w K mg base CX j f fd ps sp) (h : j ≤ k) :
    FnOk P w K mg base CX k f fd ps sp := ⟨F.len, fun A outer s H args us vs Q E hr => F.run A outer s H args us vs Q E (hr.mono h)⟩
/-- a weaker promise -/
theorem FnOk.imp {P : Program} {w : World} {K : PySem.W.Frag} {mg : Str → Option Value} {base : Heap} {CX : CXT} {k : Nat} {f : Addr} {fd : FuncData} {ps : List Str} {sp sp' : Sp} (F : FnOk P w K mg base CX k f fd ps sp)
    (h : ∀ vs H Q E, sp' vs H Q E → sp vs H Q E) : FnOk P w K mg base CX k f fd ps sp' :=
  ⟨fun vs H Q E q => F.len vs H Q E (h _ _ _ _ q), fun A outer s H args us vs Q E hr he hb hv hs => F.run A outer s H args us vs Q E hr he hb hv (h _ _ _ _ hs)⟩

theorem Env0.in1 {P : Program} {w : World} {K : PySem.W.Frag} {mg : Str → Option Value} {base : Heap} {A : Around} {outer : List Env} {s : Shared} {H : Hp} (e : Env0 P w K mg base A outer s H) :
    Env0 P w K mg base A.in1 outer s H := ⟨e.frames, e.mod, e.bs, e.bsz, e.funs, e.frf, e.hok, e.bare⟩

section
variable {X : Cx} {pins : List (Addr × Obj)} {σ : St} {H : Hp} {s s' : Shared}
/-- from a body: what a callee wants -/
theorem Inv.env0 (I : Inv X pins σ H s) : Env0 X.prog X.w X.K X.mg X.base X.A X.stack s H :=
  ⟨I.ok.frames, I.ok.mod, I.bs, Nat.le_trans I.ok.bsz I.sz, I.stack, I.stkFree, I.hok, I.bare⟩
/-- behind a call -/
theorem Inv.after {Q : VK} {u : Value} (I : Inv X pins σ H s) (h : CE X.stack X.prog X.w H s Q u s') : EP X pins σ Q u s' := by
  obtain ⟨v, H', os, bare, un, hok, r, q⟩ := h
  obtain ⟨hh, g, d, t, os'⟩ := s'
  obtain rfl : os' = s.os := os
  exact ⟨v, H', I.call (h' := hh) (g' := g) (d' := d) (t' := t) (ch := []) un hok bare (fun b z => absurd z (by simp)), r, q⟩
end

/-! ### calls -/
/-- f(..): the written arguments, then the defaults dvs; E: what is wanted of an exception -/
def tCall (sp : Sp) (dvs : List V) (E : XK) (t : TA) : TE := fun σ H Q => t σ H fun vs H1 => sp (vs ++ dvs) H1 Q E
/-- how the parameters are bound: us the positional arguments, kw the keywords' values by name, ds the defaults that fill up -/
def Binds (K : PySem.W.Frag) (fd : FuncData) (ps : List Str) (ds : List Value) : Prop :=
  ∀ (s : Shared) (us : List Value), K.In s.heap → (us ++ ds).length = ps.length → BindsTo s fd ⟨us, []⟩ (ps.zip (us ++ ds))
/-- every parameter is given -/
theorem Binds.all {K : PySem.W.Frag} {fd : FuncData} {ps : List Str} (h : ∀ us : List Value, us.length = ps.length → bindArgs fd ⟨us, []⟩ = pure (ps.zip us)) : Binds K fd ps [] := fun s us _ hl => by
  rw [List.append_nil] at hl ⊢
  exact .of_eq (h us hl)

/-- an exception of a callee reaches what this body wants of exceptions -/
def Passes (CX : CXT) (X : Cx) (E : XK) : Prop := ∀ (pins : List (Addr × Obj)) (σ : St) (H : Hp) (s : Shared) (e : Value) (s' : Shared), Inv X pins σ H s → CX X.stack H s E e s' → X.xe e s'

section
variable {X : Cx} {CX : CXT} {k : Nat} {f C : Addr} {fd : FuncData} {ps : List Str} {sp : Sp} {dvs : List V} {ds : List Value} {E : XK} {x m : Str} {p pos apos : Pos} {e o : Expr} {es : List Expr} {ta : TE} {t : TA}

/-- the callee runs -/
theorem run_fn {pins : List (Addr × Obj)} {σ : St} {H : Hp} {s : Shared} {Q : VK} {us : List Value} {vs : List V} (F : FnOk X.prog X.w X.K X.mg X.base CX k f fd ps sp) (hr : Room k X.A) (hb : Binds X.K fd ps ds) (hd : Vals dvs ds) (hx : Passes CX X E)
    (I : Inv X pins σ H s) (r : Vals vs us) (h : sp (vs ++ dvs) H Q E) : wpAny (model X.prog X.w) X.A (call (.ref f) us) (EP X pins σ Q) X.xe s := by
  have r2 : Vals (vs ++ dvs) (us ++ ds) := r.append hd
  have hl : (us ++ ds).length = ps.length := by rw [← r2.length]; exact F.len _ _ _ _ h
  refine wpAny_call (codeAny_mono (F.run X.A X.stack s H ⟨us, []⟩ (us ++ ds) (vs ++ dvs) Q E hr I.env0 (hb s us I.kIn hl) r2 h) fun r s' hq => ?_)
  cases r with
  | error e => exact hx pins σ H s e s' I hq
  | ok fl =>
    cases fl with
    | ret u => exact I.after hq
    | next => exact False.elim hq
    | brk => exact False.elim hq
    | cont => exact False.elim hq

theorem pe_call (F : FnOk X.prog X.w X.K X.mg X.base CX k f fd ps sp) (hr : Room k X.A) (hg : Gl X x) (hm : X.mg x = some (.ref f)) (hk : PySem.W.keepIn X.K (.ref f) = true) (hb : Binds X.K fd ps ds) (hd : Vals dvs ds) (hx : Passes CX X E)
    (ha : PA X (e :: es) t) (hdb : (x == ("__debug__" : Str)) = false := by decide) (he : starEach (e :: es) X.env = (false, eval e X.env) :: starEach es X.env := by rfl) (hpl : (backTo pos (starEach es X.env)).any (·.1) = false := by rfl) :
    PE X (.Call (.Name x p) (e :: es) [] pos) (tCall sp dvs E t) := by
  constructor; intro pins s σ H Q I h
  refine wpAny_Call_Name_kw (ld_glob I hg hm ?_ hdb)
  refine PySem.W.callWith_K (h₀ := X.base) I.ok.mod.kin hk (thn (ha pos pins s σ H _ I h) fun us s1 ⟨vs, H1, I1, r, q⟩ => ⟨I1.kIn, ?_⟩) he hpl
  exact run_fn F hr hb hd hx I1 r q
/-- what a class must have to be made -/
structure Mk (K : PySem.W.Frag) (C f : Addr) : Prop where
  makes : PySem.W.makesIn K C = true
  init : PySem.W.findIn K (.ref C) "__init__" = some (some (.ref f))
  fn : PySem.W.isFn K (.ref f) = true
  kp : PySem.W.keepIn K (.ref C) = true

end

/-! ### keywords -/
/-- the values of the keywords, from the left -/
structure PK (X : Cx) (kws : List Keyword) (t : TA) : Prop where
  run : ∀ (pos : Pos) (pins : List (Addr × Obj)) (s : Shared) (σ : St) (H : Hp) (Q : List V → Hp → Prop), Inv X pins σ H s → t σ H Q → wpAny (model X.prog X.w) X.A (evalAll ((backToKw pos (keywordEach kws X.env)).map (·.2))) (AP X pins σ Q) X.xe s
instance {X : Cx} {kws : List Keyword} {t : TA} : CoeFun (PK X kws t) fun _ => ∀ (pos : Pos) (pins : List (Addr × Obj)) (s : Shared) (σ : St) (H : Hp) (Q : List V → Hp → Prop), Inv X pins σ H s → t σ H Q → wpAny (model X.prog X.w) X.A (evalAll ((backToKw pos (keywordEach kws X.env)).map (·.2))) (AP X pins σ Q) X.xe s := ⟨PK.run⟩
section
variable {X : Cx} {CX : CXT} {k : Nat} {f C : Addr} {fd : FuncData} {ps ks : List Str} {sp : Sp} {E : XK} {x m : Str} {p pos apos kpos : Pos} {e o : Expr} {es : List Expr} {kws : List Keyword} {te ta : TE} {t tk : TA} {nm : Option Str}
/-- how a call with keywords binds: g puts the positional values us and the keywords' values ws (names ks) in the parameters' order, defaults among them -/
structure KBinds (K : PySem.W.Frag) (fd : FuncData) (ps ks : List Str) (g : List Value → List Value → List Value) (gV : List V → List V → List V) : Prop where
  to : ∀ (s : Shared) (us ws : List Value), K.In s.heap → (g us ws).length = ps.length → BindsTo s fd ⟨us, ks.zip ws⟩ (ps.zip (g us ws))
  rel : ∀ {vs : List V} {us : List Value} {zs : List V} {ws : List Value}, Vals vs us → Vals zs ws → Vals (gV vs zs) (g us ws)
variable {g : List Value → List Value → List Value} {gV : List V → List V → List V}
end

/-! ### a def's body keeps its promise -/
/-- names: the parameters first -/
structure FnScope (N P : List Str) (sc : Scope) : Prop where
  kind : sc.kind = .function
  co : sc.isCoroutine = false
  gen : sc.isGenerator = false
  nd : N.Nodup
  pre : N.take P.length = P
  par : ∀ x ∈ P, sc.names.lookup x = some .local ∨ sc.names.lookup x = some .cell
  nofree : ∀ y ∈ sc.names, y.2 ≠ .free

theorem bindL_out {kindOf : Str → Option NameKind} {x : Str} : ∀ {binds : List (Str × Value)} {m : Str → Option Value}, (∀ v, (x, v) ∉ binds) → bindL kindOf binds m x = m x
  | [], _, _ => rfl
  | (n, v) :: r, m, h => by
    unfold bindL
    rw [bindL_out fun w hw => h w (List.mem_cons_of_mem _ hw)]
    split
    · have : x ≠ n := by rintro rfl; exact h v List.mem_cons_self
      simp [this]
    · rfl
theorem bindC_out {kindOf : Str → Option NameKind} {x : Str} : ∀ {binds : List (Str × Value)} {m : Str → Option Value}, (∀ v, (x, v) ∉ binds) → bindC kindOf binds m x = m x
  | [], _, _ => rfl
  | (n, v) :: r, m, h => by
    unfold bindC
    rw [bindC_out fun w hw => h w (List.mem_cons_of_mem _ hw)]
    split
    · rfl
    · have : x ≠ n := by rintro rfl; exact h v List.mem_cons_self
      simp [this]
theorem bindL_get {kindOf : Str → Option NameKind} {x : Str} {v : Value} : ∀ {P : List Str} {vs : List Value} {i : Nat} {m : Str → Option Value}, P.Nodup → P[i]? = some x → vs[i]? = some v → kindOf x = some .local →
    bindL kindOf (P.zip vs) m x = some v
  | [], _, _, _, _, h, _, _ => by simp at h
  | _ :: _, [], _, _, _, _, h, _ => by simp at h
  | p :: P, w :: vs, 0, m, nd, h1, h2, hk => by
    simp at h1 h2; subst h1; subst h2
    show bindL kindOf ((p, w) :: P.zip vs) m p = _
    unfold bindL
    rw [bindL_out fun v hv => (List.nodup_cons.mp nd).1 (List.of_mem_zip hv).1, if_pos hk]
    simp
  | p :: P, w :: vs, i + 1, m, nd, h1, h2, hk => by
    show bindL kindOf ((p, w) :: P.zip vs) m x = _
    unfold bindL
    exact bindL_get (i := i) (List.nodup_cons.mp nd).2 (by simpa using h1) (by simpa using h2) hk
theorem bindC_get {kindOf : Str → Option NameKind} {x : Str} {v : Value} : ∀ {P : List Str} {vs : List Value} {i : Nat} {m : Str → Option Value}, P.Nodup → P[i]? = some x → vs[i]? = some v → kindOf x ≠ some .local →
    bindC kindOf (P.zip vs) m x = some v
  | [], _, _, _, _, h, _, _ => by simp at h
  | _ :: _, [], _, _, _, _, h, _ => by simp at h
  | p :: P, w :: vs, 0, m, nd, h1, h2, hk => by
    simp at h1 h2; subst h1; subst h2
    show bindC kindOf ((p, w) :: P.zip vs) m p = _
    unfold bindC
    rw [bindC_out fun v hv => (List.nodup_cons.mp nd).1 (List.of_mem_zip hv).1, if_neg hk]
    simp
  | p :: P, w :: vs, i + 1, m, nd, h1, h2, hk => by
    show bindC kindOf ((p, w) :: P.zip vs) m x = _
    unfold bindC
    exact bindC_get (i := i) (List.nodup_cons.mp nd).2 (by simpa using h1) (by simpa using h2) hk

/-- the names' values at the entry -/
def start (N : List Str) (vs : List V) : St := vs.map some ++ List.replicate (N.length - vs.length) none

/-- the context of a def's body, at its entry; an exception leaves the frame, then lies as CX says -/
def cxOf (CX : CXT) (P : Program) (w : World) (K : PySem.W.Frag) (mg : Str → Option Value) (base : Heap) (N : List Str) (qual : Str) (scope : Scope) (f : Addr) (cd : Value) (A : Around) (outer : List Env) (s : Shared) (H : Hp) (E : XK) : Cx where
  prog := P
  w := w
  K := K
  mg := mg
  base := base
  A := A.deeper (envOfC qual scope s.heap.objs.size f cd)
  N := N
  s₀ := s
  H₀ := H
  env := envOfC qual scope s.heap.objs.size f cd
  outer := outer
  stack := envOfC qual scope s.heap.objs.size f cd :: outer
  ex := []
  calm := true
  fn := fun _ => true
  pn := []
  xe := fun e s' => wpAny (model P w) (A.deeper (envOfC qual scope s.heap.objs.size f cd)) (leaving (envOfC qual scope s.heap.objs.size f cd) e) (fun _ s'' => CX outer H s E e s'') (fun e' s'' => CX outer H s E e' s'') s'

theorem cell_has {sc : Scope} {n : Nat} {x : Str} (h : sc.names.lookup x = some .cell) : ∃ c, (cellsFrom n sc.names []).lookup x = some c := by
  have q := PySem.W.cellsFrom_some sc.names n [] (.inl h)
  exact Option.isSome_iff_exists.mp q

theorem inv_start {CX : CXT} {P : Program} {w : World} {K : PySem.W.Frag} {mg : Str → Option Value} {base : Heap} {N ps : List Str} {qual : Str} {scope : Scope} {f : Addr} {cd : Value} {A : Around} {outer : List Env} {s s1 : Shared} {H : Hp} {E : XK} {us : List Value} {vs : List V}
    (S : FnScope N ps scope) (hd : A.handled = none) (e0 : Env0 P w K mg base A outer s H) (hl : vs.length = ps.length) (r : Vals vs us)
    (x : InCallC s s.heap.objs.size (bindL (envOfC qual scope s.heap.objs.size f cd).kindOf (ps.zip us) fun _ => none) (cellsFrom (s.heap.objs.size + 1) scope.names []) (bindC (envOfC qual scope s.heap.objs.size f cd).kindOf (ps.zip us) fun _ => none) s1) :
    Inv (cxOf CX P w K mg base N qual scope f cd A outer s H E) [] (start N vs) H s1 := by
  have hpl : ps.length ≤ N.length := by have := congrArg List.length S.pre; rw [List.length_take] at this; omega
  obtain ⟨h1, tk, rfl, hk⟩ := x.done
  have noA : ∀ b : Addr, b ∉ (cxOf CX P w K mg base N qual scope f cd A outer s H E).ex := fun b z => absurd (show b ∈ ([] : List Addr) from z) (by simp)
  refine ⟨⟨e0.mod, S.kind, rfl, rfl, Nat.le_refl _, fun y z c h1 h2 => ?_, fun y hy => ?_, fun y c _ h => ?_, fun _ => hd, Around.frames_deeper e0.frames, .inr ⟨rfl, rfl⟩, fun b z => absurd z (noA b), e0.bs, e0.bsz, fun b _ _ => noA b, fun b z => absurd z (noA b), e0.funs, e0.frf⟩,
    rfl, e0.bare, Un.kept hk, ⟨_, x.toInCall.ns, fun i y v h1 h2 h3 => ?_⟩, fun y c h => ⟨_, x.cell y c h⟩, e0.hok.fresh (Nat.le_refl _), fun y c h => ?_, fun p hp => absurd (show p ∈ ([] : List (Addr × Obj)) from hp) (by simp), e0.hok.kept hk, ?_⟩
  · exact name_of_addr x.apart (PySem.mem_of_lookup h1) (PySem.mem_of_lookup h2)
  · have hy : scope.names.lookup y = some .cell ∨ scope.names.lookup y = some .free := hy
    rcases hy with hy | hy
    · exact cell_has hy
    · exact absurd rfl (S.nofree _ (PySem.mem_of_lookup hy))
  · exact Nat.le_of_lt (x.above y c (PySem.mem_of_lookup h))
  · have hi : i < vs.length := by
      unfold start at h2
      by_cases hi : i < vs.length
      · exact hi
      · rw [List.getElem?_append_right (by simpa using hi)] at h2
        rw [List.getElem?_replicate] at h2
        split at h2 <;> cases h2
    have ha : vs[i]? = some v := by
      unfold start at h2
      rw [List.getElem?_append_left (by simpa using hi), List.getElem?_map] at h2
      cases e : vs[i]? with
      | none => rw [e] at h2; cases h2
      | some a => rw [e] at h2; cases h2; rfl
    obtain ⟨u, hu, rv⟩ := r.get ha
    have hp : ps[i]? = some y := by
      rw [← S.pre, List.getElem?_take_of_lt (by omega)]; exact h1
    have ndP : ps.Nodup := by rw [← S.pre]; exact S.nd.sublist (List.take_sublist _ _)
    refine ⟨u, rv, ?_⟩
    rcases S.par y (List.mem_of_getElem? hp) with k | k
    · exact .inl ⟨k, bindL_get ndP hp hu k⟩
    · obtain ⟨c, e⟩ := cell_has (n := s.heap.objs.size + 1) k
      refine .inr ⟨.inl k, c, e, ?_⟩
      have q := x.cell y c e
      rw [bindC_get ndP hp hu (by show scope.names.lookup y ≠ _; rw [k]; decide)] at q
      exact q
  · exact e0.hok.fresh (Nat.le_of_lt (x.above y c (PySem.mem_of_lookup h)))
  · unfold start
    show _ = N.length
    rw [List.length_append, List.length_map, List.length_replicate]
    omega

/-- THE RULE: a def (or a method) of the text, by its body. The body's reading t is chosen for each entry; it is run at the parameters' values -/
theorem fn_of {CX : CXT} {P : Program} {w : World} {K : PySem.W.Frag} {mg : Str → Option Value} {base : Heap} {k : Nat} {f : Addr} {name qual : Str} {params : Arguments} {body : List Stmt} {scope : Scope} {dV kV doc pm cdv ct oc : Value} {an od : Option Addr}
    {osl : Array (Option Value)} {N ps : List Str} {sp : Sp} (lk : K.lookup f = some ⟨oc, od, .func (PySem.W.fnOf name qual params body scope dV kV doc pm an cdv ct), osl⟩) (hcd : PySem.W.codeIn K cdv qual = true) (S : FnScope N ps scope)
    (len : ∀ vs H Q E, sp vs H Q E → vs.length = ps.length)
    (hbody : ∀ (A : Around) (outer : List Env) (s : Shared) (H : Hp) (vs : List V) (Q : VK) (E : XK), Room k (A.deeper (envOfC qual scope s.heap.objs.size f cdv)) → sp vs H Q E →
      ∃ t, PSs (cxOf CX P w K mg base N qual scope f cdv A outer s H E) body t ∧ t { nx := fun _ H' => Q .non H', rt := Q } (start N vs) H) :
    FnOk P w K mg base CX (k + 1) f (PySem.W.fnOf name qual params body scope dV kV doc pm an cdv ct) ps sp := by
  refine ⟨len, fun A outer s H args us vs Q E hr e0 hb r hsp => ?_⟩
  have hl := len _ _ _ _ hsp
  have KX : K.In s.heap := e0.mod.kin.keeps fun b o e => (e0.bs b o e).1
  have lim : s.heap.NoLimit := e0.mod.nolimit.keeps fun b o e => (e0.bs b o e).1
  have hkind : ∀ y ∈ ps.zip us, scope.names.lookup y.1 = some .local ∨ (scope.names.lookup y.1 = some .cell ∧ ((cellsFrom (s.heap.objs.size + 1) scope.names []).lookup y.1).isSome = true) := fun ⟨n, v⟩ hy => by
    rcases S.par n (List.of_mem_zip hy).1 with q | q
    · exact .inl q
    · exact .inr ⟨q, PySem.W.cellsFrom_some _ _ _ (.inl q)⟩
  refine codeAny_call_function hr.depth (KX _ _ lk) rfl S.co S.gen rfl (PySem.W.codeRec_of KX hcd) (hb _ _ _ _ ?_)
  refine wpAny_newFunctionEnv_cells S.kind hkind fun env he s1 x => ?_
  subst he
  refine ⟨lim.keeps x.toInCall.keep, codeAny_func ?_⟩
  obtain ⟨t, ht, hq⟩ := hbody A outer s H vs Q E (hr.deeper _) hsp
  have I : Inv (cxOf CX P w K mg base N qual scope f cdv A outer s H E) [] (start N vs) H s1 := inv_start S hr.hd e0 hl r x
  refine wpAny_mono (ht [] s1 (start N vs) H _ I hq) (fun fl s' hs => ?_) fun e s' hs => hs
  have fin : ∀ {σ' : St} {H' : Hp} {v : V} {u : Value}, Inv (cxOf CX P w K mg base N qual scope f cdv A outer s H E) [] σ' H' s' → RelV v u → Q v H' → CE outer P w H s Q u s' :=
    fun {σ' H' v u} J rv q => ⟨v, H', J.os, J.bare, J.base, J.hok, rv, q⟩
  cases fl with
  | ret u =>
    obtain ⟨v, σ', H', J, rv, q⟩ := hs
    exact fin J rv q
  | next =>
    obtain ⟨σ', H', J, q⟩ := hs
    exact fin (v := V.non) (u := Value.none) J rfl q
  | brk =>
    obtain ⟨_, _, _, q⟩ := hs
    exact False.elim q
  | cont =>
    obtain ⟨_, _, _, q⟩ := hs
    exact False.elim q
end L2

namespace L2
open PySem PySem.Spec PyProof.Rows
section
variable {X : Cx} {x : Str} {p pos : Pos} {e : Expr} {es : List Expr} {t : TA} {id T : String} {r : List V → Hp → VK → Prop}

def tCB (r : List V → Hp → VK → Prop) (t : TA) : TE := fun σ H Q => t σ H fun vs H1 => r vs H1 Q
/-- f(e, ..), f a built-in function -/
theorem pe_callB (hc : CallR X (.builtin id) r) (hg : Gl X x) (hm : X.mg x = none) (hv : bootBuiltins x = some (.builtin id)) (ha : PA X (e :: es) t) (hn : x ≠ "__name__" := by decide) (hdb : (x == ("__debug__" : Str)) = false := by decide)
    (he : starEach (e :: es) X.env = (false, eval e X.env) :: starEach es X.env := by rfl) (hpl : (backTo pos (starEach es X.env)).any (·.1) = false := by rfl) : PE X (.Call (.Name x p) (e :: es) [] pos) (tCB r t) := by
  constructor; intro pins s σ H Q I h
  refine wpAny_Call_Name_kw (ld_blt I hg hm hv ?_ hn hdb)
  exact PyProof.Rows.callWith_builtin1 (thn (ha pos pins s σ H _ I h) fun us s1 ⟨vs, H1, I1, r1, q1⟩ => hc pins s1 σ H1 vs us Q I1 r1 q1) he hpl
/-- T(e, ..), T a built-in type -/
theorem pe_callTy (hc : CallR X (.type T) r) (hg : Gl X x) (hm : X.mg x = none) (hv : bootBuiltins x = some (.type T)) (ha : PA X (e :: es) t) (hn : x ≠ "__name__" := by decide) (hdb : (x == ("__debug__" : Str)) = false := by decide)
    (he : starEach (e :: es) X.env = (false, eval e X.env) :: starEach es X.env := by rfl) (hpl : (backTo pos (starEach es X.env)).any (·.1) = false := by rfl) : PE X (.Call (.Name x p) (e :: es) [] pos) (tCB r t) := by
  constructor; intro pins s σ H Q I h
  refine wpAny_Call_Name_kw (ld_blt I hg hm hv ?_ hn hdb)
  exact PyProof.Rows.callWith_type1 (thn (ha pos pins s σ H _ I h) fun us s1 ⟨vs, H1, I1, r1, q1⟩ => hc pins s1 σ H1 vs us Q I1 r1 q1) he hpl
end
end L2

namespace HT
open PySem PyProof.Rows

/-- t < u of tuples of ints -/
def lexLt : List Int → List Int → Bool
  | [], [] => false
  | [], _ :: _ => true
  | _ :: _, [] => false
  | x :: xs, y :: ys => if x = y then lexLt xs ys else decide (x < y)
theorem lexLt_cons (x y : Int) (xs ys : List Int) : lexLt (x :: xs) (y :: ys) = if x = y then lexLt xs ys else decide (x < y) := rfl
theorem lexLt_nil_nil : lexLt [] [] = false := rfl
theorem lexLt_nil_cons (y : Int) (ys : List Int) : lexLt [] (y :: ys) = true := rfl
theorem lexLt_cons_nil (x : Int) (xs : List Int) : lexLt (x :: xs) [] = false := rfl

theorem eqAt_int (A : Around) (s : Shared) (a : Int) (t : Tok) (c : Int) (u : Tok) : ∃ e, SeqAt.EqAt A s (.int a t) (.int c u) e ∧ (e = true ↔ a = c) :=
  ⟨(a == c), SeqAt.EqAt.int_int a t c u, by simp⟩
theorem rcLt_int (A : Around) (s : Shared) (a : Int) (t : Tok) (c : Int) (u : Tok) (prog : Program) (w : World) (E : Value → Shared → Prop) (Q : Value → Shared → Prop) (h : Q (.bool (decide (a < c))) s) :
    wpAny (model prog w) A (richCompare .Lt (.int a t) (.int c u)) Q E s :=
  (PyProof.Rows.lt_int h : wpAny (model prog w) A (compareOp .Lt (.int a t) (.int c u)) Q E s)

section
open PySem.SeqAt
open PySem.AutoSeq1 (wpAny_loadPart')
open PySem.MeetsSeq PySem.MeetsSeq2 PySem.MeetsSeq3

theorem tuple_lt_ints (l b : Addr) (items items2 : Array Value) (n n2 : Nat) (dd dd2 : Option Addr) (sl sl2 : Array (Option Value)) (ns ms : List Int) (hi : IntsAre items.toList ns) (hj : IntsAre items2.toList ms) :
    Meets (Builtin.«tuple.__lt__» ⟨[.ref l, .ref b], []⟩)
      (fun _ R s => s.heap.get? l = some { cls := .type "tuple", dict := dd, data := .seq items n, slots := sl } ∧ s.heap.get? b = some { cls := .type "tuple", dict := dd2, data := .seq items2 n2, slots := sl2 } ∧
        R (.ok (.ret (.bool (lexLt ns ms)))) s) :=
  .of_wp fun prog w A R s h => by
    obtain ⟨hp, g, d, tk, os⟩ := s; obtain ⟨hl, hb, h⟩ := h
    have f2 := AutoSeq1.sub_tuple_tuple
    have z1 : items.size = ns.length := by rw [← hi.length]; simp
    have z2 : items2.size = ms.length := by rw [← hj.length]; simp
    wp_walk using wpAny_loadPart' hl, wpAny_loadPart' hb, wpAny_forIn_list _ (fun rest b s' => b.1 = none ∧ s' = ⟨hp, g, d, tk, os⟩ ∧ ∃ (vs ws : List Value) (ns' ms' : List Int), rest = vs.zip ws ∧
      IntsAre vs ns' ∧ IntsAre ws ms' ∧ ns'.length + items2.size = ms'.length + items.size ∧ R (.ok (.ret (.bool (lexLt ns' ms')))) ⟨hp, g, d, tk, os⟩) _
    case turn =>
      rintro ⟨y, x⟩ rest b s' ⟨hb', rfl, vs, ws, ns', ms', hz, hvi, hwi, hlen, hR⟩
      cases hvi with
      | nil => rw [List.zip_nil_left] at hz; cases hz
      | cons a t hvi' =>
        cases hwi with
        | nil => rw [List.zip_nil_right] at hz; cases hz
        | cons c u hwi' =>
          rw [List.zip_cons_cons] at hz
          injection hz with hyx hrest
          injection hyx with hy hx
          subst hy hx
          rw [lexLt_cons] at hR
          simp only [List.length_cons] at hlen
          obtain ⟨e, he, hiff⟩ := eqAt_int A.in1 ⟨hp, g, d, tk, os⟩ a t c u
          refine wpAny_bind (he prog w _ _ ?_)
          cases e with
          | true =>
            rw [if_pos (hiff.mp rfl)] at hR
            wp_walk
            exact ⟨rfl, rfl, _, _, _, _, hrest, hvi', hwi', by omega, hR⟩
          | false =>
            rw [if_neg (fun q => absurd (hiff.mpr q) Bool.false_ne_true)] at hR
            have hri := rcLt_int A.in1 ⟨hp, g, d, tk, os⟩ a t c u prog w
            wp_walk using hri
            exact ⟨_, rfl, by simpa using hR⟩
    case fin =>
      rintro ⟨b1, b2⟩ s' ⟨hb', rfl, vs, ws, ns', ms', hz, hvi, hwi, hlen, hR⟩
      simp only at hb'
      subst hb'
      have hv : lexLt ns' ms' = decide (items.size < items2.size) := by
        cases hvi with
        | nil =>
          cases hwi with
          | nil =>
            simp only [List.length_nil] at hlen
            rw [lexLt_nil_nil]
            exact (decide_eq_false (by omega)).symm
          | cons c u hw =>
            simp only [List.length_nil, List.length_cons] at hlen
            rw [lexLt_nil_cons]
            exact (decide_eq_true (by omega)).symm
        | cons a t hv =>
          cases hwi with
          | nil =>
            simp only [List.length_nil, List.length_cons] at hlen
            rw [lexLt_cons_nil]
            exact (decide_eq_false (by omega)).symm
          | cons c u hw =>
            rw [List.zip_cons_cons] at hz
            cases hz
      rw [hv] at hR
      wp_walk
      exact ⟨_, rfl, by simpa [Builtin.Tuple.tupleCompareSizes] using hR⟩
    case h =>
      exact ⟨rfl, rfl, items.toList, items2.toList, ns, ms, rfl, hi, hj, by omega, h⟩
end

section
variable {prog : Program} {w : World} {A : Around} {E : Value → Shared → Prop} {s : Shared}

theorem lt_tupInts {l b : Addr} {items items2 : Array Value} {ns ms : List Int} {Q : Value → Shared → Prop} (hl : IsTup s.heap l items) (hb : IsTup s.heap b items2) (hi : IntsAre items.toList ns) (hj : IntsAre items2.toList ms)
    (hu : A.units < cLine) (h : Q (.bool (lexLt ns ms)) s) : wpAny (model prog w) A (compareOp .Lt (.ref l) (.ref b)) Q E s := by
  obtain ⟨⟨cls, dd, data, sl⟩, ho, hc, n, hd⟩ := id hl
  obtain ⟨⟨cls2, dd2, data2, sl2⟩, ho2, hc2, n2, hd2⟩ := id hb
  simp only at hc hd hc2 hd2
  subst hc hd hc2 hd2
  exact richCompare_meets_room (op := .Lt) ⟨_, ho, rfl⟩ ⟨_, ho2, rfl⟩ PySem.F.slot_tuple_lt PySem.F.entry_tuple_lt (PySem.F.args_tuple_lt_2 _ _) (tuple_lt_ints l b items items2 n n2 dd dd2 sl sl2 ns ms hi hj)
    ⟨ho, ho2, show Value.bool (lexLt ns ms) ≠ Value.notImplemented ∧ Q (.bool (lexLt ns ms)) s from ⟨(fun x => nomatch x), h⟩⟩ hu

/-! ### t[a:b], not the whole -/
/-- a slice's bound as a place among n (d where it is left out) -/
def sIx (n d : Nat) : Option Int → Nat
  | none => d
  | some v => if v < 0 then (v + (n : Int)).toNat else min v.toNat n
end
end HT

namespace L2
open PySem PySem.Spec PyProof.Rows

/-! ### the parts of a slice -/
abbrev TO := St → Hp → (Option Int → Hp → Prop) → Prop
/-- a slice's part (left out, or an int) -/
structure PO (X : Cx) (e : Option Expr) (t : TO) : Prop where
  run : ∀ (pins : List (Addr × Obj)) (s : Shared) (σ : St) (H : Hp) (Q : Option Int → Hp → Prop), Inv X pins σ H s → t σ H Q →
    wpAny (model X.prog X.w) X.A (evalPart e X.env) (fun u s' => ∃ o H', Inv X pins σ H' s' ∧ IsPart u o ∧ Q o H') X.xe s
instance {X : Cx} {e : Option Expr} {t : TO} : CoeFun (PO X e t) fun _ => ∀ (pins : List (Addr × Obj)) (s : Shared) (σ : St) (H : Hp) (Q : Option Int → Hp → Prop), Inv X pins σ H s → t σ H Q →
    wpAny (model X.prog X.w) X.A (evalPart e X.env) (fun u s' => ∃ o H', Inv X pins σ H' s' ∧ IsPart u o ∧ Q o H') X.xe s := ⟨PO.run⟩
def tPart (t : TE) : TO := fun σ H Q => t σ H fun x H1 => ∃ i, x = .int i ∧ Q (some i) H1

section
variable {X : Cx} {e : Expr} {te : TE} {lo hi : Option Expr} {tl th : TO} {pos p2 : Pos}

theorem po_some (h : PE X e te) : PO X (some e) (tPart te) := by
  constructor; intro pins s σ H Q I hw
  rw [evalPart_some]
  refine thn (h pins s σ H _ I hw) fun u s1 ⟨x, H1, I1, r1, q1⟩ => ?_
  obtain ⟨i, rfl, q⟩ := q1
  obtain ⟨t, rfl⟩ := r1
  exact ⟨some i, H1, I1, .int i t, q⟩

/-- what a slice of a value is, by values: the slice object stands at sl -/
def SlR (X : Cx) (r : V → Option Int → Option Int → Hp → VK → Prop) : Prop :=
  ∀ (pins : List (Addr × Obj)) (s : Shared) (σ : St) (H : Hp) (x : V) (v vl vu : Value) (lo hi : Option Int) (sl : Addr) (Q : VK), Inv X pins σ H s → RelV x v → s.heap.IsSliceOf sl vl vu .none → IsPart vl lo → IsPart vu hi → r x lo hi H Q →
    ∃ T id, typeLookup (.type T) "__getitem__" = pure (some (.builtin id)) ∧ s.TypeIs v T ∧ wpAny (model X.prog X.w) X.A (getItem v (.ref sl)) (EP X pins σ Q) X.xe s
theorem SlR.or {r r' : V → Option Int → Option Int → Hp → VK → Prop} (h : SlR X r) (h' : SlR X r') : SlR X (fun x lo hi H Q => r x lo hi H Q ∨ r' x lo hi H Q) := by
  intro pins s σ H x v vl vu lo hi sl Q I rx hs pl pu q
  rcases q with q | q
  · exact h pins s σ H x v vl vu lo hi sl Q I rx hs pl pu q
  · exact h' pins s σ H x v vl vu lo hi sl Q I rx hs pl pu q
def tSl (r : V → Option Int → Option Int → Hp → VK → Prop) (te : TE) (tl th : TO) : TE := fun σ H Q => te σ H fun x H1 => tl σ H1 fun l H2 => th σ H2 fun u H3 => r x l u H3 Q
/-- a[lo:hi], any a -/
theorem pe_slice {r : V → Option Int → Option Int → Hp → VK → Prop} (hr : SlR X r) (he : PE X e te) (hl : PO X lo tl) (hu : PO X hi th) : PE X (.Subscript e (.Slice lo hi none p2) pos) (tSl r te tl th) := by
  constructor; intro pins s σ H Q I h
  refine Subscript_ (thn (he pins s σ H _ I h) fun v s1 ⟨x, H1, I1, r1, q1⟩ => ?_)
  refine wpAny_Slice (thn (hl pins s1 σ H1 _ I1 q1) fun vl s2 ⟨l, H2, I2, pl, q2⟩ => thn (hu pins s2 σ H2 _ I2 q2) fun vu s3 ⟨u, H3, I3, pu, q3⟩ => ?_)
  rw [evalPart_none]
  refine wpAny_pure ?_
  have I4 : Inv X pins σ H3 { s3 with heap := s3.heap.push { cls := .type "slice", data := .fields #[vl, vu, .none] } } := I3.kept (t' := s3.toks) fun b ob q => Heap.get?_push_of_some _ q
  obtain ⟨T, id, hT, ht, hg⟩ := hr pins { s3 with heap := s3.heap.push { cls := .type "slice", data := .fields #[vl, vu, .none] } } σ H3 x v vl vu l u s3.heap.objs.size Q I4 r1 (Heap.IsSliceOf.new ..) pl pu q3
  show wpAny (model X.prog X.w) X.A (subscriptTail e (.Slice lo hi none p2) v (.ref s3.heap.objs.size)) (EP X pins σ Q) X.xe { s3 with heap := s3.heap.push { cls := .type "slice", data := .fields #[vl, vu, .none] } }
  exact tail_any (ops := [.ref s3.heap.objs.size, v]) ht hT hg (by with_unfolding_all rfl)

/-- the items of xs[lo:hi] -/
def cutV (xs : List V) (lo hi : Option Int) : List V := (xs.drop (HT.sIx xs.length 0 lo)).take (HT.sIx xs.length xs.length hi - HT.sIx xs.length 0 lo)
theorem cutV_length (xs : List V) (lo hi : Option Int) : (cutV xs lo hi).length ≤ xs.length := by
  unfold cutV
  rw [List.length_take, List.length_drop]
  omega
/-! ### t < u, t + u -/
end
end L2

namespace L2
open PySem PySem.Spec PyProof.Rows

/-! ### places -/
/-- the place that an index of any sign means -/
def ixN (n : Nat) (i : Int) : Option Nat := if 0 ≤ i then (if i < n then some i.toNat else none) else if -(n : Int) ≤ i then some (i + n).toNat else none
def atI {α : Type} (xs : List α) (i : Int) : Option α := (ixN xs.length i).bind fun j => xs[j]?
theorem ixN_seq {n : Nat} {i : Int} {j : Nat} (h : ixN n i = some j) : seqIndex? i n = some j ∧ j < n ∧ -(n : Int) ≤ i ∧ i < n := by
  unfold ixN at h
  by_cases h0 : 0 ≤ i
  · rw [if_pos h0] at h
    by_cases h1 : i < n
    · rw [if_pos h1] at h
      have e : i.toNat = j := Option.some.inj h
      exact ⟨by rw [seqIndex_of h0 h1, e], by omega, by omega, h1⟩
    · rw [if_neg h1] at h; cases h
  · rw [if_neg h0] at h
    by_cases h1 : -(n : Int) ≤ i
    · rw [if_pos h1] at h
      have e : (i + n).toNat = j := Option.some.inj h
      exact ⟨by rw [seqIndex_neg (by omega) h1, e], by omega, h1, by omega⟩
    · rw [if_neg h1] at h; cases h
theorem atI_get {α : Type} {xs : List α} {i : Int} {v : α} (h : atI xs i = some v) : ∃ j, seqIndex? i xs.length = some j ∧ xs[j]? = some v ∧ j < xs.length ∧ -(xs.length : Int) ≤ i ∧ i < xs.length := by
  unfold atI at h
  cases e : ixN xs.length i with
  | none => rw [e] at h; cases h
  | some j =>
    rw [e] at h
    obtain ⟨h1, h2, h3, h4⟩ := ixN_seq e
    exact ⟨j, h1, h, h2, h3, h4⟩
theorem atI_nat {α : Type} {xs : List α} {j : Nat} {v : α} (h : xs[j]? = some v) : atI xs (j : Int) = some v := by
  have hj : j < xs.length := (List.getElem?_eq_some_iff.mp h).1
  have e : ixN xs.length (j : Int) = some j := by
    unfold ixN
    rw [if_pos (by omega), if_pos (by omega)]; simp
  unfold atI; rw [e]; exact h
theorem atI_last {α : Type} (xs : List α) (v : α) : atI (xs ++ [v]) (-1) = some v := by
  have hl : (xs ++ [v]).length = xs.length + 1 := by simp
  have e : ixN (xs ++ [v]).length (-1) = some xs.length := by
    unfold ixN
    rw [hl, if_neg (by decide), if_pos (by omega)]
    congr 1
    omega
  unfold atI
  rw [e]
  show (xs ++ [v])[xs.length]? = some v
  simp

/-! ### what may be subscripted -/
/-- what stands as an index of a plain subscript -/
def PlainIx (b : Expr) : Prop := ∀ o i, subscripted b false o i = operate [o, i] (getItem o i)
/-- a subscript by values -/
def IxR (X : Cx) (r : R2) : Prop :=
  ∀ (value slice : Expr) (pins : List (Addr × Obj)) (s : Shared) (σ : St) (H : Hp) (x y : V) (v u : Value) (Q : VK), Inv X pins σ H s → RelV x v → RelV y u → r x y H Q →
    subscripted slice false v u = operate [v, u] (getItem v u) → wpAny (model X.prog X.w) X.A (subscriptTail value slice v u) (EP X pins σ Q) X.xe s
/-- a call of a builtin's method by values: the receiver, the arguments -/
def MtR (X : Cx) (id : String) (r : V → List V → Hp → VK → Prop) : Prop :=
  ∀ (pins : List (Addr × Obj)) (s : Shared) (σ : St) (H : Hp) (x : V) (xs : List V) (v : Value) (us : List Value) (Q : VK), Inv X pins σ H s → RelV x v → Vals xs us → r x xs H Q →
    wpAny (model X.prog X.w) X.A (call (.builtin id) (v :: us)) (EP X pins σ Q) X.xe s
section
variable {X : Cx} {a b : Expr} {ta tb : TE} {pos : Pos}
theorem IxR.or {r r' : R2} (h : IxR X r) (h' : IxR X r') : IxR X (fun x y H Q => r x y H Q ∨ r' x y H Q) := by
  intro value slice pins s σ H x y v u Q I rx ry q hs
  rcases q with q | q
  · exact h value slice pins s σ H x y v u Q I rx ry q hs
  · exact h' value slice pins s σ H x y v u Q I rx ry q hs
theorem MtR.or {id : String} {r r' : V → List V → Hp → VK → Prop} (h : MtR X id r) (h' : MtR X id r') : MtR X id (fun x xs H Q => r x xs H Q ∨ r' x xs H Q) := by
  intro pins s σ H x xs v us Q I rx rs q
  rcases q with q | q
  · exact h pins s σ H x xs v us Q I rx rs q
  · exact h' pins s σ H x xs v us Q I rx rs q
/-- a[b] -/
theorem pe_ix {r : R2} (hr : IxR X r) (ha : PE X a ta) (hb : PE X b tb) (hs : PlainIx b) : PE X (.Subscript a b pos) (tOp r ta tb) := by
  constructor; intro pins s σ H Q I h
  exact Subscript_ (binT ha hb I h fun v u s2 x y H2 I2 rx ry q => hr a b pins s2 σ H2 x y v u Q I2 rx ry q (hs _ _))

def rIxL (K : PySem.W.Frag) : R2 := fun x y H Q => ∃ p xs i v, x = .ref p ∧ y = .int i ∧ SqL K H p xs ∧ atI xs i = some v ∧ Q v H
def rIxT (K : PySem.W.Frag) : R2 := fun x y H Q => ∃ p xs i v, x = .ref p ∧ y = .int i ∧ SqT K H p xs ∧ atI xs i = some v ∧ Q v H
theorem ix_list : IxR X (rIxL X.K) := by
  intro value slice pins s σ H x y v u Q I rx ry h hs
  obtain ⟨p, xs, i, z, rfl, rfl, hq, he, q⟩ := h
  cases rx
  obtain ⟨t, rfl⟩ := ry
  obtain ⟨its, r, pl, hz⟩ := I.list hq
  obtain ⟨j, h1, h2, h3, h4, h5⟩ := atI_get he
  obtain ⟨w, ew, rw'⟩ := r.get h2
  have hl := r.length
  have hn := line63
  have fin : EP X pins σ Q w s := ⟨z, H, I, rw', q⟩
  by_cases h0 : 0 ≤ i
  · have hj : i.toNat = j := by
      rw [seqIndex_of h0 h5] at h1
      exact Option.some.inj h1
    exact item_listR pl.isList h0 (by omega) (by rw [hj]; simpa using ew) fin hs
  · have hj : (i + (its.toArray.size : Int)).toNat = j := by
      rw [seqIndex_neg (by omega) h4] at h1
      rw [List.size_toArray, ← hl]
      exact Option.some.inj h1
    exact subscriptTail_builtinR (x := w) pl.isList.typeIs slot_list_getitem.lookup
      (wpAny_getItem_list_neg (Q := fun r s' => r = w ∧ EP X pins σ Q r s') pl.isList (by omega) (by rw [List.size_toArray] <;> omega) (by omega) (by rw [hj]; simpa using ew) ⟨rfl, fin⟩) hs
theorem ix_tup : IxR X (rIxT X.K) := by
  intro value slice pins s σ H x y v u Q I rx ry h hs
  obtain ⟨p, xs, i, z, rfl, rfl, hq, he, q⟩ := h
  cases rx
  obtain ⟨t, rfl⟩ := ry
  obtain ⟨its, r, pl, hz⟩ := I.tuple hq
  obtain ⟨j, h1, h2, h3, h4, h5⟩ := atI_get he
  obtain ⟨w, ew, rw'⟩ := r.get h2
  have hl := r.length
  have hn := line63
  have fin : EP X pins σ Q w s := ⟨z, H, I, rw', q⟩
  exact subscriptTail_builtinR (x := w) pl.typeIs slot_tuple_getitem.lookup
    (getItem_tuple (j := j) (Q := fun r s' => r = w ∧ EP X pins σ Q r s') pl (by omega) (by omega) (by rw [List.size_toArray, ← hl]; exact h1) (by simpa using ew) ⟨rfl, fin⟩) hs
/-! ### xs[i] = v, any sign -/
theorem Inv.lst {pins : List (Addr × Obj)} {σ : St} {H : Hp} {s : Shared} {p : Addr} {xs : List V} (I : Inv X pins σ H s) (h : H p = some (.lst xs)) :
    ∃ (its : List Value) (n : Nat), Vals xs its ∧ s.heap.get? p = some { cls := .type "list", data := .seq its.toArray n } ∧ xs.length ≤ sizeLine := by
  obtain ⟨z, its, n, r, e⟩ := I.hok p _ h
  exact ⟨its, n, r, e, z⟩
/-! ### slices -/
theorem slice_bounds (lo hi : Option Int) (n : Nat) : (sliceBounds lo hi none n).1 = ((HT.sIx n 0 lo : Nat) : Int) ∧ (sliceBounds lo hi none n).2.1 = ((HT.sIx n n hi : Nat) : Int) ∧ (sliceBounds lo hi none n).2.2 = 1 := by
  refine ⟨?_, ?_, rfl⟩
  · cases lo with
    | none => simp [sliceBounds, HT.sIx]
    | some i =>
      simp only [sliceBounds, HT.sIx, Option.getD_none, show (1 : Int) > 0 by decide, if_true]
      by_cases h : i < 0
      · simp only [h, if_true] <;> omega
      · simp only [h, if_false] <;> omega
  · cases hi with
    | none => simp [sliceBounds, HT.sIx]
    | some i =>
      simp only [sliceBounds, HT.sIx, Option.getD_none, show (1 : Int) > 0 by decide, if_true]
      by_cases h : i < 0
      · simp only [h, if_true] <;> omega
      · simp only [h, if_false] <;> omega
theorem slicePick_cut (its : List Value) (lo hi : Option Int) : slicePick its.toArray lo hi none = ((its.drop (HT.sIx its.length 0 lo)).take (HT.sIx its.length its.length hi - HT.sIx its.length 0 lo)).toArray := by
  obtain ⟨h1, h2, h3⟩ := slice_bounds lo hi its.toArray.size
  unfold slicePick
  rw [h1, h2, h3]
  simp only [sliceRange_one, pick_run, List.size_toArray] <;> rfl
/-- xs[lo:hi] of a list: a new list -/
def rSlL (K : PySem.W.Frag) : V → Option Int → Option Int → Hp → VK → Prop := fun x lo hi H Q => ∃ a xs, x = .ref a ∧ SqL K H a xs ∧ ∀ p, H p = none → Q (.ref p) (upd H p (.lst (cutV xs lo hi)))
theorem sl_list : SlR X (rSlL X.K) := by
  intro pins s σ H x v vl vu lo hi sl Q I rx hs pl pu h
  obtain ⟨a, xs, rfl, hx, q⟩ := h
  cases rx
  obtain ⟨its, r, ht, hz⟩ := I.list hx
  have hlen := r.length
  refine ⟨"list", _, slot_list_getitem.lookup, ht.isList.typeIs, ?_⟩
  refine wpAny_getItem_list_slice ht.isList hs pl pu .none (by simp) ?_ (by rw [List.size_toArray] <;> omega)
  rw [slicePick_cut, ← hlen]
  refine ⟨.ref s.heap.objs.size, _, I.laid (t' := s.toks) (o := .lst (cutV xs lo hi)) (fun b ob q => Heap.get?_push_of_some _ q) (Nat.le_refl _) ?_, rfl, q _ (I.hok.fresh (Nat.le_refl _))⟩
  exact ⟨Nat.le_trans (cutV_length xs lo hi) hz, _, 0, (r.drop (HT.sIx xs.length 0 lo)).take (HT.sIx xs.length xs.length hi - HT.sIx xs.length 0 lo), Heap.get?_push_size _ rfl⟩

/-! ### in, not in: flat items -/
/-! ### len, list(x), tuple(x) of any list or tuple that is read -/
theorem CallR.or {f : Value} {r r' : List V → Hp → VK → Prop} (h : CallR X f r) (h' : CallR X f r') : CallR X f (fun xs H Q => r xs H Q ∨ r' xs H Q) := by
  intro pins s σ H xs us Q I rs q
  rcases q with q | q
  · exact h pins s σ H xs us Q I rs q
  · exact h' pins s σ H xs us Q I rs q
theorem call_list_of : CallR X (.type "list") (fun xs H Q => ∃ p ys, xs = [.ref p] ∧ (SqL X.K H p ys ∨ SqT X.K H p ys) ∧ ∀ l, H l = none → Q (.ref l) (upd H l (.lst ys))) := by
  intro pins s σ H xs us Q I r h
  obtain ⟨p, ys, rfl, hq, q⟩ := h
  obtain ⟨u, rfl, rx⟩ := vals1 r
  cases rx
  have fin : ∀ (its : List Value), Vals ys its → ys.length ≤ sizeLine → ∀ (h' : Heap) (c' : Nat), (∀ b o', s.heap.get? b = some o' → h'.get? b = some o') →
      h'.get? s.heap.objs.size = some { cls := .type "list", dict := none, data := .seq its.toArray c', slots := #[] } → EP X pins σ Q (.ref s.heap.objs.size) { s with heap := h' } := fun its r' hz h' c' kp e =>
    ⟨.ref s.heap.objs.size, _, I.laid (t' := s.toks) kp (Nat.le_refl _) (show ObjOk X.prog X.w _ h' _ (.lst ys) from ⟨hz, its, c', r', e⟩), rfl, q _ (I.hok.fresh (Nat.le_refl _))⟩
  rcases hq with hq | hq
  · obtain ⟨its, r', pl, hz⟩ := I.list hq
    have hlen := r'.length
    obtain ⟨o, ho, hc, n, hd⟩ := pl.isList
    exact call_list_seq p (.inl rfl) ho hc hd (fun h' c' kp e => fin its r' hz h' c' kp e) (by simp only [List.size_toArray] <;> omega)
  · obtain ⟨its, r', pl, hz⟩ := I.tuple hq
    have hlen := r'.length
    obtain ⟨o, ho, hc, n, hd⟩ := pl
    exact call_list_seq p (.inr rfl) ho hc hd (fun h' c' kp e => fin its r' hz h' c' kp e) (by simp only [List.size_toArray] <;> omega)
/-! ### the call of a builtin's method: o.m(..) -/
/-- the value is of that builtin type -/
def tyV (K : PySem.W.Frag) (T : String) (x : V) (H : Hp) : Prop := match x with
  | .str _ => T = "str"
  | .int _ => T = "int"
  | .ref p => (T = "list" ∧ ∃ xs, SqL K H p xs) ∨ (T = "tuple" ∧ ∃ o, K.lookup p = some o ∧ o.cls = .type "tuple" ∧ o.dict = none) ∨
      (T = "dict" ∧ ((∃ kvs, H p = some (.dK kvs)) ∨ ∃ kvs, H p = some (.dT kvs))) ∨ (T = "set" ∧ ∃ S n, H p = some (.set S n))
  | _ => False
theorem tyV_is {pins : List (Addr × Obj)} {σ : St} {H : Hp} {s : Shared} {T : String} {x : V} {v : Value} (I : Inv X pins σ H s) (r : RelV x v) (ty : tyV X.K T x H) :
    s.TypeIs v T ∧ ∀ a, v = .ref a → ∃ ob, s.heap.get? a = some ob ∧ ob.dict = none := by
  cases x with
  | str z =>
    obtain ⟨t, rfl⟩ := r
    cases (show T = "str" from ty)
    exact ⟨typeIs_str s z t, fun _ e => nomatch e⟩
  | int i =>
    obtain ⟨t, rfl⟩ := r
    cases (show T = "int" from ty)
    exact ⟨typeIs_int s i t, fun _ e => nomatch e⟩
  | ref p =>
    cases r
    rcases ty with ⟨rfl, xs, hq⟩ | ⟨rfl, o, hk, hc, hd⟩ | ⟨rfl, hk⟩ | ⟨rfl, S, n, hk⟩
    · obtain ⟨its, _, pl, _⟩ := I.list hq
      refine ⟨pl.isList.typeIs, fun a e => ?_⟩
      cases e
      obtain ⟨o, n, e, c, hd, _⟩ := pl
      exact ⟨o, e, hd⟩
    · refine ⟨⟨o, I.kIn p o hk, hc⟩, fun a e => ?_⟩
      cases e
      exact ⟨o, I.kIn _ o hk, hd⟩
    · have z : ∃ o, s.heap.get? p = some o ∧ o.ExactDict := by
        rcases hk with ⟨kvs, hk⟩ | ⟨kvs, hk⟩
        · obtain ⟨_, _, _, _, o, _, _, e, ex, _⟩ := I.hok p _ hk
          exact ⟨o, e, ex⟩
        · obtain ⟨_, _, _, _, o, _, _, e, ex, _⟩ := I.hok p _ hk
          exact ⟨o, e, ex⟩
      obtain ⟨o, e, ex⟩ := z
      refine ⟨⟨o, e, ex.1⟩, fun a e2 => ?_⟩
      cases e2
      exact ⟨o, e, ex.2.1⟩
    · obtain ⟨o, _, _, _, e, ex, _⟩ := I.hok p _ hk
      refine ⟨⟨o, e, ex.1⟩, fun a e2 => ?_⟩
      cases e2
      exact ⟨o, e, ex.2.1⟩
  | _ => exact False.elim ty
def tBM0 (K : PySem.W.Frag) (T : String) (r : V → List V → Hp → VK → Prop) (to : TE) : TE := fun σ H Q => to σ H fun x H1 => tyV K T x H1 ∧ r x [] H1 Q
def tBM (K : PySem.W.Frag) (T : String) (r : V → List V → Hp → VK → Prop) (to : TE) (t : TA) : TE := fun σ H Q => to σ H fun x H1 => tyV K T x H1 ∧ t σ H1 fun xs H2 => r x xs H2 Q
variable {o e : Expr} {es : List Expr} {to : TE} {t : TA} {name : Str} {apos cpos : Pos} {T id : String} {r : V → List V → Hp → VK → Prop}
theorem pe_bm0 (pa : PlainAttrs T) (slot : Slot T name id) (hty : typeOf (.builtin id) = pure (.type "method_descriptor")) (hm : MtR X id r) (ho : PE X o to)
    (hbase : attributeBase o name X.env (eval o X.env) = eval o X.env := by rfl) (hline : (apos.endLine == cpos.line) = true := by rfl) : PE X (.Call (.Attribute o name apos) [] [] cpos) (tBM0 X.K T r to) := by
  constructor; intro pins s σ H Q I h
  refine wpAny_Call_method0_late hbase hline (thn (ho pins s σ H _ I h) fun v s1 ⟨x, H1, I1, r1, ty, q1⟩ => ?_)
  obtain ⟨h1, h2⟩ := tyV_is I1 r1 ty
  exact ⟨T, id, pa, slot, hty, h1, h2, Calls.callWith_builtin rfl (PySem.evalArgs_none (hm pins s1 σ H1 x [] v [] Q I1 r1 .nil q1))⟩
theorem pe_bm (pa : PlainAttrs T) (slot : Slot T name id) (hty : typeOf (.builtin id) = pure (.type "method_descriptor")) (hm : MtR X id r) (ho : PE X o to) (ha : PA X (e :: es) t)
    (hbase : attributeBase o name X.env (eval o X.env) = eval o X.env := by rfl)
    (hfew : ((backTo cpos (starEach (e :: es) X.env)).all (fun x => !x.1) && (backToKw cpos (keywordEach [] X.env)).all (fun x => x.1.isSome)
      && decide ((e :: es).length + ([] : List Keyword).length + (if ([] : List Keyword).isEmpty then 0 else 1) < 30)) = true := by rfl)
    (hline : (apos.endLine == cpos.line) = true := by rfl) (hs : starEach (e :: es) X.env = (false, eval e X.env) :: starEach es X.env := by rfl) (hplain : (backTo cpos (starEach es X.env)).any (·.1) = false := by rfl) :
    PE X (.Call (.Attribute o name apos) (e :: es) [] cpos) (tBM X.K T r to t) := by
  constructor; intro pins s σ H Q I h
  refine wpAny_Call_method_late hbase hfew hline rfl (thn (ho pins s σ H _ I h) fun v s1 ⟨x, H1, I1, r1, ty, q1⟩ => ?_)
  obtain ⟨h1, h2⟩ := tyV_is I1 r1 ty
  refine ⟨T, id, pa, slot, hty, h1, h2, ?_⟩
  have hA := ha cpos pins s1 σ H1 _ I1 q1
  rw [hs] at hA ⊢
  refine Calls.callWith_builtin (by show (false || (backTo cpos (starEach es X.env)).any (·.1)) = false; rw [hplain] <;> rfl) (Calls.evalArgs_plain ?_)
  exact thn hA fun us s2 ⟨vs, H2, I2, r2, q2⟩ => hm pins s2 σ H2 x vs v us Q I2 r1 r2 q2
/- xs.append(e), list.index on a module's tuple .. are MtR facts of 06m -/
end
end L2

namespace L2
open PySem PySem.Spec PyProof.Rows

def MtM (X : Cx) (id : String) (r : V → List V → Hp → VK → Prop) : Prop :=
  ∀ (pins : List (Addr × Obj)) (s : Shared) (σ : St) (H : Hp) (x : V) (xs : List V) (v : Value) (us : List Value) (Q : VK), Inv X pins σ H s → RelV x v → Vals xs us → r x xs H Q →
    wpAny (model X.prog X.w) X.A (call (.builtin id) (v :: us)) (EP X pins σ Q) X.xe s

/-! ### lists of values -/
theorem Vals.one : ∀ {x : V} {us : List Value}, Vals [x] us → ∃ u, us = [u] ∧ RelV x u
  | _, _, .cons r .nil => ⟨_, rfl, r⟩
theorem Vals.two : ∀ {x y : V} {us : List Value}, Vals [x, y] us → ∃ u v, us = [u, v] ∧ RelV x u ∧ RelV y v
  | _, _, _, .cons r (.cons q .nil) => ⟨_, _, rfl, r, q⟩
theorem Vals.zero : ∀ {us : List Value}, Vals [] us → us = []
  | _, .nil => rfl
theorem Vals.dropLast {xs : List V} {us : List Value} (h : Vals xs us) : Vals xs.dropLast us.dropLast := by
  induction h with
  | nil => exact .nil
  | cons r t ih =>
    cases t with
    | nil => exact .nil
    | cons q t' => exact .cons r ih
theorem Vals.eraseIdx : ∀ {xs : List V} {us : List Value} (i : Nat), Vals xs us → Vals (xs.eraseIdx i) (us.eraseIdx i)
  | _, _, _, .nil => .nil
  | _, _, 0, .cons _ t => t
  | _, _, i + 1, .cons r t => .cons r (Vals.eraseIdx i t)
theorem Vals.reverse {xs : List V} {us : List Value} (h : Vals xs us) : Vals xs.reverse us.reverse := by
  induction h with
  | nil => exact .nil
  | cons r t ih => rw [List.reverse_cons, List.reverse_cons]; exact Vals.append ih (.cons r .nil)
section
variable {X : Cx} {pins : List (Addr × Obj)} {σ : St} {H : Hp} {s : Shared} {l b : Addr} {xs ys zs : List V}

/-! ### the two steps: a tracked list is rewritten, a new list is laid -/
theorem Inv.lset {its its' : List Value} {n : Nat} {f : Array Value → Array Value} {t' : Nat} (I : Inv X pins σ H s) (hH : H l = some (.lst xs))
    (e : s.heap.get? l = some { cls := .type "list", data := .seq its.toArray n }) (hf : f its.toArray = its'.toArray) (hv : Vals ys its') (hz : ys.length ≤ sizeLine) :
    Inv X pins σ (upd H l (.lst ys)) { s with heap := s.heap.update l (Obj.mapSeq f), toks := t' } := by
  have q := PySem.IsL.update e f
  rw [hf] at q
  refine I.write (x := l) (e := l) (by rw [hH]; exact trivial) (.inl rfl) (fun b' u hb hu => (Heap.get?_update_other s.heap (Obj.mapSeq f) (Ne.symm hb)).trans hu) ⟨_, q⟩ ?_
  exact ⟨hz, its', _, hv, q⟩
theorem Inv.lnew {its : List Value} {t' : Nat} (I : Inv X pins σ H s) (hv : Vals ys its) (hz : ys.length ≤ sizeLine) :
    Inv X pins σ (upd H s.heap.objs.size (.lst ys)) { s with heap := s.heap.push { cls := .type "list", data := .seq its.toArray }, toks := t' } :=
  I.laid (fun _ _ q => Heap.get?_push_of_some _ q) (Nat.le_refl _) ⟨hz, its, 0, hv, Heap.get?_push_size _ rfl⟩
theorem Inv.fresh (I : Inv X pins σ H s) : H s.heap.objs.size = none := I.hok.fresh (Nat.le_refl _)
theorem Inv.lstM (I : Inv X pins σ H s) (hH : H l = some (.lst xs)) : xs.length ≤ sizeLine ∧ ∃ (its : List Value) (n : Nat), Vals xs its ∧ xs.length = its.length ∧ s.heap.get? l = some { cls := .type "list", data := .seq its.toArray n } := by
  obtain ⟨z, its, n, r, e⟩ := I.hok l _ hH
  exact ⟨z, its, n, r, r.length, e⟩

end

section
variable {X : Cx}

/-! ### methods -/
def rAppend : V → List V → Hp → VK → Prop := fun x vs H Q => ∃ l xs y, x = .ref l ∧ vs = [y] ∧ H l = some (.lst xs) ∧ xs.length < sizeLine ∧ Q .non (upd H l (.lst (xs ++ [y])))
theorem mt_append : MtM X "list.append" rAppend := by
  intro pins s σ H x vs v us Q I rx rv h
  obtain ⟨l, xs, y, rfl, rfl, hH, hz, q⟩ := h
  cases rx
  obtain ⟨u, rfl, ru⟩ := rv.one
  obtain ⟨z, its, n, r, hl, e⟩ := I.lstM hH
  refine call_meets F.slot_list_append ⟨_, e, rfl⟩ F.entry_list_append (F.args_list_append_2 _ _) (PySem.list_append l its.toArray n u (by rw [List.size_toArray]; omega)) ⟨e, ?_⟩
  refine ⟨.non, _, I.lset (its' := its ++ [u]) hH e (by simp) (r.append (.cons ru .nil)) ?_, rfl, q⟩
  rw [List.length_append, List.length_singleton]
  omega

def rClear : V → List V → Hp → VK → Prop := fun x vs H Q => ∃ l xs, x = .ref l ∧ vs = [] ∧ H l = some (.lst xs) ∧ Q .non (upd H l (.lst []))
theorem mt_clear : MtM X "list.clear" rClear := by
  intro pins s σ H x vs v us Q I rx rv h
  obtain ⟨l, xs, rfl, rfl, hH, q⟩ := h
  cases rx
  have hus := rv.zero
  subst hus
  obtain ⟨z, its, n, r, hl, e⟩ := I.lstM hH
  refine call_meets F.slot_list_clear ⟨_, e, rfl⟩ F.entry_list_clear (F.args_list_clear_1 _) (AutoSeq1.list_clear_list_0 l its.toArray n (by rw [List.size_toArray]; omega)) ⟨e, ?_⟩
  exact ⟨.non, _, I.lset (its' := []) (ys := []) hH e rfl .nil (Nat.zero_le _), rfl, q⟩

/-! ### list + list, list += list, list * int -/
def rCat : R2 := fun x y H Q => ∃ l b xs zs, x = .ref l ∧ y = .ref b ∧ H l = some (.lst xs) ∧ H b = some (.lst zs) ∧ xs.length + zs.length ≤ sizeLine ∧ ∀ p, H p = none → Q (.ref p) (upd H p (.lst (xs ++ zs)))
theorem op_cat : OpR X (binaryOp .Add) rCat := by
  intro pins s σ H x y v u Q I rx ry h
  obtain ⟨l, b, xs, zs, rfl, rfl, hH, hB, hz, q⟩ := h
  cases rx
  cases ry
  obtain ⟨z, its, n, r, hl, e⟩ := I.lstM hH
  obtain ⟨z2, its2, n2, r2, hl2, e2⟩ := I.lstM hB
  refine PySem.P.add_list e e2 ?_ (by rw [List.size_toArray, List.size_toArray]; omega)
  have ea : its.toArray ++ its2.toArray = (its ++ its2).toArray := by simp
  rw [ea]
  exact ⟨.ref _, _, I.lnew (t' := s.toks) (r.append r2) (by rw [List.length_append]; omega), rfl, q _ I.fresh⟩
/-! ### del xs[i] -/
end

/-! ### xs[a:b] = ys -/
section
variable {prog : Program} {w : World} {A : Around} {E : Value → Shared → Prop} {s : Shared}
end

section
variable {X : Cx}
end
end L2

namespace L2
open PySem PySem.Spec PyProof.Rows

/-! ### lists of pairs as tables -/
section
variable {κ : Type} [DecidableEq κ]
def valV (kvs : List (κ × V)) (k : κ) : Option V := (kvs.find? fun kv => decide (kv.1 = k)).map (·.2)
/-- in its place, or at the end -/
def putK (kvs : List (κ × V)) (k : κ) (v : V) : List (κ × V) :=
  if (kvs.any fun kv => decide (kv.1 = k)) = true then kvs.map (fun kv => if kv.1 = k then (kv.1, v) else kv) else kvs ++ [(k, v)]
def dropK (kvs : List (κ × V)) (k : κ) : List (κ × V) := kvs.filter fun kv => decide (kv.1 ≠ k)

theorem valV_pos {p : κ × V} {r : List (κ × V)} {k : κ} (e : p.1 = k) : valV (p :: r) k = some p.2 := by simp [valV, List.find?_cons, e]
theorem valV_neg {p : κ × V} {r : List (κ × V)} {k : κ} (e : ¬ p.1 = k) : valV (p :: r) k = valV r k := by simp [valV, List.find?_cons, e]
theorem valV_any (k : κ) : ∀ kvs : List (κ × V), (kvs.any fun kv => decide (kv.1 = k)) = (valV kvs k).isSome
  | [] => rfl
  | p :: r => by
    rw [List.any_cons]
    by_cases e : p.1 = k
    · simp only [valV_pos e, decide_eq_true e, Bool.true_or, Option.isSome_some]
    · rw [valV_neg e, decide_eq_false e, Bool.false_or]; exact valV_any k r
theorem length_putK (kvs : List (κ × V)) (k : κ) (v : V) : (putK kvs k v).length ≤ kvs.length + 1 := by
  unfold putK
  split
  · rw [List.length_map]; omega
  · rw [List.length_append, List.length_cons, List.length_nil]; omega
theorem RelO.isSome_eq {o : Option V} {u : Option Value} (r : RelO o u) : o.isSome = u.isSome := by
  cases o with
  | none => cases u with
    | none => rfl
    | some _ => exact (show False from r).elim
  | some _ => cases u with
    | none => exact (show False from r).elim
    | some _ => rfl
theorem RelO.getD {o : Option V} {u : Option Value} {d : V} {d' : Value} (r : RelO o u) (rd : RelV d d') : RelV (o.getD d) (u.getD d') := by
  cases o with
  | none => cases u with
    | none => exact rd
    | some _ => exact (show False from r).elim
  | some _ => cases u with
    | none => exact (show False from r).elim
    | some _ => exact r

/-- raw tables of the same keys -/
theorem KV.val {kvs : List (κ × V)} {vs : List (κ × Value)} (r : KV kvs vs) (k : κ) : RelO (valV kvs k) (valueAt vs k) := by
  unfold KV at r
  induction r with
  | nil => exact True.intro
  | @cons p q ps qs h t ih =>
    obtain ⟨h1, h2⟩ := h
    by_cases e : p.1 = k
    · have e' : q.1 = k := h1.symm.trans e
      have b : valueAt (q :: qs) k = some q.2 := by simp [valueAt, List.find?_cons, e']
      rw [valV_pos e, b]; exact h2
    · have e' : ¬ q.1 = k := fun z => e (h1.trans z)
      have b : valueAt (q :: qs) k = valueAt qs k := by simp [valueAt, List.find?_cons, e']
      rw [valV_neg e, b]; exact ih
theorem KV.any {kvs : List (κ × V)} {vs : List (κ × Value)} (r : KV kvs vs) (k : κ) : (kvs.any fun kv => decide (kv.1 = k)) = vs.any fun kv => decide (kv.1 = k) := by
  unfold KV at r
  induction r with
  | nil => rfl
  | cons h t ih => rw [List.any_cons, List.any_cons, ih, h.1]
theorem KV.repl {kvs : List (κ × V)} {vs : List (κ × Value)} (r : KV kvs vs) (k : κ) {y : V} {u : Value} (ry : RelV y u) :
    KV (kvs.map fun kv => if kv.1 = k then (kv.1, y) else kv) (vs.map fun kv => if kv.1 = k then (kv.1, u) else kv) := by
  unfold KV at r ⊢
  induction r with
  | nil => exact .nil
  | @cons p q ps qs h t ih =>
    rw [List.map_cons, List.map_cons]
    refine .cons ?_ ih
    obtain ⟨h1, h2⟩ := h
    by_cases e : p.1 = k
    · rw [if_pos e, if_pos (h1.symm.trans e)]; exact ⟨h1, ry⟩
    · rw [if_neg e, if_neg (fun z => e (h1.trans z))]; exact ⟨h1, h2⟩
theorem KV.put {kvs : List (κ × V)} {vs : List (κ × Value)} (r : KV kvs vs) (k : κ) {y : V} {u : Value} (ry : RelV y u) : KV (putK kvs k y) (stored vs k u) := by
  unfold putK stored
  rw [r.any k]
  by_cases e : (vs.any fun kv => decide (kv.1 = k)) = true
  · rw [if_pos e, if_pos e]; exact r.repl k ry
  · rw [if_neg e, if_neg e]; exact Paired.snoc r ⟨rfl, ry⟩
theorem KV.drop {kvs : List (κ × V)} {vs : List (κ × Value)} (r : KV kvs vs) (k : κ) : KV (dropK kvs k) (without vs k) := by
  unfold KV at r ⊢
  unfold dropK without
  induction r with
  | nil => exact .nil
  | @cons p q ps qs h t ih =>
    obtain ⟨h1, h2⟩ := h
    rw [List.filter_cons, List.filter_cons]
    by_cases e : p.1 = k
    · have a : ¬ decide (p.1 ≠ k) = true := by simp [e]
      have b : ¬ decide (q.1 ≠ k) = true := by simp [h1.symm.trans e]
      rw [if_neg a, if_neg b]; exact ih
    · have e' : ¬ q.1 = k := fun z => e (h1.trans z)
      have a : decide (p.1 ≠ k) = true := by simp [e]
      have b : decide (q.1 ≠ k) = true := by simp [e']
      rw [if_pos a, if_pos b]; exact .cons ⟨h1, h2⟩ ih
theorem KV.keys {kvs : List (κ × V)} {vs : List (κ × Value)} (r : KV kvs vs) : kvs.map (·.1) = vs.map (·.1) := by
  unfold KV at r
  induction r with
  | nil => rfl
  | cons h t ih => rw [List.map_cons, List.map_cons, ih, h.1]
theorem KV.length {kvs : List (κ × V)} {vs : List (κ × Value)} (r : KV kvs vs) : kvs.length = vs.length := Paired.length r
end


/-! ### a tracked dict, its keys ints and texts or tuples of these -/
theorem kV_is {P : Program} {w : World} {k : Key} {u : Value} (r : RelV (kV k) u) : (mixKind P w).is k u = true := by
  cases k with
  | inl i => obtain ⟨t, e⟩ := (show ∃ t, u = Value.int i t from r); subst e; exact mixKind_int P w i t
  | inr x => obtain ⟨t, e⟩ := (show ∃ t, u = Value.str x t from r); subst e; exact mixKind_str P w x t
theorem items_are {P : Program} {w : World} : ∀ {ks : List Key} {us : List Value}, Vals (ks.map kV) us → ItemsAre (mixKind P w) ks us
  | [], _, r => by rw [List.map_nil] at r; cases r; exact .nil
  | k :: ks, _, r => by
    rw [List.map_cons] at r
    cases r with
    | cons h t => exact .cons (kV_is h) (items_are t)

/-- raw entries of a dict with tuple keys -/
abbrev KT (H : Hp) : List (List Key × V) → List (List Key × Addr × Value) → Prop := Paired fun p q => p.1 = q.1 ∧ H q.2.1 = some (.tup (p.1.map kV)) ∧ RelV p.2 q.2.2
theorem KT.val {H : Hp} {kvs : List (List Key × V)} {xs : List (List Key × Addr × Value)} (r : KT H kvs xs) (k : List Key) : RelO (valV kvs k) ((atKey xs k).map (·.2)) := by
  induction r with
  | nil => exact True.intro
  | @cons p q ps qs h t ih =>
    obtain ⟨h1, _, h2⟩ := h
    by_cases e : p.1 = k
    · have e' : q.1 = k := h1.symm.trans e
      have b : atKey (q :: qs) k = some q.2 := by simp [atKey, List.find?_cons, e']
      rw [valV_pos e, b]; exact h2
    · have e' : ¬ q.1 = k := fun z => e (h1.trans z)
      have b : atKey (q :: qs) k = atKey qs k := by simp [atKey, List.find?_cons, e']
      rw [valV_neg e, b]; exact ih
theorem KT.repl {H : Hp} {kvs : List (List Key × V)} {xs : List (List Key × Addr × Value)} (r : KT H kvs xs) (k : List Key) {y : V} {u : Value} (ry : RelV y u) :
    KT H (kvs.map fun kv => if kv.1 = k then (kv.1, y) else kv) (xs.map (putAt k u)) := by
  induction r with
  | nil => exact .nil
  | @cons p q ps qs h t ih =>
    rw [List.map_cons, List.map_cons]
    refine .cons ?_ ih
    obtain ⟨h1, h2, h3⟩ := h
    unfold putAt
    by_cases e : p.1 = k
    · rw [if_pos e, if_pos (h1.symm.trans e)]; exact ⟨h1, h2, ry⟩
    · rw [if_neg e, if_neg (fun z => e (h1.trans z))]; exact ⟨h1, h2, h3⟩
theorem KT.put {H : Hp} {kvs : List (List Key × V)} {xs : List (List Key × Addr × Value)} (r : KT H kvs xs) (k : List Key) {b : Addr} {y : V} {u : Value} (hb : H b = some (.tup (k.map kV))) (ry : RelV y u) :
    KT H (putK kvs k y) (storedH xs k b u) := by
  have e : (kvs.any fun kv => decide (kv.1 = k)) = (atKey xs k).isSome := by
    rw [valV_any, (r.val k).isSome_eq, Option.isSome_map]
  unfold putK storedH
  rw [e]
  by_cases q : (atKey xs k).isSome = true
  · rw [if_pos q, if_pos q]; exact r.repl k ry
  · rw [if_neg q, if_neg q]; exact Paired.snoc r ⟨rfl, hb, ry⟩
theorem KT.keeps {H H' : Hp} {kvs : List (List Key × V)} {xs : List (List Key × Addr × Value)} (r : KT H kvs xs) (ht : ∀ b ys, H b = some (.tup ys) → H' b = some (.tup ys)) : KT H' kvs xs :=
  Paired.mapP r fun _ _ z => ⟨z.1, ht _ _ z.2.1, z.2.2⟩

section
variable {P : Program} {w : World} {H : Hp} {h : Heap} {a : Addr}
theorem rd_of {u : HO} (ok : HOk P w H h) (e : Rd H a u) : ObjOk P w H h a u := e.ok ok
theorem dk_rd {kvs : List (Key × V)} (ok : HOk P w H h) (e : Rd H a (.dK kvs)) : kvs.length ≤ sizeLine ∧ (a == sysModules) = false ∧ ∃ vs, KV kvs vs ∧ h.DictOf (mixKind P w) a vs :=
  show ObjOk P w H h a (.dK kvs) from rd_of ok e
theorem dk_of {kvs : List (Key × V)} (ok : HOk P w H h) (e : H a = some (.dK kvs)) : kvs.length ≤ sizeLine ∧ (a == sysModules) = false ∧ ∃ vs, KV kvs vs ∧ h.DictOf (mixKind P w) a vs := dk_rd ok (.inl e)
/-- a tracked tuple of ints and texts is a key -/
theorem key_of {ks : List Key} (ok : HOk P w H h) (e : H a = some (.tup (ks.map kV))) : (tupleKind (mixKind P w)).is h ks a := by
  obtain ⟨_, its, r, o, h1, h2, n, h3⟩ := (show ObjOk P w H h a (.tup (ks.map kV)) from ok a _ e)
  exact ⟨o, its.toArray, n, h1, h2, h3, by simpa using items_are r⟩
theorem dt_rd {kvs : List (List Key × V)} (ok : HOk P w H h) (e : Rd H a (.dT kvs)) : kvs.length ≤ sizeLine ∧ (a == sysModules) = false ∧
    ∃ xs, KT H kvs xs ∧ h.DictOfH (tupleKind (mixKind P w)) a xs := by
  obtain ⟨z, y, xs, r, o, es, ep, h1, h2, h3, h4, h5⟩ := (show ObjOk P w H h a (.dT kvs) from rd_of ok e)
  refine ⟨z, y, xs, r, o, es, ep, h1, h2, h3, h4, fun x hx => ?_, h5⟩
  have all : ∀ {l : List (List Key × V)} {m : List (List Key × Addr × Value)}, KT H l m → ∀ x ∈ m, (tupleKind (mixKind P w)).is h x.1 x.2.1 := by
    intro l m q
    induction q with
    | nil => intro x hx; exact nomatch hx
    | @cons p q ps qs hq t ih =>
      intro x hx
      rcases List.mem_cons.mp hx with e | hx
      · subst e
        exact key_of ok (by rw [← hq.1]; exact hq.2.1)
      · exact ih x hx
  exact all r x hx
theorem dt_of {kvs : List (List Key × V)} (ok : HOk P w H h) (e : H a = some (.dT kvs)) : kvs.length ≤ sizeLine ∧ (a == sysModules) = false ∧
    ∃ xs, KT H kvs xs ∧ h.DictOfH (tupleKind (mixKind P w)) a xs := dt_rd ok (.inl e)
end

/-- what the dict at a holds at the key y -/
def DGet (H : Hp) (a : Addr) (y : V) (r : Option V) : Prop :=
  (∃ kvs k, Rd H a (.dK kvs) ∧ y = kV k ∧ r = valV kvs k) ∨ ∃ kvs k b, Rd H a (.dT kvs) ∧ y = .ref b ∧ H b = some (.tup (k.map kV)) ∧ r = valV kvs k
/-- the heap behind a[y] = v -/
def DPut (H : Hp) (a : Addr) (y v : V) (H' : Hp) : Prop :=
  (∃ kvs k, H a = some (.dK kvs) ∧ y = kV k ∧ kvs.length < sizeLine ∧ H' = upd H a (.dK (putK kvs k v))) ∨
  ∃ kvs k b, H a = some (.dT kvs) ∧ y = .ref b ∧ H b = some (.tup (k.map kV)) ∧ kvs.length < sizeLine ∧ H' = upd H a (.dT (putK kvs k v))
theorem DGet.k {H : Hp} {a : Addr} {kvs : List (Key × V)} {k : Key} (e : H a = some (.dK kvs)) : DGet H a (kV k) (valV kvs k) := .inl ⟨kvs, k, .inl e, rfl, rfl⟩
theorem DGet.t {H : Hp} {a b : Addr} {kvs : List (List Key × V)} {k : List Key} (e : H a = some (.dT kvs)) (eb : H b = some (.tup (k.map kV))) : DGet H a (.ref b) (valV kvs k) := .inr ⟨kvs, k, b, .inl e, rfl, eb, rfl⟩
theorem DPut.k {H : Hp} {a : Addr} {kvs : List (Key × V)} {k : Key} {v : V} (e : H a = some (.dK kvs)) (hl : kvs.length < sizeLine) : DPut H a (kV k) v (upd H a (.dK (putK kvs k v))) := .inl ⟨kvs, k, e, rfl, hl, rfl⟩
theorem DPut.t {H : Hp} {a b : Addr} {kvs : List (List Key × V)} {k : List Key} {v : V} (e : H a = some (.dT kvs)) (eb : H b = some (.tup (k.map kV))) (hl : kvs.length < sizeLine) :
    DPut H a (.ref b) v (upd H a (.dT (putK kvs k v))) := .inr ⟨kvs, k, b, e, rfl, eb, hl, rfl⟩


section
variable {X : Cx} {pins : List (Addr × Obj)} {σ : St} {H : Hp} {s : Shared} {a : Addr} {y v : V} {u r : Value} {o : Option V} {A : Around} {E : Value → Shared → Prop}

theorem Inv.big (I : Inv X pins σ H s) : sysModules < s.heap.objs.size := by
  have h : mainGlobals < s.heap.objs.size := (I.mod.glob.keeps I.bk).lt
  exact Nat.lt_trans (by decide) h

/-- d[y], there -/
theorem d_getItem {Q : Value → Shared → Prop} (hu : A.units + 1 < cLine) (I : Inv X pins σ H s) (g : DGet H a y (some v)) (ry : RelV y u) (h : ∀ w' s', Inv X pins σ H s' → RelV v w' → Q w' s') :
    wpAny (model X.prog X.w) A (getItem (.ref a) u) Q E s := by
  rcases g with ⟨kvs, k, e, ey, l⟩ | ⟨kvs, k, b, e, ey, eb, l⟩
  · subst ey
    obtain ⟨z, hd, vs, rel, dd⟩ := dk_rd I.hok e
    obtain ⟨w', hw, rw'⟩ := RelO.some_of (v := v) (o := valueAt vs k) (by rw [l]; exact rel.val k)
    exact wpAny_getItem_of (kV_is ry) dd.mapOf hw (h w' _ (I.tok _) rw')
  · subst ey
    cases (show u = Value.ref b from ry)
    obtain ⟨z, hd, xs, rel, dd⟩ := dt_rd I.hok e
    obtain ⟨w', hw, rw'⟩ := RelO.some_of (v := v) (o := (atKey xs k).map (·.2)) (by rw [l]; exact rel.val k)
    obtain ⟨p, hp, hp2⟩ := Option.map_eq_some_iff.mp hw
    refine wpAny_getItem_heap (tupleKind_room_in1 hu) (key_of I.hok eb) dd hp ?_
    rw [hp2]
    exact h w' _ (I.tok _) rw'
/-- y in d -/
theorem d_in {Q : Value → Shared → Prop} (hu : A.units + 1 < cLine) (I : Inv X pins σ H s) (g : DGet H a y o) (ry : RelV y u) (h : ∀ s', Inv X pins σ H s' → Q (.bool o.isSome) s') :
    wpAny (model X.prog X.w) A (compareOp .In u (.ref a)) Q E s := by
  rcases g with ⟨kvs, k, e, ey, l⟩ | ⟨kvs, k, b, e, ey, eb, l⟩
  · subst ey
    obtain ⟨z, hd, vs, rel, dd⟩ := dk_rd I.hok e
    refine wpAny_in_of (kV_is ry) hd dd.mapOf ?_
    rw [← (rel.val k).isSome_eq, ← l]
    exact h _ (I.tok _)
  · subst ey
    cases (show u = Value.ref b from ry)
    obtain ⟨z, hd, xs, rel, dd⟩ := dt_rd I.hok e
    refine wpAny_in_heap (tupleKind_room_in1 hu) (key_of I.hok eb) hd dd ?_
    have q := (rel.val k).isSome_eq
    rw [Option.isSome_map] at q
    rw [← q, ← l]
    exact h _ (I.tok _)
theorem d_notIn {Q : Value → Shared → Prop} (hu : A.units + 1 < cLine) (I : Inv X pins σ H s) (g : DGet H a y o) (ry : RelV y u) (h : ∀ s', Inv X pins σ H s' → Q (.bool (!o.isSome)) s') :
    wpAny (model X.prog X.w) A (compareOp .NotIn u (.ref a)) Q E s := by
  rcases g with ⟨kvs, k, e, ey, l⟩ | ⟨kvs, k, b, e, ey, eb, l⟩
  · subst ey
    obtain ⟨z, hd, vs, rel, dd⟩ := dk_rd I.hok e
    refine wpAny_notIn_of (kV_is ry) hd dd.mapOf ?_
    rw [← (rel.val k).isSome_eq, ← l]
    exact h _ (I.tok _)
  · subst ey
    cases (show u = Value.ref b from ry)
    obtain ⟨z, hd, xs, rel, dd⟩ := dt_rd I.hok e
    refine wpAny_notIn_heap (tupleKind_room_in1 hu) (key_of I.hok eb) hd dd ?_
    have q := (rel.val k).isSome_eq
    rw [Option.isSome_map] at q
    rw [← q, ← l]
    exact h _ (I.tok _)
/-- a dict's object is replaced -/
theorem d_write {h' : Heap} {t' : Nat} {ob : HO} (I : Inv X pins σ H s) (mu : Mut (H a)) (hs : Heap.SameBut a s.heap h') (he : ∃ q, h'.get? a = some q) (new : ObjOk X.prog X.w (upd H a ob) h' a ob) :
    Inv X pins σ (upd H a ob) { s with heap := h', toks := t' } :=
  I.write (x := a) (e := a) mu (.inl rfl) (fun b q hb z => (hs.2 b hb).trans z) he new
theorem dk_new {P : Program} {w : World} {H' : Hp} {h' : Heap} {kvs : List (Key × V)} {vs : List (Key × Value)} (z : kvs.length ≤ sizeLine) (hd : (a == sysModules) = false) (rel : KV kvs vs) (dd : h'.DictOf (mixKind P w) a vs) :
    ObjOk P w H' h' a (.dK kvs) := ⟨z, hd, vs, rel, dd⟩
/-- d[y] = v -/
theorem d_setItem {H' : Hp} {Q : Unit → Shared → Prop} (hu : A.units + 1 < cLine) (I : Inv X pins σ H s) (g : DPut H a y v H') (ry : RelV y u) (rv : RelV v r) (h : ∀ s', Inv X pins σ H' s' → Q () s') :
    wpAny (model X.prog X.w) A (setItem (.ref a) u r) Q E s := by
  rcases g with ⟨kvs, k, e, ey, l, eH⟩ | ⟨kvs, k, b, e, ey, eb, l, eH⟩
  · subst ey eH
    obtain ⟨z, hd, vs, rel, dd⟩ := dk_of I.hok e
    have hz : vs.length ≤ sizeLine := by rw [← rel.length]; exact z
    have hl : (putK kvs k v).length ≤ sizeLine := by have := length_putK kvs k v; omega
    refine wpAny_setItem_pairs (hsz := hz) (kV_is ry) dd fun h' dd' hs => h _ ?_
    have he : ∃ q, h'.get? a = some q := let ⟨q, _, _, hq, _⟩ := dd'; ⟨q, hq⟩
    exact d_write I (by rw [e]; exact True.intro) hs he (dk_new hl hd (rel.put k rv) dd')
  · subst ey eH
    cases (show u = Value.ref b from ry)
    obtain ⟨z, hd, xs, rel, dd⟩ := dt_of I.hok e
    have hz : xs.length ≤ sizeLine := by rw [← Paired.length rel]; exact z
    have hl : (putK kvs k v).length ≤ sizeLine := by have := length_putK kvs k v; omega
    refine wpAny_setItem_heap (hsz := hz) (tupleKind_room_in1 hu) (key_of I.hok eb) dd fun h' dd' hs => h _ ?_
    obtain ⟨q, es, ep, hq, h2, h3, h4, _, h5⟩ := dd'
    refine d_write I (by rw [e]; exact True.intro) hs ⟨q, hq⟩ ⟨hl, hd, _, (rel.put k eb rv).keeps fun c ys ec => ?_, q, es, ep, hq, h2, h3, h4, h5⟩
    rw [upd_ne (ne_of ec e (fun z => nomatch z))]
    exact ec
end

section
variable {X : Cx} {pins : List (Addr × Obj)} {σ : St} {H : Hp} {s : Shared} {a : Addr} {kvs : List (Key × V)} {k : Key} {u : Value} {A : Around} {E : Value → Shared → Prop}
end


/-! ### readings and rules -/
/-- the element of a subscription, not a slice -/
def NoSl (i : Expr) : Prop := ∀ ov iv, subscripted i false ov iv = operate [ov, iv] (getItem ov iv)
theorem subD_of {prog : Program} {w : World} {A : Around} {E : Value → Shared → Prop} {s : Shared} {env : Env} {value slice : Expr} {pos : Pos} {T id : String} {Q : Value → Shared → Prop}
    (hl : typeLookup (.type T) "__getitem__" = pure (some (.builtin id))) (hs : NoSl slice)
    (h : wpAny (model prog w) A (eval value env) (fun o s₁ => wpAny (model prog w) A (eval slice env) (fun i s₂ => s₂.TypeIs o T ∧ wpAny (model prog w) A (getItem o i) Q E s₂) E s₁) E s) :
    wpAny (model prog w) A (eval (.Subscript value slice pos) env) Q E s := by
  refine Subscript_ (wpAny_mono h (fun o s₁ h₁ => wpAny_mono h₁ (fun i s₂ h₂ => ?_) fun _ _ x => x) fun _ _ x => x)
  obtain ⟨hT, h₂⟩ := h₂
  unfold subscriptTail
  refine wpAny_bind ?_
  rw [getitemInPython_of_ne hT.not_modules]
  refine wpAny_bind (wpAny_specialOf hT hl ?_)
  have fin : wpAny (model prog w) A (subscripted slice false o i) (fun r s₃ => wpAny (model prog w) A (letTemporaryGo value o r >>= fun _ => pure r) Q E s₃) E s₂ := by
    rw [hs o i]
    exact wpAny_operating (wpAny_mono h₂ (fun r s₃ h₃ => wpAny_bind (wpAny_letTemporaryGo (wpAny_pure h₃))) fun _ _ x => x)
  first
    | exact wpAny_pure (wpAny_bind fin)
    | exact wpAny_bind (wpAny_pure (wpAny_bind fin))
    | exact wpAny_bind fin

theorem dict_typeIs {X : Cx} {pins : List (Addr × Obj)} {σ : St} {H : Hp} {s : Shared} {a : Addr} {y : V} {o : Option V} (I : Inv X pins σ H s) (g : DGet H a y o) : s.TypeIs (.ref a) "dict" := by
  rcases g with ⟨kvs, k, e, _, _⟩ | ⟨kvs, k, b, e, _, _, _⟩
  · obtain ⟨_, _, vs, _, dd⟩ := dk_rd I.hok e
    exact dd.typeIs
  · obtain ⟨_, _, xs, _, dd⟩ := dt_rd I.hok e
    exact dd.typeIs
/-- d[y] -/
def tDGet (td ty : TE) : TE := fun σ H Q => td σ H fun x H1 => ty σ H1 fun y H2 => ∃ a v, x = .ref a ∧ DGet H2 a y (some v) ∧ Q v H2
/-- y in d, y not in d -/
def tDIn (ty td : TE) : TE := fun σ H Q => ty σ H fun y H1 => td σ H1 fun x H2 => ∃ a o, x = .ref a ∧ DGet H2 a y o ∧ Q (.bl o.isSome) H2
def tDNotIn (ty td : TE) : TE := fun σ H Q => ty σ H fun y H1 => td σ H1 fun x H2 => ∃ a o, x = .ref a ∧ DGet H2 a y o ∧ Q (.bl (!o.isSome)) H2
/-- d[y] = v -/
def sDPut (td ty tv : TE) : TS := fun D σ H => tv σ H fun v H1 => td σ H1 fun x H2 => ty σ H2 fun y H3 => ∃ a H4, x = .ref a ∧ DPut H3 a y v H4 ∧ D.nx σ H4
section
variable {X : Cx} {o i e value : Expr} {pos pos' tpos : Pos} {td ty tv : TE}
theorem pe_dget (hu : X.A.units + 1 < cLine) (ho : PE X o td) (hi : PE X i ty) (hs : NoSl i) : PE X (.Subscript o i pos) (tDGet td ty) := by
  constructor; intro pins s σ H Q I h
  refine subD_of PySem.F.slot_dict_getitem.lookup hs (thn (ho pins s σ H _ I h) fun u s1 ⟨x, H1, I1, rx, q1⟩ => thn (hi pins s1 σ H1 _ I1 q1) fun iv s2 ⟨y, H2, I2, ry, a, v, ex, g, q2⟩ => ?_)
  subst ex
  obtain rfl : u = Value.ref a := rx
  exact ⟨dict_typeIs I2 g, d_getItem hu I2 g ry fun w' s3 I3 rw' => ⟨v, H2, I3, rw', q2⟩⟩
theorem pc_din (hu : X.A.units + 1 < cLine) (hi : PE X i ty) (ho : PE X o td) : PC X .In i o (tDIn ty td) := by
  constructor; intro pins s σ H Q I h
  refine thn (hi pins s σ H _ I h) fun iv s1 ⟨y, H1, I1, ry, q1⟩ => thn (ho pins s1 σ H1 _ I1 q1) fun u s2 ⟨x, H2, I2, rx, a, ov, ex, g, q2⟩ => ?_
  subst ex
  obtain rfl : u = Value.ref a := rx
  exact d_in hu I2 g ry fun s3 I3 => ⟨.bl ov.isSome, H2, I3, rfl, q2⟩
theorem pc_dnotin (hu : X.A.units + 1 < cLine) (hi : PE X i ty) (ho : PE X o td) : PC X .NotIn i o (tDNotIn ty td) := by
  constructor; intro pins s σ H Q I h
  refine thn (hi pins s σ H _ I h) fun iv s1 ⟨y, H1, I1, ry, q1⟩ => thn (ho pins s1 σ H1 _ I1 q1) fun u s2 ⟨x, H2, I2, rx, a, ov, ex, g, q2⟩ => ?_
  subst ex
  obtain rfl : u = Value.ref a := rx
  exact d_notIn hu I2 g ry fun s3 I3 => ⟨.bl (!ov.isSome), H2, I3, rfl, q2⟩
theorem ps_dput (hu : X.A.units + 1 < cLine) (ho : PE X o td) (hi : PE X i ty) (hv : PE X value tv) (hs : swapsWith value (some (.Subscript o i pos')) pos.line X.env = pure false) :
    PS X (.Assign [.Subscript o i pos'] value pos) (sDPut td ty tv) := by
  constructor; intro pins s σ H D I h
  refine wpAny_Assign_Subscript (thn (hv pins s σ H _ I h) fun r s1 ⟨v, H1, I1, rv, q1⟩ => thn (ho pins s1 σ H1 _ I1 q1) fun u s2 ⟨x, H2, I2, rx, q2⟩ => thn (hi pins s2 σ H2 _ I2 q2) fun iv s3 ⟨y, H3, I3, ry, a, H4, ex, g, q3⟩ => ?_) hs
  subst ex
  obtain rfl : u = Value.ref a := rx
  exact d_setItem hu I3 g ry rv fun s4 I4 => ⟨σ, H4, I4, q3⟩
end


/-! ### displays -/
theorem dt_empty {P : Program} {w : World} {H : Hp} (h : Heap) (hb : sysModules < h.objs.size) : ObjOk P w H (h.push { cls := .type "dict", data := .dict #[] }) h.objs.size (.dT []) :=
  ⟨Nat.zero_le _, beq_eq_false_iff_ne.mpr (Ne.symm (Nat.ne_of_lt hb)), [], .nil, _, #[], 0, Heap.get?_push_size _ rfl, ⟨rfl, rfl, rfl⟩, rfl, rfl, List.nodup_nil⟩
def tDNewT : TE := fun _ H Q => ∀ p, H p = none → Q (.ref p) (upd H p (.dT []))
section
variable {X : Cx} {pos : Pos}
theorem pe_dnewT : PE X (.Dict [] [] pos) tDNewT := ⟨fun pins s σ H Q I h =>
  wpAny_Dict_empty ⟨.ref s.heap.objs.size, _, I.laid (a := s.heap.objs.size) (o := .dT []) (t' := s.toks) (fun _ _ q => Heap.get?_push_of_some _ q) (Nat.le_refl _) (dt_empty s.heap I.big), rfl, h _ (I.hok.fresh (Nat.le_refl _))⟩⟩
end

/-- the pairs of a display, from the left -/
def tPairs : List (TE × TE) → St → Hp → (List (V × V) → Hp → Prop) → Prop
  | [], _, H, Q => Q [] H
  | (tk, tv) :: r, σ, H, Q => tk σ H fun x H1 => tv σ H1 fun y H2 => tPairs r σ H2 fun ps H3 => Q ((x, y) :: ps) H3
abbrev VV : List (V × V) → List (Value × Value) → Prop := Paired fun p q => RelV p.1 q.1 ∧ RelV p.2 q.2
def PPs (X : Cx) (pos : Pos) (keys : List (Option Expr)) (values : List Expr) (trs : List (TE × TE)) : Prop :=
  ∀ (pins : List (Addr × Obj)) (s : Shared) (σ : St) (H : Hp) (Q : List (V × V) → Hp → Prop), Inv X pins σ H s → tPairs trs σ H Q →
    wpAny (model X.prog X.w) X.A (evalPairs (pairTrees keys values X.env pos)) (fun vs s' => ∃ ps H', Inv X pins σ H' s' ∧ VV ps vs ∧ Q ps H') X.xe s
theorem pps_nil {X : Cx} {pos : Pos} : PPs X pos [] [] [] := fun pins s σ H Q I h => pairTrees_nil_walk ⟨[], H, I, .nil, h⟩
theorem pps_cons {X : Cx} {pos : Pos} {k v : Expr} {ks : List (Option Expr)} {vs : List Expr} {tk tv : TE} {trs : List (TE × TE)} (hk : PE X k tk) (hv : PE X v tv) (hr : PPs X pos ks vs trs) :
    PPs X pos (some k :: ks) (v :: vs) ((tk, tv) :: trs) := fun pins s σ H Q I h =>
  pairTrees_cons_walk (thn (hk pins s σ H _ I h) fun u s1 ⟨x, H1, I1, rx, q1⟩ => thn (hv pins s1 σ H1 _ I1 q1) fun w2 s2 ⟨y, H2, I2, ry, q2⟩ =>
    thn (hr pins s2 σ H2 _ I2 q2) fun ws s3 ⟨ps, H3, I3, rel, q3⟩ => ⟨(x, y) :: ps, H3, I3, .cons ⟨rx, ry⟩ rel, q3⟩)

/-! ### methods -/
/-- a method call o.m(e) of a built-in, with one argument: what must be seen of the text -/
structure M1 (X : Cx) (o : Expr) (m : Str) (apos : Pos) (e : Expr) (cpos : Pos) : Prop where
  base : attributeBase o m X.env (eval o X.env) = eval o X.env
  few : ((backTo cpos (starEach [e] X.env)).all (fun x => !x.1) && (backToKw cpos (keywordEach [] X.env)).all (fun x => x.1.isSome)
    && decide (([e] : List Expr).length + ([] : List Keyword).length + (if ([] : List Keyword).isEmpty then 0 else 1) < 30)) = true
  line : (apos.endLine == cpos.line) = true
  trees : backTo cpos (starEach [e] X.env) = [(false, eval e X.env)]
structure M2 (X : Cx) (o : Expr) (m : Str) (apos : Pos) (e f : Expr) (cpos : Pos) : Prop where
  base : attributeBase o m X.env (eval o X.env) = eval o X.env
  few : ((backTo cpos (starEach [e, f] X.env)).all (fun x => !x.1) && (backToKw cpos (keywordEach [] X.env)).all (fun x => x.1.isSome)
    && decide (([e, f] : List Expr).length + ([] : List Keyword).length + (if ([] : List Keyword).isEmpty then 0 else 1) < 30)) = true
  line : (apos.endLine == cpos.line) = true
  trees : backTo cpos (starEach [e, f] X.env) = [(false, eval e X.env), (false, eval f X.env)]

/-- a is a dict, whatever its keys -/
def IsD (H : Hp) (a : Addr) : Prop := (∃ kvs, Rd H a (.dK kvs)) ∨ ∃ kvs, Rd H a (.dT kvs)
theorem isD_at {X : Cx} {pins : List (Addr × Obj)} {σ : St} {H : Hp} {s : Shared} {a : Addr} (I : Inv X pins σ H s) (d : IsD H a) :
    s.TypeIs (.ref a) "dict" ∧ (∀ b, Value.ref a = .ref b → ∃ ob, s.heap.get? b = some ob ∧ ob.dict = none) ∧ (a == sysModules) = false := by
  rcases d with ⟨kvs, e⟩ | ⟨kvs, e⟩
  · obtain ⟨_, hd, vs, _, dd⟩ := dk_rd I.hok e
    refine ⟨dd.typeIs, fun b q => ?_, hd⟩
    cases q
    obtain ⟨ob, _, _, h1, h2, _⟩ := dd
    exact ⟨ob, h1, h2.2.1⟩
  · obtain ⟨_, hd, xs, _, dd⟩ := dt_rd I.hok e
    refine ⟨dd.typeIs, fun b q => ?_, hd⟩
    cases q
    obtain ⟨ob, _, _, h1, h2, _⟩ := dd
    exact ⟨ob, h1, h2.2.1⟩

section
variable {X : Cx} {pins : List (Addr × Obj)} {σ : St} {H : Hp} {s : Shared} {a : Addr} {y d : V} {u r : Value} {o : Option V} {A : Around} {E : Value → Shared → Prop}
/-- d.get(y, x) -/
theorem d_get2 {Q : Value → Shared → Prop} (hu : A.units + 1 < cLine) (I : Inv X pins σ H s) (g : DGet H a y o) (ry : RelV y u) (rd : RelV d r) (h : ∀ w' s', Inv X pins σ H s' → RelV (o.getD d) w' → Q w' s') :
    wpAny (model X.prog X.w) A (call (.builtin "dict.get") [.ref a, u, r]) Q E s := by
  rcases g with ⟨kvs, k, e, ey, l⟩ | ⟨kvs, k, b, e, ey, eb, l⟩
  · subst ey
    obtain ⟨z, hd, vs, rel, dd⟩ := dk_rd I.hok e
    refine call_meetsIn PySem.F.slot_dict_get dd.typeIs PySem.F.entry_dict_get (PySem.F.args_dict_get_3 _ _ _) (meets_dict_get_default (mixKind X.prog X.w) a (kV_is ry) hd r) ⟨_, dd.mapOf, h _ _ (I.tok _) ?_⟩
    rw [l]
    exact (rel.val k).getD rd
  · subst ey
    cases (show u = Value.ref b from ry)
    obtain ⟨z, hd, xs, rel, dd⟩ := dt_rd I.hok e
    refine call_meetsIn PySem.F.slot_dict_get dd.typeIs PySem.F.entry_dict_get (PySem.F.args_dict_get_3 _ _ _) (meetsH_dict_get_default (tupleKind (mixKind X.prog X.w)) a b hd r) ⟨tupleKind_room_in1 hu, k, xs, key_of I.hok eb, dd, h _ _ (I.tok _) ?_⟩
    rw [l]
    exact (rel.val k).getD rd
end

def tDGet2 (td ty tx : TE) : TE := fun σ H Q => td σ H fun x H1 => ∃ a, x = .ref a ∧ IsD H1 a ∧ ty σ H1 fun y H2 => tx σ H2 fun z H3 => ∃ o, DGet H3 a y o ∧ Q (o.getD z) H3
section
variable {X : Cx} {o e f : Expr} {apos cpos : Pos} {td ty tx : TE}
theorem pe_dget2 (hu : X.A.units + 1 < cLine) (ho : PE X o td) (he : PE X e ty) (hf : PE X f tx) (m : M2 X o "get" apos e f cpos) : PE X (.Call (.Attribute o "get" apos) [e, f] [] cpos) (tDGet2 td ty tx) := by
  constructor; intro pins s σ H Q I h
  refine wpAny_Call_method m.base m.few m.line PySem.F.plainAttrs_dict PySem.F.slot_dict_get PySem.F.type_dict_get (thn (ho pins s σ H _ I h) fun u s1 ⟨x, H1, I1, rx, a, ex, d, q1⟩ => ?_)
  subst ex
  obtain rfl : u = Value.ref a := rx
  obtain ⟨t1, t2, _⟩ := isD_at I1 d
  refine ⟨t1, t2, ?_⟩
  rw [m.trees]
  refine Calls.callWith_builtin rfl (Calls.evalArgs_plain (Calls.spliced_cons (thn (he pins s1 σ H1 _ I1 q1) fun iv s2 ⟨y, H2, I2, ry, q2⟩ =>
    Calls.spliced_cons (thn (hf pins s2 σ H2 _ I2 q2) fun fv s3 ⟨z, H3, I3, rz, ov, g, q3⟩ => Calls.spliced_nil ?_))))
  exact d_get2 hu I3 g ry rz fun w' s4 I4 rw' => ⟨_, H3, I4, rw', q3⟩
end

/-! ### dict(d): a copy -/
section
variable {X : Cx} {pins : List (Addr × Obj)} {σ : St} {H : Hp} {s : Shared} {a : Addr} {kvs : List (Key × V)} {A : Around} {E : Value → Shared → Prop}
end


section
variable {X : Cx} {pins : List (Addr × Obj)} {σ : St} {H : Hp} {s : Shared} {a : Addr} {y : V} {u : Value} {A : Around} {E : Value → Shared → Prop}
end
end L2

namespace Att
open PySem PySem.W PySem.Calls PyProof.Rows

/-! ### the script -/
theorem ints_of_wellAll {P : Params} {h : Heap} : ∀ (ns : List Int) (vs : List Value), WellAll P h vs (ns.map WData.int) → IntsAre vs ns := by
  intro ns
  induction ns with
  | nil =>
    intro vs w
    rw [List.map_nil] at w
    cases w
    exact .nil
  | cons n ns ih =>
    intro vs w
    rw [List.map_cons] at w
    cases w with
    | cons a b =>
      cases a
      exact .cons _ _ (ih _ b)

theorem script_of {l : OpenLaw} {n : Nat} (hn : l.most = some n) {P : Params} {h : Heap} {args : List WData} {vals : List Value}
    (hpre : l.row.toRowW.claim.pre args = true) (hwl : WellAll P h vals args) :
    ∃ a vs ns, vals = [Value.ref a] ∧ args = [WData.list (ns.map WData.int)] ∧ h.get? a = some { cls := .type "list", data := .seq vs.toArray } ∧ IntsAre vs ns ∧ ns.length ≤ n := by
  have hsh : WShape.hasAll [] args [.list .int] = true := (pre_splitW hpre).1
  have hc : l.pre.holds [] { args := args } = true := (pre_splitW hpre).2
  obtain ⟨d, r, rfl, h1, h2⟩ := hasAllW_cons hsh
  obtain rfl := hasAllW_nil h2
  obtain ⟨xs, rfl, h3⟩ := hasW_list h1
  obtain ⟨ns, rfl⟩ := items_int h3
  have hlen : ns.length ≤ n := by
    unfold OpenLaw.pre at hc
    have h4 : (WTm.not (.lt (.lit (.int (n : Int))) (.len (.arg 0)))).holds [] { args := [.list (ns.map .int)] } = true := by
      have h4 := (holds_andW hc).1
      rw [hn] at h4
      exact h4
    have h5 := condW_of h4 (w_not (w_lt w_lit (w_len_list (w_arg rfl))))
    rw [List.length_map] at h5
    refine Nat.le_of_not_lt fun q => ?_
    have q' : (n : Int) < ((ns.length : Nat) : Int) := by omega
    first
      | (rw [decide_eq_true q'] at h5; exact absurd h5 (by decide))
      | (simp at h5; omega)
  cases hwl with
  | cons w1 w2 =>
    cases w2
    cases w1 with
    | list ho hall => exact ⟨_, _, ns, rfl, rfl, ho, ints_of_wellAll ns _ hall, hlen⟩

theorem post_true (l : OpenLaw) (args : List WData) : l.row.toRowW.claim.post args (.bool true) args = true :=
  postW_of (r := l.row.toRowW) (X := (true == true))
    (show WShape.has [] (.bool true) .bool = true by first | rfl | decide | simp [WShape.has, WShape.arms, WShape.armsAll])
    (show (WTm.eq .res (.lit (.bool true))).value [] { args := args, res := some (.bool true), after := args } = some (.bool (true == true)) from w_eq_bool (w_res rfl) w_lit) rfl

/-! ### the attachment: holds_open's last premise (the goal 'hc' behind k_head) from a wpAny of the law's body -/
/-- the same from a codeAny of the CALL (for a layer whose function contracts speak of calls) -/
theorem attach_call {l : OpenLaw} {n : Nat} {q : Program} {loose : List Str} {XP : (Str → Option Value) → Heap → Prop} {YP : World → Heap → Prop} {d : DefRec}
    (hn : l.most = some n) (hdf : d.params.defaults = [])
    (call : ∀ (w : World) (s₀ s₁ : Shared) (mg mb : Str → Option Value) (fa : Addr) (o : Obj) (pm cd doc : Value) (a : Addr) (vs : List Value) (ns : List Int),
      Ground q loose [] XP w s₀ mg mb s₁.heap → YP w s₁.heap →
      s₁.heap.get? fa = some o → o.data = .func (docDef d.name d.params d.body d.scope pm cd doc) → s₁.heap.CodeRec cd d.name → mg d.name = some (.ref fa) →
      s₁.heap.get? a = some { cls := .type "list", data := .seq vs.toArray } → IntsAre vs ns → ns.length ≤ n → s₁.gens = #[] →
      codeAny (model l.prog w) callerA (.call (.ref fa) ⟨[.ref a], []⟩) (fun r s' => r = .ok (.ret (.bool true)) ∧ OldK s₁.heap s'.heap ∧ s'.os = s₁.os ∧ AllBare s'.gens) s₁) :
    WalkO q loose XP YP l.row.toRowW d [] (fun f vs => PySem.call f vs) := by
  intro w s₀ s₁ mg mb G Y fa o pm cd doc dV kV ho hd hcd hD hmg hg args vals as hpre hlay hrd hwl hlo
  obtain rfl : dV = .none := Dflts.none hD hdf
  obtain rfl : kV = .none := Dflts.noKw hD
  obtain ⟨a, vs, ns, rfl, rfl, hobj, hints, hlen⟩ := script_of hn hpre hwl
  refine enter_call (codeAny_mono (call w s₀ s₁ mg mb fa o pm cd doc a vs ns G Y ho (fd_plain hd) hcd hmg hobj hints hlen hg) fun r s' hq => ?_)
  obtain ⟨rfl, h2, h3, h4⟩ := hq
  exact ⟨.inl ⟨.bool true, .bool true, [], rfl, fun _ => rfl, .bool true, post_true l _, fun _ => ⟨List.Pairwise.nil, fun _ hm => (nomatch hm)⟩⟩, h2, h3, h4⟩

/-! ### rules over ANY heap (no ledger) from facts about the written part K: the library's own take a ledger (News) for what they write -/
section
variable {prog : Program} {w : World} {A : Around} {E : Value → Shared → Prop} {s : Shared} {K : Frag}

/-! the whole heap as the ledger: makes every rule that writes through a ledger a rule over any heap -/
def ledger (h : Heap) (L d : Addr) : List (Addr × Obj) := (List.range h.objs.size).filterMap fun a => if a = L ∨ a = d then none else (h.get? a).map fun o => (a, o)
end
end Att

namespace L2
open PySem PySem.Spec PyProof.Rows

theorem vals_ints : ∀ {vs : List Value} {ns : List Int}, IntsAre vs ns → Vals (ns.map V.int) vs
  | _, _, .nil => .nil
  | _, _, .cons n t h => .cons ⟨t, rfl⟩ (vals_ints h)

/-- nothing is tracked but the script, known to the object (or it is an object of the module) -/
def Only (H : Hp) : Prop := ∀ b, H b = none ∨ ∃ o xs, H b = some (.frz o (.lst xs))

/-- THE HEAD: the law's promise, at the heap behind the top. F, the promise of the law's def, may use that base is part of the heap (so K.In base, base.Ns mainGlobals mg stand in Mod) -/
theorem law_call {P : Program} {w : World} {K : PySem.W.Frag} {mg mb : Str → Option Value} {CX : CXT} {k : Nat} {fa a : Addr} {fd : FuncData} {x : Str} {sp : Sp} {s₁ : Shared} {vs : List Value} {ns : List Int}
    (KX : K.In s₁.heap) (hns : s₁.heap.Ns mainGlobals mg) (hb : s₁.heap.Ns builtinsNs mb) (hbb : ∀ x : Str, x ≠ "__name__" → mb x = bootBuiltins x) (hlim : s₁.heap.NoLimit) (hg : s₁.gens = #[])
    (ha : s₁.heap.get? a = some { cls := .type "list", data := .seq vs.toArray }) (hi : IntsAre vs ns) (hl : ns.length ≤ sizeLine) (hr : Room k callerA)
    (F : ∀ base : Heap, K.In base → base.Ns mainGlobals mg → FnOk P w K mg base CX k fa fd [x] sp) (hbind : ∀ (s : Shared) (u : Value), BindsTo s fd ⟨[u], []⟩ [(x, u)])
    (hsp : ∀ H : Hp, Only H → SqL K H a (ns.map V.int) → sp [.ref a] H (fun v _ => v = .bl true) fun _ _ _ => False)
    (hCX : ∀ H e s', CX [] H s₁ (fun _ _ _ => False) e s' → False) :
    codeAny (model P w) callerA (.call (.ref fa) ⟨[.ref a], []⟩) (fun r s' => r = .ok (.ret (.bool true)) ∧ OldK s₁.heap s'.heap ∧ s'.os = s₁.os ∧ AllBare s'.gens) s₁ := by
  have rv := vals_ints hi
  have lenV := hi.length
  -- from an abstract heap in which nothing but the script may be tracked
  have core : ∀ H : Hp, Only H → SqL K H a (ns.map V.int) → HOk P w H s₁.heap → (∀ b, H b ≠ none → b = a) → (H a ≠ none → K.lookup a = none) →
      codeAny (model P w) callerA (.call (.ref fa) ⟨[.ref a], []⟩) (fun r s' => r = .ok (.ret (.bool true)) ∧ OldK s₁.heap s'.heap ∧ s'.os = s₁.os ∧ AllBare s'.gens) s₁ := by
    intro H hO hS hok hA hK
    have base_of : ∀ {b : Addr} {o : Obj}, s₁.heap.get? b = some o → H b = none → (hidT s₁.heap H).get? b = some o := fun e n => hidT_get e n
    have noA : ∀ {b : Addr} {o : Obj} {es : Array DictEntry} {ep : Nat}, s₁.heap.get? b = some o → o.data = .dict es ep → H b = none := fun {b o es ep} e d => by
      cases q : H b with
      | none => rfl
      | some u =>
        have e' : b = a := hA b (by rw [q]; simp)
        subst e'
        rw [ha] at e; cases e
        have d' : Data.seq vs.toArray _ = Data.dict es ep := d
        cases d'
    have nsK : ∀ {b : Addr} {m : Str → Option Value}, s₁.heap.Ns b m → (hidT s₁.heap H).Ns b m := fun {b m} ⟨o, es, ep, e, d, r⟩ => ⟨o, es, ep, base_of e (noA e d), d, r⟩
    have hKb : K.In (hidT s₁.heap H) := fun b o e => base_of (KX b o e) (by
      cases q : H b with
      | none => rfl
      | some u =>
        have e' : b = a := hA b (by rw [q]; simp)
        subst e'
        rw [hK (by rw [q]; simp)] at e; cases e)
    have hM : Mod K mg (hidT s₁.heap H) := ⟨hKb, nsK hns, ⟨mb, nsK hb, hbb⟩, let ⟨mc, h1, h2⟩ := hlim; ⟨mc, nsK h1, h2⟩⟩
    have e0 : Env0 P w K mg (hidT s₁.heap H) callerA [] s₁ H := ⟨rfl, hM, fun b o e => of_hidT e, Nat.le_of_eq (hidT_size _ _), trivial, fun b hb => absurd (show b ∈ ([] : List Addr) from hb) (by simp), hok, .of_eq hg⟩
    refine codeAny_mono ((F _ hKb (nsK hns)).run callerA [] s₁ H ⟨[.ref a], []⟩ [.ref a] [.ref a] _ _ hr e0 (hbind s₁ (.ref a)) (.cons rfl .nil) (hsp H hO hS)) fun r s' h => ?_
    cases r with
    | error e => exact (hCX H e s' h).elim
    | ok fl =>
      cases fl with
      | next => exact False.elim h
      | brk => exact False.elim h
      | cont => exact False.elim h
      | ret u =>
        obtain ⟨v, H', os, bare, un, hok', r', q⟩ := h
        have q' : v = .bl true := q
        subst q'
        obtain rfl : u = Value.bool true := r'
        refine ⟨rfl, OldK.of_keep fun b o e => ?_, os, bare⟩
        cases q : H b with
        | none => exact un.keep b o e q (by intro z; exact absurd (show b ∈ ([] : List Addr) from z) (by simp)) (by simp)
        | some u =>
          rcases hO b with z | ⟨ob, xs, z⟩
          · rw [q] at z; cases z
          · have z2 := un.frzs b ob _ z
            obtain ⟨e1, _⟩ := hok b _ z
            obtain ⟨e2, _⟩ := hok' b _ z2
            rw [e] at e1; cases e1
            exact e2
  cases hk : K.lookup a with
  | some o =>
    -- the script is one of the module's own objects
    have e := KX a o hk
    rw [ha] at e
    cases e
    refine core (fun _ => none) (fun _ => .inl rfl) (.inr ⟨_, vs.toArray, _, hk, rfl, rfl, rfl, by rw [List.size_toArray, lenV]; exact hl, by simpa using rv⟩) (fun b u z => by have z' : (none : Option HO) = some u := z; cases z') (fun b z => absurd rfl z) fun z => absurd rfl z
  | none =>
    refine core (fun b => if b = a then some (.frz { cls := .type "list", data := .seq vs.toArray } (.lst (ns.map V.int))) else none) (fun b => ?_) (.inl (.inr ⟨{ cls := .type "list", data := .seq vs.toArray }, if_pos rfl⟩)) (fun b u z => ?_) (fun b z => ?_) fun _ => hk
    · by_cases hb : b = a
      · exact .inr ⟨_, _, if_pos hb⟩
      · exact .inl (if_neg hb)
    · by_cases hb : b = a
      · have z' := (if_pos hb).symm.trans z
        cases z'
        subst hb
        exact ⟨ha, by rw [List.length_map]; exact hl, vs, _, rv, ha⟩
      · have z' := (if_neg hb).symm.trans z
        cases z'
    · by_cases hb : b = a
      · exact hb
      · exact absurd (if_neg hb) z
end L2

namespace L2
open PySem PySem.Spec PyProof.Rows

abbrev KOf {K : PySem.W.Frag} {h : Heap} (_ : K.In h) : PySem.W.Frag := K

/-- the goal that k_head leaves (case hc), from the law's promise. F gives the function object fd (K's own) once, then the promise over every base -/
theorem walk_of {l : PySem.W.OpenLaw} {n k : Nat} {q : Program} {loose : List Str} {XP : (Str → Option Value) → Heap → Prop} {YP : World → Heap → Prop} {d : DefRec} {K : Params → PySem.W.Frag} {CX : World → CXT} {sp : World → Sp} {x : Str}
    (hn : l.most = some n) (hn2 : n ≤ sizeLine) (hdf : d.params.defaults = []) (hr : Room k callerA)
    (hY : ∀ (w : World) (h : Heap), YP w h → (K w.params).In h)
    (F : ∀ (w : World) (mg : Str → Option Value) (fa : Addr) (h : Heap), (K w.params).In h → h.Ns mainGlobals mg → mg d.name = some (.ref fa) →
      ∃ fd : FuncData, (∀ (s : Shared) (u : Value), BindsTo s fd ⟨[u], []⟩ [(x, u)]) ∧
        ∀ base : Heap, (K w.params).In base → base.Ns mainGlobals mg → FnOk l.prog w (K w.params) mg base (CX w) k fa fd [x] (sp w))
    (hsp : ∀ (w : World) (H : Hp) (a : Addr) (ns : List Int), ns.length ≤ n → Only H → SqL (K w.params) H a (ns.map V.int) → sp w [.ref a] H (fun v _ => v = .bl true) fun _ _ _ => False)
    (hCX : ∀ (w : World) (H : Hp) (s : Shared) (e : Value) (s' : Shared), CX w [] H s (fun _ _ _ => False) e s' → False) :
    PySem.W.WalkO q loose XP YP l.row.toRowW d [] (fun f vs => PySem.call f vs) := by
  refine Att.attach_call hn hdf fun w s₀ s₁ mg mb fa o pm cd doc a vs ns G Y ho hd hcd hmg hobj hints hlen hg => ?_
  have KX := hY w _ Y
  obtain ⟨fd, hb, hF⟩ := F w mg fa _ KX G.T.g hmg
  exact law_call KX G.T.g G.T.b G.T.builtins G.T.nolimit hg hobj hints (Nat.le_trans hlen hn2) hr hF hb (fun H hO hS => hsp w H a ns hlen hO hS) fun H e s' => hCX w H s₁ e s'
end L2

/- THE LAST THEOREM (shape; LID, My.* are yours):
   My.Adr: a structure of the addresses that your layer names (classes, functions); My.Txt K t: a structure (Prop) of the equations over K;
   My.txt_mk : {K} {implicit addresses ..} (e1 : nsIn K mainGlobals "law" = some (some (.ref f))) (e2 : K.lookup f = some ⟨oc, od, .func (fnOf "law" "law" params body scope dV kV doc pm an cdv ct), sl⟩) (e3 : codeIn K cdv "law" = true) .. : ∃ t, My.Txt K t

set_option maxRecDepth 100000 in
set_option maxHeartbeats 0 in
theorem PySem.Challenge.cw_LID_holds : PySem.Challenge.rw_LID.Holds := by
  w_on; o_law; k_head; (case hw => w_witness2)
  k_fill
  refine L2.walk_of (l := PySem.Challenge.rw_LID) (n := 63) (k := 40) (x := "script") (CX := fun w => ..) (sp := fun _ => My.sp_law) rfl (by decide) rfl ⟨rfl, by decide, by decide⟩ (fun w h Y => PySem.W.kIn_of Y) ?F ?S ?C
  case F =>
    intro w mg fa h KX G hmg
    have T : ∃ t, My.Txt (L2.KOf KX) t := by
      dsimp only [L2.KOf]                          -- K must stand as «<heap const> w.params» for k_is
      refine' My.txt_mk ?e1 ?e2 ?e3 ..
      (case e1 => PySem.W.k_is)                    -- in the order: a name -> its address -> its object -> its parts
      (case e2 => PySem.W.k_is)
      ..
    obtain ⟨t, T⟩ := T
    have e0 := hmg.symm.trans (PySem.W.mg_of KX G T.law)
    cases e0                                       -- fa is the law's own address
    exact ⟨_, fun s u => .of_eq rfl, fun base kb nb => My.law_fn T kb nb⟩     -- if «.of_eq rfl» comes too early: refine' ⟨_, ?b, fun base kb nb => My.law_fn T kb nb⟩; exact fun s u => .of_eq rfl
  case S => exact fun w H a ns hl hO hS => ..
  case C => exact ..
(the tactic k_is has no namespace: write k_is) -/

/-! SHORT WORDS over the layer: a def of the text, its body, what a loop and a test want. -/
namespace L2
open PySem PySem.Spec PyProof.Rows

/-! ### the text by places -/
def defArgs (s : Stmt) : Arguments := match s with
  | .FunctionDef _ a _ _ _ _ _ _ _ _ => a
  | _ => { posonlyargs := [], args := [], vararg := none, kwonlyargs := [], kw_defaults := [], kwarg := none, defaults := [] }
def defBody (s : Stmt) : List Stmt := match s with
  | .FunctionDef _ _ b _ _ _ _ _ _ _ => b
  | _ => []
def defScope (s : Stmt) : Scope := match s with
  | .FunctionDef _ _ _ _ _ _ sc _ _ _ => sc
  | _ => { kind := .function, names := [], isGenerator := false, isCoroutine := false }

/-! ### no exception leaves a def -/
abbrev CX0 : CXT := fun _ _ _ _ _ _ => False
abbrev E0 : XK := fun _ _ _ => False
theorem pass0 {X : Cx} : Passes CX0 X E0 := fun _ _ _ _ _ _ _ h => h.elim

/-! ### a def (or method) of the text as it stands behind the top -/
structure Fun (K : PySem.W.Frag) (x qual : Str) (st : Stmt) (f : Addr) (fd : FuncData) : Prop where
  ex : ∃ (oc : Value) (od : Option Addr) (kV doc pm : Value) (an : Option Addr) (cdv ct : Value) (osl : Array (Option Value)),
    fd = PySem.W.fnOf x qual (defArgs st) (defBody st) (defScope st) .none kV doc pm an cdv ct ∧ K.lookup f = some ⟨oc, od, .func fd, osl⟩ ∧ PySem.W.codeIn K cdv qual = true
  kp : PySem.W.keepIn K (.ref f) = true
section
variable {P : Program} {w : World} {K : PySem.W.Frag} {mg : Str → Option Value} {base : Heap}
/-- THE RULE for a def: its body as a term of rules, and the reading of that term -/
theorem Fun.ok {x qual : Str} {st : Stmt} {f : Addr} {fd : FuncData} {N ps : List Str} {k : Nat} {sp : Sp} (F : Fun K x qual st f fd) (S : FnScope N ps (defScope st)) (len : ∀ vs H Q E, sp vs H Q E → vs.length = ps.length)
    (hbody : ∀ (cdv : Value) (A : Around) (outer : List Env) (s : Shared) (H : Hp) (vs : List V) (Q : VK) (E : XK), Room k (A.deeper (envOfC qual (defScope st) s.heap.objs.size f cdv)) → sp vs H Q E →
      ∃ t, PSs (cxOf CX0 P w K mg base N qual (defScope st) f cdv A outer s H E).nox (defBody st) t ∧ t { nx := fun _ H' => Q .non H', rt := Q } (start N vs) H) : FnOk P w K mg base CX0 (k + 1) f fd ps sp := by
  obtain ⟨oc, od, kV, doc, pm, an, cdv, ct, osl, rfl, lk, hcd⟩ := F.ex
  refine fn_of lk hcd S len fun A outer s H vs Q E hr hsp => ?_
  obtain ⟨t, h, q⟩ := hbody cdv A outer s H vs Q E hr hsp
  exact ⟨t, h.nox, q⟩
/-- how its arguments bind (no defaults): h is «fun _ _ _ _ _ _ us hl => match us, hl with | [_, _], _ => rfl», one _ a parameter -/
theorem Fun.binds {x qual : Str} {st : Stmt} {f : Addr} {fd : FuncData} {ps : List Str} (F : Fun K x qual st f fd)
    (h : ∀ (kV doc pm : Value) (an : Option Addr) (cdv ct : Value) (us : List Value), us.length = ps.length → bindArgs (PySem.W.fnOf x qual (defArgs st) (defBody st) (defScope st) .none kV doc pm an cdv ct) ⟨us, []⟩ = pure (ps.zip us)) : Binds K fd ps [] := by
  obtain ⟨oc, od, kV, doc, pm, an, cdv, ct, osl, rfl, lk, hcd⟩ := F.ex
  exact .all (h kV doc pm an cdv ct)
theorem fun_mk {x qual : Str} {st : Stmt} {f : Addr} {oc : Value} {od an : Option Addr} {osl : Array (Option Value)} {kV doc pm cdv ct : Value} (l : K.lookup f = some ⟨oc, od, .func (PySem.W.fnOf x qual (defArgs st) (defBody st) (defScope st) .none kV doc pm an cdv ct), osl⟩)
    (c : PySem.W.codeIn K cdv qual = true) (k : PySem.W.keepIn K (.ref f) = true) : Fun K x qual st f (PySem.W.fnOf x qual (defArgs st) (defBody st) (defScope st) .none kV doc pm an cdv ct) := ⟨⟨oc, od, kV, doc, pm, an, cdv, ct, osl, rfl, l, c⟩, k⟩
end
theorem hu_of {A : Around} {k : Nat} (hr : Room k A) : A.units + 1 < cLine := Nat.lt_of_le_of_lt (Nat.add_le_add_left (by decide : 1 ≤ 64) _) hr.units
/-! ### expressions in short: the name that stands in the i-th slot -/
section
variable {X : Cx}
theorem pv (i : Nat) {x : Str} {pos : Pos} (hN : X.N[i]? = some x := by rfl) (hv : Vis X.env.scope x := by first | exact Or.inl rfl | exact Or.inr (Or.inl rfl) | exact Or.inr (Or.inr rfl)) (hd : (x == ("__debug__" : Str)) = false := by decide)
    (hcd : (x == ("__classdict__" : Str)) = false := by decide) : PE X (.Name x pos) (tVar i) := pe_var hN hv hd hcd
end

/-! ### tests -/
theorem iteF {A B : Prop} (h : B) : if false = true then A else B := by
  rw [if_neg Bool.false_ne_true]
  exact h
theorem iteT {A B : Prop} (h : A) : if true = true then A else B := by
  rw [if_pos rfl]
  exact h
theorem ite2 {c A B : Prop} [Decidable c] (h1 : c → A) (h2 : ¬ c → B) : if c then A else B := by
  by_cases h : c
  · rw [if_pos h]
    exact h1 h
  · rw [if_neg h]
    exact h2 h
/-! ### heaps -/
/-- all that was tracked is as it was -/
def Same (H H' : Hp) : Prop := ∀ b o, H b = some o → H' b = some o
theorem Same.refl (H : Hp) : Same H H := fun _ _ h => h
theorem Same.trans {H H1 H2 : Hp} (a : Same H H1) (b : Same H1 H2) : Same H H2 := fun c o h => b c o (a c o h)
theorem Same.free {H H' : Hp} (e : Same H H') {l : Addr} (h : H' l = Option.none) : H l = Option.none := by
  cases q : H l with
  | none => rfl
  | some o =>
    rw [e l o q] at h
    cases h
theorem Same.seq {K : PySem.W.Frag} {H H' : Hp} {a : Addr} {xs : List V} (e : Same H H') (h : SqL K H a xs) : SqL K H' a xs := by
  rcases h with (h | ⟨o, h⟩) | h
  · exact .inl (.inl (e _ _ h))
  · exact .inl (.inr ⟨o, e _ _ h⟩)
  · exact .inr h

end L2

namespace L2
open PySem PySem.Spec PyProof.Rows
section
variable {X : Cx}
end
/-! ### a dict's pairs: keys that differ -/
section
variable {κ : Type} [DecidableEq κ]
end
end L2

/-! ### own rules above the hand layer (namespace My): products of great ints, isinstance, dict(d), d == e of equal dicts, the head with the script's bits -/
namespace My
open PySem PySem.Spec PyProof.Rows L2
section
variable {X : Cx}
theorem call_isi : CallR X (.builtin "isinstance") (fun xs H Q => ∃ x t c b, xs = [x, V.ty c] ∧ TyOf X.K H x t ∧ PySem.W.kitOne X.K t (.type c) = some b ∧ Q (.bl b) H) := by
  intro pins s σ H xs us Q I r h
  obtain ⟨x, t, c, b, rfl, ty, e, q⟩ := h
  obtain ⟨u, w', rfl, ru, rw'⟩ := vals2 r
  cases rw'
  exact isinst_ok I ru ty e fun tk => ⟨.bl b, H, I.tok tk, rfl, q⟩
end
section
variable {K : PySem.W.Frag}
theorem kit_ii : PySem.W.kitOne K (.type "int") (.type "int") = some true := by
  show (if (Value.type "int" == Value.type "int") = true then some true else if PySem.W.kitMeta "int" = true then (fastBuiltinMro "int").map (·.contains (Value.type "int")) else none) = some true
  decide +kernel
theorem kit_ib : PySem.W.kitOne K (.type "int") (.type "bool") = some false := by
  show (if (Value.type "int" == Value.type "bool") = true then some true else if PySem.W.kitMeta "bool" = true then (fastBuiltinMro "int").map (·.contains (Value.type "bool")) else none) = some false
  decide +kernel
theorem kit_tt : PySem.W.kitOne K (.type "tuple") (.type "tuple") = some true := by
  show (if (Value.type "tuple" == Value.type "tuple") = true then some true else if PySem.W.kitMeta "tuple" = true then (fastBuiltinMro "tuple").map (·.contains (Value.type "tuple")) else none) = some true
  decide +kernel
end
/-! ### d == e -/
def AllInt (kvs : List (Key × V)) : Prop := ∀ kv ∈ kvs, ∃ n, kv.2 = V.int n
theorem AllInt.nil : AllInt [] := fun _ h => nomatch h
theorem AllInt.put {kvs : List (Key × V)} (h : AllInt kvs) (k : Key) (n : Int) : AllInt (putK kvs k (.int n)) := by
  intro kv m
  unfold putK at m
  split at m
  · obtain ⟨p, hp, e⟩ := List.mem_map.mp m
    split at e
    · subst e; exact ⟨n, rfl⟩
    · subst e; exact h p hp
  · rcases List.mem_append.mp m with q | q
    · exact h kv q
    · rw [List.mem_singleton.mp q]; exact ⟨n, rfl⟩
/-! ### items -/
theorem int_of_map {ns : List Int} {i : Nat} {y : V} (h : (ns.map V.int)[i]? = some y) : ∃ z, y = V.int z ∧ z ∈ ns := by
  rw [List.getElem?_map] at h
  cases e : ns[i]? with
  | none => rw [e] at h; cases h
  | some z => rw [e] at h; exact ⟨z, (Option.some.inj h).symm, List.mem_of_getElem? e⟩
theorem _root_.L2.Same.upd {H : Hp} {p : Addr} {o : HO} (h : H p = none) : Same H (upd H p o) := fun b u e => by
  rw [upd_ne (ne_of_none e h)]
  exact e
theorem _root_.L2.Same.again {H H' : Hp} {p : Addr} {o : HO} (s : Same H H') (h : H p = none) : Same H (L2.upd H' p o) := fun b u e => by
  rw [upd_ne (ne_of_none e h)]
  exact s b u e
/-! ### bits -/
open Builtin.Int (intBits)
theorem bits_item : ∀ {ns : List Int} {m : Int}, m ∈ ns → intBits m ≤ PySem.W.WData.weightAll (ns.map PySem.W.WData.int)
  | n :: r, m, h => by
    rcases List.mem_cons.mp h with e | e
    · subst e
      simp only [List.map_cons, PySem.W.WData.weightAll, PySem.W.WData.weight, Builtin.Int.intBits]
      omega
    · have z := bits_item e
      simp only [List.map_cons, PySem.W.WData.weightAll]
      omega
theorem bits_of {ns : List Int} (h : PySem.W.WData.layableAll [PySem.W.WData.list (ns.map .int)] = true) : ∀ m ∈ ns, intBits m ≤ 1048576 := fun m hm => by
  have h1 := (PySem.W.layW_cons h).1
  have h2 : PySem.W.WData.weight (.list (ns.map .int)) ≤ 2 ^ 20 := of_decide_eq_true (Bool.and_eq_true_iff.mp h1).2
  have h3 := bits_item hm
  have h4 : PySem.W.WData.weight (.list (ns.map .int)) = PySem.W.WData.weightAll (ns.map .int) := by simp only [PySem.W.WData.weight]
  have e : (2 : Nat) ^ 20 = 1048576 := by decide
  omega
end My
namespace My
open PySem PySem.W PySem.Calls PyProof.Rows L2
theorem walk_ofB {l : PySem.W.OpenLaw} {n k : Nat} {q : Program} {loose : List Str} {XP : (Str → Option Value) → Heap → Prop} {YP : World → Heap → Prop} {d : DefRec} {K : Params → PySem.W.Frag} {CX : World → CXT} {sp : World → Sp} {x : Str}
    (hn : l.most = some n) (hn2 : n ≤ sizeLine) (hdf : d.params.defaults = []) (hr : Room k callerA)
    (hY : ∀ (w : World) (h : Heap), YP w h → (K w.params).In h)
    (F : ∀ (w : World) (mg : Str → Option Value) (fa : Addr) (h : Heap), (K w.params).In h → h.Ns mainGlobals mg → mg d.name = some (.ref fa) →
      ∃ fd : FuncData, (∀ (s : Shared) (u : Value), BindsTo s fd ⟨[u], []⟩ [(x, u)]) ∧
        ∀ base : Heap, (K w.params).In base → base.Ns mainGlobals mg → FnOk l.prog w (K w.params) mg base (CX w) k fa fd [x] (sp w))
    (hsp : ∀ (w : World) (H : Hp) (a : Addr) (ns : List Int), ns.length ≤ n → (∀ m ∈ ns, Builtin.Int.intBits m ≤ 1048576) → Only H → SqL (K w.params) H a (ns.map V.int) → sp w [.ref a] H (fun v _ => v = .bl true) fun _ _ _ => False)
    (hCX : ∀ (w : World) (H : Hp) (s : Shared) (e : Value) (s' : Shared), CX w [] H s (fun _ _ _ => False) e s' → False) :
    PySem.W.WalkO q loose XP YP l.row.toRowW d [] (fun f vs => PySem.call f vs) := by
  intro w s₀ s₁ mg mb G Y fa o pm cd doc dV kV ho hd hcd hD hmg hg args vals as hpre hlay hrd hwl hlo
  obtain rfl : dV = .none := Dflts.none hD hdf
  obtain rfl : kV = .none := Dflts.noKw hD
  obtain ⟨a, vs, ns, rfl, rfl, hobj, hints, hlen⟩ := Att.script_of hn hpre hwl
  have KX := hY w _ Y
  obtain ⟨fd, hb, hF⟩ := F w mg fa _ KX G.T.g hmg
  refine enter_call (codeAny_mono (law_call KX G.T.g G.T.b G.T.builtins G.T.nolimit hg hobj hints (Nat.le_trans hlen hn2) hr hF hb (fun H hO hS => hsp w H a ns hlen (bits_of hlay) hO hS) fun H e s' => hCX w H s₁ e s') fun r s' hq => ?_)
  obtain ⟨rfl, h2, h3, h4⟩ := hq
  exact ⟨.inl ⟨.bool true, .bool true, [], rfl, fun _ => rfl, .bool true, Att.post_true l _, fun _ => ⟨List.Pairwise.nil, fun _ hm => (nomatch hm)⟩⟩, h2, h3, h4⟩
end My
/-! ### data of the abstract heap, compared whatever its depth; sum of a list of ints -/
namespace My
open PySem PySem.Spec PyProof.Rows L2
mutual
inductive Dt (K : PySem.W.Frag) (H : Hp) : V → PyData → Prop where
  | non : Dt K H .non .none
  | bl (b : Bool) : Dt K H (.bl b) (.bool b)
  | int (i : Int) : Dt K H (.int i) (.int i)
  | str (x : Str) : Dt K H (.str x) (.str x)
  | lst {a : Addr} {xs : List V} {ds : List PyData} (h : SqL K H a xs) (r : Dts K H xs ds) : Dt K H (.ref a) (.list ds)
  | tup {a : Addr} {xs : List V} {ds : List PyData} (h : SqT K H a xs) (r : Dts K H xs ds) : Dt K H (.ref a) (.tuple ds)
inductive Dts (K : PySem.W.Frag) (H : Hp) : List V → List PyData → Prop where
  | nil : Dts K H [] []
  | cons {x : V} {d : PyData} {xs : List V} {ds : List PyData} (h : Dt K H x d) (r : Dts K H xs ds) : Dts K H (x :: xs) (d :: ds)
end
section
variable {X : Cx} {pins : List (Addr × Obj)} {σ : L2.St} {H : Hp} {s : Shared}
mutual
theorem Dt.reads (I : Inv X pins σ H s) {v : V} {d : PyData} (h : Dt X.K H v d) {u : Value} (r : RelV v u) : ∃ as, Reads s.heap u d as := by
  cases h with
  | non => cases r; exact ⟨_, .none⟩
  | bl b => cases r; exact ⟨_, .bool b⟩
  | int i => obtain ⟨t, rfl⟩ := r; exact ⟨_, .int i t⟩
  | str x => obtain ⟨t, rfl⟩ := r; exact ⟨_, .str x t⟩
  | lst h q =>
    cases r
    obtain ⟨its, rv, ⟨o, n, e, c, _, dd⟩, _⟩ := I.list h
    obtain ⟨as, z⟩ := Dts.reads I q rv
    exact ⟨_, .list e c dd (by simpa using z)⟩
  | tup h q =>
    cases r
    obtain ⟨its, rv, ⟨o, e, c, n, dd⟩, _⟩ := I.tuple h
    obtain ⟨as, z⟩ := Dts.reads I q rv
    exact ⟨_, .tuple e c dd (by simpa using z)⟩
theorem Dts.reads (I : Inv X pins σ H s) {vs : List V} {ds : List PyData} (h : Dts X.K H vs ds) {us : List Value} (r : Vals vs us) : ∃ as, ReadsAll s.heap us ds as := by
  cases h with
  | nil => cases r; exact ⟨_, .nil⟩
  | cons h q =>
    cases r with
    | cons r1 r2 =>
      obtain ⟨as, z⟩ := Dt.reads I h r1
      obtain ⟨bs, y⟩ := Dts.reads I q r2
      exact ⟨_, .cons z y⟩
end
end
section
variable {X : Cx}
def rEqD (K : PySem.W.Frag) : R2 := fun x y H Q => ∃ da db, Dt K H x da ∧ Dt K H y db ∧ SeqAt.shaped da = true ∧ SeqAt.shaped db = true ∧ Q (.bl (PyData.eqv da db)) H
def rNeD (K : PySem.W.Frag) : R2 := fun x y H Q => ∃ da db, Dt K H x da ∧ Dt K H y db ∧ SeqAt.shaped da = true ∧ SeqAt.shaped db = true ∧ Q (.bl (!PyData.eqv da db)) H
theorem op_eqS (hu : X.A.units + 64 < cLine) : OpR X (compareOp .Eq) (rEqD X.K) := by
  intro pins s σ H x y v u Q I rx ry h
  obtain ⟨da, db, ha, hb, sa, sb, q⟩ := h
  obtain ⟨as, ra⟩ := ha.reads I rx
  obtain ⟨bs, rb⟩ := hb.reads I ry
  exact SeqAt.compareEq_shaped ra rb sa sb hu ⟨.bl _, H, I, rfl, q⟩
theorem op_neS (hu : X.A.units + 64 < cLine) : OpR X (compareOp .NotEq) (rNeD X.K) := by
  intro pins s σ H x y v u Q I rx ry h
  obtain ⟨da, db, ha, hb, sa, sb, q⟩ := h
  obtain ⟨as, ra⟩ := ha.reads I rx
  obtain ⟨bs, rb⟩ := hb.reads I ry
  exact SeqAt.compareNe_shaped ra rb sa sb hu ⟨.bl _, H, I, rfl, q⟩
end
end My
/-! ### y = [elt for x in rows], elt quiet: the rule, and elt = x[1] over a list of tuples -/
namespace My
open PySem PySem.Spec PyProof.Rows L2
theorem obj_some {P : Program} {w : World} {H : Hp} {h : Heap} {a : Addr} {o : HO} (x : ObjOk P w H h a o) : ∃ ob, h.get? a = some ob := by
  cases o with
  | lst xs => obtain ⟨_, _, _, _, e⟩ := x; exact ⟨_, e⟩
  | tup xs => obtain ⟨_, _, _, ob, e, _⟩ := x; exact ⟨_, e⟩
  | dK kvs => obtain ⟨_, _, _, _, o, _, _, e, _⟩ := x; exact ⟨_, e⟩
  | dT kvs => obtain ⟨_, _, _, _, o, _, _, e, _⟩ := x; exact ⟨_, e⟩
  | set S n => obtain ⟨o, _, _, _, e, _⟩ := x; exact ⟨_, e⟩
  | ins C dx fs => obtain ⟨_, _, _, e, _⟩ := x; exact ⟨_, e⟩
  | own y => exact x
  | xd fs => obtain ⟨_, ⟨_, _, _, e, _⟩, _⟩ := x; exact ⟨_, e⟩
  | rng lo hi => obtain ⟨_, _, _, e⟩ := x; exact ⟨_, e⟩
  | frz ob u => obtain ⟨e, _⟩ := x; exact ⟨_, e⟩
  | tbl ps => exact ⟨_, (show h.get? a = some _ from x)⟩
  | met f y => exact ⟨_, (show h.get? a = some _ from x)⟩
  | ext φ => obtain ⟨_, e, _⟩ := x; exact e
section
variable {X : Cx} {pins : List (Addr × Obj)} {σ : L2.St} {H : Hp} {s : Shared}
theorem inv_none (I : Inv X pins σ H s) {D : Addr} (h : s.heap.get? D = none) : H D = none := by
  cases q : H D with
  | none => rfl
  | some u =>
    obtain ⟨ob, e⟩ := obj_some (I.hok D u q)
    rw [h] at e
    cases e
end
theorem vals_get' : ∀ {xs : List V} {us : List Value} {i : Nat} {u : Value}, Vals xs us → us[i]? = some u → ∃ x, xs[i]? = some x ∧ RelV x u
  | _, _, _, _, .nil, e => by simp at e
  | _, _, 0, _, .cons r _, e => by simp at e; subst e; exact ⟨_, rfl, r⟩
  | _, _, i + 1, u, .cons _ t, e => by
    obtain ⟨x, h1, h2⟩ := vals_get' (i := i) (u := u) t (by simpa using e)
    exact ⟨x, by simpa using h1, h2⟩
end My
/-! ### what noting a frame leaves as it is: the objects' dicts -/
namespace My
open PySem PySem.Spec PyProof.Rows L2
/-- an exception's context: the third field -/
def ctxF (o : Obj) : Option Value := match o.data with
  | .fields vs => vs[2]?
  | _ => none
/-- the same dict, the same context -/
abbrev SameDC (a b : Obj) : Prop := a.dict = b.dict ∧ ctxF a = ctxF b
/-- trees that leave every object's dict and context as they are, and run no code -/
inductive Calm {α : Type} : Sem α → Prop
  | pure (a : α) : Calm (.pure a)
  | raise (e : Value) : Calm (.raise e)
  | stop (x : String) : Calm (.unsupported x)
  | rule {t k} : (∀ u, Calm (k u)) → Calm (.rule t k)
  | at {p k} : (∀ u, Calm (k u)) → Calm (.at p k)
  | load {a p k} : (∀ o, Calm (k o)) → Calm (.load a p k)
  | update {a p f k} : (∀ o : Obj, SameDC (f o) o ∧ (o.isFreed = false → (f o).isFreed = false)) → (∀ u, Calm (k u)) → Calm (.update a p f k)
  | alloc {o k} : (∀ a, Calm (k a)) → Calm (.alloc o k)
  | point {l k} : (∀ u, Calm (k u)) → Calm (.point l k)
  | fresh {k} : (∀ u, Calm (k u)) → Calm (.fresh k)
  | stack {k} : (∀ u, Calm (k u)) → Calm (.stack k)
theorem Calm.bind {α β : Type} {t : Sem α} {f : α → Sem β} (h : Calm t) (hf : ∀ a, Calm (f a)) : Calm (t >>= f) := by
  induction h with
  | pure a => exact hf a
  | raise e => exact .raise e
  | stop x => exact .stop x
  | rule _ ih => exact .rule ih
  | «at» _ ih => exact .at ih
  | load _ ih => exact .load ih
  | update h _ ih => exact .update h ih
  | alloc _ ih => exact .alloc ih
  | point _ ih => exact .point ih
  | fresh _ ih => exact .fresh ih
  | stack _ ih => exact .stack ih
/-- the objects' dicts are as they were -/
def DK (h h' : Heap) : Prop := ∀ b o, h.get? b = some o → ∃ o', h'.get? b = some o' ∧ SameDC o' o
theorem DK.refl (h : Heap) : DK h h := fun _ o e => ⟨o, e, rfl, rfl⟩
theorem DK.trans {h1 h2 h3 : Heap} (x : DK h1 h2) (y : DK h2 h3) : DK h1 h3 := fun b o e => let ⟨o1, e1, d1⟩ := x b o e; let ⟨o2, e2, d2⟩ := y b o1 e1; ⟨o2, e2, d2.1.trans d1.1, d2.2.trans d1.2⟩
theorem DK.upd {h : Heap} {a : Addr} {f : Obj → Obj} (hf : ∀ o : Obj, SameDC (f o) o ∧ (o.isFreed = false → (f o).isFreed = false)) : DK h (h.update a f) := fun b o e => by
  by_cases q : b = a
  · subst q
    exact ⟨f o, Heap.get?_update_self _ e ((hf o).2 (Heap.get?_some_iff.mp e).2), (hf o).1⟩
  · exact ⟨o, (Heap.get?_update_ne _ _ _ _ q).trans e, rfl, rfl⟩
theorem wp_calm {α : Type} {M : Model} {Γ : PySem.Ctx} {t : Sem α} (c : Calm t) : ∀ {Q : α → Pos → Shared → Prop} {E : Value → Pos → Shared → Prop} {p : Pos} {s : Shared},
    Sem.wp M Γ t Q E p s → Sem.wp M Γ t (fun a p' s' => Q a p' s' ∧ DK s.heap s'.heap) (fun e p' s' => E e p' s' ∧ DK s.heap s'.heap) p s := by
  induction c with
  | pure a => intro Q E p s h; exact ⟨h, .refl _⟩
  | raise e => intro Q E p s h; exact ⟨h, .refl _⟩
  | stop x => intro Q E p s h; exact h
  | rule _ ih => intro Q E p s h; exact ih () h
  | «at» _ ih => intro Q E p s h; exact ih () h
  | load _ ih => intro Q E p s h; obtain ⟨o, e, h⟩ := h; exact ⟨o, e, ih o h⟩
  | update hf _ ih =>
    intro Q E p s h
    obtain ⟨e, h⟩ := h
    refine ⟨e, ?_⟩
    exact Sem.wp_mono M Γ _ (fun a p' s' ⟨q, d⟩ => ⟨q, DK.trans (DK.upd hf) d⟩) (fun e p' s' ⟨q, d⟩ => ⟨q, DK.trans (DK.upd hf) d⟩) _ _ (ih () h)
  | alloc _ ih => intro Q E p s h; exact Sem.wp_mono M Γ _ (fun a p' s' ⟨q, d⟩ => ⟨q, DK.trans (fun b o e => ⟨o, Heap.get?_push_of_some _ e, rfl, rfl⟩) d⟩) (fun e p' s' ⟨q, d⟩ => ⟨q, DK.trans (fun b o e => ⟨o, Heap.get?_push_of_some _ e, rfl, rfl⟩) d⟩) _ _ (ih _ h)
  | point _ ih => intro Q E p s h; exact ih () h
  | fresh _ ih => intro Q E p s h; exact ih _ h
  | stack _ ih => intro Q E p s h; exact ih _ h
theorem wpAny_calm {α : Type} {M : Model} {A : Around} {t : Sem α} {Q : α → Shared → Prop} {E : Value → Shared → Prop} {s : Shared} (c : Calm t) (h : wpAny M A t Q E s) :
    wpAny M A t (fun a s' => Q a s' ∧ DK s.heap s'.heap) (fun e s' => E e s' ∧ DK s.heap s'.heap) s := fun Γ p hΓ => wp_calm c (h Γ p hΓ)

theorem calm_load (a : Addr) : Calm (load a) := .load fun _ => .pure _
theorem calm_fieldsOf (v : Value) : Calm (fieldsOf v) := by
  unfold fieldsOf
  cases v <;> first | exact .stop _ | skip
  refine Calm.bind (calm_load _) fun o => ?_
  split <;> first | exact .stop _ | exact .pure _
theorem calm_field (v : Value) (i : Nat) : Calm (field v i) := by
  unfold field
  refine Calm.bind (calm_fieldsOf _) fun vs => ?_
  split <;> first | exact .stop _ | exact .pure _
theorem mapFields_calm {i : Nat} (x : Value) (hi : i ≠ 2) (o : Obj) : SameDC (Obj.mapFields (·.setIfInBounds i x) o) o ∧ (o.isFreed = false → (Obj.mapFields (·.setIfInBounds i x) o).isFreed = false) := by
  obtain ⟨c, d, da, sl⟩ := o
  cases da <;> first | exact ⟨⟨rfl, rfl⟩, fun h => h⟩ | exact ⟨⟨rfl, Array.getElem?_setIfInBounds_ne hi⟩, fun h => h⟩
theorem calm_setField (v : Value) (i : Nat) (x : Value) (hi : i ≠ 2 := by decide) : Calm (setField v i x) := by
  unfold setField
  cases v <;> first | exact .stop _ | skip
  show Calm (updateField _ _ _)
  unfold updateField
  refine Calm.bind (calm_load _) fun o => ?_
  split
  · split
    · exact .update (mapFields_calm _ hi) fun _ => .pure _
    · exact .stop _
  · exact .stop _
theorem calm_setFlight (e : Value) (f : Option Addr) : Calm (setFlight e f) := by
  unfold setFlight
  refine Calm.bind (calm_field _ _) fun tb => ?_
  split
  · exact calm_setField _ _ _
  · exact .pure _
theorem calm_under : Calm underTheClaimsCaller := .stack fun _ => .pure _
theorem calm_ready : ∀ l : List Env, Calm (readyFrames l)
  | [] => .pure _
  | env :: outer => by
    unfold readyFrames
    split
    · refine Calm.bind (calm_load _) fun o => ?_
      split
      · exact .pure _
      · refine Calm.bind ?_ fun imp => Calm.bind ?_ fun back => Calm.bind ?_ fun _ => calm_ready outer
        · unfold behindIsImport
          split
          · exact .pure _
          · split
            · exact .pure _
            · exact Calm.bind (calm_field _ _) fun _ => .pure _
        · unfold keptBack
          split
          · split
            · exact .pure _
            · exact Calm.bind calm_under fun _ => .pure _
          · exact .pure _
        · refine .update (fun o => ⟨⟨rfl, rfl⟩, fun h => ?_⟩) fun _ => .pure _
          obtain ⟨c, d, da, sl⟩ := o
          cases da <;> exact h
    · exact .stop _
theorem calm_frameOf (env : Env) : Calm (PySem.frameOf env) := by
  unfold PySem.frameOf
  refine Calm.bind (.stack fun _ => .pure _) fun l => Calm.bind ?_ fun r => ?_
  · unfold frameObject
    split
    · exact .pure _
    · exact Calm.bind (calm_ready _) fun _ => .pure _
  · split
    · exact .pure _
    · exact .stop _
theorem calm_asIs (ty : String) (da : Data) : Calm (newObjAsIs (.type ty) da) := .alloc fun _ => .pure _
theorem calm_newFields (ty : String) (vs : List Value) : Calm (newFields ty vs) := by
  unfold newFields newObj
  dsimp only
  split
  · exact Calm.bind (.stop _) fun _ => calm_asIs _ _
  · exact calm_asIs _ _
theorem calm_newEntry (a b c d e : Value) (pl : List Value) : Calm (EntryCells.newEntry a b c d e pl) := calm_newFields _ _
theorem calm_place (f : Addr) (b : Bool) : Calm (entryPlaceOf f b) := by
  unfold entryPlaceOf
  refine Calm.bind (.stack fun _ => .pure _) fun acts => ?_
  split <;> exact .pure _
theorem calm_noteFrame (e : Value) (env : Env) : Calm (noteFrame e env) := by
  unfold noteFrame
  have last : ∀ (f : Addr) (head : Value), Calm (do setField e 1 (← EntryCells.newEntry head (← PySem.frameOf env) .none (rawInt f) .none (← entryPlaceOf f (head != .none)))) := fun f head =>
    Calm.bind (calm_frameOf _) fun a => Calm.bind (calm_place _ _) fun pl => Calm.bind (calm_newEntry _ _ _ _ _ _) fun b => calm_setField _ _ _
  split
  · refine Calm.bind (calm_field _ _) fun head => ?_
    split
    · refine Calm.bind (calm_field _ _) fun x => ?_
      split
      · exact .pure _
      · exact Calm.bind (calm_setField _ _ _) fun _ => last _ _
    · exact last _ _
  · exact .stop _
end My
/-! ### exceptions: raised in a def, passed on by a def, caught by a try around one call -/
namespace My
open PySem PySem.Spec PyProof.Rows L2
/-- how an exception lies behind a call: in flight over B, the objects that B has stay as they are -/
def CXW (P : Program) (w : World) : CXT := fun outer H s E e s' =>
  ∃ (ea : Addr) (cls a0 : Value) (B : Heap) (H' : Hp) (d : Option Addr), e = .ref ea ∧ s'.os = s.os ∧ AllBare s'.gens ∧ Un (frs outer) [] H H' s.heap s'.heap ∧ HOk P w H' s'.heap ∧ Heap.FlyingW B outer ea cls a0 s'.heap ∧
    (∀ b o, s'.heap.get? b = some o → (s.heap.get? b ≠ none ∨ H' b ≠ none) → b ∉ frs outer → B.get? b = some o) ∧ H' ea = none ∧ s.heap.get? ea = none ∧ (∃ o, s'.heap.get? ea = some o ∧ o.dict = d ∧ (ctxF o = some .none ∨ ∀ d', E cls d' H')) ∧ E cls d H'
section
variable {X : Cx} {pins : List (Addr × Obj)} {σ : L2.St} {H H' : Hp} {s : Shared} {h1 h2 B : Heap}
theorem frs_obj (I : Inv X pins σ H s) : ∀ b ∈ frs X.stack, ∃ o, s.heap.get? b = some o := fun b hb => let ⟨_, o, e, _⟩ := I.stack.mem hb; ⟨o, e⟩
/-- behind a call that raised: what the state keeps while the exception is noted -/
theorem carry (I : Inv X pins σ H s) (un : Un (frs X.stack) [] H H' s.heap h1) (hok : HOk X.prog X.w H' h1) (bk : ∀ b o, h1.get? b = some o → (s.heap.get? b ≠ none ∨ H' b ≠ none) → b ∉ frs X.stack → B.get? b = some o)
    (hst : ∀ b o, B.get? b = some o → h2.get? b = some o) (hsm : h1.UpToSlots h2) (hfn : ∀ b ∈ frs X.stack, ∃ o, h1.get? b = some o ∧ ∀ vs, o.data ≠ .fields vs) :
    Un (frs X.stack) [] H H' s.heap h2 ∧ HOk X.prog X.w H' h2 ∧ (∀ b o, h2.get? b = some o → (s.heap.get? b ≠ none ∨ H' b ≠ none) → b ∉ frs X.stack → B.get? b = some o) ∧ ∀ b ∈ frs X.stack, H' b = none := by
  have nf : ∀ b ∈ frs X.stack, H' b = none := fun b hb => by
    obtain ⟨o, e⟩ := frs_obj I b hb
    exact un.free b o e (I.stkFree b hb) (by simp)
  have keep : ∀ b o, h1.get? b = some o → (s.heap.get? b ≠ none ∨ H' b ≠ none) → b ∉ frs X.stack → h2.get? b = some o := fun b o e k n => hst b o (bk b o e k n)
  refine ⟨⟨fun b o e n hb _ => ?_, fun b o e n hb _ => ?_, un.free, fun b o e _ => ?_, un.tups, un.frzs, un.tbls⟩, fun a o e => ?_, fun b o e k n => ?_, nf⟩
  · exact keep b o (un.keep b o e n hb (by simp)) (.inl (by rw [e]; simp)) hb
  · obtain ⟨sl, e1⟩ := un.slot b o e n hb (by simp)
    obtain ⟨o', e2, hd⟩ := hfn b hb
    rw [e1] at e2
    cases e2
    obtain ⟨sl', e3⟩ := hsm b _ e1 hd
    exact ⟨sl', e3⟩
  · obtain ⟨o', e1⟩ := un.there b o e (by simp)
    by_cases hb : b ∈ frs X.stack
    · obtain ⟨o2, e2, hd⟩ := hfn b hb
      obtain ⟨sl', e3⟩ := hsm b _ e2 hd
      exact ⟨_, e3⟩
    · exact ⟨o', keep b o' e1 (.inl (by rw [e]; simp)) hb⟩
  · refine (hok a o e).stay (fun b u hb q => keep b u q (.inr ?_) (fun z => ?_)) (fun _ q => q) fun _ _ q => q
    · rcases hb with z | z
      · rw [z, e]; simp
      · rw [z]; simp
    · have q' := nf b z
      rcases hb with z | z
      · rw [z, e] at q'; cases q'
      · rw [z] at q'; cases q'
  · have there1 : ∃ o', h1.get? b = some o' := by
      rcases k with k | k
      · cases q : s.heap.get? b with
        | none => exact (k q).elim
        | some o0 => exact un.there b o0 q (by simp)
      · cases q : H' b with
        | none => exact (k q).elim
        | some u => exact obj_some (hok b u q)
    obtain ⟨o', e1⟩ := there1
    have e2 := bk b o' e1 k n
    have e3 := hst b o' e2
    rw [e] at e3
    cases e3
    exact e2
end
section
variable {P : Program} {w : World} {K : PySem.W.Frag} {mg : Str → Option Value} {base : Heap} {N : List Str} {qual : Str} {scope : Scope} {f : Addr} {cd : Value} {A : Around} {outer : List Env} {s₀ : Shared} {H₀ : Hp} {E : XK}
  {pins : List (Addr × Obj)} {σ : L2.St} {H H' : Hp} {s : Shared}
/-- an own class of exceptions of the text, right or further under ValueError, without an __init__ -/
structure ExcC (K : PySem.W.Frag) (mg : Str → Option Value) (x : Str) (C : Addr) : Prop where
  bound : mg x = some (.ref C)
  ok : PySem.W.excIn K C [.type "ValueError", .type "Exception", .type "BaseException", .type "object"] "ValueError.__new__" = true
end
end My
/-! ### raise, f"{x!r} ..", try around one call: the rules -/
namespace My
open PySem PySem.Spec PyProof.Rows L2
section
variable {P : Program} {w : World} {K : PySem.W.Frag} {mg : Str → Option Value} {base : Heap} {N : List Str} {qual : Str} {scope : Scope} {f : Addr} {cd : Value} {A : Around} {outer : List Env} {s₀ : Shared} {H₀ : Hp} {E : XK}
end
section
variable {X : Cx}
/-- the context within an except suite -/
abbrev markX (X : Cx) (ea : Addr) : Cx := { X with A := X.A.mark (some (.ref ea)), calm := false, xe := fun _ _ => False }
theorem inv_mark {pins : List (Addr × Obj)} {σ : L2.St} {H : Hp} {s : Shared} (I : Inv X pins σ H s) (ea : Addr) : Inv (markX X ea) pins σ H s :=
  ⟨⟨I.ok.mod, I.ok.kind, I.ok.glob, I.ok.blt, I.ok.above, I.ok.inj, I.ok.has, I.ok.cab, (fun z => nomatch z), I.ok.frames, I.ok.stk, I.ok.exf, I.ok.bs, I.ok.bsz, I.ok.noex, I.ok.exfs, I.ok.funs, I.ok.frf⟩, I.os, I.bare, I.base, I.loc, I.cell, I.free, I.freeC, I.pin, I.hok, I.len⟩
theorem inv_unmark {pins : List (Addr × Obj)} {σ : L2.St} {H : Hp} {s : Shared} {ea : Addr} (ok : X.Ok) (I : Inv (markX X ea) pins σ H s) : Inv X pins σ H s :=
  ⟨ok, I.os, I.bare, I.base, I.loc, I.cell, I.free, I.freeC, I.pin, I.hok, I.len⟩
theorem sp_unmark {pins : List (Addr × Obj)} {D : Ends} {fl : Flow} {s : Shared} {ea : Addr} (ok : X.Ok) (h : SP (markX X ea) pins D fl s) : SP X pins D fl s := by
  cases fl with
  | next => obtain ⟨σ', H', I, q⟩ := h; exact ⟨σ', H', inv_unmark ok I, q⟩
  | brk => obtain ⟨σ', H', I, q⟩ := h; exact ⟨σ', H', inv_unmark ok I, q⟩
  | cont => obtain ⟨σ', H', I, q⟩ := h; exact ⟨σ', H', inv_unmark ok I, q⟩
  | ret u => obtain ⟨v, σ', H', I, r, q⟩ := h; exact ⟨v, σ', H', inv_unmark ok I, r, q⟩
end
end My
/-! ### texts: slices, startswith, upper, * n, <=, int(text), [elt for c in text], all(list) -/
namespace My
open PySem PySem.Spec PyProof.Rows L2
section
variable {X : Cx}
end
end My
namespace My
open PySem PySem.Spec PyProof.Rows L2
section
variable {X : Cx}
end
end My
/-! ### written numbers and letters, over the signs of a text -/
namespace My
open PySem PySem.Spec PyProof.Rows L2 PySem.NumText
def dig (c : Nat) : Bool := decide (48 ≤ c ∧ c ≤ 57)
def figsL : List Nat → List Nat
  | [] => []
  | c :: r => if c = 45 then r else c :: r
def isFigs : List Nat → Bool
  | [] => false
  | c :: r => !decide (c = 48) && (decide ((c :: r).length ≤ 30) && (c :: r).all dig)
def isNumL (cs : List Nat) : Bool := decide (cs = [48]) || isFigs (figsL cs)
def isLetL : List Nat → Bool
  | [c] => decide (97 ≤ c ∧ c ≤ 122)
  | _ => false
theorem len_codes (x : Str) : x.length = x.cps.toList.length := by simp [Str.length]
end My
namespace My
open PySem PySem.Spec PyProof.Rows L2 PySem.NumText
theorem app_codes (a b : Str) : (a ++ b).cps.toList = a.cps.toList ++ b.cps.toList := by
  show (a.cps ++ b.cps).toList = _
  simp
theorem num_bad {cs : List Nat} {d : Nat} (hd : d ∈ figsL cs) (hn : dig d = false) (hne : ¬ cs = [48]) : isNumL cs = false := by
  unfold isNumL
  rw [decide_eq_false hne, Bool.false_or]
  cases e : figsL cs with
  | nil => rw [e] at hd; cases hd
  | cons c r =>
    rw [e] at hd
    have ha : (c :: r).all dig = false := by
      cases q : (c :: r).all dig with
      | false => rfl
      | true => rw [List.all_eq_true.mp q d hd] at hn; cases hn
    show (!decide (c = 48) && (decide ((c :: r).length ≤ 30) && (c :: r).all dig)) = false
    rw [ha, Bool.and_false, Bool.and_false]
def Bad (tx : Str) : Prop := isNumL tx.cps.toList = false ∧ isLetL tx.cps.toList = false ∧ tx.length ≤ 100 ∧ ∀ c ∈ tx.cps.toList, c < 16 ^ 8
theorem Bad.two {tx : Str} {a b : Nat} (h : tx.cps.toList = [a, b]) (ha : a < 128) (hb : b < 128) (hd : (a ≠ 45 ∧ dig a = false) ∨ dig b = false) : Bad tx := by
  refine ⟨?_, by rw [h]; rfl, by rw [len_codes, h]; show 2 ≤ 100; decide, fun c hc => ?_⟩
  · rw [h]
    rcases hd with ⟨h1, h2⟩ | h2
    · refine num_bad (d := a) ?_ h2 (by simp)
      have e : figsL [a, b] = [a, b] := if_neg h1
      rw [e]; simp
    · refine num_bad (d := b) ?_ h2 (by simp)
      by_cases h1 : a = 45
      · have e : figsL [a, b] = [b] := if_pos h1
        rw [e]; simp
      · have e : figsL [a, b] = [a, b] := if_neg h1
        rw [e]; simp
  · rw [h] at hc
    have : c = a ∨ c = b := by simpa using hc
    omega
end My
/-! ### isinstance(e, C) of an own exception e -/
namespace My
open PySem PySem.Spec PyProof.Rows L2 Builtin Builtin.ObjectAttr Builtin.Getset_descriptor
/-- what the lookups tell along an own class of exceptions -/
structure ExcK (K : PySem.W.Frag) (C : Addr) : Prop where
  it : PySem.W.isClsIn K C = true
  ga : PySem.W.findIn K (.ref C) "__getattribute__" = some (some (.builtin "BaseException.__getattribute__"))
  gt : PySem.W.findIn K (.ref C) "__getattr__" = some none
  cl : PySem.W.findIn K (.ref C) "__class__" = some (some (.builtin "object.__class__"))
  mB : PySem.W.mroIn K C (.type "BaseException") = some true
  mO : PySem.W.mroIn K C (.type "object") = some true
/-- the object at a is of the class at C -/
def IsExc (a C : Addr) (h : Heap) : Prop := ∃ o, h.get? a = some o ∧ o.cls = .ref C
section
variable {prog : Program} {w : World} {A : Around} {E : Value → Shared → Prop} {h : Heap} {g : Array GenState} {d : Drawn} {t : Nat} {os : OsState} {a C : Addr} {o : Obj} {K : PySem.W.Frag}
end
end My
/-! ### try: y = f(..) / except S as e: .., S a class above the one that was raised; isinstance of e -/
namespace My
open PySem PySem.Spec PyProof.Rows L2
section
variable {X : Cx}
/-- how two own classes stand: D's object, whether C is under D -/
structure KitP (K : PySem.W.Frag) (C D : Addr) (b : Bool) : Prop where
  it : PySem.W.isClsIn K D = true
  ty : PySem.W.typeIn K (.ref D) = some (.type "type")
  self : PySem.W.subIn K (.ref C) (.ref C) = some true
  sub : PySem.W.subIn K (.ref C) (.ref D) = some b
theorem KitP.one {K : PySem.W.Frag} {C D : Addr} {b : Bool} (p : KitP K C D b) : PySem.W.kitOne K (.ref C) (.ref D) = some b := by
  unfold PySem.W.kitOne
  by_cases e : (Value.ref C == Value.ref D) = true
  · rw [if_pos e]
    have e1 : C = D := Value.ref.inj (beq_iff_eq.mp e)
    have h1 := p.self
    have h2 := p.sub
    rw [← e1, h1] at h2
    exact h2
  · rw [if_neg e]
    show (if ((PySem.W.clsIn K D).isSome && PySem.W.typeIn K (.ref D) == some (.type "type")) = true then PySem.W.subIn K (.ref C) (.ref D) else none) = some b
    have h1 : (PySem.W.clsIn K D).isSome = true := p.it
    rw [h1, p.ty, if_pos (by simp), p.sub]
/-- the clause's test -/
theorem exc_matches {M : Model} {A : Around} {E : Value → Shared → Prop} {K : PySem.W.Frag} {h : Heap} {g : Array GenState} {d : Drawn} {t : Nat} {os : OsState} {e C S : Addr} {oe : Obj} {b : Bool} {Q : Bool → Shared → Prop} (X : K.In h) (he : h.get? e = some oe) (hcls : oe.cls = .ref C)
    (hty : PySem.W.typeIn K (.ref S) = some (.type "type")) (hit : PySem.W.isClsIn K S = true) (hB : PySem.W.mroIn K S (.type "BaseException") = some true) (hs : PySem.W.subIn K (.ref C) (.ref S) = some b) (hq : Q b ⟨h, g, d, t, os⟩) : wpAny M A (excMatches (.ref e) (.ref S)) Q E ⟨h, g, d, t, os⟩ := by
  have f := tc_notTuple
  have L0 := PySem.W.looks_typeIn (M := M) X hty
  have L1 := PySem.W.looks_mroIn (M := M) X hB
  have L2 := PySem.W.looks_subIn (M := M) X hs
  have L3 : PySem.W.Looks M h (isType (.ref S)) true := by
    unfold PySem.W.isClsIn PySem.W.clsIn at hit
    split at hit
    · rename_i c' d' cd' sl' ho
      intro A' Q' E' s' k q
      unfold isType loadHead
      exact wpAny_bind (wpAny_loadPart (k _ _ (X _ _ ho)) (wpAny_pure q))
    · cases hit
  unfold excMatches isInstance
  repeat (first | (with_reducible refine wpAny_loadPart_at he ?_; rw [hcls]) | with_reducible refine PySem.W.Looks.at L0 ?_ | with_reducible refine PySem.W.Looks.at L1 ?_ | with_reducible refine PySem.W.Looks.at L2 ?_ | with_reducible refine PySem.W.Looks.at L3 ?_ | wp_step)
  cases b <;> (wp_walk; exact hq)
end
end My
/-! ### try: y = f(..) / except S as n: .. -/
namespace My
open PySem PySem.Spec PyProof.Rows L2
section
variable {X : Cx} {pins : List (Addr × Obj)} {σ : L2.St} {H : Hp} {s : Shared}
theorem name_goes {M : Model} {A : Around} {E : Value → Shared → Prop} {j : Nat} {n : Str} {pos : Pos} {Q : Unit → Shared → Prop} (I : Inv X pins σ H s) (hN : X.N.Nodup) (hj : X.N[j]? = some n) (hk : X.env.scope.names.lookup n = some .local)
    (h : ∀ s', Inv X pins (σ.set j none) H s' → Q () s') : wpAny M A (do bindName X.env n .none; unbindBehindTheSuite X.env n pos) Q E s := by
  obtain ⟨m, hn, hl⟩ := id I.loc
  have hcls : (X.env.scope.kind == .class || (X.env.scope.kind == .module && X.env.locals != X.env.globals)) = false := by rw [I.ok.kind]; rfl
  have hjσ : j < σ.length := by rw [I.len]; exact (List.getElem?_eq_some_iff.mp hj).1
  have cne := I.cne
  refine wpAny_nameGoes_keeps hk hn hcls fun h' v hn' hs => ?_
  obtain ⟨oL, _, _, hoL, _⟩ := id hn
  refine h _ ⟨I.ok, I.os, I.bare, ⟨fun b o e n hb hx => ?_, fun b o e n hb hx => ?_, I.base.free, fun b o e hx => ?_, I.base.tups, I.base.frzs, I.base.tbls⟩, ⟨_, hn', fun i y v' e1 e2 e3 => ?_⟩, fun y c e => ?_, I.free, I.freeC, fun p hp => ?_, fun b ob e => ?_, by simpa using I.len⟩
  · exact (hs.2 b (Nat.ne_of_lt (Nat.lt_of_lt_of_le (Heap.lt_size e) I.ok.above))).trans (I.base.keep b o e n hb hx)
  · obtain ⟨sl, e1⟩ := I.base.slot b o e n hb hx
    exact ⟨sl, (hs.2 b (Nat.ne_of_lt (Nat.lt_of_lt_of_le (Heap.lt_size e) I.ok.above))).trans e1⟩
  · obtain ⟨o', e1⟩ := I.base.there b o e hx
    exact ⟨o', (hs.2 b (Nat.ne_of_lt (Nat.lt_of_lt_of_le (Heap.lt_size e) I.ok.above))).trans e1⟩
  · by_cases hi : i = j
    · subst hi
      rw [List.getElem?_set_self hjσ] at e2
      cases e2
    · rw [List.getElem?_set_ne (Ne.symm hi)] at e2
      obtain ⟨u', r', q⟩ := hl i y v' e1 e2 e3
      refine ⟨u', r', ?_⟩
      rcases q with ⟨k, e⟩ | ⟨k, c, e, z⟩
      · refine .inl ⟨k, ?_⟩
        have : y ≠ n := fun e => hi (nodup_ix hN e1 (e ▸ hj))
        simp [this, e]
      · exact .inr ⟨k, c, e, z.sameBut hs (cne y c e)⟩
  · obtain ⟨w', z⟩ := I.cell y c e
    exact ⟨w', z.sameBut hs (cne y c e)⟩
  · obtain ⟨e, n, ne, nf, d⟩ := I.pin p hp
    exact ⟨(hs.2 p.1 ne).trans e, n, ne, nf, d⟩
  · refine (I.hok b ob e).stay (fun c w' hc q => (hs.2 c ?_).trans q) (fun _ q => q) fun _ _ q => q
    rintro rfl
    rcases hc with rfl | hc
    · rw [I.free] at e; cases e
    · rw [I.free] at hc; cases hc
/-- an object that was made since is tracked -/
theorem inv_track {s1 : Shared} {H1 : Hp} {a : Addr} {o : HO} (I1 : Inv X pins σ H1 s1) (I : Inv X pins σ H s) (hn : s1.heap.get? a = none) (ha : H a = none) (ok : ObjOk X.prog X.w (upd H a o) s.heap a o) : Inv X pins σ (upd H a o) s := by
  have ne : ∀ b u, s1.heap.get? b = some u → b ≠ a := fun b u e z => by rw [z, hn] at e; cases e
  refine ⟨I.ok, I.os, I.bare, ⟨I.base.keep, I.base.slot, fun b u e n hx => ?_, I.base.there, fun b xs e => ?_, fun b u v e => ?_, fun b ps e => ?_⟩, I.loc, I.cell, ?_, fun x c e => ?_, fun p hp => ?_, fun b u e => ?_, I.len⟩
  · obtain ⟨u', e1⟩ := I1.base.there b u e hx
    rw [upd_ne (ne b u' e1)]
    exact I.base.free b u e n hx
  · have q := I.base.tups b xs e
    rw [upd_ne (ne_of_none q ha)]
    exact q
  · have q := I.base.frzs b u v e
    rw [upd_ne (ne_of_none q ha)]
    exact q
  · obtain ⟨more, q⟩ := I.base.tbls b ps e
    exact ⟨more, by rw [upd_ne (ne_of_none q ha)]; exact q⟩
  · obtain ⟨m0, ⟨u, _, _, hu, _⟩, _⟩ := I1.loc
    rw [upd_ne (ne _ u hu)]
    exact I.free
  · obtain ⟨v, u, hu, _⟩ := I1.cell x c e
    rw [upd_ne (ne c u hu)]
    exact I.freeC x c e
  · obtain ⟨e, n, n2, nf, d⟩ := I.pin p hp
    obtain ⟨e1, _⟩ := I1.pin p hp
    exact ⟨e, by rw [upd_ne (ne _ _ e1)]; exact n, n2, nf, d⟩
  · by_cases hb : b = a
    · subst hb
      rw [upd_same] at e
      cases e
      exact ok
    · rw [upd_ne hb] at e
      refine (I.hok b u e).stay (fun c v hc q => q) (fun c q => ?_) fun c xs q => ?_
      · rw [upd_ne (ne_of_none q ha)]; exact q
      · rw [upd_ne (ne_of_none q ha)]; exact q
/-- a class of exceptions, as an except clause's -/
structure ExcS (K : PySem.W.Frag) (mg : Str → Option Value) (x : Str) (S : Addr) : Prop where
  bound : mg x = some (.ref S)
  ty : PySem.W.typeIn K (.ref S) = some (.type "type")
  it : PySem.W.isClsIn K S = true
  mB : PySem.W.mroIn K S (.type "BaseException") = some true
/-- what is wanted behind the suite: the name is gone -/
def gone (j : Nat) (D : Ends) : Ends := { nx := fun σ H => D.nx (σ.set j none) H, rt := D.rt, bk := fun σ H => D.bk (σ.set j none) H, ct := fun σ H => D.ct (σ.set j none) H }
/-- an exception of the class at C stands at a, its dict is d -/
def IsExcK (a C : Addr) (d : Option Addr) (h : Heap) : Prop := ∃ o, h.get? a = some o ∧ o.cls = .ref C ∧ PySem.W.notCls o = true ∧ o.dict = d
end
end My
/-! ### for c in text; for a, b in zip(xs, ys) over lists, tuples and texts -/
namespace My
open PySem PySem.Spec PyProof.Rows L2
/-- a fixed row of values -/
def Itf (ys : List V) : It := ⟨fun i _ => i < ys.length, fun i H x H' => H' = H ∧ ys[i]? = some x, fun i _ => ys.length ≤ i⟩
abbrev vsigns (y : Str) : List V := y.cps.toList.map fun c => V.str ⟨#[c]⟩
abbrev strIt (y : Str) : String := if y.cps.all (· < 128) then "str_ascii_iterator" else "str_iterator"
abbrev strItO (y : Str) (t : Tok) : Obj := { cls := .type (strIt y), data := .fields #[.str y t, .int 0 0] }
section
variable {X : Cx} {tg : Expr}
end
/-! the sources of a zip -/
structure Src (P : Program) (w : World) (K : PySem.W.Frag) (J : It) (it : Addr) (st : Nat → Heap → Prop) : Prop where
  obj : ∀ i h, st i h → ∃ o, h.get? it = some o ∧ ∀ v, o.data ≠ .cell v
  keep : ∀ i h h', st i h → (∀ o, h.get? it = some o → h'.get? it = some o) → st i h'
  item : ∀ (X : Cx), X.prog = P → X.w = w → X.K = K → ∀ (A : Around) (i : Nat) (pins : List (Addr × Obj)) (s : Shared) (σ : L2.St) (H : Hp) (Q : Value → Shared → Prop) (E : Value → Shared → Prop), Inv X pins σ H s → st i s.heap → J.go i H →
    (∀ x u h' tk, RelV x u → J.yld i H x H → st (i + 1) h' → Heap.SameBut it s.heap h' → Q u { s with heap := h', toks := tk }) → wpAny (model P w) A (Builtin.SmallTypes.nextOf (.ref it)) Q E s
  done : ∀ (X : Cx), X.prog = P → X.w = w → X.K = K → ∀ (A : Around), A.handled = none → ∀ (i : Nat) (pins : List (Addr × Obj)) (s : Shared) (σ : L2.St) (H : Hp) (Q : Value → Shared → Prop) (E : Value → Shared → Prop), Inv X pins σ H s → st i s.heap → J.stop i H →
    (∀ h' e, Heap.ExtBut it s.heap h' → (∃ o, h'.get? e = some o ∧ o.cls = .type "StopIteration") → E (.ref e) { s with heap := h' }) → wpAny (model P w) A (Builtin.SmallTypes.nextOf (.ref it)) Q E s
section
variable {P : Program} {w : World} {K : PySem.W.Frag}
/-- the five objects of a zip -/
structure ZipAp (z TI TO i1 i2 : Addr) : Prop where
  TIz : TI ≠ z
  TOz : TO ≠ z
  i1z : i1 ≠ z
  i2z : i2 ≠ z
  TITO : TI ≠ TO
  TIi1 : TI ≠ i1
  TIi2 : TI ≠ i2
  TOi1 : TO ≠ i1
  TOi2 : TO ≠ i2
  i12 : i1 ≠ i2
/-! the call of zip -/
inductive SrcV (h : Heap) : Value → Obj → Prop where
  | list {l : Addr} {xs : Array Value} (e : h.IsList l xs) : SrcV h (.ref l) { cls := .type "list_iterator", data := .fields #[.ref l, .int 0 0] }
  | tup {l : Addr} {xs : Array Value} (e : h.IsTuple l xs) : SrcV h (.ref l) { cls := .type "tuple_iterator", data := .fields #[.ref l, .int 0 0] }
  | str (y : Str) (t : Tok) : SrcV h (.str y t) (strItO y t)
theorem SrcV.keep {h h' : Heap} {u : Value} {o : Obj} (x : SrcV h u o) (k : ∀ b o, h.get? b = some o → h'.get? b = some o) : SrcV h' u o := by
  cases x with
  | list e => exact .list (e.at fun o q => k _ o q)
  | tup e => obtain ⟨o, e, r⟩ := e; exact .tup ⟨o, k _ _ e, r⟩
  | str y t => exact .str y t
/-- a zip has been made over h: its five objects in g -/
structure Zipped (h g : Heap) (o1 o2 : Obj) (z TI TO i1 i2 : Addr) : Prop where
  zip : IsZip g z TI TO .none
  ins : IsPair g TI (.ref i1) (.ref i2)
  outs : IsPair g TO .none .none
  one : g.get? i1 = some o1
  two : g.get? i2 = some o2
  keep : ∀ c o, h.get? c = some o → g.get? c = some o
  young : ∀ c ∈ [z, TI, TO, i1, i2], h.objs.size ≤ c
  ap : ZipAp z TI TO i1 i2
end
/-- what a zip may walk, as it stands in the abstract heap -/
inductive SrcOf (K : PySem.W.Frag) (H : Hp) : V → It → Prop where
  | list {a : Addr} {xs : List V} (h : SqL K H a xs) : SrcOf K H (.ref a) (Itl K a)
  | tup {a : Addr} {xs : List V} (h : SqT K H a xs) : SrcOf K H (.ref a) (Itt K a)
  | str (y : Str) : SrcOf K H (.str y) (Itf (vsigns y))
section
variable {X : Cx}
end
/-- what a source gives -/
structure Gives (J : It) (H : Hp) (xs : List V) : Prop where
  go : ∀ i, i < xs.length → J.go i H
  stop : ∀ i, xs.length ≤ i → J.stop i H
  yld : ∀ i x H', J.yld i H x H' → xs[i]? = some x
theorem gives_list {K : PySem.W.Frag} {H : Hp} {a : Addr} {xs : List V} (h : SqL K H a xs) : Gives (Itl K a) H xs := ⟨fun i hi => ⟨xs, xs[i], h, by simp [hi]⟩, fun i hi => ⟨xs, h, hi⟩, fun i x H' y => y.2 xs h⟩
end My
/-! ### figures of a text: in, index; more of isinstance -/
namespace My
open PySem PySem.Spec PyProof.Rows L2 PySem.NumText
section
variable {X : Cx}
end
section
variable {K : PySem.W.Frag}
end
/-- a text that a message may show -/
def Short (n : Nat) (x : Str) : Prop := x.length ≤ n ∧ ∀ c ∈ x.cps.toList, c < 16 ^ 8
theorem Short.mono {n m : Nat} {x : Str} (h : Short n x) (l : n ≤ m) : Short m x := ⟨Nat.le_trans h.1 l, h.2⟩
theorem slice_mem (x : Str) (lo hi : Option Int) : ∀ c ∈ (Txt.slice x lo hi).cps.toList, c ∈ x.cps.toList := by
  intro c hc
  unfold Txt.slice at hc
  split at hc
  · exact hc
  · have hc' : c ∈ (PySem.Builtin.Str.strSliceIndices lo hi 1 x.length).filterMap (x.cps[·]?) := hc
    obtain ⟨i, _, e⟩ := List.mem_filterMap.mp hc'
    rw [← Array.getElem?_toList] at e
    exact List.mem_of_getElem? e
theorem Short.slice {n : Nat} {x : Str} (h : Short n x) (lo hi : Option Int) : Short n (Txt.slice x lo hi) := ⟨Nat.le_trans (Txt.slice_le x _ _) h.1, fun c hc => h.2 c (slice_mem x lo hi c hc)⟩
theorem Short.one {c : Nat} (h : c < 16 ^ 8) : Short 1 ⟨#[c]⟩ := by
  refine ⟨Nat.le_refl _, fun d hd => ?_⟩
  have : d = c := by simpa using hd
  rw [this]
  exact h
section
variable {X : Cx} {K : PySem.W.Frag}
end
end My
/-! ### [elt for target in iter], elt any expression that raises nothing -/
namespace My
open PySem PySem.Spec PyProof.Rows L2
section
variable {X : Cx} {pins : List (Addr × Obj)} {σ : L2.St} {H : Hp} {s : Shared} {scope : Scope} {N : List Str} {C : Addr} {ex : List Addr}
end
section
variable {X : Cx} {pins : List (Addr × Obj)} {σ : L2.St} {H : Hp} {s : Shared} {scope : Scope} {N : List Str} {target iter elt : Expr} {pos : Pos} {g : TG} {te : TE}
/-- behind the block: the caller's state -/
theorem comp_after {s' : Shared} {H' : Hp} {fp : List Addr} {C : Addr} (I : Inv X pins σ H s) (hf : ∀ b ∈ fp, FpOk X pins H b) (os : s'.os = s.os) (bare : AllBare s'.gens) (un : Un (frs X.stack) fp H H' s.heap s'.heap) (hok : HOk X.prog X.w H' s'.heap) (nC : H' C = none) (hC : s.heap.objs.size ≤ C) :
    Inv X pins σ H' s' ∧ FpOk X pins H' C :=
  ⟨I.call' os un hok bare fun b hb => let ⟨_, f1, _, f3, f4, f5⟩ := hf b hb; ⟨f3, f1, f4, f5⟩, I.fpOk hC nC⟩
theorem inv_but {H' : Hp} {C : Addr} {h' : Heap} (I : Inv X pins σ H' s) (f : FpOk X pins H' C) (k : Heap.SameBut C s.heap h') : Inv X pins σ H' { s with heap := h' } :=
  let ⟨f0, f1, _, f3, f4, f5⟩ := f
  I.turned (t' := s.toks) (fun b o hb e => (k.2 b hb).trans e) f0 f1 f3 f4 f5
end
end My
/-! ### texts cut at a sign and put together again: split, join -/
namespace My
open PySem PySem.Spec PyProof.Rows L2 PySem.Builtin.Str
section
variable {X : Cx}
end
/-- the signs of what is put together -/
def glue (c : Nat) : List (List Nat) → List Nat
  | [] => []
  | [p] => p
  | p :: q :: r => p ++ c :: glue c (q :: r)
end My
/-! ### a dict of the module: D.get(e) -/
namespace My
open PySem PySem.Spec PyProof.Rows L2
structure KDict (P : Program) (w : World) (K : PySem.W.Frag) (a : Addr) (kvs : List (Key × V)) : Prop where
  get : ∀ h : Heap, K.In h → ∃ vs, KV kvs vs ∧ h.DictOf (mixKind P w) a vs
  sys : (a == sysModules) = false
inductive KEnts (w : World) : List DictEntry → List (Str × V) → Prop where
  | nil : KEnts w [] []
  | cons {x : Str} {t : Tok} {v : V} {u : Value} {es : List DictEntry} {ps : List (Str × V)} (r : RelV v u) (q : KEnts w es ps) : KEnts w ({ hash := hashStr w x, key := .str x t, val := u } :: es) ((x, v) :: ps)
end My
/-! ### str of an int or a text; a comprehension over what stays -/
namespace My
open PySem PySem.Spec PyProof.Rows L2
end My
namespace My
open PySem PySem.Spec PyProof.Rows L2
end My
/-! ### own exceptions made and kept: C(e) of a class without an __init__ -/
namespace My
open PySem PySem.Spec PyProof.Rows L2
section
variable {X : Cx}
end
end My
/-! ### exceptions with an __init__ and fields: C(..) made, S.__init__(self, ..), self.x = .., e.x -/
namespace My
open PySem
section
variable {prog : Program} {w : World} {A : Around} {E : Value → Shared → Prop} {h : Heap} {g : Array GenState} {d : Drawn} {t : Nat} {os : OsState}
variable {nm q : Str} {C N : Addr} {bs bm bmB : List Value} {hdct : Bool} {sn : List Str} {sub : List Value} {ab : Bool} {col : Option Bool} {dd : Option Addr} {k0 k1 k2 k3 k5 : Option Value} {B newId initId : String}

end
end My
namespace My
open PySem PySem.Spec PyProof.Rows L2
abbrev mroVE : List Value := [.type "ValueError", .type "Exception", .type "BaseException", .type "object"]
/-- the object at C is a class under ValueError, those between without an __init__ -/
def ExcCl (K : PySem.W.Frag) (C : Addr) : Prop := ∃ bm N nm qn bs hd sn sub ab col dd k0 k1 k2 k3 k5, K.lookup C = some (excClassObj nm qn C N bs bm hd sn sub ab col dd k0 k1 k2 k3 k5 "ValueError.__new__") ∧ ∀ h, K.In h → OwnTail h mroVE bm
section
variable {prog : Program} {w : World} {A : Around} {E : Value → Shared → Prop} {h : Heap} {g : Array GenState} {d : Drawn} {t : Nat} {os : OsState} {a C : Addr} {ox : Obj} {od : Option Obj} {K : PySem.W.Frag} {name : Str} {v : Value}
/-- what a store on an exception of the class at C asks of the class -/
structure ExcW (K : PySem.W.Frag) (C : Addr) : Prop where
  sa : PySem.W.findIn K (.ref C) "__setattr__" = some (some (.builtin "object.__setattr__"))
  hd : PySem.W.hasDictIn K C = true
  mO : PySem.W.mroIn K C (.type "object") = some true
  tl : ExcCl K C
end
end My
namespace My
open PySem PySem.Spec PyProof.Rows L2
def IsExcF (a C : Addr) (d : Option Addr) (h : Heap) : Prop := ∃ o, h.get? a = some o ∧ o.cls = .ref C ∧ o.dict = d ∧ ∃ vs t0, o.data = .fields vs ∧ vs[0]? = some (.ref t0) ∧ vs[1]? = some .none ∧ vs[2]? = some .none
abbrev IsExcD (a C dx : Addr) (h : Heap) : Prop := IsExcK a C (some dx) h
section
variable {P : Program} {w : World} {H : Hp} {h : Heap} {a C dx : Addr} {fs : List (Str × V)}
theorem IsExcF.any {h : Heap} (e : IsExcF a C (some dx) h) : IsExcD a C dx h := let ⟨o, q, c, d, vs, t0, x, _⟩ := e; ⟨o, q, c, by unfold PySem.W.notCls; rw [x], d⟩
end
section
variable {X : Cx} {pins : List (Addr × Obj)} {σ : L2.St} {H : Hp} {s : Shared} {a C dx : Addr} {fs : List (Str × V)} {A : Around} {E : Value → Shared → Prop} {f : Str} {y v : V} {u : Value}
end
section
variable {X : Cx} {o e value : Expr} {f : Str} {pos pos' : Pos} {ta tv : TE}
end
end My
namespace My
open PySem PySem.Spec PyProof.Rows L2
/-- what an exception class with an __init__ of its own must have to be made -/
structure MkX (K : PySem.W.Frag) (C f : Addr) : Prop where
  cls : ExcCl K C
  init : PySem.W.findIn K (.ref C) "__init__" = some (some (.ref f))
  fn : PySem.W.isFn K (.ref f) = true
  kp : PySem.W.keepIn K (.ref C) = true
section
variable {X : Cx} {CX : CXT} {k : Nat} {f C : Addr} {fd : FuncData} {ps : List Str} {sp : Sp} {dvs : List V} {ds : List Value} {E : XK} {x m : Str} {p pos apos : Pos} {e o : Expr} {es : List Expr} {ta : TE} {t : TA}
/-- what the class at S must have for S.m to be the builtin id -/
structure ClsB (K : PySem.W.Frag) (S : Addr) (m : Str) (id : String) : Prop where
  sp : PySem.W.specialIn K (.ref S) "__getattribute__" = some (some (.builtin "type.__getattribute__"))
  rd : PySem.W.readsIn K S (.type "type") = true
  fd : PySem.W.findCls K (.ref S) (.type "type") m = some (.val (.builtin id))
  ha : PySem.W.handedIn (.builtin id) = true
end
end My
/-! ### raise C(..), C with an __init__ of its own: what leaves the def keeps its fields -/
namespace My
open PySem PySem.Spec PyProof.Rows L2
section
variable {M : Model} {A : Around} {E : Value → Shared → Prop} {s : Shared} {env : Env} {K : PySem.W.Frag} {C : Addr}
end

/-- an object goes untracked -/
def del (H : Hp) (a : Addr) : Hp := fun b => if b = a then none else H b
section
variable {X : Cx} {CX : CXT} {k : Nat} {f C : Addr} {fd : FuncData} {ps : List Str} {sp : Sp} {dvs : List V} {ds : List Value} {E : XK}
end
section
variable {P : Program} {w : World} {H H2 : Hp} {fs : List Addr} {h h' h2 : Heap} {ea : Addr} {o : HO}
end

section
variable {P : Program} {w : World} {K : PySem.W.Frag} {mg : Str → Option Value} {base : Heap} {N : List Str} {qual : Str} {scope : Scope} {f : Addr} {cd : Value} {A : Around} {outer : List Env} {s₀ : Shared} {H₀ : Hp} {E : XK}
  {pins : List (Addr × Obj)} {σ : L2.St} {H H2 : Hp} {s s2 : Shared} {h' : Heap} {ea C : Addr} {d : Option Addr}
end

section
variable {P : Program} {w : World} {K : PySem.W.Frag} {mg : Str → Option Value} {base : Heap} {N : List Str} {qual : Str} {scope : Scope} {f fI : Addr} {cd : Value} {A : Around} {outer : List Env} {s₀ : Shared} {H₀ : Hp} {E : XK}
end
end My
/-! ### try: raise C(..) / except S as e -/
namespace My
open PySem PySem.Spec PyProof.Rows L2
section
variable {M : Model} {A : Around} {E : Value → Shared → Prop} {s : Shared}
end
section
variable {X : Cx}
end
end My
/-! ### isinstance of any tracked exception, f"..{n}..", count of truths -/
namespace My
open PySem PySem.Spec PyProof.Rows L2
section
variable {X : Cx} {K : PySem.W.Frag}
theorem IsExcK.is {a C : Addr} {d : Option Addr} {h : Heap} (x : IsExcK a C d h) : IsExc a C h := let ⟨o, e, c, _⟩ := x; ⟨o, e, c⟩
theorem IsExcF.is {a C : Addr} {d : Option Addr} {h : Heap} (x : IsExcF a C d h) : IsExc a C h := let ⟨o, e, c, _⟩ := x; ⟨o, e, c⟩
end
end My
/-! ### [elt for target in iter if test], with names of the def around it (cells) -/
namespace My
open PySem PySem.Spec PyProof.Rows L2
/-- what a block closes over -/
def closOf (cells : List (Str × Addr)) : List (Str × NameKind) → List (Str × Addr) → List (Str × Addr)
  | [], acc => acc
  | (n, k) :: r, acc => if (k == NameKind.free) = true then closOf cells r ((n, (cells.lookup n).getD 0) :: acc) else closOf cells r acc
theorem closure_is {scope : Scope} {env : Env} (h : ∀ q ∈ scope.names, q.2 = .free → ∃ c, env.cells.lookup q.1 = some c) : closureFor scope env = pure (closOf env.cells scope.names []) := by
  simp only [closureFor]
  generalize ([] : List (Str × Addr)) = acc
  revert h
  generalize scope.names = names
  intro h
  induction names generalizing acc with
  | nil => rfl
  | cons q r ih =>
    obtain ⟨n, k⟩ := q
    rw [List.forIn_cons]
    by_cases hk : (k == NameKind.free) = true
    · obtain ⟨c, hc⟩ := h (n, k) List.mem_cons_self (by simpa using hk)
      have e : cellOf env n = pure c := by simp only [cellOf, hc]
      simp only [closOf, hk, if_true, e, hc, Option.getD_some, pure_bind]
      exact ih _ fun q hq => h q (List.mem_cons_of_mem _ hq)
    · simp only [closOf, hk, if_false, pure_bind, Bool.false_eq_true]
      exact ih _ fun q hq => h q (List.mem_cons_of_mem _ hq)
theorem closOf_sub {cells : List (Str × Addr)} : ∀ {names : List (Str × NameKind)} {acc : List (Str × Addr)}, (∀ q ∈ names, q.2 = .free → ∃ c, cells.lookup q.1 = some c) → (∀ x c, acc.lookup x = some c → cells.lookup x = some c) → ∀ x c, (closOf cells names acc).lookup x = some c → cells.lookup x = some c
  | [], _, _, ha => ha
  | (n, k) :: r, acc, h, ha => by
    intro x c e
    by_cases hk : (k == NameKind.free) = true
    · obtain ⟨d, hd⟩ := h (n, k) List.mem_cons_self (by simpa using hk)
      rw [closOf, if_pos hk] at e
      refine closOf_sub (fun q hq => h q (List.mem_cons_of_mem _ hq)) (fun y b q => ?_) x c e
      cases hy : y == n with
      | true =>
        rw [List.lookup_cons, hy] at q
        have ey : y = n := by simpa using hy
        subst ey
        have hd' : List.lookup y cells = some d := hd
        rw [hd'] at q ⊢
        simpa using q
      | false =>
        rw [List.lookup_cons, hy] at q
        exact ha y b q
    · rw [closOf, if_neg hk] at e
      exact closOf_sub (fun q hq => h q (List.mem_cons_of_mem _ hq)) ha x c e
theorem closOf_has {cells : List (Str × Addr)} : ∀ {names : List (Str × NameKind)} {acc : List (Str × Addr)} {x : Str}, ((x, NameKind.free) ∈ names ∨ ∃ c, acc.lookup x = some c) → ∃ c, (closOf cells names acc).lookup x = some c
  | [], _, _, h => h.elim (fun z => by cases z) id
  | (n, k) :: r, acc, x, h => by
    by_cases hk : (k == NameKind.free) = true
    · rw [closOf, if_pos hk]
      refine closOf_has ?_
      cases hx : x == n with
      | true => exact .inr ⟨_, by rw [List.lookup_cons, hx]⟩
      | false =>
        rcases h with h | ⟨c, h⟩
        · rcases List.mem_cons.mp h with z | z
          · cases z
            simp at hx
          · exact .inl z
        · exact .inr ⟨c, by rw [List.lookup_cons, hx]; exact h⟩
    · rw [closOf, if_neg hk]
      refine closOf_has ?_
      rcases h with h | h
      · rcases List.mem_cons.mp h with z | z
        · cases z
          exact absurd rfl hk
        · exact .inl z
      · exact .inr h
theorem relabel_kind {env : Env} : ∀ {names : List (Str × NameKind)} {x : Str} {k' : NameKind}, (names.map fun (n, k) => if (k == NameKind.free && env.scope.kind == .function && env.kindOf n == some .cell) then (n, NameKind.cell) else (n, k)).lookup x = some k' →
    ∃ k, names.lookup x = some k ∧ (k' = k ∨ (k = .free ∧ k' = .cell))
  | [], _, _, h => by simp at h
  | (n, k) :: r, x, k', h => by
    have ih := @relabel_kind env r x k'
    have h : List.lookup x ((if (k == NameKind.free && env.scope.kind == .function && env.kindOf n == some .cell) = true then (n, NameKind.cell) else (n, k)) :: _) = some k' := h
    cases hx : x == n with
    | true =>
      by_cases hc : (k == NameKind.free && env.scope.kind == .function && env.kindOf n == some .cell) = true
      · rw [if_pos hc, List.lookup_cons, hx] at h
        cases h
        have hk : k = .free := by
          simp only [Bool.and_eq_true] at hc
          simpa using hc.1.1
        exact ⟨k, by rw [List.lookup_cons, hx], .inr ⟨hk, rfl⟩⟩
      · rw [if_neg hc, List.lookup_cons, hx] at h
        cases h
        exact ⟨k, by rw [List.lookup_cons, hx], .inl rfl⟩
    | false =>
      obtain ⟨k2, e, q⟩ := ih (by
        by_cases hc : (k == NameKind.free && env.scope.kind == .function && env.kindOf n == some .cell) = true
        · rw [if_pos hc, List.lookup_cons, hx] at h; exact h
        · rw [if_neg hc, List.lookup_cons, hx] at h; exact h)
      exact ⟨k2, by rw [List.lookup_cons, hx]; exact e, q⟩
/-- the context of the block -/
def compCxF (X : Cx) (scope : Scope) (N : List Str) (cl : List (Str × Addr)) (C : Addr) (s₀ : Shared) (H₀ : Hp) (ex : List Addr) : Cx :=
  { X with N := N, s₀ := s₀, H₀ := H₀, env := compEnvC scope cl C X.env, outer := X.stack, stack := X.stack, ex := ex, fn := fun _ => false, pn := [], xe := fun _ _ => False }
/-- the names at the block's entry: its own have no value yet, those of the def have theirs -/
def startF (σ : L2.St) (n : Nat) (js : List Nat) : L2.St := List.replicate n none ++ js.map fun j => (σ[j]?).getD none
/-- the tests of a clause -/
def ifsOf (ifs : List Expr) (env : Env) : Sem Bool := forIn ifs true fun c r => if r = true then do let ok ← isTrue c env (eval c env); pure (ForInStep.yield ok) else pure (ForInStep.yield r)
structure PIfs (X : Cx) (ifs : List Expr) (t : TT) : Prop where
  run : ∀ (pins : List (Addr × Obj)) (s : Shared) (σ : L2.St) (H : Hp) (Q : Bool → Hp → Prop), Inv X pins σ H s → t σ H Q → wpAny (model X.prog X.w) X.A (ifsOf ifs X.env) (TP X pins σ Q) X.xe s
def tYes : TT := fun _ H Q => Q true H
theorem pf_nil {X : Cx} : PIfs X [] tYes := ⟨fun pins s σ H Q I h => wpAny_tests_nil ⟨H, I, h⟩⟩
theorem pf_one {X : Cx} {c : Expr} {t : TT} (h : PT X c t) : PIfs X [c] t := ⟨fun pins s σ H Q I q => wpAny_tests_one (h pins s σ H Q I q)⟩
/-- scope and names fit: fv are names of the def (its cells), at the places js of its own names -/
structure CompSc (X : Cx) (scope : Scope) (fv : List Str) (js : List Nat) : Prop where
  kind : scope.kind = .function
  cell : ∀ q ∈ scope.names, q.2 ≠ .cell
  names : ∀ q ∈ scope.names, q.2 = .local → scope.names.lookup q.1 = some .local
  free : ∀ q ∈ scope.names, q.2 = .free → q.1 ∈ fv
  out : ∀ x ∈ fv, X.env.kindOf x = some .cell ∨ X.env.kindOf x = some .free
  at' : js.map (fun j => X.N[j]?) = fv.map some
  fr : ∀ x ∈ fv, scope.names.lookup x = some .free
section
variable {X : Cx} {pins : List (Addr × Obj)} {σ : L2.St} {H : Hp} {s : Shared} {scope : Scope} {N : List Str} {C : Addr} {ex : List Addr} {cl : List (Str × Addr)} {fv tg : List Str} {js : List Nat}
theorem CompSc.clos (S : CompSc X scope fv js) (ok : X.Ok) : closureFor scope X.env = pure (closOf X.env.cells scope.names []) := closure_is fun q hq e => ok.has q.1 (S.out q.1 (S.free q hq e))
theorem CompSc.sub (S : CompSc X scope fv js) (ok : X.Ok) : ∀ x c, (closOf X.env.cells scope.names []).lookup x = some c → X.env.cells.lookup x = some c :=
  closOf_sub (fun q hq e => ok.has q.1 (S.out q.1 (S.free q hq e))) (fun x c e => by cases e)
theorem comp_okF (I : Inv X pins σ H s) (S : CompSc X scope fv js) (hC : s.heap.objs.size ≤ C)
    (hf : ∀ b ∈ ex, FpOk X pins H b) (ho : ∀ b ∈ ex, ∃ o, s.heap.get? b = some o) : (compCxF X scope N (closOf X.env.cells scope.names []) C s H ex).Ok := by
  have sub := S.sub I.ok
  refine ⟨I.ok.mod, S.kind, I.ok.glob, I.ok.blt, hC, fun x y c e1 e2 => I.ok.inj x y c (sub x c e1) (sub y c e2), fun x hx => ?_, fun x c z _ => Bool.noConfusion z, I.ok.hd, I.ok.frames, .inl rfl, fun b hb => ⟨?_, fun x c e => ?_⟩, I.bs, Nat.le_trans I.ok.bsz I.sz, fun b o e hb => ?_, fun b hb hm => ?_, I.stack, I.stkFree⟩
  · have e : ∃ k', (relabel scope X.env).names.lookup x = some k' ∧ (k' = .cell ∨ k' = .free) := by
      rcases hx with z | z
      · exact ⟨_, z, .inl rfl⟩
      · exact ⟨_, z, .inr rfl⟩
    obtain ⟨k', e, hk⟩ := e
    obtain ⟨k, e2, q⟩ := relabel_kind e
    have hk2 : k = .free := by
      rcases q with rfl | ⟨rfl, _⟩
      · rcases hk with rfl | rfl
        · exact absurd rfl (S.cell _ (PySem.mem_of_lookup e2))
        · rfl
      · rfl
    subst hk2
    exact closOf_has (.inl (PySem.mem_of_lookup e2))
  · obtain ⟨o, e⟩ := ho b hb
    exact Nat.ne_of_lt (Nat.lt_of_lt_of_le (Heap.lt_size e) hC)
  · obtain ⟨_, _, _, _, q, _⟩ := hf b hb
    exact q x c (sub x c e)
  · obtain ⟨_, _, _, q, _⟩ := hf b hb
    rcases q with q | q
    · exact I.ok.noex b o e q
    · exact absurd (Nat.lt_of_lt_of_le (Heap.lt_size e) (Nat.le_trans I.ok.bsz q)) (Nat.lt_irrefl _)
  · obtain ⟨_, q1, q2, _⟩ := hf b hb
    rcases List.mem_cons.mp (I.stkSub b hm) with z | z
    · exact q1 z
    · exact q2 z
theorem comp_startF {D : Addr} {h' : Heap} {t' : Nat} {m : Str → Option Value} (I : Inv X pins σ H s) (S : CompSc X scope fv js) (ok : (compCxF X scope (tg ++ fv) (closOf X.env.cells scope.names []) C s H ex).Ok) (hk : ∀ b o, s.heap.get? b = some o → h'.get? b = some o) (hD : s.heap.get? D = none) (hC : s.heap.get? C = none) (hDC : D ≠ C)
    (hl : h'.get? D = some { cls := .type "list", data := .seq #[] }) (hn : h'.Ns C m) : Inv (compCxF X scope (tg ++ fv) (closOf X.env.cells scope.names []) C s H ex) [] (startF σ tg.length js) (upd H D (.lst [])) { s with heap := h', toks := t' } := by
  have nD := inv_none I hD
  have neD : ∀ b u, s.heap.get? b = some u → b ≠ D := fun b u e z => by rw [z, hD] at e; cases e
  have sub := S.sub I.ok
  have cellK : ∀ c v, s.heap.IsCell c v → h'.IsCell c v := fun c v ⟨o, ho, hd⟩ => ⟨o, hk c o ho, hd⟩
  have hlen : js.length = fv.length := by have := congrArg List.length S.at'; simpa using this
  refine ⟨ok, rfl, I.bare, ⟨fun b u q _ _ _ => hk b u q, fun b u q _ _ _ => ⟨u.slots, hk b u q⟩, fun b u q n _ => by rw [upd_ne (neD b u q)]; exact n, fun b u q _ => ⟨u, hk b u q⟩, fun b xs q => by rw [upd_ne (ne_of_none q nD)]; exact q,
    fun b u xs q => by rw [upd_ne (ne_of_none q nD)]; exact q, fun b ps (q : H b = _) => ⟨#[], by rw [upd_ne (ne_of_none q nD), q]; simp⟩⟩, ⟨m, hn, fun i x v e1 e2 e3 => ?_⟩, fun x c e => ?_, ?_, fun x c e => ?_, fun p hp => (by cases hp), fun b u e => ?_, by simp [compCxF, startF, hlen]⟩
  · have e1 : (tg ++ fv)[i]? = some x := e1
    rcases Nat.lt_or_ge i tg.length with hi | hi
    · rw [startF, List.getElem?_append_left (by simpa using hi), List.getElem?_replicate, if_pos hi] at e2
      cases e2
    · rw [List.getElem?_append_right hi] at e1
      rw [startF, List.getElem?_append_right (by simpa using hi), List.length_replicate, List.getElem?_map] at e2
      obtain ⟨j, hj, e2⟩ := Option.map_eq_some_iff.mp e2
      have hσ : σ[j]? = some (some v) := by
        cases q : σ[j]? with
        | none => rw [q] at e2; cases e2
        | some z => rw [q] at e2; exact congrArg some e2
      have hN : X.N[j]? = some x := by
        have q := congrArg (fun l => l[i - tg.length]?) S.at'
        simp only [List.getElem?_map, hj, e1, Option.map_some] at q
        exact Option.some.inj q
      have hx : x ∈ fv := List.mem_of_getElem? e1
      have ko := S.out x hx
      obtain ⟨m0, _, hl0⟩ := I.loc
      have vis : Vis X.env.scope x := ko.elim (fun z => .inr (.inl z)) fun z => .inr (.inr z)
      obtain ⟨u, ru, lk⟩ := hl0 j x v hN hσ vis
      obtain ⟨c, hc, hcell⟩ : ∃ c, X.env.cells.lookup x = some c ∧ s.heap.IsCell c (some u) := by
        rcases lk with ⟨z, _⟩ | ⟨_, q⟩
        · rcases ko with y | y <;> (rw [y] at z; cases z)
        · exact q
      obtain ⟨c2, hc2⟩ : ∃ c2, (closOf X.env.cells scope.names []).lookup x = some c2 := closOf_has (.inl (PySem.mem_of_lookup (S.fr x hx)))
      have ec : c2 = c := by have := sub x c2 hc2; rw [hc] at this; exact (Option.some.inj this).symm
      subst ec
      refine ⟨u, ru, .inr ⟨?_, c2, hc2, cellK _ _ hcell⟩⟩
      have e3 : (relabel scope X.env).names.lookup x = some .local ∨ (relabel scope X.env).names.lookup x = some .cell ∨ (relabel scope X.env).names.lookup x = some .free := e3
      rcases e3 with z | z | z
      · obtain ⟨k, ek, q⟩ := relabel_kind z
        rw [S.fr x hx] at ek
        cases ek
        rcases q with q | ⟨_, q⟩ <;> cases q
      · exact .inl z
      · exact .inr z
  · obtain ⟨v, z⟩ := I.cell x c (sub x c e)
    exact ⟨v, cellK c v z⟩
  · show upd H D (.lst []) C = none
    rw [upd_ne (Ne.symm hDC)]
    exact inv_none I hC
  · obtain ⟨v, o, ho, _⟩ := I.cell x c (sub x c e)
    rw [upd_ne (neD c o ho)]
    exact I.freeC x c (sub x c e)
  · by_cases hb : b = D
    · subst hb
      rw [upd_same] at e
      cases e
      exact ⟨Nat.zero_le _, [], _, .nil, hl⟩
    · rw [upd_ne hb] at e
      exact (I.hok b u e).stay (fun c v _ q => hk c v q) (fun c q => by rw [upd_ne (ne_of_none q nD)]; exact q) fun c xs q => by rw [upd_ne (ne_of_none q nD)]; exact q
end
theorem comp_loopF {prog : Program} {w : World} {A : Around} {s : Shared} {R : Result → Shared → Prop} {elt target iter : Expr} {ifs : List Expr} {scope : Scope} {pos : Pos} {it acc : Value} {env : Env} (I : Nat → Shared → Prop)
    (turn : ∀ n s, I n s → wpAny (model prog w) A (pyNext it) (fun r s1 => (r = none ∧ R (.ok .next) s1) ∨ ∃ v, r = some v ∧ wpAny (model prog w) A (letOwnedTupleGo target it v) (fun _ s2 => wpAny (model prog w) A (assign target env v) (fun _ s3 =>
      wpAny (model prog w) A (ifsOf ifs env) (fun ok s4 => if ok = true then wpAny (model prog w) A (eval elt env) (fun x s5 => wpAny (model prog w) A (call (.builtin "list.append") [acc, x]) (fun _ s6 => ∃ m, m < n ∧ I m s6) (fun _ _ => False) s5) (fun _ _ => False) s4
        else ∃ m, m < n ∧ I m s4) (fun _ _ => False) s3) (fun _ _ => False) s2) (fun _ _ => False) s1) (fun _ _ => False) s)
    (n : Nat) (h : I n s) : codeAny (model prog w) A (.compLoop (.ListComp elt [⟨target, iter, ifs, 0⟩] scope pos) 0 it acc env) R s := by
  have no : ∀ {α : Type} {E : Value → Shared → Prop} {t : Sem α} {Q : α → Shared → Prop} {u : Shared}, wpAny (model prog w) A t Q (fun _ _ => False) u → wpAny (model prog w) A t Q E u := fun z => wpAny_mono z (fun _ _ q => q) fun _ _ q => q.elim
  refine codeAny_loop rfl I (fun n s hI => wpAny_noted ?_) n h
  rw [compTurn_list]
  refine wpAny_bind (wpAny_standAt (wpAny_bind (wpAny_mono (turn n s hI) (fun r s1 q => ?_) fun _ _ z => z.elim)))
  rcases q with ⟨rfl, q⟩ | ⟨v, rfl, q⟩
  · exact wpAny_pure q
  · refine wpAny_bind (no (thn q fun _ s2 q2 => wpAny_bind (no (thn q2 fun _ s3 q3 => wpAny_bind (no (thn q3 fun ok s4 q4 => ?_))))))
    cases ok with
    | false => exact wpAny_pure ⟨rfl, q4⟩
    | true => exact wpAny_bind (wpAny_bind (no (thn q4 fun x s5 q5 => wpAny_bind (no (thn q5 fun _ s6 q6 => wpAny_pure (wpAny_pure ⟨rfl, q6⟩))))))
def compQF (σ0 : L2.St) (J : It) (g : TG) (tc : TT) (te : TE) (Q : VK) (H1 : Hp) : Prop := ∀ D, H1 D = none → ∃ W : Nat → Nat → List V → L2.St → Hp → Prop, (∃ m, W 0 m [] σ0 (upd H1 D (.lst []))) ∧ ∀ i m ys τ H, W i m ys τ H → H D = some (.lst ys) ∧
  ((J.stop i H ∧ Q (.ref D) H) ∨ (J.go i H ∧ ys.length < sizeLine ∧ ∀ v H', J.yld i H v H' → g v τ H' fun τ2 H2 => tc τ2 H2 fun ok H3 => if ok = true then te τ2 H3 fun y H4 => H4 D = some (.lst ys) ∧ ∃ m', m' < m ∧ W (i + 1) m' (ys ++ [y]) τ2 (upd H4 D (.lst (ys ++ [y])))
    else ∃ m', m' < m ∧ W (i + 1) m' ys τ2 H3))
section
variable {X : Cx} {pins : List (Addr × Obj)} {σ : L2.St} {H : Hp} {s : Shared} {scope : Scope} {fv : List Str} {js : List Nat} {target iter elt : Expr} {ifs : List Expr} {pos : Pos} {g : TG} {tc : TT} {te : TE}
theorem comp_blockF {E : Value → Shared → Prop} {J : It} {fp : List Addr} {it : Addr} {tn : Nat → Heap → Prop} {Q : VK} {RR : Value → Addr → Result → Shared → Prop} (tg : List Str) (I : Inv X pins σ H s) (hc : X.calm = true)
    (S : CompSc X scope fv js) (T : Turn X.prog X.w X.K target J fp it tn) (st : tn 0 s.heap) (hf : ∀ b ∈ fp, FpOk X pins H b)
    (hg : ∀ cl C s₀ H₀ ex, PG (compCxF X scope (tg ++ fv) cl C s₀ H₀ ex) target g) (hi : ∀ cl C s₀ H₀ ex, PIfs (compCxF X scope (tg ++ fv) cl C s₀ H₀ ex) ifs tc) (he : ∀ cl C s₀ H₀ ex, PE (compCxF X scope (tg ++ fv) cl C s₀ H₀ ex) elt te) (q : compQF (startF σ tg.length js) J g tc te Q H)
    (hRR : ∀ D C H' s' m, s'.os = s.os → AllBare s'.gens → Un (frs X.stack) fp H H' s.heap s'.heap → HOk X.prog X.w H' s'.heap → s'.heap.Ns C m → H' C = none → s.heap.objs.size ≤ C → Q (.ref D) H' → RR (.ref D) C (.ok .next) s') :
    wpAny (model X.prog X.w) X.A (newList []) (fun acc s3 => wpAny (model X.prog X.w) X.A (newFunctionEnv scope X.env.globals (closOf X.env.cells scope.names []) [] X.env.qual none .none (some X.env)) (fun cenv s4 =>
      codeAny (model X.prog X.w) X.A (.compStart (.ListComp elt [⟨target, iter, ifs, 0⟩] scope pos) 0 (.ref it) acc { cenv with scope := relabel scope X.env }) (RR acc cenv.locals) s4) E s3) E s := by
  refine wpAny_newObj_type (wpAny_newFunctionEnv S.cell (by intro y hy; simp at hy) (fun h1 hn k1 => ?_) S.kind)
  dsimp only at hn k1 ⊢
  generalize hg2 : s.heap.push { cls := .type "list", dict := none, data := .seq ([] : List Value).toArray } = g2 at hn k1 ⊢
  have hC : g2.objs.size = s.heap.objs.size + 1 := by rw [← hg2, Heap.size_push]
  have hDC : s.heap.objs.size ≠ g2.objs.size := by rw [hC]; exact Nat.ne_of_lt (Nat.lt_succ_self _)
  have hle : s.heap.objs.size ≤ g2.objs.size := by rw [hC]; exact Nat.le_succ _
  have nD : s.heap.get? s.heap.objs.size = none := Heap.get?_none_of_le (Nat.le_refl _)
  have nC : s.heap.get? g2.objs.size = none := Heap.get?_none_of_le hle
  have old : ∀ b o, s.heap.get? b = some o → h1.get? b = some o := fun b o e => k1.extBut b o (Nat.ne_of_lt (Nat.lt_of_lt_of_le (Heap.lt_size e) hle)) (Heap.get?_push_of_some _ (hg2 ▸ Heap.get?_push_of_some _ e))
  have hl : h1.get? s.heap.objs.size = some { cls := .type "list", data := .seq #[] } := k1.extBut _ _ hDC (Heap.get?_push_of_some _ (hg2 ▸ Heap.get?_push_size _ rfl))
  have ob := T.obj 0 s.heap st
  generalize hcl : closOf X.env.cells scope.names [] = cl
  have ok : (compCxF X scope (tg ++ fv) cl g2.objs.size s H fp).Ok := hcl ▸ comp_okF I S hle hf fun b hb => let ⟨o, e, _⟩ := ob b hb; ⟨o, e⟩
  have I0 : Inv (compCxF X scope (tg ++ fv) cl g2.objs.size s H fp) [] (startF σ tg.length js) (upd H s.heap.objs.size (.lst [])) { s with heap := h1, toks := s.toks + ([] : List (Str × Value)).length } := by
    subst hcl
    exact comp_startF I S ok old nD nC hDC hl hn
  have st1 : tn 0 h1 := T.keep 0 _ _ st fun b _ o e => old b o e
  obtain ⟨W, ⟨m0, w0⟩, turn⟩ := q _ (inv_none I nD)
  have fpok : ∀ {H' : Hp} {ps : List (Addr × Obj)}, (∀ p ∈ ps, p.1 ∉ fp) → (∀ b ∈ fp, H' b = none) → ∀ b ∈ fp, FpOk (compCxF X scope (tg ++ fv) cl g2.objs.size s H fp) ps H' b := fun hps hn b hb => ⟨hn b hb, (ok.exf b hb).1, ok.exfs b hb, .inl hb, (ok.exf b hb).2, fun p hp z => hps p hp (z ▸ hb)⟩
  have loop : codeAny (model X.prog X.w) X.A (.compLoop (.ListComp elt [⟨target, iter, ifs, 0⟩] scope pos) 0 (.ref it) (.ref s.heap.objs.size) (compEnvC scope cl g2.objs.size X.env)) (RR (.ref s.heap.objs.size) g2.objs.size) { s with heap := h1, toks := s.toks + ([] : List (Str × Value)).length } := by
    refine comp_loopF (fun n s' => ∃ i ys τ H', Inv (compCxF X scope (tg ++ fv) cl g2.objs.size s H fp) [] τ H' s' ∧ tn i s'.heap ∧ (∀ b ∈ fp, H' b = none) ∧ W i n ys τ H') (fun n s' hI => ?_) m0 ⟨0, [], _, _, I0, st1, fun b hb => ?_, w0⟩
    · obtain ⟨i, ys, τ, H', I1, t1, f1, w1⟩ := hI
      obtain ⟨hD, w1⟩ := turn i n ys τ H' w1
      rcases w1 with ⟨stop, qn⟩ | ⟨go, hz, step⟩
      · refine thn (T.done (compCxF X scope (tg ++ fv) cl g2.objs.size s H fp) rfl rfl rfl hc i [] s' τ H' _ I1 (fpok (by simp) f1) t1 stop) fun r s2 ⟨hr, I2⟩ => .inl ⟨hr, ?_⟩
        obtain ⟨m, hn2, _⟩ := I2.loc
        exact hRR _ _ H' s2 m I2.os I2.bare I2.base I2.hok hn2 I2.free hle qn
      · refine thn (T.item (compCxF X scope (tg ++ fv) cl g2.objs.size s H fp) rfl rfl rfl hc i [] s' τ H' _ I1 (fpok (by simp) f1) t1 go) fun r s2 ⟨u, hr, h2⟩ => .inr ⟨u, hr, thn h2 fun _ s3 ⟨x, H3, I3, r3, y3, t3, f3⟩ => ?_⟩
        have I3' := I3.pinned (fpok (by simp) f3) (T.obj _ _ t3)
        have back : ∀ {s6 : Shared} {τ4 : L2.St} {H6 : Hp}, Inv (compCxF X scope (tg ++ fv) cl g2.objs.size s H fp) ([] ++ pinsAt fp s3.heap) τ4 H6 s6 → tn (i + 1) s6.heap ∧ ∀ b ∈ fp, H6 b = none := fun I6 =>
          ⟨T.keep _ _ _ t3 fun b hb o e => (I6.pin (b, o) (List.mem_append_right _ (List.mem_append_right _ (mem_pinsAt hb e)))).1, fun b hb => by
            obtain ⟨o, e, _⟩ := T.obj _ _ t3 b hb
            exact (I6.pin (b, o) (List.mem_append_right _ (List.mem_append_right _ (mem_pinsAt hb e)))).2.1⟩
        refine thn ((hg _ _ _ _ _) _ s3 τ H3 x u _ I3' r3 (step x H3 y3)) fun _ s4 ⟨τ4, H4, I4, q4⟩ => ?_
        refine thn ((hi _ _ _ _ _).run _ s4 τ4 H4 _ I4 q4) fun b s5 ⟨H5, I5, q5⟩ => ?_
        cases b with
        | false =>
          obtain ⟨m', hm, w5⟩ := (show ∃ m', m' < n ∧ W (i + 1) m' ys τ4 H5 from q5)
          obtain ⟨b1, b2⟩ := back I5
          exact ⟨m', hm, i + 1, _, τ4, _, I5.unpinned, b1, b2, w5⟩
        | true =>
          refine thn ((he _ _ _ _ _) _ s5 τ4 H5 _ I5 q5) fun z s6 ⟨y, H6, I6, r6, hD6, m', hm, w6⟩ => ?_
          refine thn (mt_append _ s6 τ4 H6 (.ref s.heap.objs.size) [y] (.ref s.heap.objs.size) [z] (fun _ H7 => H7 = upd H6 s.heap.objs.size (.lst (ys ++ [y]))) I6 rfl (.cons r6 .nil) ⟨_, ys, y, rfl, rfl, hD6, hz, rfl⟩) fun _ s7 ⟨v7, H7, I7, _, e7⟩ => ?_
          subst e7
          obtain ⟨b1, b2⟩ := back I7
          exact ⟨m', hm, i + 1, _, τ4, _, I7.unpinned, b1, b2, w6⟩
    · obtain ⟨o, e, _⟩ := ob b hb
      rw [upd_ne (Nat.ne_of_lt (Heap.lt_size e))]
      exact (hf b hb).1
  exact codeAny_compStart_list loop (T.self _ 0 _ _ _ st1 loop)
def tCompF (n : Nat) (js : List Nat) (wi : TI) (g : TG) (tc : TT) (te : TE) : TE := fun σ H Q => wi σ H fun J H1 => compQF (startF σ n js) J g tc te Q H1
theorem pe_compF {wi : TI} (tg : List Str) (hc : X.calm = true) (S : CompSc X scope fv js) (hi : PI X target iter wi)
    (hg : ∀ cl C s₀ H₀ ex, PG (compCxF X scope (tg ++ fv) cl C s₀ H₀ ex) target g) (hf : ∀ cl C s₀ H₀ ex, PIfs (compCxF X scope (tg ++ fv) cl C s₀ H₀ ex) ifs tc) (he : ∀ cl C s₀ H₀ ex, PE (compCxF X scope (tg ++ fv) cl C s₀ H₀ ex) elt te) (hs : ∀ x, foldedSetIterable iter X.env x = pure x := by intro _; rfl) :
    PE X (.ListComp elt [⟨target, iter, ifs, 0⟩] scope pos) (tCompF tg.length js wi g tc te) := by
  constructor; intro pins s σ H Q I h
  rw [eval_ListComp]
  refine wpAny_comprehension_free (use := none) rfl hs (S.clos I.ok) S.kind S.names (thn (hi pins s σ H _ I h) fun v s1 h1 => thn h1 fun itv s2 h2 => ?_)
  obtain ⟨it, fp, tn, J, H2, rfl, I2, T, st2, f2, q⟩ := h2
  refine comp_blockF (RR := fun acc C => compPost (model X.prog X.w) X.A X.xe none (EP X pins σ Q) acc C) tg I2 hc S T st2 f2 hg hf he q fun D C H' s' m os bare un hok hn nC hC qq => ⟨m, hn, fun h' k => ?_⟩
  obtain ⟨IX, fC⟩ := comp_after I2 f2 os bare un hok nC hC
  exact ⟨.ref D, H', inv_but IX fC k, rfl, qq⟩
/-- y = [..] -/
theorem ps_compF {wi : TI} {i : Nat} {y : Str} {py spos : Pos} (tg : List Str) (hc : X.calm = true) (hN : X.N.Nodup) (hy : X.N[i]? = some y) (hk : X.env.scope.names.lookup y = some .local) (S : CompSc X scope fv js) (hi : PI X target iter wi)
    (hsw : swapsWith (.ListComp elt [⟨target, iter, ifs, 0⟩] scope pos) (some (.Name y py)) spos.line X.env = pure true)
    (hg : ∀ cl C s₀ H₀ ex, PG (compCxF X scope (tg ++ fv) cl C s₀ H₀ ex) target g) (hf : ∀ cl C s₀ H₀ ex, PIfs (compCxF X scope (tg ++ fv) cl C s₀ H₀ ex) ifs tc) (he : ∀ cl C s₀ H₀ ex, PE (compCxF X scope (tg ++ fv) cl C s₀ H₀ ex) elt te) (hs : ∀ x, foldedSetIterable iter X.env x = pure x := by intro _; rfl) :
    PS X (.Assign [.Name y py] (.ListComp elt [⟨target, iter, ifs, 0⟩] scope pos) spos) (fun D σ H => tCompF tg.length js wi g tc te σ H fun v H1 => D.nx (σ.set i (some v)) H1) := by
  constructor; intro pins s σ H D I h
  rw [exec_Assign_Name_used _ _ _ _ hsw]
  refine wpAny_bind (wpAny_standAt (wpAny_bind (wpAny_bind (wpAny_mono (Q := fun _ s' => SP X pins D .next s') (E := X.xe) (wpAny_comprehension_free (use := some (assign (.Name y py) X.env)) rfl hs (S.clos I.ok) S.kind S.names
    (thn (hi pins s σ H _ I h) fun v s1 h1 => thn h1 fun itv s2 h2 => ?_)) (fun _ s' q => wpAny_pure (wpAny_pure q)) fun _ _ z => z))))
  obtain ⟨it, fp, tn, J, H2, rfl, I2, T, st2, f2, q⟩ := h2
  refine comp_blockF (RR := fun acc C => compPost (model X.prog X.w) X.A X.xe (some (assign (.Name y py) X.env)) (fun _ s' => SP X pins D .next s') acc C) tg I2 hc S T st2 f2 hg hf he q fun L C H' s' m os bare un hok hn nC hC qq => ?_
  obtain ⟨IX, fC⟩ := comp_after I2 f2 os bare un hok nC hC
  refine wpAny_assign_Name (store_ok2 IX hN hy (.inl hk) (v := .ref L) rfl (fun s3 I3 ⟨a, k3, ha⟩ => ?_) (.inr hk))
  have ne : C ≠ a := by
    rcases ha with z | z
    · rw [z]; exact fC.2.1
    · exact fun w' => fC.2.2.2.2.1 y a z w'.symm
  exact ⟨m, hn.sameBut k3 ne, fun h' k => ⟨_, H', inv_but I3 fC k, qq⟩⟩
end
theorem allc_nil {α : Type} {P : α → Prop} : ∀ x ∈ ([] : List α), P x := fun _ h => by cases h
theorem allc_cons {α : Type} {P : α → Prop} {a : α} {l : List α} (h : P a) (t : ∀ x ∈ l, P x) : ∀ x ∈ a :: l, P x := fun x hx => by
  rcases List.mem_cons.mp hx with e | e
  · exact e ▸ h
  · exact t x e
end My
/-! ### dicts: d.setdefault(k, x), sorted(d); any(xs); forms for a block's context -/
namespace My
open PySem PySem.Spec PyProof.Rows L2
section
variable {X : Cx} {pins : List (Addr × Obj)} {σ : L2.St} {H : Hp} {s : Shared} {a : Addr} {kvs : List (Key × V)} {k : Key} {u r : Value} {d : V} {A : Around} {E : Value → Shared → Prop}
end
section
variable {X : Cx} {o e f : Expr} {td ty tx : TE} {apos cpos : Pos}
end
section
variable {K : PySem.W.Frag}
theorem kit_ll : PySem.W.kitOne K (.type "list") (.type "list") = some true := by
  show (if (Value.type "list" == Value.type "list") = true then some true else if PySem.W.kitMeta "list" = true then (fastBuiltinMro "list").map (·.contains (Value.type "list")) else none) = some true
  decide +kernel
end
/-- xs.append(y): the heap behind it by what it has -/
def rAppendA : V → List V → Hp → VK → Prop := fun x vs H Q => ∃ l xs y, x = .ref l ∧ vs = [y] ∧ H l = some (.lst xs) ∧ xs.length < sizeLine ∧ ∀ H', H' l = some (.lst (xs ++ [y])) → (∀ b o, b ≠ l → H b = some o → H' b = some o) → Q .non H'
theorem mt_appendA {X : Cx} : MtM X "list.append" rAppendA := by
  intro pins s σ H x vs v us Q I rx rv h
  obtain ⟨l, xs, y, ex, ev, hH, hz, q⟩ := h
  exact mt_append pins s σ H x vs v us Q I rx rv ⟨l, xs, y, ex, ev, hH, hz, q _ upd_same fun b o n e => by rw [upd_ne n]; exact e⟩
/-- xs.clear(): likewise -/
def rClearA : V → List V → Hp → VK → Prop := fun x vs H Q => ∃ l xs, x = .ref l ∧ vs = [] ∧ H l = some (.lst xs) ∧ ∀ H', (∀ b o, b ≠ l → H b = some o → H' b = some o) → Q .non H'
theorem mt_clearA {X : Cx} : MtM X "list.clear" rClearA := by
  intro pins s σ H x vs v us Q I rx rv h
  obtain ⟨l, xs, ex, ev, hH, q⟩ := h
  exact mt_clear pins s σ H x vs v us Q I rx rv ⟨l, xs, ex, ev, hH, q _ fun b o n e => by rw [upd_ne n]; exact e⟩
end My
/-! ### for i, x in enumerate(xs), xs a list -/
namespace My
open PySem PySem.Spec PyProof.Rows L2
section
variable {P : Program} {w : World} {K : PySem.W.Frag}
end
section
variable {X : Cx}
end
end My
/-! ### try: o.m(..) / except S as n: suite -/
namespace My
open PySem PySem.Spec PyProof.Rows L2
section
variable {X : Cx}
/-- what a call raised is caught -/
theorem caught {ho : Addr → Addr → Option Addr → HO} {S : Addr} {c n : Str} {j : Nat} {b₀ : Stmt} {suite : List Stmt} {th : TS} {np hpos : Pos} {pins : List (Addr × Obj)} {σ : L2.St} {H1 : Hp} {s1 s' : Shared} {D : Ends} {e : Value}
    (I1 : Inv X pins σ H1 s1) (hq : CXW X.prog X.w X.stack H1 s1 (fun cls d H2 => ∃ C, cls = .ref C ∧ PySem.W.subIn X.K (.ref C) (.ref S) = some true ∧ ∀ ea, H2 ea = none → th (gone j D) (σ.set j (some (.ref ea))) (upd H2 ea (ho ea C d))) e s')
    (T : ExcS X.K X.mg c S) (hgc : Gl X c) (hN : X.N.Nodup) (hj : X.N[j]? = some n) (hxn : X.env.scope.names.lookup n = some .local) (hst : X.stack = X.env :: X.outer) (hfr : X.env.frame = some X.env.locals)
    (hs : ∀ ea, PSs (markX X ea) (b₀ :: suite) th) (hho : ∀ (H : Hp) (h : Heap) (ea C : Addr) (d : Option Addr), IsExcK ea C d h → ObjOk X.prog X.w H h ea (ho ea C d)) (hdc : (c == ("__debug__" : Str)) = false) :
    wpAny (model X.prog X.w) X.A (noteFrame e X.env) (fun _ s₂ => wpAny (model X.prog X.w) X.A (setFlight e none) (fun _ s₃ => wpAny (model X.prog X.w) X.A (handleBy e X.env [.ExceptHandler (some (.Name c np)) (some n) (b₀ :: suite) hpos]) (SP X pins D) X.xe s₃) X.xe s₂) X.xe s' := by
  obtain ⟨ea, cls, a0, B, H', d, rfl, os, bare, un, hok, fl, bk, n1, n2, ⟨o0, ho0, hd0⟩, C, hcls, hsub, hth⟩ := hq
  subst hcls
  have fl' := fl
  rw [hst] at fl'
  have hfnn : ∀ b ∈ frs X.stack, ∃ o, s'.heap.get? b = some o ∧ ∀ vs, o.data ≠ .fields vs := fun b hb => (fl.2.2.1.mem hb).2
  refine wpAny_mono (wpAny_calm (calm_noteFrame _ _) (wpAny_looks_onW (Q := fun _ s'' => ∃ h4, s'' = { s' with heap := h4 } ∧ Heap.HeldW B (X.env :: X.outer) ea (.ref C) a0 X.env.locals h4 ∧ s'.heap.UpToSlots h4) (by rw [I1.ok.frames, hst]) hfr fl' fun h4 x1 x2 => ⟨h4, rfl, x1, x2⟩)) (fun _ s'' ⟨⟨h4, e4, held, sm4⟩, dk4⟩ => ?_) fun _ _ z => z.1
  subst e4
  refine wpAny_mono (wpAny_calm (calm_setFlight _ _) (wpAny_landsW (Q := fun _ s'' => ∃ h5, s'' = { s' with heap := h5 } ∧ Heap.FlyingW B (X.env :: X.outer) ea (.ref C) a0 h5 ∧ h4.UpToSlots h5) held fun h5 x1 x2 => ⟨h5, rfl, x1, x2⟩)) (fun _ s'' ⟨⟨h5, e5, fl5, sm5⟩, dk5⟩ => ?_) fun _ _ z => z.1
  subst e5
  obtain ⟨ob, hob, hobc⟩ := fl5.there
  obtain ⟨un5, hok5, _, _⟩ := carry I1 un hok bk fl5.1 (sm4.trans sm5) hfnn
  have I5 : Inv X pins σ H' { s' with heap := h5 } := I1.call' (s' := { s' with heap := h5 }) os un5 hok5 bare (fun b z => absurd z (by simp))
  refine wpAny_handleBy_cons (codeAny_handlers_test (ld_glob (X := markX X ea) (inv_mark I5 ea) hgc T.bound ?_ hdc)) (by intro z; cases z)
  refine exc_matches (K := X.K) I5.kIn hob hobc T.ty T.it T.mB hsub (codeAny_handlers_suite_as ?_)
  refine wpAny_mono (wpAny_calm (calm_setFlight _ _) (lands_againW (Q := fun _ s'' => ∃ h6, s'' = { s' with heap := h6 } ∧ Heap.FlyingW B (X.env :: X.outer) ea (.ref C) a0 h6 ∧ h5.UpToSlots h6) fl5 fun h6 x1 x2 => ⟨h6, rfl, x1, x2⟩)) (fun _ s'' ⟨⟨h6, e6, fl6, sm6⟩, dk6⟩ => ?_) fun _ _ z => z.1
  subst e6
  obtain ⟨ob6, vs6, hob6, hobc6, hdat6, _⟩ := fl6.first
  have isK : IsExcK ea C d h6 := by
    obtain ⟨o4, ho4, hd4⟩ := dk4 ea o0 ho0
    obtain ⟨o5, ho5, hd5⟩ := dk5 ea o4 ho4
    obtain ⟨o6, ho6, hd6⟩ := dk6 ea o5 ho5
    have ho6' : h6.get? ea = some o6 := ho6
    rw [hob6] at ho6'
    cases ho6'
    exact ⟨ob6, hob6, hobc6, by unfold PySem.W.notCls; rw [hdat6], hd6.1.trans (hd5.1.trans (hd4.1.trans hd0.1))⟩
  obtain ⟨un6, hok6, _, _⟩ := carry I1 un hok bk fl6.1 ((sm4.trans sm5).trans sm6) hfnn
  have I6 : Inv X pins σ H' { s' with heap := h6 } := I1.call' (s' := { s' with heap := h6 }) os un6 hok6 bare (fun b z => absurd z (by simp))
  have I7 : Inv X pins σ (upd H' ea (ho ea C d)) { s' with heap := h6 } := inv_track I1 I6 n2 n1 (hho _ _ _ _ _ isK)
  refine store_ok (X := markX X ea) (i := j) (v := .ref ea) (inv_mark I7 ea) hN hj (.inl hxn) rfl (fun s8 I8 => ?_) (.inr hxn)
  refine wpAny_mono (hs ea pins _ _ _ (gone j D) I8 (hth ea n1)) (fun f2 s2 z => ?_) fun _ _ z => z.elim
  have z' := sp_unmark I6.ok z
  cases f2 with
  | next => obtain ⟨σ', H9, I9, q⟩ := z'; exact name_goes I9 hN hj hxn fun s3 I3 => ⟨_, H9, I3, q⟩
  | brk => obtain ⟨σ', H9, I9, q⟩ := z'; exact name_goes I9 hN hj hxn fun s3 I3 => ⟨_, H9, I3, q⟩
  | cont => obtain ⟨σ', H9, I9, q⟩ := z'; exact name_goes I9 hN hj hxn fun s3 I3 => ⟨_, H9, I3, q⟩
  | ret u => obtain ⟨v, σ', H9, I9, r, q⟩ := z'; exact name_goes I9 hN hj hxn fun s3 I3 => ⟨v, _, H9, I3, r, q⟩
end
end My
/-! ### for k, v in d.items(); for x in reversed(xs) -/
namespace My
open PySem PySem.Spec PyProof.Rows L2
theorem paired_get {α β : Type} {F : α → β → Prop} : ∀ {l : List α} {m : List β} {i : Nat} {a : α}, Paired F l m → l[i]? = some a → ∃ b, m[i]? = some b ∧ F a b
  | _, _, _, _, .nil, e => by simp at e
  | _, _, 0, _, .cons h _, e => by simp at e; subst e; exact ⟨_, rfl, h⟩
  | _, _, i + 1, a, .cons _ t, e => by
    obtain ⟨b, h1, h2⟩ := paired_get (i := i) (a := a) t (by simpa using e)
    exact ⟨b, by simpa using h1, h2⟩
section
variable {P : Program} {w : World} {K : PySem.W.Frag}
end
section
variable {X : Cx}
end
/-! ### reversed(xs) -/
section
variable {X : Cx}
end
end My
/-! ### dicts of numbers and None compared, held ones too; isinstance of any tuple -/
namespace My
open PySem PySem.Spec PyProof.Rows L2
section
variable {X : Cx} {pins : List (Addr × Obj)} {σ : L2.St} {H : Hp} {s : Shared} {a b : Addr} {kvs : List (Key × V)}
end
section
variable {X : Cx}
end
end My
/-! ### xs.insert(0, y) -/
namespace My
open PySem PySem.Spec PyProof.Rows L2
end My
/-! ### text.partition(sep) -/
namespace My
open PySem PySem.Spec PyProof.Rows L2 Builtin.Str
end My
/-! ### texts cut at "; " and put together again -/
namespace My
open PySem PySem.Spec PyProof.Rows L2 Builtin.Str PySem.StrLaws
def pre (d : Nat) : List (List Nat) → List (List Nat)
  | [] => []
  | p :: r => p :: r.map (d :: ·)
end My
/-! ### f"{a}lit", f"{a}lit{b}" of texts -/
namespace My
open PySem PySem.Spec PyProof.Rows L2
section
variable {X : Cx}
end
/-! ### what partition finds -/
section
open Builtin.Str PySem.StrLaws
end
end My
/-! ### min(numbers, default=None); comprehensions whose elements are new objects -/
namespace My
open PySem PySem.Spec PyProof.Rows L2 PyProof
section
variable {prog : Program} {w : World} {A : Around}
end
theorem prs_len {α β : Type} {F : α → β → Prop} {xs : List α} {bs : List β} (p : Paired F xs bs) : xs.length = bs.length := by
  induction p with
  | nil => rfl
  | cons _ _ ih => simp only [List.length_cons, ih]
end My
/-! ### list(reversed(xs)) -/
namespace My
open PySem PySem.Spec PyProof.Rows L2 PyProof
section
variable {prog : Program} {w : World} {A : Around} {s : Shared}
end
end My
/-! ### own classes without an __init__, a method by the object's class, isinstance of an own instance, try: f(..), texts -/
namespace My
open PySem PySem.Spec PyProof.Rows L2 PyProof
structure MkO (K : PySem.W.Frag) (C : Addr) : Prop where
  makes : PySem.W.makesIn K C = true
  init : PySem.W.findIn K (.ref C) "__init__" = some (some (.builtin "object.__init__"))
  kp : PySem.W.keepIn K (.ref C) = true
section
variable {X : Cx}
end
end My
/-! ### the table of a set: its places rise -/
namespace My
open PySem PySem.Spec PyProof.Rows L2 PyProof
def Ris (xs : Array Nat) : Prop := xs.toList.Pairwise (· < ·)
theorem Ris.lt {xs : Array Nat} (h : Ris xs) {i j x y : Nat} (hij : i < j) (hi : xs[i]? = some x) (hj : xs[j]? = some y) : x < y := by
  rw [← Array.getElem?_toList] at hi hj
  obtain ⟨i1, e1⟩ := List.getElem?_eq_some_iff.mp hi
  obtain ⟨j1, e2⟩ := List.getElem?_eq_some_iff.mp hj
  have := List.pairwise_iff_getElem.mp h i j i1 j1 hij
  rw [e1, e2] at this
  exact this
theorem below_go {xs : Array Nat} (h : Ris xs) (j : Nat) : ∀ (fuel lo hi : Nat), hi - lo ≤ fuel → lo ≤ hi → hi ≤ xs.size → (∀ k x, xs[k]? = some x → k < lo → x < j) → (∀ k x, xs[k]? = some x → hi ≤ k → j ≤ x) →
    ∀ k x, xs[k]? = some x → (k < SetTable.below.go xs j fuel lo hi → x < j) ∧ (SetTable.below.go xs j fuel lo hi ≤ k → j ≤ x)
  | 0, lo, hi, hf, hle, hs, h1, h2 => fun k x e => by
    unfold SetTable.below.go
    have : lo = hi := by omega
    subst this
    exact ⟨h1 k x e, h2 k x e⟩
  | fuel + 1, lo, hi, hf, hle, hs, h1, h2 => fun k x e => by
    unfold SetTable.below.go
    by_cases hlt : lo < hi
    · rw [if_pos hlt]
      have hm1 : lo ≤ (lo + hi) / 2 := by omega
      have hm2 : (lo + hi) / 2 < hi := by omega
      have hmx : (lo + hi) / 2 < xs.size := by omega
      have em : xs[(lo + hi) / 2]? = some xs[(lo + hi) / 2] := Array.getElem?_eq_getElem hmx
      have eg : xs.getD ((lo + hi) / 2) j = xs[(lo + hi) / 2] := by simp [Array.getD, hmx]
      dsimp only
      rw [eg]
      by_cases hc : xs[(lo + hi) / 2] < j
      · rw [if_pos hc]
        refine below_go h j fuel _ hi (by omega) (by omega) hs (fun k x e hk => ?_) h2 k x e
        by_cases q : k = (lo + hi) / 2
        · subst q
          rw [em] at e
          cases e
          exact hc
        · have := h.lt (show k < (lo + hi) / 2 by omega) e em
          omega
      · rw [if_neg hc]
        refine below_go h j fuel lo _ (by omega) hm1 (by omega) h1 (fun k x e hk => ?_) k x e
        by_cases q : k = (lo + hi) / 2
        · subst q
          rw [em] at e
          cases e
          omega
        · have := h.lt (show (lo + hi) / 2 < k by omega) em e
          omega
    · rw [if_neg hlt]
      have : lo = hi := by omega
      subst this
      exact ⟨h1 k x e, h2 k x e⟩
theorem below_is {xs : Array Nat} (h : Ris xs) (j : Nat) {k x : Nat} (e : xs[k]? = some x) : (k < SetTable.below xs j → x < j) ∧ (SetTable.below xs j ≤ k → j ≤ x) := by
  unfold SetTable.below
  refine below_go h j xs.size 0 xs.size (by omega) (Nat.zero_le _) (Nat.le_refl _) (fun k x _ hk => absurd hk (Nat.not_lt_zero _)) (fun k x e hk => ?_) k x e
  have := (Array.getElem?_eq_some_iff.mp e).1
  omega
/-- the first place not below j, where all before are: the walk's own step -/
theorem below_at {xs : Array Nat} (h : Ris xs) {i x : Nat} (e : xs[i]? = some x) : SetTable.below xs x = i := by
  have hb := below_is h x e
  by_cases q : SetTable.below xs x ≤ i
  · by_cases q2 : SetTable.below xs x = i
    · exact q2
    · have hlt : SetTable.below xs x < i := by omega
      have hi : i < xs.size := (Array.getElem?_eq_some_iff.mp e).1
      have e2 : xs[SetTable.below xs x]? = some xs[SetTable.below xs x] := Array.getElem?_eq_getElem (by omega)
      have h1 := (below_is h x e2).2 (Nat.le_refl _)
      have h2 := h.lt hlt e2 e
      omega
  · have := hb.1 (by omega)
    omega
theorem not_mem_place {xs : Array Nat} (h : Ris xs) {j : Nat} (e : xs[SetTable.below xs j]? ≠ some j) : j ∉ xs.toList := fun hm => by
  obtain ⟨k, hk, ek⟩ := List.getElem_of_mem hm
  have e1 : xs[k]? = some j := by rw [← Array.getElem?_toList, List.getElem?_eq_getElem hk, ek]
  rw [below_at h e1] at e
  exact e e1
theorem Ris.insert {xs : Array Nat} (h : Ris xs) {j : Nat} (hn : j ∉ xs.toList) : Ris (SetTable.insertAt xs (SetTable.below xs j) j) := by
  unfold Ris
  rw [SetTable.toList_insertAt]
  refine List.pairwise_append.mpr ⟨h.sublist (List.take_sublist _ _), List.pairwise_cons.mpr ⟨fun b hb => ?_, h.sublist (List.drop_sublist _ _)⟩, fun a ha b hb => ?_⟩
  · obtain ⟨k, hk, ek⟩ := List.getElem_of_mem hb
    rw [List.getElem_drop] at ek
    have e1 : xs[SetTable.below xs j + k]? = some b := by rw [← Array.getElem?_toList, List.getElem?_eq_getElem (by rw [List.length_drop] at hk; omega), ek]
    have := (below_is h j e1).2 (by omega)
    have ne : b ≠ j := fun z => hn (z ▸ List.mem_of_mem_drop hb)
    omega
  · obtain ⟨k, hk, ek⟩ := List.getElem_of_mem ha
    rw [List.getElem_take] at ek
    rw [List.length_take] at hk
    have e1 : xs[k]? = some a := by rw [← Array.getElem?_toList, List.getElem?_eq_getElem (by omega), ek]
    have h1 := (below_is h j e1).1 (by omega)
    rcases List.mem_cons.mp hb with z | z
    · omega
    · obtain ⟨k2, hk2, ek2⟩ := List.getElem_of_mem z
      rw [List.getElem_drop] at ek2
      have e2 : xs[SetTable.below xs j + k2]? = some b := by rw [← Array.getElem?_toList, List.getElem?_eq_getElem (by rw [List.length_drop] at hk2; omega), ek2]
      have := (below_is h j e2).2 (by omega)
      omega
/-- a set's table that was only added to -/
structure TOk (t : SetTable) : Prop where
  up : Ris t.place
  nd : t.dummies = #[]
theorem TOk.fresh (f m : Nat) (l : Bool) : TOk (.fresh f m l) := ⟨List.Pairwise.nil, rfl⟩
theorem TOk.noDummy {t : SetTable} (h : TOk t) (j : Nat) : SetTable.has t.dummies j = false := by
  rw [h.nd]
  unfold SetTable.has
  simp
theorem TOk.probed {t : SetTable} (h : TOk t) {f : Nat → Int} {z : Int} : ∀ (fuel : Nat) (p : SetTable.Probe) {j : Nat} {d : Option Nat}, p.dummy = none → SetTable.probe.go t f z fuel p = some (.empty j d) → d = none ∧ j ∉ t.place.toList
  | 0, p, j, d, hp, e => by unfold SetTable.probe.go at e; cases e
  | fuel + 1, p, j, d, hp, e => by
    unfold SetTable.probe.go at e
    have adv : ∀ q : SetTable.Probe, (t.advance q).dummy = q.dummy := fun q => by
      unfold SetTable.advance
      split <;> rfl
    cases hs : t.slot p.j with
    | empty =>
      rw [hs] at e
      cases e
      refine ⟨hp, not_mem_place h.up fun z => ?_⟩
      unfold SetTable.slot at hs
      simp only [z, beq_self_eq_true, if_true] at hs
      cases hs
    | dummy =>
      exfalso
      unfold SetTable.slot at hs
      simp only [h.noDummy] at hs
      split at hs <;> cases hs
    | live i =>
      rw [hs] at e
      dsimp only at e
      split at e
      · cases e
      · exact TOk.probed h fuel _ (by rw [adv]; exact hp) e
theorem TOk.free {t : SetTable} (h : TOk t) {z : Int} {j : Nat} {b : Bool} (e : t.freeSlot z = some (j, b)) : j ∉ t.place.toList := by
  unfold SetTable.freeSlot at e
  cases hp : t.probe (fun _ => z + 1) z (t.probeStart z) with
  | none => rw [hp] at e; cases e
  | some m =>
    rw [hp] at e
    cases m with
    | candidate a b c => cases e
    | empty j' d =>
      obtain ⟨hd, hn⟩ := h.probed _ _ rfl hp
      subst hd
      cases e
      exact hn
theorem TOk.put {t : SetTable} (h : TOk t) {j : Nat} (hn : j ∉ t.place.toList) : TOk (t.put j).1 ∧ (t.put j).1.led = t.led := by
  refine ⟨⟨h.up.insert hn, ?_⟩, rfl⟩
  show (if SetTable.has t.dummies j = true then _ else t.dummies) = #[]
  rw [h.noDummy, if_neg (by simp)]
  exact h.nd
theorem ris_range (n : Nat) : Ris (Array.range n) := by
  unfold Ris
  rw [Array.toList_range]
  exact List.pairwise_lt_range
theorem TOk.stand (t : SetTable) (n : Nat) : TOk (t.standIn n) ∧ (t.standIn n).led = t.led := ⟨⟨ris_range n, rfl⟩, rfl⟩
theorem laid_ok {mask fi mo : Nat} {led pl : Bool} {hs : Array Int} {t : SetTable} {o : Array Nat} (e : SetTable.laid mask fi mo led pl hs = some (t, o)) : TOk t ∧ t.led = led := by
  unfold SetTable.laid at e
  cases hl : SetTable.layClean mask hs with
  | none => rw [hl] at e; cases e
  | some ow =>
    rw [hl] at e
    cases e
    refine ⟨⟨?_, rfl⟩, rfl⟩
    show List.Pairwise (· < ·) (List.map (·.1) ((List.range (mask + 1)).filterMap fun j => (ow.getD j none).map (j, ·)))
    have key : ∀ l : List Nat, l.Pairwise (· < ·) → ((l.filterMap fun j => (ow.getD j none).map (j, ·)).map (·.1)).Pairwise (· < ·) ∧ ∀ x ∈ (l.filterMap fun j => (ow.getD j none).map (j, ·)).map (·.1), x ∈ l := by
      intro l
      induction l with
      | nil => intro _; exact ⟨.nil, fun x hx => by cases hx⟩
      | cons a r ih =>
        intro hp
        obtain ⟨h1, h2⟩ := List.pairwise_cons.mp hp
        obtain ⟨i1, i2⟩ := ih h2
        rw [List.filterMap_cons]
        cases ho : ow.getD a none with
        | none => exact ⟨i1, fun x hx => List.mem_cons_of_mem _ (i2 x hx)⟩
        | some q =>
          refine ⟨List.pairwise_cons.mpr ⟨fun b hb => h1 b (i2 b hb), i1⟩, fun x hx => ?_⟩
          rcases List.mem_cons.mp hx with z | z
          · exact z ▸ List.mem_cons_self
          · exact List.mem_cons_of_mem _ (i2 x z)
    exact (key _ List.pairwise_lt_range).1
end My
/-! ### set(numbers): what the set holds, and its table -/
namespace My
open PySem PySem.Spec PyProof.Rows L2 PyProof
def keyI (e : Int × Value) : Int := match e.2 with
  | .int n _ => n
  | _ => 0
section
variable {prog : Program} {w : World} {A : Around} {E : Value → Shared → Prop} {s : Shared}
/-- the set at a holds just ks, in some order -/
def SetG (prog : Program) (w : World) (h : Heap) (a : Addr) (ks : List Int) (led : Bool) : Prop :=
  ∃ o es ep t, h.get? a = some o ∧ o.ExactSet ∧ o.data = .set es ep t ∧ ElemsOf (intKind prog w) es.toList ∧ es.size < scanBound ∧ t.fits es.size = true ∧ TOk t ∧ t.led = led ∧ (es.toList.map keyI).Perm ks
theorem stored_g {h : Heap} {a : Addr} {o : Obj} {es : Array (Int × Value)} {ep : Nat} {t : SetTable} (ho : h.get? a = some o) (hd : o.data = .set es ep t) (es' : Array (Int × Value)) (t' : SetTable) : (h.update a (Obj.putSet es' t')).get? a = some { o with data := .set es' (ep + 1) t' } := by
  have q := Heap.get?_update_self (Obj.putSet es' t') ho (by rw [putSet_of es' t' hd]; rfl)
  rwa [putSet_of es' t' hd] at q
end
end My
/-! ### set(numbers), made -/
namespace My
open PySem PySem.Spec PyProof.Rows L2 PyProof
/-- each number once, in the order in which they come -/
def dd (ns : List Int) : List Int := ns.foldl step_dedup []
section
variable {prog : Program} {w : World} {A : Around} {E : Value → Shared → Prop} {s : Shared}
theorem SetG.keep {h h' : Heap} {a : Addr} {ks : List Int} {led : Bool} (x : SetG prog w h a ks led) (k : ∀ o, h.get? a = some o → h'.get? a = some o) : SetG prog w h' a ks led :=
  let ⟨o, es, ep, t, ho, r⟩ := x
  ⟨o, es, ep, t, k o ho, r⟩
theorem new_g (a : Value) {Q₁ : Value → Shared → Prop} (h : Q₁ (.ref s.heap.objs.size) { s with heap := s.heap.push { cls := .type "set", dict := none, data := .set #[] 0 (.fresh 0 0 (!w.params.followText "set-order")) } }) :
    codeAny (model prog w) A (.call (.builtin "set.__new__") ⟨[.type "set", a], []⟩) (wants Q₁ E) s := by
  refine codeAny_of_tree ?_
  show wpAny _ A.in1 (do checkBuiltinCall "set.__new__" ⟨[.type "set", a], []⟩; again (.builtin "set.__new__" ⟨[.type "set", a], []⟩)) _ _ s; refine wpAny_bind (wpAny_of_eq (PySem.F.newCall_set_1 a) (wpAny_pure ⟨plainId_quiet PySem.F.plain_set_new _, codeAny_builtin PySem.F.entry_set_new ?_⟩))
  rw [Around.under_plainId PySem.F.plain_set_new _]; unfold Builtin.«set.__new__» Builtin.Frozenset.newClass
  have hsub := sub_set_self; obtain ⟨hp, g, d, tk, os⟩ := s
  dsimp only; wp_walk
  refine wpAny_askSetting (wpAny_pure ?_); dsimp only; simp only [newObj]
  exact wpAny_bind (wpAny_alloc (wpAny_pure (wpAny_pure h)))
end
end My
/-! ### the walk over a set of numbers -/
namespace My
open PySem PySem.Spec PyProof.Rows L2 PyProof
theorem below_go_le {xs : Array Nat} (j : Nat) : ∀ (fuel lo hi : Nat), lo ≤ hi → SetTable.below.go xs j fuel lo hi ≤ hi
  | 0, lo, hi, h => by unfold SetTable.below.go; exact h
  | fuel + 1, lo, hi, h => by
    unfold SetTable.below.go
    split
    · dsimp only
      split
      · exact below_go_le j fuel _ hi (by omega)
      · exact Nat.le_trans (below_go_le j fuel lo _ (by omega)) (by omega)
    · exact h
theorem below_le {xs : Array Nat} (j : Nat) : SetTable.below xs j ≤ xs.size := below_go_le j _ _ _ (Nat.zero_le _)
theorem below_eq {xs : Array Nat} (h : Ris xs) {j i : Nat} (h1 : ∀ (k x : Nat), xs[k]? = some x → k < i → x < j) (h2 : ∀ (k x : Nat), xs[k]? = some x → i ≤ k → j ≤ x) (hi : i ≤ xs.size) : SetTable.below xs j = i := by
  have hle := below_le (xs := xs) j
  by_cases q : SetTable.below xs j < i
  · have hlt : SetTable.below xs j < xs.size := by omega
    have e : xs[SetTable.below xs j]? = some xs[SetTable.below xs j] := Array.getElem?_eq_getElem hlt
    have a := h1 _ _ e q
    have b := (below_is h j e).2 (Nat.le_refl _)
    omega
  · by_cases q2 : i < SetTable.below xs j
    · have e : xs[i]? = some (xs[i]'(by omega)) := Array.getElem?_eq_getElem (by omega)
      have a := h2 _ _ e (Nat.le_refl _)
      have b := (below_is h j e).1 q2
      omega
    · omega
/-- where the walk stands with i behind it -/
def slotAt (xs : Array Nat) : Nat → Nat
  | 0 => 0
  | i + 1 => xs.getD i 0 + 1
theorem slot_below {xs : Array Nat} (h : Ris xs) {i : Nat} (hi : i ≤ xs.size) : SetTable.below xs (slotAt xs i) = i := by
  cases i with
  | zero => exact below_eq h (fun k x _ z => absurd z (Nat.not_lt_zero _)) (fun k x _ _ => Nat.zero_le _) hi
  | succ i =>
    have e : xs[i]? = some (xs[i]'(by omega)) := Array.getElem?_eq_getElem (by omega)
    have ed : xs.getD i 0 = xs[i]'(by omega) := by simp [Array.getD, show i < xs.size by omega]
    refine below_eq h (fun k x ek z => ?_) (fun k x ek z => ?_) hi
    · show x < xs.getD i 0 + 1
      rw [ed]
      by_cases q : k = i
      · subst q; rw [e] at ek; cases ek; omega
      · have := h.lt (show k < i by omega) ek e
        omega
    · show xs.getD i 0 + 1 ≤ x
      rw [ed]
      exact h.lt (show i < k by omega) e ek
theorem erase_perm {α : Type} : ∀ (l : List α) (i : Nat) (h : i < l.length), (l[i] :: l.eraseIdx i).Perm l
  | [], i, h => absurd h (Nat.not_lt_zero _)
  | a :: r, 0, h => .refl _
  | a :: r, i + 1, h => by
    have hi : i < r.length := by simpa using h
    show (r[i] :: a :: r.eraseIdx i).Perm (a :: r)
    exact (List.Perm.swap _ _ _).trans ((erase_perm r i hi).cons a)
theorem pick_go {α : Type} (next : Nat → Nat) : ∀ (fuel k : Nat) (left : List α) (out : Array α), left.length ≤ fuel → (pickOrder.go next fuel k left out).toList.Perm (out.toList ++ left)
  | 0, k, left, out, h => by
    have : left = [] := List.length_eq_zero_iff.mp (by omega)
    subst this
    unfold pickOrder.go
    simp
  | fuel + 1, k, left, out, h => by
    unfold pickOrder.go
    cases left with
    | nil => simp
    | cons a r =>
      have hlt : next k % (a :: r).length < (a :: r).length := Nat.mod_lt _ (by simp)
      rw [List.getElem?_eq_getElem hlt]
      dsimp only
      refine (pick_go next fuel (k + 1) _ _ (by rw [List.length_eraseIdx_of_lt hlt]; simp at h ⊢; omega)).trans ?_
      rw [Array.toList_push, List.append_assoc]
      exact (List.Perm.append_left _ (erase_perm _ _ hlt))
theorem pick_perm {α : Type} (next : Nat → Nat) (xs : Array α) : (pickOrder next xs).toList.Perm xs.toList := by
  unfold pickOrder
  have := pick_go next xs.size 0 xs.toList #[] (by simp)
  simpa using this
section
variable {M : Model} {A : Around} {E : Value → Shared → Prop}
theorem wp_chooseD {src : Source} {n : Nat} {Q : Nat → Shared → Prop} {s : Shared} (hn : n ≠ 0) (h : ∀ m d, m < n → Q m { s with drawn := d }) : wpAny M A (choose src n) Q E s := fun Γ p _ => by
  unfold choose
  rw [Sem.wp]
  refine ⟨hn, ?_⟩
  rw [Sem.wp]
  exact h _ _ (Nat.mod_lt _ (Nat.pos_of_ne_zero hn))
theorem wp_draw {α : Type} : ∀ (n : Nat) (xs : List α) (Q : List α → Shared → Prop) (s : Shared), xs.length = n → (∀ ys d, ys.Perm xs → Q ys { s with drawn := d }) → wpAny M A (drawOrder n xs) Q E s
  | 0, xs, Q, s, hn, h => by
    have : xs = [] := List.length_eq_zero_iff.mp hn
    subst this
    have e : s = { s with drawn := s.drawn } := by cases s; rfl
    unfold drawOrder
    rw [e]
    exact wpAny_pure (h [] _ (.refl _))
  | n + 1, [], Q, s, hn, h => by cases hn
  | n + 1, a :: r, Q, s, hn, h => by
    unfold drawOrder
    refine wpAny_bind (wp_chooseD (by simp) fun m d hm => ?_)
    rw [List.getElem?_eq_getElem hm]
    dsimp only
    refine wpAny_bind (wp_draw n _ _ _ (by rw [List.length_eraseIdx_of_lt hm, hn]; rfl) fun ys d' hp => ?_)
    exact wpAny_pure (h _ _ ((hp.cons _).trans (erase_perm _ _ hm)))
end
end My
/-! ### the walk over a set of numbers: one step -/
namespace My
open PySem PySem.Spec PyProof.Rows L2 PyProof
theorem sl_sin : Slot "set_iterator" "__next__" "set_iterator.__next__" := .of (owner := "set_iterator") (n := "__next__") (by rw [typeLookup_type, builtinLookup_eq_fast]; kernel_rfl) (by decide +kernel) (by decide +kernel) (by decide +kernel) (by first | exact .inl (by decide +kernel) | exact .inr (by decide +kernel)) (by rw [isSubtype_type]; kernel_rfl)
theorem sl_sii : Slot "set_iterator" "__iter__" "set_iterator.__iter__" := .of (owner := "set_iterator") (n := "__iter__") (by rw [typeLookup_type, builtinLookup_eq_fast]; kernel_rfl) (by decide +kernel) (by decide +kernel) (by decide +kernel) (by first | exact .inl (by decide +kernel) | exact .inr (by decide +kernel)) (by rw [isSubtype_type]; kernel_rfl)
theorem en_sin : entryFor table "set_iterator.__next__" = some Builtin.«set_iterator.__next__» := entryFor_of_tree (by kernel_rfl)
theorem en_sii : entryFor table "set_iterator.__iter__" = some Builtin.«dict_keyiterator.__iter__» := entryFor_alias (id' := "dict_keyiterator.__iter__") (by kernel_rfl) rfl (by decide +kernel) (by kernel_rfl)
theorem en_si : entryFor table "set.__iter__" = some Builtin.«frozenset.__iter__» := entryFor_alias (id' := "frozenset.__iter__") (by kernel_rfl) rfl (by decide +kernel) (by kernel_rfl)
theorem ow_si : Manifest.owners.lookup (String.ofList ['r', 'o', 't', 'a', 'r', 'e', 't', 'i', '_', 't', 'e', 's'].reverse) = some Manifest.sig_set_iterator := by kernel_rfl
theorem ar_sin (a : Value) : argsOk "set_iterator.__next__" ⟨[a], []⟩ := by unfold argsOk; rw [signature?_of (id := "set_iterator.__next__") (n := ['_', '_', 't', 'x', 'e', 'n', '_', '_']) (o := ['r', 'o', 't', 'a', 'r', 'e', 't', 'i', '_', 't', 'e', 's']) (by kernel_rfl) ow_si]; kernel_rfl
theorem ar_sii (a : Value) : argsOk "set_iterator.__iter__" ⟨[a], []⟩ := by unfold argsOk; rw [signature?_of (id := "set_iterator.__iter__") (n := ['_', '_', 'r', 'e', 't', 'i', '_', '_']) (o := ['r', 'o', 't', 'a', 'r', 'e', 't', 'i', '_', 't', 'e', 's']) (by kernel_rfl) ow_si]; kernel_rfl
/-- the iterator at I of the set at a -/
def ItAt (h : Heap) (I a : Addr) (first : Value) (i n ep : Nat) : Prop := ∃ o, h.get? I = some o ∧ o.cls = .type "set_iterator" ∧ o.data = .fields #[first, .int i 0, .ref a, .int n 0, .int ep 0]
def SetIs (h : Heap) (a : Addr) (es : Array (Int × Value)) (ep : Nat) (t : SetTable) : Prop := ∃ o, h.get? a = some o ∧ o.ExactSet ∧ o.data = .set es ep t
theorem ItAt.keep {h h' : Heap} {I a : Addr} {v : Value} {i n ep : Nat} (x : ItAt h I a v i n ep) (k : ∀ o, h.get? I = some o → h'.get? I = some o) : ItAt h' I a v i n ep := let ⟨o, ho, r⟩ := x; ⟨o, k o ho, r⟩
theorem SetIs.keep {h h' : Heap} {a : Addr} {es : Array (Int × Value)} {ep : Nat} {t : SetTable} (x : SetIs h a es ep t) (k : ∀ o, h.get? a = some o → h'.get? a = some o) : SetIs h' a es ep t := let ⟨o, ho, r⟩ := x; ⟨o, k o ho, r⟩
section
variable {prog : Program} {w : World} {A : Around} {E : Value → Shared → Prop} {s : Shared} {I a : Addr} {es : Array (Int × Value)} {ep : Nat} {t : SetTable}
theorem ItAt.typeIs {v : Value} {i n : Nat} (x : ItAt s.heap I a v i n ep) : s.TypeIs (.ref I) "set_iterator" := let ⟨o, ho, hc, _⟩ := x; ⟨o, ho, hc⟩
theorem wp_drawnOf {Q : Bool → Shared → Prop} (hS : SetIs s.heap a es ep t) (hf : t.fits es.size = true) (h : Q (!w.params.followText "set-order" && (!t.plain && decide (1 < es.size))) s) : wpAny (model prog w) A (setDrawn a) Q E s := by
  obtain ⟨o, ho, hex, hd⟩ := hS
  unfold setDrawn
  refine wpAny_bind (wpAny_setState_of ho hd hf ?_)
  dsimp only
  unfold setsByText
  refine wpAny_bind (wpAny_bind (wpAny_askSetting (wpAny_pure ?_)))
  exact wpAny_pure h
/-- by text -/
theorem wp_nextT {Q : Option (Value × Nat) → Shared → Prop} {slot i : Nat} (hT : w.params.followText "set-order" = true) (hS : SetIs s.heap a es ep t) (hf : t.fits es.size = true)
    (h : Q (((pickOrder (w.params.setOrder a ep) es)[i]?).map fun e => (e.2, slot)) s) : wpAny (model prog w) A (setNext a slot i ep) Q E s := by
  obtain ⟨o, ho, hex, hd⟩ := hS
  unfold setNext
  refine wpAny_bind (wpAny_setState_of ho hd hf ?_)
  dsimp only
  have by1 : ∀ {Q : Bool → Shared → Prop}, Q true s → wpAny (model prog w) A setsByText Q E s := fun {Q} h => by
    unfold setsByText
    refine wpAny_bind (wpAny_askSetting (wpAny_pure ?_))
    rw [show (⟨(model prog w).prog, (model prog w).w.params⟩ : Setting).params.followText "set-order" = true from hT]
    exact h
  refine wpAny_bind (by1 ?_)
  rw [if_pos rfl, if_neg (by simp)]
  unfold setWalk
  refine wpAny_bind (wpAny_bind (wpAny_setState_of ho hd hf ?_))
  dsimp only
  refine wpAny_bind (by1 ?_)
  rw [if_pos rfl]
  exact wpAny_bind (wpAny_askSetting (wpAny_pure (wpAny_pure h)))
/-- by the table -/
theorem wp_nextL {Q : Option (Value × Nat) → Shared → Prop} {slot i : Nat} (hT : w.params.followText "set-order" = false) (hD : (!t.plain && decide (1 < es.size)) = false) (hl : t.led = true) (hS : SetIs s.heap a es ep t) (hf : t.fits es.size = true)
    (h : Q (match es[SetTable.below t.place slot]?, t.place[SetTable.below t.place slot]? with
      | some (_, x), some j => some (x, j + 1)
      | _, _ => none) s) : wpAny (model prog w) A (setNext a slot i ep) Q E s := by
  obtain ⟨o, ho, hex, hd⟩ := hS
  unfold setNext
  refine wpAny_bind (wpAny_setState_of ho hd hf ?_)
  dsimp only
  have by0 : ∀ {Q : Bool → Shared → Prop}, Q false s → wpAny (model prog w) A setsByText Q E s := fun {Q} h => by
    unfold setsByText
    refine wpAny_bind (wpAny_askSetting (wpAny_pure ?_))
    rw [show (⟨(model prog w).prog, (model prog w).w.params⟩ : Setting).params.followText "set-order" = false from hT]
    exact h
  refine wpAny_bind (by0 ?_)
  rw [if_neg Bool.false_ne_true]
  show wpAny _ _ (if (!t.plain && decide (1 < es.size)) = true then _ else _) _ _ _
  rw [hD, if_neg Bool.false_ne_true]
  refine wpAny_bind ?_
  show wpAny _ _ (if (!t.led && !es.isEmpty) = true then _ else _) _ _ _
  rw [hl, if_neg (by simp)]
  exact wpAny_pure (wpAny_pure h)
theorem up_self {o : Obj} {vs : Array Value} (k : Nat) (x : Value) (ho : s.heap.get? I = some o) (hd : o.data = .fields vs) : (s.heap.update I (Obj.mapFields (·.setIfInBounds k x))).get? I = some (Obj.mapFields (·.setIfInBounds k x) o) := Heap.get?_update_self _ ho (Obj.isFreed_of_fields (Obj.data_mapFields hd _))
/-- one step where the first field is a number -/
theorem nx_item {Q : Option Value → Shared → Prop} {slot slot' i : Nat} {x : Value} (hit : ItAt s.heap I a (.int slot 0) i es.size ep) (hS : SetIs s.heap a es ep t) (hf : t.fits es.size = true)
    (hn : ∀ {E' : Value → Shared → Prop} {Q' : Option (Value × Nat) → Shared → Prop}, Q' (some (x, slot')) s → wpAny (model prog w) A.in1 (setNext a slot i ep) Q' E' s)
    (hQ : ∀ h', ItAt h' I a (.int slot' 0) (i + 1) es.size ep → Heap.SameBut I s.heap h' → Q (some x) { s with heap := h' }) : wpAny (model prog w) A (pyNext (.ref I)) Q E s := by
  obtain ⟨o, ho, hc, hd⟩ := id hit
  obtain ⟨os, hos, hex, hds⟩ := id hS
  unfold pyNext
  refine wpAny_bind (wpAny_attempt (wpAny_callSpecial?_slot (name := Str.ofString "__next__") hit.typeIs sl_sin (wpAny_call_entry sl_sin hit.typeIs en_sin ?_ (ar_sin _))))
  unfold Builtin.«set_iterator.__next__»
  refine wpAny_bind (wpAny_pure ?_)
  refine wpAny_bind (wpAny_fieldsOf ho hd ?_)
  dsimp only
  refine wpAny_bind (wpAny_setEntries_of hos hds hf ?_)
  rw [if_neg (by simp)]
  refine wpAny_bind ?_
  rw [Int.toNat_natCast, Int.toNat_natCast, Int.toNat_natCast]
  refine hn ?_
  dsimp only
  refine wpAny_bind (wpAny_setField ho hd (by simp) ?_)
  have h1 := up_self (s := s) 0 (rawInt (slot' : Int)) ho hd
  refine wpAny_bind (wpAny_setField h1 (Obj.data_mapFields hd _) (by simp) ?_)
  have h2 := up_self (s := { s with heap := s.heap.update I (Obj.mapFields (·.setIfInBounds 0 (rawInt (slot' : Int)))) }) 1 (rawInt ((i : Int) + 1)) h1 (Obj.data_mapFields hd _)
  refine wpAny_pure ⟨_, rfl, ?_⟩
  refine wpAny_pure (hQ _ ⟨_, h2, (Obj.cls_mapFields ..).trans ((Obj.cls_mapFields ..).trans hc), ?_⟩ ((Heap.SameBut.update ..).trans (Heap.SameBut.update ..)))
  rw [Obj.data_mapFields (Obj.data_mapFields hd _)]
  simp [rawInt]
end
end My
/-! ### the walk over a set of numbers: its end, and where its order was drawn -/
namespace My
open PySem PySem.Spec PyProof.Rows L2 PyProof
section
variable {prog : Program} {w : World} {A : Around} {E : Value → Shared → Prop} {s : Shared} {I a : Addr} {es : Array (Int × Value)} {ep : Nat} {t : SetTable}
/-- StopIteration, and the walk's end behind it -/
theorem stop_end {Q : Option Value → Shared → Prop} (hh : A.handled = none) (hQ : ∀ h', (∀ b o, s.heap.get? b = some o → h'.get? b = some o) → Q none { s with heap := h' }) :
    wpAny (model prog w) A.in1 (newExc (.type "StopIteration") [] >>= fun e => raiseNew e) (fun (fin : Fin) s' => ∃ v, fin = .done (.ret v) ∧ wpAny (model prog w) A (pure (some v)) Q E s')
      (fun e s' => wpAny (model prog w) A (do if ← isInstance e (.type "StopIteration") then pure none else throw e) Q E s') s := by
  refine wpAny_bind ?_
  simp only [newExc, newTuple]
  refine wpAny_bind (wpAny_newObj_type ?_ (by size_fits))
  refine wpAny_bind (m := firstArgMember _ _) (wpAny_of_eq (a := Value.none) (by first | rfl | (simp only [firstArgMember]; rfl)) ?_)
  refine wpAny_newObj_type ?_ (by size_fits)
  simp only [raiseNew]
  refine wpAny_bind (wpAny_handled ?_)
  rw [show A.in1.handled = none from hh]
  refine wpAny_bind (wpAny_pure (wpAny_throw ?_))
  refine wpAny_bind (wpAny_isInstance (T := "StopIteration") (b := true) ⟨_, Heap.get?_push_size _ rfl, rfl⟩ isSubtype_stop ?_)
  exact wpAny_pure (hQ _ fun b o e => Heap.get?_push_of_some _ (Heap.get?_push_of_some _ e))
theorem nx_end {Q : Option Value → Shared → Prop} {slot i : Nat} (hh : A.handled = none) (hit : ItAt s.heap I a (.int slot 0) i es.size ep) (hS : SetIs s.heap a es ep t) (hf : t.fits es.size = true)
    (hn : ∀ {E' : Value → Shared → Prop} {Q' : Option (Value × Nat) → Shared → Prop}, Q' none s → wpAny (model prog w) A.in1 (setNext a slot i ep) Q' E' s)
    (hQ : ∀ h', (∀ b o, b ≠ I → s.heap.get? b = some o → h'.get? b = some o) → Q none { s with heap := h' }) : wpAny (model prog w) A (pyNext (.ref I)) Q E s := by
  obtain ⟨o, ho, hc, hd⟩ := id hit
  obtain ⟨os, hos, hex, hds⟩ := id hS
  unfold pyNext
  refine wpAny_bind (wpAny_attempt (wpAny_callSpecial?_slot (name := Str.ofString "__next__") hit.typeIs sl_sin (wpAny_call_entry sl_sin hit.typeIs en_sin ?_ (ar_sin _))))
  unfold Builtin.«set_iterator.__next__»
  refine wpAny_bind (wpAny_pure ?_)
  refine wpAny_bind (wpAny_fieldsOf ho hd ?_)
  dsimp only
  refine wpAny_bind (wpAny_setEntries_of hos hds hf ?_)
  rw [if_neg (by simp)]
  refine wpAny_bind ?_
  rw [Int.toNat_natCast, Int.toNat_natCast, Int.toNat_natCast]
  refine hn ?_
  dsimp only
  refine wpAny_bind (wpAny_setField ho hd (by simp) ?_)
  exact stop_end (s := { s with heap := s.heap.update I (Obj.mapFields (·.setIfInBounds 2 Value.none)) }) hh fun h' k => hQ h' fun b o hb e => k b o ((Heap.get?_update_other _ _ (Ne.symm hb)).trans e)
theorem nd_item {Q : Option Value → Shared → Prop} {T : Addr} {ps : List Nat} {i p : Nat} {e : Int × Value} (hit : ItAt s.heap I a (.ref T) i es.size ep) (hS : SetIs s.heap a es ep t) (hf : t.fits es.size = true)
    {oT : Obj} {c : Nat} (hT : s.heap.get? T = some oT) (hdT : oT.data = .seq (ps.map fun (k : Nat) => rawInt k).toArray c) (hp : ps[i]? = some p) (he : es[p]? = some e)
    (hQ : ∀ h', ItAt h' I a (.ref T) (i + 1) es.size ep → Heap.SameBut I s.heap h' → Q (some e.2) { s with heap := h' }) : wpAny (model prog w) A (pyNext (.ref I)) Q E s := by
  obtain ⟨o, ho, hc, hd⟩ := id hit
  obtain ⟨os, hos, hex, hds⟩ := id hS
  unfold pyNext
  refine wpAny_bind (wpAny_attempt (wpAny_callSpecial?_slot (name := Str.ofString "__next__") hit.typeIs sl_sin (wpAny_call_entry sl_sin hit.typeIs en_sin ?_ (ar_sin _))))
  unfold Builtin.«set_iterator.__next__»
  refine wpAny_bind (wpAny_pure ?_)
  refine wpAny_bind (wpAny_fieldsOf ho hd ?_)
  dsimp only
  refine wpAny_bind (wpAny_setEntries_of hos hds hf ?_)
  rw [if_neg (by simp)]
  refine wpAny_bind (wpAny_seqItems hT hdT ?_)
  dsimp only
  have e1 : (ps.map fun (k : Nat) => rawInt k).toArray[(i : Int).toNat]? = some (.int p 0) := by
    rw [Int.toNat_natCast, List.getElem?_toArray, List.getElem?_map, hp]
    rfl
  rw [e1]
  dsimp only
  unfold setNextDrawn
  refine wpAny_bind (wpAny_bind (wpAny_setState_of hos hds hf ?_))
  dsimp only
  rw [Int.toNat_natCast, Int.toNat_natCast, if_neg (by simp), he]
  dsimp only
  refine wpAny_pure ?_
  refine wpAny_bind (wpAny_setField ho hd (by simp) ?_)
  have h1 := up_self (s := s) 1 (rawInt ((i : Int) + 1)) ho hd
  refine wpAny_pure ⟨_, rfl, ?_⟩
  refine wpAny_pure (hQ _ ⟨_, h1, (Obj.cls_mapFields ..).trans hc, ?_⟩ (Heap.SameBut.update ..))
  rw [Obj.data_mapFields hd]
  simp [rawInt]
theorem nd_end {Q : Option Value → Shared → Prop} {T : Addr} {ps : List Nat} {i : Nat} (hh : A.handled = none) (hit : ItAt s.heap I a (.ref T) i es.size ep) (hS : SetIs s.heap a es ep t) (hf : t.fits es.size = true)
    {oT : Obj} {c : Nat} (hT : s.heap.get? T = some oT) (hdT : oT.data = .seq (ps.map fun (k : Nat) => rawInt k).toArray c) (hp : ps[i]? = none)
    (hQ : ∀ h', (∀ b o, b ≠ I → s.heap.get? b = some o → h'.get? b = some o) → Q none { s with heap := h' }) : wpAny (model prog w) A (pyNext (.ref I)) Q E s := by
  obtain ⟨o, ho, hc, hd⟩ := id hit
  obtain ⟨os, hos, hex, hds⟩ := id hS
  unfold pyNext
  refine wpAny_bind (wpAny_attempt (wpAny_callSpecial?_slot (name := Str.ofString "__next__") hit.typeIs sl_sin (wpAny_call_entry sl_sin hit.typeIs en_sin ?_ (ar_sin _))))
  unfold Builtin.«set_iterator.__next__»
  refine wpAny_bind (wpAny_pure ?_)
  refine wpAny_bind (wpAny_fieldsOf ho hd ?_)
  dsimp only
  refine wpAny_bind (wpAny_setEntries_of hos hds hf ?_)
  rw [if_neg (by simp)]
  refine wpAny_bind (wpAny_seqItems hT hdT ?_)
  dsimp only
  have e1 : (ps.map fun (k : Nat) => rawInt k).toArray[(i : Int).toNat]? = none := by
    rw [Int.toNat_natCast, List.getElem?_toArray, List.getElem?_map, hp]
    rfl
  rw [e1]
  dsimp only
  refine wpAny_bind (wpAny_setField ho hd (by simp) ?_)
  have h1 := up_self (s := s) 0 (rawInt 0) ho hd
  refine wpAny_bind (wpAny_setField h1 (Obj.data_mapFields hd _) (by simp) ?_)
  refine stop_end (s := { s with heap := (s.heap.update I (Obj.mapFields (·.setIfInBounds 0 (rawInt 0)))).update I (Obj.mapFields (·.setIfInBounds 2 Value.none)) }) hh fun h' k => hQ h' fun b o hb e => k b o ?_
  exact (Heap.get?_update_other _ _ (Ne.symm hb)).trans ((Heap.get?_update_other _ _ (Ne.symm hb)).trans e)
theorem nx_self {Q : Value → Shared → Prop} {v : Value} {i n : Nat} (hit : ItAt s.heap I a v i n ep) (h : Q (.ref I) s) : wpAny (model prog w) A (pyIter (.ref I)) Q E s := by
  refine wpAny_pyIter_slot hit.typeIs sl_sii (wpAny_call_entry sl_sii hit.typeIs en_sii ?_ (ar_sii _))
  show wpAny _ _ (ret (.ref I)) _ _ s
  exact wpAny_pure ⟨_, rfl, "set_iterator", _, hit.typeIs, sl_sin.lookup, h⟩
end
end My
/-! ### the walk over a set of numbers: all of it -/
namespace My
open PySem PySem.Spec PyProof.Rows L2 PyProof
section
variable {prog : Program} {w : World} {A : Around} {E : Value → Shared → Prop} {s : Shared} {I a : Addr} {es : Array (Int × Value)} {ep : Nat} {t : SetTable}
def TupIs (h : Heap) (T : Addr) (ps : List Nat) : Prop := ∃ o c, h.get? T = some o ∧ o.data = .seq (ps.map fun (k : Nat) => rawInt k).toArray c
theorem fits_place {n : Nat} (h : t.fits n = true) : t.place.size = n := by
  unfold SetTable.fits at h
  simp at h
  exact h.1
end
end My
/-! ### sorted(set(numbers)) -/
namespace My
open PySem PySem.Spec PyProof.Rows L2 PyProof
section
variable {prog : Program} {w : World} {A : Around} {E : Value → Shared → Prop} {s : Shared} {a : Addr} {ks : List Int} {led : Bool}
theorem SetG.typeIs (x : SetG prog w s.heap a ks led) : s.TypeIs (.ref a) "set" := let ⟨o, _, _, _, ho, hex, _⟩ := x; ⟨o, ho, hex.1⟩
theorem hint_g {Q : Bool → Shared → Prop} (hT : s.TypeIs (.ref a) "set") (h : Q false s) : wpAny (model prog w) A (Builtin.List.listLengthHint (.ref a)) Q E s := by
  unfold Builtin.List.listLengthHint; refine wpAny_bind (wpAny_specialOf hT PySem.F.slot_set_len.lookup ?_)
  generalize hid : ("set.__len__" : String) = id0
  wp_delta
  rw [show splitId id0 = some ("set", "__len__") from by subst hid; decide +kernel]
  subst hid; refine wpAny_bind (wpAny_isInstance (T := "set") (b := true) hT (by rw [isSubtype_type]; kernel_rfl) ?_)
  refine wpAny_ite_split (fun z => absurd z (by decide)) (fun _ => wpAny_ite_split (fun _ => ?_) (fun z => absurd (by decide +kernel) z))
  exact wpAny_bind (wpAny_typeOf hT (wpAny_pure h))
end
theorem inv_drawn {X : Cx} {pins : List (Addr × Obj)} {σ : L2.St} {H : Hp} {s : Shared} (d : Drawn) (I : Inv X pins σ H s) : Inv X pins σ H { s with drawn := d } := ⟨I.ok, I.os, I.bare, I.base, I.loc, I.cell, I.free, I.freeC, I.pin, I.hok, I.len⟩
end My
/-! ### dict(pairs) -/
namespace My
open PySem PySem.Spec PyProof.Rows L2 PyProof
theorem dp_keys : typeLookup (.type "list") "keys" = pure none := by rw [typeLookup_type, builtinLookup_eq_fast]; exact (by kernel_rfl)
theorem dp_entry : entryFor table "dict.update.loop" = some Builtin.«dict.update.loop» := entryFor_of_tree (by kernel_rfl)
theorem dp_plain : plainId "dict.update.loop" = true := by decide +kernel
section
variable {prog : Program} {w : World} {A : Around} {E : Value → Shared → Prop} {s : Shared}
theorem no_keys {l : Addr} {its : Array Value} {Q : Option Value → Shared → Prop} (hL : PlainL s.heap l its) (hA : A.handled = none) (h : ∀ h' tk, (∀ b o, s.heap.get? b = some o → h'.get? b = some o) → Q none { s with heap := h', toks := tk }) : wpAny (model prog w) A (getAttr? (.ref l) "keys") Q E s := by
  obtain ⟨o, n, ho, hc, hd, hdat⟩ := hL
  obtain ⟨c, dct, dat, sl⟩ := o
  simp only at hc hdat hd
  subst hc hdat hd
  obtain ⟨hp, g, d, tk, os⟩ := s
  have hT : ∀ tk', (⟨hp, g, d, tk', os⟩ : Shared).TypeIs (.ref l) "list" := fun _ => ⟨_, ho, rfl⟩
  have f1 := sub_AttributeError
  have f3 := PySem.F.slot_list_getattribute.lookup
  have f4 := PySem.F.slot_list_getattribute.bind (.ref l)
  have f5 := am_list_getattr_none
  have hname : (["__module__", "__name__", "__qualname__", "__doc__", "__annotations__"] : List Str).contains "keys" = false := by decide +kernel
  unfold getAttr? getAttrBy? getAttrBy
  repeat (any_goals (first | assumption | exact hT _ | ((with_reducible show wpAny _ _ (call (Value.builtin "list.__getattribute__") _ _) _ _ _); refine call_meets PySem.F.slot_list_getattribute (hT _) am_entry_list_getattribute (PySem.F.args_list_getattribute_2 _ _) (meets_getattribute_miss_list l its n sl "keys" _ dp_keys hname (by decide +kernel)) ⟨ho, hA, fun h' tk' e hx' => ?_⟩) | wp_step))
  obtain ⟨t', u', he⟩ := hx'.there
  show wpAny _ _ (getattributeRaised _ _ _ _ _ _ _) _ _ _
  unfold getattributeRaised
  repeat (any_goals (first | assumption | wp_step))
  exact h _ _ hx'.keeps
end
/-- a list of pairs -/
inductive Prs2 (K : PySem.W.Frag) (H : Hp) : List V → List (Key × V) → Prop where
  | nil : Prs2 K H [] []
  | cons {t : Addr} {q : Key × V} {ws : List V} {ps : List (Key × V)} (h : SqT K H t [kV q.1, q.2]) (r : Prs2 K H ws ps) : Prs2 K H (.ref t :: ws) (q :: ps)
end My
/-! ### a, b = a list; list(d) -/
namespace My
open PySem PySem.Spec PyProof.Rows L2 PyProof
section
variable {prog : Program} {w : World} {A : Around} {E : Value → Shared → Prop}
end
section
variable {X : Cx} {pos : Pos}
end
end My
/-! ### for k in d -/
namespace My
open PySem PySem.Spec PyProof.Rows L2
section
variable {P : Program} {w : World} {K : PySem.W.Frag}
end
section
variable {X : Cx}
end
end My
/-! ### d.clear() of a dict that was held, d.update(d2), xs[lo:hi:st] -/
namespace My
open PySem PySem.Spec PyProof.Rows L2 PyProof
section
variable {X : Cx} {o e : Expr} {td te : TE} {apos cpos : Pos}
end
section
variable {X : Cx} {e : Expr} {te : TE} {lo hi : Option Expr} {st : Expr} {tl th tk : TO} {pos p2 : Pos}
end
end My
/-! ### list(range(n)), list(reversed(range(n))) -/
namespace My
open PySem PySem.Spec PyProof.Rows L2 PyProof
section
variable {prog : Program} {w : World} {A : Around} {E : Value → Shared → Prop} {s : Shared}
end
theorem vals_ints {ms : List Int} {us : List Value} (hl : us.length = ms.length) (h : ∀ (i : Nat) (v : Value), us[i]? = some v → ∃ z t, ms[i]? = some z ∧ v = .int z t) : Vals (ms.map V.int) us := by
  induction ms generalizing us with
  | nil =>
    cases us with
    | nil => exact .nil
    | cons _ _ => simp at hl
  | cons z r ih =>
    cases us with
    | nil => simp at hl
    | cons u q =>
      obtain ⟨z', t, hz, hu⟩ := h 0 u rfl
      cases hz
      exact .cons ⟨t, hu⟩ (ih (by simpa using hl) fun i v e => by simpa using h (i + 1) v (by simpa using e))
end My
/-! ### dicts of data compared -/
namespace My
open PySem PySem.Spec PyProof.Rows L2
section
variable {X : Cx} {pins : List (Addr × Obj)} {σ : L2.St} {H : Hp} {s : Shared} {a b : Addr} {kvs kvs' : List (Key × V)} {ds : List (Key × PyData)}
end
section
variable {X : Cx}
end
end My
/-! ### max(xs, key=lambda n: d[n]) -/
namespace My
open PySem PySem.Spec PyProof.Rows L2 PyProof
section
variable {prog : Program} {w : World} {A : Around}
end
end My
/-! ### the head of a law whose text makes lambdas: the table of code objects is tracked beside the script -/
namespace My
open PySem PySem.Spec PyProof.Rows L2
section
variable {P : Program} {w : World} {K : PySem.W.Frag} {mg : Str → Option Value} {base : Heap}
end
section
variable {P : Program} {w : World} {K : PySem.W.Frag} {mg mb : Str → Option Value} {CX : CXT} {k : Nat} {fa a c0 P0 : Addr} {fd : FuncData} {x : Str} {sp : Heap → Sp} {s₁ : Shared} {vs : List Value} {ns : List Int}
end
end My
namespace My
open PySem PySem.W PySem.Calls PyProof.Rows L2
end My
/-! ### sorted(xs, key=lambda z: z.f), fewer than 64 things -/
namespace My
open PySem PySem.Spec PyProof.Rows L2 PyProof
/-- all the objects of a heap but one -/
def allBut (L : Addr) (h : Heap) : List (Addr × Obj) := (List.range h.objs.size).filterMap fun b => if b = L then none else (h.get? b).map fun o => (b, o)
theorem allBut_mem {L b : Addr} {h : Heap} {o : Obj} (n : b ≠ L) (e : h.get? b = some o) : (b, o) ∈ allBut L h :=
  List.mem_filterMap.mpr ⟨b, List.mem_range.mpr (Heap.lt_size e), by rw [if_neg n, e]; rfl⟩
theorem allBut_of {L : Addr} {h : Heap} {p : Addr × Obj} (m : p ∈ allBut L h) : p.1 ≠ L ∧ h.get? p.1 = some p.2 := by
  obtain ⟨b, _, e⟩ := List.mem_filterMap.mp m
  by_cases n : b = L
  · rw [if_pos n] at e; cases e
  · rw [if_neg n] at e
    obtain ⟨o, e1, e2⟩ := Option.map_eq_some_iff.mp e
    subst e2
    exact ⟨n, e1⟩
theorem none_empty (b : Addr) : (Heap.get? ({} : Heap) b) = none := by
  cases e : Heap.get? ({} : Heap) b with
  | none => rfl
  | some o => exact absurd (Heap.lt_size e) (Nat.not_lt_zero _)
theorem ns_one {h : Heap} {a : Addr} {m m' : Str → Option Value} (x : h.Ns a m) (y : h.Ns a m') : m = m' := by
  obtain ⟨o, es, ep, e1, e2, e3⟩ := x
  obtain ⟨o', es', ep', f1, f2, f3⟩ := y
  rw [e1] at f1
  cases f1
  rw [e2] at f2
  cases f2
  exact funext fun x => (e3.2 x).symm.trans (f3.2 x)
/-- .. and a new object laid -/
theorem inv_namesD {X : Cx} {pins : List (Addr × Obj)} {σ : L2.St} {H : Hp} {s : Shared} {h' : Heap} {t' : Nat} {D : Addr} {u : HO} (I : Inv X pins σ H s) (keep : ∀ b o, b ≠ X.env.locals → s.heap.get? b = some o → h'.get? b = some o)
    (ns : ∀ m, s.heap.Ns X.env.locals m → h'.Ns X.env.locals m) (hD : s.heap.objs.size ≤ D) (new : ObjOk X.prog X.w (upd H D u) h' D u) : Inv X pins σ (upd H D u) { s with heap := h', toks := t' } := by
  have old : ∀ b o, H b = some o → b ≠ D := fun b o e => Nat.ne_of_lt (Nat.lt_of_lt_of_le (I.hok b o e).lt hD)
  have was : ∀ b o, s.heap.get? b = some o → b ≠ D := fun b o e => Nat.ne_of_lt (Nat.lt_of_lt_of_le (Heap.lt_size e) hD)
  refine I.step (g' := s.gens) (d' := s.drawn) (ch := []) (fun _ z => nomatch z) (fun b o nL hb _ e n => keep b o nL e) (fun b o nL hb _ e n => ⟨o.slots, keep b o nL e⟩) (fun b o _ e n => by rw [upd_ne (was b o e)]; exact n) (fun b o _ e => ?_) (fun b _ e => by rw [upd_ne (old b _ e)]; exact e) (fun b _ _ e => by rw [upd_ne (old b _ e)]; exact e) (fun b ps e => ⟨#[], by rw [upd_ne (old b _ e)]; simpa using e⟩) ns (fun b v q => ?_) I.bare
  · by_cases z : b = X.env.locals
    · obtain ⟨m, hn, _⟩ := I.loc
      obtain ⟨o', _, _, e', _⟩ := ns m hn
      exact ⟨o', z ▸ e'⟩
    · exact ⟨o, keep b o z e⟩
  · by_cases hb : b = D
    · subst hb
      rw [upd_same] at q
      cases q
      exact new
    · rw [upd_ne hb] at q
      refine (I.hok b v q).stay (fun c v hc z => keep c v (fun y => ?_) z) (fun c z => by rw [upd_ne (old c _ z)]; exact z) fun c _ z => by rw [upd_ne (old c _ z)]; exact z
      have fr := I.free
      rcases hc with rfl | hc
      · rw [← y, q] at fr; cases fr
      · rw [← y, hc] at fr; cases fr
end My
/-! ### try: y = f(..) / except S: .., no name, S an exception class or one above the one raised -/
namespace My
open PySem PySem.Spec PyProof.Rows L2
section
variable {X : Cx}
end
end My
/-! ### list.sort over fewer than 128 numbers: the model's runs, gallops and merges (its own defs are named by the library's elaborator, nothing of them is written out here) -/
namespace My
open PySem PyProof.Rows
/-- the number by which a thing is sorted -/
def kf (p : Keyed) : Int := numOf p.1
def IntK (p : Keyed) : Prop := ∃ n t, p.1 = .int n t
theorem IntK.is {p : Keyed} (h : IntK p) : ∃ t, p = (.int (kf p) t, p.2) := by
  obtain ⟨n, t, e⟩ := h
  refine ⟨t, ?_⟩
  obtain ⟨x, y⟩ := p
  cases (show x = .int n t from e)
  rfl
section
variable {prog : Program} {w : World} {s : Shared} {A : Around} {E : Value → Shared → Prop}
end
abbrev Upk (l : List Keyed) : Prop := l.Pairwise fun x y => kf x ≤ kf y
/-- two lists woven so far -/
structure LInv (A B out : List Keyed) (ia ib : Nat) : Prop where
  ha : ia ≤ A.length
  hb : ib ≤ B.length
  perm : out.Perm (A.take ia ++ B.take ib)
  up : Upk out
  leA : ∀ x ∈ out, ∀ y ∈ A.drop ia, kf x ≤ kf y
  leB : ∀ x ∈ out, ∀ y ∈ B.drop ib, kf x ≤ kf y
theorem LInv.swap {A B out : List Keyed} {ia ib : Nat} (h : LInv A B out ia ib) : LInv B A out ib ia := ⟨h.hb, h.ha, h.perm.trans List.perm_append_comm, h.up, h.leB, h.leA⟩
theorem LInv.res {A B out : List Keyed} {ia ib : Nat} (h : LInv A B out ia ib) (e1 : ia = A.length) (e2 : ib = B.length) : out.Perm (A ++ B) ∧ Upk out := by
  have := h.perm
  rw [e1, e2, List.take_length, List.take_length] at this
  exact ⟨this, h.up⟩
structure SameS (st st' : SortSt) : Prop where
  kind : kindOf st' = kindOf st
  arr : arrOf st' = arrOf st
  pend : pendingOf st' = pendingOf st
  fail : failedOf st' = failedOf st
theorem SameS.refl (st : SortSt) : SameS st st := ⟨rfl, rfl, rfl, rfl⟩
theorem SameS.trans {a b c : SortSt} (h : SameS a b) (k : SameS b c) : SameS a c := ⟨k.kind.trans h.kind, k.arr.trans h.arr, k.pend.trans h.pend, k.fail.trans h.fail⟩
theorem SameS.mk' (st : SortSt) (g : Nat) : SameS st (SortSt.mk' (kindOf st) (arrOf st) (pendingOf st) g (failedOf st)) := ⟨rfl, rfl, rfl, rfl⟩
section
variable {prog : Program} {w : World} {s : Shared} {A : Around} {E : Value → Shared → Prop}
end
/-- two lists woven so far, from behind -/
structure HInv (A B tl : List Keyed) (na nb : Nat) : Prop where
  ha : na ≤ A.length
  hb : nb ≤ B.length
  perm : tl.Perm (A.drop na ++ B.drop nb)
  up : Upk tl
  leA : ∀ x ∈ A.take na, ∀ y ∈ tl, kf x ≤ kf y
  leB : ∀ x ∈ B.take nb, ∀ y ∈ tl, kf x ≤ kf y
theorem HInv.swap {A B tl : List Keyed} {na nb : Nat} (h : HInv A B tl na nb) : HInv B A tl nb na := ⟨h.hb, h.ha, h.perm.trans List.perm_append_comm, h.up, h.leB, h.leA⟩
section
variable {prog : Program} {w : World} {s : Shared} {A : Around} {E : Value → Shared → Prop}
end
/-- a state of the sorting: what lies ahead of lo is as xs has it -/
structure Sb (a₀ : Array Keyed) (pd : Array (Nat × Nat × Nat)) (lo : Nat) (xs : Array Keyed) (st : SortSt) : Prop where
  perm : (arrOf st).Perm a₀
  kind : kindOf st = oneType'
  fail : failedOf st = none
  pend : pendingOf st = pd
  low : ∀ k, k < lo → (arrOf st)[k]? = xs[k]?
def Rise (xs : Array Keyed) (lo hi : Nat) : Prop := ∀ i j, lo ≤ i → i ≤ j → j < hi → K xs i ≤ K xs j
def Fall (xs : Array Keyed) (lo hi : Nat) : Prop := ∀ i j, lo ≤ i → i ≤ j → j < hi → K xs j ≤ K xs i
section
variable {prog : Program} {w : World} {s : Shared} {A : Around} {E : Value → Shared → Prop} {a₀ xs : Array Keyed} {pd : Array (Nat × Nat × Nat)} {lo : Nat} {st : SortSt}
theorem Sb.size (h : Sb a₀ pd lo xs st) : (arrOf st).size = a₀.size := h.perm.size_eq
theorem Sb.set (h : Sb a₀ pd lo xs st) {ys : Array Keyed} (p : ys.Perm (arrOf st)) (l : ∀ k, k < lo → ys[k]? = (arrOf st)[k]?) : Sb a₀ pd lo xs (setArr st ys) := ⟨p.trans h.perm, h.kind, h.fail, h.pend, fun k hk => (l k hk).trans (h.low k hk)⟩
theorem ltk (h : Sb a₀ pd lo xs st) (h0 : IntKeys a₀) {i j : Nat} (hi : i < a₀.size) (hj : j < a₀.size) {Q : Option Bool → SortSt → Prop} (q1 : K (arrOf st) i < K (arrOf st) j → Q (some true) st) (q2 : ¬ K (arrOf st) i < K (arrOf st) j → Q (some false) st) : wpS (model prog w) A E s (ltAt' i j) Q st := by
  have hb : SBase a₀ (setPending st #[]) := ⟨h.perm, h.kind, h.fail, rfl⟩
  obtain ⟨t, p, e1⟩ := hb.at h0 hi
  obtain ⟨u, q, e2⟩ := hb.at h0 hj
  refine wpS_ltAt h.kind e1 e2 ?_
  by_cases c : K (arrOf st) i < K (arrOf st) j
  · rw [show decide (K (arrOf (setPending st #[])) i < K (arrOf (setPending st #[])) j) = true from decide_eq_true c]
    exact q1 c
  · rw [show decide (K (arrOf (setPending st #[])) i < K (arrOf (setPending st #[])) j) = false from decide_eq_false c]
    exact q2 c
theorem Fall.eq {xs ys : Array Keyed} {lo hi : Nat} (h : Fall xs lo hi) (e : ∀ k, K ys k = K xs k) : Fall ys lo hi := fun i j h1 h2 h3 => by
  rw [e, e]
  exact h i j h1 h2 h3
end
section
variable {prog : Program} {w : World} {s : Shared} {A : Around} {E : Value → Shared → Prop} {a₀ xs : Array Keyed} {pd : Array (Nat × Nat × Nat)} {lo : Nat} {st : SortSt}
end
section
variable {prog : Program} {w : World} {s : Shared} {A : Around} {E : Value → Shared → Prop} {a₀ : Array Keyed} {st : SortSt}
end
section
variable {prog : Program} {w : World} {s : Shared} {A : Around} {E : Value → Shared → Prop} {a₀ : Array Keyed} {st : SortSt}
/-- the two runs of fewer than 128 things -/
inductive Two (a₀ : Array Keyed) (N : Nat) (st : SortSt) : Nat → Prop where
  | zero (h : Sb a₀ #[] 0 #[] st) : Two a₀ N st 0
  | one {n1 : Nat} (h : Sb a₀ #[(0, n1, 0)] 0 #[] st) (h1 : 1 ≤ n1) (h2 : n1 ≤ N) (h3 : N / 2 + N % 2 ≤ n1) (hr : Rise (arrOf st) 0 n1) : Two a₀ N st n1
  | two {n1 pw : Nat} (h : Sb a₀ #[(0, n1, pw), (n1, N - n1, 0)] 0 #[] st) (h1 : 1 ≤ n1) (h2 : n1 < N) (hr : Rise (arrOf st) 0 n1) (hr2 : Rise (arrOf st) n1 N) : Two a₀ N st N
theorem Two.le {a₀ : Array Keyed} {N lo : Nat} {st : SortSt} (h : Two a₀ N st lo) : lo ≤ N := by
  cases h with
  | zero => exact Nat.zero_le _
  | one _ _ h2 => exact h2
  | two => exact Nat.le_refl _
end
section
variable {prog : Program} {w : World} {s : Shared} {A : Around} {E : Value → Shared → Prop}
end
end My
/-! ### sorted(d), fewer than 128 keys -/
namespace My
open PySem PySem.Spec PyProof.Rows L2
section
variable {X : Cx}
end
end My
/-! ### xs != [], whatever xs has -/
namespace My
open PySem PySem.Spec PyProof.Rows L2
section
variable {X : Cx}
end
end My
/-! ### an exception out of a comprehension's element -/
namespace My
open PySem PySem.Spec PyProof.Rows L2
section
variable {M : Model} {A : Around} {E : Value → Shared → Prop} {s : Shared} {B : Heap} {l : List Env} {env : Env} {ea L : Addr} {cls a0 : Value}
/-- a block's names go: the exception stays held -/
theorem held_but {C : Addr} {h h' : Heap} {m : Str → Option Value} (x : Heap.HeldW B l ea cls a0 L h) (k : Heap.SameBut C h h') (hn : h.Ns C m) (hC : C ∉ frs l) : Heap.HeldW (PySem.W.hideAll B [C]) l ea cls a0 L h' := by
  obtain ⟨hkb, hb, hl, oe, vs, T, oT, ts, he, hcls, hd, h1, hnT, hTe, hT, hdT, h3⟩ := x
  obtain ⟨oc, es, nc, hoc, hdc, _⟩ := hn
  have nfC : ∀ b o (vs : Array Value), h.get? b = some o → o.data = .fields vs → b ≠ C := fun b o vs e q z => by
    rw [z, hoc] at e; cases e; rw [hdc] at q; cases q
  have hid : ∀ b o, (PySem.W.hideAll B [C]).get? b = some o → B.get? b = some o ∧ b ≠ C := fun b o e => ⟨PySem.W.of_hideAll _ e, fun z => by
    rw [z, PySem.W.hideAll_none _ (List.mem_cons_self)] at e; cases e⟩
  have nn : ∀ b, B.get? b = none → (PySem.W.hideAll B [C]).get? b = none := fun b e => by
    cases q : (PySem.W.hideAll B [C]).get? b with
    | none => rfl
    | some o => rw [(hid b o q).1] at e; cases e
  refine ⟨fun b o e => (k.2 b (hid b o e).2).trans (hkb b o (hid b o e).1), nn _ hb, ?_, oe, vs, T, oT, ts, (k.2 _ (nfC _ _ _ he hd)).trans he, hcls, hd, h1, nn _ hnT, hTe, (k.2 _ (nfC _ _ _ hT hdT)).trans hT, hdT, h3⟩
  have key : ∀ l : List Env, h.FunFrames B l → C ∉ frs l → h'.FunFrames (PySem.W.hideAll B [C]) l := by
    intro l
    induction l with
    | nil => intro _ _; trivial
    | cons env r ih =>
      rintro ⟨z, ⟨Lf, o, hf, hn, ho, hd⟩, hr⟩ hC
      have e : frs (env :: r) = Lf :: frs r := by unfold frs; rw [List.filterMap_cons, hf]
      rw [e] at hC
      exact ⟨z, ⟨Lf, o, hf, nn _ hn, (k.2 _ fun q => hC (q ▸ List.mem_cons_self)).trans ho, hd⟩, ih hr fun q => hC (List.mem_cons_of_mem _ q)⟩
  exact key l hl hC
end
/-- an exception is held over the def's own frame, behind a block that was begun at s with H -/
def HeldE (X : Cx) (fp : List Addr) (H : Hp) (s : Shared) (C : Option Addr) (E1 : XK) : Value → Shared → Prop := fun e s' => ∃ (ea : Addr) (cls a0 : Value) (B : Heap) (H' : Hp) (d : Option Addr), e = .ref ea ∧ s'.os = s.os ∧ AllBare s'.gens ∧ Un (frs X.stack) fp H H' s.heap s'.heap ∧ HOk X.prog X.w H' s'.heap ∧ Heap.HeldW B X.stack ea cls a0 X.env.locals s'.heap ∧
  (∀ b o, s'.heap.get? b = some o → ((s.heap.get? b ≠ none ∧ b ∉ fp) ∨ H' b ≠ none) → b ∉ frs X.stack → B.get? b = some o) ∧ H' ea = none ∧ (s.heap.get? ea = none ∨ ea ∈ fp) ∧ (∃ o, s'.heap.get? ea = some o ∧ o.dict = d ∧ (ctxF o = some .none ∨ ∀ d', E1 cls d' H')) ∧ (∀ c, C = some c → H' c = none ∧ ∃ m, s'.heap.Ns c m) ∧ E1 cls d H'
section
variable {X : Cx} {pins : List (Addr × Obj)} {σ : L2.St} {H : Hp} {s : Shared} {scope : Scope} {N : List Str} {target iter elt : Expr} {pos : Pos} {g : TG} {te : TE} {E1 : XK} {C : Addr} {ex : List Addr}
/-- the block's names go -/
theorem HeldE.gone {e : Value} {s' : Shared} {h' : Heap} (I : Inv X pins σ H s) (x : HeldE X ex H s (some C) E1 e s') (hC : s.heap.objs.size ≤ C) (k : Heap.SameBut C s'.heap h') : HeldE X ex H s none E1 e { s' with heap := h' } := by
  obtain ⟨ea, cls, a0, B, H', d, rfl, os, bare, un, hok, held, bk, n1, new, ⟨o0, ho0, hd0⟩, hc, hE⟩ := x
  obtain ⟨nC, m, hn⟩ := hc C rfl
  have neS : ∀ b o, s.heap.get? b = some o → b ≠ C := fun b o e => Nat.ne_of_lt (Nat.lt_of_lt_of_le (Heap.lt_size e) hC)
  have hCf : C ∉ frs X.stack := fun z => by obtain ⟨o, e⟩ := frs_obj I C z; exact neS C o e rfl
  have neH : ∀ b, H' b ≠ none → b ≠ C := fun b e z => e (z ▸ nC)
  have ned : ∀ b o (vs : Array Value), s'.heap.get? b = some o → o.data = .fields vs → b ≠ C := fun b o vs e q z => by
    obtain ⟨oc, es, nc, hoc, hdc, _⟩ := hn
    rw [z, hoc] at e; cases e; rw [hdc] at q; cases q
  have nea : ea ≠ C := by
    obtain ⟨_, _, _, oe, vs, T, oT, ts, he, hcls, hd, _⟩ := held
    exact ned ea oe vs he hd
  refine ⟨ea, cls, a0, _, H', d, rfl, os, bare, ⟨fun b o e n hb hx => (k.2 b (neS b o e)).trans (un.keep b o e n hb hx), fun b o e n hb hx => ?_, un.free, fun b o e hx => ?_, un.tups, un.frzs, un.tbls⟩, fun b o e => ?_, held_but held k hn hCf, fun b o e q nb => ?_, n1, new, ⟨o0, (k.2 ea nea).trans ho0, hd0⟩, fun c z => (by cases z), hE⟩
  · obtain ⟨sl, e1⟩ := un.slot b o e n hb hx
    exact ⟨sl, (k.2 b (neS b o e)).trans e1⟩
  · obtain ⟨o', e1⟩ := un.there b o e hx
    exact ⟨o', (k.2 b (neS b o e)).trans e1⟩
  · refine (hok b o e).stay (fun c u hc q => (k.2 c ?_).trans q) (fun _ q => q) fun _ _ q => q
    rcases hc with z | z
    · exact neH c (by rw [z, e]; simp)
    · exact neH c (by rw [z]; simp)
  · have nb2 : b ≠ C := by
      rcases q with ⟨q, _⟩ | q
      · cases z : s.heap.get? b with
        | none => exact (q z).elim
        | some u => exact neS b u z
      · exact neH b q
    exact PySem.W.hideAll_get _ (bk b o ((k.2 b nb2).symm.trans e) q nb) (by simpa using nb2)
end
end My
/-! ### raise C(..) from e, within an except suite -/
namespace My
open PySem PySem.Spec PyProof.Rows L2
section
variable {prog : Program} {w : World} {A : Around} {E : Value → Shared → Prop} {s : Shared} {env : Env} {K : PySem.W.Frag} {C ea : Addr} {o : Obj}
end
end My
/-! ### try: y = [..] / except S as n: raise C(..) from n -/
namespace My
open PySem PySem.Spec PyProof.Rows L2
section
variable {X : Cx} {pins : List (Addr × Obj)} {σ : L2.St} {H H' : Hp} {s : Shared} {fp : List Addr} {B h1 h2 : Heap} {ea : Addr}
/-- what is known of the place of an exception that came about behind s -/
structure EaOk (X : Cx) (pins : List (Addr × Obj)) (ea : Addr) : Prop where
  old : X.s₀.heap.get? ea = none
  loc : ea ≠ X.env.locals
  cell : ∀ x c, X.env.cells.lookup x = some c → c ≠ ea
  pin : ∀ p ∈ X.pn ++ pins, p.1 ≠ ea
end
end My
/-! ### behind raise C(..) from e: the suite's name goes, the def is left -/
namespace My
open PySem PySem.Spec PyProof.Rows L2
section
variable {X : Cx} {pins : List (Addr × Obj)} {σ : L2.St} {H : Hp} {s : Shared} {T : Addr} {h' : Heap}
end
section
variable {M : Model} {A : Around} {E : Value → Shared → Prop} {s : Shared} {B : Heap} {l : List Env} {env : Env} {ea L : Addr} {cls a0 : Value}
end
section
variable {X : Cx} {pins : List (Addr × Obj)} {σ : L2.St} {H : Hp} {s : Shared}
end
end My
/-! ### try: y = [..] / except S as n: raise C(..) from n: the rule -/
namespace My
open PySem PySem.Spec PyProof.Rows L2
section
variable {X : Cx} {pins : List (Addr × Obj)} {σ : L2.St} {H : Hp} {s : Shared} {fp : List Addr}
end
end My
/-! ### [..] whose element may raise, in a def that passes the exception on -/
namespace My
open PySem PySem.Spec PyProof.Rows L2
section
variable {X : Cx} {pins : List (Addr × Obj)} {σ : L2.St} {H : Hp} {s : Shared} {fp : List Addr} {E : XK}
end
end My
/-! ### a comprehension some of whose elements raise: what was good so far is kept -/
namespace My
open PySem PySem.Spec PyProof.Rows L2
end My
/-! ### a written number is the text of its value -/
namespace My
open PySem PySem.Spec PyProof.Rows L2 PySem.NumText
end My
/-! ### tokens are never given back -/
namespace My
open PySem PySem.Spec PyProof.Rows L2
end My
/-! ### text.replace(c, d): the tokens of c and d tell them apart where none of them is 0 -/
namespace My
open PySem PySem.Spec PyProof.Rows L2
/-- as PE, PA, PSs, where a token was taken before -/
structure PET (X : Cx) (e : Expr) (t : TE) : Prop where
  run : ∀ (pins : List (Addr × Obj)) (s : Shared) (σ : L2.St) (H : Hp) (Q : VK), 0 < s.toks → Inv X pins σ H s → t σ H Q → wpAny (model X.prog X.w) X.A (eval e X.env) (EP X pins σ Q) X.xe s
structure PAT (X : Cx) (es : List Expr) (t : TA) : Prop where
  run : ∀ (pos : Pos) (pins : List (Addr × Obj)) (s : Shared) (σ : L2.St) (H : Hp) (Q : List V → Hp → Prop), 0 < s.toks → Inv X pins σ H s → t σ H Q → wpAny (model X.prog X.w) X.A (spliced (backTo pos (starEach es X.env))) (AP X pins σ Q) X.xe s
structure PSsT (X : Cx) (st : List Stmt) (t : TS) : Prop where
  run : ∀ (pins : List (Addr × Obj)) (s : Shared) (σ : L2.St) (H : Hp) (D : Ends), 0 < s.toks → Inv X pins σ H s → t D σ H → wpAny (model X.prog X.w) X.A (execs st X.env) (SP X pins D) X.xe s
section
variable {X : Cx} {e a b : Expr} {es : List Expr} {te ta tb : TE} {t : TA} {pos : Pos}
theorem PET.of (h : PE X e te) : PET X e te := ⟨fun pins s σ H Q _ I q => h.run pins s σ H Q I q⟩
/-- a word for what is there behind a statement -/
def tCut (t u : TS) : TS := fun D σ H => ∃ W : L2.St → Hp → Prop, t { D with nx := W } σ H ∧ ∀ σ' H', W σ' H' → u D σ' H'
theorem pss_cut {st : Stmt} {rest : List Stmt} {t u : TS} (h1 : PS X st t) (h2 : PSs X rest u) : PSs X (st :: rest) (tCut t u) := by
  constructor; intro pins s σ H D I ⟨W, h, k⟩
  refine wpAny_execs_cons (thn (h1 pins s σ H { D with nx := W } I h) fun f s1 q => ?_)
  cases f with
  | next =>
    obtain ⟨σ', H', I', q⟩ := q
    exact h2 pins s1 σ' H' D I' (k σ' H' q)
  | ret v => exact q
  | brk => exact q
  | cont => exact q
end
/-! ### what replace gives -/
theorem mem_join (sep : Str) : ∀ (l : List Str) (p : Str), p ∈ l → ∀ c ∈ p.cps.toList, c ∈ (Str.join sep l).cps.toList
  | [], p, h => by cases h
  | [x], p, h => by cases List.mem_singleton.mp h; exact fun _ h => h
  | x :: y :: r, p, h => by
    have e : (Str.join sep (x :: y :: r)).cps.toList = x.cps.toList ++ sep.cps.toList ++ (Str.join sep (y :: r)).cps.toList := by
      show (x ++ sep ++ Str.join sep (y :: r)).cps.toList = _
      rw [app_codes, app_codes]
    rw [e]
    rcases List.mem_cons.mp h with z | z
    · subst z
      exact fun c hc => by simp [hc]
    · exact fun c hc => by simp [mem_join sep (y :: r) p z c hc]
theorem codes_join (sep : Str) : ∀ (l : List Str) (c : Nat), c ∈ (Str.join sep l).cps.toList → c ∈ sep.cps.toList ∨ ∃ p ∈ l, c ∈ p.cps.toList
  | [], c, h => by
    have e : (Str.join sep []).cps.toList = [] := rfl
    rw [e] at h; cases h
  | [x], c, h => .inr ⟨x, by simp, h⟩
  | x :: y :: r, c, h => by
    have e : (Str.join sep (x :: y :: r)).cps.toList = x.cps.toList ++ sep.cps.toList ++ (Str.join sep (y :: r)).cps.toList := by
      show (x ++ sep ++ Str.join sep (y :: r)).cps.toList = _
      rw [app_codes, app_codes]
    rw [e] at h
    rcases List.mem_append.mp h with z | z
    · rcases List.mem_append.mp z with z | z
      · exact .inr ⟨x, by simp, z⟩
      · exact .inl z
    · rcases codes_join sep (y :: r) c z with z | ⟨p, hp, hc⟩
      · exact .inl z
      · exact .inr ⟨p, by simp [List.mem_cons.mp hp], hc⟩
theorem replace_codes (x y z : Str) (c : Nat) (h : c ∈ (Txt.replace x y z).cps.toList) : c ∈ x.cps.toList ∨ c ∈ z.cps.toList := by
  unfold Txt.replace at h
  split at h
  · exact .inl h
  · rw [PySem.StrLaws.glued_eq_join] at h
    rcases codes_join z _ c h with q | ⟨p, hp, hc⟩
    · exact .inr q
    · have g := PySem.StrLaws.glued_between_self x y (x.length + 1)
      rw [PySem.StrLaws.glued_eq_join] at g
      have m := mem_join y _ p hp c hc
      rw [g] at m
      exact .inl m
theorem replace_len (x y z : Str) : (Txt.replace x y z).length ≤ x.length + (x.length + 1) * z.length := by
  unfold Txt.replace
  split
  · omega
  · have h1 := PySem.StrLaws.occ_length_le x y 0 x.length (x.length + 1)
    have hy : (Builtin.Str.glued y (Builtin.Str.partsBetween x (Builtin.Str.occurrences x y 0 x.length (x.length + 1)) y.length)).length = x.length := by rw [PySem.StrLaws.glued_between_self]
    rw [PySem.size_glued, PySem.length_partsBetween, Nat.add_sub_cancel] at hy
    rw [PySem.size_glued, PySem.length_partsBetween, Nat.add_sub_cancel]
    have h2 : (Builtin.Str.occurrences x y 0 x.length (x.length + 1)).length * z.length ≤ (x.length + 1) * z.length := Nat.mul_le_mul_right _ h1
    omega
theorem Short.repl {n m k : Nat} {x z : Str} (y : Str) (hx : Short n x) (hz : Short m z) (hk : n + (n + 1) * m ≤ k) : Short k (Txt.replace x y z) := by
  refine ⟨?_, fun c hc => ?_⟩
  · have h1 := replace_len x y z
    have h2 := hx.1
    have h3 : (x.length + 1) * z.length ≤ (n + 1) * m := Nat.mul_le_mul (by omega) hz.1
    omega
  · rcases replace_codes x y z c hc with q | q
    · exact hx.2 c q
    · exact hz.2 c q
theorem Short.up {n : Nat} {x : Str} (hx : Short n x) (ha : ∀ c ∈ x.cps.toList, c < 128) : Short n (Txt.upper x) := by
  rw [upper_ascii ha]
  refine ⟨?_, fun c hc => ?_⟩
  · have e : (⟨x.cps.map up1⟩ : Str).length = x.length := by simp [Str.length]
    rw [e]
    exact hx.1
  · have hc' : c ∈ x.cps.toList.map up1 := by simpa using hc
    obtain ⟨d, hd, rfl⟩ := List.mem_map.mp hc'
    have h1 := ha d hd
    have key : ∀ d, d < 128 → up1 d < 16 ^ 8 := by decide +kernel
    exact key d h1
end My
/-! ### text.find(c) -/
namespace My
open PySem PySem.Spec PyProof.Rows L2
end My
/-! ### what histories rest on: rstrip, abs, len(set(numbers)), sep.join(reversed(texts)), what is never reached -/
namespace My
open PySem PySem.Spec PyProof.Rows L2 PyProof
/-! sep.join(reversed(texts)) -/
section
variable {prog : Program} {w : World} {A : Around} {E : Value → Shared → Prop} {s : Shared}
end
/-! isinstance(x, (list, tuple)) -/
/-! ### trees in the heap: numbers and texts in lists and tuples -/
mutual
inductive Tr (H : Hp) : V → PyData → Prop where
  | int (i : Int) : Tr H (.int i) (.int i)
  | str (x : Str) : Tr H (.str x) (.str x)
  | lst {a : Addr} {xs : List V} {ds : List PyData} (h : H a = some (.lst xs)) (r : Trs H xs ds) : Tr H (.ref a) (.list ds)
  | tup {a : Addr} {xs : List V} {ds : List PyData} (h : H a = some (.tup xs)) (r : Trs H xs ds) : Tr H (.ref a) (.tuple ds)
inductive Trs (H : Hp) : List V → List PyData → Prop where
  | nil : Trs H [] []
  | cons {x : V} {d : PyData} {xs : List V} {ds : List PyData} (h : Tr H x d) (r : Trs H xs ds) : Trs H (x :: xs) (d :: ds)
end
mutual
theorem Tr.same {H H' : Hp} (s : Same H H') {v : V} {d : PyData} (h : Tr H v d) : Tr H' v d := by
  cases h with
  | int i => exact .int i
  | str x => exact .str x
  | lst h r => exact .lst (s _ _ h) (Trs.same s r)
  | tup h r => exact .tup (s _ _ h) (Trs.same s r)
theorem Trs.same {H H' : Hp} (s : Same H H') {vs : List V} {ds : List PyData} (h : Trs H vs ds) : Trs H' vs ds := by
  cases h with
  | nil => exact .nil
  | cons h r => exact .cons (Tr.same s h) (Trs.same s r)
end
theorem Trs.len {H : Hp} : ∀ {vs : List V} {ds : List PyData}, Trs H vs ds → vs.length = ds.length
  | _, _, .nil => rfl
  | _, _, .cons _ r => by simp only [List.length_cons, Trs.len r]
theorem Trs.get {H : Hp} : ∀ {vs : List V} {ds : List PyData}, Trs H vs ds → ∀ {i : Nat} {v : V}, vs[i]? = some v → ∃ d, ds[i]? = some d ∧ Tr H v d
  | _, _, .nil, i, v, e => by simp at e
  | _, _, .cons h r, 0, v, e => by cases e; exact ⟨_, rfl, h⟩
  | _, _, .cons h r, i + 1, v, e => Trs.get r (i := i) (by simpa using e)
theorem Trs.at {H : Hp} : ∀ {vs : List V} {ds : List PyData}, Trs H vs ds → ∀ {i : Nat} {d : PyData}, ds[i]? = some d → ∃ v, vs[i]? = some v ∧ Tr H v d
  | _, _, .nil, i, v, e => by simp at e
  | _, _, .cons h r, 0, v, e => by cases e; exact ⟨_, rfl, h⟩
  | _, _, .cons h r, i + 1, v, e => Trs.at r (i := i) (by simpa using e)
theorem Trs.ints {H : Hp} : ∀ {vs : List V} {ns : List Int}, Trs H vs (ns.map PyData.int) → vs = ns.map V.int
  | _, [], .nil => rfl
  | _, n :: r, .cons h q => by cases h; rw [Trs.ints q]; rfl
end My
/-! ### comprehensions over lists of trees -/
namespace My
open PySem PySem.Spec PyProof.Rows L2
/-- of H' what H has not -/
def off (H H' : Hp) : Hp := fun b => if (H b).isSome = true then none else H' b
end My
/-! ### what the model's sort of fewer than 64 things asks, answered by a number for each: they come out rising -/
namespace My
open PySem PySem.W PyProof.Rows
/-- what the asking comes to if the thing i has the number f i -/
def outT {α : Type} (f : Nat → Int) : KasT α → α
  | .ret a => a
  | .ask i j k => outT f (k (decide (f i < f j)))
theorem outT_bind {α β : Type} (f : Nat → Int) (g : α → KasT β) : ∀ t : KasT α, outT f (t.bind g) = outT f (g (outT f t))
  | .ret _ => rfl
  | .ask _ _ k => outT_bind f g (k _)
def KA (f : Nat → Int) (p : Array Nat) (i : Nat) : Int := f (p.getD i 0)
theorem KA_eq {f : Nat → Int} {p q : Array Nat} {i j : Nat} (e : p[i]? = q[j]?) : KA f p i = KA f q j := by
  unfold KA
  rw [Array.getD_eq_getD_getElem?, Array.getD_eq_getD_getElem?, e]
theorem KA_rev {f : Nat → Int} {p : Array Nat} {i j : Nat} (hj : j ≤ p.size) (k : Nat) : KA f (kas_rev p i j) k = if i ≤ k ∧ k < j then KA f p (i + j - 1 - k) else KA f p k := by
  have e := getElem?_mirror_all (i := i) hj k
  unfold kas_rev
  by_cases h : i ≤ k ∧ k < j
  · rw [if_pos h] at e ⊢; exact KA_eq e
  · rw [if_neg h] at e ⊢; exact KA_eq e
theorem KA_bub {f : Nat → Int} {p : Array Nat} {src d : Nat} (hs : src < p.size) (hd : d ≤ src) (k : Nat) : KA f (bubble p src d) k = if k = src - d then KA f p src else if src - d < k ∧ k ≤ src then KA f p (k - 1) else KA f p k := by
  have e := getElem?_bubble hs d hd k
  by_cases h1 : k = src - d
  · rw [if_pos h1] at e ⊢; exact KA_eq e
  · rw [if_neg h1] at e ⊢
    by_cases h2 : src - d < k ∧ k ≤ src
    · rw [if_pos h2] at e ⊢; exact KA_eq e
    · rw [if_neg h2] at e ⊢; exact KA_eq e
theorem rev_perm (p : Array Nat) (i j : Nat) : (kas_rev p i j).Perm p := mirror_perm _ _ _ _
theorem rev_size (p : Array Nat) (i j : Nat) : (kas_rev p i j).size = p.size := mirror_size _ _ _ _
def RiseA (f : Nat → Int) (p : Array Nat) (hi : Nat) : Prop := ∀ i j, i ≤ j → j < hi → KA f p i ≤ KA f p j
def FallA (f : Nat → Int) (p : Array Nat) (hi : Nat) : Prop := ∀ i j, i ≤ j → j < hi → KA f p j ≤ KA f p i
/-- the last q + 1 are alike -/
def LastA (f : Nat → Int) (p : Array Nat) (n q : Nat) : Prop := ∀ i, n - (q + 1) ≤ i → i < n → KA f p i = KA f p (n - 1)
theorem riseA_more {f : Nat → Int} {p : Array Nat} {n : Nat} (h : RiseA f p n) (h1 : 1 ≤ n) (z : KA f p (n - 1) ≤ KA f p n) : RiseA f p (n + 1) := fun i j a b => by
  by_cases e : j = n
  · subst e
    by_cases e2 : i = j
    · subst e2; exact Int.le_refl _
    · exact Int.le_trans (h i (j - 1) (by omega) (by omega)) z
  · exact h i j a (by omega)
theorem fallA_more {f : Nat → Int} {p : Array Nat} {n : Nat} (h : FallA f p n) (h1 : 1 ≤ n) (z : KA f p n ≤ KA f p (n - 1)) : FallA f p (n + 1) := fun i j a b => by
  by_cases e : j = n
  · subst e
    by_cases e2 : i = j
    · subst e2; exact Int.le_refl _
    · exact Int.le_trans z (h i (j - 1) (by omega) (by omega))
  · exact h i j a (by omega)
theorem fallA_eq {f : Nat → Int} {p q : Array Nat} {n : Nat} (h : FallA f p n) (e : ∀ k, KA f q k = KA f p k) : FallA f q n := fun i j a b => by rw [e, e]; exact h i j a b
theorem asc_out (f : Nat → Int) (p : Array Nat) : ∀ k n, 1 ≤ n → RiseA f p n → n ≤ outT f (kas_asc p k n) ∧ outT f (kas_asc p k n) ≤ n + k ∧ RiseA f p (outT f (kas_asc p k n)) ∧
    (outT f (kas_asc p k n) = n + k ∨ KA f p (outT f (kas_asc p k n)) < KA f p (outT f (kas_asc p k n) - 1))
  | 0, n, _, h => ⟨Nat.le_refl _, Nat.le_refl _, h, .inl rfl⟩
  | k + 1, n, h1, h => by
    have e : outT f (kas_asc p (k + 1) n) = outT f (if decide (KA f p n < KA f p (n - 1)) = true then KasT.ret n else kas_asc p k (n + 1)) := rfl
    by_cases z : KA f p n < KA f p (n - 1)
    · rw [if_pos (decide_eq_true z)] at e
      rw [e]
      exact ⟨Nat.le_refl _, Nat.le_add_right _ _, h, .inr z⟩
    · rw [if_neg (by simpa using z)] at e
      rw [e]
      obtain ⟨a, b, c, d⟩ := asc_out f p k (n + 1) (by omega) (riseA_more h h1 (by omega))
      exact ⟨by omega, by omega, c, d.imp (fun x => by omega) id⟩
theorem rev_last {f : Nat → Int} {p : Array Nat} {n q : Nat} (hn : n ≤ p.size) (e : LastA f p n q) (k : Nat) : KA f (kas_rev p (n - (q + 1)) n) k = KA f p k := by
  rw [KA_rev hn]
  split
  · next z => rw [e k z.1 z.2, e _ (by omega) (by omega)]
  · rfl
theorem lastA_none {f : Nat → Int} {p : Array Nat} {n : Nat} : LastA f p n 0 := fun i a b => by rw [show i = n - 1 by omega]
theorem desc_out (f : Nat → Int) : ∀ (k : Nat) (p : Array Nat) (n q : Nat), 1 ≤ n → q + 1 ≤ n → n + k ≤ p.size → FallA f p n → LastA f p n q →
    (outT f (kas_desc k p n q)).1.Perm p ∧ n ≤ (outT f (kas_desc k p n q)).2.1 ∧ (outT f (kas_desc k p n q)).2.1 ≤ n + k ∧ (outT f (kas_desc k p n q)).2.2 + 1 ≤ (outT f (kas_desc k p n q)).2.1 ∧
    FallA f (outT f (kas_desc k p n q)).1 (outT f (kas_desc k p n q)).2.1 ∧ LastA f (outT f (kas_desc k p n q)).1 (outT f (kas_desc k p n q)).2.1 (outT f (kas_desc k p n q)).2.2
  | 0, p, n, q, _, h2, _, h4, h5 => ⟨.refl _, Nat.le_refl _, Nat.le_refl _, h2, h4, h5⟩
  | k + 1, p, n, q, h1, h2, h3, h4, h5 => by
    have e : outT f (kas_desc (k + 1) p n q) = outT f (if decide (KA f p n < KA f p (n - 1)) = true then (if q > 0 then kas_desc k (kas_rev p (n - (q + 1)) n) (n + 1) 0 else kas_desc k p (n + 1) 0)
      else .ask (p.getD (n - 1) 0) (p.getD n 0) fun d => if d = true then .ret (p, n, q) else kas_desc k p (n + 1) (q + 1)) := rfl
    by_cases z : KA f p n < KA f p (n - 1)
    · rw [if_pos (decide_eq_true z)] at e
      by_cases z2 : q > 0
      · rw [if_pos z2] at e
        rw [e]
        obtain ⟨a, b, c, d⟩ := desc_out f k (kas_rev p (n - (q + 1)) n) (n + 1) 0 (by omega) (by omega) (by rw [rev_size]; omega) (fallA_eq (fallA_more h4 h1 (Int.le_of_lt z)) (rev_last (by omega) h5)) lastA_none
        exact ⟨a.trans (rev_perm _ _ _), by omega, by omega, d⟩
      · rw [if_neg z2] at e
        rw [e]
        obtain ⟨a, b, c, d⟩ := desc_out f k p (n + 1) 0 (by omega) (by omega) (by omega) (fallA_more h4 h1 (Int.le_of_lt z)) lastA_none
        exact ⟨a, by omega, by omega, d⟩
    · rw [if_neg (by simpa using z)] at e
      have e' : outT f (kas_desc (k + 1) p n q) = outT f (if decide (KA f p (n - 1) < KA f p n) = true then KasT.ret (p, n, q) else kas_desc k p (n + 1) (q + 1)) := e
      by_cases z2 : KA f p (n - 1) < KA f p n
      · rw [if_pos (decide_eq_true z2)] at e'
        rw [e']
        exact ⟨.refl _, Nat.le_refl _, Nat.le_add_right n (k + 1), h2, h4, h5⟩
      · rw [if_neg (by simpa using z2)] at e'
        rw [e']
        obtain ⟨a, b, c, d⟩ := desc_out f k p (n + 1) (q + 1) (by omega) (by omega) (by omega) (fallA_more h4 h1 (by omega)) fun i i1 i2 => by
          show KA f p i = KA f p n
          by_cases ei : i = n
          · rw [ei]
          · rw [h5 i (by omega) (by omega)]; omega
        exact ⟨a, by omega, by omega, d⟩
theorem tail3_out (f : Nat → Int) {n nrem : Nat} {p : Array Nat} (h1 : 1 ≤ n) (h2 : n ≤ nrem) (h3 : nrem ≤ p.size) (h : FallA f p n) :
    (outT f (kas_tail3 n nrem p)).2.Perm p ∧ 1 ≤ (outT f (kas_tail3 n nrem p)).1 ∧ (outT f (kas_tail3 n nrem p)).1 ≤ nrem ∧ RiseA f (outT f (kas_tail3 n nrem p)).2 (outT f (kas_tail3 n nrem p)).1 := by
  have e : outT f (kas_tail3 n nrem p) = (outT f (kas_asc (kas_rev p 0 n) (nrem - n) n), kas_rev p 0 n) := by unfold kas_tail3; rw [outT_bind]; rfl
  obtain ⟨a, b, c, _⟩ := asc_out f (kas_rev p 0 n) (nrem - n) n h1 fun i j i1 i2 => by
    rw [KA_rev (by omega), KA_rev (by omega), if_pos (by omega), if_pos (by omega)]
    exact h _ _ (by omega) (by omega)
  rw [e]
  exact ⟨rev_perm _ _ _, by show 1 ≤ outT f _; omega, by show outT f _ ≤ nrem; omega, c⟩
theorem part_out (f : Nat → Int) {n nrem : Nat} {p : Array Nat} (h2 : n + 1 ≤ nrem) (h3 : nrem ≤ p.size) (h : FallA f p (n + 1)) :
    (outT f (kas_descPart n nrem p)).2.Perm p ∧ 1 ≤ (outT f (kas_descPart n nrem p)).1 ∧ (outT f (kas_descPart n nrem p)).1 ≤ nrem ∧ RiseA f (outT f (kas_descPart n nrem p)).2 (outT f (kas_descPart n nrem p)).1 := by
  obtain ⟨a, b, c, d, e1, e2⟩ := desc_out f (nrem - (n + 1)) p (n + 1) 0 (by omega) (by omega) (by omega) h lastA_none
  have e : outT f (kas_descPart n nrem p) = outT f (if (outT f (kas_desc (nrem - (n + 1)) p (n + 1) 0)).2.2 > 0 then kas_tail3 (outT f (kas_desc (nrem - (n + 1)) p (n + 1) 0)).2.1 nrem (kas_rev (outT f (kas_desc (nrem - (n + 1)) p (n + 1) 0)).1
      ((outT f (kas_desc (nrem - (n + 1)) p (n + 1) 0)).2.1 - ((outT f (kas_desc (nrem - (n + 1)) p (n + 1) 0)).2.2 + 1)) (outT f (kas_desc (nrem - (n + 1)) p (n + 1) 0)).2.1)
      else kas_tail3 (outT f (kas_desc (nrem - (n + 1)) p (n + 1) 0)).2.1 nrem (outT f (kas_desc (nrem - (n + 1)) p (n + 1) 0)).1) := by unfold kas_descPart; rw [outT_bind]
  generalize outT f (kas_desc (nrem - (n + 1)) p (n + 1) 0) = r at a b c d e1 e2 e
  have sz := a.size_eq
  by_cases z : r.2.2 > 0
  · rw [if_pos z] at e
    rw [e]
    obtain ⟨x, y⟩ := tail3_out f (n := r.2.1) (nrem := nrem) (p := kas_rev r.1 (r.2.1 - (r.2.2 + 1)) r.2.1) (by omega) (by omega) (by rw [rev_size]; omega) (fallA_eq e1 (rev_last (by omega) e2))
    exact ⟨x.trans ((rev_perm _ _ _).trans a), y⟩
  · rw [if_neg z] at e
    rw [e]
    obtain ⟨x, y⟩ := tail3_out f (n := r.2.1) (nrem := nrem) (p := r.1) (by omega) (by omega) (by omega) e1
    exact ⟨x.trans a, y⟩
theorem count_out (f : Nat → Int) {nrem : Nat} {p : Array Nat} (h1 : 1 ≤ nrem) (h3 : nrem ≤ p.size) :
    (outT f (kas_count nrem p)).2.Perm p ∧ 1 ≤ (outT f (kas_count nrem p)).1 ∧ (outT f (kas_count nrem p)).1 ≤ nrem ∧ RiseA f (outT f (kas_count nrem p)).2 (outT f (kas_count nrem p)).1 := by
  obtain ⟨a, b, hr, hor⟩ := asc_out f p (nrem - 1) 1 (Nat.le_refl _) fun i j i1 i2 => by rw [show i = j by omega]; exact Int.le_refl _
  have e : outT f (kas_count nrem p) = outT f (if (outT f (kas_asc p (nrem - 1) 1) == nrem) = true then .ret (outT f (kas_asc p (nrem - 1) 1), p) else if outT f (kas_asc p (nrem - 1) 1) > 1 then
    .ask (p.getD 0 0) (p.getD (outT f (kas_asc p (nrem - 1) 1) - 1) 0) fun c => if c = true then .ret (outT f (kas_asc p (nrem - 1) 1), p) else kas_descPart (outT f (kas_asc p (nrem - 1) 1)) nrem (kas_rev p 0 (outT f (kas_asc p (nrem - 1) 1)))
    else kas_descPart (outT f (kas_asc p (nrem - 1) 1)) nrem p) := by unfold kas_count; rw [outT_bind]
  generalize outT f (kas_asc p (nrem - 1) 1) = n at a b hr hor e
  by_cases z : n = nrem
  · subst z
    rw [if_pos (by simp)] at e
    rw [e]
    exact ⟨.refl _, h1, Nat.le_refl _, hr⟩
  · rw [if_neg (by simpa using z)] at e
    have hlt : KA f p n < KA f p (n - 1) := hor.resolve_left (by omega)
    by_cases z2 : n > 1
    · rw [if_pos z2] at e
      have e' : outT f (kas_count nrem p) = outT f (if decide (KA f p 0 < KA f p (n - 1)) = true then .ret (n, p) else kas_descPart n nrem (kas_rev p 0 n)) := e
      by_cases z3 : KA f p 0 < KA f p (n - 1)
      · rw [if_pos (decide_eq_true z3)] at e'
        rw [e']
        exact ⟨.refl _, a, by show n ≤ nrem; omega, hr⟩
      · rw [if_neg (by simpa using z3)] at e'
        rw [e']
        have eqK : ∀ k, KA f (kas_rev p 0 n) k = KA f p k := fun k => by
          rw [KA_rev (by omega)]
          split
          · next q =>
            have z1 := hr 0 k (by omega) (by omega)
            have z2 := hr k (n - 1) (by omega) (by omega)
            have z3 := hr 0 (0 + n - 1 - k) (by omega) (by omega)
            have z4 := hr (0 + n - 1 - k) (n - 1) (by omega) (by omega)
            omega
          · rfl
        have fl : FallA f (kas_rev p 0 n) (n + 1) := fallA_eq (fallA_more (fun i j i1 i2 => by
          have z1 := hr 0 i (by omega) (by omega)
          have z2 := hr j (n - 1) (by omega) (by omega)
          omega) (by omega) (Int.le_of_lt hlt)) eqK
        obtain ⟨x, y⟩ := part_out f (n := n) (nrem := nrem) (p := kas_rev p 0 n) (by omega) (by rw [rev_size]; omega) fl
        exact ⟨x.trans (rev_perm _ _ _), y⟩
    · rw [if_neg z2] at e
      rw [e]
      exact part_out f (n := n) (nrem := nrem) (p := p) (by omega) h3 (fallA_more (fun i j i1 i2 => by rw [show i = j by omega]; exact Int.le_refl _) (by omega) (Int.le_of_lt hlt))
theorem place_out (f : Nat → Int) {p : Array Nat} {k : Nat} (hr : RiseA f p k) : ∀ d l r, l ≤ r → r ≤ k → r - l ≤ d → (∀ i, i < l → KA f p i ≤ KA f p k) → (∀ i, r ≤ i → i < k → KA f p k < KA f p i) →
    outT f (kas_place p k d l r) ≤ k ∧ (∀ i, i < outT f (kas_place p k d l r) → KA f p i ≤ KA f p k) ∧ ∀ i, outT f (kas_place p k d l r) ≤ i → i < k → KA f p k < KA f p i
  | 0, l, r, h1, h2, h3, q1, q2 => by
    have : l = r := by omega
    subst this
    exact ⟨h2, q1, q2⟩
  | d + 1, l, r, h1, h2, h3, q1, q2 => by
    have e : outT f (kas_place p k (d + 1) l r) = outT f (if l ≥ r then .ret l else .ask (p.getD k 0) (p.getD ((l + r) / 2) 0) fun c => if c = true then kas_place p k d l ((l + r) / 2) else kas_place p k d ((l + r) / 2 + 1) r) := rfl
    by_cases z : l ≥ r
    · rw [if_pos z] at e
      rw [e]
      have : l = r := by omega
      subst this
      exact ⟨h2, q1, q2⟩
    · rw [if_neg z] at e
      have e' : outT f (kas_place p k (d + 1) l r) = outT f (if decide (KA f p k < KA f p ((l + r) / 2)) = true then kas_place p k d l ((l + r) / 2) else kas_place p k d ((l + r) / 2 + 1) r) := e
      by_cases y : KA f p k < KA f p ((l + r) / 2)
      · rw [if_pos (decide_eq_true y)] at e'
        rw [e']
        exact place_out f hr d l ((l + r) / 2) (by omega) (by omega) (by omega) q1 fun i i1 i2 => by
          have := hr ((l + r) / 2) i i1 i2
          omega
      · rw [if_neg (by simpa using y)] at e'
        rw [e']
        exact place_out f hr d ((l + r) / 2 + 1) r (by omega) (by omega) (by omega) (fun i i1 => by
          have := hr i ((l + r) / 2) (by omega) (by omega)
          omega) q2
theorem bin_out (f : Nat → Int) : ∀ (d : Nat) (p : Array Nat) (k : Nat), k + d ≤ p.size → RiseA f p k → (outT f (kas_bin d p k)).Perm p ∧ RiseA f (outT f (kas_bin d p k)) (k + d)
  | 0, p, k, _, h => ⟨.refl _, h⟩
  | d + 1, p, k, hk, h => by
    have e : outT f (kas_bin (d + 1) p k) = outT f (kas_bin d (bubble p k (k - outT f (kas_place p k k 0 k))) (k + 1)) := by
      rw [show kas_bin (d + 1) p k = (kas_place p k k 0 k).bind fun l => kas_bin d (bubble p k (k - l)) (k + 1) from rfl, outT_bind]
    obtain ⟨l1, l2, l3⟩ := place_out f h k 0 k (by omega) (by omega) (by omega) (fun i i1 => by omega) fun i i1 i2 => by omega
    generalize outT f (kas_place p k k 0 k) = l at l1 l2 l3 e
    obtain ⟨a, b⟩ := bin_out f d (bubble p k (k - l)) (k + 1) (by rw [bubble_size]; omega) fun i j i1 i2 => by
      rw [KA_bub (by omega) (by omega), KA_bub (by omega) (by omega), show k - (k - l) = l by omega]
      repeat' split
      all_goals first
        | omega
        | exact l2 _ (by omega)
        | exact Int.le_of_lt (l3 _ (by omega) (by omega))
        | exact h _ _ (by omega) (by omega)
    rw [e]
    exact ⟨a.trans (bubble_perm _ _ _), by rw [show k + (d + 1) = k + 1 + d by omega]; exact b⟩
/-- all of them, rising -/
theorem sort_out (f : Nat → Int) {n : Nat} (h1 : 1 ≤ n) : (outT f (kas_sort n)).toList.Perm (List.range n) ∧ RiseA f (outT f (kas_sort n)) n := by
  have sz : (List.toArray (List.range n)).size = n := by simp
  obtain ⟨a, b, c, d⟩ := count_out f (nrem := n) (p := List.toArray (List.range n)) h1 (Nat.le_of_eq sz.symm)
  have e : outT f (kas_sort n) = outT f (if (outT f (kas_count n (List.toArray (List.range n)))).1 < n then kas_bin (n - max (outT f (kas_count n (List.toArray (List.range n)))).1 1) (outT f (kas_count n (List.toArray (List.range n)))).2 (max (outT f (kas_count n (List.toArray (List.range n)))).1 1)
    else .ret (outT f (kas_count n (List.toArray (List.range n)))).2) := by unfold kas_sort; rw [outT_bind]
  generalize outT f (kas_count n (List.toArray (List.range n))) = r at a b c d e
  have s2 := a.size_eq
  by_cases z : r.1 < n
  · rw [if_pos z, show max r.1 1 = r.1 by omega] at e
    rw [e]
    obtain ⟨x, y⟩ := bin_out f (n - r.1) r.2 r.1 (by omega) d
    rw [show r.1 + (n - r.1) = n by omega] at y
    exact ⟨by simpa using (x.trans a).toList, y⟩
  · rw [if_neg z] at e
    rw [e]
    rw [show r.1 = n by omega] at d
    exact ⟨by show r.2.toList.Perm _; simpa using a.toList, d⟩
section
open L2
end
theorem us0 {α : Type} {us : List α} (h : us.length = 0) : us = [] := List.length_eq_zero_iff.mp h
theorem us1 {α : Type} {us : List α} (h : us.length = 1) : ∃ a, us = [a] := List.length_eq_one_iff.mp h
theorem us2 {α : Type} {us : List α} (h : us.length = 2) : ∃ a b, us = [a, b] := by
  obtain ⟨a, t, rfl⟩ := List.exists_cons_of_length_eq_add_one h
  obtain ⟨b, rfl⟩ := us1 (Nat.succ.inj h)
  exact ⟨a, b, rfl⟩
theorem us3 {α : Type} {us : List α} (h : us.length = 3) : ∃ a b c, us = [a, b, c] := by
  obtain ⟨a, t, rfl⟩ := List.exists_cons_of_length_eq_add_one h
  obtain ⟨b, c, rfl⟩ := us2 (Nat.succ.inj h)
  exact ⟨a, b, c, rfl⟩
end My
/-! ### a set's table, as it is walked: what is laid is found again -/
namespace My
open PySem PySem.SetTable
theorem nodup_sub_len {α : Type} [DecidableEq α] : ∀ {l m : List α}, l.Nodup → (∀ x ∈ l, x ∈ m) → l.length ≤ m.length
  | [], _, _, _ => Nat.zero_le _
  | a :: r, m, h, s => by
    obtain ⟨h1, h2⟩ := List.nodup_cons.mp h
    have ha : a ∈ m := s a List.mem_cons_self
    have := nodup_sub_len (m := m.erase a) h2 fun x hx => (List.mem_erase_of_ne (fun (e : x = a) => h1 (by rw [← e]; exact hx))).mpr (s x (List.mem_cons_of_mem _ hx))
    rw [List.length_erase_of_mem ha] at this
    have := List.length_pos_of_mem ha
    rw [List.length_cons]
    omega
/-- the leaps of a search for the hash h: where each run begins, and what is left of the hash -/
def LS (mask : Nat) (h : Int) : Nat → Nat × Nat
  | 0 => (bits h % (mask + 1), bits h)
  | r + 1 => leap mask (LS mask h r).1 (LS mask h r).2
def rl (mask i : Nat) : Nat := runEnd mask i - i
theorem rl_le (mask i : Nat) : rl mask i ≤ 9 := by
  unfold rl runEnd
  split <;> omega
theorem rl_end {mask i k : Nat} (hi : i ≤ mask) (h : k ≤ rl mask i) : i + k ≤ mask := by
  unfold rl runEnd at h
  split at h <;> omega
theorem ls_le (mask : Nat) (h : Int) : ∀ r, (LS mask h r).1 ≤ mask
  | 0 => Nat.le_of_lt_succ (Nat.mod_lt _ (Nat.succ_pos _))
  | _ + 1 => Nat.le_of_lt_succ (Nat.mod_lt _ (Nat.succ_pos _))
theorem ls_per (mask : Nat) (h : Int) : ∀ r, (LS mask h r).2 = bits h / 32 ^ r
  | 0 => by simp [LS]
  | r + 1 => by
    show (LS mask h r).2 / 32 = _
    rw [ls_per mask h r, Nat.div_div_eq_div_mul, Nat.pow_succ]
theorem bits_lt (h : Int) : bits h < 2 ^ 64 := by
  unfold bits
  have h1 := Int.emod_nonneg h (show (2 ^ 64 : Int) ≠ 0 by decide)
  have h2 := Int.emod_lt_of_pos h (show (0 : Int) < 2 ^ 64 by decide)
  omega
theorem ls_late (mask : Nat) (h : Int) (n : Nat) : (LS mask h (12 + n + 1)).1 = ((LS mask h (12 + n)).1 * 5 + 1) % (mask + 1) := by
  show ((LS mask h (12 + n)).1 * 5 + 1 + (LS mask h (12 + n)).2 / 32) % (mask + 1) = _
  have e : (LS mask h (12 + n)).2 / 32 = 0 := by
    rw [ls_per, Nat.div_div_eq_div_mul, ← Nat.pow_succ]
    refine Nat.div_eq_of_lt (Nat.lt_of_lt_of_le (bits_lt h) ?_)
    exact Nat.le_trans (show 2 ^ 64 ≤ 32 ^ 13 by decide) (Nat.pow_le_pow_right (by decide) (by omega))
  rw [e]
def itN (N : Nat) : Nat → Nat → Nat
  | 0, i => i
  | n + 1, i => itN N n ((i * 5 + 1) % N)
theorem itN_add (N : Nat) : ∀ a b i, itN N (a + b) i = itN N b (itN N a i)
  | 0, b, i => by rw [Nat.zero_add]; rfl
  | a + 1, b, i => by
    rw [show a + 1 + b = (a + b) + 1 by omega]
    exact itN_add N a b _
theorem ls_it (mask : Nat) (h : Int) : ∀ n, (LS mask h (12 + n)).1 = itN (mask + 1) n (LS mask h 12).1
  | 0 => rfl
  | n + 1 => by
    rw [show 12 + (n + 1) = 12 + n + 1 by omega, ls_late, ls_it mask h n, itN_add]
    rfl
def Size (mask : Nat) : Prop := mask = 7 ∨ mask = 31 ∨ mask = 127
theorem it_all {mask : Nat} (hm : Size mask) : (∀ j < mask + 1, ∃ n < mask + 1, itN (mask + 1) n 0 = j) ∧ itN (mask + 1) (mask + 1) 0 = 0 := by
  rcases hm with rfl | rfl | rfl
  · decide +kernel
  · decide +kernel
  · decide +kernel
theorem reach {mask : Nat} (hm : Size mask) (h : Int) {j : Nat} (hj : j ≤ mask) : ∃ r, r < turns mask ∧ (LS mask h r).1 = j := by
  obtain ⟨all, back⟩ := it_all hm
  obtain ⟨a, ha, ea⟩ := all (LS mask h 12).1 (Nat.lt_succ_of_le (ls_le mask h 12))
  obtain ⟨b, hb, eb⟩ := all j (Nat.lt_succ_of_le hj)
  by_cases hab : a ≤ b
  · refine ⟨12 + (b - a), by unfold turns; omega, ?_⟩
    rw [ls_it, ← ea, ← itN_add, show a + (b - a) = b by omega, eb]
  · refine ⟨12 + (b + (mask + 1) - a), by unfold turns; omega, ?_⟩
    rw [ls_it, ← ea, ← itN_add, show a + (b + (mask + 1) - a) = (mask + 1) + b by omega, itN_add, back, eb]
def Ps (mask : Nat) (h : Int) (r k : Nat) : Nat := (LS mask h r).1 + k
/-- all that the search for h meets ahead of the place k of the run r is ok -/
def Bef (mask : Nat) (h : Int) (ok : Nat → Prop) (r k : Nat) : Prop := (∀ r', r' < r → ∀ k', k' ≤ rl mask (LS mask h r').1 → ok (Ps mask h r' k')) ∧ ∀ k', k' < k → ok (Ps mask h r k')
theorem Bef.mono {mask : Nat} {h : Int} {p q : Nat → Prop} {r k : Nat} (b : Bef mask h p r k) (i : ∀ j, p j → q j) : Bef mask h q r k := ⟨fun r' a k' c => i _ (b.1 r' a k' c), fun k' a => i _ (b.2 k' a)⟩
theorem Bef.zero (mask : Nat) (h : Int) (ok : Nat → Prop) : Bef mask h ok 0 0 := ⟨fun _ a => absurd a (Nat.not_lt_zero _), fun _ a => absurd a (Nat.not_lt_zero _)⟩
theorem Bef.more {mask : Nat} {h : Int} {ok : Nat → Prop} {r k : Nat} (b : Bef mask h ok r k) (o : ok (Ps mask h r k)) : Bef mask h ok r (k + 1) :=
  ⟨b.1, fun k' a => by
    rcases Nat.lt_succ_iff_lt_or_eq.mp a with z | z
    · exact b.2 k' z
    · exact z ▸ o⟩
theorem Bef.next {mask : Nat} {h : Int} {ok : Nat → Prop} {r : Nat} (b : Bef mask h ok r (rl mask (LS mask h r).1 + 1)) : Bef mask h ok (r + 1) 0 :=
  ⟨fun r' a k' c => by
    rcases Nat.lt_succ_iff_lt_or_eq.mp a with z | z
    · exact b.1 r' z k' c
    · subst z; exact b.2 k' (Nat.lt_succ_of_le c), fun _ a => absurd a (Nat.not_lt_zero _)⟩
/-- where two stand on the way of one hash, the one is ahead of the other or they are at one place -/
theorem bef_cmp {mask : Nat} {h : Int} {p q : Nat → Prop} {r k r' k' : Nat} (b : Bef mask h p r k) (b' : Bef mask h q r' k') (hk : k ≤ rl mask (LS mask h r).1) (hk' : k' ≤ rl mask (LS mask h r').1) :
    p (Ps mask h r' k') ∨ (r = r' ∧ k = k') ∨ q (Ps mask h r k) := by
  by_cases z : r' < r
  · exact .inl (b.1 r' z k' hk')
  · by_cases z2 : r < r'
    · exact .inr (.inr (b'.1 r z2 k hk))
    · have e : r = r' := by omega
      subst e
      by_cases y : k' < k
      · exact .inl (b.2 k' y)
      · by_cases y2 : k < k'
        · exact .inr (.inr (b'.2 k y2))
        · exact .inr (.inl ⟨rfl, by omega⟩)
def Pb (mask : Nat) (h : Int) (r k : Nat) : Probe := { j := Ps mask h r k, more := rl mask (LS mask h r).1 - k, i := (LS mask h r).1, perturb := (LS mask h r).2, dummy := none }
theorem pb_start (t : SetTable) (h : Int) : t.probeStart h = Pb t.mask h 0 0 := rfl
theorem pb_in {t : SetTable} {h : Int} {r k : Nat} (hk : k < rl t.mask (LS t.mask h r).1) : t.advance (Pb t.mask h r k) = Pb t.mask h r (k + 1) := by
  unfold SetTable.advance
  rw [if_pos (show (Pb t.mask h r k).more > 0 by show rl _ _ - k > 0; omega)]
  unfold Pb Ps
  simp only [Probe.mk.injEq, and_true]
  exact ⟨by omega, by omega⟩
theorem pb_out {t : SetTable} {h : Int} {r k : Nat} (hk : k = rl t.mask (LS t.mask h r).1) : t.advance (Pb t.mask h r k) = Pb t.mask h (r + 1) 0 := by
  unfold SetTable.advance
  rw [if_neg (show ¬ (Pb t.mask h r k).more > 0 by show ¬ rl _ _ - k > 0; omega)]
  rfl
/-- the step on, and what is known behind it -/
theorem pb_step {t : SetTable} {h : Int} {ok : Nat → Prop} {r k : Nat} (hk : k ≤ rl t.mask (LS t.mask h r).1) (b : Bef t.mask h ok r k) (o : ok (Ps t.mask h r k)) :
    ∃ r' k', t.advance (Pb t.mask h r k) = Pb t.mask h r' k' ∧ k' ≤ rl t.mask (LS t.mask h r').1 ∧ Bef t.mask h ok r' k' ∧ 10 * r + k < 10 * r' + k' := by
  by_cases z : k < rl t.mask (LS t.mask h r).1
  · exact ⟨r, k + 1, pb_in z, z, b.more o, by omega⟩
  · have e : k = rl t.mask (LS t.mask h r).1 := by omega
    have := rl_le t.mask (LS t.mask h r).1
    exact ⟨r + 1, 0, pb_out e, Nat.zero_le _, (e ▸ b.more o : Bef t.mask h ok r (rl t.mask (LS t.mask h r).1 + 1)).next, by omega⟩
theorem slot_live {t : SetTable} (hu : Ris t.place) {i j : Nat} (e : t.place[i]? = some j) : t.slot j = .live i := by
  unfold SetTable.slot
  have := below_at hu e
  simp only [this, e, beq_self_eq_true, if_true]
theorem slot_empty {t : SetTable} (hu : Ris t.place) (hd : t.dummies = #[]) {j : Nat} (e : j ∉ t.place.toList) : t.slot j = .empty := by
  unfold SetTable.slot
  have n : ¬ t.place[below t.place j]? = some j := fun z => e (List.mem_of_getElem? (by rw [Array.getElem?_toList]; exact z))
  simp only [beq_iff_eq, n, if_false, (TOk.mk hu hd).noDummy, Bool.false_eq_true]
theorem go_met {t : SetTable} (hu : Ris t.place) (hd : t.dummies = #[]) {f : Nat → Int} {h : Int} {ok : Nat → Prop} (live : ∀ j, ok j → j ∈ t.place.toList) (hok : ∀ i j, t.place[i]? = some j → f i ≠ h → ok j)
    (room : ∃ r, r < turns t.mask ∧ (LS t.mask h r).1 ∉ t.place.toList) : ∀ (fuel r k : Nat), k ≤ rl t.mask (LS t.mask h r).1 → Bef t.mask h ok r k → 10 * turns t.mask ≤ fuel + (10 * r + k) →
    ∃ r1 k1, k1 ≤ rl t.mask (LS t.mask h r1).1 ∧ Bef t.mask h ok r1 k1 ∧ 10 * r + k ≤ 10 * r1 + k1 ∧ ((Ps t.mask h r1 k1 ∉ t.place.toList ∧ probe.go t f h fuel (Pb t.mask h r k) = some (.empty (Ps t.mask h r1 k1) none)) ∨
      ∃ i, t.place[i]? = some (Ps t.mask h r1 k1) ∧ f i = h ∧ probe.go t f h fuel (Pb t.mask h r k) = some (.candidate (Ps t.mask h r1 k1) i (t.advance (Pb t.mask h r1 k1)))) := by
  obtain ⟨r0, hr0, h0⟩ := room
  have far : ∀ {r k : Nat}, Bef t.mask h ok r k → r ≤ r0 := fun {r k} b => by
    by_cases z : r ≤ r0
    · exact z
    · exact absurd (live _ (b.1 r0 (by omega) 0 (Nat.zero_le _))) h0
  intro fuel
  induction fuel with
  | zero =>
    intro r k hk b hf
    have := far b
    have := rl_le t.mask (LS t.mask h r).1
    omega
  | succ fuel ih =>
    intro r k hk b hf
    by_cases hm : Ps t.mask h r k ∈ t.place.toList
    · obtain ⟨i, hi⟩ := List.mem_iff_getElem?.mp hm
      rw [Array.getElem?_toList] at hi
      have hs := slot_live hu hi
      by_cases hz : f i = h
      · refine ⟨r, k, hk, b, Nat.le_refl _, .inr ⟨i, hi, hz, ?_⟩⟩
        unfold probe.go
        rw [show (Pb t.mask h r k).j = Ps t.mask h r k from rfl, hs]
        simp only [hz, beq_self_eq_true, if_true]
      · obtain ⟨r', k', ea, hk', b', lt⟩ := pb_step hk b (hok i _ hi hz)
        obtain ⟨r1, k1, x1, x2, x3, x4⟩ := ih r' k' hk' b' (by omega)
        have e : probe.go t f h (fuel + 1) (Pb t.mask h r k) = probe.go t f h fuel (Pb t.mask h r' k') := by
          conv => lhs; unfold probe.go
          rw [show (Pb t.mask h r k).j = Ps t.mask h r k from rfl, hs]
          simp only [beq_iff_eq, hz, if_false, ea]
        rw [e]
        exact ⟨r1, k1, x1, x2, by omega, x4⟩
    · refine ⟨r, k, hk, b, Nat.le_refl _, .inl ⟨hm, ?_⟩⟩
      unfold probe.go
      rw [show (Pb t.mask h r k).j = Ps t.mask h r k from rfl, slot_empty hu hd hm]
      rfl
def insL {α : Type} (p : Nat) (x : α) (l : List α) : List α := l.take p ++ x :: l.drop p
theorem ins_toList {α : Type} (xs : Array α) (p : Nat) (x : α) : (insertAt xs p x).toList = insL p x xs.toList := by
  unfold insertAt insL
  simp
  exact List.take_of_length_le (by simp)
theorem insL_zip {α β : Type} {l : List α} {m : List β} (hl : l.length = m.length) (p : Nat) (x : α) (y : β) : (insL p x l).zip (insL p y m) = insL p (x, y) (l.zip m) := by
  unfold insL
  rw [List.zip_append (by simp [hl]), List.zip_cons_cons]
  show List.zipWith Prod.mk (l.take p) (m.take p) ++ (x, y) :: List.zipWith Prod.mk (l.drop p) (m.drop p) = (List.zipWith Prod.mk l m).take p ++ (x, y) :: (List.zipWith Prod.mk l m).drop p
  rw [List.take_zipWith, List.drop_zipWith]
theorem insL_mem {α : Type} {p : Nat} {x z : α} {l : List α} : z ∈ insL p x l ↔ z = x ∨ z ∈ l := by
  unfold insL
  rw [List.mem_append, List.mem_cons]
  constructor
  · rintro (a | a | a)
    · exact .inr (List.mem_of_mem_take a)
    · exact .inl a
    · exact .inr (List.mem_of_mem_drop a)
  · rintro (a | a)
    · exact .inr (.inl a)
    · rw [← List.take_append_drop p l] at a
      rcases List.mem_append.mp a with z | z
      · exact .inl z
      · exact .inr (.inr z)
theorem insL_perm {α : Type} (p : Nat) (x : α) (l : List α) : (insL p x l).Perm (x :: l) := by
  unfold insL
  refine List.perm_middle.trans ?_
  rw [List.take_append_drop]
/-- a table in which each entry stands on the way of its hash, behind entries only -/
structure TT (t : SetTable) (es : List (Int × Value)) : Prop where
  size : Size t.mask
  up : Ris t.place
  nd : t.dummies = #[]
  within : ∀ j ∈ t.place.toList, j ≤ t.mask
  len : t.place.toList.length = es.length
  fnd : ∀ j e, (j, e) ∈ t.place.toList.zip es → ∃ r k, k ≤ rl t.mask (LS t.mask e.1 r).1 ∧ Ps t.mask e.1 r k = j ∧ Bef t.mask e.1 (· ∈ t.place.toList) r k
theorem TT.ok {t : SetTable} {es : List (Int × Value)} (T : TT t es) : TOk t := ⟨T.up, T.nd⟩
theorem TT.fresh (f m : Nat) (l : Bool) : TT (.fresh f m l) [] := ⟨.inl rfl, List.Pairwise.nil, rfl, (fun _ h => by cases h), rfl, (fun _ _ h => by cases h)⟩
theorem TT.room {t : SetTable} {es : List (Int × Value)} (T : TT t es) (h : Int) (few : es.length ≤ t.mask) : ∃ r, r < turns t.mask ∧ (LS t.mask h r).1 ∉ t.place.toList := by
  have : ∃ j, j ≤ t.mask ∧ j ∉ t.place.toList := by
    apply Classical.byContradiction
    intro z
    have := nodup_sub_len (l := List.range (t.mask + 1)) (m := t.place.toList) List.nodup_range fun x hx => Classical.byContradiction fun y => z ⟨x, Nat.le_of_lt_succ (List.mem_range.mp hx), y⟩
    rw [List.length_range, T.len] at this
    omega
  obtain ⟨j, hj, hn⟩ := this
  obtain ⟨r, hr, e⟩ := reach T.size h hj
  exact ⟨r, hr, e ▸ hn⟩
theorem TT.put {t : SetTable} {es : List (Int × Value)} (T : TT t es) {z : Int} {x : Value} {r k : Nat} (hk : k ≤ rl t.mask (LS t.mask z r).1) (b : Bef t.mask z (· ∈ t.place.toList) r k) (hn : Ps t.mask z r k ∉ t.place.toList) :
    TT (t.put (Ps t.mask z r k)).1 (insL (t.put (Ps t.mask z r k)).2 (z, x) es) ∧ (t.put (Ps t.mask z r k)).1.led = t.led := by
  have h1 := T.ok.put hn
  have pl : (t.put (Ps t.mask z r k)).1.place.toList = insL (t.put (Ps t.mask z r k)).2 (Ps t.mask z r k) t.place.toList := ins_toList _ _ _
  have mk : (t.put (Ps t.mask z r k)).1.mask = t.mask := rfl
  have mem : ∀ j, j ∈ t.place.toList → j ∈ (t.put (Ps t.mask z r k)).1.place.toList := fun j hj => by rw [pl]; exact insL_mem.mpr (.inr hj)
  refine ⟨⟨T.size, h1.1.up, h1.1.nd, fun j hj => ?_, ?_, fun j e he => ?_⟩, h1.2⟩
  · rw [pl] at hj
    rcases insL_mem.mp hj with q | q
    · rw [q]; exact rl_end (ls_le _ _ _) hk
    · exact T.within j q
  · rw [pl]
    have a := (insL_perm (t.put (Ps t.mask z r k)).2 (Ps t.mask z r k) t.place.toList).length_eq
    have c := (insL_perm (t.put (Ps t.mask z r k)).2 (z, x) es).length_eq
    rw [a, c, List.length_cons, List.length_cons, T.len]
  · rw [pl, insL_zip T.len] at he
    rcases insL_mem.mp he with q | q
    · cases q
      exact ⟨r, k, hk, rfl, b.mono mem⟩
    · obtain ⟨r', k', a1, a2, a3⟩ := T.fnd j e q
      exact ⟨r', k', a1, a2, a3.mono mem⟩
end My
/-! ### a set's table laid anew: nothing is lost, and all is found again -/
namespace My
open PySem PySem.SetTable
theorem perm_nodup {α : Type} [DecidableEq α] : ∀ {l m : List α}, l.Nodup → m.Nodup → (∀ x, x ∈ l ↔ x ∈ m) → l.Perm m
  | [], m, _, _, h => by
    cases m with
    | nil => exact .nil
    | cons a r => exact absurd ((h a).mpr List.mem_cons_self) (by simp)
  | a :: r, m, hl, hm, h => by
    obtain ⟨h1, h2⟩ := List.nodup_cons.mp hl
    have ha : a ∈ m := (h a).mp List.mem_cons_self
    refine List.Perm.trans (.cons a (perm_nodup h2 (hm.erase a) fun x => ?_)) (List.perm_cons_erase ha).symm
    constructor
    · intro hx
      exact (List.mem_erase_of_ne (fun (e : x = a) => h1 (by rw [← e]; exact hx))).mpr ((h x).mp (List.mem_cons_of_mem _ hx))
    · intro hx
      have hne : x ≠ a := fun e => (hm.not_mem_erase) (e ▸ hx)
      rcases List.mem_cons.mp ((h x).mpr (List.mem_of_mem_erase hx)) with z | z
      · exact absurd z hne
      · exact z
def Occ (ow : Array (Option Nat)) (j : Nat) : Prop := ∃ m, ow[j]? = some (some m)
theorem occ_getD {ow : Array (Option Nat)} {j : Nat} (hj : j < ow.size) : (ow.getD j (some 0)).isNone = true ↔ ¬ Occ ow j := by
  have e : ow[j]? = some ow[j] := Array.getElem?_eq_getElem hj
  have e2 : ow.getD j (some 0) = ow[j] := by simp [Array.getD, hj]
  rw [e2]
  unfold Occ
  rw [e]
  cases ow[j] with
  | none => simp
  | some m => simp
theorem free_at {mask : Nat} {h : Int} {ow : Array (Option Nat)} (hs : ow.size = mask + 1) (room : ∃ r, r < turns mask ∧ ¬ Occ ow (LS mask h r).1) : ∀ (fuel r : Nat), Bef mask h (Occ ow) r 0 → turns mask ≤ fuel + r →
    ∃ r1 k1, k1 ≤ rl mask (LS mask h r1).1 ∧ Bef mask h (Occ ow) r1 k1 ∧ ¬ Occ ow (Ps mask h r1 k1) ∧ layClean.free mask ow fuel (LS mask h r).1 (LS mask h r).2 = some (Ps mask h r1 k1) := by
  obtain ⟨r0, hr0, h0⟩ := room
  intro fuel
  induction fuel with
  | zero =>
    intro r b hf
    exact absurd (b.1 r0 (by omega) 0 (Nat.zero_le _)) h0
  | succ fuel ih =>
    intro r b hf
    have rn : runEnd mask (LS mask h r).1 + 1 - (LS mask h r).1 = rl mask (LS mask h r).1 + 1 := by
      unfold rl runEnd
      split <;> omega
    have inb : ∀ k, k ≤ rl mask (LS mask h r).1 → (LS mask h r).1 + k < ow.size := fun k hk => by rw [hs]; exact Nat.lt_succ_of_le (rl_end (ls_le _ _ _) hk)
    cases hf0 : (List.range (rl mask (LS mask h r).1 + 1)).find? (fun k => (ow.getD ((LS mask h r).1 + k) (some 0)).isNone) with
    | none =>
      have all := List.find?_eq_none.mp hf0
      have oc : ∀ k, k ≤ rl mask (LS mask h r).1 → Occ ow (Ps mask h r k) := fun k hk => by
        have := all k (List.mem_range.mpr (Nat.lt_succ_of_le hk))
        rw [occ_getD (inb k hk)] at this
        exact Classical.not_not.mp this
      have b' : Bef mask h (Occ ow) r (rl mask (LS mask h r).1 + 1) := ⟨b.1, fun k hk => oc k (Nat.le_of_lt_succ hk)⟩
      obtain ⟨r1, k1, a1, a2, a3, a4⟩ := ih (r + 1) b'.next (by omega)
      refine ⟨r1, k1, a1, a2, a3, ?_⟩
      unfold layClean.free
      rw [rn, hf0]
      exact a4
    | some k =>
      obtain ⟨p1, p2, p3⟩ := List.find?_range_eq_some.mp hf0
      have hk : k ≤ rl mask (LS mask h r).1 := Nat.le_of_lt_succ (List.mem_range.mp p2)
      refine ⟨r, k, hk, ⟨b.1, fun k' hk' => ?_⟩, (occ_getD (inb k hk)).mp p1, ?_⟩
      · have := p3 k' hk'
        have n : ¬ (ow.getD ((LS mask h r).1 + k') (some 0)).isNone = true := fun q => by rw [q] at this; cases this
        rw [occ_getD (inb k' (by omega))] at n
        exact Classical.not_not.mp n
      · unfold layClean.free
        rw [rn, hf0]
        rfl
/-- the slots with all of hs laid -/
structure LI (mask : Nat) (hs : List Int) (ow : Array (Option Nat)) : Prop where
  sz : ow.size = mask + 1
  at_ : ∀ (j m : Nat), ow[j]? = some (some m) → ∃ z, hs[m]? = some z ∧ ∃ r k, k ≤ rl mask (LS mask z r).1 ∧ Ps mask z r k = j ∧ Bef mask z (Occ ow) r k
  one : ∀ (j j' m : Nat), ow[j]? = some (some m) → ow[j']? = some (some m) → j = j'
  all : ∀ (m : Nat), m < hs.length → ∃ (j : Nat), ow[j]? = some (some m)
theorem LI.nil (mask : Nat) : LI mask [] (Array.replicate (mask + 1) none) := by
  have no : ∀ (j m : Nat), (Array.replicate (mask + 1) (none : Option Nat))[j]? = some (some m) → False := fun j m e => by
    rw [Array.getElem?_replicate] at e
    split at e <;> cases e
  exact ⟨by simp, fun j m e => (no j m e).elim, fun j j' m e => (no j m e).elim, fun m h => absurd h (Nat.not_lt_zero _)⟩
theorem LI.room {mask : Nat} {hs : List Int} {ow : Array (Option Nat)} (L : LI mask hs ow) (hm : Size mask) (few : hs.length ≤ mask) (z : Int) : ∃ r, r < turns mask ∧ ¬ Occ ow (LS mask z r).1 := by
  have : ∃ j, j ≤ mask ∧ ¬ Occ ow j := by
    apply Classical.byContradiction
    intro n
    have oc : ∀ (j : Nat), j < mask + 1 → ∃ m, ow[j]? = some (some m) := fun j hj => Classical.byContradiction fun y => n ⟨j, Nat.le_of_lt_succ hj, y⟩
    have nd : ((List.range (mask + 1)).map fun j => ((ow[j]?).join).getD 0).Nodup := by
      refine List.pairwise_map.mpr (List.Pairwise.imp_of_mem (fun {a b} ha hb hne e => ?_) (List.nodup_range (n := mask + 1)))
      obtain ⟨m, em⟩ := oc a (List.mem_range.mp ha)
      obtain ⟨m', em'⟩ := oc b (List.mem_range.mp hb)
      rw [em, em'] at e
      have e' : m = m' := by simpa using e
      subst e'
      exact hne (L.one a b m em em')
    have := nodup_sub_len (m := List.range hs.length) nd fun x hx => by
      obtain ⟨j, hj, ej⟩ := List.mem_map.mp hx
      obtain ⟨m, em⟩ := oc j (List.mem_range.mp hj)
      rw [em] at ej
      have : m = x := by simpa using ej
      subst this
      obtain ⟨y, hy, _⟩ := L.at_ j m em
      exact List.mem_range.mpr (List.getElem?_eq_some_iff.mp hy).1
    rw [List.length_map, List.length_range, List.length_range] at this
    omega
  obtain ⟨j, hj, hn⟩ := this
  obtain ⟨r, hr, e⟩ := reach hm z hj
  exact ⟨r, hr, e ▸ hn⟩
theorem LI.snoc {mask : Nat} {hs : List Int} {ow : Array (Option Nat)} (L : LI mask hs ow) (hm : Size mask) (few : hs.length ≤ mask) (z : Int) :
    ∃ j, layClean.free mask ow (turns mask) (bits z % (mask + 1)) (bits z) = some j ∧ LI mask (hs ++ [z]) (ow.setIfInBounds j (some hs.length)) := by
  obtain ⟨r1, k1, a1, a2, a3, a4⟩ := free_at (h := z) L.sz (L.room hm few z) (turns mask) 0 (Bef.zero _ _ _) (by omega)
  refine ⟨_, a4, ?_⟩
  have inb : Ps mask z r1 k1 < ow.size := by rw [L.sz]; exact Nat.lt_succ_of_le (rl_end (ls_le _ _ _) a1)
  have get : ∀ (j : Nat), (ow.setIfInBounds (Ps mask z r1 k1) (some hs.length))[j]? = if Ps mask z r1 k1 = j then some (some hs.length) else ow[j]? := fun j => by
    rw [Array.getElem?_setIfInBounds]
    by_cases e : Ps mask z r1 k1 = j
    · rw [if_pos e, if_pos e, if_pos inb]
    · rw [if_neg e, if_neg e]
  have mono : ∀ j, Occ ow j → Occ (ow.setIfInBounds (Ps mask z r1 k1) (some hs.length)) j := fun j ⟨m, em⟩ => by
    refine ⟨m, ?_⟩
    rw [get, if_neg (fun (e : Ps mask z r1 k1 = j) => a3 ⟨m, by rw [e]; exact em⟩)]
    exact em
  have lt : ∀ (j m : Nat), ow[j]? = some (some m) → m < hs.length := fun j m em => by
    obtain ⟨y, hy, _⟩ := L.at_ j m em
    exact (List.getElem?_eq_some_iff.mp hy).1
  refine ⟨by simp [L.sz], fun j m em => ?_, fun j j' m em em' => ?_, fun m hmm => ?_⟩
  · rw [get] at em
    by_cases e : Ps mask z r1 k1 = j
    · rw [if_pos e] at em
      have e' : hs.length = m := by simpa using em
      subst e'
      exact ⟨z, by simp, r1, k1, a1, e, a2.mono mono⟩
    · rw [if_neg e] at em
      obtain ⟨y, hy, r, k, c1, c2, c3⟩ := L.at_ j m em
      exact ⟨y, by rw [List.getElem?_append_left (lt j m em)]; exact hy, r, k, c1, c2, c3.mono mono⟩
  · rw [get] at em em'
    by_cases e : Ps mask z r1 k1 = j
    · by_cases e2 : Ps mask z r1 k1 = j'
      · exact e.symm.trans e2
      · rw [if_pos e] at em
        rw [if_neg e2] at em'
        have e' : hs.length = m := by simpa using em
        have := lt _ _ em'
        omega
    · rw [if_neg e] at em
      by_cases e2 : Ps mask z r1 k1 = j'
      · rw [if_pos e2] at em'
        have e' : hs.length = m := by simpa using em'
        have := lt _ _ em
        omega
      · rw [if_neg e2] at em'
        exact L.one j j' m em em'
  · rw [List.length_append, List.length_singleton] at hmm
    rcases Nat.lt_succ_iff_lt_or_eq.mp hmm with q | q
    · obtain ⟨j, ej⟩ := L.all m q
      refine ⟨j, ?_⟩
      rw [get, if_neg (fun (e : Ps mask z r1 k1 = j) => a3 ⟨m, by rw [e]; exact ej⟩)]
      exact ej
    · exact ⟨_, by rw [get, if_pos rfl, q]⟩
theorem lay_all {mask : Nat} (hm : Size mask) : ∀ (zs hs : List Int) (ow : Array (Option Nat)), LI mask hs ow → hs.length + zs.length ≤ mask + 1 →
    ∃ ow', (zs.foldl (fun acc z => do
      let (owner, k) ← acc
      let j ← layClean.free mask owner (turns mask) (bits z % (mask + 1)) (bits z)
      pure (owner.setIfInBounds j (some k), k + 1)) (some (ow, hs.length))).map (·.1) = some ow' ∧ LI mask (hs ++ zs) ow'
  | [], hs, ow, L, _ => ⟨ow, rfl, by rw [List.append_nil]; exact L⟩
  | z :: zs, hs, ow, L, few => by
    rw [List.length_cons] at few
    obtain ⟨j, ej, L'⟩ := L.snoc hm (by omega) z
    obtain ⟨ow', e', L2⟩ := lay_all hm zs (hs ++ [z]) _ L' (by rw [List.length_append, List.length_singleton]; omega)
    refine ⟨ow', ?_, by rw [List.append_assoc] at L2; exact L2⟩
    rw [List.foldl_cons]
    rw [List.length_append, List.length_singleton] at e'
    have : (do
      let (owner, k) ← some (ow, hs.length)
      let j ← layClean.free mask owner (turns mask) (bits z % (mask + 1)) (bits z)
      pure (owner.setIfInBounds j (some k), k + 1) : Option (Array (Option Nat) × Nat)) = some (ow.setIfInBounds j (some hs.length), hs.length + 1) := by
      show (layClean.free mask ow (turns mask) (bits z % (mask + 1)) (bits z)).bind _ = _
      rw [ej]
      rfl
    rw [this]
    exact e'
theorem clean_ok {mask : Nat} (hm : Size mask) (hs : Array Int) (few : hs.size ≤ mask + 1) : ∃ ow, layClean mask hs = some ow ∧ LI mask hs.toList ow := by
  obtain ⟨ow, e, L⟩ := lay_all hm hs.toList [] _ (LI.nil mask) (by simpa using few)
  refine ⟨ow, ?_, L⟩
  unfold layClean
  rw [← Array.foldl_toList]
  exact e
theorem laid_tt {mask : Nat} (hm : Size mask) (es : Array (Int × Value)) (few : es.size ≤ mask + 1) (fi mo : Nat) (led pl : Bool) :
    ∃ t o, laid mask fi mo led pl (es.map (·.1)) = some (t, o) ∧ t.mask = mask ∧ t.led = led ∧ TT t (o.filterMap (es[·]?)).toList ∧ (o.filterMap (es[·]?)).toList.Perm es.toList := by
  obtain ⟨ow, eo, L⟩ := clean_ok hm (es.map (·.1)) (by simpa using few)
  have hl : laid mask fi mo led pl (es.map (·.1)) = some ({ mask, place := (((List.range (mask + 1)).filterMap fun j => (ow.getD j none).map (j, ·)).map (·.1)).toArray, dummies := #[], finger := fi, led, moves := mo, plain := pl }, (((List.range (mask + 1)).filterMap fun j => (ow.getD j none).map (j, ·)).map (·.2)).toArray) := by
    unfold laid
    rw [eo]
    rfl
  have hu := (laid_ok hl).1.up
  refine ⟨_, _, hl, rfl, rfl, ?_⟩
  have mem : ∀ (p : Nat × Nat), p ∈ ((List.range (mask + 1)).filterMap fun j => (ow.getD j none).map (j, ·)) ↔ ow[p.1]? = some (some p.2) := fun p => by
    rw [List.mem_filterMap]
    constructor
    · rintro ⟨j, hj, ej⟩
      have hjs : j < ow.size := by rw [L.sz]; exact List.mem_range.mp hj
      have e2 : ow.getD j none = ow[j] := by simp [Array.getD, hjs]
      rw [e2] at ej
      rw [Option.map_eq_some_iff] at ej
      obtain ⟨m, em, rfl⟩ := ej
      rw [Array.getElem?_eq_getElem hjs, em]
    · intro e
      have hjs : p.1 < ow.size := (Array.getElem?_eq_some_iff.mp e).1
      refine ⟨p.1, List.mem_range.mpr (by rw [← L.sz]; exact hjs), ?_⟩
      have e2 : ow.getD p.1 none = some p.2 := by
        have := (Array.getElem?_eq_some_iff.mp e).2
        simp [Array.getD, hjs, this]
      rw [e2]
      rfl
  have lt : ∀ p, p ∈ ((List.range (mask + 1)).filterMap fun j => (ow.getD j none).map (j, ·)) → p.2 < es.size := fun p hp => by
    obtain ⟨z, hz, _⟩ := L.at_ _ _ ((mem p).mp hp)
    have := (List.getElem?_eq_some_iff.mp hz).1
    simpa using this
  have ndj : (((List.range (mask + 1)).filterMap fun j => (ow.getD j none).map (j, ·)).map (·.1)).Pairwise (· < ·) := hu
  generalize ((List.range (mask + 1)).filterMap fun j => (ow.getD j none).map (j, ·)) = lv at mem lt ndj hu ⊢
  have fm : ∀ l : List (Nat × Nat), (∀ p, p ∈ l → p.2 < es.size) → (l.map (·.2)).filterMap (es[·]?) = l.map fun p => es.getD p.2 (0, .none) := by
    intro l
    induction l with
    | nil => intro _; rfl
    | cons a r ih =>
      intro h
      have ha := h a List.mem_cons_self
      rw [List.map_cons, List.filterMap_cons, Array.getElem?_eq_getElem ha, List.map_cons, ih fun p hp => h p (List.mem_cons_of_mem _ hp)]
      simp [Array.getD, ha]
  have el : (((lv.map (·.2)).toArray).filterMap (es[·]?)).toList = lv.map fun p => es.getD p.2 (0, .none) := by
    rw [Array.toList_filterMap, fm lv lt]
  have occ : ∀ j, Occ ow j ↔ j ∈ lv.map (·.1) := fun j => by
    constructor
    · rintro ⟨m, em⟩
      exact List.mem_map.mpr ⟨(j, m), (mem (j, m)).mpr em, rfl⟩
    · intro hj
      obtain ⟨p, hp, rfl⟩ := List.mem_map.mp hj
      exact ⟨p.2, (mem p).mp hp⟩
  rw [el]
  refine ⟨⟨hm, hu, rfl, fun j hj => ?_, by simp, fun j e he => ?_⟩, ?_⟩
  · obtain ⟨p, hp, rfl⟩ := List.mem_map.mp (show j ∈ lv.map (·.1) from hj)
    have := (Array.getElem?_eq_some_iff.mp ((mem p).mp hp)).1
    rw [L.sz] at this
    exact Nat.le_of_lt_succ this
  · have he' : (j, e) ∈ (lv.map (·.1)).zip (lv.map fun p => es.getD p.2 (0, .none)) := he
    rw [List.zip_map'] at he'
    obtain ⟨p, hp, ep⟩ := List.mem_map.mp he'
    cases ep
    obtain ⟨z, hz, r, k, c1, c2, c3⟩ := L.at_ _ _ ((mem p).mp hp)
    have ez : z = (es.getD p.2 (0, .none)).1 := by
      have hp2 := lt p hp
      rw [Array.getElem?_toList, Array.getElem?_map, Array.getElem?_eq_getElem hp2] at hz
      have : z = es[p.2].1 := by simpa using hz.symm
      rw [this]
      simp [Array.getD, hp2]
    subst ez
    exact ⟨r, k, c1, c2, c3.mono fun j hj => (occ j).mp hj⟩
  · have nd2 : (lv.map (·.2)).Nodup := by
      refine List.pairwise_map.mpr (List.Pairwise.imp_of_mem (fun {a b} ha hb hlt e => ?_) (List.pairwise_map.mp ndj))
      have := L.one a.1 b.1 a.2 ((mem a).mp ha) (by rw [e]; exact (mem b).mp hb)
      omega
    have pm : (lv.map (·.2)).Perm (List.range es.size) := perm_nodup nd2 List.nodup_range fun m => by
      rw [List.mem_range]
      constructor
      · intro h
        obtain ⟨p, hp, rfl⟩ := List.mem_map.mp h
        exact lt p hp
      · intro h
        obtain ⟨j, ej⟩ := L.all m (by simpa using h)
        exact List.mem_map.mpr ⟨(j, m), (mem (j, m)).mpr ej, rfl⟩
    have e1 : (lv.map fun p => es.getD p.2 (0, .none)) = (lv.map (·.2)).map fun m => es.getD m (0, .none) := by rw [List.map_map]; rfl
    have e2 : es.toList = (List.range es.size).map fun m => es.getD m (0, .none) := by
      apply List.ext_getElem
      · simp
      · intro i h1 h2
        have hi : i < es.size := by simpa using h1
        simp [Array.getD, hi]
    rw [e1, e2]
    exact pm.map _
end My
/-! ### things with a hash by value: numbers, and tuples of two such -/
namespace My
open PySem PySem.Spec PyProof.Rows L2 PyProof PySem.SeqAt
/-- all tuples of h are in h' -/
def KpT (h h' : Heap) : Prop := ∀ b o xs n, h.get? b = some o → o.cls = .type "tuple" → o.data = .seq xs n → h'.get? b = some o
structure HVK (K : Type) [DecidableEq K] where
  is : Heap → K → Value → Prop
  hash : K → Int
  d : Nat
  inj : ∀ {h : Heap} {x y : K} {v : Value}, is h x v → is h y v → x = y
  keep : ∀ {h h' : Heap} {k : K} {v : Value}, is h k v → KpT h h' → is h' k v
  pyHash : ∀ {prog : Program} {w : World} {A : Around} {E : Value → Shared → Prop} {s : Shared} {k : K} {v : Value} {Q : Int → Shared → Prop}, A.units + d < cLine → is s.heap k v → (∀ tk, Q (hash k) { s with toks := tk }) → wpAny (model prog w) A (PySem.pyHash v) Q E s
  eq : ∀ {A : Around} {s : Shared} {x y : K} {u v : Value}, A.units + d < cLine → is s.heap x u → is s.heap y v → EqAt A s u v (decide (x = y))
  quiet : ∀ {prog : Program} {w : World} {A : Around} {E : Value → Shared → Prop} {s : Shared} {k : K} {v : Value} {Q : Bool → Shared → Prop} (n : Nat), d ≤ n → is s.heap k v → Q true s → wpAny (model prog w) A (eqIsQuiet n v) Q E s
  cls : ∀ {prog : Program} {w : World} {A : Around} {E : Value → Shared → Prop} {s : Shared} {k : K} {v : Value} {Q : Bool → Shared → Prop} (n : Nat), d ≤ n → is s.heap k v → Q false s → wpAny (model prog w) A (ofAClassStatement n v) Q E s
  byv : ∀ {prog : Program} {w : World} {A : Around} {E : Value → Shared → Prop} {s : Shared} {k : K} {v : Value} {Q : Bool → Shared → Prop} (n : Nat), d ≤ n → is s.heap k v → Q true s → wpAny (model prog w) A (hashByValue n v) Q E s
def HVK.int : HVK Int where
  is := fun _ k v => ∃ t, v = .int k t
  hash := hashInt
  d := 0
  inj := fun ⟨t, e⟩ ⟨t', e'⟩ => by subst e; cases e'; rfl
  keep := fun x _ => x
  pyHash := fun _ ⟨t, e⟩ h => by subst e; exact wpAny_pyHash_int (h _)
  eq := fun _ ⟨t, e⟩ ⟨t', e'⟩ prog w E Q h => by subst e; subst e'; exact wpAny_eqBool_int h
  quiet := fun n _ ⟨t, e⟩ h => by
    subst e
    rw [eqIsQuiet_byValue n rfl]
    exact wpAny_pure h
  cls := fun n _ ⟨t, e⟩ h => by
    subst e
    unfold ofAClassStatement
    exact wpAny_pure h
  byv := fun n _ ⟨t, e⟩ h => by
    subst e
    unfold hashByValue
    exact wpAny_pure h
section
variable {K L : Type} [DecidableEq K] [DecidableEq L]
def TupOf (h : Heap) (v u u' : Value) : Prop := ∃ a o n, v = .ref a ∧ h.get? a = some o ∧ o.cls = .type "tuple" ∧ o.data = .seq #[u, u'] n
theorem HVK.pair_hash (V : HVK K) (W : HVK L) {prog : Program} {w : World} {A : Around} {E : Value → Shared → Prop} {s : Shared} {x : K} {y : L} {v u u' : Value} {Q : Int → Shared → Prop} (hu : A.units + (max V.d W.d + 1) < cLine) (T : TupOf s.heap v u u') (hx : V.is s.heap x u) (hy : W.is s.heap y u')
    (h : ∀ tk, Q (reduceHash (Builtin.Tuple.tupleHashOf [V.hash x, W.hash y])) { s with toks := tk }) : wpAny (model prog w) A (PySem.pyHash v) Q E s := by
  obtain ⟨a, o, n, rfl, ho, hc, hd⟩ := T
  have hT : s.TypeIs (.ref a) "tuple" := ⟨o, ho, hc⟩
  have h1 : A.in1.units + V.d < cLine := by show A.units + 1 + V.d < cLine; have := Nat.le_max_left V.d W.d; omega
  have h2 : A.in1.units + W.d < cLine := by show A.units + 1 + W.d < cLine; have := Nat.le_max_right V.d W.d; omega
  unfold PySem.pyHash
  unfold pyHashByItsType; refine wpAny_bind (wpAny_cRoomFor_or (.inr (show A.units < cLine by omega)) (wpAny_bind (wpAny_specialOf hT PySem.F.slot_tuple_hash.lookup ?_)))
  rw [if_neg (show ¬ (some (Value.builtin "tuple.__hash__") == some Value.none) = true by rw [beq_builtin_none]; exact Bool.false_ne_true)]
  refine wpAny_bind (wpAny_specialOf hT PySem.F.slot_tuple_hash.lookup ?_)
  show wpAny _ _ (callSpecialIfBoundUnlessNone? (.ref a) (Str.ofString "__hash__") _ >>= _) _ _ _
  refine wpAny_bind (wpAny_callSpecialIfBoundUnlessNone?_slot hT PySem.F.slot_tuple_hash (wpAny_call_entry PySem.F.slot_tuple_hash hT PySem.F.entry_tuple_hash ?_ (PySem.F.args_tuple_hash_1 _)))
  show wpAny _ _ (Builtin.Tuple.tupleItemsOf (.ref a) >>= fun its => _) _ _ _
  refine wpAny_bind (wpAny_tupleItemsOf ho hd (wpAny_bind ?_))
  rw [← Array.forIn_toList, show (#[u, u'] : Array Value).toList = [u, u'] from rfl, List.forIn_cons]
  refine wpAny_bind (wpAny_bind (V.pyHash h1 hx fun tk1 => wpAny_pure ?_))
  show wpAny _ _ (forIn [u'] _ _) _ _ _
  rw [List.forIn_cons]
  refine wpAny_bind (wpAny_bind (W.pyHash h2 hy fun tk2 => wpAny_pure ?_))
  refine wpAny_pure (show wpAny _ _ (retInt (Builtin.Tuple.tupleHashOf [V.hash x, W.hash y])) _ _ _ from ?_)
  refine wpAny_ret_mkInt (show wpAny _ _ (if (decide (-(2 : Int) ^ 63 ≤ Builtin.Tuple.tupleHashOf [V.hash x, W.hash y]) && decide (Builtin.Tuple.tupleHashOf [V.hash x, W.hash y] < 2 ^ 63)) = true then _ else _) Q E _ from ?_)
  unfold reduceHash at h
  by_cases hr : (decide (-(2 : Int) ^ 63 ≤ Builtin.Tuple.tupleHashOf [V.hash x, W.hash y]) && decide (Builtin.Tuple.tupleHashOf [V.hash x, W.hash y] < 2 ^ 63)) = true
  · rw [if_pos hr] at h ⊢; exact wpAny_pure (h _)
  · rw [if_neg hr] at h ⊢; exact wpAny_bind (wpAny_rule (wpAny_pure (h _)))
theorem HVK.pair_eq (V : HVK K) (W : HVK L) {A : Around} {s : Shared} {x x' : K} {y y' : L} {v v' u1 u2 u1' u2' : Value} (hu : A.units + (max V.d W.d + 1) < cLine) (T : TupOf s.heap v u1 u2) (T' : TupOf s.heap v' u1' u2') (hx : V.is s.heap x u1) (hy : W.is s.heap y u2) (hx' : V.is s.heap x' u1') (hy' : W.is s.heap y' u2') :
    EqAt A s v v' (decide ((x, y) = (x', y'))) := by
  obtain ⟨a, o, n, rfl, ho, hc, hd⟩ := T
  obtain ⟨a', o', n', rfl, ho', hc', hd'⟩ := T'
  have h1 : A.in1.units + V.d < cLine := by show A.units + 1 + V.d < cLine; have := Nat.le_max_left V.d W.d; omega
  have h2 : A.in1.units + W.d < cLine := by show A.units + 1 + W.d < cLine; have := Nat.le_max_right V.d W.d; omega
  by_cases haa : a = a'
  · subst haa
    obtain rfl : o = o' := Option.some.inj (ho.symm.trans ho')
    rw [hd] at hd'
    injection hd' with e _
    obtain ⟨e1, e2⟩ : u1 = u1' ∧ u2 = u2' := by simpa using e
    subst e1; subst e2
    rw [V.inj hx hx', W.inj hy hy', decide_eq_true rfl]
    exact EqAt.same _
  · have key := RcAt.tuples (A := A) (s := s) (e := fun j => if j = 0 then decide (x = x') else decide (y = y')) ⟨o, ho, hc, n, hd⟩ ⟨o', ho', hc', n', hd'⟩ (by omega) fun j j1 j2 => by
      have : j = 0 ∨ j = 1 := by have : j < 2 := j1; omega
      rcases this with rfl | rfl
      · exact V.eq h1 hx hx'
      · exact W.eq h2 hy hy'
    have e : ((List.range (min (#[u1, u2] : Array Value).size (#[u1', u2'] : Array Value).size)).all (fun j => if j = 0 then decide (x = x') else decide (y = y')) && ((#[u1, u2] : Array Value).size == (#[u1', u2'] : Array Value).size)) = decide ((x, y) = (x', y')) := by
      show ((List.range 2).all _ && true) = _
      rw [show List.range 2 = [0, 1] from rfl]
      simp [Bool.decide_and]
    rw [e] at key
    exact EqAt.of_refs haa key
theorem HVK.pair_quiet (V : HVK K) (W : HVK L) {prog : Program} {w : World} {A : Around} {E : Value → Shared → Prop} {s : Shared} {x : K} {y : L} {v u u' : Value} {Q : Bool → Shared → Prop} (n : Nat) (hn : max V.d W.d + 1 ≤ n) (T : TupOf s.heap v u u') (hx : V.is s.heap x u) (hy : W.is s.heap y u') (h : Q true s) : wpAny (model prog w) A (eqIsQuiet n v) Q E s := by
  obtain ⟨a, o, c, rfl, ho, hc, hd⟩ := T
  have hT : s.TypeIs (.ref a) "tuple" := ⟨o, ho, hc⟩
  obtain ⟨m, rfl⟩ : ∃ m, n = m + 1 := ⟨n - 1, by omega⟩
  have h1 : V.d ≤ m := by have := Nat.le_max_left V.d W.d; omega
  have h2 : W.d ≤ m := by have := Nat.le_max_right V.d W.d; omega
  unfold eqIsQuiet
  refine wpAny_bind (wpAny_specialOf hT PySem.F.slot_tuple_eq.lookup (show wpAny _ _ (isInstance (.ref a) (.type "tuple") >>= fun _ => _) _ _ _ from wpAny_bind (wpAny_isInstance hT isSubtype_tuple_tuple ?_)))
  simp only [Bool.not_true, Bool.false_eq_true, if_false]; refine wpAny_bind (wpAny_seqItems ho hd (wpAny_bind ?_))
  show wpAny _ _ (forIn (#[u, u'] : Array Value) _ _) _ _ _
  rw [← Array.forIn_toList, show (#[u, u'] : Array Value).toList = [u, u'] from rfl, List.forIn_cons]
  refine wpAny_bind (wpAny_bind (V.quiet m h1 hx (wpAny_pure ?_)))
  show wpAny _ _ (forIn [u'] _ _) _ _ _
  rw [List.forIn_cons]
  exact wpAny_bind (wpAny_bind (W.quiet m h2 hy (wpAny_pure (wpAny_pure (wpAny_pure h)))))
theorem HVK.pair_cls (V : HVK K) (W : HVK L) {prog : Program} {w : World} {A : Around} {E : Value → Shared → Prop} {s : Shared} {x : K} {y : L} {v u u' : Value} {Q : Bool → Shared → Prop} (n : Nat) (hn : max V.d W.d + 1 ≤ n) (T : TupOf s.heap v u u') (hx : V.is s.heap x u) (hy : W.is s.heap y u') (h : Q false s) : wpAny (model prog w) A (ofAClassStatement n v) Q E s := by
  obtain ⟨a, o, c, rfl, ho, hc, hd⟩ := T
  have hT : s.TypeIs (.ref a) "tuple" := ⟨o, ho, hc⟩
  obtain ⟨m, rfl⟩ : ∃ m, n = m + 1 := ⟨n - 1, by omega⟩
  have h1 : V.d ≤ m := by have := Nat.le_max_left V.d W.d; omega
  have h2 : W.d ≤ m := by have := Nat.le_max_right V.d W.d; omega
  unfold ofAClassStatement
  refine wpAny_bind (wpAny_typeOf hT ?_)
  refine wpAny_bind (wpAny_pure (show wpAny _ _ (seqItems? (.ref a) >>= fun _ => _) _ _ _ from wpAny_bind (wpAny_seqItems ho hd (wpAny_bind ?_))))
  show wpAny _ _ (forIn (#[u, u'] : Array Value) _ _) _ _ _
  rw [← Array.forIn_toList, show (#[u, u'] : Array Value).toList = [u, u'] from rfl, List.forIn_cons]
  refine wpAny_bind (wpAny_bind (V.cls m h1 hx (wpAny_pure ?_)))
  show wpAny _ _ (forIn [u'] _ _) _ _ _
  rw [List.forIn_cons]
  exact wpAny_bind (wpAny_bind (W.cls m h2 hy (wpAny_pure (wpAny_pure (wpAny_pure h)))))
theorem HVK.pair_byv (V : HVK K) (W : HVK L) {prog : Program} {w : World} {A : Around} {E : Value → Shared → Prop} {s : Shared} {x : K} {y : L} {v u u' : Value} {Q : Bool → Shared → Prop} (n : Nat) (hn : max V.d W.d + 1 ≤ n) (T : TupOf s.heap v u u') (hx : V.is s.heap x u) (hy : W.is s.heap y u') (h : Q true s) : wpAny (model prog w) A (hashByValue n v) Q E s := by
  obtain ⟨a, o, c, rfl, ho, hc, hd⟩ := T
  have hT : s.TypeIs (.ref a) "tuple" := ⟨o, ho, hc⟩
  obtain ⟨m, rfl⟩ : ∃ m, n = m + 1 := ⟨n - 1, by omega⟩
  have h1 : V.d ≤ m := by have := Nat.le_max_left V.d W.d; omega
  have h2 : W.d ≤ m := by have := Nat.le_max_right V.d W.d; omega
  unfold hashByValue
  refine wpAny_bind (wpAny_specialOf hT PySem.F.slot_tuple_hash.lookup (show wpAny _ _ (seqItems? (.ref a) >>= fun _ => _) _ _ _ from wpAny_bind (wpAny_seqItems ho hd (wpAny_bind ?_))))
  show wpAny _ _ (forIn (#[u, u'] : Array Value) _ _) _ _ _
  rw [← Array.forIn_toList, show (#[u, u'] : Array Value).toList = [u, u'] from rfl, List.forIn_cons]
  refine wpAny_bind (wpAny_bind (V.byv m h1 hx (wpAny_pure ?_)))
  show wpAny _ _ (forIn [u'] _ _) _ _ _
  rw [List.forIn_cons]
  exact wpAny_bind (wpAny_bind (W.byv m h2 hy (wpAny_pure (wpAny_pure (wpAny_pure h)))))
def HVK.pair (V : HVK K) (W : HVK L) : HVK (K × L) where
  is := fun h k v => ∃ u u', TupOf h v u u' ∧ V.is h k.1 u ∧ W.is h k.2 u'
  hash := fun k => reduceHash (Builtin.Tuple.tupleHashOf [V.hash k.1, W.hash k.2])
  d := max V.d W.d + 1
  inj := fun {h x y v} ⟨u, u', ⟨a, o, n, e, ho, hc, hd⟩, hx, hy⟩ ⟨z, z', ⟨a', o', n', e', ho', hc', hd'⟩, hx', hy'⟩ => by
    subst e
    cases e'
    obtain rfl : o = o' := Option.some.inj (ho.symm.trans ho')
    rw [hd] at hd'
    injection hd' with e _
    obtain ⟨e1, e2⟩ : u = z ∧ u' = z' := by simpa using e
    subst e1; subst e2
    exact Prod.ext (V.inj hx hx') (W.inj hy hy')
  keep := fun {h h' k v} ⟨u, u', ⟨a, o, n, e, ho, hc, hd⟩, hx, hy⟩ kp => ⟨u, u', ⟨a, o, n, e, kp a o _ _ ho hc hd, hc, hd⟩, V.keep hx kp, W.keep hy kp⟩
  pyHash := fun hu ⟨_, _, T, hx, hy⟩ h => V.pair_hash W hu T hx hy h
  eq := fun {_ _ x y _ _} hu ⟨_, _, T, hx, hy⟩ ⟨_, _, T', hx', hy'⟩ => V.pair_eq W hu T T' hx hy hx' hy'
  quiet := fun n hn ⟨_, _, T, hx, hy⟩ h => V.pair_quiet W n hn T hx hy h
  cls := fun n hn ⟨_, _, T, hx, hy⟩ h => V.pair_cls W n hn T hx hy h
  byv := fun n hn ⟨_, _, T, hx, hy⟩ h => V.pair_byv W n hn T hx hy h
end
end My
/-! ### a set of things with a hash by value, none of them a plain value: one put in -/
namespace My
open PySem PySem.Spec PyProof.Rows L2 PyProof PySem.SeqAt PySem.SetTable
section
variable {K : Type} [DecidableEq K]
/-- the set at a holds just ks, in some order; its things are some of us, with the keys that kf tells -/
def SetV (V : HVK K) (kf : Value → K) (us : List Value) (h : Heap) (a : Addr) (ks : List K) (led : Bool) : Prop :=
  ∃ o es ep t, h.get? a = some o ∧ o.ExactSet ∧ o.data = .set es ep t ∧ TT t es.toList ∧ t.led = led ∧ 5 * es.size < 3 * t.mask ∧ (∀ e ∈ es.toList, e.2 ∈ us ∧ e.1 = V.hash (kf e.2)) ∧ (es.toList.map fun e => kf e.2).Perm ks
theorem TT.fits {t : SetTable} {es : Array (Int × Value)} (T : TT t es.toList) (few : es.size ≤ t.mask) : t.fits es.size = true := by
  have e : t.place.size = es.size := by have := T.len; simpa using this
  unfold SetTable.fits SetTable.fill
  rw [T.nd, e]
  simp [few]
variable {prog : Program} {w : World} {A : Around} {E : Value → Shared → Prop} {s : Shared} {V : HVK K} {kf : Value → K} {us : List Value}
theorem seen_V {Q : Bool → Shared → Prop} (hd : V.d ≤ 8) (hk : ∀ u ∈ us, V.is s.heap (kf u) u) {x : Value} (hx : x ∈ us) (ys : List Value) (hy : ∀ y ∈ ys, y ∈ us) (h : Q false s) : wpAny (model prog w) A (searchCouldBeSeen x ys) Q E s := by
  unfold searchCouldBeSeen
  refine wpAny_bind ?_
  refine wpAny_forIn_list _ (fun rest r s' => r.1 = none ∧ s' = s ∧ ∀ y ∈ rest, y ∈ us) _ ?_ ?_ _ _ ⟨rfl, rfl, hy⟩
  · rintro y rest r s' ⟨hr, rfl, hall⟩
    have hyu := hall y List.mem_cons_self
    have fin : ForInStep.yield ((none, ()) : Option Bool × Unit) = .yield (none, ()) := rfl
    refine wpAny_ite_split (fun _ => wpAny_pure ⟨rfl, rfl, fun z hz => hall z (List.mem_cons_of_mem _ hz)⟩) fun _ => ?_
    refine wpAny_bind (V.quiet 8 hd (hk x hx) ?_)
    refine wpAny_ite_split (fun z => absurd z (by decide)) fun _ => wpAny_bind (V.quiet 8 hd (hk y hyu) ?_)
    refine wpAny_ite_split (fun z => absurd z (by decide)) fun _ => wpAny_bind (V.cls 8 hd (hk x hx) ?_)
    refine wpAny_ite_split (fun z => absurd z (by decide)) fun _ => wpAny_bind (V.cls 8 hd (hk y hyu) ?_)
    exact wpAny_ite_split (fun z => absurd z (by decide)) fun _ => wpAny_pure ⟨rfl, rfl, fun z hz => hall z (List.mem_cons_of_mem _ hz)⟩
  · rintro ⟨r1, r2⟩ s' ⟨hr, rfl, _⟩
    simp only at hr
    subst hr
    exact wpAny_pure h
theorem search_V {Q : SetFound → Shared → Prop} {a : Addr} {o : Obj} {es : Array (Int × Value)} {ep : Nat} {t : SetTable} (hd : V.d ≤ 8) (hu : A.units + V.d < cLine) (nr : ∀ u ∈ us, ∃ b, u = .ref b) (hk : ∀ u ∈ us, V.is s.heap (kf u) u) {x : Value} (hx : x ∈ us)
    (ho : s.heap.get? a = some o) (hdt : o.data = .set es ep t) (T : TT t es.toList) (few : es.size ≤ t.mask) (hel : ∀ e ∈ es.toList, e.2 ∈ us ∧ e.1 = V.hash (kf e.2))
    (hQ1 : (∃ e ∈ es.toList, kf e.2 = kf x) → Q (.there none) s)
    (hQ2 : ∀ r1 k1, k1 ≤ rl t.mask (LS t.mask (V.hash (kf x)) r1).1 → Bef t.mask (V.hash (kf x)) (fun j => ∃ (i : Nat) (e : Int × Value), t.place[i]? = some j ∧ es[i]? = some e ∧ kf e.2 ≠ kf x) r1 k1 → Ps t.mask (V.hash (kf x)) r1 k1 ∉ t.place.toList → Q (.free (Ps t.mask (V.hash (kf x)) r1 k1) false) s) :
    ∀ (F r k : Nat) (stand : Option Probe), stand.getD (t.probeStart (V.hash (kf x))) = Pb t.mask (V.hash (kf x)) r k → k ≤ rl t.mask (LS t.mask (V.hash (kf x)) r).1 →
      Bef t.mask (V.hash (kf x)) (fun j => ∃ (i : Nat) (e : Int × Value), t.place[i]? = some j ∧ es[i]? = some e ∧ kf e.2 ≠ kf x) r k → 10 * turns t.mask < F + (10 * r + k) →
      wpAny (model prog w) A (setSearchFrom a x (V.hash (kf x)) true F stand) Q E s := by
  have hf := T.fits few
  have psz : t.place.size = es.size := by have := T.len; simpa using this
  have live : ∀ j, (∃ (i : Nat) (e : Int × Value), t.place[i]? = some j ∧ es[i]? = some e ∧ kf e.2 ≠ kf x) → j ∈ t.place.toList := fun j ⟨i, e, h1, _⟩ => List.mem_of_getElem? (by rw [Array.getElem?_toList]; exact h1)
  have room := T.room (V.hash (kf x)) (by simpa using few)
  have far : ∀ {r k : Nat}, Bef t.mask (V.hash (kf x)) (fun j => ∃ (i : Nat) (e : Int × Value), t.place[i]? = some j ∧ es[i]? = some e ∧ kf e.2 ≠ kf x) r k → k ≤ rl t.mask (LS t.mask (V.hash (kf x)) r).1 → 10 * r + k < 10 * turns t.mask := fun {r k} b hk => by
    obtain ⟨r0, h0, h1⟩ := room
    have := rl_le t.mask (LS t.mask (V.hash (kf x)) r).1
    by_cases z : r ≤ r0
    · omega
    · exact absurd (live _ (b.1 r0 (by omega) 0 (Nat.zero_le _))) h1
  intro F
  induction F with
  | zero =>
    intro r k st hs hkk b hF
    have := far b hkk
    omega
  | succ F ih =>
    intro r k st hs hkk b hF
    unfold setSearchFrom
    refine wpAny_bind (wpAny_setState_of ho hdt hf ?_)
    dsimp only
    have odd : t.gaveWay = false := by
      unfold SetTable.gaveWay
      rcases T.size with e | e | e <;> rw [e] <;> rfl
    rw [odd, if_neg Bool.false_ne_true, hs]
    have at_ : ∀ {i : Nat} {j : Nat}, t.place[i]? = some j → ∃ e, es[i]? = some e := fun {i j} hi => by
      have := (Array.getElem?_eq_some_iff.mp hi).1
      exact ⟨es[i]'(by omega), Array.getElem?_eq_getElem (by omega)⟩
    have key := fun (sf : Nat → Int) (hsf : ∀ (i : Nat) (e : Int × Value), es[i]? = some e → sf i = e.1) => go_met T.up T.nd (f := sf) (h := V.hash (kf x)) live (fun i j hi hne => by
      obtain ⟨e, he⟩ := at_ hi
      refine ⟨i, e, hi, he, fun z => hne ?_⟩
      rw [hsf i e he, (hel e (List.mem_of_getElem? (by rw [Array.getElem?_toList]; exact he))).2, z]) room (10 * turns t.mask) r k hkk b (by omega)
    obtain ⟨r1, k1, hk1, b1, hle, hm⟩ := key _ (fun i e he => show (es[i]?.map (·.1)).getD 0 = e.1 by rw [he]; rfl)
    generalize hpr : t.probe _ (V.hash (kf x)) (Pb t.mask (V.hash (kf x)) r k) = pr
    rcases hm with ⟨hn, em⟩ | ⟨i, hi, hfi, em⟩
    · rw [hpr.symm.trans em]
      exact wpAny_pure (hQ2 r1 k1 hk1 b1 hn)
    · rw [hpr.symm.trans em]
      obtain ⟨e, he⟩ := at_ hi
      have hem := List.mem_of_getElem? (show es.toList[i]? = some e by rw [Array.getElem?_toList]; exact he)
      obtain ⟨he1, he2⟩ := hel e hem
      obtain ⟨yb, hyb⟩ := nr _ he1
      have hys : ∀ y ∈ ((es.filter (·.1 == V.hash (kf x))).toList.map (·.2)), y ∈ us := fun y hy => by
        obtain ⟨e', he', rfl⟩ := List.mem_map.mp hy
        exact (hel e' (Array.mem_toList_iff.mpr (Array.mem_filter.mp (Array.mem_toList_iff.mp he')).1)).1
      dsimp only
      refine wpAny_ite_split (fun _ => wpAny_bind (seen_V hd hk hx _ hys ?_)) fun _ => ?_
      rw [if_neg Bool.false_ne_true]
      all_goals
        rw [he]
        refine wpAny_bind (wpAny_holding (V.eq hu (hk _ he1) (hk _ hx) prog w E _ ?_))
        refine wpAny_bind (wpAny_setState_of ho hdt hf ?_)
        dsimp only
        by_cases heq : kf e.2 = kf x
        · rw [if_pos (by simp [heq])]
          exact wpAny_pure (hQ1 ⟨e, hem, heq⟩)
        · rw [if_neg (by simp [heq])]
          have sm : t.sameMemory t.moves t.mask = some true := by unfold SetTable.sameMemory; rw [if_pos (by simp)]
          rw [sm]
          dsimp only
          rw [if_pos rfl, slot_live T.up hi]
          dsimp only
          rw [he]
          dsimp only
          rw [hyb]
          refine wpAny_bind (wpAny_isSame_ref_self (wpAny_bind (wpAny_pure ?_)))
          rw [if_pos rfl]
          dsimp only
          rw [← hyb, if_neg (by simp [heq])]
          obtain ⟨r', k', ea, hk', b', lt⟩ := pb_step hk1 b1 ⟨i, e, hi, he, heq⟩
          rw [ea]
          exact ih r' k' (some (Pb t.mask (V.hash (kf x)) r' k')) rfl hk' b' (by omega)
end
end My
/-! ### a set of things with a hash by value: one put in, the table laid anew where it is full -/
namespace My
open PySem PySem.Spec PyProof.Rows L2 PyProof PySem.SeqAt PySem.SetTable
section
variable {K : Type} [DecidableEq K]
def ddk (ks : List K) (n : K) : List K := if n ∈ ks then ks else ks ++ [n]
variable {prog : Program} {w : World} {A : Around} {E : Value → Shared → Prop} {s : Shared} {V : HVK K} {kf : Value → K} {us : List Value}
theorem relay_V {Q : Unit → Shared → Prop} {a : Addr} {o : Obj} {es : Array (Int × Value)} {ep : Nat} {t : SetTable} (ho : s.heap.get? a = some o) (hdt : o.data = .set es ep t) (hf : t.fits es.size = true) (wn mask : Nat) (hm : sizeAbove wn = mask + 1) (hz : Size mask) (few : es.size ≤ mask + 1)
    (h : ∀ es' t', t'.mask = mask → t'.led = t.led → TT t' es'.toList → es'.toList.Perm es.toList → Q () { s with heap := s.heap.update a (Obj.putSet es' t') }) : wpAny (model prog w) A (setRelay a wn) Q E s := by
  unfold setRelay
  refine wpAny_bind (wpAny_setState_of ho hdt hf ?_)
  dsimp only
  have hs : ¬ SetTable.sizeAbove wn > sizeLine := by
    rw [hm]
    rcases hz with e | e | e <;> rw [e] <;> decide
  rw [if_neg hs]
  obtain ⟨t', od, el, e1, e2, T', pm⟩ := laid_tt hz es few t.finger (t.movedTo mask) t.led t.plain
  have sz : (od.filterMap (es[·]?)).size = es.size := by have := pm.length_eq; rwa [Array.length_toList, Array.length_toList] at this
  have er : t.relaid (es.map (·.1)) wn = some (t', od) := by
    unfold SetTable.relaid
    rw [hm]
    exact el
  rw [er]
  refine wpAny_bind (show wpAny _ _ (if ((od.filterMap (es[·]?)).size != es.size) = true then _ else _) _ _ _ from ?_)
  rw [sz, if_neg (by simp)]
  refine wpAny_pure ?_
  dsimp only
  exact wpAny_storeSet_of ho hdt (h _ t' e1 e2 T' pm) (by rw [sz]; rcases hz with e | e | e <;> rw [e] at few <;> exact Nat.le_trans few (by decide))
theorem add_V {Q : Bool → Shared → Prop} {a : Addr} {ks : List K} {led : Bool} {x : Value} (hd : V.d ≤ 8) (hu : A.units + V.d < cLine) (nr : ∀ u ∈ us, ∃ b, u = .ref b) (hk : ∀ u ∈ us, V.is s.heap (kf u) u) (hx : x ∈ us)
    (hS : SetV V kf us s.heap a ks led) (few : ks.length ≤ 63) (h : ∀ b h', Heap.SameBut a s.heap h' → SetV V kf us h' a (ddk ks (kf x)) led → Q b { s with heap := h' }) : wpAny (model prog w) A (setAddHashed a x (V.hash (kf x))) Q E s := by
  obtain ⟨o, es, ep, t, ho, hex, hdt, T, hled, full, hel, hp⟩ := id hS
  obtain ⟨xb, hxb⟩ := nr x hx
  have hsz : es.size = ks.length := by rw [← Array.length_toList, ← List.length_map (f := fun e : Int × Value => kf e.2), hp.length_eq]
  have hlm : es.size ≤ t.mask := by rcases T.size with e | e | e <;> rw [e] at full ⊢ <;> omega
  have hf := T.fits hlm
  have es0 : s = { s with heap := s.heap } := by cases s; rfl
  unfold setAddHashed setAddHashedIn
  refine wpAny_holding (wpAny_bind (wpAny_setState_of ho hdt hf ?_))
  dsimp only
  rw [show byScan x es = false by rw [hxb]; rfl, if_neg Bool.false_ne_true]
  unfold setSearch
  refine wpAny_bind (search_V hd hu nr hk hx ho hdt T hlm hel ?q1 ?q2 100000 0 0 none (pb_start t _) (Nat.zero_le _) (Bef.zero _ _ _) ?q3)
  case q1 =>
    rintro ⟨e, he, ek⟩
    have hin : kf x ∈ ks := hp.mem_iff.mp (List.mem_map.mpr ⟨e, he, ek⟩)
    refine wpAny_pure ?_
    rw [es0]
    refine h _ s.heap (Heap.SameBut.refl a s.heap) ?_
    unfold ddk
    rw [if_pos hin]
    exact hS
  case q2 =>
    intro r1 k1 hk1 b1 hn
    have hnin : kf x ∉ ks := fun z => by
      obtain ⟨e, he, ek⟩ := List.mem_map.mp (hp.mem_iff.mpr z)
      obtain ⟨i, hi⟩ := List.mem_iff_getElem?.mp he
      have hil : i < t.place.toList.length := by rw [T.len]; exact (List.getElem?_eq_some_iff.mp hi).1
      have hj : t.place.toList[i]? = some (t.place.toList[i]) := List.getElem?_eq_getElem hil
      have hz : (t.place.toList[i], e) ∈ t.place.toList.zip es.toList := List.mem_of_getElem? (i := i) (by rw [List.getElem?_zip_eq_some]; exact ⟨hj, hi⟩)
      obtain ⟨r, k, c1, c2, c3⟩ := T.fnd _ _ hz
      rw [(hel e he).2, ek] at c1 c2 c3
      rcases bef_cmp b1 c3 hk1 c1 with q | ⟨q1, q2⟩ | q
      · obtain ⟨i', e', h1, h2, h3⟩ := q
        rw [c2] at h1
        have hil' : i' < t.place.size := (Array.getElem?_eq_some_iff.mp h1).1
        have ei : i' = i := by
          rw [Array.getElem?_toList] at hj
          by_cases lt : i' < i
          · have := T.up.lt lt h1 hj; omega
          · by_cases gt : i < i'
            · have := T.up.lt gt hj h1; omega
            · omega
        subst ei
        rw [Array.getElem?_toList] at hi
        rw [hi] at h2
        cases h2
        exact h3 ek
      · subst q1; subst q2
        rw [c2] at hn
        exact hn (List.getElem_mem hil)
      · exact hn q
    have hdd : ddk ks (kf x) = ks ++ [kf x] := by unfold ddk; rw [if_neg hnin]
    rw [hdd] at h
    have b2 : Bef t.mask (V.hash (kf x)) (· ∈ t.place.toList) r1 k1 := b1.mono fun j ⟨i, e, h1, _⟩ => List.mem_of_getElem? (by rw [Array.getElem?_toList]; exact h1)
    obtain ⟨T1, l1⟩ := T.put (x := x) hk1 b2 hn
    dsimp only
    refine wpAny_bind (wpAny_setState_of ho hdt hf ?_)
    dsimp only
    have mk : (t.put (Ps t.mask (V.hash (kf x)) r1 k1)).1.mask = t.mask := rfl
    generalize t.put (Ps t.mask (V.hash (kf x)) r1 k1) = tp at T1 l1 mk ⊢
    obtain ⟨t1, p⟩ := tp
    dsimp only at T1 l1 mk ⊢
    have el1 : (insertAt es p (V.hash (kf x), x)).toList = insL p (V.hash (kf x), x) es.toList := ins_toList _ _ _
    rw [← el1] at T1
    have pm1 : (insertAt es p (V.hash (kf x), x)).toList.Perm ((V.hash (kf x), x) :: es.toList) := by rw [el1]; exact insL_perm _ _ _
    have sz1 : (insertAt es p (V.hash (kf x), x)).size = es.size + 1 := by have := pm1.length_eq; simpa using this
    generalize insertAt es p (V.hash (kf x), x) = es1 at T1 pm1 sz1 ⊢
    have hel1 : ∀ e ∈ es1.toList, e.2 ∈ us ∧ e.1 = V.hash (kf e.2) := fun e he => by
      rcases List.mem_cons.mp (pm1.mem_iff.mp he) with z | z
      · rw [z]; exact ⟨hx, rfl⟩
      · exact hel e z
    have hp1 : (es1.toList.map fun e => kf e.2).Perm (ks ++ [kf x]) := (pm1.map _).trans ((List.Perm.cons _ hp).trans (List.perm_append_singleton _ _).symm)
    have tail : ∀ (t2 : SetTable), TT t2 es1.toList → t2.led = led → t2.mask = t.mask → wpAny (model prog w) A (do
        storeSet a es1 t2
        if (!false && t2.tooFull) = true then do
            setRelay a (SetTable.grown (es.size + 1))
            pure true
          else pure true) Q E s := fun t2 T2 le2 m2 => by
      have f2 : es1.size ≤ t2.mask := by
        rw [sz1, m2]
        rcases T.size with e | e | e <;> rw [e] at full ⊢ <;> omega
      have fl : t2.fill = es1.size := by
        unfold SetTable.fill
        rw [T2.nd]
        have := T2.len
        simpa using this
      have g1 := stored_g ho hdt es1 t2
      have sb1 := Heap.SameBut.update s.heap a (Obj.putSet es1 t2)
      refine wpAny_bind (wpAny_storeSet_of ho hdt ?_ (by rw [sz1, hsz]; exact Nat.le_trans (Nat.succ_le_succ few) (by decide)))
      by_cases tf : t2.tooFull = true
      · rw [if_pos (by simp [tf])]
        have tf' : 5 * (es.size + 1) ≥ 3 * t.mask := by
          unfold SetTable.tooFull at tf
          rw [fl, sz1, m2] at tf
          have := of_decide_eq_true tf
          omega
        have go : ∀ mask, sizeAbove (SetTable.grown (es.size + 1)) = mask + 1 → Size mask → es1.size ≤ mask + 1 → 5 * es1.size < 3 * mask → wpAny (model prog w) A (do
            setRelay a (SetTable.grown (es.size + 1))
            pure true) Q E { s with heap := s.heap.update a (Obj.putSet es1 t2) } := fun mask e1 e2 e3 e4 => by
          refine wpAny_bind (relay_V (s := { s with heap := s.heap.update a (Obj.putSet es1 t2) }) g1 rfl (T2.fits f2) _ mask e1 e2 e3 fun es2 t3 m3 l3 T3 pm3 => wpAny_pure ?_)
          have sz2 : es2.size = es1.size := by have := pm3.length_eq; simpa using this
          exact h true _ (sb1.trans (Heap.SameBut.update _ a _)) ⟨_, es2, _, t3, stored_g g1 rfl es2 t3, hex, rfl, T3, l3.trans le2, by rw [sz2, m3]; exact e4, fun e he => hel1 e (pm3.mem_iff.mp he), (pm3.map _).trans hp1⟩
        rcases T.size with e | e | e
        · have n5 : es.size = 4 := by rw [e] at full tf'; omega
          exact go 31 (by rw [n5]; decide +kernel) (.inr (.inl rfl)) (by omega) (by omega)
        · have n5 : es.size = 18 := by rw [e] at full tf'; omega
          exact go 127 (by rw [n5]; decide +kernel) (.inr (.inr rfl)) (by omega) (by omega)
        · rw [e] at tf'
          omega
      · rw [if_neg (by simp [tf])]
        refine wpAny_pure (h true _ sb1 ⟨_, es1, _, t2, g1, hex, rfl, T2, le2, ?_, hel1, hp1⟩)
        unfold SetTable.tooFull at tf
        rw [fl] at tf
        have : ¬ es1.size * 5 ≥ t2.mask * 3 := fun z => tf (decide_eq_true z)
        omega
    have plainOff : TT { t1 with plain := false } es1.toList := ⟨T1.size, T1.up, T1.nd, T1.within, T1.len, T1.fnd⟩
    refine wpAny_ite_split (fun _ => ?_) fun _ => ?_
    · refine wpAny_bind (V.byv 8 hd (hk x hx) ?_)
      rw [if_pos rfl]
      exact tail t1 T1 (l1.trans hled) mk
    · refine wpAny_bind (wpAny_pure ?_)
      rw [if_pos rfl]
      exact tail t1 T1 (l1.trans hled) mk
  case q3 => rcases T.size with e | e | e <;> rw [e] <;> decide
end
end My
/-! ### set(things with a hash by value), made, and its walk -/
namespace My
open PySem PySem.Spec PyProof.Rows L2 PyProof PySem.SeqAt
section
variable {K : Type} [DecidableEq K]
def ddv (ks : List K) : List K := ks.foldl ddk []
theorem ddv_len (ks : List K) : (ddv ks).length ≤ ks.length := by
  have key : ∀ (ks acc : List K), (ks.foldl ddk acc).length ≤ acc.length + ks.length := by
    intro ks
    induction ks with
    | nil => intro acc; exact Nat.le_refl _
    | cons n r ih =>
      intro acc
      have h1 := ih (ddk acc n)
      have h2 : (ddk acc n).length ≤ acc.length + 1 := by unfold ddk; split <;> simp
      rw [List.foldl_cons, List.length_cons]
      omega
  have := key ks []
  unfold ddv
  simpa using this
theorem ddv_snoc (ks : List K) (n : K) : ddv (ks ++ [n]) = ddk (ddv ks) n := by
  unfold ddv
  rw [List.foldl_append]
  rfl
theorem ddv_spec (ks : List K) : (ddv ks).Nodup ∧ ∀ x, x ∈ ddv ks ↔ x ∈ ks := by
  have key : ∀ (ks acc : List K), acc.Nodup → (ks.foldl ddk acc).Nodup ∧ ∀ x, x ∈ ks.foldl ddk acc ↔ x ∈ acc ∨ x ∈ ks := by
    intro ks
    induction ks with
    | nil => intro acc h; exact ⟨h, fun x => by simp⟩
    | cons n r ih =>
      intro acc h
      have h1 : (ddk acc n).Nodup := by
        unfold ddk
        split
        · exact h
        · next z => exact List.nodup_append.mpr ⟨h, List.nodup_cons.mpr ⟨by simp, List.nodup_nil⟩, fun a ha b hb e => z (by rw [List.mem_singleton.mp hb] at e; exact e ▸ ha)⟩
      have h2 : ∀ x, x ∈ ddk acc n ↔ x ∈ acc ∨ x = n := fun x => by
        unfold ddk
        split
        · next z => exact ⟨.inl, fun q => q.elim id fun e => e ▸ z⟩
        · simp
      obtain ⟨i1, i2⟩ := ih _ h1
      refine ⟨i1, fun x => ?_⟩
      rw [List.foldl_cons, i2, h2, List.mem_cons, or_assoc]
  obtain ⟨a, b⟩ := key ks [] List.nodup_nil
  exact ⟨a, fun x => by rw [ddv, b]; simp⟩
variable {prog : Program} {w : World} {A : Around} {E : Value → Shared → Prop} {s : Shared} {V : HVK K} {kf : Value → K} {us : List Value}
theorem SetV.keep {h h' : Heap} {a : Addr} {ks : List K} {led : Bool} (x : SetV V kf us h a ks led) (k : ∀ o, h.get? a = some o → h'.get? a = some o) : SetV V kf us h' a ks led :=
  let ⟨o, es, ep, t, ho, r⟩ := x
  ⟨o, es, ep, t, k o ho, r⟩
theorem SetV.noTup {h : Heap} {a : Addr} {ks : List K} {led : Bool} (x : SetV V kf us h a ks led) {o : Obj} (ho : h.get? a = some o) : o.cls ≠ .type "tuple" := by
  obtain ⟨o', es, ep, t, ho', hex, _⟩ := x
  obtain rfl : o = o' := Option.some.inj (ho.symm.trans ho')
  rw [hex.1]
  decide
theorem loop_V {R : Result → Shared → Prop} {I S l : Addr} {led : Bool} (hd : V.d ≤ 8) (hu : A.in1.units + V.d < cLine) (nr : ∀ u ∈ us, ∃ b, u = .ref b) (hh : A.handled = none) (hlI : l ≠ I) (hSI : S ≠ I) (hSl : S ≠ l) (hb : us.length ≤ 63) :
    ∀ (k i : Nat) (s : Shared), us.length - i = k → i ≤ us.length → s.heap.IsListIter I l i → s.heap.IsList l us.toArray → SetV V kf us s.heap S (ddv ((us.take i).map kf)) led → (∀ u ∈ us, V.is s.heap (kf u) u) →
      (∀ h' tk, (∀ b o, b ≠ I → b ≠ S → s.heap.get? b = some o → h'.get? b = some o) → SetV V kf us h' S (ddv (us.map kf)) led → R (.ok (.ret .none)) { s with heap := h', toks := tk }) →
      codeAny (model prog w) A (.builtin "set.update.loop" ⟨[.ref S, .ref I], []⟩) R s := by
  have W := Walks.list (prog := prog) (w := w) (A := A.in1) hh I l hlI us.toArray
  have us0 : us.toArray.size = us.length := by simp
  have noI : ∀ {s : Shared} {i : Nat}, s.heap.IsListIter I l i → ∀ o, s.heap.get? I = some o → o.cls ≠ .type "tuple" := fun {s i} hit o ho => by
    obtain ⟨o', ho', hc, _⟩ := hit
    obtain rfl : o = o' := Option.some.inj (ho.symm.trans ho')
    rw [hc]
    decide
  intro k
  induction k with
  | zero =>
    intro i s hk hi hit hil hg hvs hR
    have hin : i = us.length := by omega
    refine codeAny_builtin PyProof.Rows.F.entry_set_update_loop ?_; rw [Around.under_plainId PyProof.Rows.F.plain_set_update_loop _]
    refine wpAny_bind (W.done s _ _ ⟨by rw [us0, ← hin]; exact hit, hil⟩ fun h' tk hk' => ?_)
    rw [hin, List.take_length] at hg
    exact wpAny_pure (hR h' tk (fun b o b1 _ e => hk' b o (by simpa using b1) e) (hg.keep fun o e => hk' S o (by simpa using hSI) e))
  | succ k ih =>
    intro i s hk hi hit hil hg hvs hR
    have hlt : i < us.length := by omega
    refine codeAny_builtin PyProof.Rows.F.entry_set_update_loop ?_; rw [Around.under_plainId PyProof.Rows.F.plain_set_update_loop _]
    refine wpAny_bind (W.item i s _ _ (by rw [us0]; exact hlt) ⟨hit, hil⟩ fun v h1 tk1 hP hst hk1 => ?_)
    have hv : us[i]? = some v := by simpa using hP
    have hvm : v ∈ us := List.mem_of_getElem? hv
    have hvs1 : ∀ u ∈ us, V.is h1 (kf u) u := fun u hu' => V.keep (hvs u hu') fun b o _ _ e c _ => hk1 b o (fun z => noI hit o (by rw [← List.mem_singleton.mp z]; exact e) c) e
    show wpAny _ A.in1 (holding [v] (setAdd S v) >>= _) _ _ _
    refine wpAny_bind (wpAny_holding ?_)
    unfold setAdd
    refine wpAny_holding (wpAny_bind (V.pyHash hu (hvs1 v hvm) fun tk2 => ?_))
    have hg1 : SetV V kf us h1 S (ddv ((us.take i).map kf)) led := hg.keep fun o e => hk1 S o (by simpa using hSI) e
    have hroom : (ddv ((us.take i).map kf)).length ≤ 63 := by
      have := ddv_len ((us.take i).map kf)
      rw [List.length_map, List.length_take] at this
      omega
    refine add_V (s := { s with heap := h1, toks := tk2 }) hd hu nr hvs1 hvm hg1 hroom fun b h2 hsb hg2 => ?_
    have oth : ∀ b, b ≠ S → h2.get? b = h1.get? b := fun b hb => hsb.2 b hb
    have hvs2 : ∀ u ∈ us, V.is h2 (kf u) u := fun u hu' => V.keep (hvs1 u hu') fun b o _ _ e c _ => (oth b (fun z => hg1.noTup (by rw [← z]; exact e) c)).trans e
    have tk1' : (us.take (i + 1)).map kf = (us.take i).map kf ++ [kf v] := by rw [List.take_add_one, hv, List.map_append]; rfl
    refine wpAny_pure ⟨plainId_quiet PyProof.Rows.F.plain_set_update_loop _, ih (i + 1) { s with heap := h2, toks := tk2 } (by omega) hlt (hst.1.at fun o e => (oth I hSI.symm).trans e) (hst.2.at fun o e => (oth l hSl.symm).trans e) (by rw [tk1', ddv_snoc]; exact hg2) hvs2 fun h3 tk3 k3 hg3 => ?_⟩
    exact hR h3 tk3 (fun b o b1 b2 e => k3 b o b1 b2 ((oth b b2).trans (hk1 b o (by simpa using b1) e))) hg3
set_option maxHeartbeats 3200000 in
theorem call_set_V {l : Addr} {Q : Value → Shared → Prop} (hd : V.d ≤ 8) (hu : A.units + 8 + V.d < cLine) (nr : ∀ u ∈ us, ∃ b, u = .ref b) (hvs : ∀ u ∈ us, V.is s.heap (kf u) u) (hh : A.handled = none) (hl : s.heap.IsList l us.toArray) (hb : us.length ≤ 63)
    (h : ∀ h' tk, SetV V kf us h' s.heap.objs.size (ddv (us.map kf)) (!w.params.followText "set-order") → (∀ b o, s.heap.get? b = some o → h'.get? b = some o) → Q (.ref s.heap.objs.size) { s with heap := h', toks := tk }) :
    wpAny (model prog w) A (call (.type "set") [.ref l]) Q E s := by
  obtain ⟨c, tl, hmro⟩ := PySem.F.called_set.mro; have hmade := PySem.F.called_set.made; have hsub := PySem.F.called_set.sub
  refine wpAny_call (codeAny_of_tree ?_)
  show wpAny _ _ (callAny (.type "set") _) _ _ _; refine wpAny_pure ⟨Code.quiet_builtin _ (by decide +kernel), codeAny_builtin PySem.F.entry_type_call ?_⟩
  rw [Around.under_plain (weight_type_call_type "set" [.ref l] []) rfl]; have h1 := PySem.F.called_set.notType; have h2 := PySem.F.called_set.canCreate; have hct := PySem.F.typeCall_set_1 (.ref l)
  repeat (any_goals (first | assumption | wp_step))
  generalize hfr : (SetTable.fresh 0 0 (!w.params.followText "set-order")) = fr
  refine codeAny_mono (new_g (prog := prog) (w := w) (.ref l) (E := E) (Q₁ := fun obj s₁ => obj = .ref s.heap.objs.size ∧ s₁ = { s with heap := s.heap.push { cls := .type "set", dict := none, data := .set #[] 0 fr } }) ⟨rfl, by rw [hfr]⟩) fun r s₁ hr => ?_
  cases r with
  | error e => exact hr
  | ok fl =>
    cases fl with
    | ret obj =>
      obtain ⟨rfl, rfl⟩ := hr
      have hS : (s.heap.push { cls := .type "set", dict := none, data := .set #[] 0 fr }).get? s.heap.objs.size = some { cls := .type "set", dict := none, data := .set #[] 0 fr } := Heap.get?_push_size _ rfl
      have hT : Shared.TypeIs { s with heap := s.heap.push { cls := .type "set", dict := none, data := .set #[] 0 fr } } (.ref s.heap.objs.size) "set" := ⟨_, hS, rfl⟩
      have hli := PySem.F.called_set.init.lookup; have hbi := PySem.F.called_set.init.bind (.ref s.heap.objs.size)
      repeat (any_goals (first | assumption | wp_step))
      refine codeAny_mono (codeAny_call_builtin (R := wants (fun r s₂ => r = .none ∧ ∃ h' tk, s₂ = { s with heap := h', toks := tk } ∧ SetV V kf us h' s.heap.objs.size (ddv (us.map kf)) (!w.params.followText "set-order") ∧ ∀ b o, s.heap.get? b = some o → h'.get? b = some o) E) PySem.F.called_set.init.plain PySem.F.entry_set_init (check_set_init_1 hT ?_)) fun r₂ s₂ hr₂ => ?_
      · obtain ⟨ol, hol, hcl, nl, hdl⟩ := id hl
        obtain ⟨ocls, odict, odata, oslots⟩ := ol
        simp only at hcl hdl; subst hcl; subst hdl
        have hol' : (s.heap.push { cls := .type "set", dict := none, data := .set #[] 0 fr }).get? l = some { cls := .type "list", dict := odict, data := .seq us.toArray nl, slots := oslots } := Heap.get?_push_of_some _ hol
        have hsls := PySem.F.sub_list_set; have hslf := PySem.F.sub_list_frozenset
        have hne : (Value.type "list" == Value.type "dict") = false := by decide
        have hl1 : (s.heap.push { cls := .type "set", dict := none, data := .set #[] 0 fr }).IsList l us.toArray := ⟨_, hol', rfl, nl, rfl⟩
        have hfu : fr.fill = 0 ∧ fr.place.size = 0 ∧ fr.mask = 7 := by rw [← hfr]; exact ⟨rfl, rfl, rfl⟩
        subst hfr
        unfold Builtin.«set.__init__» noKeywords Builtin.Frozenset.updateFrom
        generalize hPI : pyIter = PI; wp_walk; subst hPI
        refine wpAny_pyIter_list hl1 (wpAny_bind (wpAny_runValue ?_))
        have hlS : l < s.heap.objs.size := Heap.lt_size hol
        have hh3 : A.in1.in1.handled = none := by simp [hh]
        refine loop_V (prog := prog) (w := w) (s := { s with heap := (s.heap.push { cls := .type "set", dict := none, data := .set #[] 0 (.fresh 0 0 (!w.params.followText "set-order")) }).push { cls := .type "list_iterator", data := .fields #[.ref l, .int 0 0] } }) (I := (s.heap.push { cls := .type "set", dict := none, data := .set #[] 0 (.fresh 0 0 (!w.params.followText "set-order")) }).objs.size) (led := !w.params.followText "set-order") hd (show A.units + 1 + 1 + 1 + V.d < cLine by omega) nr hh3 ?_ ?_ (Nat.ne_of_gt hlS) hb us.length 0 (by omega) (Nat.zero_le _) ⟨_, Heap.get?_push_size _ rfl, rfl, rfl⟩ (hl1.push _) ?_ (fun u hu' => V.keep (hvs u hu') fun b o _ _ e _ _ => Heap.get?_push_of_some _ (Heap.get?_push_of_some _ e)) fun h' tk k hg => ?_
        · rw [size_push']; exact Nat.ne_of_lt (Nat.lt_succ_of_lt hlS)
        · rw [size_push']; exact Nat.ne_of_lt (Nat.lt_succ_self _)
        · exact ⟨_, #[], 0, _, Heap.get?_push_of_some _ hS, ⟨rfl, rfl, rfl⟩, rfl, TT.fresh _ _ _, rfl, (show 5 * 0 < 3 * 7 by decide), (fun e he => by cases he), .nil⟩
        · show wpAny _ _ _ _ _ _
          refine wpAny_pure ?_
          show wpAny _ _ (ret Value.none) _ _ _
          refine wpAny_pure ⟨rfl, h', tk, rfl, hg, fun b o e => ?_⟩
          have hb1 := Heap.lt_size e
          exact k b o (by rw [size_push']; exact Nat.ne_of_lt (Nat.lt_succ_of_lt hb1)) (Nat.ne_of_lt hb1) (Heap.get?_push_of_some _ (Heap.get?_push_of_some _ e))
      · cases r₂ with
        | error e => exact hr₂
        | ok fl₂ =>
          cases fl₂ with
          | ret r =>
            obtain ⟨rfl, h', tk, rfl, hg, hk'⟩ := hr₂
            repeat (any_goals (first | assumption | wp_step))
            exact h _ _ hg hk'
          | _ => exact hr₂.elim
    | _ => exact hr.elim
end
end My
/-! ### sorting tuples of two things that have an order -/
namespace My
open PySem PySem.Spec PySem.W PyProof.Rows L2 PyProof PySem.SeqAt
/-- all that is asked is below n, and what comes of it is P -/
def InP {α : Type} (n : Nat) (P : α → Prop) : KasT α → Prop
  | .ret a => P a
  | .ask i j k => i < n ∧ j < n ∧ ∀ b, InP n P (k b)
theorem InP.bind {α β : Type} {n : Nat} {P : α → Prop} {R : β → Prop} {g : α → KasT β} (hg : ∀ a, P a → InP n R (g a)) : ∀ t : KasT α, InP n P t → InP n R (t.bind g)
  | .ret a, h => hg a h
  | .ask _ _ k, h => ⟨h.1, h.2.1, fun b => InP.bind hg (k b) (h.2.2 b)⟩
theorem InP.wp {α : Type} {n : Nat} {P : α → Prop} {f : Nat → Int} {cmp : Nat → Nat → (Bool → Shared → Prop) → Shared → Prop} {Q : α → Shared → Prop} {s : Shared} (hc : ∀ i j (R : Bool → Shared → Prop), i < n → j < n → R (decide (f i < f j)) s → cmp i j R s) :
    ∀ t : KasT α, InP n P t → Q (outT f t) s → t.kasWp cmp Q s
  | .ret _, _, h => h
  | .ask i j k, p, h => hc i j _ p.1 p.2.1 (InP.wp hc (k _) (p.2.2 _) h)
def Low (n : Nat) (p : Array Nat) : Prop := 0 < n ∧ ∀ x ∈ p.toList, x < n
theorem Low.at {n : Nat} {p : Array Nat} (l : Low n p) (i : Nat) : p.getD i 0 < n := by
  by_cases h : i < p.size
  · have e : p.getD i 0 = p[i] := by simp [Array.getD, h]
    rw [e]
    exact l.2 _ (by simp)
  · have e : p.getD i 0 = 0 := by simp [Array.getD, h]
    rw [e]
    exact l.1
theorem Low.perm {n : Nat} {p q : Array Nat} (l : Low n p) (h : q.Perm p) : Low n q := ⟨l.1, fun x hx => l.2 x (h.toList.mem_iff.mp hx)⟩
theorem low_asc {n : Nat} {p : Array Nat} (l : Low n p) : ∀ k m, InP n (fun _ => True) (kas_asc p k m)
  | 0, _ => trivial
  | k + 1, m => ⟨l.at _, l.at _, fun b => by cases b with | true => exact trivial | false => exact low_asc l k (m + 1)⟩
theorem low_desc {n : Nat} : ∀ (k : Nat) {p : Array Nat} (m q : Nat), Low n p → InP n (fun r => Low n r.1) (kas_desc k p m q)
  | 0, _, _, _, l => l
  | k + 1, p, m, q, l => ⟨l.at _, l.at _, fun b => by
    cases b with
    | true =>
      show InP n _ (if q > 0 then _ else _)
      split
      · exact low_desc k _ _ (l.perm (rev_perm _ _ _))
      · exact low_desc k _ _ l
    | false => exact ⟨l.at _, l.at _, fun d => by cases d with | true => exact l | false => exact low_desc k _ _ l⟩⟩
theorem low_tail3 {n m nrem : Nat} {p : Array Nat} (l : Low n p) : InP n (fun (r : Nat × Array Nat) => Low n r.2) (kas_tail3 m nrem p) := by
  have l' : Low n (kas_rev p 0 m) := l.perm (rev_perm _ _ _)
  unfold kas_tail3
  refine InP.bind (P := fun _ => True) (fun _ _ => ?_) _ (low_asc l' _ _)
  exact l'
theorem low_part {n m nrem : Nat} {p : Array Nat} (l : Low n p) : InP n (fun (r : Nat × Array Nat) => Low n r.2) (kas_descPart m nrem p) := InP.bind (fun r hr => by
  split
  · exact low_tail3 (hr.perm (rev_perm _ _ _))
  · exact low_tail3 hr) _ (low_desc _ _ _ l)
theorem low_count {n nrem : Nat} {p : Array Nat} (l : Low n p) : InP n (fun (r : Nat × Array Nat) => Low n r.2) (kas_count nrem p) := InP.bind (fun m _ => by
  split
  · exact l
  · split
    · exact ⟨l.at _, l.at _, fun c => by cases c with | true => exact l | false => exact low_part (l.perm (rev_perm _ _ _))⟩
    · exact low_part l) _ (low_asc l _ _)
theorem low_place {n : Nat} {p : Array Nat} (l : Low n p) (k : Nat) : ∀ d a r, InP n (fun _ => True) (kas_place p k d a r)
  | 0, _, _ => trivial
  | d + 1, a, r => by
    unfold kas_place
    split
    · exact trivial
    · exact ⟨l.at _, l.at _, fun c => by cases c with | true => exact low_place l k d _ _ | false => exact low_place l k d _ _⟩
theorem low_bin {n : Nat} : ∀ (d : Nat) {p : Array Nat} (k : Nat), Low n p → InP n (fun r => Low n r) (kas_bin d p k)
  | 0, _, _, l => l
  | d + 1, _, _, l => InP.bind (fun _ _ => low_bin d _ (l.perm (bubble_perm _ _ _))) _ (low_place l _ _ _ _)
theorem low_sort {n : Nat} (h : 1 ≤ n) : InP n (fun r => Low n r) (kas_sort n) := InP.bind (fun r hr => by
  split
  · exact low_bin _ _ hr
  · exact hr) _ (low_count ⟨h, fun x hx => by simpa using hx⟩)
/-- things with a hash by value and an order -/
structure VO (K : Type) [DecidableEq K] extends HVK K where
  lt : K → K → Bool
  irr : ∀ x, lt x x = false
  tr : ∀ x y z, lt x y = true → lt y z = true → lt x z = true
  tot : ∀ x y, x ≠ y → lt x y = false → lt y x = true
  T : Value
  rfT : (T == T) = true
  typ : ∀ {h : Heap} {k : K} {v : Value} (M : Model), is h k v → Looks M h (typeOf v) T
  one : ∀ {prog : Program} {w : World} {A : Around} {E : Value → Shared → Prop} {s : Shared} {x y : K} {u v : Value} {Q : Bool → Shared → Prop} (b : Bool), (b = true → (T != Value.type "tuple") = true) → A.units + d < cLine → is s.heap x u → is s.heap y v → Q (lt x y) s → wpAny (model prog w) A (oneLt' b u v) Q E s
def ltP {K L : Type} [DecidableEq K] [DecidableEq L] (f : K → K → Bool) (g : L → L → Bool) (a b : K × L) : Bool := if a.1 = b.1 then g a.2 b.2 else f a.1 b.1
section
variable {K L : Type} [DecidableEq K] [DecidableEq L]
theorem ltP_irr (V : VO K) (W : VO L) (x : K × L) : ltP V.lt W.lt x x = false := by unfold ltP; rw [if_pos rfl]; exact W.irr _
theorem ltP_tr (V : VO K) (W : VO L) (x y z : K × L) (h : ltP V.lt W.lt x y = true) (h' : ltP V.lt W.lt y z = true) : ltP V.lt W.lt x z = true := by
  unfold ltP at *
  by_cases e : x.1 = y.1
  · rw [if_pos e] at h
    by_cases e' : y.1 = z.1
    · rw [if_pos e'] at h'
      rw [if_pos (e.trans e')]
      exact W.tr _ _ _ h h'
    · rw [if_neg e'] at h'
      rw [if_neg (fun q => e' (e.symm.trans q)), e]
      exact h'
  · rw [if_neg e] at h
    by_cases e' : y.1 = z.1
    · rw [if_neg (fun q => e (q.trans e'.symm)), ← e']
      exact h
    · rw [if_neg e'] at h'
      have t := V.tr _ _ _ h h'
      rw [if_neg fun q => ?_]
      · exact t
      · rw [q, V.irr] at t; cases t
theorem ltP_tot (V : VO K) (W : VO L) (x y : K × L) (n : x ≠ y) (h : ltP V.lt W.lt x y = false) : ltP V.lt W.lt y x = true := by
  unfold ltP at *
  by_cases e : x.1 = y.1
  · rw [if_pos e] at h
    rw [if_pos e.symm]
    exact W.tot _ _ (fun q => n (Prod.ext e q)) h
  · rw [if_neg e] at h
    rw [if_neg (fun q => e q.symm)]
    exact V.tot _ _ e h
def VO.int : VO Int where
  toHVK := HVK.int
  lt := fun a b => decide (a < b)
  irr := fun x => by simp
  tr := fun x y z h h' => by simp only [decide_eq_true_eq] at *; omega
  tot := fun x y n h => by simp only [decide_eq_true_eq, decide_eq_false_iff_not] at *; omega
  T := .type "int"
  rfT := by decide
  typ := fun M ⟨t, e⟩ => by
    subst e
    intro A Q E s _ q
    exact wpAny_typeOf (T := "int") rfl q
  one := fun b _ _ ⟨t, e⟩ ⟨t', e'⟩ h => by
    subst e; subst e'
    cases b with
    | true => exact oneLt_int h
    | false => exact kat_one _ _ (lt_int h)
def VO.node : VO (Int × Int) where
  toHVK := HVK.int.pair HVK.int
  lt := ltP VO.int.lt VO.int.lt
  irr := ltP_irr VO.int VO.int
  tr := ltP_tr VO.int VO.int
  tot := ltP_tot VO.int VO.int
  T := .type "tuple"
  rfT := by decide
  typ := fun M ⟨u, u', ⟨a, o, n, e, ho, hc, hd⟩, _⟩ => by
    subst e
    intro A Q E s k q
    exact wpAny_typeOf (T := "tuple") ⟨o, k a o ho, hc⟩ q
  one := fun {prog w A E s x y u v Q} b hb hu ⟨u1, u2, ⟨a, o, n, e, ho, hc, hd⟩, ⟨t1, e1⟩, ⟨t2, e2⟩⟩ ⟨v1, v2, ⟨a', o', n', e', ho', hc', hd'⟩, ⟨t1', e1'⟩, ⟨t2', e2'⟩⟩ h => by
    subst e; subst e'; subst e1; subst e2; subst e1'; subst e2'
    cases b with
    | true => exact absurd (hb rfl) (by decide)
    | false =>
      refine kat_one _ _ (HT.lt_tupInts (ns := [x.1, x.2]) (ms := [y.1, y.2]) ⟨o, ho, hc, n, hd⟩ ⟨o', ho', hc', n', hd'⟩ (.cons _ _ (.cons _ _ .nil)) (.cons _ _ (.cons _ _ .nil)) (by omega) ?_)
      have el : HT.lexLt [x.1, x.2] [y.1, y.2] = ltP VO.int.lt VO.int.lt x y := by
        unfold ltP
        rw [HT.lexLt_cons, HT.lexLt_cons, HT.lexLt_nil_nil]
        by_cases q : x.1 = y.1
        · rw [if_pos q, if_pos q]
          by_cases q2 : x.2 = y.2
          · rw [if_pos q2, q2]; exact (VO.int.irr _).symm
          · rw [if_neg q2]; rfl
        · rw [if_neg q, if_neg q]; rfl
      rw [el]
      exact h
/-- how many of the keys are less -/
def rankK (lt : K → K → Bool) (ks : List K) (k : K) : Nat := (ks.filter fun x => lt x k).length
theorem rank_lt {lt : K → K → Bool} (irr : ∀ x, lt x x = false) (tr : ∀ x y z, lt x y = true → lt y z = true → lt x z = true) (tot : ∀ x y, x ≠ y → lt x y = false → lt y x = true) {ks : List K} {a b : K} (ha : a ∈ ks) :
    decide (((rankK lt ks a : Nat) : Int) < (rankK lt ks b : Nat)) = lt a b := by
  have mono : ∀ {a b : K} (l : List K), (∀ x, lt x a = true → lt x b = true) → (l.filter fun x => lt x a).length ≤ (l.filter fun x => lt x b).length := by
    intro a b l h
    induction l with
    | nil => exact Nat.le_refl _
    | cons x r ih =>
      rw [List.filter_cons, List.filter_cons]
      by_cases q : lt x a = true
      · rw [if_pos q, if_pos (h x q)]
        exact Nat.succ_le_succ ih
      · rw [if_neg q]
        split
        · exact Nat.le_succ_of_le ih
        · exact ih
  cases hl : lt a b with
  | true =>
    have key : ∀ l : List K, a ∈ l → (l.filter fun x => lt x a).length < (l.filter fun x => lt x b).length := by
      intro l
      induction l with
      | nil => intro h; cases h
      | cons x r ih =>
        intro h
        rw [List.filter_cons, List.filter_cons]
        rcases List.mem_cons.mp h with z | z
        · subst z
          rw [if_neg (by rw [irr]; exact Bool.false_ne_true), if_pos hl]
          exact Nat.lt_succ_of_le (mono r fun y hy => tr _ _ _ hy hl)
        · have := ih z
          by_cases q : lt x a = true
          · rw [if_pos q, if_pos (tr _ _ _ q hl)]
            exact Nat.succ_lt_succ this
          · rw [if_neg q]
            split
            · exact Nat.lt_succ_of_lt this
            · exact this
    have := key ks ha
    exact decide_eq_true (by unfold rankK; omega)
  | false =>
    have : (ks.filter fun x => lt x b).length ≤ (ks.filter fun x => lt x a).length := mono ks fun x hx => by
      by_cases q : a = b
      · rw [q]; exact hx
      · exact tr _ _ _ hx (tot a b q hl)
    exact decide_eq_false (by unfold rankK; omega)
theorem ask_pairs (V : VO K) (W : VO L) {prog : Program} {w : World} {A : Around} {s : Shared} {vs : List Value} {ks : List (K × L)} {G : Array Nat → Shared → Prop} (hlen : ks.length = vs.length) (h1 : 1 ≤ vs.length) (hu : A.units + (max V.d W.d + 1) < cLine)
    (hk : ∀ (i : Nat) k, ks[i]? = some k → (V.toHVK.pair W.toHVK).is s.heap k (vs.getD i .none)) (d0 : K × L)
    (h : ∀ p : Array Nat, p.toList.Perm (List.range vs.length) → (∀ i j, i ≤ j → j < vs.length → ltP V.lt W.lt (ks.getD (p.getD j 0) d0) (ks.getD (p.getD i 0) d0) = false) → G p s) :
    wpAny (model prog w) A (keyKind' vs.toArray) (fun κ s' => (kas_sort vs.length).kasWp (kas_ask prog w A κ vs) G s') (fun _ _ => False) s := by
  have h1d : A.units + V.d < cLine := by have := Nat.le_max_left V.d W.d; omega
  have h2d : A.units + W.d < cLine := by have := Nat.le_max_right V.d W.d; omega
  have tups : ∀ (vs : List Value) (ks : List (K × L)), ks.length = vs.length → (∀ (i : Nat) k, ks[i]? = some k → (V.toHVK.pair W.toHVK).is s.heap k (vs.getD i .none)) → ∃ fs, KatTups s.heap vs fs ∧ fs.length = vs.length ∧ ∀ v ∈ fs, ∃ k, V.is s.heap k v := by
    intro vs
    induction vs with
    | nil => intro ks _ _; exact ⟨[], trivial, rfl, fun v hv => by cases hv⟩
    | cons v r ih =>
      intro ks hl hk
      cases ks with
      | nil => cases hl
      | cons k kr =>
        obtain ⟨fs, t, l, a⟩ := ih kr (Nat.succ.inj hl) fun i k' e => by
          have := hk (i + 1) k' e
          simpa using this
        obtain ⟨u, u', ⟨ad, o, n, e, ho, hc, hd⟩, hx, hy⟩ := hk 0 k rfl
        have e' : v = Value.ref ad := e
        subst e'
        refine ⟨u :: fs, KatTups.cons ho hc hd rfl t, by rw [List.length_cons, List.length_cons, l], fun v hv => ?_⟩
        rcases List.mem_cons.mp hv with z | z
        · exact ⟨k.1, z ▸ hx⟩
        · exact a v z
  obtain ⟨fs, t, l, a⟩ := tups vs ks hlen hk
  refine kat_kind t (by omega) (fun v hv => let ⟨k, hk⟩ := a v hv; V.typ _ hk) V.rfT ?_
  have hget : ∀ i, i < vs.length → ks[i]? = some (ks.getD i d0) := fun i hi => by rw [List.getElem?_eq_getElem (by omega)]; simp [List.getD, hlen, hi]
  have hmem : ∀ i, i < vs.length → ks.getD i d0 ∈ ks := fun i hi => List.mem_of_getElem? (hget i hi)
  have rk : ∀ i j, i < vs.length → decide (((rankK (ltP V.lt W.lt) ks (ks.getD i d0) : Nat) : Int) < (rankK (ltP V.lt W.lt) ks (ks.getD j d0) : Nat)) = ltP V.lt W.lt (ks.getD i d0) (ks.getD j d0) := fun i j hi => rank_lt (ltP_irr V W) (ltP_tr V W) (ltP_tot V W) (hmem i hi)
  refine InP.wp (n := vs.length) (f := fun i => (rankK (ltP V.lt W.lt) ks (ks.getD i d0) : Nat)) (fun i j R hi hj hR => ?_) _ (low_sort h1) ?_
  · rw [rk i j hi] at hR
    obtain ⟨u, u', ⟨ad, o, n, e, ho, hc, hd⟩, hx, hy⟩ := hk i _ (hget i hi)
    obtain ⟨z, z', ⟨ad', o', n', e', ho', hc', hd'⟩, hx', hy'⟩ := hk j _ (hget j hj)
    show wpAny _ _ (keyLt' _ (vs.getD i .none) (vs.getD j .none)) _ _ _
    rw [e, e']
    refine kat_lt ho hd ho' hd' (show KatLex prog w A _ _ R [(u, z), (u', z')] 0 s from kat_cons ?_)
    refine V.eq h1d hx hx' prog w _ _ (kat_go (fun q => kat_yes (kat_cons ?_)) fun q => kat_no ?_)
    · have q' := of_decide_eq_true q
      refine W.eq h2d hy hy' prog w _ _ (kat_go (fun y => kat_yes (kat_nil ?_)) fun y => kat_no ?_)
      · have y' := of_decide_eq_true y
        unfold ltP at hR
        rw [if_pos q', y', W.irr] at hR
        exact hR
      · refine W.one _ (fun b => absurd b (by simp)) h2d hy hy' ?_
        unfold ltP at hR
        rw [if_pos q'] at hR
        exact hR
    · refine V.one _ (fun b => by simpa using b) h1d hx hx' ?_
      unfold ltP at hR
      rw [if_neg (of_decide_eq_false q)] at hR
      exact hR
  · obtain ⟨pp, pr⟩ := sort_out (fun i => ((rankK (ltP V.lt W.lt) ks (ks.getD i d0) : Nat) : Int)) h1
    refine h _ pp fun i j hij hj => ?_
    have := pr i j hij hj
    have hpj : (outT (fun i => ((rankK (ltP V.lt W.lt) ks (ks.getD i d0) : Nat) : Int)) (kas_sort vs.length)).getD j 0 < vs.length := by
      have hsz : (outT (fun i => ((rankK (ltP V.lt W.lt) ks (ks.getD i d0) : Nat) : Int)) (kas_sort vs.length)).size = vs.length := by rw [← Array.length_toList, pp.length_eq, List.length_range]
      exact Low.at ⟨h1, fun x hx => List.mem_range.mp (pp.mem_iff.mp hx)⟩ j
    rw [← rk _ _ hpj]
    unfold KA at this
    exact decide_eq_false (Int.not_lt.mpr this)
end
end My
/-! ### the walk over a set of things with a hash by value -/
namespace My
open PySem PySem.Spec PyProof.Rows L2 PyProof PySem.SeqAt
section
variable {K : Type} [DecidableEq K] {V : HVK K} {kf : Value → K} {us : List Value}
variable {prog : Program} {w : World} {A : Around} {E : Value → Shared → Prop} {s : Shared} {I a : Addr} {es : Array (Int × Value)} {ep : Nat} {t : SetTable}
def ValAt (ms : List Value) (i : Nat) (v : Value) : Prop := ms[i]? = some v
theorem walk_Tv (hT : w.params.followText "set-order" = true) (hh : A.handled = none) (hne : a ≠ I) (hf : t.fits es.size = true) :
    Walks prog w A I [I, a] [I] es.size (ValAt ((pickOrder (w.params.setOrder a ep) es).toList.map Prod.snd)) (fun i h => ItAt h I a (.int 0 0) i es.size ep ∧ SetIs h a es ep t) where
  sub := fun b hb => by simp at hb; simp [hb]
  frame := fun _ _ _ st hk => ⟨st.1.keep fun o e => hk I (by simp) o e, st.2.keep fun o e => hk a (by simp) o e⟩
  item := fun i s Q E hi st hQ => by
    have hp := pick_perm (w.params.setOrder a ep) es
    have hsz : (pickOrder (w.params.setOrder a ep) es).size = es.size := by rw [← Array.length_toList, hp.length_eq, Array.length_toList]
    have hx : (pickOrder (w.params.setOrder a ep) es)[i]? = some (pickOrder (w.params.setOrder a ep) es)[i] := Array.getElem?_eq_getElem (by omega)
    refine nx_item (slot' := 0) st.1 st.2 hf (fun h => wp_nextT hT st.2 hf (by rw [hx]; exact h)) fun h' it sb => hQ _ h' s.toks (show (_ : List Value)[i]? = _ by rw [List.getElem?_map, Array.getElem?_toList, hx]; rfl) ⟨it, st.2.keep fun o e => (sb.2 _ hne).trans e⟩ fun b o hb e => (sb.2 b (by simpa using hb)).trans e
  done := fun s Q E st hQ => by
    have hp := pick_perm (w.params.setOrder a ep) es
    have hsz : (pickOrder (w.params.setOrder a ep) es).size = es.size := by rw [← Array.length_toList, hp.length_eq, Array.length_toList]
    have hx : (pickOrder (w.params.setOrder a ep) es)[es.size]? = none := Array.getElem?_eq_none (by omega)
    exact nx_end hh st.1 st.2 hf (fun h => wp_nextT hT st.2 hf (by rw [hx]; exact h)) fun h' k => hQ h' s.toks fun b o hb e => k b o (by simpa using hb) e
  self := fun _ _ _ _ st hQ => nx_self st.1 hQ
theorem walk_Lv (hT : w.params.followText "set-order" = false) (hD : (!t.plain && decide (1 < es.size)) = false) (hl : t.led = true) (ht : TOk t) (hps : t.place.size = es.size) (hh : A.handled = none) (hne : a ≠ I) (hf : t.fits es.size = true) :
    Walks prog w A I [I, a] [I] es.size (ValAt (es.toList.map Prod.snd)) (fun i h => ItAt h I a (.int (slotAt t.place i) 0) i es.size ep ∧ SetIs h a es ep t) where
  sub := fun b hb => by simp at hb; simp [hb]
  frame := fun _ _ _ st hk => ⟨st.1.keep fun o e => hk I (by simp) o e, st.2.keep fun o e => hk a (by simp) o e⟩
  item := fun i s Q E hi st hQ => by
    have hb := slot_below ht.up (i := i) (by omega)
    have hx : es[i]? = some es[i] := Array.getElem?_eq_getElem hi
    have hy : t.place[i]? = some (t.place[i]'(by omega)) := Array.getElem?_eq_getElem (by omega)
    have hy2 : t.place[i]'(by omega) + 1 = slotAt t.place (i + 1) := by
      show _ = t.place.getD i 0 + 1
      simp [Array.getD, show i < t.place.size by omega]
    refine nx_item (slot' := slotAt t.place (i + 1)) st.1 st.2 hf (fun h => wp_nextL hT hD hl st.2 hf (by rw [hb, hx, hy]; dsimp only; rw [hy2]; exact h)) fun h' it sb => hQ _ h' s.toks (show (_ : List Value)[i]? = _ by rw [List.getElem?_map, Array.getElem?_toList, hx]; rfl) ⟨it, st.2.keep fun o e => (sb.2 _ hne).trans e⟩ fun b o hb e => (sb.2 b (by simpa using hb)).trans e
  done := fun s Q E st hQ => by
    have hb := slot_below ht.up (i := es.size) (by omega)
    have hx : es[es.size]? = none := Array.getElem?_eq_none (Nat.le_refl _)
    exact nx_end hh st.1 st.2 hf (fun h => wp_nextL hT hD hl st.2 hf (by rw [hb, hx]; exact h)) fun h' k => hQ h' s.toks fun b o hb e => k b o (by simpa using hb) e
  self := fun _ _ _ _ st hQ => nx_self st.1 hQ
def drawnVs (es : Array (Int × Value)) (ps : List Nat) : List Value := ps.map fun p => (es.getD p (0, .none)).2
theorem drawn_permV {ps : List Nat} (hp : ps.Perm (List.range es.size)) : (drawnVs es ps).Perm (es.toList.map Prod.snd) := by
  refine (hp.map _).trans ?_
  have : (List.range es.size).map (fun p => (es.getD p (0, .none)).2) = es.toList.map Prod.snd := by
    apply List.ext_getElem
    · simp
    · intro i h1 h2
      have hi : i < es.size := by simpa using h1
      simp [Array.getD, hi]
  rw [this]
theorem walk_Dv {T : Addr} {ps : List Nat} (hp : ps.Perm (List.range es.size)) (hh : A.handled = none) (hne : a ≠ I) (hTI : T ≠ I) (hf : t.fits es.size = true) :
    Walks prog w A I [I, a, T] [I] es.size (ValAt (drawnVs es ps)) (fun i h => ItAt h I a (.ref T) i es.size ep ∧ SetIs h a es ep t ∧ TupIs h T ps) where
  sub := fun b hb => by simp at hb; simp [hb]
  frame := fun _ _ _ st hk => ⟨st.1.keep fun o e => hk I (by simp) o e, st.2.1.keep fun o e => hk a (by simp) o e, let ⟨o, c, ho, hd⟩ := st.2.2; ⟨o, c, hk T (by simp) o ho, hd⟩⟩
  item := fun i s Q E hi st hQ => by
    have hl : ps.length = es.size := by rw [hp.length_eq, List.length_range]
    have hx : ps[i]? = some (ps[i]'(by omega)) := List.getElem?_eq_getElem (by omega)
    have hm : ps[i]'(by omega) < es.size := List.mem_range.mp (hp.mem_iff.mp (List.mem_of_getElem? hx))
    have he : es[ps[i]'(by omega)]? = some (es[ps[i]'(by omega)]'hm) := Array.getElem?_eq_getElem hm
    obtain ⟨o, c, ho, hd⟩ := id st.2.2
    refine nd_item st.1 st.2.1 hf ho hd hx he fun h' it sb => hQ _ h' s.toks ?_ ⟨it, st.2.1.keep fun o e => (sb.2 _ hne).trans e, ⟨o, c, (sb.2 _ hTI).trans ho, hd⟩⟩ fun b o hb e => (sb.2 b (by simpa using hb)).trans e
    unfold ValAt drawnVs
    rw [List.getElem?_map, hx]
    simp [Array.getD, hm]
  done := fun s Q E st hQ => by
    have hl : ps.length = es.size := by rw [hp.length_eq, List.length_range]
    obtain ⟨o, c, ho, hd⟩ := id st.2.2
    exact nd_end hh st.1 st.2.1 hf ho hd (List.getElem?_eq_none (by omega)) fun h' k => hQ h' s.toks fun b o hb e => k b o (by simpa using hb) e
  self := fun _ _ _ _ st hQ => nx_self st.1 hQ
theorem iter_V {ks : List K} {led : Bool} {Q : Value → Shared → Prop} (hh : A.handled = none) (few : ks.length ≤ 64) (hG : SetV V kf us s.heap a ks led) (hled : led = !w.params.followText "set-order")
    (h : ∀ (I : Addr) (h' : Heap) (d : Drawn) (fp : List Addr) (St : Nat → Heap → Prop) (ms : List Value), s.heap.objs.size ≤ I → (∀ b ∈ fp, b = a ∨ s.heap.objs.size ≤ b) → (∀ b o, s.heap.get? b = some o → h'.get? b = some o) → (ms.map kf).Perm ks → (∀ v ∈ ms, v ∈ us) →
      Walks prog w A I fp [I] ms.length (ValAt ms) St → St 0 h' → Q (.ref I) { s with heap := h', drawn := d }) : wpAny (model prog w) A (pyIter (.ref a)) Q E s := by
  obtain ⟨o, es, ep, t, ho, hex, hd, T, hl, full, hel, hp⟩ := hG
  have hlm : es.size ≤ t.mask := by rcases T.size with e | e | e <;> rw [e] at full ⊢ <;> omega
  have hf := T.fits hlm
  have ht := T.ok
  have hb : es.size ≤ 64 := by rw [← Array.length_toList, ← List.length_map (f := fun e : Int × Value => kf e.2), hp.length_eq]; exact few
  have hp' : ((es.toList.map Prod.snd).map kf).Perm ks := by rw [List.map_map]; exact hp
  have hin : ∀ v ∈ es.toList.map Prod.snd, v ∈ us := fun v hv => by obtain ⟨e, he, rfl⟩ := List.mem_map.mp hv; exact (hel e he).1
  have hT : s.TypeIs (.ref a) "set" := ⟨o, ho, hex.1⟩
  have ha : a < s.heap.objs.size := Heap.lt_size ho
  have hsl : es.size ≤ sizeLine := Nat.le_trans hb (by decide)
  refine wpAny_pyIter_slot hT PySem.F.slot_set_iter (wpAny_call_entry PySem.F.slot_set_iter hT en_si ?_ (PySem.F.args_set_iter_1 _))
  unfold Builtin.«frozenset.__iter__» Builtin.Frozenset.slot0 slotArgs
  simp only [List.isEmpty_nil, Bool.not_true, Bool.false_eq_true, ↓reduceIte, bind_assoc, List.length_nil, bne_self_eq_false]
  unfold Builtin.Frozenset.addrOf Builtin.Frozenset.sizeOf
  refine wpAny_bind (wpAny_pure ?_)
  try dsimp only
  refine wpAny_bind (wpAny_pure ?_)
  refine wpAny_bind (wpAny_bind (wpAny_setEntries_of ho hd hf (wpAny_pure ?_)))
  refine wpAny_bind (wp_drawnOf ⟨o, ho, hex, hd⟩ hf ?_)
  have hpl := fits_place hf
  have sz0 : (es.toList.map Prod.snd).length = es.size := by simp
  have hkeep : ∀ oI : Obj, ∀ b o', s.heap.get? b = some o' → (s.heap.push oI).get? b = some o' := fun oI b o' e => Heap.get?_push_of_some _ e
  have hpt : ∀ b ∈ [s.heap.objs.size, a], b = a ∨ s.heap.objs.size ≤ b := fun b hb => by
    rcases List.mem_cons.mp hb with z | z
    · exact .inr (by omega)
    · exact .inl (List.mem_singleton.mp z)
  cases hT0 : w.params.followText "set-order" with
  | true =>
    rw [show (!true && (!t.plain && decide (1 < es.size))) = false from rfl, if_neg Bool.false_ne_true]
    refine wpAny_bind (wpAny_pure ?_)
    refine wpAny_bind (wpAny_setEpoch_of ho hd hf ?_)
    refine wpAny_bind (wpAny_newObj_type ?_)
    refine wpAny_pure ⟨_, rfl, "set_iterator", _, ⟨_, Heap.get?_push_size _ rfl, rfl⟩, sl_sin.lookup, ?_⟩
    have hpp := pick_perm (w.params.setOrder a ep) es
    have hW := walk_Tv (prog := prog) (A := A) (I := s.heap.objs.size) (a := a) (ep := ep) hT0 hh (Nat.ne_of_lt ha) hf
    have hlen : ((pickOrder (w.params.setOrder a ep) es).toList.map Prod.snd).length = es.size := by rw [List.length_map, hpp.length_eq, Array.length_toList]
    rw [← hlen] at hW
    exact h s.heap.objs.size _ s.drawn _ _ _ (Nat.le_refl _) hpt (hkeep _) (((hpp.map Prod.snd).map kf).trans hp') (fun v hv => hin v ((hpp.map Prod.snd).mem_iff.mp hv)) hW ⟨⟨_, Heap.get?_push_size _ rfl, rfl, by rw [hlen]; rfl⟩, ⟨o, Heap.get?_push_of_some _ ho, hex, hd⟩⟩
  | false =>
    have hl1 : t.led = true := by rw [hl, hled, hT0]; rfl
    cases hD : (!t.plain && decide (1 < es.size)) with
    | true =>
      rw [if_pos (show (!false && true) = true from rfl)]
      refine wpAny_bind (wp_draw _ _ _ _ (by simp) fun ps d hps => ?_)
      have hps1 : ps.length = es.size := by rw [hps.length_eq, List.length_range]
      refine wpAny_bind (wpAny_newTuple ?_ (by rw [List.length_map, hps1]; exact hsl))
      have ho1 : (s.heap.push { cls := .type "tuple", data := .seq (ps.map fun (k : Nat) => rawInt k).toArray }).get? a = some o := Heap.get?_push_of_some _ ho
      refine wpAny_bind (wpAny_setEpoch_of ho1 hd hf ?_)
      refine wpAny_bind (wpAny_newObj_type ?_)
      refine wpAny_pure ⟨_, rfl, "set_iterator", _, ⟨_, Heap.get?_push_size _ rfl, rfl⟩, sl_sin.lookup, ?_⟩
      have hW := walk_Dv (prog := prog) (w := w) (A := A) (I := (s.heap.push { cls := .type "tuple", data := .seq (ps.map fun (k : Nat) => rawInt k).toArray }).objs.size) (a := a) (ep := ep) (T := s.heap.objs.size) hps hh (by rw [size_push']; exact Nat.ne_of_lt (Nat.lt_succ_of_lt ha)) (by rw [size_push']; exact Nat.ne_of_lt (Nat.lt_succ_self _)) hf
      have hlen : (drawnVs es ps).length = es.size := by rw [drawnVs, List.length_map, hps1]
      rw [← hlen] at hW
      refine h _ _ d _ _ _ (by rw [size_push']; exact Nat.le_succ _) (fun b hb => ?_) (fun b o' e => Heap.get?_push_of_some _ (Heap.get?_push_of_some _ e)) (((drawn_permV hps).map kf).trans hp') (fun v hv => hin v ((drawn_permV hps).mem_iff.mp hv)) hW ⟨⟨_, Heap.get?_push_size _ rfl, rfl, by rw [hlen]; rfl⟩, ⟨o, Heap.get?_push_of_some _ ho1, hex, hd⟩, ⟨_, 0, Heap.get?_push_of_some _ (Heap.get?_push_size _ rfl), rfl⟩⟩
      rcases List.mem_cons.mp hb with z | z
      · exact .inr (by rw [z, size_push']; exact Nat.le_succ _)
      · rcases List.mem_cons.mp z with z | z
        · exact .inl z
        · exact .inr (by rw [List.mem_singleton.mp z]; exact Nat.le_refl _)
    | false =>
      rw [if_neg (by simp)]
      refine wpAny_bind (wpAny_pure ?_)
      refine wpAny_bind (wpAny_setEpoch_of ho hd hf ?_)
      refine wpAny_bind (wpAny_newObj_type ?_)
      refine wpAny_pure ⟨_, rfl, "set_iterator", _, ⟨_, Heap.get?_push_size _ rfl, rfl⟩, sl_sin.lookup, ?_⟩
      have hW := walk_Lv (prog := prog) (A := A) (I := s.heap.objs.size) (a := a) (ep := ep) hT0 hD hl1 ht hpl hh (Nat.ne_of_lt ha) hf
      rw [← sz0] at hW
      exact h s.heap.objs.size _ s.drawn _ _ _ (Nat.le_refl _) hpt (hkeep _) hp' hin hW ⟨⟨_, Heap.get?_push_size _ rfl, rfl, by rw [sz0]; rfl⟩, ⟨o, Heap.get?_push_of_some _ ho, hex, hd⟩⟩
end
section
variable {K : Type} [DecidableEq K] {V : HVK K} {kf : Value → K} {us : List Value}
variable {prog : Program} {w : World} {A : Around} {E : Value → Shared → Prop} {s : Shared} {a : Addr} {ks : List K} {led : Bool}
theorem SetV.typeIs (x : SetV V kf us s.heap a ks led) : s.TypeIs (.ref a) "set" := let ⟨o, _, _, _, ho, hex, _⟩ := x; ⟨o, ho, hex.1⟩
theorem ext_V {R : Result → Shared → Prop} (hh : A.handled = none) (few : ks.length ≤ 64) (hG : SetV V kf us s.heap a ks led) (hled : led = !w.params.followText "set-order") {L : Addr} (hLa : L ≠ a) {res : Value} {c₀ : Nat} (hL : s.heap.get? L = some { cls := .type "list", data := .seq #[] c₀ })
    (hR : ∀ (h' : Heap) (tk : Nat) (d : Drawn) (acc : Array Value) (c : Nat) (ms : List Value), (∀ b o, b ≠ L → s.heap.get? b = some o → h'.get? b = some o) → h'.get? L = some { cls := .type "list", dict := none, data := .seq acc c, slots := #[] } → (ms.map kf).Perm ks → (∀ v ∈ ms, v ∈ us) → ItemsOf (ValAt ms) acc ms.length → R (.ok (.ret res)) { s with heap := h', toks := tk, drawn := d }) :
    wpAny (model prog w) A.in1 (Builtin.List.listExtendWith (.ref L) (.ref a) res) (fun fin s' => match fin with
      | .done f => R (.ok f) s'
      | .again c' => c'.quiet = true ∧ codeAny (model prog w) A c' R s') (fun e s' => R (.error e) s') s := by
  have hLlt : L < s.heap.objs.size := Heap.lt_size hL
  unfold Builtin.List.listExtendWith
  refine wpAny_bind (wpAny_typeOf (T := "set") hG.typeIs ?_)
  have h1 : Builtin.List.listSameRef (.ref L) (.ref a) = false := by simp [Builtin.List.listSameRef, hLa]
  have n1 : (Value.type "set" == Value.type "list") = false := by decide
  have n2 : (Value.type "set" == Value.type "tuple") = false := by decide
  simp only [h1, n1, n2, Bool.or_false, Bool.false_eq_true, if_false]
  refine wpAny_bind (iter_V (A := A.in1) hh few hG hled fun I h' d fp St ms hI hfp hk hp hmu W st => ?_)
  have hms : ms.length ≤ sizeLine := by
    have := hp.length_eq
    rw [List.length_map] at this
    rw [this]
    exact Nat.le_trans few (by decide)
  have hLf : L ∉ fp := fun z => by
    rcases hfp L z with e | e
    · exact hLa e
    · exact absurd e (Nat.not_le_of_lt hLlt)
  have key : ∀ (hx : Heap) (c₁ tk : Nat), St 0 hx → (∀ b o, b ≠ L → s.heap.get? b = some o → hx.get? b = some o) → hx.get? L = some { cls := .type "list", data := .seq #[] c₁ } →
      codeAny (model prog w) A (.builtin "list.extend.loop" ⟨[.ref L, .ref I, res], []⟩) R { s with heap := hx, toks := tk, drawn := d } := fun hx c₁ tk st1 kx hL1 => by
    refine codeAny_extend_loopS W.toS hms L hLf res ms.length 0 _ #[] c₁ rfl (Nat.zero_le _) st1 hL1 (ItemsOf.nil _) fun s2 acc c2 mv hL2 hacc => ?_
    rw [Moved.eq_with mv]
    refine hR s2.heap s2.toks d acc c2 ms (fun b o hb e => mv.heap b o (fun z => ?_) (kx b o hb e)) hL2 hp hmu hacc
    rcases List.mem_cons.mp z with e' | e'
    · exact hb e'
    · have := Heap.lt_size e
      rw [List.mem_singleton.mp e'] at this
      exact absurd hI (Nat.not_le_of_lt this)
  have hL1 := hk _ _ hL
  refine wpAny_bind (wpAny_holding (hint_g (hG.keep fun o e => hk _ _ e).typeIs ?_))
  refine wpAny_ite_split (fun _ => ?_) (fun _ => wpAny_pure ⟨plainId_quiet PySem.F.plain_extend_loop _, key _ c₀ _ st (fun b o _ e => hk b o e) hL1⟩)
  refine wpAny_bind (wpAny_rule (wpAny_bind ?_))
  show wpAny _ _ (updateSeq L (·.push .none) >>= fun _ => updateSeq L (·.pop)) _ _ _
  refine wpAny_bind (wpAny_updateSeq hL1 rfl ?_)
  have hL2 := Heap.get?_update_self (Obj.mapSeq (·.push Value.none)) hL1 rfl
  refine wpAny_updateSeq (hz := by seq_fits) hL2 rfl ?_
  have hL3 := Heap.get?_update_self (Obj.mapSeq (·.pop)) hL2 rfl
  have oth : ∀ b o, b ≠ L → h'.get? b = some o → ((h'.update L (Obj.mapSeq (·.push Value.none))).update L (Obj.mapSeq (·.pop))).get? b = some o := fun b o hb e => (Heap.get?_update_other _ _ (Ne.symm hb)).trans ((Heap.get?_update_other _ _ (Ne.symm hb)).trans e)
  exact wpAny_pure ⟨plainId_quiet PySem.F.plain_extend_loop _, key _ _ _ (W.frame 0 _ _ st fun b hb o e => oth b o (fun z => hLf (z ▸ hb)) e) (fun b o hb e => oth b o hb (hk b o e)) hL3⟩
theorem collect_V {R : List Value → Shared → Prop} (hh : A.handled = none) (few : ks.length ≤ 64) (hG : SetV V kf us s.heap a ks led) (hled : led = !w.params.followText "set-order") 
    (h : ∀ (h' : Heap) (tk : Nat) (d : Drawn) (acc : Array Value) (ms : List Value), (∀ b o, s.heap.get? b = some o → h'.get? b = some o) → (ms.map kf).Perm ks → (∀ v ∈ ms, v ∈ us) → ItemsOf (ValAt ms) acc ms.length → R acc.toList { s with heap := h', toks := tk, drawn := d }) :
    wpAny (model prog w) A (collect (.ref a)) R E s := by
  have ha : a < s.heap.objs.size := by obtain ⟨o, _, _, _, ho, _⟩ := hG; exact Heap.lt_size ho
  unfold collect
  refine wpAny_bind (wpAny_runValue (codeAny_builtin PyProof.Rows.entry_proto_collect' ?_))
  rw [Around.under_plainId PySem.F.plain_proto_collect _]
  show wpAny _ A.in1 (newList [] >>= fun l => again (.builtin "list.__iadd__" ⟨[l, .ref a], []⟩)) _ _ s
  refine wpAny_bind (wpAny_newObj_type (wpAny_pure ⟨plainId_quiet PySem.F.plain_list_iadd _, codeAny_builtin PyProof.Rows.entry_list_iadd' ?_⟩))
  rw [Around.under_plainId PySem.F.plain_list_iadd _]
  have hL : (s.heap.push { cls := .type "list", data := .seq ([] : List Value).toArray }).get? s.heap.objs.size = some { cls := .type "list", data := .seq #[] } := Heap.get?_push_size _ rfl
  show wpAny _ A.in1 (Builtin.List.listExtendWith (.ref s.heap.objs.size) (.ref a) (.ref s.heap.objs.size)) _ _ _
  have key := ext_V (prog := prog) (A := A) (s := { s with heap := s.heap.push { cls := .type "list", data := .seq ([] : List Value).toArray } }) (L := s.heap.objs.size) (res := .ref s.heap.objs.size)
    (R := fun (q : Result) (s' : Shared) => ∃ (h' : Heap) (tk : Nat) (d : Drawn) (acc : Array Value) (c : Nat) (ms : List Value), q = .ok (.ret (.ref s.heap.objs.size)) ∧ s' = { s with heap := h', toks := tk, drawn := d } ∧ (∀ b o, s.heap.get? b = some o → h'.get? b = some o) ∧
      h'.get? s.heap.objs.size = some { cls := .type "list", dict := none, data := .seq acc c, slots := #[] } ∧ (ms.map kf).Perm ks ∧ (∀ v ∈ ms, v ∈ us) ∧ ItemsOf (ValAt ms) acc ms.length)
    hh few (hG.keep fun o e => Heap.get?_push_of_some _ e) hled (Nat.ne_of_gt ha) hL
    (fun h' tk d acc c ms k hL' hp hmu hacc => ⟨h', tk, d, acc, c, ms, rfl, rfl, fun b o e => k b o (Nat.ne_of_lt (Heap.lt_size e)) (Heap.get?_push_of_some _ e), hL', hp, hmu, hacc⟩)
  refine wpAny_mono key (fun fin s' x => ?_) fun e s' x => ?_
  · cases fin with
    | done f =>
      obtain ⟨h', tk, d, acc, c, ms, e, rfl, k, hL', hp, hmu, hacc⟩ := x
      cases e; show wpAny _ A (load s.heap.objs.size >>= _) _ _ _
      exact wpAny_bind (wpAny_load hL' (wpAny_pure (h h' tk d acc ms k hp hmu hacc)))
    | again c₁ =>
      refine ⟨x.1, codeAny_mono x.2 fun q s₂ y => ?_⟩
      obtain ⟨h', tk, d, acc, c, ms, rfl, rfl, k, hL', hp, hmu, hacc⟩ := y
      show wpAny _ A (load s.heap.objs.size >>= _) _ _ _
      exact wpAny_bind (wpAny_load hL' (wpAny_pure (h h' tk d acc ms k hp hmu hacc)))
  · obtain ⟨_, _, _, _, _, _, e', _⟩ := x
    cases e'
end
end My
/-! ### list.sort of tuples of two; sorted(list of nodes), sorted(set(pairs of nodes)) -/
namespace My
open PySem PySem.Spec PySem.W PyProof.Rows L2 PyProof PySem.SeqAt
section
variable {K L : Type} [DecidableEq K] [DecidableEq L]
/-- out are the things vs, with the keys ks, in rising order; js are their keys -/
def SortedP (f : K → K → Bool) (g : L → L → Bool) (ks : List (K × L)) (vs : List Value) (js : List (K × L)) (out : List Value) : Prop :=
  (js.zip out).Perm (ks.zip vs) ∧ js.length = out.length ∧ js.Pairwise fun a b => ltP f g b a = false
theorem sorted_of {f : K → K → Bool} {g : L → L → Bool} {ks : List (K × L)} {vs : List Value} (hlen : ks.length = vs.length) (d0 : K × L) {p : Array Nat} (hp : p.toList.Perm (List.range vs.length))
    (ho : ∀ i j, i ≤ j → j < vs.length → ltP f g (ks.getD (p.getD j 0) d0) (ks.getD (p.getD i 0) d0) = false) : SortedP f g ks vs (p.toList.map fun i => ks.getD i d0) (p.toList.map fun i => vs.getD i .none) := by
  refine ⟨?_, by simp, ?_⟩
  · rw [List.zip_map']
    have e : ks.zip vs = (List.range vs.length).map fun i => (ks.getD i d0, vs.getD i .none) := by
      apply List.ext_getElem
      · simp [hlen]
      · intro i h1 h2
        have hi : i < vs.length := by simpa using h2
        simp [List.getD, hi, hlen]
    rw [e]
    exact hp.map _
  · have hsz : p.size = vs.length := by rw [← Array.length_toList, hp.length_eq, List.length_range]
    rw [List.pairwise_iff_getElem]
    intro i j hi hj hij
    have hi' : i < p.size := by simpa using hi
    have hj' : j < p.size := by simpa using hj
    have := ho i j (Nat.le_of_lt hij) (by omega)
    have e1 : p.getD i 0 = p[i] := by simp [Array.getD, hi']
    have e2 : p.getD j 0 = p[j] := by simp [Array.getD, hj']
    rw [e1, e2] at this
    simpa using this
theorem lsort_V (V : VO K) (W : VO L) {prog : Program} {w : World} {A : Around} {E : Value → Shared → Prop} {s : Shared} {vs : List Value} {ks : List (K × L)} {a F : Addr} {m : Str → Option Value} {n : Nat} {P : PySem.Fin → Shared → Prop} (hlen : ks.length = vs.length) (h64 : vs.length < 64) (hu : A.units + (max V.d W.d + 1) < cLine) (d0 : K × L)
    (hk : ∀ (i : Nat) k, ks[i]? = some k → (V.toHVK.pair W.toHVK).is s.heap k (vs.getD i .none)) (ho : s.heap.get? a = some (seqObj "list" vs.toArray n)) (hns : s.heap.Ns F m)
    (h : ∀ js out h' c, (∀ b o, b ≠ F → b ≠ a → s.heap.get? b = some o → h'.get? b = some o) → h'.Ns F m → h'.get? a = some (seqObj "list" (List.toArray out) c) → SortedP V.lt W.lt ks vs js out → P (.done (.ret .none)) { s with heap := h' }) :
    wpAny (model prog w) A (Builtin.«list.sort» ⟨[.ref a], []⟩) P E s := by
  have haF : a ≠ F := fun e => by
    obtain ⟨o, es, ep, e1, e2, _⟩ := hns
    rw [← e, ho] at e1
    cases e1
    cases e2
  by_cases h2 : 2 ≤ vs.length
  · have Fr0 : Fr {} F s.heap m := ⟨hns, (fun b o e => by rw [none_empty] at e; cases e), Nat.zero_le _⟩
    have Nw : News {} F s.heap ((allBut F s.heap).filter fun p => decide (p.1 ≠ a)) := fun p hp => by
      obtain ⟨x, y⟩ := allBut_of (List.mem_filter.mp hp).1
      exact ⟨y, x, none_empty _⟩
    have hna : ∀ p ∈ (allBut F s.heap).filter (fun p => decide (p.1 ≠ a)), p.1 ≠ a := fun p hp => of_decide_eq_true (List.mem_filter.mp hp).2
    have inN : ∀ {b : Addr} {o : Obj}, b ≠ F → b ≠ a → s.heap.get? b = some o → (b, o) ∈ (allBut F s.heap).filter fun p => decide (p.1 ≠ a) := fun {b o} x y e => List.mem_filter.mpr ⟨allBut_mem x e, decide_eq_true y⟩
    refine kat_list_sort Fr0 Nw ho haF (none_empty _) hna h2 h64 fun e1 h' F' N' => ?_
    have kp : KpT s.heap h' := fun b o xs c e hc hd => (N' (b, o) (.tail _ (inN (fun z => by
      obtain ⟨o', es, ep, e1, e2, _⟩ := hns
      rw [← z, e] at e1
      cases e1
      rw [hd] at e2
      cases e2) (fun z => by
      rw [z, ho] at e
      cases e
      exact absurd (show Value.type "list" = Value.type "tuple" from hc) (by decide)) e))).1
    refine ask_pairs V W (s := { s with heap := h' }) hlen (by omega) hu (fun i k e => (V.toHVK.pair W.toHVK).keep (hk i k e) kp) d0 fun p pp po => ?_
    refine KasFin.intro F' N' (.head hna) fun h3 c F3 N3 => ?_
    exact h _ _ h3 c (fun b o x y e => (N3 (b, o) (.tail _ (inN x y e))).1) F3.ns (N3 _ (.head _)).1 (sorted_of hlen d0 pp po)
  · rw [list_sort_plain]
    have ha : a < s.heap.objs.size := Heap.lt_size ho
    refine wpAny_bind (listItems_at ho rfl (wpAny_bind (listUpdate_at ho rfl ?_ (by rw [List.size_toArray, sizeLine_eq]; omega) (Nat.zero_le _))))
    obtain ⟨e1, ho1⟩ : ∃ e1, (s.heap.update a (Obj.mapSeq fun _ => (#[] : Array Value))).get? a = some (seqObj "list" #[] e1) := ⟨_, get?_update_seq ho (fun _ => #[])⟩
    refine wpAny_bind (seqEpoch_at ho1 rfl (wpAny_bind (wpAny_newTuple (wpAny_bind (wpAny_newList (wpAny_holding ?_) (Nat.zero_le _))) (by show vs.length ≤ _; rw [sizeLine_eq]; omega))))
    have s1 := Heap.SameBut.update s.heap a (Obj.mapSeq fun _ => (#[] : Array Value))
    have k1 : ∀ b o, b ≠ a → s.heap.get? b = some o → (((s.heap.update a (Obj.mapSeq fun _ => (#[] : Array Value))).push (seqObj "tuple" vs.toArray 0)).push (seqObj "list" #[] 0)).get? b = some o := fun b o y e => Heap.get?_push_of_some _ (Heap.get?_push_of_some _ ((s1.2 b y).trans e))
    have ho6 : (((s.heap.update a (Obj.mapSeq fun _ => (#[] : Array Value))).push (seqObj "tuple" vs.toArray 0)).push (seqObj "list" #[] 0)).get? a = some (seqObj "list" #[] e1) := Heap.get?_push_of_some _ (Heap.get?_push_of_some _ ho1)
    show wpAny (model prog w) A _ P E { s with heap := ((s.heap.update a (Obj.mapSeq fun _ => (#[] : Array Value))).push (seqObj "tuple" vs.toArray 0)).push (seqObj "list" #[] 0) }
    generalize ((s.heap.update a (Obj.mapSeq fun _ => (#[] : Array Value))).push (seqObj "tuple" vs.toArray 0)).push (seqObj "list" #[] 0) = h6 at k1 ho6
    dsimp only
    have hn2 : vs.toArray.size < 2 := by rw [List.size_toArray]; omega
    rw [if_pos hn2, if_pos hn2]
    refine wpAny_bind (wpAny_pure ?_)
    rw [StateT.run_pure]
    refine wpAny_bind (wpAny_pure (show wpAny _ _ (seqEpoch a >>= _) _ _ { s with heap := h6 } from wpAny_bind (seqEpoch_at ho6 rfl ?_)))
    have eo : (arrOf (SortSt.mk' general' (vs.toArray.zip vs.toArray) #[] 7 none)).map (·.2) = vs.toArray := by
      show (vs.toArray.zip vs.toArray).map (·.2) = _
      apply Array.ext
      · simp
      · intro i h1 h2
        simp
    dsimp only
    rw [eo]
    refine wpAny_bind (listUpdate_at ho6 rfl ?_ (Nat.zero_le _) (by rw [List.size_toArray, sizeLine_eq]; omega))
    simp only [bne_self_eq_false, Bool.false_eq_true, if_false]
    have s2 := Heap.SameBut.update h6 a (Obj.mapSeq fun _ => vs.toArray)
    obtain ⟨c2, hc2⟩ : ∃ c2, (h6.update a (Obj.mapSeq fun _ => vs.toArray)).get? a = some (seqObj "list" vs.toArray c2) := ⟨_, get?_update_seq ho6 fun _ => vs.toArray⟩
    refine wpAny_pure (h ks vs _ c2 (fun b o _ y e => (s2.2 b y).trans (k1 b o y e)) ?_ hc2 ⟨.refl _, hlen, ?_⟩)
    · obtain ⟨o, es, ep, e1, e2, e3⟩ := hns
      exact ⟨o, es, ep, (s2.2 F haF.symm).trans (k1 F o haF.symm e1), e2, e3⟩
    · have hl1 : ks.length ≤ 1 := by omega
      match ks, hl1 with
      | [], _ => exact .nil
      | [x], _ => exact List.pairwise_cons.mpr ⟨(fun _ h => by cases h), List.Pairwise.nil⟩
end
abbrev Nk := Int × Int
def ltN (a b : Nk) : Bool := ltP VO.int.lt VO.int.lt a b
def ltE (a b : Nk × Nk) : Bool := ltP ltN ltN a b
/-- a node, a tuple of two numbers -/
def NdV (H : Hp) (v : V) (n : Nk) : Prop := ∃ p, v = .ref p ∧ H p = some (.tup [.int n.1, .int n.2])
/-- a tuple of two nodes -/
def PrV (H : Hp) (v : V) (k : Nk × Nk) : Prop := ∃ p u u', v = .ref p ∧ H p = some (.tup [u, u']) ∧ NdV H u k.1 ∧ NdV H u' k.2
section
variable {X : Cx} {pins : List (Addr × Obj)} {σ : L2.St} {H : Hp} {s : Shared}
theorem nd_is (I : Inv X pins σ H s) {v : V} {n : Nk} {u : Value} (h : NdV H v n) (r : RelV v u) : (VO.int.toHVK.pair VO.int.toHVK).is s.heap n u := by
  obtain ⟨p, rfl, e⟩ := h
  obtain rfl : u = Value.ref p := r
  obtain ⟨its, rv, ⟨o, e1, e2, c, e3⟩, _⟩ := I.tuple (SqT.of e)
  cases rv with
  | cons r1 t =>
    cases t with
    | cons r2 t2 =>
      cases t2
      exact ⟨_, _, ⟨p, o, c, rfl, e1, e2, e3⟩, r1, r2⟩
theorem pr_is (I : Inv X pins σ H s) {v : V} {k : Nk × Nk} {u : Value} (h : PrV H v k) (r : RelV v u) : (VO.node.toHVK.pair VO.node.toHVK).is s.heap k u := by
  obtain ⟨p, a, b, rfl, e, ha, hb⟩ := h
  obtain rfl : u = Value.ref p := r
  obtain ⟨its, rv, ⟨o, e1, e2, c, e3⟩, _⟩ := I.tuple (SqT.of e)
  cases rv with
  | cons r1 t =>
    cases t with
    | cons r2 t2 =>
      cases t2
      exact ⟨_, _, ⟨p, o, c, rfl, e1, e2, e3⟩, nd_is I ha r1, nd_is I hb r2⟩
theorem lift_keys {α : Type} {R : V → α → Prop} : ∀ (js : List α) (out : List Value), js.length = out.length → (∀ p ∈ js.zip out, ∃ x, RelV x p.2 ∧ R x p.1) → ∃ ys, Vals ys out ∧ Paired R ys js
  | [], [], _, _ => ⟨[], .nil, .nil⟩
  | [], _ :: _, h, _ => by cases h
  | _ :: _, [], h, _ => by cases h
  | j :: js, o :: out, h, f => by
    obtain ⟨x, rx, kx⟩ := f (j, o) (by rw [List.zip_cons_cons]; exact List.mem_cons_self)
    obtain ⟨ys, a, b⟩ := lift_keys js out (Nat.succ.inj h) fun p hp => f p (by rw [List.zip_cons_cons]; exact List.mem_cons_of_mem _ hp)
    exact ⟨x :: ys, .cons rx a, .cons kx b⟩
theorem zip_src {α : Type} {R : V → α → Prop} : ∀ {xs : List V} {ks : List α} {us : List Value}, Vals xs us → Paired R xs ks → ∀ p ∈ ks.zip us, ∃ x, x ∈ xs ∧ RelV x p.2 ∧ R x p.1
  | _, _, _, .nil, .nil, p, hp => by cases hp
  | _, _, _, .cons r t, .cons k q, p, hp => by
    rw [List.zip_cons_cons] at hp
    rcases List.mem_cons.mp hp with z | z
    · subst z; exact ⟨_, List.mem_cons_self, r, k⟩
    · obtain ⟨x, a, b⟩ := zip_src t q p z
      exact ⟨x, List.mem_cons_of_mem _ a, b⟩
theorem zip_fst {α β : Type} : ∀ {xs : List α} {ys : List β}, xs.length = ys.length → (xs.zip ys).map Prod.fst = xs
  | [], [], _ => rfl
  | [], _ :: _, h => by cases h
  | _ :: _, [], h => by cases h
  | x :: xs, y :: ys, h => by rw [List.zip_cons_cons, List.map_cons, zip_fst (Nat.succ.inj h)]
theorem paired_getR {α β : Type} {F : α → β → Prop} : ∀ {l : List α} {m : List β} {i : Nat} {b : β}, Paired F l m → m[i]? = some b → ∃ a, l[i]? = some a ∧ F a b
  | _, _, _, _, .nil, e => by simp at e
  | _, _, 0, _, .cons r _, e => by simp at e; subst e; exact ⟨_, rfl, r⟩
  | _, _, i + 1, _, .cons _ t, e => by
    obtain ⟨a, ea, f⟩ := paired_getR (i := i) t (by simpa using e)
    exact ⟨a, by simpa using ea, f⟩
/-- sorted(list of nodes) -/
theorem call_sortedN (hu : X.A.units + 16 < cLine) : CallR X (.builtin "sorted") (fun xs H Q => ∃ (a : Addr) (vs : List V) (ks : List Nk), xs = [V.ref a] ∧ SqL X.K H a vs ∧ Paired (NdV H) vs ks ∧ vs.length < 64 ∧
    ∀ p ys js, H p = none → Paired (NdV H) ys js → js.Perm ks → js.Pairwise (fun a b => ltN b a = false) → Q (.ref p) (upd H p (.lst ys))) := by
  intro pins s σ H xs us Q I r h
  obtain ⟨a, vs, ks, rfl, e, pk, h64, q⟩ := h
  obtain ⟨u, rfl, ru⟩ := vals1 r
  cases ru
  obtain ⟨m, hns, _⟩ := id I.loc
  obtain ⟨its, rv, plst, _⟩ := I.list e
  have hlen : its.length = vs.length := rv.length.symm
  have hlk : ks.length = its.length := (prs_len pk).symm.trans hlen.symm
  refine Calls.call_function_entry kind_sorted plain_sorted entry_sorted (args_sorted1 _) ?_
  unfold Builtin.«sorted»
  refine wpAny_bind (m := checkCount "sorted" 1 1 _) (wpAny_pure (wpAny_bind (collect_list plst.isList (wpAny_bind (wpAny_newList ?_ (by rw [sizeLine_eq]; omega))) (by rw [sizeLine_eq]; omega))))
  have k0 : ∀ b o, s.heap.get? b = some o → ((s.heap.push (seqObj "list" #[] 0)).update s.heap.objs.size (Obj.mapSeq (· ++ its.toArray))).get? b = some o := fun b o e => by
    rw [Heap.get?_update_ne _ _ _ _ (Nat.ne_of_lt (Heap.lt_size e))]
    exact Heap.get?_push_of_some _ e
  have hsz : ((s.heap.push (seqObj "list" #[] 0)).update s.heap.objs.size (Obj.mapSeq (· ++ its.toArray))).objs.size = s.heap.objs.size + 1 := by rw [Heap.size_update, size_push']
  generalize (s.heap.push (seqObj "list" #[] 0)).update s.heap.objs.size (Obj.mapSeq (· ++ its.toArray)) = h1 at k0 hsz
  have k1 : ∀ b o, s.heap.get? b = some o → (h1.push { cls := .type "list", data := .seq its.toArray }).get? b = some o := fun b o e => Heap.get?_push_of_some _ (k0 b o e)
  have hoL : (h1.push { cls := .type "list", data := .seq its.toArray }).get? h1.objs.size = some (seqObj "list" its.toArray 0) := Heap.get?_push_size _ rfl
  have I1 : Inv X pins σ H { s with heap := h1.push { cls := .type "list", data := .seq its.toArray } } := I.kept (t' := s.toks) k1
  refine wpAny_bind (wpAny_holding (wpAny_call_entry slot_list_sort ⟨_, hoL, rfl⟩ entry_list_sort (lsort_V VO.int VO.int (s := { s with heap := h1.push { cls := .type "list", data := .seq its.toArray } }) hlk (by omega) (show X.A.in1.in1.units + 1 < cLine by show X.A.units + 1 + 1 + 1 < cLine; omega) (0, 0) ?_ hoL (hns.keeps k1) ?_) (args_list_sort _)))
  · intro i k ek
    obtain ⟨x, ex, kx⟩ := paired_getR pk ek
    obtain ⟨u, eu, ru⟩ := rv.get ex
    have : its.getD i .none = u := by simp [List.getD, eu]
    rw [this]
    exact nd_is I1 kx ru
  · intro js out h' c kp ns' hD ⟨pm, l1, pw⟩
    refine ⟨_, rfl, ?_⟩
    obtain ⟨ys, vy, py⟩ := lift_keys (R := NdV H) js out l1 fun p hp => by
      obtain ⟨x, _, a, b⟩ := zip_src rv pk p (pm.mem_iff.mp hp)
      exact ⟨x, a, b⟩
    have hD' : s.heap.objs.size ≤ h1.objs.size := by rw [hsz]; exact Nat.le_succ _
    have lo : out.length = its.length := by
      have := pm.length_eq
      rw [List.length_zip, List.length_zip, l1, hlk, Nat.min_self, Nat.min_self] at this
      exact this
    have I2 := inv_namesD (t' := s.toks) (D := h1.objs.size) (u := .lst ys) (h' := h') I (fun b o nb eb => kp b o nb (Nat.ne_of_lt (Nat.lt_of_lt_of_le (Heap.lt_size eb) hD')) (k1 b o eb)) (fun m' hm => ns_one hns hm ▸ ns') hD' ⟨by rw [vy.length, lo, sizeLine_eq]; omega, out, c, vy, hD⟩
    refine wpAny_pure ⟨_, rfl, .ref _, _, I2, rfl, q _ ys js (I.hok.fresh hD') py ?_ pw⟩
    have := pm.map Prod.fst
    rwa [zip_fst l1, zip_fst hlk] at this
open Classical in
noncomputable def keyFn (K : Type) [DecidableEq K] (V : HVK K) (h : Heap) (d0 : K) (u : Value) : K := if x : ∃ k, V.is h k u then Classical.choose x else d0
theorem keyFn_is {K : Type} [DecidableEq K] {V : HVK K} {h : Heap} {d0 k : K} {u : Value} (x : V.is h k u) : keyFn K V h d0 u = k := by
  unfold keyFn
  have e : ∃ k, V.is h k u := ⟨k, x⟩
  rw [dif_pos e]
  exact V.inj (Classical.choose_spec e) x
def tSortSetP (K : PySem.W.Frag) (t : TA) : TE := fun σ H Q => t σ H fun vs H1 => ∃ (a : Addr) (xs : List V) (ks : List (Nk × Nk)), vs = [V.ref a] ∧ SqL K H1 a xs ∧ Paired (PrV H1) xs ks ∧ xs.length ≤ 63 ∧
  ∀ l ys js, H1 l = none → Paired (PrV H1) ys js → js.Nodup → (∀ k, k ∈ js ↔ k ∈ ks) → js.Pairwise (fun a b => ltE b a = false) → Q (.ref l) (upd H1 l (.lst ys))
theorem pe_sortSetP {X : Cx} {K : PySem.W.Frag} {e : Expr} {t : TA} {p p2 pos pos2 : Pos} (hu : X.A.units + 64 < cLine) (hK : X.K = K) (hc : X.calm = true) (hgl : Gl X "sorted") (hml : X.mg "sorted" = none) (hg : Gl X "set") (hm : X.mg "set" = none) (ha : PA X [e] t)
    (hs : starEach [e] X.env = [(false, eval e X.env)] := by rfl) (hs2 : starEach [.Call (.Name "set" p2) [e] [] pos2] X.env = [(false, eval (.Call (.Name "set" p2) [e] [] pos2) X.env)] := by rfl) :
    PE X (.Call (.Name "sorted" p) [.Call (.Name "set" p2) [e] [] pos2] [] pos) (tSortSetP K t) := by
  constructor; intro pins s σ H Q I h
  subst hK
  refine wpAny_Call_Name_kw (ld_blt I hgl hml PyProof.Rows.boot_sorted ?_ (by decide) (by decide))
  refine PyProof.Rows.callWith_builtin1 ?_ (by rw [hs2]; rfl) rfl
  rw [hs2]
  show wpAny _ _ (spliced ((false, eval (.Call (.Name "set" p2) [e] [] pos2) X.env) :: backTo pos [])) _ _ s
  refine Calls.spliced_cons ?_
  refine wpAny_Call_Name_kw (ld_blt I hg hm PyProof.Rows.boot_set (PyProof.Rows.callWith_type1 (thn (ha pos2 pins s σ H _ I h) fun us s1 ⟨vs, H1, I1, r1, q1⟩ => ?_) hs rfl) (by decide) (by decide))
  obtain ⟨l, xs, ks, rfl, hx, pk, h63, q⟩ := q1
  obtain ⟨u, rfl, ru⟩ := vals1 r1
  cases ru
  obtain ⟨its, rv, pl, hz⟩ := I1.list hx
  have hlen : its.length = xs.length := rv.length.symm
  have hlk : ks.length = its.length := (prs_len pk).symm.trans hlen.symm
  obtain ⟨m, hns, _⟩ := id I1.loc
  have d2 : (VO.node.toHVK.pair VO.node.toHVK).d = 2 := rfl
  have is0 : ∀ (i : Nat) (u : Value), its[i]? = some u → ∃ k, ks[i]? = some k ∧ (VO.node.toHVK.pair VO.node.toHVK).is s1.heap k u := fun i u eu => by
    obtain ⟨x, ex, rx⟩ := vals_get' rv eu
    obtain ⟨k, ek, kx⟩ := paired_get pk ex
    exact ⟨k, ek, pr_is I1 kx rx⟩
  have hkf : ∀ u ∈ its, (VO.node.toHVK.pair VO.node.toHVK).is s1.heap (keyFn _ (VO.node.toHVK.pair VO.node.toHVK) s1.heap ((0, 0), (0, 0)) u) u := fun u hu' => by
    obtain ⟨i, hi⟩ := List.mem_iff_getElem?.mp hu'
    obtain ⟨k, _, ik⟩ := is0 i u hi
    rw [keyFn_is ik]
    exact ik
  have hmk : its.map (keyFn _ (VO.node.toHVK.pair VO.node.toHVK) s1.heap ((0, 0), (0, 0))) = ks := by
    apply List.ext_getElem?
    intro i
    rw [List.getElem?_map]
    cases eu : its[i]? with
    | none =>
      rw [List.getElem?_eq_none_iff] at eu
      rw [Option.map_none, List.getElem?_eq_none (by omega)]
    | some u =>
      obtain ⟨k, ek, ik⟩ := is0 i u eu
      rw [ek, Option.map_some, keyFn_is ik]
  have nr : ∀ u ∈ its, ∃ b, u = .ref b := fun u hu' => by
    obtain ⟨i, hi⟩ := List.mem_iff_getElem?.mp hu'
    obtain ⟨k, _, ⟨_, _, ⟨ad, _, _, e, _⟩, _⟩⟩ := is0 i u hi
    exact ⟨ad, e⟩
  generalize keyFn _ (VO.node.toHVK.pair VO.node.toHVK) s1.heap ((0, 0), (0, 0)) = kf at hkf hmk
  refine call_set_V (V := VO.node.toHVK.pair VO.node.toHVK) (kf := kf) (us := its) (by rw [d2]; decide) (by rw [d2]; omega) nr hkf (I1.ok.hd hc) pl.isList (by omega) fun h' tk hG k => ?_
  refine Calls.spliced_nil ?_
  have few : (ddv (its.map kf)).length ≤ 64 := by have := ddv_len (its.map kf); rw [List.length_map] at this; omega
  refine Calls.call_function_entry kind_sorted plain_sorted entry_sorted (args_sorted1 _) ?_
  unfold Builtin.«sorted»
  refine wpAny_bind (m := checkCount "sorted" 1 1 _) (wpAny_pure (wpAny_bind ?_))
  refine collect_V (s := { s1 with heap := h', toks := tk }) (I1.ok.hd hc) few hG rfl fun h2 tk2 d acc ms k2 hp hmu hacc => ?_
  have hms : ms.length = (ddv (its.map kf)).length := by have := hp.length_eq; rwa [List.length_map] at this
  have hacm : acc.toList = ms := by
    apply List.ext_getElem?
    intro i
    cases ea : acc.toList[i]? with
    | none =>
      rw [List.getElem?_eq_none_iff, Array.length_toList, hacc.1] at ea
      rw [List.getElem?_eq_none ea]
    | some v =>
      rw [Array.getElem?_toList] at ea
      exact (hacc.2 i v ea).symm
  rw [hacm]
  have few2 : ms.length ≤ 63 := by rw [hms]; have := ddv_len (its.map kf); rw [List.length_map] at this; omega
  refine wpAny_bind (wpAny_newList ?_ (by rw [sizeLine_eq]; omega))
  have k1 : ∀ b o, s1.heap.get? b = some o → (h2.push { cls := .type "list", data := .seq ms.toArray }).get? b = some o := fun b o e => Heap.get?_push_of_some _ (k2 b o (k b o e))
  have hoL : (h2.push { cls := .type "list", data := .seq ms.toArray }).get? h2.objs.size = some (seqObj "list" ms.toArray 0) := Heap.get?_push_size _ rfl
  have hD' : s1.heap.objs.size ≤ h2.objs.size := by
    obtain ⟨o, _, _, _, ho, _⟩ := hG
    exact Nat.le_of_lt (Heap.lt_size (k2 _ _ ho))
  refine wpAny_bind (wpAny_holding (wpAny_call_entry slot_list_sort ⟨_, hoL, rfl⟩ entry_list_sort (lsort_V VO.node VO.node (s := { s1 with heap := h2.push { cls := .type "list", data := .seq ms.toArray }, toks := tk2, drawn := d }) (ks := ms.map kf) (by rw [List.length_map]) (by omega) (show X.A.in1.in1.units + 2 < cLine by show X.A.units + 1 + 1 + 2 < cLine; omega) ((0, 0), (0, 0)) ?_ hoL (hns.keeps k1) ?_) (args_list_sort _)))
  · intro i kk ek
    rw [List.getElem?_map] at ek
    obtain ⟨v, ev, rfl⟩ := Option.map_eq_some_iff.mp ek
    have : ms.getD i .none = v := by simp [List.getD, ev]
    rw [this]
    exact (VO.node.toHVK.pair VO.node.toHVK).keep (hkf v (hmu v (List.mem_of_getElem? ev))) fun b o _ _ e _ _ => k1 b o e
  · intro js out h3 c kp ns' hD ⟨pm, l1, pw⟩
    refine ⟨_, rfl, ?_⟩
    have lo : out.length = ms.length := by
      have := pm.length_eq
      rw [List.length_zip, List.length_zip, l1, List.length_map, Nat.min_self, Nat.min_self] at this
      exact this
    obtain ⟨ys, vy, py⟩ := lift_keys (R := PrV H1) js out l1 fun p hp => by
      have hz := pm.mem_iff.mp hp
      have hv : p.2 ∈ its ∧ p.1 = kf p.2 := by
        have ez : (ms.map kf).zip ms = ms.map fun v => (kf v, v) := by
          have e0 : ∀ l : List Value, (l.map kf).zip l = l.map fun v => (kf v, v) := fun l => by
            induction l with
            | nil => rfl
            | cons a r ih => rw [List.map_cons, List.zip_cons_cons, ih, List.map_cons]
          exact e0 ms
        rw [ez] at hz
        obtain ⟨v, hv, rfl⟩ := List.mem_map.mp hz
        exact ⟨hmu v hv, rfl⟩
      obtain ⟨i, hi⟩ := List.mem_iff_getElem?.mp hv.1
      obtain ⟨x, ex, rx⟩ := vals_get' rv hi
      obtain ⟨kk, ek, kx⟩ := paired_get pk ex
      have : kk = kf p.2 := by
        rw [← hmk, List.getElem?_map, hi] at ek
        exact (Option.some.inj ek).symm
      exact ⟨x, rx, by rw [hv.2, ← this]; exact kx⟩
    have I2 := inv_namesD (t' := tk2) (D := h2.objs.size) (u := .lst ys) (h' := h3) (inv_drawn d I1) (fun b o nb eb => kp b o nb (Nat.ne_of_lt (Nat.lt_of_lt_of_le (Heap.lt_size eb) hD')) (k1 b o eb)) (fun m' hm => ns_one hns hm ▸ ns') hD' ⟨by rw [vy.length, lo, sizeLine_eq]; omega, out, c, vy, hD⟩
    have pj : js.Perm (ms.map kf) := by
      have := pm.map Prod.fst
      rwa [zip_fst l1, zip_fst (by rw [List.length_map])] at this
    obtain ⟨nd, mem⟩ := ddv_spec (its.map kf)
    refine wpAny_pure ⟨_, rfl, .ref _, _, I2, rfl, q _ ys js (I1.hok.fresh hD') py ((pj.trans hp).nodup_iff.mpr nd) (fun kk => ?_) pw⟩
    rw [(pj.trans hp).mem_iff, mem, hmk]
end
end My
/-! ### a dict of any keys, walked by its keys and by its values -/
namespace My
open PySem PySem.Spec PyProof.Rows L2 PyProof
def RawD (h : Heap) (d : Addr) (es : Array DictEntry) (ep : Nat) : Prop := ∃ o, h.get? d = some o ∧ o.ExactDict ∧ o.data = .dict es ep
section
variable {prog : Program} {w : World} {A : Around} {E : Value → Shared → Prop} {s : Shared} {it d v : Addr} {es : Array DictEntry} {i ep : Nat}
theorem RawD.typeIs (x : RawD s.heap d es ep) : s.TypeIs (.ref d) "dict" := let ⟨o, ho, hc, _⟩ := x; ⟨o, ho, hc.1⟩
theorem rw_iter {Q : Value → Shared → Prop} (hd : (d == sysModules) = false) (hm : RawD s.heap d es ep)
    (hQ : Q (.ref s.heap.objs.size) { s with heap := s.heap.push { cls := .type "dict_keyiterator", data := .fields #[.ref d, .int 0 0, .int es.size 0, .int ep 0] } }) : wpAny (model prog w) A (pyIter (.ref d)) Q E s := by
  obtain ⟨o, ho, hc, hdat⟩ := id hm
  have hT := hm.typeIs
  refine wpAny_pyIter_slot hT PySem.F.slot_dict_iter (wpAny_call_entry PySem.F.slot_dict_iter hT PySem.F.entry_dict_iter ?_ (PySem.F.args_dict_iter_1 _))
  unfold Builtin.«dict.__iter__» Builtin.Dict.dictSlotNone
  refine wpAny_bind (wpAny_bind (wpAny_notOrdered_dict hT (show wpAny _ _ (pure (Value.ref d)) _ _ s from wpAny_pure (show wpAny _ _ (Builtin.Dict.showsAll d >>= _) _ _ s from ?_))))
  unfold Builtin.Dict.showsAll; rw [if_neg (by rw [hd]; exact Bool.false_ne_true)]
  exact wpAny_bind (wpAny_pure (wpAny_bind (wpAny_dictEntries ho hdat (wpAny_bind (wpAny_dictEpoch ho hdat (wpAny_bind (wpAny_newObj_type (wpAny_pure ⟨_, rfl, "dict_keyiterator", _, ⟨_, Heap.get?_push_size _ rfl, rfl⟩, PySem.F.slot_dict_keyiterator_next.lookup, by simpa [rawInt] using hQ⟩))))))))
theorem rw_nextK {Q : Option Value → Shared → Prop} {e : DictEntry} (hit : s.heap.IsKeyIter it d i es.size ep) (hm : RawD s.heap d es ep) (hx : es[i]? = some e)
    (hQ : ∀ h', h'.IsKeyIter it d (i + 1) es.size ep → Heap.SameBut it s.heap h' → Q (some e.key) { s with heap := h' }) : wpAny (model prog w) A (pyNext (.ref it)) Q E s := by
  obtain ⟨o, ho, hc, hd⟩ := id hit
  obtain ⟨od, hod, hcd, hdd⟩ := id hm
  obtain ⟨hlt, rfl⟩ := Array.getElem?_eq_some_iff.mp hx
  unfold pyNext
  refine wpAny_bind (wpAny_attempt (wpAny_callSpecial?_slot (name := Str.ofString "__next__") hit.typeIs PySem.F.slot_dict_keyiterator_next (wpAny_call_entry PySem.F.slot_dict_keyiterator_next hit.typeIs PySem.F.entry_dict_keyiterator_next ?_ (PySem.F.args_dict_keyiterator_next_1 _))))
  refine wpAny_bind (wpAny_pure (wpAny_bind (wpAny_bind (wpAny_bind (wpAny_typeNameOfWhole_keyiter hit.typeIs (wpAny_pure (wpAny_bind (wpAny_fieldsOf ho hd ?_))))))))
  simp only [show Builtin.Dict_items.ownsTuple "dict_keyiterator" = false by decide, Bool.false_eq_true, if_false]
  show wpAny _ _ (if (Value.ref d == Value.none) = true then _ else _) _ _ s; rw [if_neg (show ¬ ((Value.ref d == Value.none) = true) from Bool.false_ne_true)]
  refine wpAny_bind (wpAny_pure (wpAny_bind (wpAny_dictEntries hod hdd ?_)))
  rw [if_neg (by simp)]; refine wpAny_bind (wpAny_pure (wpAny_bind (wpAny_dictEpoch hod hdd ?_)))
  rw [if_neg (by simp)]; refine wpAny_pure ?_
  simp only [show ¬ ((i : Int) < 0) from by omega, if_false, Int.toNat_natCast, Array.getElem?_eq_getElem hlt]
  refine wpAny_bind (wpAny_bind (wpAny_typeNameOfWhole_keyiter hit.typeIs (wpAny_pure (wpAny_bind (wpAny_isOneOf_keyiter hit.typeIs (show wpAny _ _ (setField (.ref it) 1 (rawInt ((i : Int) + 1)) >>= _) _ _ s from wpAny_bind (wpAny_setField ho hd (by simp) ?_)))))))
  have hit' : (s.heap.update it (Obj.mapFields (·.setIfInBounds 1 (rawInt ((i : Int) + 1))))).IsKeyIter it d (i + 1) es.size ep :=
    ⟨_, Heap.get?_update_self _ ho (Obj.isFreed_of_fields (Obj.data_mapFields hd _)), (Obj.cls_mapFields ..).trans hc, by rw [Obj.data_mapFields hd]; simp [rawInt]⟩
  refine wpAny_bind (wpAny_holding (wpAny_bind (wpAny_isOneOf_keyiter (s := { s with heap := s.heap.update it (Obj.mapFields (·.setIfInBounds 1 (rawInt ((i : Int) + 1)))) }) hit'.typeIs (show wpAny _ _ (pure es[i].key) _ _ _ from ?_))))
  exact wpAny_pure (wpAny_pure ⟨_, rfl, wpAny_pure (hQ _ hit' (Heap.SameBut.update ..))⟩)
theorem rw_endK {Q : Option Value → Shared → Prop} (hh : A.handled = none) (hit : s.heap.IsKeyIter it d i es.size ep) (hm : RawD s.heap d es ep) (hx : es.size ≤ i)
    (hQ : ∀ h', (∀ b o, b ≠ it → s.heap.get? b = some o → h'.get? b = some o) → Q none { s with heap := h' }) : wpAny (model prog w) A (pyNext (.ref it)) Q E s := by
  obtain ⟨o, ho, hc, hd⟩ := id hit
  obtain ⟨od, hod, hcd, hdd⟩ := id hm
  unfold pyNext
  refine wpAny_bind (wpAny_attempt (wpAny_callSpecial?_slot (name := Str.ofString "__next__") hit.typeIs PySem.F.slot_dict_keyiterator_next (wpAny_call_entry PySem.F.slot_dict_keyiterator_next hit.typeIs PySem.F.entry_dict_keyiterator_next ?_ (PySem.F.args_dict_keyiterator_next_1 _))))
  refine wpAny_bind (wpAny_pure (wpAny_bind (wpAny_bind (wpAny_bind (wpAny_typeNameOfWhole_keyiter hit.typeIs (wpAny_pure (wpAny_bind (wpAny_fieldsOf ho hd ?_))))))))
  simp only [show Builtin.Dict_items.ownsTuple "dict_keyiterator" = false by decide, Bool.false_eq_true, if_false]
  show wpAny _ _ (if (Value.ref d == Value.none) = true then _ else _) _ _ s; rw [if_neg (show ¬ ((Value.ref d == Value.none) = true) from Bool.false_ne_true)]
  refine wpAny_bind (wpAny_pure (wpAny_bind (wpAny_dictEntries hod hdd ?_)))
  rw [if_neg (by simp)]; refine wpAny_bind (wpAny_pure (wpAny_bind (wpAny_dictEpoch hod hdd ?_)))
  rw [if_neg (by simp)]; refine wpAny_pure ?_
  simp only [show ¬ ((i : Int) < 0) from by omega, if_false, Int.toNat_natCast, Array.getElem?_eq_none hx]
  refine wpAny_bind (wpAny_bind (wpAny_typeNameOfWhole_keyiter hit.typeIs (wpAny_pure (show wpAny _ _ (setField (.ref it) 0 .none >>= _) _ _ s from wpAny_bind (wpAny_setField ho hd (by simp) ?_)))))
  exact stop_end (s := { s with heap := s.heap.update it (Obj.mapFields (·.setIfInBounds 0 Value.none)) }) hh fun h' k => hQ h' fun b o hb e => k b o ((Heap.get?_update_other _ _ (Ne.symm hb)).trans e)
end
/-- the object of a dict with tuples for keys: its entries -/
def DObj (ob : Obj) (es : Array DictEntry) (ep : Nat) : Prop := ob.ExactDict ∧ ob.data = .dict es ep
theorem dt_raw {P : Program} {w : World} {H : Hp} {h : Heap} {d : Addr} {ob : Obj} {kvs : List (List Key × V)} {es : Array DictEntry} {ep : Nat} (x : ObjOk P w H h d (.frz ob (.dT kvs))) (hob : DObj ob es ep) :
    RawD h d es ep ∧ es.size = kvs.length ∧ ∀ (i : Nat) k v, kvs[i]? = some (k, v) → ∃ e b, es[i]? = some e ∧ e.key = .ref b ∧ H b = some (.tup (k.map kV)) ∧ RelV v e.val := by
  obtain ⟨ho, _, _, xs, r, o, es', ep', h1, h2, h3, h4, h5⟩ := x
  rw [ho] at h1
  cases h1
  rw [hob.2] at h3
  cases h3
  refine ⟨⟨ob, ho, hob.1, hob.2⟩, ?_, fun i k v e => ?_⟩
  · have := congrArg List.length h4
    rw [Array.length_toList, List.length_map, ← Paired.length r] at this
    exact this
  · obtain ⟨q, hq, q1, q2, q3⟩ := paired_get r e
    refine ⟨entryOfKey (tupleKind (mixKind P w)) q, q.2.1, ?_, rfl, q2, q3⟩
    rw [← Array.getElem?_toList, h4, List.getElem?_map, hq]
    rfl
def ItKT (d : Addr) (ob : Obj) (kvs : List (List Key × V)) : It :=
  ⟨fun i H => H d = some (.frz ob (.dT kvs)) ∧ i < kvs.length, fun i H v H' => H' = H ∧ ∃ k x b, kvs[i]? = some (k, x) ∧ v = .ref b ∧ H b = some (.tup (k.map kV)), fun i H => H d = some (.frz ob (.dT kvs)) ∧ i = kvs.length⟩
section
variable {P : Program} {w : World} {K : PySem.W.Frag}
theorem turn_keysT {tg : Expr} (d it ep : Addr) (ob : Obj) (kvs : List (List Key × V)) (es : Array DictEntry) (hob : DObj ob es ep) : Turn P w K tg (ItKT d ob kvs) [it] it (fun i h => h.IsKeyIter it d i es.size ep) where
  mem := by simp
  obj := fun i h hi c hc => by
    rw [List.mem_singleton.mp hc]
    obtain ⟨o, eo, _, dd⟩ := hi
    exact ⟨o, eo, fun v z => by rw [dd] at z; cases z⟩
  keep := fun i h h' hi k => hi.at fun o eo => k it (by simp) o eo
  item := by
    intro X hP hw hK hc i pins s σ H E I hf st hg
    subst hP hw hK
    obtain ⟨hd, hi⟩ := hg
    obtain ⟨raw, sz, at_⟩ := dt_raw (I.hok d _ hd) hob
    obtain ⟨⟨k, x⟩, hq⟩ : ∃ q, kvs[i]? = some q := ⟨_, List.getElem?_eq_getElem hi⟩
    obtain ⟨e, b, he, hb, hB, rx⟩ := at_ i k x hq
    refine rw_nextK st raw he fun h' hi' hs' => ?_
    obtain ⟨f0, f1, f2, f3, f4, f5⟩ := hf it (by simp)
    obtain ⟨o', eo', co', do'⟩ := id hi'
    exact ⟨e.key, rfl, go_of eo' co' do' (by decide) ⟨.ref b, H, I.turned (t' := s.toks) (fun b o hb eo => (hs'.2 b hb).trans eo) f0 f1 f3 f4 f5, hb, ⟨rfl, k, x, b, hq, rfl, hB⟩, hi', fun c hcm => by rw [List.mem_singleton.mp hcm]; exact f0⟩⟩
  done := by
    intro X hP hw hK hc i pins s σ H E I hf st hg
    subst hP hw hK
    obtain ⟨hd, hi⟩ := hg
    obtain ⟨raw, sz, _⟩ := dt_raw (I.hok d _ hd) hob
    refine rw_endK (I.ok.hd hc) st raw (by omega) fun h' k => ⟨rfl, ?_⟩
    obtain ⟨f0, f1, f2, f3, f4, f5⟩ := hf it (by simp)
    exact I.turned (t' := s.toks) (fun b o hb eo => k b o hb eo) f0 f1 f3 f4 f5
  self := fun _ _ _ _ _ st h => wpAny_pyIter_keyiter st h
end
end My
/-! ### min(nodes), xs.remove(node), node in nodes; walks over dicts with tuples for keys; dict(pairs) with such keys -/
namespace My
open PySem PySem.Spec PySem.W PyProof.Rows L2 PyProof PySem.SeqAt
abbrev nodeK : HVK Nk := VO.int.toHVK.pair VO.int.toHVK
theorem node_lt {prog : Program} {w : World} {A : Around} {E : Value → Shared → Prop} {s : Shared} {x y : Nk} {u v : Value} {Q : Value → Shared → Prop} (hu : A.units < cLine) (hx : nodeK.is s.heap x u) (hy : nodeK.is s.heap y v) (h : Q (.bool (ltN x y)) s) : wpAny (model prog w) A (compareOp .Lt u v) Q E s := by
  obtain ⟨u1, u2, ⟨a, o, n, e, ho, hc, hd⟩, ⟨t1, e1⟩, ⟨t2, e2⟩⟩ := hx
  obtain ⟨v1, v2, ⟨a', o', n', e', ho', hc', hd'⟩, ⟨t1', e1'⟩, ⟨t2', e2'⟩⟩ := hy
  subst e; subst e'; subst e1; subst e2; subst e1'; subst e2'
  refine HT.lt_tupInts (ns := [x.1, x.2]) (ms := [y.1, y.2]) ⟨o, ho, hc, n, hd⟩ ⟨o', ho', hc', n', hd'⟩ (.cons _ _ (.cons _ _ .nil)) (.cons _ _ (.cons _ _ .nil)) hu ?_
  have el : HT.lexLt [x.1, x.2] [y.1, y.2] = ltN x y := by
    unfold ltN ltP
    rw [HT.lexLt_cons, HT.lexLt_cons, HT.lexLt_nil_nil]
    by_cases q : x.1 = y.1
    · rw [if_pos q, if_pos q]
      by_cases q2 : x.2 = y.2
      · rw [if_pos q2, q2]; exact (VO.int.irr _).symm
      · rw [if_neg q2]; rfl
    · rw [if_neg q, if_neg q]; rfl
  rw [el]
  exact h
theorem ltN_irr (x : Nk) : ltN x x = false := ltP_irr VO.int VO.int x
theorem ltN_tr {x y z : Nk} (a : ltN x y = true) (b : ltN y z = true) : ltN x z = true := ltP_tr VO.int VO.int x y z a b
theorem ltN_tot {x y : Nk} (n : x ≠ y) (h : ltN x y = false) : ltN y x = true := ltP_tot VO.int VO.int x y n h
section
variable {prog : Program} {w : World} {A : Around}
end
section
variable {X : Cx} {pins : List (Addr × Obj)} {σ : L2.St} {H : Hp} {s : Shared}
theorem nd_eq (I : Inv X pins σ H s) {A : Around} (hu : A.units + 1 < cLine) {v x : V} {n k : Nk} {u z : Value} (h : NdV H v n) (r : RelV v u) (h' : NdV H x k) (r' : RelV x z) : EqAt A s u z (decide (n = k)) := nodeK.eq (show A.units + 1 < cLine from hu) (nd_is I h r) (nd_is I h' r')
end
/-- node in nodes -/
def rInN (K : PySem.W.Frag) : R2 := fun x y H Q => ∃ (l : Addr) (xs : List V) (ks : List Nk) (k : Nk), y = .ref l ∧ SqL K H l xs ∧ Paired (NdV H) xs ks ∧ NdV H x k ∧ Q (.bl (decide (k ∈ ks))) H
def rNinN (K : PySem.W.Frag) : R2 := fun x y H Q => ∃ (l : Addr) (xs : List V) (ks : List Nk) (k : Nk), y = .ref l ∧ SqL K H l xs ∧ Paired (NdV H) xs ks ∧ NdV H x k ∧ Q (.bl (!decide (k ∈ ks))) H
section
variable {X : Cx} {pins : List (Addr × Obj)} {σ : L2.St} {H : Hp} {s : Shared}
theorem in_all (I : Inv X pins σ H s) {A : Around} (hu : A.units + 1 < cLine) {xs : List V} {ks : List Nk} {its : List Value} {x : V} {k : Nk} {u : Value} (rv : Vals xs its) (pk : Paired (NdV H) xs ks) (hx : NdV H x k) (ru : RelV x u) :
    ∃ e : Value → Bool, (∀ y, y ∈ its.toArray → EqAt A s y u (e y)) ∧ (its.toArray.any e) = decide (k ∈ ks) := by
  classical
  refine ⟨fun y => decide (∃ n, nodeK.is s.heap n y ∧ n = k), fun y hy => ?_, ?_⟩
  · obtain ⟨i, hi⟩ := List.mem_iff_getElem?.mp (by simpa using hy)
    obtain ⟨x', ex, rx⟩ := vals_get' rv hi
    obtain ⟨n, en, kn⟩ := paired_get pk ex
    have := nd_eq I hu kn rx hx ru
    have e : decide (n = k) = decide (∃ n, nodeK.is s.heap n y ∧ n = k) := by
      by_cases q : n = k
      · rw [decide_eq_true q, decide_eq_true ⟨n, nd_is I kn rx, q⟩]
      · rw [decide_eq_false q, decide_eq_false]
        rintro ⟨m, im, rfl⟩
        exact q (nodeK.inj (nd_is I kn rx) im)
    show EqAt A s y u (decide (∃ n, nodeK.is s.heap n y ∧ n = k))
    rw [← e]
    exact this
  · rw [Bool.eq_iff_iff, Array.any_eq_true, decide_eq_true_eq]
    constructor
    · rintro ⟨i, hi, q⟩
      obtain ⟨n, im, rfl⟩ := of_decide_eq_true q
      have hi' : its[i]? = some (its.toArray[i]) := by simp at hi ⊢
      obtain ⟨x', ex, rx⟩ := vals_get' rv hi'
      obtain ⟨m, em, km⟩ := paired_get pk ex
      rw [nodeK.inj im (nd_is I km rx)]
      exact List.mem_of_getElem? em
    · intro q
      obtain ⟨i, hi⟩ := List.mem_iff_getElem?.mp q
      obtain ⟨x', ex, kx⟩ := paired_getR pk hi
      obtain ⟨y, ey, ry⟩ := rv.get ex
      obtain ⟨hl, e⟩ := List.getElem?_eq_some_iff.mp ey
      refine ⟨i, by simpa using hl, decide_eq_true ⟨k, ?_, rfl⟩⟩
      have : its.toArray[i]'(by simpa using hl) = y := by simpa using e
      rw [this]
      exact nd_is I kx ry
end
theorem op_inN {X : Cx} {K : PySem.W.Frag} (hu : X.A.units + 16 < cLine) (hK : X.K = K) : OpR X (compareOp .In) (rInN K) := by
  subst hK
  intro pins s σ H x y v u Q I rx ry h
  obtain ⟨l, xs, ks, k, rfl, hl, pk, hx, q⟩ := h
  cases ry
  obtain ⟨its, rv, pl, _⟩ := I.list hl
  obtain ⟨e, he, ha⟩ := in_all I (A := X.A.in1) (show X.A.units + 1 + 1 < cLine by omega) rv pk hx rx
  refine in_listAt e pl.isList he ?_
  rw [ha]
  exact ⟨.bl _, H, I, rfl, q⟩
theorem op_ninN {X : Cx} {K : PySem.W.Frag} (hu : X.A.units + 16 < cLine) (hK : X.K = K) : OpR X (compareOp .NotIn) (rNinN K) := by
  subst hK
  intro pins s σ H x y v u Q I rx ry h
  obtain ⟨l, xs, ks, k, rfl, hl, pk, hx, q⟩ := h
  cases ry
  obtain ⟨its, rv, pl, _⟩ := I.list hl
  obtain ⟨e, he, ha⟩ := in_all I (A := X.A.in1) (show X.A.units + 1 + 1 < cLine by omega) rv pk hx rx
  refine notIn_listAt e pl.isList he ?_
  rw [ha]
  exact ⟨.bl _, H, I, rfl, q⟩
theorem inv_freezeT {X : Cx} {pins : List (Addr × Obj)} {σ : L2.St} {H : Hp} {s : Shared} {d : Addr} {ob : Obj} {kvs : List (List Key × V)} (I : Inv X pins σ H s) (e : H d = some (.dT kvs)) (ho : s.heap.get? d = some ob) : Inv X pins σ (upd H d (.frz ob (.dT kvs))) s := by
  have ne : ∀ b, H b = none → b ≠ d := fun b q z => by rw [z, e] at q; cases q
  refine ⟨I.ok, I.os, I.bare, ⟨I.base.keep, I.base.slot, fun b o q n hx => ?_, I.base.there, fun b xs q => ?_, fun b o u q => ?_, fun b ps q => ?_⟩, I.loc, I.cell, ?_, fun x c q => ?_, fun p hp => ?_, fun b u q => ?_, I.len⟩
  · have := I.base.free b o q n hx
    rw [upd_ne (ne b this)]; exact this
  · have := I.base.tups b xs q
    rw [upd_ne fun z => by rw [z, e] at this; cases this]; exact this
  · have := I.base.frzs b o u q
    rw [upd_ne fun z => by rw [z, e] at this; cases this]; exact this
  · obtain ⟨more, q2⟩ := I.base.tbls b ps q
    exact ⟨more, by rw [upd_ne fun z => by rw [z, e] at q2; cases q2]; exact q2⟩
  · rw [upd_ne (ne _ I.free)]; exact I.free
  · rw [upd_ne (ne _ (I.freeC x c q))]; exact I.freeC x c q
  · obtain ⟨a1, a2, a3⟩ := I.pin p hp
    exact ⟨a1, by rw [upd_ne (ne _ a2)]; exact a2, a3⟩
  · by_cases hb : b = d
    · subst hb
      rw [upd_same] at q
      cases q
      exact ⟨ho, (I.hok b _ e).stay (fun c v _ z => z) (fun c z => by rw [upd_ne fun y => by rw [y, e] at z; cases z]; exact z) fun c xs z => by rw [upd_ne fun y => by rw [y, e] at z; cases z]; exact z⟩
    · rw [upd_ne hb] at q
      exact (I.hok b u q).stay (fun c v _ z => z) (fun c z => by rw [upd_ne fun y => by rw [y, e] at z; cases z]; exact z) fun c xs z => by rw [upd_ne fun y => by rw [y, e] at z; cases z]; exact z
section
variable {X : Cx}
/-- the dict held as it is -/
theorem dt_hold {pins : List (Addr × Obj)} {σ : L2.St} {H1 : Hp} {s1 : Shared} {d : Addr} {kvs : List (List Key × V)} (I1 : Inv X pins σ H1 s1) (hd : Rd H1 d (.dT kvs)) :
    ∃ ob H2 es ep, Inv X pins σ H2 s1 ∧ H2 d = some (.frz ob (.dT kvs)) ∧ (∀ b o, b ≠ d → H1 b = some o → H2 b = some o) ∧ (∀ b, b ≠ d → H1 b = none → H2 b = none) ∧ DObj ob es ep ∧ (d == sysModules) = false ∧ RawD s1.heap d es ep := by
  obtain ⟨ob, H2, I2, h2, k2, n2⟩ : ∃ ob H2, Inv X pins σ H2 s1 ∧ H2 d = some (.frz ob (.dT kvs)) ∧ (∀ b o, b ≠ d → H1 b = some o → H2 b = some o) ∧ ∀ b, b ≠ d → H1 b = none → H2 b = none := by
    rcases hd with e | ⟨ob, e⟩
    · obtain ⟨ob, eo⟩ := obj_some (I1.hok d _ e)
      exact ⟨ob, _, inv_freezeT I1 e eo, upd_same, fun b o n q => by rw [upd_ne n]; exact q, fun b n q => by rw [upd_ne n]; exact q⟩
    · exact ⟨ob, H1, I1, e, fun _ _ _ q => q, fun _ _ q => q⟩
  obtain ⟨ho, _, hs, xs, r, o, es, ep, e1, e2, e3, e4, e5⟩ := (show ObjOk X.prog X.w H2 s1.heap d (.frz ob (.dT kvs)) from I2.hok d _ h2)
  rw [ho] at e1
  cases e1
  exact ⟨ob, H2, es, ep, I2, h2, k2, n2, ⟨e2, e3⟩, hs, ob, ho, e2, e3⟩
def iKeysT (td : TE) : TI := fun σ H R => td σ H fun x H1 => ∃ d kvs, x = .ref d ∧ Rd H1 d (.dT kvs) ∧ ∀ ob H2, H2 d = some (.frz ob (.dT kvs)) → (∀ b o, b ≠ d → H1 b = some o → H2 b = some o) → (∀ b, b ≠ d → H1 b = none → H2 b = none) → R (ItKT d ob kvs) H2
theorem pi_keysT {tg o : Expr} {td : TE} (ho : PE X o td) : PI X tg o (iKeysT td) := by
  constructor; intro pins s σ H R I h
  refine thn (ho pins s σ H _ I h) fun v s1 ⟨x, H1, I1, r1, d, kvs, ex, hd, q⟩ => ?_
  subst ex
  cases r1
  obtain ⟨ob, H2, es, ep, I2, h2, k2, n2, hob, hs, raw⟩ := dt_hold I1 hd
  refine rw_iter hs raw ?_
  have I3 := I2.kept (t' := s1.toks) (h' := s1.heap.push { cls := .type "dict_keyiterator", data := .fields #[.ref d, .int 0 0, .int es.size 0, .int ep 0] }) fun b o e => Heap.get?_push_of_some _ e
  exact ⟨_, [s1.heap.objs.size], _, _, H2, rfl, I3, turn_keysT d _ ep ob kvs es hob, ⟨_, Heap.get?_push_size _ rfl, rfl, rfl⟩, fun b hb => by
    rw [List.mem_singleton.mp hb]
    exact I2.fpOk (Nat.le_refl _) (I2.hok.fresh (Nat.le_refl _)), q ob H2 h2 k2 n2⟩
end
end My
/-! ### dict(pairs), the keys tuples -/
namespace My
open PySem PySem.Spec PyProof.Rows L2 PyProof
theorem storedH_len {K : Type} [DecidableEq K] (xs : List (K × Addr × Value)) (k : K) (a : Addr) (v : Value) : (storedH xs k a v).length ≤ xs.length + 1 := by
  unfold storedH
  split <;> simp
def storedAllH {K : Type} [DecidableEq K] (xs : List (K × Addr × Value)) (ps : List (K × Addr × Value)) : List (K × Addr × Value) := ps.foldl (fun a q => storedH a q.1 q.2.1 q.2.2) xs
section
variable {prog : Program} {w : World} {A : Around} {E : Value → Shared → Prop} {s : Shared}
theorem dictH_keep {h h' : Heap} {D : Addr} {xs : List (List Key × Addr × Value)} (x : h.DictOfH (tupleKind (mixKind prog w)) D xs) (kD : ∀ o, h.get? D = some o → h'.get? D = some o) (kT : ∀ b o ys n, h.get? b = some o → o.data = .seq ys n → h'.get? b = some o) : h'.DictOfH (tupleKind (mixKind prog w)) D xs := by
  obtain ⟨o, es, ep, e1, e2, e3, e4, e5, e6⟩ := x
  refine ⟨o, es, ep, kD o e1, e2, e3, e4, fun y hy => ?_, e6⟩
  obtain ⟨oo, its, n, f1, f2, f3, f4⟩ := e5 y hy
  exact ⟨oo, its, n, kT _ _ _ _ f1 f3, f2, f3, f4⟩
theorem dt_loop {R : Result → Shared → Prop} {I D l : Addr} {us : List Value} {ks : List (List Key × Addr × Value)} (hu : A.units + 4 < cLine) (hh : A.handled = none) (hlI : l ≠ I) (hDI : D ≠ I) (hDl : D ≠ l) (hlen : us.length = ks.length) (hsz : ks.length < 1000000) :
    ∀ (k i : Nat) (s : Shared), us.length - i = k → i ≤ us.length → s.heap.IsListIter I l i → s.heap.IsList l us.toArray → (∀ (j : Nat) u, us[j]? = some u → ∃ t q, u = .ref t ∧ ks[j]? = some q ∧ s.heap.IsTuple t #[.ref q.2.1, q.2.2] ∧ (tupleKind (mixKind prog w)).is s.heap q.1 q.2.1) →
      (∃ xs, s.heap.DictOfH (tupleKind (mixKind prog w)) D xs ∧ xs = storedAllH [] (ks.take i) ∧ xs.length ≤ i) →
      (∀ h' tk, (∀ b o, b ≠ I → b ≠ D → s.heap.get? b = some o → h'.get? b = some o) → h'.DictOfH (tupleKind (mixKind prog w)) D (storedAllH [] ks) → R (.ok (.ret .none)) { s with heap := h', toks := tk }) →
      codeAny (model prog w) A (.builtin "dict.update.loop" ⟨[.ref D, .ref I, rawInt i, .none], []⟩) R s := by
  have W := Walks.list (prog := prog) (w := w) (A := A.in1) hh I l hlI us.toArray
  have us0 : us.toArray.size = us.length := by simp
  have noI : ∀ {s : Shared} {i : Nat}, s.heap.IsListIter I l i → ∀ b o ys n, s.heap.get? b = some o → o.data = .seq ys n → b ≠ I := fun {s i} hit b o ys n ho hd z => by
    obtain ⟨o', ho', hc, hd'⟩ := hit
    rw [z, ho'] at ho
    cases ho
    rw [hd] at hd'
    cases hd'
  have noD : ∀ {h : Heap} {xs : List (List Key × Addr × Value)}, h.DictOfH (tupleKind (mixKind prog w)) D xs → ∀ b o ys n, h.get? b = some o → o.data = .seq ys n → b ≠ D := fun {h xs} dd b o ys n ho hd z => by
    obtain ⟨o', es, ep, e1, e2, e3, _⟩ := dd
    rw [z, e1] at ho
    cases ho
    rw [hd] at e3
    cases e3
  intro k
  induction k with
  | zero =>
    intro i s hk hi hit hil ht hg hR
    have hin : i = us.length := by omega
    refine codeAny_builtin dp_entry ?_
    rw [Around.under_plainId dp_plain _]
    refine wpAny_bind (W.done s _ _ ⟨by rw [us0, ← hin]; exact hit, hil⟩ fun h' tk hk' => ?_)
    obtain ⟨xs, dd, rfl, _⟩ := hg
    rw [hin, hlen, List.take_length] at dd
    exact wpAny_bind (wpAny_pure (wpAny_pure (hR h' tk (fun b o b1 _ e => hk' b o (by simpa using b1) e) (dictH_keep dd (fun o e => hk' D o (by simpa using hDI) e) fun b o ys n e d => hk' b o (by simpa using noI hit b o ys n e d) e))))
  | succ k ih =>
    intro i s hk hi hit hil ht hg hR
    have hlt : i < us.length := by omega
    refine codeAny_builtin dp_entry ?_
    rw [Around.under_plainId dp_plain _]
    refine wpAny_bind (W.item i s _ _ (by rw [us0]; exact hlt) ⟨hit, hil⟩ fun v h1 tk1 hP hst hk1 => ?_)
    obtain ⟨t, q, rfl, hq, hT, hkk⟩ := ht i v (by simpa using hP)
    obtain ⟨xs, dd, evs, hvl⟩ := hg
    obtain ⟨oT, hoT, hcT, nT, hdT⟩ := id hT
    have kT1 : ∀ b o ys n, s.heap.get? b = some o → o.data = .seq ys n → h1.get? b = some o := fun b o ys n e d => hk1 b o (by simpa using noI hit b o ys n e d) e
    have hoT1 := kT1 t oT _ _ hoT hdT
    refine wpAny_bind (wpAny_holding (wpAny_bind (wpAny_tryCatch ?_)))
    unfold Builtin.Dict.pairItems
    refine wpAny_bind (wpAny_typeOf (T := "tuple") ⟨oT, hoT1, hcT⟩ ?_)
    rw [if_pos (by decide)]
    refine wpAny_bind (wpAny_seqItems hoT1 hdT (wpAny_pure ?_))
    show wpAny _ _ (holding [.ref q.2.1, q.2.2] (dictSet D (.ref q.2.1) q.2.2)) _ _ _
    have dd1 : h1.DictOfH (tupleKind (mixKind prog w)) D xs := dictH_keep dd (fun o e => hk1 D o (by simpa using hDI) e) kT1
    have hkk1 : (tupleKind (mixKind prog w)).is h1 q.1 q.2.1 := let ⟨oo, its, n, f1, f2, f3, f4⟩ := hkk; ⟨oo, its, n, kT1 _ _ _ _ f1 f3, f2, f3, f4⟩
    refine wpAny_holding (wpAny_dictSet_heap (s := { s with heap := h1, toks := tk1 }) (show A.units + 1 < cLine by omega) hkk1 dd1 (fun h2 dd2 sb => ?_) (Nat.le_trans hvl (Nat.le_trans hi (by rw [hlen]; exact Nat.le_trans (Nat.le_of_lt hsz) (by decide)))))
    have oth : ∀ b, b ≠ D → h2.get? b = h1.get? b := fun b hb => sb.2 b hb
    have kT2 : ∀ b o ys n, s.heap.get? b = some o → o.data = .seq ys n → h2.get? b = some o := fun b o ys n e d => (oth b (noD dd b o ys n e d)).trans (kT1 b o ys n e d)
    refine wpAny_pure ⟨plainId_quiet dp_plain _, ?_⟩
    have en : rawInt ((i : Int) + 1) = rawInt ((i + 1 : Nat) : Int) := by rw [Int.natCast_add]; rfl
    rw [en]
    refine ih (i + 1) { s with heap := h2, toks := tk1 + (tupleKind (mixKind prog w)).draws q.1 } (by omega) hlt (hst.1.at fun o e => (oth I hDI.symm).trans e) (hst.2.at fun o e => (oth l hDl.symm).trans e) (fun j u eu => ?_) ⟨_, dd2, ?_, ?_⟩ fun h3 tk3 k3 dd3 => ?_
    · obtain ⟨t', q', e1, e2, ⟨oT', hoT', hc', nT', hd'⟩, ⟨oo, its, n, f1, f2, f3, f4⟩⟩ := ht j u eu
      exact ⟨t', q', e1, e2, ⟨oT', kT2 _ _ _ _ hoT' hd', hc', nT', hd'⟩, ⟨oo, its, n, kT2 _ _ _ _ f1 f3, f2, f3, f4⟩⟩
    · rw [List.take_add_one, hq, evs]
      unfold storedAllH
      rw [List.foldl_append]
      rfl
    · have := storedH_len xs q.1 q.2.1 q.2.2
      omega
    · exact hR h3 tk3 (fun b o b1 b2 e => k3 b o b1 b2 ((oth b b2).trans (hk1 b o (by simpa using b1) e))) dd3
end
/-- a list of pairs whose first things are tuples -/
inductive PrsT (K : PySem.W.Frag) (H : Hp) : List V → List (List Key × V) → Prop where
  | nil : PrsT K H [] []
  | cons {t b : Addr} {q : List Key × V} {ws : List V} {ps : List (List Key × V)} (h : SqT K H t [.ref b, q.2]) (hb : H b = some (.tup (q.1.map kV))) (r : PrsT K H ws ps) : PrsT K H (.ref t :: ws) (q :: ps)
def putAllT (kvs ps : List (List Key × V)) : List (List Key × V) := ps.foldl (fun a q => putK a q.1 q.2) kvs
theorem kt_all {H : Hp} : ∀ {ps : List (List Key × V)} {ks : List (List Key × Addr × Value)} {kvs : List (List Key × V)} {xs : List (List Key × Addr × Value)}, KT H ps ks → KT H kvs xs → KT H (putAllT kvs ps) (storedAllH xs ks)
  | _, _, _, _, .nil, h => h
  | _, _, _, _, .cons (a := p) (b := q) e r, h => by
    have := KT.put h p.1 e.2.1 e.2.2
    rw [show storedH _ p.1 q.2.1 q.2.2 = storedH _ q.1 q.2.1 q.2.2 by rw [e.1]] at this
    have h2 := kt_all r this
    exact h2
theorem putAllT_len : ∀ (ps kvs : List (List Key × V)), (putAllT kvs ps).length ≤ kvs.length + ps.length
  | [], kvs => Nat.le_refl _
  | q :: r, kvs => by
    have h1 := putAllT_len r (putK kvs q.1 q.2)
    have h2 := length_putK kvs q.1 q.2
    show (putAllT (putK kvs q.1 q.2) r).length ≤ kvs.length + (r.length + 1)
    omega
theorem prsT_ks {X : Cx} {pins : List (Addr × Obj)} {σ : L2.St} {H : Hp} {s : Shared} (I : Inv X pins σ H s) : ∀ {ws : List V} {ps : List (List Key × V)} {its : List Value}, PrsT X.K H ws ps → Vals ws its →
    ∃ ks : List (List Key × Addr × Value), KT H ps ks ∧ its.length = ks.length ∧ ∀ (j : Nat) u, its[j]? = some u → ∃ t q, u = .ref t ∧ ks[j]? = some q ∧ s.heap.IsTuple t #[.ref q.2.1, q.2.2] ∧ (tupleKind (mixKind X.prog X.w)).is s.heap q.1 q.2.1
  | _, _, _, .nil, .nil => ⟨[], .nil, rfl, fun j u e => by simp at e⟩
  | _, _, _, .cons (b := b) (q := q) h hb r, .cons rv rr => by
    obtain ⟨ks, k1, k2, k3⟩ := prsT_ks I r rr
    obtain ⟨its, r2, ⟨o, ho, hr⟩, _⟩ := I.tuple h
    obtain ⟨ku, vu, rfl, e1, e2⟩ := vals2 r2
    cases rv
    cases e1
    refine ⟨(q.1, b, vu) :: ks, .cons ⟨rfl, hb, e2⟩ k1, by simp [k2], fun j u e => ?_⟩
    cases j with
    | zero =>
      cases e
      exact ⟨_, (q.1, b, vu), rfl, rfl, ⟨o, ho, hr.1, hr.2⟩, key_of I.hok hb⟩
    | succ j => exact k3 j u (by simpa using e)
theorem call_dictT {X : Cx} {K : PySem.W.Frag} (hu : X.A.units + 16 < cLine) (hK : X.K = K) (hc : X.calm = true) : CallR X (.type "dict") (fun xs H Q => ∃ (a : Addr) (ws : List V) (ps : List (List Key × V)), xs = [V.ref a] ∧ H a = some (.lst ws) ∧ PrsT K H ws ps ∧ ps.length < 1000000 ∧ ∀ p, H p = none → Q (.ref p) (upd H p (.dT (putAllT [] ps)))) := by
  subst hK
  intro pins s σ H xs us Q I r h
  obtain ⟨a, ws, ps, rfl, ha, hp, hz, q⟩ := h
  obtain ⟨u, rfl, ru⟩ := vals1 r
  cases ru
  obtain ⟨its, rv, pl, _⟩ := I.list (SqL.of ha)
  obtain ⟨ks, k1, k2, k3⟩ := prsT_ks I hp rv
  have kl : ks.length = ps.length := (Paired.length k1).symm
  have hal : a < s.heap.objs.size := by obtain ⟨_, _, e, _⟩ := pl; exact Heap.lt_size e
  refine callType_codes (Q₁ := fun obj s₁ => obj = .ref s.heap.objs.size ∧ s₁ = { s with heap := s.heap.push { cls := .type "dict", data := .dict #[] } }) PySem.F.kt_called_dict (PySem.F.kt_typeCall_dict_1 _) PySem.F.entry_dict_init (PySem.kt_code_dict_new _ ⟨rfl, rfl⟩) fun obj s₁ ⟨e1, e2⟩ => ?_
  subst e1 e2
  have hnew : (s.heap.push { cls := .type "dict", data := .dict #[] }).DictOfH (tupleKind (mixKind X.prog X.w)) s.heap.objs.size [] := Heap.DictOfH.new s.heap
  have hTd : Shared.TypeIs { s with heap := s.heap.push { cls := .type "dict", data := .dict #[] } } (.ref s.heap.objs.size) "dict" := ⟨_, Heap.get?_push_size _ rfl, rfl⟩
  refine ⟨hTd, PySem.F.args_dict_init_2 _ _, ?_⟩
  unfold Builtin.«dict.__init__» Builtin.Dict.selfAndRest
  refine wpAny_bind (wpAny_bind (wpAny_notOrdered_dict hTd (show wpAny _ _ (pure (s.heap.objs.size, [Value.ref a])) _ _ _ from wpAny_pure ?_)))
  show wpAny _ _ (Builtin.Dict.updateFrom "dict.__init__" s.heap.objs.size (.ref a) [] .none) _ _ _
  unfold Builtin.Dict.updateFrom
  have pl1 : PlainL (s.heap.push { cls := .type "dict", data := .dict #[] }) a its.toArray := pl.keeps fun b o e => Heap.get?_push_of_some _ e
  obtain ⟨oa, na, hoa, hca, _⟩ := id pl1
  refine wpAny_bind (wpAny_typeOf (T := "list") ⟨oa, hoa, hca⟩ ?_)
  rw [if_pos (by decide)]
  refine wpAny_bind (no_keys (s := { s with heap := s.heap.push { cls := .type "dict", data := .dict #[] } }) pl1 (I.ok.hd hc) fun h1 tk1 hk1 => ?_)
  rw [if_pos (show (none : Option Value).isNone = true from rfl)]
  have pl2 := pl1.keeps hk1
  refine wpAny_bind (wpAny_rule (wpAny_bind (wpAny_pyIter_list pl2.isList ?_)))
  have dd1 : (h1.push { cls := .type "list_iterator", data := .fields #[.ref a, .int 0 0] }).DictOfH (tupleKind (mixKind X.prog X.w)) s.heap.objs.size [] := dictH_keep hnew (fun o e => Heap.get?_push_of_some _ (hk1 _ _ e)) fun b o _ _ e _ => Heap.get?_push_of_some _ (hk1 _ _ e)
  have hDl : s.heap.objs.size < h1.objs.size := by obtain ⟨o, es, ep, ho, r⟩ := hnew; exact Heap.lt_size (hk1 _ _ ho)
  have haI : a < h1.objs.size := Nat.lt_trans hal hDl
  have kp : ∀ b o, s.heap.get? b = some o → (h1.push { cls := .type "list_iterator", data := .fields #[.ref a, .int 0 0] }).get? b = some o := fun b o e => Heap.get?_push_of_some _ (hk1 _ _ (Heap.get?_push_of_some _ e))
  refine wpAny_pure ⟨plainId_quiet dp_plain _, dt_loop (A := X.A.in1) (s := { s with heap := h1.push { cls := .type "list_iterator", data := .fields #[.ref a, .int 0 0] }, toks := tk1 }) (I := h1.objs.size) (D := s.heap.objs.size) (show X.A.units + 1 + 4 < cLine by omega) (I.ok.hd hc) (Nat.ne_of_lt haI) (Nat.ne_of_lt hDl) (Nat.ne_of_gt hal) k2 (by rw [kl]; exact hz) its.length 0 rfl (Nat.zero_le _) ⟨_, Heap.get?_push_size _ rfl, rfl, rfl⟩ (pl2.isList.push _) (fun j u eu => ?_) ⟨[], dd1, rfl, Nat.le_refl _⟩ fun h3 tk3 k3' dd3 => ?_⟩
  · obtain ⟨t, q', e1, e2, ⟨oT, hoT, r'⟩, ⟨oo, its', n, f1, f2⟩⟩ := k3 j u eu
    exact ⟨t, q', e1, e2, ⟨oT, kp _ _ hoT, r'⟩, ⟨oo, its', n, kp _ _ f1, f2⟩⟩
  · refine ⟨rfl, .ref _, _, ?_, rfl, q _ (I.hok.fresh (Nat.le_refl _))⟩
    refine I.laid (a := s.heap.objs.size) (o := .dT (putAllT [] ps)) (t' := tk3) (fun b o e => k3' b o (Nat.ne_of_lt (Nat.lt_trans (Heap.lt_size e) hDl)) (Nat.ne_of_lt (Heap.lt_size e)) (kp b o e)) (Nat.le_refl _) ?_
    obtain ⟨o, es, ep, e1, e2, e3, e4, _, e6⟩ := dd3
    exact ⟨Nat.le_trans (putAllT_len ps []) (by simp only [List.length_nil, Nat.zero_add]; exact Nat.le_trans (Nat.le_of_lt hz) (by decide)), beq_eq_false_iff_ne.mpr (Ne.symm (Nat.ne_of_lt I.big)), _, (kt_all k1 .nil).keeps fun b ys e => by rw [upd_ne (Nat.ne_of_lt (I.hok b _ e).lt)]; exact e, o, es, ep, e1, e2, e3, e4, e6⟩
theorem u16 {A : Around} (h : A.units + 64 < cLine) : A.units + 16 < cLine := by omega
end My
/-! ### min(lists, key=len, default=None) -/
namespace My
open PySem PySem.Spec PyProof.Rows L2 PyProof
section
variable {prog : Program} {w : World} {A : Around}
/-- what min's own list holds after j turns: nothing yet, or the first of the shortest with its length -/
def Shortest (kf : Nat → Int) (us : List Value) (j : Nat) (xs : Array Value) : Prop := (j = 0 ∧ xs = #[]) ∨ ∃ i v t, xs = #[v, Value.int (kf i) t] ∧ us[i]? = some v ∧ i < j ∧ ∀ j', j' < j → kf i ≤ kf j' ∧ (j' < i → kf i < kf j')
/-- what min tells: nothing of none, else the first of the shortest -/
def ShortU (kf : Nat → Int) (us : List Value) (v : Value) : Prop := (us = [] ∧ v = .none) ∨ ∃ i, us[i]? = some v ∧ ∀ j, j < us.length → kf i ≤ kf j ∧ (j < i → kf i < kf j)
theorem short_loop {R : Result → Shared → Prop} {I S l : Addr} {us : List Value} (kf : Nat → Int) (s₀ : Shared) (hh : A.handled = none) (hlI : l ≠ I) (hSI : S ≠ I) (hSl : S ≠ l) (h0I : s₀.heap.objs.size ≤ I) (h0S : s₀.heap.objs.size ≤ S)
    (turn : ∀ (j : Nat) (u : Value) (h : Heap) (tk : Nat) (Q' : Value → Shared → Prop) (E' : Value → Shared → Prop), us[j]? = some u → (∀ b o, s₀.heap.get? b = some o → h.get? b = some o) →
      (∀ tk' t, Q' (.int (kf j) t) { s₀ with heap := h, toks := tk' }) → wpAny (model prog w) A.in1 (call (.builtin "len") [u]) Q' E' { s₀ with heap := h, toks := tk })
    (hR : ∀ v h' tk, ShortU kf us v → (∀ b o, s₀.heap.get? b = some o → h'.get? b = some o) → R (.ok (.ret v)) { s₀ with heap := h', toks := tk }) :
    ∀ (k j : Nat) (h : Heap) (tk : Nat) (xs : Array Value) (c : Nat), us.length - j = k → j ≤ us.length → h.IsListIter I l j → h.IsList l us.toArray → Shortest kf us j xs →
      h.get? S = some { cls := .type "list", dict := none, data := .seq xs c, slots := #[] } → (∀ b o, s₀.heap.get? b = some o → h.get? b = some o) →
      codeAny (model prog w) A (.builtin "min.loop" ⟨[.ref I, .builtin "len", .ref S], [("default", .none)]⟩) R { s₀ with heap := h, toks := tk } := by
  have W := Walks.list (prog := prog) (w := w) (A := A.in1) hh I l hlI us.toArray
  have un : (toString "min" ++ toString ".loop" : String) = "min.loop" := by decide
  have us0 : us.toArray.size = us.length := by simp
  have bI : ∀ b o, s₀.heap.get? b = some o → b ≠ I := fun b o e => Nat.ne_of_lt (Nat.lt_of_lt_of_le (Heap.lt_size e) h0I)
  have bS : ∀ b o, s₀.heap.get? b = some o → b ≠ S := fun b o e => Nat.ne_of_lt (Nat.lt_of_lt_of_le (Heap.lt_size e) h0S)
  intro k
  induction k with
  | zero =>
    intro j h tk xs c hk hj hit hil htop hS keep
    have hin : j = us.length := by omega
    refine codeAny_builtin F.entry_min_loop ?_; rw [Around.under_plainId F.plain_min_loop _]
    show wpAny _ A.in1 (seqItems? (.ref S) >>= _) _ _ _; refine wpAny_bind (wpAny_seqItems hS rfl ?_)
    rcases htop with ⟨rfl, rfl⟩ | ⟨i, v, t, rfl, hv, hi, hall⟩
    · refine wpAny_bind (wpAny_tryCatch (W.done _ _ _ ⟨by rw [us0, ← hin]; exact hit, hil⟩ fun h' tk' hk' => ?_))
      have e0 : us = [] := List.length_eq_zero_iff.mp (by omega)
      refine wpAny_bind (wpAny_rule (wpAny_pure ?_))
      exact hR .none h' tk' (.inl ⟨e0, rfl⟩) fun b o e => hk' b o (by simpa using bI b o e) (keep b o e)
    · refine wpAny_bind (wpAny_tryCatch (W.done _ _ _ ⟨by rw [us0, ← hin]; exact hit, hil⟩ fun h' tk' hk' => ?_))
      have hS' := hk' S _ (by simpa using hSI) hS
      refine wpAny_bind (wpAny_updateSeq hS' rfl (wpAny_bind (wpAny_letGo (wpAny_pure ?_))))
      exact hR v _ tk' (.inr ⟨i, hv, fun j' hj' => hall j' (by omega)⟩) fun b o e => (Heap.get?_update_other _ _ (Ne.symm (bS b o e))).trans (hk' b o (by simpa using bI b o e) (keep b o e))
  | succ k ih =>
    intro j h tk xs c hk hj hit hil htop hS keep
    have hlt : j < us.length := by omega
    refine codeAny_builtin F.entry_min_loop ?_; rw [Around.under_plainId F.plain_min_loop _]
    show wpAny _ A.in1 (seqItems? (.ref S) >>= _) _ _ _; refine wpAny_bind (wpAny_seqItems hS rfl ?_)
    have put : ∀ (h2 : Heap) (tk2 : Nat) (ys xs2 : Array Value) (c2 : Nat), h2.IsListIter I l (j + 1) → h2.IsList l us.toArray → Shortest kf us (j + 1) ys → h2.get? S = some { cls := .type "list", dict := none, data := .seq xs2 c2, slots := #[] } → (∀ b o, s₀.heap.get? b = some o → h2.get? b = some o) →
        codeAny (model prog w) A (.builtin "min.loop" ⟨[.ref I, .builtin "len", .ref S], [("default", .none)]⟩) R { s₀ with heap := h2.update S (Obj.mapSeq fun _ => ys), toks := tk2 } := by
      intro h2 tk2 ys xs2 c2 hit2 hil2 htop2 hS2 keep2
      have oth : ∀ b, b ≠ S → (h2.update S (Obj.mapSeq fun _ => ys)).get? b = h2.get? b := fun b hb => Heap.get?_update_other _ _ (Ne.symm hb)
      obtain ⟨c3, hc3⟩ : ∃ c3, (h2.update S (Obj.mapSeq fun _ => ys)).get? S = some { cls := .type "list", dict := none, data := .seq ys c3, slots := #[] } := ⟨_, Heap.get?_update_self _ hS2 rfl⟩
      exact ih (j + 1) _ tk2 ys c3 (by omega) hlt (hit2.at fun o e => (oth I (Ne.symm hSI)).trans e) (hil2.at fun o e => (oth l (Ne.symm hSl)).trans e) htop2 hc3 fun b o e => (oth b (bS b o e)).trans (keep2 b o e)
    have st0 : h.IsListIter I l j ∧ h.IsList l us.toArray := ⟨hit, hil⟩
    rcases htop with ⟨rfl, rfl⟩ | ⟨i, vb, tb, rfl, hvb, hi, hall⟩
    · refine wpAny_bind (wpAny_tryCatch (W.item 0 _ _ _ (by rw [us0]; exact hlt) st0 fun v h' tk' hP hst' hk' => ?_))
      have hv : us[0]? = some v := by simpa using hP
      have hS' := hk' S _ (by simpa using hSI) hS
      have keep1 : ∀ b o, s₀.heap.get? b = some o → h'.get? b = some o := fun b o e => hk' b o (by simpa using bI b o e) (keep b o e)
      show wpAny _ A.in1 (tryCatch (holding [v] (call (.builtin "len") [v])) _ >>= _) _ _ _
      refine wpAny_bind (wpAny_tryCatch (wpAny_holding (turn 0 v h' tk' _ _ hv keep1 fun tk2 t2 => ?_)))
      refine wpAny_bind (wpAny_updateSeq hS' rfl ?_)
      rw [un]
      exact wpAny_pure ⟨plainId_quiet F.plain_min_loop _, put h' tk2 _ _ _ hst'.1 hst'.2 (.inr ⟨0, v, t2, rfl, hv, by omega, fun j' hj' => by
        have e : j' = 0 := by omega
        subst e
        exact ⟨Int.le_refl _, fun z => absurd z (Nat.lt_irrefl _)⟩⟩) hS' keep1⟩
    · refine wpAny_bind (wpAny_tryCatch (W.item j _ _ _ (by rw [us0]; exact hlt) st0 fun v h' tk' hP hst' hk' => ?_))
      have hv : us[j]? = some v := by simpa using hP
      have hS' := hk' S _ (by simpa using hSI) hS
      have keep1 : ∀ b o, s₀.heap.get? b = some o → h'.get? b = some o := fun b o e => hk' b o (by simpa using bI b o e) (keep b o e)
      show wpAny _ A.in1 (tryCatch (holding [v] (call (.builtin "len") [v])) _ >>= _) _ _ _
      refine wpAny_bind (wpAny_tryCatch (wpAny_holding (turn j v h' tk' _ _ hv keep1 fun tk2 t2 => ?_)))
      show wpAny _ A.in1 (tryCatch (holding [v, .int (kf j) t2] (richCompare .Lt (.int (kf j) t2) (.int (kf i) tb) >>= _)) _ >>= _) _ _ _
      refine wpAny_bind (wpAny_tryCatch (wpAny_holding (wpAny_bind (CmpOf.ints_lt (prog := prog) (w := w) (A := A.in1) (P := fun i v => ∃ t, v = .int (kf i) t) kf (fun i v h => h) j i _ _ _ _ _ ⟨t2, rfl⟩ ⟨tb, rfl⟩ ?_))))
      refine wpAny_bind (wpAny_holding (wpAny_truthy_bool ?_))
      refine wpAny_bind (wpAny_letGo (wpAny_pure ?_))
      by_cases hb : kf j < kf i
      · simp only [hb, decide_true, if_true]
        refine wpAny_bind (wpAny_updateSeq hS' rfl (wpAny_bind (wpAny_letGo ?_)))
        rw [un]
        refine wpAny_pure ⟨plainId_quiet F.plain_min_loop _, put h' _ _ _ _ hst'.1 hst'.2 (.inr ⟨j, v, t2, rfl, hv, by omega, fun j' hj' => ?_⟩) hS' keep1⟩
        by_cases e : j' = j
        · subst e
          exact ⟨Int.le_refl _, fun z => absurd z (Nat.lt_irrefl _)⟩
        · have := (hall j' (by omega)).1
          exact ⟨by omega, fun _ => by omega⟩
      · simp only [hb, decide_false, Bool.false_eq_true, if_false]
        refine wpAny_bind (wpAny_letGo ?_)
        rw [un]
        refine wpAny_pure ⟨plainId_quiet F.plain_min_loop _, ih (j + 1) h' _ _ c (by omega) hlt hst'.1 hst'.2 (.inr ⟨i, vb, tb, rfl, hvb, by omega, fun j' hj' => ?_⟩) hS' keep1⟩
        by_cases e : j' = j
        · subst e
          exact ⟨by omega, fun z => by omega⟩
        · exact hall j' (by omega)
theorem args_minK (a f v : Value) : argsOk "min" ⟨[a], [(Str.ofString "key", f), (Str.ofString "default", v)]⟩ := by unfold argsOk; exact (by kernel_rfl)
theorem call_minK {E : Value → Shared → Prop} {s : Shared} {l : Addr} {us : List Value} {Q : Value → Shared → Prop} (kf : Nat → Int) (hh : A.handled = none) (hl : s.heap.IsList l us.toArray)
    (turn : ∀ (j : Nat) (u : Value) (h : Heap) (tk : Nat) (Q' : Value → Shared → Prop) (E' : Value → Shared → Prop), us[j]? = some u → (∀ b o, s.heap.get? b = some o → h.get? b = some o) →
      (∀ tk' t, Q' (.int (kf j) t) { s with heap := h, toks := tk' }) → wpAny (model prog w) A.in1 (call (.builtin "len") [u]) Q' E' { s with heap := h, toks := tk })
    (hQ : ∀ v h' tk, ShortU kf us v → (∀ b o, s.heap.get? b = some o → h'.get? b = some o) → Q v { s with heap := h', toks := tk }) :
    wpAny (model prog w) A (call (.builtin "min") [.ref l] [(Str.ofString "key", .builtin "len"), (Str.ofString "default", .none)]) Q E s := by
  have un : (toString "min" ++ toString ".loop" : String) = "min.loop" := by decide
  refine kmk_tree F.kind_min F.plain_min F.entry_min (args_minK _ _ _) ?_
  refine wpAny_bind (wpAny_of_eq (show Builtin.Builtins.bindParams "min" ["key", "default"] 0 ⟨[], [(Str.ofString "key", Value.builtin "len"), (Str.ofString "default", Value.none)]⟩ = pure [some (.builtin "len"), some .none] from rfl) (wpAny_bind (wpAny_pure ?_)))
  have hlt : l < s.heap.objs.size := by obtain ⟨_, e, _⟩ := hl; exact Heap.lt_size e
  refine wpAny_bind (wpAny_pyIter_list hl (wpAny_bind (wpAny_newList ?_ (Nat.zero_le _))))
  rw [un]
  have sz1 : (s.heap.push { cls := .type "list_iterator", data := .fields #[.ref l, .int 0 0] }).objs.size = s.heap.objs.size + 1 := size_push' ..
  refine wpAny_pure ⟨plainId_quiet F.plain_min_loop _, short_loop (I := s.heap.objs.size) (l := l) kf s hh (Nat.ne_of_lt hlt) (by rw [sz1]; exact Nat.ne_of_gt (Nat.lt_succ_self _)) (by rw [sz1]; exact Nat.ne_of_gt (Nat.lt_succ_of_lt hlt)) (Nat.le_refl _) (by rw [sz1]; exact Nat.le_succ _) turn hQ us.length 0 _ s.toks #[] 0 (by omega) (Nat.zero_le _) ?_ ?_ (.inl ⟨rfl, rfl⟩) (Heap.get?_push_size _ rfl) fun b o e => Heap.get?_push_of_some _ (Heap.get?_push_of_some _ e)⟩
  · exact ⟨_, Heap.get?_push_of_some _ (Heap.get?_push_size _ rfl), rfl, rfl⟩
  · exact (hl.push _).push _
end
/-- a list of so many -/
def LnV (K : PySem.W.Frag) (H : Hp) (v : V) (n : Nat) : Prop := ∃ l ws, v = .ref l ∧ SqL K H l ws ∧ ws.length = n
/-- the first of the shortest -/
def ShortV (xs : List V) (ls : List Nat) (v : V) : Prop := (xs = [] ∧ v = .non) ∨ ∃ (i n : Nat), xs[i]? = some v ∧ ls[i]? = some n ∧ ∀ (j m : Nat), ls[j]? = some m → n ≤ m ∧ (j < i → n < m)
def tMinLen (K : PySem.W.Frag) (t : TA) : TE := fun σ H Q => t σ H fun vs H1 => ∃ p xs ls, vs = [V.ref p] ∧ SqL K H1 p xs ∧ Paired (LnV K H1) xs ls ∧ ∀ v, ShortV xs ls v → Q v H1
theorem pe_minLen {X : Cx} {K : PySem.W.Frag} {e : Expr} {t : TA} {p p2 p3 pos kpos kpos2 : Pos} {jk : Nat} (hK : X.K = K) (hc : X.calm = true) (hg : Gl X "min") (hm : X.mg "min" = none) (hgl : Gl X "len") (hml : X.mg "len" = none) (ha : PA X [e] t)
    (he : backTo pos (starEach [e] X.env) = (false, eval e X.env) :: backTo pos (starEach [] X.env) := by rfl) (hpl : (backTo pos (starEach [e] X.env)).any (·.1) = false := by rfl) :
    PE X (.Call (.Name "min" p) [e] [⟨some "key", .Name "len" p2, kpos⟩, ⟨some "default", .Constant .none jk p3, kpos2⟩] pos) (tMinLen K t) := by
  constructor; intro pins s σ H Q I h
  subst hK
  refine wpAny_Call_Name_kw (ld_blt I hg hm boot_min ?_ (by decide) (by decide))
  refine callWith_kw (thn (ha pos pins s σ H _ I h) fun us s1 ⟨vs, H1, I1, r1, q1⟩ => ?_) he hpl
  obtain ⟨pl, xs, ls, rfl, hp, pr, q⟩ := q1
  obtain ⟨u, rfl, ru⟩ := vals1 r1
  cases ru
  show wpAny _ _ (evalAll ((do let v ← eval (.Name "len" p2) X.env; standAt pos; pure v) :: [do let v ← eval (.Constant .none jk p3) X.env; standAt pos; pure v])) _ _ s1
  refine wpAny_evalAll_cons (wpAny_bind (ld_blt I1 hgl hml boot_len (wpAny_bind (wpAny_standAt (wpAny_pure ?_))) (by decide) (by decide)))
  refine wpAny_evalAll_cons (wpAny_bind (thn (PE.run (pe_non (j := jk) (pos := p3)) pins _ σ H1 (fun v H2 => v = V.non ∧ H1 = H2) (I1.tok _) ⟨rfl, rfl⟩) fun u s2 ⟨x, H2, I2, rx, ex, eh⟩ => wpAny_bind (wpAny_standAt (wpAny_pure ?_))))
  subst ex eh
  cases rx
  refine wpAny_evalAll_nil ?_
  show wpAny _ _ (call (.builtin "min") [.ref pl] [(Str.ofString "key", .builtin "len"), (Str.ofString "default", .none)]) _ _ _
  obtain ⟨its, rv, plst, _⟩ := I2.list hp
  have hlen : its.length = ls.length := by rw [← rv.length, prs_len pr]
  have hint : ∀ (j : Nat) (u : Value), its[j]? = some u → ∃ l ws n, xs[j]? = some (.ref l) ∧ u = .ref l ∧ SqL X.K H1 l ws ∧ ws.length = n ∧ ls[j]? = some n := fun j u e => by
    obtain ⟨x, ex, rx⟩ := vals_get' rv e
    obtain ⟨n, en, l, ws, rfl, h1, h2⟩ := paired_get pr ex
    cases rx
    exact ⟨l, ws, n, ex, rfl, h1, h2, en⟩
  have gd : ∀ {j : Nat} {n : Nat}, ls[j]? = some n → ls.getD j 0 = n := fun e => by rw [List.getD_eq_getElem?_getD, e]; rfl
  refine call_minK (us := its) (fun j => ((ls.getD j 0 : Nat) : Int)) (I2.ok.hd hc) plst.isList (fun j u h tk' Q' E' hu' hkeep hQ' => ?_) fun v h5 tk5 hv k5 => ?_
  · obtain ⟨l, ws, n, e1, rfl, e3, e4, e5⟩ := hint j u hu'
    have I4 := I2.kept (h' := h) (t' := tk') hkeep
    obtain ⟨us', r', pl', hz⟩ := I4.list e3
    have hl := r'.length
    have hn := line63
    have hs : sizeLine = 16777216 := sizeLine_eq
    refine Calls.call_len_list pl'.isList (by simp only [List.size_toArray] <;> omega) ?_
    have := hQ' (tk' + 1 + 1) (tk' + 1)
    rw [gd e5, ← e4, hl] at this
    rw [List.size_toArray]
    exact this
  · rcases hv with ⟨e0, rfl⟩ | ⟨i, hi, hall⟩
    · refine ⟨.non, H1, I2.kept k5, rfl, q _ (.inl ⟨?_, rfl⟩)⟩
      have := rv.length
      rw [e0] at this
      exact List.length_eq_zero_iff.mp this
    · obtain ⟨l, ws, n, e1, rfl, e3, e4, e5⟩ := hint i _ hi
      refine ⟨.ref l, H1, I2.kept k5, rfl, q _ (.inr ⟨i, n, e1, e5, fun j m hj => ?_⟩)⟩
      have := hall j (by rw [hlen]; exact (List.getElem?_eq_some_iff.mp hj).1)
      simp only [gd hj, gd e5] at this
      exact ⟨by omega, fun z => by have := this.2 z; omega⟩
end My
/-! ### nodes compared, len(set(nodes)), {node: x}, walks over a dict's nodes -/
namespace My
open PySem PySem.Spec PySem.W PyProof.Rows L2 PyProof PySem.SeqAt
/-- node < node -/
theorem op_ltN {X : Cx} (hu : X.A.units + 16 < cLine) : OpR X (compareOp .Lt) (fun x y H Q => ∃ n k, NdV H x n ∧ NdV H y k ∧ Q (.bl (ltN n k)) H) := by
  intro pins s σ H x y u v Q I rx ry h
  obtain ⟨n, k, hn, hk, q⟩ := h
  exact node_lt (by omega) (nd_is I hn rx) (nd_is I hk ry) ⟨.bl _, H, I, rfl, q⟩
/-- {key: x}, the key a tuple -/
def tDispT1 (tk tv : TE) : TE := fun σ H Q => ∀ p, H p = none → tk σ (upd H p (.dT [])) fun x H1 => tv σ H1 fun y H2 => H2 p = some (.dT []) ∧ ∃ k b, x = .ref b ∧ H2 b = some (.tup (k.map kV)) ∧ Q (.ref p) (upd H2 p (.dT [(k, y)]))
theorem pe_dispT1 {X : Cx} {pos : Pos} {k v : Expr} {tk tv : TE} (hu : X.A.units + 64 < cLine) (hk : PE X k tk) (hv : PE X v tv) : PE X (.Dict [some k] [v] pos) (tDispT1 tk tv) := by
  constructor; intro pins s σ H Q I q
  have hn := I.hok.fresh (Nat.le_refl s.heap.objs.size)
  have I1 := I.laid (a := s.heap.objs.size) (o := .dT []) (h' := s.heap.push { cls := .type "dict", data := .dict #[] }) (t' := s.toks) (fun _ _ q => Heap.get?_push_of_some _ q) (Nat.le_refl _) (dt_empty s.heap I.big)
  refine wpAny_Dict_any rfl rfl (by simp) (show 1 ≤ 15 by decide) (thn (pps_cons hk hv pps_nil pins _ σ _ (fun ps H2 => match ps with | [(x, y)] => H2 s.heap.objs.size = some (.dT []) ∧ ∃ k b, x = .ref b ∧ H2 b = some (.tup (k.map kV)) ∧ Q (.ref s.heap.objs.size) (upd H2 s.heap.objs.size (.dT [(k, y)])) | _ => False) I1 (q _ hn)) fun ws s2 ⟨ps, H2, I2, rel, q2⟩ => ?_)
  generalize s.heap.objs.size = d at q2
  cases rel with
  | nil => exact q2.elim
  | @cons p0 q0 ps qs r t =>
    cases t with
    | cons _ _ => exact (show False from q2).elim
    | nil =>
      obtain ⟨x, y⟩ := p0
      obtain ⟨u, z⟩ := q0
      obtain ⟨e, kk, b, ex, eb, q3⟩ := (show H2 d = some (.dT []) ∧ ∃ k b, x = .ref b ∧ H2 b = some (.tup (k.map kV)) ∧ Q (.ref d) (upd H2 d (.dT [(k, y)])) from q2)
      subst ex
      obtain ⟨r1, r2⟩ := r
      cases (show u = Value.ref b from r1)
      obtain ⟨_, hd, xs, rl, dd⟩ := dt_of I2.hok e
      have hz : xs.length ≤ sizeLine := by rw [← Paired.length rl]; exact Nat.zero_le _
      unfold storeAll
      rw [List.forIn_cons]
      refine wpAny_bind (wpAny_bind (wpAny_dictSet_heap (hsz := hz) (knd := tupleKind (mixKind X.prog X.w)) (show X.A.units < cLine by omega) (key_of I2.hok eb) dd fun h' dd' hs => wpAny_pure ?_))
      show wpAny _ _ (forIn [] PUnit.unit _) _ _ _
      rw [List.forIn_nil]
      refine wpAny_pure ⟨.ref d, _, ?_, rfl, q3⟩
      obtain ⟨q, es, ep, hq, h2, h3, h4, _, h5⟩ := dd'
      have rp := rl.put kk eb r2
      rw [show putK ([] : List (List Key × V)) kk y = [(kk, y)] from rfl] at rp
      refine d_write I2 (by rw [e]; exact True.intro) hs ⟨q, hq⟩ ⟨show 1 ≤ sizeLine by decide, hd, _, rp.keeps fun c ys ec => ?_, q, es, ep, hq, h2, h3, h4, h5⟩
      rw [upd_ne (ne_of ec e (fun z => nomatch z))]
      exact ec
/-- for key in d, the keys tuples -/
theorem for_keysT {d : Addr} {ob : Obj} {kvs : List (List Key × V)} {g : TG} {tb : TS} {D : Ends} {σ : L2.St} {H : Hp} (Pv : Nat → L2.St → Hp → Prop) (h0 : Pv 0 σ H) (hl : ∀ i σ H, Pv i σ H → H d = some (.frz ob (.dT kvs)))
    (hs : ∀ (i : Nat) k x b σ H, kvs[i]? = some (k, x) → H b = some (.tup (k.map kV)) → Pv i σ H → g (.ref b) σ H fun σ2 H2 => tb { D with nx := Pv (i + 1), ct := Pv (i + 1), bk := D.nx } σ2 H2) (hd : ∀ σ H, Pv kvs.length σ H → D.nx σ H) :
    ∃ W : Nat → Nat → L2.St → Hp → Prop, (∃ m, W 0 m σ H) ∧ ∀ i m σ H, W i m σ H →
      ((ItKT d ob kvs).stop i H ∧ D.nx σ H) ∨ ((ItKT d ob kvs).go i H ∧ ∃ N : L2.St → Hp → Prop, (∀ σ' H', N σ' H' → ∃ m', m' < m ∧ W (i + 1) m' σ' H') ∧ ∀ x H', (ItKT d ob kvs).yld i H x H' → g x σ H' fun σ2 H2 => tb { D with nx := N, ct := N, bk := D.nx } σ2 H2) := by
  refine ⟨fun i m σ H => m = kvs.length - i ∧ i ≤ kvs.length ∧ Pv i σ H, ⟨_, rfl, Nat.zero_le _, h0⟩, ?_⟩
  rintro i m σ H ⟨rfl, hi, p⟩
  by_cases hlt : i < kvs.length
  · refine .inr ⟨⟨hl i σ H p, hlt⟩, Pv (i + 1), fun σ' H' p' => ⟨_, by omega, rfl, hlt, p'⟩, ?_⟩
    rintro v H' ⟨rfl, k, x, b, hx, rfl, hb⟩
    exact hs i k x b σ _ hx hb p
  · have e : i = kvs.length := by omega
    subst e
    exact .inl ⟨⟨hl _ σ H p, rfl⟩, hd σ H p⟩
def tLenSetN (K : PySem.W.Frag) (t : TA) : TE := fun σ H Q => t σ H fun vs H1 => ∃ a xs ks, vs = [V.ref a] ∧ SqL K H1 a xs ∧ Paired (NdV H1) xs ks ∧ xs.length ≤ 63 ∧ ks.Nodup ∧ Q (.int ks.length) H1
theorem pe_lenSetN {X : Cx} {K : PySem.W.Frag} {e : Expr} {t : TA} {p p2 pos pos2 : Pos} (hu : X.A.units + 64 < cLine) (hK : X.K = K) (hc : X.calm = true) (hgl : Gl X "len") (hml : X.mg "len" = none) (hg : Gl X "set") (hm : X.mg "set" = none) (ha : PA X [e] t)
    (hs : starEach [e] X.env = [(false, eval e X.env)] := by rfl) (hs2 : starEach [.Call (.Name "set" p2) [e] [] pos2] X.env = [(false, eval (.Call (.Name "set" p2) [e] [] pos2) X.env)] := by rfl) :
    PE X (.Call (.Name "len" p) [.Call (.Name "set" p2) [e] [] pos2] [] pos) (tLenSetN K t) := by
  constructor; intro pins s σ H Q I h
  subst hK
  refine wpAny_Call_Name_kw (ld_blt I hgl hml boot_len ?_ (by decide) (by decide)); refine PyProof.Rows.callWith_builtin1 ?_ (by rw [hs2]; rfl) rfl
  rw [hs2]
  show wpAny _ _ (spliced ((false, eval (.Call (.Name "set" p2) [e] [] pos2) X.env) :: backTo pos [])) _ _ s
  refine Calls.spliced_cons ?_
  refine wpAny_Call_Name_kw (ld_blt I hg hm PyProof.Rows.boot_set (PyProof.Rows.callWith_type1 (thn (ha pos2 pins s σ H _ I h) fun us s1 ⟨vs, H1, I1, r1, q1⟩ => ?_) hs rfl) (by decide) (by decide))
  obtain ⟨l, xs, ks, rfl, hx, pk, h63, ndk, q⟩ := q1
  obtain ⟨u, rfl, ru⟩ := vals1 r1
  cases ru
  obtain ⟨its, rv, pl, hz⟩ := I1.list hx
  have hlen : its.length = xs.length := rv.length.symm
  have hlk : ks.length = its.length := (prs_len pk).symm.trans hlen.symm
  have d1 : nodeK.d = 1 := rfl
  have is0 : ∀ (i : Nat) (u : Value), its[i]? = some u → ∃ k, ks[i]? = some k ∧ nodeK.is s1.heap k u := fun i u eu => by
    obtain ⟨x, ex, rx⟩ := vals_get' rv eu
    obtain ⟨k, ek, kx⟩ := paired_get pk ex
    exact ⟨k, ek, nd_is I1 kx rx⟩
  have hkf : ∀ u ∈ its, nodeK.is s1.heap (keyFn _ nodeK s1.heap (0, 0) u) u := fun u hu' => by
    obtain ⟨i, hi⟩ := List.mem_iff_getElem?.mp hu'
    obtain ⟨k, _, ik⟩ := is0 i u hi
    rw [keyFn_is ik]
    exact ik
  have hmk : its.map (keyFn _ nodeK s1.heap (0, 0)) = ks := by
    apply List.ext_getElem?
    intro i
    rw [List.getElem?_map]
    cases eu : its[i]? with
    | none =>
      rw [List.getElem?_eq_none_iff] at eu
      rw [Option.map_none, List.getElem?_eq_none (by omega)]
    | some u =>
      obtain ⟨k, ek, ik⟩ := is0 i u eu
      rw [ek, Option.map_some, keyFn_is ik]
  have nr : ∀ u ∈ its, ∃ b, u = .ref b := fun u hu' => by
    obtain ⟨i, hi⟩ := List.mem_iff_getElem?.mp hu'
    obtain ⟨k, _, ⟨_, _, ⟨ad, _, _, e, _⟩, _⟩⟩ := is0 i u hi
    exact ⟨ad, e⟩
  generalize keyFn _ nodeK s1.heap (0, 0) = kf at hkf hmk
  refine call_set_V (V := nodeK) (kf := kf) (us := its) (by rw [d1]; decide) (by rw [d1]; omega) nr hkf (I1.ok.hd hc) pl.isList (by omega) fun h' tk hG k => ?_
  refine Calls.spliced_nil ?_
  obtain ⟨o, es, ep, tb, ho, hex, hd, hT, _, hsm, _, hp⟩ := hG
  have he : es.size = ks.length := by
    have := hp.length_eq
    rw [List.length_map, Array.length_toList] at this
    rw [this, hmk]
    obtain ⟨n1, n2⟩ := ddv_spec ks
    have p1 : (ddv ks).Perm ks := (List.perm_ext_iff_of_nodup n1 ndk).mpr n2
    exact p1.length_eq
  refine call_len_set (s := { s1 with heap := h', toks := tk }) ho hex hd (hT.fits (by omega)) (by rw [he]; omega) ?_
  have I2 : Inv X pins σ H1 { s1 with heap := h', toks := tk + 1 + 1 } := I1.kept (t' := tk + 1 + 1) (h' := h') fun b o eb => k b o eb
  exact ⟨.int _, _, I2, ⟨_, by rw [he]⟩, q⟩
end My

namespace Lw
open PySem PySem.Spec PyProof.Rows L2 My
set_option maxHeartbeats 4000000
def top (i : Nat) : Stmt := PySem.Challenge.pw_skewhouse_k64_least_rings.main.body.getD i (.Pass ⟨0, 0, 0, 0⟩)
abbrev s_ring : Stmt := top 1
abbrev s_followers : Stmt := top 3
abbrev s_leastring : Stmt := top 4
abbrev s_Lcellat : Stmt := top 6
abbrev s_Lwhole : Stmt := top 7
abbrev s_Lnodes : Stmt := top 8
abbrev s_Lpairs : Stmt := top 9
abbrev s_Lnexts : Stmt := top 10
abbrev s_Lwalks : Stmt := top 11
abbrev s_Lnoless : Stmt := top 12
abbrev s_Lischain : Stmt := top 13
abbrev s_Lnone : Stmt := top 14
abbrev s_law : Stmt := top 15
set_option genInjectivity false in
set_option genSizeOf false in
structure Tx (K : PySem.W.Frag) (mg : Str → Option Value) where
  f_ring : Addr
  d_ring : FuncData
  F_ring : Fun K "ring" "ring" s_ring f_ring d_ring
  b_ring : Binds K d_ring ["waits", "start"] []
  m_ring : mg "ring" = some (.ref f_ring)
  f_followers : Addr
  d_followers : FuncData
  F_followers : Fun K "followers" "followers" s_followers f_followers d_followers
  b_followers : Binds K d_followers ["nodes", "pairs"] []
  m_followers : mg "followers" = some (.ref f_followers)
  f_leastring : Addr
  d_leastring : FuncData
  F_leastring : Fun K "least_ring" "least_ring" s_leastring f_leastring d_leastring
  b_leastring : Binds K d_leastring ["nodes", "pairs"] []
  m_leastring : mg "least_ring" = some (.ref f_leastring)
  f_Lcellat : Addr
  d_Lcellat : FuncData
  F_Lcellat : Fun K "_law_cell_at" "_law_cell_at" s_Lcellat f_Lcellat d_Lcellat
  b_Lcellat : Binds K d_Lcellat ["_law_script", "_law_k"] []
  m_Lcellat : mg "_law_cell_at" = some (.ref f_Lcellat)
  f_Lwhole : Addr
  d_Lwhole : FuncData
  F_Lwhole : Fun K "_law_whole" "_law_whole" s_Lwhole f_Lwhole d_Lwhole
  b_Lwhole : Binds K d_Lwhole ["_law_found"] []
  m_Lwhole : mg "_law_whole" = some (.ref f_Lwhole)
  f_Lnodes : Addr
  d_Lnodes : FuncData
  F_Lnodes : Fun K "_law_nodes" "_law_nodes" s_Lnodes f_Lnodes d_Lnodes
  b_Lnodes : Binds K d_Lnodes ["_law_script", "_law_most"] []
  m_Lnodes : mg "_law_nodes" = some (.ref f_Lnodes)
  f_Lpairs : Addr
  d_Lpairs : FuncData
  F_Lpairs : Fun K "_law_pairs" "_law_pairs" s_Lpairs f_Lpairs d_Lpairs
  b_Lpairs : Binds K d_Lpairs ["_law_script", "_law_nodes_here"] []
  m_Lpairs : mg "_law_pairs" = some (.ref f_Lpairs)
  f_Lnexts : Addr
  d_Lnexts : FuncData
  F_Lnexts : Fun K "_law_nexts" "_law_nexts" s_Lnexts f_Lnexts d_Lnexts
  b_Lnexts : Binds K d_Lnexts ["_law_nodes_here", "_law_pairs_here"] []
  m_Lnexts : mg "_law_nexts" = some (.ref f_Lnexts)
  f_Lwalks : Addr
  d_Lwalks : FuncData
  F_Lwalks : Fun K "_law_walks" "_law_walks" s_Lwalks f_Lwalks d_Lwalks
  b_Lwalks : Binds K d_Lwalks ["_law_nodes_here", "_law_nexts_here", "_law_many"] []
  m_Lwalks : mg "_law_walks" = some (.ref f_Lwalks)
  f_Lnoless : Addr
  d_Lnoless : FuncData
  F_Lnoless : Fun K "_law_no_less" "_law_no_less" s_Lnoless f_Lnoless d_Lnoless
  b_Lnoless : Binds K d_Lnoless ["_law_nodes_here", "_law_nexts_here", "_law_chain"] []
  m_Lnoless : mg "_law_no_less" = some (.ref f_Lnoless)
  f_Lischain : Addr
  d_Lischain : FuncData
  F_Lischain : Fun K "_law_is_chain" "_law_is_chain" s_Lischain f_Lischain d_Lischain
  b_Lischain : Binds K d_Lischain ["_law_found", "_law_nodes_here", "_law_nexts_here"] []
  m_Lischain : mg "_law_is_chain" = some (.ref f_Lischain)
  f_Lnone : Addr
  d_Lnone : FuncData
  F_Lnone : Fun K "_law_none" "_law_none" s_Lnone f_Lnone d_Lnone
  b_Lnone : Binds K d_Lnone ["_law_nodes_here", "_law_nexts_here"] []
  m_Lnone : mg "_law_none" = some (.ref f_Lnone)
  f_law : Addr
  d_law : FuncData
  F_law : Fun K "law" "law" s_law f_law d_law
  b_law : Binds K d_law ["_law_script"] []
  m_law : mg "law" = some (.ref f_law)
  z_bool : mg "bool" = none
  z_dict : mg "dict" = none
  z_int : mg "int" = none
  z_isinstance : mg "isinstance" = none
  z_len : mg "len" = none
  z_list : mg "list" = none
  z_max : mg "max" = none
  z_min : mg "min" = none
  z_range : mg "range" = none
  z_set : mg "set" = none
  z_sorted : mg "sorted" = none
  z_tuple : mg "tuple" = none
theorem sc_ring : FnScope ["waits", "start", "met", "chains", "longer", "chain", "others", "other"] ["waits", "start"] (defScope s_ring) := ⟨rfl, rfl, rfl, by decide +kernel, rfl, by decide +kernel, by decide +kernel⟩
theorem sc_followers : FnScope ["nodes", "pairs", "behind", "one", "other"] ["nodes", "pairs"] (defScope s_followers) := ⟨rfl, rfl, rfl, by decide +kernel, rfl, by decide +kernel, by decide +kernel⟩
theorem sc_leastring : FnScope ["nodes", "pairs", "behind", "rings"] ["nodes", "pairs"] (defScope s_leastring) := ⟨rfl, rfl, rfl, by decide +kernel, rfl, by decide +kernel, by decide +kernel⟩
theorem sc_Lcellat : FnScope ["_law_script", "_law_k"] ["_law_script", "_law_k"] (defScope s_Lcellat) := ⟨rfl, rfl, rfl, by decide +kernel, rfl, by decide +kernel, by decide +kernel⟩
theorem sc_Lwhole : FnScope ["_law_found"] ["_law_found"] (defScope s_Lwhole) := ⟨rfl, rfl, rfl, by decide +kernel, rfl, by decide +kernel, by decide +kernel⟩
theorem sc_Lnodes : FnScope ["_law_script", "_law_most", "_law_cell", "_law_more", "_law_nodes_here", "_law_k", "_law_one", "_law_other"] ["_law_script", "_law_most"] (defScope s_Lnodes) := ⟨rfl, rfl, rfl, by decide +kernel, rfl, by decide +kernel, by decide +kernel⟩
theorem sc_Lpairs : FnScope ["_law_script", "_law_nodes_here", "_law_pairs_here", "_law_way", "_law_cell", "_law_one", "_law_other"] ["_law_script", "_law_nodes_here"] (defScope s_Lpairs) := ⟨rfl, rfl, rfl, by decide +kernel, rfl, by decide +kernel, by decide +kernel⟩
theorem sc_Lnexts : FnScope ["_law_nodes_here", "_law_pairs_here", "_law_nexts_here", "_law_node", "_law_one", "_law_other"] ["_law_nodes_here", "_law_pairs_here"] (defScope s_Lnexts) := ⟨rfl, rfl, rfl, by decide +kernel, rfl, by decide +kernel, by decide +kernel⟩
theorem sc_Lwalks : FnScope ["_law_nodes_here", "_law_nexts_here", "_law_many", "_law_tables", "_law_node", "_law_k", "_law_grown", "_law_there", "_law_mid", "_law_far"] ["_law_nodes_here", "_law_nexts_here", "_law_many"] (defScope s_Lwalks) := ⟨rfl, rfl, rfl, by decide +kernel, rfl, by decide +kernel, by decide +kernel⟩
theorem sc_Lnoless : FnScope ["_law_nodes_here", "_law_nexts_here", "_law_chain", "_law_tables", "_law_k", "_law_node", "_law_other"] ["_law_nodes_here", "_law_nexts_here", "_law_chain"] (defScope s_Lnoless) := ⟨rfl, rfl, rfl, by decide +kernel, rfl, by decide +kernel, by decide +kernel⟩
theorem sc_Lischain : FnScope ["_law_found", "_law_nodes_here", "_law_nexts_here", "_law_node", "_law_k"] ["_law_found", "_law_nodes_here", "_law_nexts_here"] (defScope s_Lischain) := ⟨rfl, rfl, rfl, by decide +kernel, rfl, by decide +kernel, by decide +kernel⟩
theorem sc_Lnone : FnScope ["_law_nodes_here", "_law_nexts_here", "_law_tables", "_law_k", "_law_node"] ["_law_nodes_here", "_law_nexts_here"] (defScope s_Lnone) := ⟨rfl, rfl, rfl, by decide +kernel, rfl, by decide +kernel, by decide +kernel⟩
theorem sc_law : FnScope ["_law_script", "_law_nodes_here", "_law_pairs_here", "_law_handed", "_law_leading", "_law_nexts_here", "_law_found", "_law_kept"] ["_law_script"] (defScope s_law) := ⟨rfl, rfl, rfl, by decide +kernel, rfl, by decide +kernel, by decide +kernel⟩
/-- a node as a key -/
def kN (n : Nk) : List Key := [Sum.inl n.1, Sum.inl n.2]
theorem kN_inj {a b : Nk} (h : kN a = kN b) : a = b := by
  unfold kN at h
  simp at h
  exact Prod.ext h.1 h.2
theorem nd_key {H : Hp} {v : V} {n : Nk} (h : NdV H v n) : ∃ p, v = .ref p ∧ H p = some (.tup ((kN n).map kV)) := h
theorem nd_same {H H' : Hp} (s : Same H H') {v : V} {n : Nk} (h : NdV H v n) : NdV H' v n := let ⟨p, e, q⟩ := h; ⟨p, e, s _ _ q⟩
theorem pr_same {H H' : Hp} (s : Same H H') {v : V} {k : Nk × Nk} (h : PrV H v k) : PrV H' v k := let ⟨p, u, u', e, q, a, b⟩ := h; ⟨p, u, u', e, s _ _ q, nd_same s a, nd_same s b⟩
/-- all tuples are kept -/
def KT2 (H H' : Hp) : Prop := ∀ b xs, H b = some (.tup xs) → H' b = some (.tup xs)
theorem nd_kt {H H' : Hp} (s : KT2 H H') {v : V} {n : Nk} (h : NdV H v n) : NdV H' v n := let ⟨p, e, q⟩ := h; ⟨p, e, s _ _ q⟩
theorem kt_same {H H' : Hp} (s : Same H H') : KT2 H H' := fun b xs e => s b _ e
theorem kt_but {H H' : Hp} {l : Addr} {o : HO} (e : H l = some o) (n : ∀ xs, o ≠ .tup xs) (k : ∀ b u, b ≠ l → H b = some u → H' b = some u) : KT2 H H' := fun b xs q => k b _ (fun z => by rw [z, e] at q; exact n xs (Option.some.inj q)) q
theorem KT2.trans {A B C : Hp} (a : KT2 A B) (b : KT2 B C) : KT2 A C := fun x xs e => b x xs (a x xs e)
abbrev Nds (H : Hp) : List V → List Nk → Prop := Paired (NdV H)
theorem nds_kt {H H' : Hp} (s : KT2 H H') {vs : List V} {ns : List Nk} (h : Nds H vs ns) : Nds H' vs ns := Paired.mapP h fun _ _ z => nd_kt s z
theorem prs_same {H H' : Hp} (s : Same H H') {vs : List V} {ks : List (Nk × Nk)} (h : Paired (PrV H) vs ks) : Paired (PrV H') vs ks := Paired.mapP h fun _ _ z => pr_same s z
/-- what stands behind each node: a dict, its lists new since H0 -/
def BD (H0 H : Hp) (kvs : List (List Key × V)) (ns : List Nk) (bh : Nk → List Nk) : Prop :=
  Paired (fun (q : List Key × V) (n : Nk) => q.1 = kN n ∧ ∃ l ws, q.2 = .ref l ∧ H0 l = none ∧ H l = some (.lst ws) ∧ Nds H ws (bh n)) kvs ns ∧ (kvs.map (·.2)).Nodup
theorem paired_append {α β : Type} {F : α → β → Prop} : ∀ {xs : List α} {bs : List β} {ys : List α} {cs : List β}, Paired F xs bs → Paired F ys cs → Paired F (xs ++ ys) (bs ++ cs)
  | _, _, _, _, .nil, h => h
  | _, _, _, _, .cons r t, h => .cons r (paired_append t h)
theorem val_paired {α : Type} [DecidableEq α] {F : (List Key × V) → Nk → Prop} (hF : ∀ q n, F q n → q.1 = kN n) : ∀ {kvs : List (List Key × V)} {ns : List Nk} {n : Nk}, Paired F kvs ns → n ∈ ns → ∃ q, q ∈ kvs ∧ valV kvs (kN n) = some q.2 ∧ F q n
  | _, _, n, .nil, h => by cases h
  | _, _, n, .cons (a := q) (b := m) r t, h => by
    by_cases e : n = m
    · subst e
      exact ⟨q, List.mem_cons_self, by unfold valV; simp [hF _ _ r], r⟩
    · obtain ⟨q', a, b, c⟩ := val_paired (α := α) hF t (by rcases List.mem_cons.mp h with z | z; exact absurd z e; exact z)
      refine ⟨q', List.mem_cons_of_mem _ a, ?_, c⟩
      unfold valV at b ⊢
      rw [List.find?_cons, show decide (q.1 = kN n) = false from decide_eq_false fun z => e (kN_inj ((hF _ _ r).symm.trans z)).symm]
      exact b
theorem putAll_self : ∀ (ps kvs : List (List Key × V)), (ps.map (·.1)).Nodup → (∀ p ∈ ps, ∀ q ∈ kvs, q.1 ≠ p.1) → putAllT kvs ps = kvs ++ ps
  | [], kvs, _, _ => (List.append_nil _).symm
  | p :: r, kvs, hn, hd => by
    obtain ⟨h1, h2⟩ := List.nodup_cons.mp (show (p.1 :: r.map (·.1)).Nodup from hn)
    have e : putK kvs p.1 p.2 = kvs ++ [p] := by
      unfold putK
      rw [if_neg]
      simp only [List.any_eq_true, decide_eq_true_eq, not_exists, not_and]
      exact fun q hq => hd p List.mem_cons_self q hq
    show putAllT (putK kvs p.1 p.2) r = _
    rw [e, putAll_self r (kvs ++ [p]) h2 fun x hx q hq => ?_, List.append_assoc]
    · rfl
    · rcases List.mem_append.mp hq with z | z
      · exact hd x (List.mem_cons_of_mem _ hx) q z
      · rw [List.mem_singleton.mp z]
        exact fun w => h1 (w ▸ List.mem_map.mpr ⟨x, hx, rfl⟩)
def bhF (js : List (Nk × Nk)) (n : Nk) : List Nk := (js.filter fun p => decide (p.1 = n)).map (·.2)
theorem bhF_snoc (js : List (Nk × Nk)) (k : Nk × Nk) (n : Nk) : bhF (js ++ [k]) n = if k.1 = n then bhF js n ++ [k.2] else bhF js n := by
  unfold bhF
  rw [List.filter_append, List.map_append, List.filter_cons]
  by_cases e : k.1 = n
  · rw [if_pos (decide_eq_true e), if_pos e]; rfl
  · rw [if_neg (by simpa using e), if_neg e]; simp
/-- the pairs of a dict display: each node with a list of its own, empty and new since H1 -/
def CB (H1 H : Hp) (D : Addr) (ys : List V) (qs : List (Nk × Addr)) : Prop :=
  Paired (fun (y : V) (q : Nk × Addr) => ∃ t b, y = .ref t ∧ t ≠ D ∧ q.2 ≠ D ∧ H t = some (.tup [.ref b, .ref q.2]) ∧ H b = some (.tup ((kN q.1).map kV)) ∧ H1 q.2 = none ∧ H q.2 = some (.lst [])) ys qs ∧ (qs.map (·.2)).Nodup
theorem CB.keep {H1 H H' : Hp} {D : Addr} {ys : List V} {qs : List (Nk × Addr)} (c : CB H1 H D ys qs) (hD : H1 D = none) (hD2 : ∀ xs, H D ≠ some (.tup xs)) (k : ∀ b o, b ≠ D → H b = some o → H' b = some o) : CB H1 H' D ys qs :=
  ⟨Paired.mapP c.1 fun _ _ ⟨t, b, e, n1, n2, h1, h2, h3, h4⟩ => ⟨t, b, e, n1, n2, k _ _ n1 h1, k _ _ (fun z => hD2 _ (z ▸ h2)) h2, h3, k _ _ n2 h4⟩, c.2⟩
theorem CB.prs {K : PySem.W.Frag} {H1 H : Hp} {D : Addr} : ∀ {ys : List V} {qs : List (Nk × Addr)}, Paired (fun (y : V) (q : Nk × Addr) => ∃ t b, y = .ref t ∧ t ≠ D ∧ q.2 ≠ D ∧ H t = some (.tup [.ref b, .ref q.2]) ∧ H b = some (.tup ((kN q.1).map kV)) ∧ H1 q.2 = none ∧ H q.2 = some (.lst [])) ys qs →
    PrsT K H ys (qs.map fun q => (kN q.1, V.ref q.2))
  | _, _, .nil => .nil
  | _, _, .cons ⟨t, b, e, _, _, h1, h2, _, _⟩ r => by
    subst e
    exact PrsT.cons (SqT.of h1) h2 (CB.prs r)
theorem kN_nodup {ns : List Nk} (h : ns.Nodup) : (ns.map kN).Nodup := List.pairwise_map.mpr (List.Pairwise.imp (fun n e => n (kN_inj e)) h)
theorem CB.bd {H0 H1 H H' : Hp} {D : Addr} (s : Same H0 H1) (k : KT2 H H') (kl : ∀ b xs, b ≠ D → H b = some (.lst xs) → H' b = some (.lst xs)) : ∀ {ys : List V} {qs : List (Nk × Addr)}, Paired (fun (y : V) (q : Nk × Addr) => ∃ t b, y = .ref t ∧ t ≠ D ∧ q.2 ≠ D ∧ H t = some (.tup [.ref b, .ref q.2]) ∧ H b = some (.tup ((kN q.1).map kV)) ∧ H1 q.2 = none ∧ H q.2 = some (.lst [])) ys qs →
    Paired (fun (q : List Key × V) (n : Nk) => q.1 = kN n ∧ ∃ l ws, q.2 = .ref l ∧ H0 l = none ∧ H' l = some (.lst ws) ∧ Nds H' ws []) (qs.map fun q => (kN q.1, V.ref q.2)) (qs.map (·.1))
  | _, _, .nil => .nil
  | _, _, .cons ⟨_, _, _, _, n2, _, _, h3, h4⟩ r => .cons ⟨rfl, _, [], rfl, s.free h3, kl _ _ n2 h4, .nil⟩ (CB.bd s k kl r)
def spFollow (K : PySem.W.Frag) : Sp := fun vs H Q _ => ∃ (a b : Addr) (nv pv : List V) (ns : List Nk) (E : List (Nk × Nk)), vs = [.ref a, .ref b] ∧ SqL K H a nv ∧ Nds H nv ns ∧ ns.Nodup ∧ ns.length ≤ 12 ∧ SqL K H b pv ∧ Paired (PrV H) pv E ∧ E.length ≤ 60 ∧ (∀ k ∈ E, k.1 ∈ ns ∧ k.2 ∈ ns) ∧
  ∀ d kvs js H', H d = none → Same H H' → H' d = some (.dT kvs) → js.Nodup → (∀ k, k ∈ js ↔ k ∈ E) → js.Pairwise (fun a b => ltE b a = false) → BD H H' kvs ns (bhF js) → Q (.ref d) H'
theorem pr_kt {H H' : Hp} (s : KT2 H H') {v : V} {k : Nk × Nk} (h : PrV H v k) : PrV H' v k := let ⟨p, u, u', e, q, a, b⟩ := h; ⟨p, u, u', e, s _ _ q, nd_kt s a, nd_kt s b⟩
theorem prs_kt {H H' : Hp} (s : KT2 H H') {vs : List V} {ks : List (Nk × Nk)} (h : Paired (PrV H) vs ks) : Paired (PrV H') vs ks := Paired.mapP h fun _ _ z => pr_kt s z
abbrev BR (H0 H : Hp) (bh : Nk → List Nk) (q : List Key × V) (n : Nk) : Prop := q.1 = kN n ∧ ∃ l ws, q.2 = .ref l ∧ H0 l = none ∧ H l = some (.lst ws) ∧ Nds H ws (bh n)
theorem br_tail {H0 H H' : Hp} {l0 : Addr} {bh bh' : Nk → List Nk} (kt : KT2 H H') (k6 : ∀ b o, b ≠ l0 → H b = some o → H' b = some o) : ∀ {kvs : List (List Key × V)} {ns : List Nk}, Paired (BR H0 H bh) kvs ns → (∀ q ∈ kvs, q.2 ≠ .ref l0) → (∀ n ∈ ns, bh' n = bh n) → Paired (BR H0 H' bh') kvs ns
  | _, _, .nil, _, _ => .nil
  | _, _, .cons (a := q) (b := n) ⟨e1, l, ws, e2, e3, e4, e5⟩ t, h1, h2 => .cons ⟨e1, l, ws, e2, e3, k6 _ _ (fun z => h1 q List.mem_cons_self (by rw [e2, z])) e4, by rw [h2 n List.mem_cons_self]; exact nds_kt kt e5⟩ (br_tail kt k6 t (fun q hq => h1 q (List.mem_cons_of_mem _ hq)) fun n hn => h2 n (List.mem_cons_of_mem _ hn))
theorem br_app {H0 H H' : Hp} {l0 : Addr} {bh : Nk → List Nk} {k o : Nk} {u : V} {ws : List V} (kt : KT2 H H') (k6 : ∀ b o, b ≠ l0 → H b = some o → H' b = some o) (hl0 : H l0 = some (.lst ws)) (h6 : H' l0 = some (.lst (ws ++ [u]))) (hu : NdV H u o) :
    ∀ {kvs : List (List Key × V)} {ns : List Nk}, Paired (BR H0 H bh) kvs ns → ns.Nodup → (kvs.map (·.2)).Nodup → valV kvs (kN k) = some (.ref l0) → Paired (BR H0 H' (fun n => if k = n then bh n ++ [o] else bh n)) kvs ns
  | _, _, .nil, _, _, _ => .nil
  | _, _, .cons (a := q) (b := n) (l₁ := kr) (l₂ := nr) ⟨e1, l, ws', e2, e3, e4, e5⟩ t, nd, nv, v => by
    obtain ⟨n1, n2⟩ := List.nodup_cons.mp nd
    obtain ⟨v1, v2⟩ := List.nodup_cons.mp (show (q.2 :: kr.map (·.2)).Nodup from nv)
    by_cases e : k = n
    · subst e
      have hq : q.2 = .ref l0 := by
        unfold valV at v
        rw [List.find?_cons, show decide (q.1 = kN k) = true from decide_eq_true e1] at v
        exact Option.some.inj v
      rw [e2] at hq
      cases hq
      rw [hl0] at e4
      cases e4
      refine .cons ⟨e1, l0, ws ++ [u], e2, e3, h6, ?_⟩ (br_tail kt k6 t (fun q' hq' z => v1 (by rw [e2, ← z]; exact List.mem_map.mpr ⟨q', hq', rfl⟩)) fun m hm => if_neg fun z => n1 (by rw [z]; exact hm))
      dsimp only
      rw [if_pos rfl]
      exact paired_append (nds_kt kt e5) (.cons (nd_kt kt hu) .nil)
    · have vt : valV kr (kN k) = some (.ref l0) := by
        unfold valV at v ⊢
        rw [List.find?_cons, show decide (q.1 = kN k) = false from decide_eq_false fun z => e (kN_inj (z.symm.trans e1))] at v
        exact v
      have hne : l ≠ l0 := fun z => by
        unfold valV at vt
        obtain ⟨q', hq', eq'⟩ := Option.map_eq_some_iff.mp vt
        exact v1 (by rw [e2, z, ← eq']; exact List.mem_map.mpr ⟨q', List.mem_of_find?_eq_some hq', rfl⟩)
      refine .cons ⟨e1, l, ws', e2, e3, k6 _ _ hne e4, ?_⟩ (br_app kt k6 hl0 h6 hu t n2 v2 vt)
      dsimp only
      rw [if_neg e]
      exact nds_kt kt e5
def cntF (os : List Nk) (n : Nk) : Int := ((os.count n : Nat) : Int)
/-- what is blocked by those left, and what is free -/
def blk (E : List (Nk × Nk)) (L : List Nk) : List Nk := (E.filter fun p => decide (p.1 ∈ L)).map (·.2)
def frE (E : List (Nk × Nk)) (L : List Nk) : List Nk := L.filter fun x => !decide (x ∈ blk E L)
structure Ord (E js : List (Nk × Nk)) (ns L acc fs : List Nk) : Prop where
  nd : L.Nodup
  pw : L.Pairwise fun a b => ltN b a = false
  sub : ∀ x ∈ L, x ∈ ns
  len : acc.length + L.length = ns.length
  fnd : fs.Nodup
  fm : ∀ x, x ∈ fs ↔ x ∈ frE E L
  past : ∀ y ∈ ns, y ∉ L → y ∉ L.flatMap (bhF js)
theorem mem_bhF {js : List (Nk × Nk)} {m y : Nk} : y ∈ bhF js m ↔ (m, y) ∈ js := by
  unfold bhF
  rw [List.mem_map]
  constructor
  · rintro ⟨p, hp, rfl⟩
    obtain ⟨h1, h2⟩ := List.mem_filter.mp hp
    have := of_decide_eq_true h2
    rw [← this]
    exact h1
  · intro h
    exact ⟨(m, y), List.mem_filter.mpr ⟨h, decide_eq_true rfl⟩, rfl⟩
theorem blk_iff {E js : List (Nk × Nk)} (mj : ∀ k, k ∈ js ↔ k ∈ E) {L : List Nk} {y : Nk} : y ∈ blk E L ↔ y ∈ L.flatMap (bhF js) := by
  unfold blk
  rw [List.mem_map, List.mem_flatMap]
  constructor
  · rintro ⟨p, hp, rfl⟩
    obtain ⟨h1, h2⟩ := List.mem_filter.mp hp
    exact ⟨p.1, of_decide_eq_true h2, mem_bhF.mpr ((mj _).mpr h1)⟩
  · rintro ⟨m, hm, hy⟩
    exact ⟨(m, y), List.mem_filter.mpr ⟨(mj _).mp (mem_bhF.mp hy), decide_eq_true hm⟩, rfl⟩
theorem frE_iff {E js : List (Nk × Nk)} (mj : ∀ k, k ∈ js ↔ k ∈ E) {L : List Nk} {y : Nk} : y ∈ frE E L ↔ y ∈ L ∧ y ∉ L.flatMap (bhF js) := by
  unfold frE
  rw [List.mem_filter, ← blk_iff mj]
  simp
theorem cnt_zero {os : List Nk} {y : Nk} : cntF os y = 0 ↔ y ∉ os := by
  unfold cntF
  rw [Int.natCast_eq_zero, List.count_eq_zero]
theorem bhF_nodup {js : List (Nk × Nk)} (nj : js.Nodup) (m : Nk) : (bhF js m).Nodup := by
  unfold bhF
  refine List.pairwise_map.mpr (List.Pairwise.imp_of_mem (fun {a b} ha hb n e => n ?_) (nj.filter _))
  have h1 := of_decide_eq_true (List.mem_filter.mp ha).2
  have h2 := of_decide_eq_true (List.mem_filter.mp hb).2
  exact Prod.ext (h1.trans h2.symm) e
theorem cnt_take {L : List Nk} {js : List (Nk × Nk)} (nj : js.Nodup) {x : Nk} (hx : x ∈ L) (y : Nk) : cntF (L.flatMap (bhF js)) y = (if y ∈ bhF js x then 1 else 0) + cntF ((L.erase x).flatMap (bhF js)) y := by
  have p : (L.flatMap (bhF js)).Perm (bhF js x ++ (L.erase x).flatMap (bhF js)) := by
    have := (List.perm_cons_erase hx).flatMap_right (bhF js)
    rw [List.flatMap_cons] at this
    exact this
  unfold cntF
  rw [p.count_eq, List.count_append]
  by_cases h : y ∈ bhF js x
  · rw [if_pos h, (bhF_nodup nj x).count, if_pos h]
    omega
  · rw [if_neg h, List.count_eq_zero.mpr h]
    omega
theorem mem_flat {os : List Nk} {y : Nk} : 0 < cntF os y ↔ y ∈ os := by
  have := cnt_zero (os := os) (y := y)
  have h0 : 0 ≤ cntF os y := Int.natCast_nonneg _
  constructor
  · intro h
    exact Classical.byContradiction fun z => by rw [this.mpr z] at h; omega
  · intro h
    have : cntF os y ≠ 0 := fun z => this.mp z h
    omega
theorem Ord.step {E js : List (Nk × Nk)} {ns L acc fs : List Nk} (o : Ord E js ns L acc fs) (nj : js.Nodup) (mj : ∀ k, k ∈ js ↔ k ∈ E) (hin : ∀ k ∈ E, k.1 ∈ ns ∧ k.2 ∈ ns) {x : Nk} (hx : x ∈ fs) :
    Ord E js ns (L.erase x) (acc ++ [x]) (fs.erase x ++ (bhF js x).filter fun y => decide (cntF (L.flatMap (bhF js)) y = 1)) := by
  obtain ⟨xL, xb⟩ := (frE_iff mj).mp ((o.fm x).mp hx)
  have xx : x ∉ bhF js x := fun z => xb (List.mem_flatMap.mpr ⟨x, xL, z⟩)
  have nat0 : ∀ os y, 0 ≤ cntF os y := fun os y => Int.natCast_nonneg _
  have inL : ∀ y, y ∈ bhF js x → y ∈ L := fun y hy => Classical.byContradiction fun z => o.past y (hin _ ((mj _).mp (mem_bhF.mp hy))).2 z (List.mem_flatMap.mpr ⟨x, xL, hy⟩)
  refine ⟨o.nd.erase x, o.pw.sublist List.erase_sublist, fun y hy => o.sub y (List.mem_of_mem_erase hy), ?_, ?_, fun y => ?_, fun y hy hn z => ?_⟩
  · have := o.len
    have h1 := List.length_erase_of_mem xL
    have h2 := List.length_pos_of_mem xL
    rw [List.length_append, List.length_singleton, h1]
    omega
  · refine List.nodup_append.mpr ⟨o.fnd.erase x, (bhF_nodup nj x).filter _, fun y hy z hz e => ?_⟩
    subst e
    have h1 := ((frE_iff mj).mp ((o.fm y).mp (List.mem_of_mem_erase hy))).2
    exact h1 (List.mem_flatMap.mpr ⟨x, xL, (List.mem_filter.mp hz).1⟩)
  · have ct := cnt_take nj xL y
    rw [List.mem_append, (frE_iff mj), List.mem_filter, decide_eq_true_eq, List.Nodup.mem_erase_iff o.fnd, o.fm, frE_iff mj, List.Nodup.mem_erase_iff o.nd, ← cnt_zero, ← cnt_zero]
    have h0 := nat0 ((L.erase x).flatMap (bhF js)) y
    constructor
    · rintro (⟨n, yL, c0⟩ | ⟨yb, c1⟩)
      · refine ⟨⟨n, yL⟩, ?_⟩
        split at ct <;> omega
      · refine ⟨⟨fun z => xx (z ▸ yb), inL y yb⟩, ?_⟩
        rw [if_pos yb] at ct
        omega
    · rintro ⟨⟨n, yL⟩, c0⟩
      by_cases yb : y ∈ bhF js x
      · rw [if_pos yb] at ct
        exact .inr ⟨yb, by omega⟩
      · rw [if_neg yb] at ct
        exact .inl ⟨n, yL, by omega⟩
  · have ct := cnt_take nj xL y
    have z' := mem_flat.mpr z
    by_cases yL : y ∈ L
    · have e : y = x := Classical.byContradiction fun q => hn ((List.mem_erase_of_ne q).mpr yL)
      subst e
      have := cnt_zero.mpr xb
      have : (0 : Int) ≤ if y ∈ bhF js y then 1 else 0 := by split <;> omega
      omega
    · have h1 := cnt_zero.mpr (o.past y hy yL)
      have : (0 : Int) ≤ if y ∈ bhF js x then 1 else 0 := by split <;> omega
      omega
theorem Ord.least {E js : List (Nk × Nk)} {ns L acc fs : List Nk} (o : Ord E js ns L acc fs) {x : Nk} (hx : x ∈ fs) (hl : ∀ y ∈ fs, ltN y x = false) : ∃ r, frE E L = x :: r := by
  have hm := (o.fm x).mp hx
  cases e : frE E L with
  | nil => rw [e] at hm; cases hm
  | cons h r =>
    have pw : (h :: r).Pairwise fun a b => ltN b a = false := by rw [← e]; unfold frE; exact o.pw.sublist List.filter_sublist
    have h1 : h ∈ fs := (o.fm h).mpr (by rw [e]; exact List.mem_cons_self)
    by_cases q : h = x
    · exact ⟨r, by rw [q]⟩
    · rw [e] at hm
      rcases List.mem_cons.mp hm with z | z
      · exact absurd z.symm q
      · have a := (List.pairwise_cons.mp pw).1 x z
        have b := ltN_tot (Ne.symm q) a
        rw [hl h h1] at b
        cases b
def celF (cs : List Int) (k : Int) : Int := (cs[k.toNat]?).getD 0
def spCellA (K : PySem.W.Frag) : Sp := fun vs H Q _ => ∃ (a : Addr) (cs : List Int) (k : Int), vs = [.ref a, .int k] ∧ SqL K H a (cs.map V.int) ∧ 0 ≤ k ∧ Q (.int (celF cs k)) H
def spWhole : Sp := fun vs H Q _ => ∃ n : Int, vs = [.int n] ∧ Q (.bl true) H
/-- the k-th node drawn -/
def oneF (c : Int) (k : Nat) : Int := (5 * (k : Int) + c / 7) % 13
def nodeF (c e M : Int) (k : Nat) : Nk := if e / 3 % 2 = 1 then (1 + M + oneF c k / 3, oneF c k % 3 * 1000003 - 1000003) else (1 + M + oneF c k, e / ((k : Int) + 1) % 4)
theorem nodeF_inj {c e M : Int} {i j : Nat} (hi : i < 13) (hj : j < 13) (h : nodeF c e M i = nodeF c e M j) : i = j := by
  have key : oneF c i = oneF c j := by
    unfold nodeF at h
    split at h
    · have h1 := congrArg Prod.fst h
      have h2 := congrArg Prod.snd h
      simp only at h1 h2
      omega
    · have h1 := congrArg Prod.fst h
      simp only at h1
      omega
  unfold oneF at key
  omega
theorem nodes_nodup {c e M : Int} {n : Nat} (hn : n ≤ 13) : ((List.range n).map (nodeF c e M)).Nodup := by
  refine List.pairwise_map.mpr (List.Pairwise.imp_of_mem (fun {a b} ha hb ne h => ne ?_) (List.nodup_range (n := n)))
  have := List.mem_range.mp ha
  have := List.mem_range.mp hb
  exact nodeF_inj (by omega) (by omega) h
def spNodes (K : PySem.W.Frag) : Sp := fun vs H Q _ => ∃ (a : Addr) (cs : List Int) (m : Int), vs = [.ref a, .int m] ∧ SqL K H a (cs.map V.int) ∧ 0 ≤ m ∧ m ≤ 12 ∧ ∀ p nv ns H', H p = none → Same H H' → H' p = some (.lst nv) → Nds H' nv ns → ns.Nodup → ns.length ≤ 12 → Q (.ref p) H'
def spPairs (K : PySem.W.Frag) : Sp := fun vs H Q _ => ∃ (a b : Addr) (cs : List Int) (nv : List V) (ns : List Nk), vs = [.ref a, .ref b] ∧ SqL K H a (cs.map V.int) ∧ SqL K H b nv ∧ Nds H nv ns ∧ ns.Nodup ∧ ns.length ≤ 12 ∧ ∀ p ew E H', H p = none → Same H H' → H' p = some (.lst ew) → Paired (PrV H') ew E → E.length ≤ 60 → (∀ k ∈ E, k.1 ∈ ns ∧ k.2 ∈ ns) → (∀ k ∈ E, k.1 ≠ k.2) → Q (.ref p) H'
def dN (n : Nk) : PyData := .tuple [.int n.1, .int n.2]
def dE (k : Nk × Nk) : PyData := .tuple [dN k.1, dN k.2]
theorem nd_dt {K : PySem.W.Frag} {H : Hp} {v : V} {n : Nk} (h : NdV H v n) : Dt K H v (dN n) := by
  obtain ⟨p, rfl, e⟩ := h
  exact .tup (SqT.of e) (.cons (.int _) (.cons (.int _) .nil))
theorem nds_dts {K : PySem.W.Frag} {H : Hp} : ∀ {vs : List V} {ns : List Nk}, Nds H vs ns → Dts K H vs (ns.map dN)
  | _, _, .nil => .nil
  | _, _, .cons r t => .cons (nd_dt r) (nds_dts t)
theorem prs_dts {K : PySem.W.Frag} {H : Hp} : ∀ {vs : List V} {ks : List (Nk × Nk)}, Paired (PrV H) vs ks → Dts K H vs (ks.map dE)
  | _, _, .nil => .nil
  | _, _, .cons ⟨p, u, u', e, q, a, b⟩ t => by
    subst e
    exact .cons (.tup (SqT.of q) (.cons (nd_dt a) (.cons (nd_dt b) .nil))) (prs_dts t)
theorem lay_N : ∀ ns : List Nk, PyData.canLayAll0 (ns.map dN) = true ∧ PyData.depthAll (ns.map dN) ≤ 2
  | [] => ⟨rfl, Nat.zero_le _⟩
  | n :: r => by
    obtain ⟨a, b⟩ := lay_N r
    refine ⟨?_, ?_⟩
    · show (PyData.canLay0 (dN n) && PyData.canLayAll0 (r.map dN)) = true
      rw [a]
      rfl
    · show max (PyData.depth (dN n)) (PyData.depthAll (r.map dN)) ≤ 2
      exact Nat.max_le.mpr ⟨by show (1 : Nat) ≤ 2; decide, b⟩
theorem lay_E : ∀ ks : List (Nk × Nk), PyData.canLayAll0 (ks.map dE) = true ∧ PyData.depthAll (ks.map dE) ≤ 3
  | [] => ⟨rfl, Nat.zero_le _⟩
  | n :: r => by
    obtain ⟨a, b⟩ := lay_E r
    refine ⟨?_, ?_⟩
    · show (PyData.canLay0 (dE n) && PyData.canLayAll0 (r.map dE)) = true
      rw [a]
      rfl
    · show max (PyData.depth (dE n)) (PyData.depthAll (r.map dE)) ≤ 3
      exact Nat.max_le.mpr ⟨by show (2 : Nat) ≤ 3; decide, b⟩
theorem shaped_N (ns : List Nk) : SeqAt.shaped (.list (ns.map dN)) = true := by
  show (PyData.canLayAll0 (ns.map dN) && decide (PyData.depthAll (ns.map dN) + 1 ≤ 64)) = true
  have := (lay_N ns).2
  rw [(lay_N ns).1, decide_eq_true (by omega)]
  rfl
theorem shaped_E (ks : List (Nk × Nk)) : SeqAt.shaped (.list (ks.map dE)) = true := by
  show (PyData.canLayAll0 (ks.map dE) && decide (PyData.depthAll (ks.map dE) + 1 ≤ 64)) = true
  have := (lay_E ks).2
  rw [(lay_E ks).1, decide_eq_true (by omega)]
  rfl
theorem eqv_N (ns : List Nk) : PyData.eqv (.list (ns.map dN)) (.list (ns.map dN)) = true := SeqAt.eqv_refl _ (lay_N ns).1
theorem eqv_E (ks : List (Nk × Nk)) : PyData.eqv (.list (ks.map dE)) (.list (ks.map dE)) = true := SeqAt.eqv_refl _ (lay_E ks).1
def spLaw (K : PySem.W.Frag) : Sp := fun vs H Q _ => ∃ (a : Addr) (ns : List Int), vs = [.ref a] ∧ SqL K H a (ns.map V.int) ∧ ns.length ≤ 63 ∧ (∀ m ∈ ns, Builtin.Int.intBits m ≤ 1048576) ∧ ∀ H', Q (.bl true) H'
/-! ### rings of nodes -/
theorem nodup_len : ∀ {l U : List Nk}, l.Nodup → (∀ x ∈ l, x ∈ U) → l.length ≤ U.length
  | [], _, _, _ => Nat.zero_le _
  | x :: r, U, nd, h => by
    obtain ⟨a, b⟩ := List.nodup_cons.mp nd
    have := nodup_len (U := U.erase x) b fun y hy => (List.mem_erase_of_ne fun z => a (by rw [← z]; exact hy)).mpr (h y (List.mem_cons_of_mem _ hy))
    have hx := h x List.mem_cons_self
    rw [List.length_erase_of_mem hx] at this
    have := List.length_pos_of_mem hx
    simp only [List.length_cons]
    omega
abbrev Wn := Nk → List Nk
def lastZ (c : List Nk) : Nk := c.getLast?.getD (0, 0)
def ext1 (c : List Nk) (s : List Nk × List (List Nk)) (o : Nk) : List Nk × List (List Nk) := if o ∈ s.1 then s else (s.1 ++ [o], s.2 ++ [c ++ [o]])
def level (W : Wn) (st : Nk) : List (List Nk) → List Nk × List (List Nk) → Option (List Nk) × (List Nk × List (List Nk))
  | [], s => (none, s)
  | c :: r, s => if st ∈ W (lastZ c) then (some c, s) else level W st r ((W (lastZ c)).foldl (ext1 c) s)
theorem level_cons (W : Wn) (st : Nk) (c : List Nk) (r : List (List Nk)) (s : List Nk × List (List Nk)) : level W st (c :: r) s = if st ∈ W (lastZ c) then (some c, s) else level W st r ((W (lastZ c)).foldl (ext1 c) s) := rfl
def ringF (W : Wn) (st : Nk) : Nat → List Nk → List (List Nk) → Option (List Nk)
  | 0, _, _ => none
  | n + 1, met, cs => if cs = [] then none else match (level W st cs (met, [])).1 with
    | some c => some c
    | none => ringF W st n (level W st cs (met, [])).2.1 (level W st cs (met, [])).2.2
theorem ringF_nil (W : Wn) (st : Nk) (n : Nat) (met : List Nk) : ringF W st n met [] = none := by
  cases n with
  | zero => rfl
  | succ n => unfold ringF; rw [if_pos rfl]
theorem ringF_hit {W : Wn} {st : Nk} {n : Nat} {met : List Nk} {cs : List (List Nk)} {c : List Nk} (h : cs ≠ []) (e : (level W st cs (met, [])).1 = some c) : ringF W st (n + 1) met cs = some c := by
  unfold ringF
  rw [if_neg h, e]
theorem ringF_go {W : Wn} {st : Nk} {n : Nat} {met : List Nk} {cs : List (List Nk)} (h : cs ≠ []) (e : (level W st cs (met, [])).1 = none) : ringF W st (n + 1) met cs = ringF W st n (level W st cs (met, [])).2.1 (level W st cs (met, [])).2.2 := by
  conv => lhs; unfold ringF
  rw [if_neg h, e]
theorem level_app (W : Wn) (st : Nk) : ∀ (a b : List (List Nk)) (s : List Nk × List (List Nk)), (level W st a s).1 = none → level W st (a ++ b) s = level W st b (level W st a s).2
  | [], _, _, _ => rfl
  | c :: r, b, s, h => by
    rw [level_cons] at h
    rw [List.cons_append, level_cons, level_cons]
    by_cases e : st ∈ W (lastZ c)
    · rw [if_pos e] at h; cases h
    · rw [if_neg e] at h
      rw [if_neg e, if_neg e]
      exact level_app W st r b _ h
theorem level_hit {W : Wn} {st : Nk} {cs : List (List Nk)} {i : Nat} {c : List Nk} {s : List Nk × List (List Nk)} (h : (level W st (cs.take i) s).1 = none) (e : cs[i]? = some c) (hit : st ∈ W (lastZ c)) : (level W st cs s).1 = some c := by
  obtain ⟨hi, ei⟩ := List.getElem?_eq_some_iff.mp e
  conv => lhs; rw [← List.take_append_drop i cs, List.drop_eq_getElem_cons hi, ei]
  rw [level_app W st _ _ _ h, level_cons, if_pos hit]
theorem level_step {W : Wn} {st : Nk} {cs : List (List Nk)} {i : Nat} {c : List Nk} {s : List Nk × List (List Nk)} (h : (level W st (cs.take i) s).1 = none) (e : cs[i]? = some c) (hit : ¬ st ∈ W (lastZ c)) : level W st (cs.take (i + 1)) s = (none, (W (lastZ c)).foldl (ext1 c) (level W st (cs.take i) s).2) := by
  rw [List.take_add_one, e]
  show level W st (cs.take i ++ [c]) s = _
  rw [level_app W st _ _ _ h, level_cons, if_neg hit]
  rfl
/-- who stands behind whom, among U -/
structure Wf (W : Wn) (U : List Nk) : Prop where
  ends : ∀ k x, x ∈ W k → x ∈ U
  self : ∀ k, k ∉ W k
  few : U.length ≤ 12
  len : ∀ k, (W k).length ≤ 12
  up : ∀ k, (W k).Pairwise fun a b => ltN a b = true
theorem Wf.inU {W : Wn} {U : List Nk} (w : Wf W U) {k x : Nk} (h : x ∈ W k) : x ∈ U := w.ends k x h
/-- what has been met -/
structure Met (U : List Nk) (st : Nk) (met : List Nk) : Prop where
  nd : met.Nodup
  inU : ∀ x ∈ met, x ∈ U
  no : st ∉ met
def Lk (W : Wn) : List Nk → Prop
  | [] => True
  | [_] => True
  | a :: b :: r => b ∈ W a ∧ Lk W (b :: r)
theorem lastZ_snoc (c : List Nk) (o : Nk) : lastZ (c ++ [o]) = o := by unfold lastZ; rw [List.getLast?_append]; rfl
theorem Lk.snoc {W : Wn} {o : Nk} : ∀ {c : List Nk}, Lk W c → o ∈ W (lastZ c) → c ≠ [] → Lk W (c ++ [o])
  | [a], _, h, _ => ⟨h, trivial⟩
  | a :: b :: r, hc, h, _ => ⟨hc.1, Lk.snoc (c := b :: r) hc.2 (by
      have e : lastZ (a :: b :: r) = lastZ (b :: r) := by unfold lastZ; rw [List.getLast?_cons_cons]
      rw [← e]; exact h) (by simp)⟩
theorem Lk.zip {W : Wn} {st : Nk} : ∀ {c : List Nk}, Lk W c → st ∈ W (lastZ c) → ∀ (i : Nat) x y, c[i]? = some x → (c.tail ++ [st])[i]? = some y → y ∈ W x
  | [a], _, h, i, x, y, e1, e2 => by
    cases i with
    | zero => cases e1; cases e2; exact h
    | succ i => simp at e1
  | a :: b :: r, hc, h, i, x, y, e1, e2 => by
    cases i with
    | zero => cases e1; cases e2; exact hc.1
    | succ i =>
      have e : lastZ (a :: b :: r) = lastZ (b :: r) := by unfold lastZ; rw [List.getLast?_cons_cons]
      rw [e] at h
      exact Lk.zip (c := b :: r) hc.2 h i x y (by simpa using e1) (by simpa using e2)
/-- a chain that is walked -/
structure GC (W : Wn) (st : Nk) (met : List Nk) (c : List Nk) : Prop where
  head : c.head? = some st
  lk : Lk W c
  tail : ∀ x ∈ c.tail, x ∈ met
  nd : c.Nodup
theorem GC.mono {W : Wn} {st : Nk} {met met' : List Nk} {c : List Nk} (g : GC W st met c) (h : ∀ x ∈ met, x ∈ met') : GC W st met' c := ⟨g.head, g.lk, fun x hx => h x (g.tail x hx), g.nd⟩
theorem GC.ne {W : Wn} {st : Nk} {met c : List Nk} (g : GC W st met c) : c ≠ [] := fun z => by have := g.head; rw [z] at this; cases this
theorem GC.mem {W : Wn} {st : Nk} {met c : List Nk} (g : GC W st met c) {x : Nk} (h : x ∈ c) : x = st ∨ x ∈ met := by
  cases c with
  | nil => cases h
  | cons a r =>
    have := g.head
    cases this
    rcases List.mem_cons.mp h with z | z
    · exact .inl z
    · exact .inr (g.tail x z)
theorem GC.len {W : Wn} {U : List Nk} {st : Nk} {met c : List Nk} (g : GC W st met c) (m : Met U st met) (hu : U.length ≤ 12) : c.length ≤ 13 := by
  have nd : c.tail.Nodup := g.nd.sublist (List.tail_sublist c)
  have := nodup_len nd (U := U) fun x hx => m.inU x (g.tail x hx)
  rw [List.length_tail] at this
  omega
theorem ext_facts {W : Wn} {U : List Nk} {st : Nk} {c : List Nk} (w : Wf W U) (hno : st ∉ W (lastZ c)) : ∀ (l : List Nk) (s : List Nk × List (List Nk)), (∀ x ∈ l, x ∈ W (lastZ c)) → Met U st s.1 → GC W st s.1 c → (∀ d ∈ s.2, GC W st s.1 d) →
    Met U st (l.foldl (ext1 c) s).1 ∧ (∀ d ∈ (l.foldl (ext1 c) s).2, GC W st (l.foldl (ext1 c) s).1 d) ∧ (l.foldl (ext1 c) s).1.length + s.2.length = s.1.length + (l.foldl (ext1 c) s).2.length ∧ ∀ x ∈ s.1, x ∈ (l.foldl (ext1 c) s).1
  | [], s, _, m, _, hs => ⟨m, hs, rfl, fun _ h => h⟩
  | o :: r, s, hl, m, g, hs => by
    have ho := hl o List.mem_cons_self
    rw [List.foldl_cons]
    by_cases e : o ∈ s.1
    · rw [show ext1 c s o = s from if_pos e]
      exact ext_facts w hno r s (fun x hx => hl x (List.mem_cons_of_mem _ hx)) m g hs
    · rw [show ext1 c s o = (s.1 ++ [o], s.2 ++ [c ++ [o]]) from if_neg e]
      have sub : ∀ x ∈ s.1, x ∈ s.1 ++ [o] := fun x hx => List.mem_append_left _ hx
      have os : o ≠ st := fun z => hno (z ▸ ho)
      have m' : Met U st (s.1 ++ [o]) := ⟨List.nodup_append.mpr ⟨m.nd, by simp, fun x hx y hy z => e (by rw [← List.mem_singleton.mp hy, ← z]; exact hx)⟩, fun x hx => (List.mem_append.mp hx).elim (m.inU x) fun z => by rw [List.mem_singleton.mp z]; exact w.inU ho, fun hx => (List.mem_append.mp hx).elim m.no fun z => os (List.mem_singleton.mp z).symm⟩
      have gn : GC W st (s.1 ++ [o]) (c ++ [o]) := by
        refine ⟨?_, g.lk.snoc ho g.ne, fun x hx => ?_, ?_⟩
        · rw [List.head?_append, g.head]; rfl
        · rw [List.tail_append_of_ne_nil g.ne] at hx
          rcases List.mem_append.mp hx with z | z
          · exact sub x (g.tail x z)
          · exact List.mem_append_right _ z
        · refine List.nodup_append.mpr ⟨g.nd, by simp, fun x hx y hy z => ?_⟩
          rw [List.mem_singleton.mp hy] at z
          rcases g.mem hx with q | q
          · exact os (by rw [← z, q])
          · exact e (z ▸ q)
      have ih := ext_facts w hno r (s.1 ++ [o], s.2 ++ [c ++ [o]]) (fun x hx => hl x (List.mem_cons_of_mem _ hx)) m' (g.mono sub) (fun d hd => (List.mem_append.mp hd).elim (fun z => (hs d z).mono sub) fun z => by rw [List.mem_singleton.mp z]; exact gn)
      refine ⟨ih.1, ih.2.1, ?_, fun x hx => ih.2.2.2 x (sub x hx)⟩
      have := ih.2.2.1
      simp only [List.length_append, List.length_singleton] at this
      omega
theorem level_facts {W : Wn} {U : List Nk} {st : Nk} (w : Wf W U) : ∀ (cs : List (List Nk)) (s : List Nk × List (List Nk)), Met U st s.1 → (∀ c ∈ cs, GC W st s.1 c) → (∀ d ∈ s.2, GC W st s.1 d) →
    (∀ c, (level W st cs s).1 = some c → c ∈ cs ∧ st ∈ W (lastZ c)) ∧ ((level W st cs s).1 = none → Met U st (level W st cs s).2.1 ∧ (∀ d ∈ (level W st cs s).2.2, GC W st (level W st cs s).2.1 d) ∧ (level W st cs s).2.1.length + s.2.length = s.1.length + (level W st cs s).2.2.length ∧ ∀ x ∈ s.1, x ∈ (level W st cs s).2.1)
  | [], s, m, _, hs => ⟨fun c e => (by cases e), fun _ => ⟨m, hs, rfl, fun _ h => h⟩⟩
  | c :: r, s, m, hc, hs => by
    rw [level_cons]
    by_cases e : st ∈ W (lastZ c)
    · rw [if_pos e]
      exact ⟨fun d q => (by cases q; exact ⟨List.mem_cons_self, e⟩), fun q => (by cases q)⟩
    · rw [if_neg e]
      have f := ext_facts w e (W (lastZ c)) s (fun _ h => h) m (hc c List.mem_cons_self) hs
      have ih := level_facts w r _ f.1 (fun d hd => (hc d (List.mem_cons_of_mem _ hd)).mono f.2.2.2) f.2.1
      refine ⟨fun d q => ⟨List.mem_cons_of_mem _ (ih.1 d q).1, (ih.1 d q).2⟩, fun q => ?_⟩
      obtain ⟨a1, a2, a3, a4⟩ := ih.2 q
      refine ⟨a1, a2, ?_, fun x hx => a4 x (f.2.2.2 x hx)⟩
      have := f.2.2.1
      omega
theorem ring_facts {W : Wn} {U : List Nk} {st : Nk} (w : Wf W U) : ∀ (n : Nat) (met : List Nk) (cs : List (List Nk)) (c : List Nk), Met U st met → (∀ d ∈ cs, GC W st met d) → ringF W st n met cs = some c → (∃ met', GC W st met' c ∧ Met U st met') ∧ st ∈ W (lastZ c)
  | 0, _, _, _, _, _, h => by cases h
  | n + 1, met, cs, c, m, g, h => by
    by_cases e : cs = []
    · rw [e, ringF_nil] at h; cases h
    have f := level_facts w cs (met, []) m g (fun d hd => by cases hd)
    cases el : (level W st cs (met, [])).1 with
    | some d =>
      rw [ringF_hit e el] at h
      cases h
      exact ⟨⟨met, g c (f.1 c el).1, m⟩, (f.1 c el).2⟩
    | none =>
      rw [ringF_go e el] at h
      obtain ⟨a1, a2, _, _⟩ := f.2 el
      exact ring_facts w n _ _ c a1 a2 h
/-- the ring that is told -/
def theRing (W : Wn) (st : Nk) : Option (List Nk) := ringF W st 14 [] [[st]]
theorem start_ok (W : Wn) (U : List Nk) (st : Nk) : Met U st [] ∧ ∀ d ∈ [[st]], GC W st [] d := ⟨⟨.nil, fun x h => (by cases h), fun h => (by cases h)⟩, fun d hd => by
  rw [List.mem_singleton.mp hd]
  exact ⟨rfl, trivial, fun x h => (by cases h), by simp⟩⟩
theorem ring_ok {W : Wn} {U : List Nk} {st : Nk} (w : Wf W U) {c : List Nk} (h : theRing W st = some c) : c.head? = some st ∧ Lk W c ∧ c.Nodup ∧ st ∈ W (lastZ c) ∧ 2 ≤ c.length ∧ c.length ≤ 13 := by
  obtain ⟨⟨met, g, m⟩, hs⟩ := ring_facts w 14 [] [[st]] c (start_ok W U st).1 (start_ok W U st).2 h
  refine ⟨g.head, g.lk, g.nd, hs, ?_, g.len m w.few⟩
  match c, g.head, hs with
  | [a], e, hs =>
    cases e
    exact absurd hs (w.self st)
  | a :: b :: r, _, _ => simp
/-! ### the order of chains, and walks -/
def lx : List Nk → List Nk → Prop
  | a :: r, b :: s => ltN a b = true ∨ (a = b ∧ lx r s)
  | _, _ => False
def lxe (a b : List Nk) : Prop := a = b ∨ lx a b
theorem lx_irr : ∀ a : List Nk, ¬ lx a a
  | [], h => h
  | a :: r, h => by
    rcases h with h | ⟨_, h⟩
    · rw [ltN_irr] at h; cases h
    · exact lx_irr r h
theorem lx_tr : ∀ {a b c : List Nk}, lx a b → lx b c → lx a c
  | [], _, _, h, _ => h.elim
  | _ :: _, [], _, h, _ => h.elim
  | _ :: _, _ :: _, [], _, h => h.elim
  | x :: r, y :: s, z :: t, h, g => by
    rcases h with h | ⟨e, h⟩
    · rcases g with g | ⟨e2, g⟩
      · exact .inl (ltN_tr h g)
      · exact .inl (e2 ▸ h)
    · rcases g with g | ⟨e2, g⟩
      · exact .inl (e ▸ g)
      · exact .inr ⟨e.trans e2, lx_tr h g⟩
theorem lxe_tr {a b c : List Nk} (h : lxe a b) (g : lxe b c) : lxe a c := by
  rcases h with rfl | h
  · exact g
  · rcases g with rfl | g
    · exact .inr h
    · exact .inr (lx_tr h g)
theorem lx_app : ∀ {a b : List Nk} (s t : List Nk), lx a b → lx (a ++ s) (b ++ t)
  | [], _, _, _, h => h.elim
  | _ :: _, [], _, _, h => h.elim
  | x :: r, y :: u, s, t, h => by
    rcases h with h | ⟨e, h⟩
    · exact .inl h
    · exact .inr ⟨e, lx_app s t h⟩
theorem lx_pre : ∀ (p : List Nk) {a b : List Nk}, lx a b → lx (p ++ a) (p ++ b)
  | [], _, _, h => h
  | _ :: p, _, _, h => .inr ⟨rfl, lx_pre p h⟩
theorem lxe_app {a b : List Nk} (s : List Nk) (h : lxe a b) : lxe (a ++ s) (b ++ s) := by
  rcases h with rfl | h
  · exact .inl rfl
  · exact .inr (lx_app s s h)
/-- y is reached from x by n pairs -/
inductive Wk (W : Wn) : Nat → Nk → Nk → Prop where
  | nil (x : Nk) : Wk W 0 x x
  | snoc {n : Nat} {x y z : Nk} (h : Wk W n x y) (e : z ∈ W y) : Wk W (n + 1) x z
theorem Wk.cons {W : Wn} {n : Nat} {x y z : Nk} (e : y ∈ W x) (h : Wk W n y z) : Wk W (n + 1) x z := by
  induction h with
  | nil => exact .snoc (.nil x) e
  | snoc _ e' ih => exact .snoc (ih e) e'
theorem Wk.inv {W : Wn} {n : Nat} {x z : Nk} (h : Wk W (n + 1) x z) : ∃ y, Wk W n x y ∧ z ∈ W y := by
  cases h with
  | snoc h e => exact ⟨_, h, e⟩
/-- the nodes of a walk -/
structure Pth (W : Wn) (st : Nk) (n : Nat) (p : List Nk) : Prop where
  head : p.head? = some st
  len : p.length = n + 1
  lk : Lk W p
theorem Lk.init {W : Wn} {o : Nk} : ∀ {c : List Nk}, Lk W (c ++ [o]) → Lk W c ∧ (c ≠ [] → o ∈ W (lastZ c))
  | [], _ => ⟨trivial, fun h => absurd rfl h⟩
  | [a], h => ⟨trivial, fun _ => h.1⟩
  | a :: b :: r, h => by
    obtain ⟨h1, h2⟩ := Lk.init (c := b :: r) h.2
    refine ⟨⟨h.1, h1⟩, fun _ => ?_⟩
    have e : lastZ (a :: b :: r) = lastZ (b :: r) := by unfold lastZ; rw [List.getLast?_cons_cons]
    rw [e]
    exact h2 (by simp)
theorem Pth.init {W : Wn} {st : Nk} {n : Nat} {p : List Nk} (h : Pth W st (n + 1) p) : ∃ q o, p = q ++ [o] ∧ Pth W st n q ∧ o ∈ W (lastZ q) := by
  have hne : p ≠ [] := fun z => by have := h.len; rw [z] at this; cases this
  obtain ⟨q, o, rfl⟩ : ∃ q o, p = q ++ [o] := ⟨p.dropLast, p.getLast hne, (List.dropLast_concat_getLast hne).symm⟩
  have hl := h.len
  rw [List.length_append, List.length_singleton] at hl
  have hq : q ≠ [] := fun z => by rw [z] at hl; simp at hl
  obtain ⟨h1, h2⟩ := h.lk.init
  refine ⟨q, o, rfl, ⟨?_, by omega, h1⟩, h2 hq⟩
  have := h.head
  rw [List.head?_append] at this
  cases q with
  | nil => exact absurd rfl hq
  | cons a r => exact this
theorem Pth.snoc {W : Wn} {st o : Nk} {n : Nat} {p : List Nk} (h : Pth W st n p) (e : o ∈ W (lastZ p)) : Pth W st (n + 1) (p ++ [o]) := by
  have hne : p ≠ [] := fun z => by have := h.len; rw [z] at this; cases this
  refine ⟨?_, by rw [List.length_append, h.len]; rfl, h.lk.snoc e hne⟩
  rw [List.head?_append, h.head]; rfl
theorem wk_pth {W : Wn} {n : Nat} {st y : Nk} (h : Wk W n st y) : ∃ p, Pth W st n p ∧ lastZ p = y := by
  induction h with
  | nil x => exact ⟨[x], ⟨rfl, rfl, trivial⟩, rfl⟩
  | snoc _ e ih =>
    obtain ⟨p, hp, el⟩ := ih
    exact ⟨p ++ [_], hp.snoc (by rw [el]; exact e), lastZ_snoc _ _⟩
theorem ext_keep {c : List Nk} : ∀ (l : List Nk) (s : List Nk × List (List Nk)), (∀ d ∈ s.2, d ∈ (l.foldl (ext1 c) s).2) ∧ (∀ o, o ∈ (l.foldl (ext1 c) s).1 ↔ o ∈ s.1 ∨ o ∈ l) ∧ (∀ o ∈ l, o ∉ s.1 → c ++ [o] ∈ (l.foldl (ext1 c) s).2) ∧ (∀ d ∈ (l.foldl (ext1 c) s).2, d ∈ s.2 ∨ ∃ o ∈ l, o ∉ s.1 ∧ d = c ++ [o])
  | [], s => ⟨fun _ h => h, fun o => ⟨.inl, fun h => h.elim id fun z => by cases z⟩, fun o h => (by cases h), fun d h => .inl h⟩
  | x :: r, s => by
    rw [List.foldl_cons]
    obtain ⟨i1, i2, i3, i4⟩ := ext_keep (c := c) r (ext1 c s x)
    by_cases e : x ∈ s.1
    · have es : ext1 c s x = s := if_pos e
      rw [es] at i1 i2 i3 i4 ⊢
      refine ⟨i1, fun o => ?_, fun o ho hn => ?_, fun d hd => ?_⟩
      · rw [i2, List.mem_cons]
        exact ⟨fun h => h.elim .inl fun z => .inr (.inr z), fun h => h.elim .inl fun z => z.elim (fun y => .inl (y ▸ e)) .inr⟩
      · rcases List.mem_cons.mp ho with z | z
        · exact absurd (z ▸ e) hn
        · exact i3 o z hn
      · rcases i4 d hd with z | ⟨o, h1, h2, h3⟩
        · exact .inl z
        · exact .inr ⟨o, List.mem_cons_of_mem _ h1, h2, h3⟩
    · have es : ext1 c s x = (s.1 ++ [x], s.2 ++ [c ++ [x]]) := if_neg e
      rw [es] at i1 i2 i3 i4 ⊢
      refine ⟨fun d hd => i1 d (List.mem_append_left _ hd), fun o => ?_, fun o ho hn => ?_, fun d hd => ?_⟩
      · rw [i2, List.mem_append, List.mem_singleton, List.mem_cons]
        exact ⟨fun h => h.elim (fun z => z.elim .inl fun y => .inr (.inl y)) fun z => .inr (.inr z), fun h => h.elim (fun z => .inl (.inl z)) fun z => z.elim (fun y => .inl (.inr y)) .inr⟩
      · by_cases z : o = x
        · subst z
          exact i1 _ (List.mem_append_right _ List.mem_cons_self)
        · rcases List.mem_cons.mp ho with q | q
          · exact absurd q z
          · exact i3 o q fun y => (List.mem_append.mp y).elim hn fun u => z (List.mem_singleton.mp u)
      · rcases i4 d hd with z | ⟨o, h1, h2, h3⟩
        · rcases List.mem_append.mp z with y | y
          · exact .inl y
          · exact .inr ⟨x, List.mem_cons_self, e, List.mem_singleton.mp y⟩
        · exact .inr ⟨o, List.mem_cons_of_mem _ h1, fun y => h2 (List.mem_append_left _ y), h3⟩
theorem ext_up {c : List Nk} : ∀ (l : List Nk) (s : List Nk × List (List Nk)), l.Pairwise (fun a b => ltN a b = true) → s.2.Pairwise lx → (∀ d ∈ s.2, ∀ o ∈ l, lx d (c ++ [o])) → (l.foldl (ext1 c) s).2.Pairwise lx
  | [], s, _, h, _ => h
  | x :: r, s, hl, h, hd => by
    rw [List.foldl_cons]
    obtain ⟨h1, h2⟩ := List.pairwise_cons.mp hl
    by_cases e : x ∈ s.1
    · rw [show ext1 c s x = s from if_pos e]
      exact ext_up r s h2 h fun d hd' o ho => hd d hd' o (List.mem_cons_of_mem _ ho)
    · rw [show ext1 c s x = (s.1 ++ [x], s.2 ++ [c ++ [x]]) from if_neg e]
      refine ext_up r _ h2 (List.pairwise_append.mpr ⟨h, List.pairwise_singleton _ _, fun a ha b hb => ?_⟩) fun d hd' o ho => ?_
      · rw [List.mem_singleton.mp hb]
        exact hd a ha x List.mem_cons_self
      · rcases List.mem_append.mp hd' with z | z
        · exact hd d z o (List.mem_cons_of_mem _ ho)
        · rw [List.mem_singleton.mp z]
          exact lx_pre c (.inl (h1 o ho))
/-- what one level gives -/
theorem lev_more {W : Wn} {U : List Nk} {st : Nk} (w : Wf W U) : ∀ (cs : List (List Nk)) (s : List Nk × List (List Nk)), (level W st cs s).1 = none → cs.Pairwise lx → s.2.Pairwise lx → (∀ d ∈ s.2, ∃ e o, d = e ++ [o] ∧ ∀ c ∈ cs, lx e c) →
    (∀ d ∈ s.2, d ∈ (level W st cs s).2.2) ∧ (level W st cs s).2.2.Pairwise lx ∧ (∀ c ∈ cs, st ∉ W (lastZ c)) ∧ (∀ o, o ∈ (level W st cs s).2.1 ↔ o ∈ s.1 ∨ ∃ c ∈ cs, o ∈ W (lastZ c)) ∧
    (∀ d ∈ cs, ∀ o ∈ W (lastZ d), o ∉ s.1 → ∃ e ∈ cs, lxe e d ∧ e ++ [o] ∈ (level W st cs s).2.2) ∧ (∀ d ∈ (level W st cs s).2.2, d ∈ s.2 ∨ ∃ c ∈ cs, ∃ o ∈ W (lastZ c), d = c ++ [o])
  | [], s, _, _, h, _ => ⟨fun _ h => h, h, fun c hc => (by cases hc), fun o => ⟨.inl, fun z => z.elim id fun ⟨_, q, _⟩ => (by cases q)⟩, fun d hd => (by cases hd), fun d hd => .inl hd⟩
  | c :: r, s, hn, hc, hs, hd => by
    rw [level_cons] at hn ⊢
    by_cases e : st ∈ W (lastZ c)
    · rw [if_pos e] at hn; cases hn
    rw [if_neg e] at hn ⊢
    obtain ⟨c1, c2⟩ := List.pairwise_cons.mp hc
    obtain ⟨k1, k2, k3, k4⟩ := ext_keep (c := c) (W (lastZ c)) s
    have k5 := ext_up (c := c) (W (lastZ c)) s (w.up _) hs fun d hd' o _ => by
      obtain ⟨x, y, rfl, h⟩ := hd d hd'
      exact lx_app _ _ (h c List.mem_cons_self)
    obtain ⟨i1, i2, i3, i4, i5, i6⟩ := lev_more w r _ hn c2 k5 fun d hd' => by
      rcases k4 d hd' with z | ⟨o, _, _, rfl⟩
      · obtain ⟨x, y, rfl, h⟩ := hd d z
        exact ⟨x, y, rfl, fun q hq => h q (List.mem_cons_of_mem _ hq)⟩
      · exact ⟨c, o, rfl, c1⟩
    refine ⟨fun d hd' => i1 d (k1 d hd'), i2, fun x hx => ?_, fun o => ?_, fun d hd' o ho hno => ?_, fun d hd' => ?_⟩
    · rcases List.mem_cons.mp hx with rfl | z
      · exact e
      · exact i3 x z
    · rw [i4, k2]
      constructor
      · rintro ((h | h) | ⟨x, hx, h⟩)
        · exact .inl h
        · exact .inr ⟨c, List.mem_cons_self, h⟩
        · exact .inr ⟨x, List.mem_cons_of_mem _ hx, h⟩
      · rintro (h | ⟨x, hx, h⟩)
        · exact .inl (.inl h)
        · rcases List.mem_cons.mp hx with rfl | z
          · exact .inl (.inr h)
          · exact .inr ⟨x, z, h⟩
    · rcases List.mem_cons.mp hd' with rfl | z
      · exact ⟨d, List.mem_cons_self, .inl rfl, i1 _ (k3 o ho hno)⟩
      · by_cases q : o ∈ W (lastZ c)
        · exact ⟨c, List.mem_cons_self, .inr (c1 d z), i1 _ (k3 o q hno)⟩
        · obtain ⟨x, hx, h1, h2⟩ := i5 d z o ho fun y => ((k2 o).mp y).elim hno q
          exact ⟨x, List.mem_cons_of_mem _ hx, h1, h2⟩
    · rcases i6 d hd' with z | ⟨x, hx, o, ho, e2⟩
      · rcases k4 d z with y | ⟨o, ho, _, e2⟩
        · exact .inl y
        · exact .inr ⟨c, List.mem_cons_self, o, ho, e2⟩
      · exact .inr ⟨x, List.mem_cons_of_mem _ hx, o, ho, e2⟩
/-- the first hit -/
theorem lev_hit {W : Wn} {st : Nk} : ∀ (cs : List (List Nk)) (s : List Nk × List (List Nk)) (c : List Nk), (level W st cs s).1 = some c → cs.Pairwise lx → ∀ d ∈ cs, st ∈ W (lastZ d) → lxe c d
  | [], s, c, h, _, _, hd, _ => by cases hd
  | x :: r, s, c, h, hp, d, hd, hh => by
    rw [level_cons] at h
    obtain ⟨p1, p2⟩ := List.pairwise_cons.mp hp
    by_cases e : st ∈ W (lastZ x)
    · rw [if_pos e] at h
      cases h
      rcases List.mem_cons.mp hd with z | z
      · exact .inl z.symm
      · exact .inr (p1 d z)
    · rw [if_neg e] at h
      rcases List.mem_cons.mp hd with z | z
      · exact absurd (z ▸ hh) e
      · exact lev_hit r _ c h p2 d z hh
/-- how far the search is: m levels done -/
structure Sr (W : Wn) (st : Nk) (m : Nat) (old met : List Nk) (cs : List (List Nk)) : Prop where
  no : ∀ x ∈ old, st ∉ W x
  on : ∀ x ∈ old, ∀ o ∈ W x, o ∈ met
  metIn : ∀ x ∈ met, x ∈ old ∨ ∃ d ∈ cs, lastZ d = x
  up : cs.Pairwise lx
  pth : ∀ d ∈ cs, Pth W st m d
  far : ∀ p, Pth W st m p → lastZ p ∈ old ∨ ∃ d ∈ cs, lastZ d = lastZ p ∧ lxe d p
  near : ∀ j p, j < m → Pth W st j p → lastZ p ∈ old
theorem Sr.start (W : Wn) (st : Nk) : Sr W st 0 [] [] [[st]] := by
  refine ⟨fun x h => (by cases h), fun x h => (by cases h), fun x h => (by cases h), List.pairwise_singleton _ _, fun d hd => ?_, fun p hp => ?_, fun j p h => absurd h (Nat.not_lt_zero _)⟩
  · rw [List.mem_singleton.mp hd]
    exact ⟨rfl, rfl, trivial⟩
  · match p, hp.len, hp.head with
    | [a], _, e => cases e; exact .inr ⟨_, List.mem_cons_self, rfl, .inl rfl⟩
theorem Sr.step {W : Wn} {U : List Nk} {st : Nk} (w : Wf W U) {m : Nat} {old met : List Nk} {cs : List (List Nk)} (h : Sr W st m old met cs) (e : (level W st cs (met, [])).1 = none) : Sr W st (m + 1) (old ++ cs.map lastZ) (level W st cs (met, [])).2.1 (level W st cs (met, [])).2.2 := by
  obtain ⟨_, i2, i3, i4, i5, i6⟩ := lev_more w cs (met, []) e h.up .nil fun d hd => by cases hd
  refine ⟨fun x hx => ?_, fun x hx o ho => ?_, fun x hx => ?_, i2, fun d hd => ?_, fun p hp => ?_, fun j p hj hp => ?_⟩
  · rcases List.mem_append.mp hx with z | z
    · exact h.no x z
    · obtain ⟨c, hc, rfl⟩ := List.mem_map.mp z
      exact i3 c hc
  · rw [i4]
    rcases List.mem_append.mp hx with z | z
    · exact .inl (h.on x z o ho)
    · obtain ⟨c, hc, rfl⟩ := List.mem_map.mp z
      exact .inr ⟨c, hc, ho⟩
  · by_cases q : x ∈ met
    · rcases h.metIn x q with z | ⟨d, hd, z⟩
      · exact .inl (List.mem_append_left _ z)
      · exact .inl (List.mem_append_right _ (List.mem_map.mpr ⟨d, hd, z⟩))
    · rcases (i4 x).mp hx with z | ⟨c, hc, z⟩
      · exact absurd z q
      · obtain ⟨y, _, _, h2⟩ := i5 c hc x z q
        exact .inr ⟨_, h2, lastZ_snoc _ _⟩
  · rcases i6 d hd with z | ⟨c, hc, o, ho, rfl⟩
    · cases z
    · exact (h.pth c hc).snoc ho
  · obtain ⟨q, o, rfl, hq, ho⟩ := hp.init
    rw [lastZ_snoc]
    by_cases om : o ∈ met
    · rcases h.metIn o om with z | ⟨d, hd, z⟩
      · exact .inl (List.mem_append_left _ z)
      · exact .inl (List.mem_append_right _ (List.mem_map.mpr ⟨d, hd, z⟩))
    · rcases h.far q hq with z | ⟨d, hd, e1, e2⟩
      · exact absurd (h.on _ z o ho) om
      · obtain ⟨y, hy, h1, h2⟩ := i5 d hd o (by rw [e1]; exact ho) om
        exact .inr ⟨_, h2, lastZ_snoc _ _, lxe_app [o] (lxe_tr h1 e2)⟩
  · by_cases ej : j < m
    · exact List.mem_append_left _ (h.near j p ej hp)
    · have : j = m := by omega
      subst this
      rcases h.far p hp with z | ⟨d, hd, e1, _⟩
      · exact List.mem_append_left _ z
      · exact List.mem_append_right _ (List.mem_map.mpr ⟨d, hd, e1⟩)
/-- what a ring found is -/
structure Best (W : Wn) (st : Nk) (c : List Nk) : Prop where
  pth : Pth W st (c.length - 1) c
  hit : st ∈ W (lastZ c)
  short : ∀ j, j + 1 < c.length → ¬ Wk W (j + 1) st st
  least : ∀ p, Pth W st (c.length - 1) p → st ∈ W (lastZ p) → lxe c p
theorem Sr.found {W : Wn} {st : Nk} {m : Nat} {old met : List Nk} {cs : List (List Nk)} {c : List Nk} (h : Sr W st m old met cs) (e : (level W st cs (met, [])).1 = some c) (hc : c ∈ cs) (hh : st ∈ W (lastZ c)) : Best W st c := by
  have hp := h.pth c hc
  have hm : c.length - 1 = m := by have := hp.len; omega
  refine ⟨by rw [hm]; exact hp, hh, fun j hj k => ?_, fun p hp' hh' => ?_⟩
  · obtain ⟨y, k1, k2⟩ := k.inv
    obtain ⟨p, p1, p2⟩ := wk_pth k1
    have := h.near j p (by omega) p1
    rw [p2] at this
    exact h.no y this k2
  · rw [hm] at hp'
    rcases h.far p hp' with z | ⟨d, hd, e1, e2⟩
    · exact absurd hh' (h.no _ z)
    · exact lxe_tr (lev_hit cs _ c e h.up d hd (by rw [e1]; exact hh')) e2
theorem Sr.nil {W : Wn} {st : Nk} {m : Nat} {old met : List Nk} (h : Sr W st m old met []) : ∀ n, ¬ Wk W (n + 1) st st := by
  have all : ∀ n y, Wk W n st y → y ∈ old := by
    intro n
    induction n with
    | zero =>
      intro y k
      by_cases z : m = 0
      · subst z
        obtain ⟨p, p1, p2⟩ := wk_pth k
        rcases h.far p p1 with q | ⟨d, hd, _⟩
        · rw [← p2]; exact q
        · cases hd
      · obtain ⟨p, p1, p2⟩ := wk_pth k
        rw [← p2]
        exact h.near 0 p (by omega) p1
    | succ n ih =>
      intro y k
      obtain ⟨x, k1, k2⟩ := k.inv
      rcases h.metIn y (h.on x (ih x k1) y k2) with z | ⟨d, hd, _⟩
      · exact z
      · cases hd
  intro n k
  obtain ⟨x, k1, k2⟩ := k.inv
  exact h.no x (all n x k1) k2
theorem ring_more {W : Wn} {U : List Nk} {st : Nk} (w : Wf W U) : ∀ (n m : Nat) (old met : List Nk) (cs : List (List Nk)), Met U st met → (∀ d ∈ cs, GC W st met d) → (cs ≠ [] → 14 ≤ n + met.length) → Sr W st m old met cs →
    (∀ c, ringF W st n met cs = some c → Best W st c) ∧ (ringF W st n met cs = none → ∀ k, ¬ Wk W (k + 1) st st)
  | 0, m, old, met, cs, M, G, fu, S => by
    have ml := nodup_len M.nd M.inU
    have uf := w.few
    have : cs = [] := Classical.byContradiction fun z => by have := fu z; omega
    subst this
    exact ⟨fun c h => (by cases h), fun _ => S.nil⟩
  | n + 1, m, old, met, cs, M, G, fu, S => by
    by_cases e : cs = []
    · subst e
      rw [ringF_nil]
      exact ⟨fun c h => (by cases h), fun _ => S.nil⟩
    have f := level_facts w cs (met, []) M G (fun d hd => by cases hd)
    cases el : (level W st cs (met, [])).1 with
    | some d =>
      rw [ringF_hit e el]
      refine ⟨fun c h => ?_, fun h => (by cases h)⟩
      cases h
      exact S.found el (f.1 _ el).1 (f.1 _ el).2
    | none =>
      rw [ringF_go e el]
      obtain ⟨a1, a2, a3, _⟩ := f.2 el
      refine ring_more w n (m + 1) _ _ _ a1 a2 (fun hc => ?_) (S.step w el)
      have : 0 < (level W st cs (met, [])).2.2.length := List.length_pos_iff.mpr hc
      have := fu e
      have a3' : (level W st cs (met, [])).2.1.length + 0 = met.length + (level W st cs (met, [])).2.2.length := a3
      omega
theorem the_best {W : Wn} {U : List Nk} {st : Nk} (w : Wf W U) : (∀ c, theRing W st = some c → Best W st c) ∧ (theRing W st = none → ∀ k, ¬ Wk W (k + 1) st st) :=
  ring_more w 14 0 [] [] [[st]] (start_ok W U st).1 (start_ok W U st).2 (fun _ => Nat.le_refl _) (Sr.start W st)
/-! ### what the least ring has -/
theorem wk_congr {X W : Wn} (h : ∀ n y, y ∈ X n ↔ y ∈ W n) {k : Nat} {n y : Nk} (g : Wk X k n y) : Wk W k n y := by
  induction g with
  | nil => exact .nil _
  | snoc _ e ih => exact .snoc ih ((h _ _).mp e)
theorem Lk.left {W : Wn} : ∀ {a b : List Nk}, Lk W (a ++ b) → Lk W a
  | [], _, _ => trivial
  | [_], _, _ => trivial
  | _ :: y :: r, b, h => ⟨h.1, Lk.left (a := y :: r) (b := b) h.2⟩
theorem Lk.glue {W : Wn} {o : Nk} : ∀ {a b : List Nk}, Lk W a → Lk W b → a ≠ [] → b.head? = some o → o ∈ W (lastZ a) → Lk W (a ++ b)
  | [x], [], _, _, _, h, _ => by cases h
  | [x], y :: s, _, hb, _, h, e => by
    cases h
    exact ⟨e, hb⟩
  | x :: y :: r, b, ha, hb, _, h, e => by
    have e1 : lastZ (x :: y :: r) = lastZ (y :: r) := by unfold lastZ; rw [List.getLast?_cons_cons]
    rw [e1] at e
    exact ⟨ha.1, Lk.glue (a := y :: r) ha.2 hb (by simp) h e⟩
theorem lastZ_app {a b : List Nk} (h : b ≠ []) : lastZ (a ++ b) = lastZ b := by
  unfold lastZ
  rw [List.getLast?_append, List.getLast?_eq_some_getLast h]
  rfl
theorem lastZ_take {c : List Nk} {k : Nat} {x : Nk} (h : c[k]? = some x) : lastZ (c.take (k + 1)) = x := by
  rw [List.take_add_one, h]
  exact lastZ_snoc _ _
theorem Lk.inU {W : Wn} {U : List Nk} (w : Wf W U) : ∀ {c : List Nk} {st : Nk}, Lk W c → c.head? = some st → st ∈ U → ∀ x ∈ c, x ∈ U
  | [], _, _, _, _, x, h => by cases h
  | [a], st, _, e, hs, x, h => by
    cases e
    rw [List.mem_singleton.mp h]
    exact hs
  | a :: b :: r, st, l, e, hs, x, h => by
    cases e
    rcases List.mem_cons.mp h with z | z
    · rw [z]; exact hs
    · exact Lk.inU w (c := b :: r) l.2 rfl (w.inU l.1) x z
theorem Best.no_less {W : Wn} {st : Nk} {c : List Nk} (b : Best W st c) {k : Nat} {x y o : Nk} (hx : c[k]? = some x) (hy : c[k + 1]? = some y) (ho : o ∈ W x) (lt : ltN o y = true) : ¬ Wk W (c.length - (k + 1)) o st := fun g => by
  have hk : k + 1 < c.length := (List.getElem?_eq_some_iff.mp hy).1
  obtain ⟨n', en⟩ : ∃ n', c.length - (k + 1) = n' + 1 := ⟨c.length - (k + 1) - 1, by omega⟩
  rw [en] at g
  obtain ⟨z, g1, g2⟩ := g.inv
  obtain ⟨q, hq, ez⟩ := wk_pth g1
  have hqne : q ≠ [] := fun e => by have := hq.len; rw [e] at this; cases this
  have htk : (c.take (k + 1)).length = k + 1 := by rw [List.length_take]; omega
  have tne : c.take (k + 1) ≠ [] := fun e => by rw [e] at htk; cases htk
  have lk := b.pth.lk
  rw [← List.take_append_drop (k + 1) c] at lk
  have hp : Pth W st (c.length - 1) (c.take (k + 1) ++ q) := by
    refine ⟨?_, ?_, Lk.glue lk.left hq.lk tne hq.head (by rw [lastZ_take hx]; exact ho)⟩
    · have := b.pth.head
      rw [← List.take_append_drop (k + 1) c, List.head?_append] at this
      rw [List.head?_append]
      cases e : (c.take (k + 1)).head? with
      | none => exact absurd (List.head?_eq_none_iff.mp e) tne
      | some v => rw [e] at this; exact this
    · rw [List.length_append, htk, hq.len]
      omega
  have le := b.least _ hp (by rw [lastZ_app hqne, ez]; exact g2)
  have ed : c.drop (k + 1) = y :: c.drop (k + 1 + 1) := by
    rw [List.drop_eq_getElem_cons hk]
    congr 1
    rw [List.getElem?_eq_getElem hk] at hy
    exact Option.some.inj hy
  have lt2 : lx (c.take (k + 1) ++ q) c := by
    conv => rhs; rw [← List.take_append_drop (k + 1) c, ed]
    refine lx_pre _ ?_
    match q, hq.head with
    | v :: r, e =>
      cases e
      exact .inl lt
  rcases le with e | e
  · rw [← e] at lt2
    exact lx_irr _ lt2
  · exact lx_irr _ (lx_tr lt2 e)
theorem filterMap_at {f : Nk → Option (List Nk)} {c : List Nk} : ∀ {L : List Nk} {i : Nat}, (L.filterMap f)[i]? = some c → ∃ A st B, L = A ++ st :: B ∧ f st = some c ∧ (A.filterMap f).length = i
  | [], i, h => by simp at h
  | x :: r, i, h => by
    cases e : f x with
    | none =>
      rw [List.filterMap_cons_none e] at h
      obtain ⟨A, st, B, h1, h2, h3⟩ := filterMap_at (L := r) h
      exact ⟨x :: A, st, B, by rw [h1]; rfl, h2, by rw [List.filterMap_cons_none e]; exact h3⟩
    | some d =>
      rw [List.filterMap_cons_some e] at h
      cases i with
      | zero =>
        cases h
        exact ⟨[], x, r, rfl, e, rfl⟩
      | succ i =>
        obtain ⟨A, st, B, h1, h2, h3⟩ := filterMap_at (L := r) (i := i) (by simpa using h)
        exact ⟨x :: A, st, B, by rw [h1]; rfl, h2, by rw [List.filterMap_cons_some e, List.length_cons, h3]⟩
/-! ### rings of nodes in the heap -/
theorem same_none {H H' : Hp} (s : Same H H') {a : Addr} (h : H' a = none) : H a = none := s.free h
theorem atI_last {α : Type} {xs : List α} {v : α} (h : xs[xs.length - 1]? = some v) : atI xs (-1) = some v := by
  have hl := (List.getElem?_eq_some_iff.mp h).1
  unfold atI ixN
  rw [if_neg (by decide), if_pos (by omega)]
  have e : (-1 + (xs.length : Int)).toNat = xs.length - 1 := by omega
  simpa [e] using h
/-- a dict that has for each node the list of those behind it -/
def FD (H : Hp) (kvs : List (List Key × V)) (ns : List Nk) (W : Wn) : Prop := Paired (fun (q : List Key × V) (n : Nk) => q.1 = kN n ∧ ∃ l ws, q.2 = .ref l ∧ H l = some (.lst ws) ∧ Nds H ws (W n)) kvs ns
theorem BD.fd {H0 H : Hp} {kvs : List (List Key × V)} {ns : List Nk} {W : Wn} (h : BD H0 H kvs ns W) : FD H kvs ns W := Paired.mapP h.1 fun _ _ ⟨e, l, ws, e2, _, e4, e5⟩ => ⟨e, l, ws, e2, e4, e5⟩
theorem FD.same {H H' : Hp} {kvs : List (List Key × V)} {ns : List Nk} {W : Wn} (h : FD H kvs ns W) (s : Same H H') : FD H' kvs ns W := Paired.mapP h fun _ _ ⟨e, l, ws, e2, e4, e5⟩ => ⟨e, l, ws, e2, s _ _ e4, nds_kt (kt_same s) e5⟩
theorem FD.get {H : Hp} {kvs : List (List Key × V)} {ns : List Nk} {W : Wn} (h : FD H kvs ns W) {n : Nk} (hn : n ∈ ns) : ∃ l ws, valV kvs (kN n) = some (.ref l) ∧ H l = some (.lst ws) ∧ Nds H ws (W n) := by
  obtain ⟨q, _, v, _, l, ws, e, h1, h2⟩ := val_paired (α := Nat) (fun _ _ z => z.1) h hn
  exact ⟨l, ws, by rw [v, e], h1, h2⟩
/-- chains, each a list that is new since H0 -/
abbrev CR (H0 H : Hp) (v : V) (c : List Nk) : Prop := ∃ l ws, v = .ref l ∧ H0 l = none ∧ H l = some (.lst ws) ∧ Nds H ws c
abbrev ChN (H0 H : Hp) : List V → List (List Nk) → Prop := Paired (CR H0 H)
theorem chn_keep {H0 H H' : Hp} (kt : KT2 H H') : ∀ {vs : List V} {cs : List (List Nk)}, ChN H0 H vs cs → (∀ l xs, V.ref l ∈ vs → H l = some (.lst xs) → H' l = some (.lst xs)) → ChN H0 H' vs cs
  | _, _, .nil, _ => .nil
  | _, _, .cons ⟨l, ws, e1, e2, e3, e4⟩ t, k => .cons ⟨l, ws, e1, e2, k _ _ (by rw [e1]; exact List.mem_cons_self) e3, nds_kt kt e4⟩ (chn_keep kt t fun l xs h => k l xs (List.mem_cons_of_mem _ h))
theorem chn_same {H0 H H' : Hp} {vs : List V} {cs : List (List Nk)} (h : ChN H0 H vs cs) (s : Same H H') : ChN H0 H' vs cs := chn_keep (kt_same s) h fun _ _ _ e => s _ _ e
theorem chn_there {H0 H : Hp} {vs : List V} {cs : List (List Nk)} (h : ChN H0 H vs cs) {l : Addr} (m : V.ref l ∈ vs) : ∃ xs, H l = some (.lst xs) := by
  obtain ⟨i, hi⟩ := List.mem_iff_getElem?.mp m
  obtain ⟨c, _, l', ws, e, _, h2, _⟩ := paired_get h hi
  cases e
  exact ⟨ws, h2⟩
theorem chn_ln {K : PySem.W.Frag} {H0 H : Hp} : ∀ {vs : List V} {cs : List (List Nk)}, ChN H0 H vs cs → Paired (LnV K H) vs (cs.map List.length)
  | _, _, .nil => .nil
  | _, _, .cons ⟨l, ws, e1, _, e3, e4⟩ t => .cons ⟨l, ws, e1, SqL.of e3, prs_len e4⟩ (chn_ln t)
/-- a dict of nodes, all True -/
def metT (met : List Nk) : List (List Key × V) := met.map fun o => (kN o, V.bl true)
theorem metT_len (met : List Nk) : (metT met).length = met.length := List.length_map ..
theorem metT_val (met : List Nk) (o : Nk) : (valV (metT met) (kN o)).isSome = decide (o ∈ met) := by
  induction met with
  | nil => rfl
  | cons m r ih =>
    unfold metT valV at ih ⊢
    rw [List.map_cons, List.find?_cons]
    by_cases e : m = o
    · subst e
      rw [show decide ((kN m, V.bl true).1 = kN m) = true from decide_eq_true rfl]
      simp
    · rw [show decide ((kN m, V.bl true).1 = kN o) = false from decide_eq_false fun z => e (kN_inj z)]
      rw [ih]
      simp [Ne.symm e]
theorem metT_any (met : List Nk) (o : Nk) : ((metT met).any fun kv => decide (kv.1 = kN o)) = decide (o ∈ met) := by rw [valV_any]; exact metT_val met o
theorem metT_put {met : List Nk} {o : Nk} (h : o ∉ met) : putK (metT met) (kN o) (V.bl true) = metT (met ++ [o]) := by
  unfold putK
  rw [if_neg (by rw [metT_any, decide_eq_false h]; decide)]
  unfold metT
  rw [List.map_append]
  rfl
theorem metT_again {met : List Nk} {o : Nk} (h : o ∈ met) : putK (metT met) (kN o) (V.bl true) = metT met := by
  unfold putK
  rw [if_pos (by rw [metT_any, decide_eq_true h])]
  unfold metT
  rw [List.map_map]
  refine List.map_congr_left fun m _ => ?_
  show (if kN m = kN o then (kN m, V.bl true) else (kN m, V.bl true)) = (kN m, V.bl true)
  split <;> rfl
theorem metT_get {met : List Nk} {i : Nat} {k : List Key} {x : V} (h : (metT met)[i]? = some (k, x)) : ∃ n, met[i]? = some n ∧ k = kN n := by
  unfold metT at h
  rw [List.getElem?_map] at h
  obtain ⟨n, e, q⟩ := Option.map_eq_some_iff.mp h
  cases q
  exact ⟨n, e, rfl⟩
theorem last_at {ws : List V} {c : List Nk} {H : Hp} (h : Nds H ws c) (hne : c ≠ []) : ∃ v, atI ws (-1) = some v ∧ NdV H v (lastZ c) := by
  have hl : c.length - 1 < c.length := by
    have := List.length_pos_iff.mpr hne
    omega
  have e : c[c.length - 1]? = some (lastZ c) := by
    unfold lastZ
    rw [List.getLast?_eq_getElem?, List.getElem?_eq_getElem hl]
    rfl
  obtain ⟨v, ev, kv⟩ := paired_getR h e
  exact ⟨v, atI_last (by rw [prs_len h]; exact ev), kv⟩
theorem GC.inU {W : Wn} {U : List Nk} {st : Nk} {met c : List Nk} (g : GC W st met c) (m : Met U st met) (hs : st ∈ U) {x : Nk} (h : x ∈ c) : x ∈ U := (g.mem h).elim (fun e => e ▸ hs) (m.inU x)
theorem lastZ_mem {c : List Nk} (h : c ≠ []) : lastZ c ∈ c := by
  unfold lastZ
  rw [List.getLast?_eq_some_getLast h]
  exact List.getLast_mem h
def spRing (K : PySem.W.Frag) : Sp := fun vs H Q _ => ∃ (d : Addr) (kvs : List (List Key × V)) (W : Wn) (U : List Nk) (st : Nk) (v : V), vs = [.ref d, v] ∧ H d = some (.dT kvs) ∧ FD H kvs U W ∧ Wf W U ∧ NdV H v st ∧ st ∈ U ∧
  (theRing W st = none → ∀ H', Same H H' → Q .non H') ∧ ∀ c, theRing W st = some c → ∀ p ws H', H p = none → Same H H' → H' p = some (.lst ws) → Nds H' ws c → Q (.ref p) H'
theorem ltE_up {k a b : Nk} (h : ltE (k, b) (k, a) = false) (n : a ≠ b) : ltN a b = true := by
  have h' : ltN b a = false := by
    have : ltE (k, b) (k, a) = ltN b a := by unfold ltE ltP; simp
    rw [← this]
    exact h
  exact ltN_tot (Ne.symm n) h'
theorem bhF_wf {js : List (Nk × Nk)} {ns : List Nk} (nd : js.Nodup) (pw : js.Pairwise fun a b => ltE b a = false) (hin : ∀ k ∈ js, k.1 ∈ ns ∧ k.2 ∈ ns) (hs : ∀ k ∈ js, k.1 ≠ k.2) (few : ns.length ≤ 12) : Wf (bhF js) ns := by
  refine ⟨fun k x h => (hin _ (mem_bhF.mp h)).2, fun k h => hs _ (mem_bhF.mp h) rfl, few, fun k => ?_, fun k => ?_⟩
  · exact Nat.le_trans (nodup_len (bhF_nodup nd k) (U := ns) fun x h => (hin _ (mem_bhF.mp h)).2) few
  · unfold bhF
    refine List.pairwise_map.mpr (List.Pairwise.imp_of_mem (fun {a b} ha hb h => ?_) ((pw.and nd).sublist List.filter_sublist))
    have h1 := of_decide_eq_true (List.mem_filter.mp ha).2
    have h2 := of_decide_eq_true (List.mem_filter.mp hb).2
    obtain ⟨a1, a2⟩ := a
    obtain ⟨b1, b2⟩ := b
    cases h1
    cases h2
    exact ltE_up h.1 fun z => h.2 (by rw [show a2 = b2 from z])
/-- the first of the shortest rings -/
def SR (W : Wn) (L : List Nk) (c : List Nk) : Prop := ∃ i : Nat, (L.filterMap (theRing W))[i]? = some c ∧ ∀ (j : Nat) m, (L.filterMap (theRing W))[j]? = some m → c.length ≤ m.length ∧ (j < i → c.length < m.length)
theorem SR.one {W : Wn} {L : List Nk} {c c' : List Nk} (h : SR W L c) (h' : SR W L c') : c = c' := by
  obtain ⟨i, e, a⟩ := h
  obtain ⟨i', e', a'⟩ := h'
  have z : i = i' := by
    have h1 := a i' c' e'
    have h2 := a' i c e
    apply Classical.byContradiction
    intro z
    rcases Nat.lt_or_gt_of_ne z with q | q
    · have := h2.2 q; omega
    · have := h1.2 q; omega
  subst z
  rw [e] at e'
  exact Option.some.inj e'
/-- what ring tells -/
abbrev OR (H0 H : Hp) (v : V) (r : Option (List Nk)) : Prop := (r = none ∧ v = .non) ∨ ∃ c, r = some c ∧ CR H0 H v c
theorem or_keep {H0 H H' : Hp} (kt : KT2 H H') : ∀ {vs : List V} {rs : List (Option (List Nk))}, Paired (OR H0 H) vs rs → (∀ l xs, V.ref l ∈ vs → H l = some (.lst xs) → H' l = some (.lst xs)) → Paired (OR H0 H') vs rs
  | _, _, .nil, _ => .nil
  | _, _, .cons (.inl h) t, k => .cons (.inl h) (or_keep kt t fun l xs h => k l xs (List.mem_cons_of_mem _ h))
  | _, _, .cons (.inr ⟨c, e0, l, ws, e1, e2, e3, e4⟩) t, k => .cons (.inr ⟨c, e0, l, ws, e1, e2, k _ _ (by rw [e1]; exact List.mem_cons_self) e3, nds_kt kt e4⟩) (or_keep kt t fun l xs h => k l xs (List.mem_cons_of_mem _ h))
def spLeast (K : PySem.W.Frag) : Sp := fun vs H Q _ => ∃ (a b : Addr) (nv pv : List V) (ns : List Nk) (E : List (Nk × Nk)), vs = [.ref a, .ref b] ∧ SqL K H a nv ∧ Nds H nv ns ∧ ns.Nodup ∧ ns.length ≤ 12 ∧ SqL K H b pv ∧ Paired (PrV H) pv E ∧ E.length ≤ 60 ∧ (∀ k ∈ E, k.1 ∈ ns ∧ k.2 ∈ ns) ∧ (∀ k ∈ E, k.1 ≠ k.2) ∧
  ∀ js L, js.Nodup → (∀ k, k ∈ js ↔ k ∈ E) → js.Pairwise (fun a b => ltE b a = false) → L.Perm ns → L.Pairwise (fun a b => ltN b a = false) →
    (L.filterMap (theRing (bhF js)) = [] → ∀ H', Same H H' → Q .non H') ∧ ∀ c, SR (bhF js) L c → ∀ p ws H', H p = none → Same H H' → H' p = some (.lst ws) → Nds H' ws c → Q (.ref p) H'
def spNexts (K : PySem.W.Frag) : Sp := fun vs H Q _ => ∃ (a b : Addr) (nv pv : List V) (ns : List Nk) (E : List (Nk × Nk)), vs = [.ref a, .ref b] ∧ SqL K H a nv ∧ Nds H nv ns ∧ ns.Nodup ∧ ns.length ≤ 12 ∧ SqL K H b pv ∧ Paired (PrV H) pv E ∧ E.length ≤ 60 ∧ (∀ k ∈ E, k.1 ∈ ns ∧ k.2 ∈ ns) ∧
  ∀ d kvs (X : Wn) H', H d = none → Same H H' → H' d = some (.dT kvs) → FD H' kvs ns X → (∀ n y, y ∈ X n ↔ (n, y) ∈ E) → Q (.ref d) H'
/-- of each node the nodes that are k pairs off -/
def TP (H0 H : Hp) (X : Wn) (k : Nat) (kvs : List (List Key × V)) (ns : List Nk) : Prop :=
  Paired (fun (q : List Key × V) (n : Nk) => q.1 = kN n ∧ ∃ l ds, q.2 = .ref l ∧ H0 l = none ∧ Rd H l (.dT (metT ds)) ∧ ds.Nodup ∧ ∀ y, y ∈ ds ↔ Wk X k n y) kvs ns
def TR (H0 H : Hp) (X : Wn) (ns : List Nk) (k : Nat) (v : V) : Prop := ∃ t kvs, v = .ref t ∧ H0 t = none ∧ Rd H t (.dT kvs) ∧ TP H0 H X k kvs ns
/-- what is there stays, dicts may be held -/
def Sf (H H' : Hp) : Prop := ∀ b o, H b = some o → H' b = some o ∨ ∃ kvs ob, (o = .dT kvs ∨ ∃ ob', o = .frz ob' (.dT kvs)) ∧ H' b = some (.frz ob (.dT kvs))
theorem Sf.of {H H' : Hp} (s : Same H H') : Sf H H' := fun b o e => .inl (s b o e)
theorem Sf.rd {H H' : Hp} (s : Sf H H') {b : Addr} {kvs : List (List Key × V)} (h : Rd H b (.dT kvs)) : Rd H' b (.dT kvs) := by
  rcases h with h | ⟨ob, h⟩
  · rcases s _ _ h with e | ⟨kvs', ob, e1 | ⟨_, e1⟩, e2⟩
    · exact .inl e
    · cases e1; exact .inr ⟨ob, e2⟩
    · cases e1
  · rcases s _ _ h with e | ⟨kvs', ob', e1 | ⟨_, e1⟩, e2⟩
    · exact .inr ⟨ob, e⟩
    · cases e1
    · cases e1; exact .inr ⟨ob', e2⟩
theorem Sf.trans {A B C : Hp} (a : Sf A B) (b : Sf B C) : Sf A C := fun x o e => by
  rcases a x o e with q | ⟨kvs, ob, e1, e2⟩
  · exact b x o q
  · rcases b x _ e2 with q | ⟨_, ob2, e3 | ⟨_, e3⟩, q⟩
    · exact .inr ⟨kvs, ob, e1, q⟩
    · cases e3
    · cases e3; exact .inr ⟨_, ob2, e1, q⟩
theorem Sf.lst {H H' : Hp} (s : Sf H H') {b : Addr} {xs : List V} (h : H b = some (.lst xs)) : H' b = some (.lst xs) := by
  rcases s _ _ h with e | ⟨_, _, e | ⟨_, e⟩, _⟩
  · exact e
  · cases e
  · cases e
theorem Sf.kt {H H' : Hp} (s : Sf H H') : KT2 H H' := fun b xs h => by
  rcases s _ _ h with e | ⟨_, _, e | ⟨_, e⟩, _⟩
  · exact e
  · cases e
  · cases e
theorem TP.sf {H0 H H' : Hp} {X : Wn} {k : Nat} {kvs : List (List Key × V)} {ns : List Nk} (h : TP H0 H X k kvs ns) (s : Sf H H') : TP H0 H' X k kvs ns := Paired.mapP h fun _ _ ⟨e, l, ds, e1, e2, e3, e4⟩ => ⟨e, l, ds, e1, e2, s.rd e3, e4⟩
theorem TR.sf {H0 H H' : Hp} {X : Wn} {k : Nat} {ns : List Nk} {v : V} (h : TR H0 H X ns k v) (s : Sf H H') : TR H0 H' X ns k v := let ⟨t, kvs, e1, e2, e3, e4⟩ := h; ⟨t, kvs, e1, e2, s.rd e3, e4.sf s⟩
theorem TR.get {H0 H : Hp} {X : Wn} {k : Nat} {ns : List Nk} {v : V} (h : TR H0 H X ns k v) {n : Nk} (hn : n ∈ ns) : ∃ t kvs l ds, v = .ref t ∧ Rd H t (.dT kvs) ∧ valV kvs (kN n) = some (.ref l) ∧ H0 l = none ∧ Rd H l (.dT (metT ds)) ∧ ds.Nodup ∧ ∀ y, y ∈ ds ↔ Wk X k n y := by
  obtain ⟨t, kvs, e1, _, e2, e3⟩ := h
  obtain ⟨q, _, ev, _, l, ds, e4, e5⟩ := val_paired (α := Nat) (fun _ _ z => z.1) e3 hn
  exact ⟨t, kvs, l, ds, e1, e2, by rw [ev, e4], e5⟩
theorem wk_in {X : Wn} {ns : List Nk} (hX : ∀ n x, x ∈ X n → x ∈ ns) {k : Nat} {n y : Nk} (h : Wk X k n y) (hn : n ∈ ns) : y ∈ ns := by
  cases h with
  | nil => exact hn
  | snoc _ e => exact hX _ _ e
def spWalks (K : PySem.W.Frag) : Sp := fun vs H Q _ => ∃ (a d : Addr) (m : Nat) (nv : List V) (ns : List Nk) (kvs : List (List Key × V)) (X : Wn), vs = [.ref a, .ref d, .int m] ∧ SqL K H a nv ∧ Nds H nv ns ∧ ns.Nodup ∧ ns.length ≤ 12 ∧ H d = some (.dT kvs) ∧ FD H kvs ns X ∧ (∀ n x, x ∈ X n → x ∈ ns) ∧ m ≤ 12 ∧
  ∀ tl tvs H', H tl = none → Same H H' → H' tl = some (.lst tvs) → tvs.length = m + 1 → (∀ (i : Nat) v, tvs[i]? = some v → TR H H' X ns i v) → Q (.ref tl) H'
theorem put_newT {kvs : List (List Key × V)} {k : List Key} {v : V} (h : ∀ q ∈ kvs, q.1 ≠ k) : putK kvs k v = kvs ++ [(k, v)] := by
  unfold putK
  rw [if_neg]
  simp only [List.any_eq_true, decide_eq_true_eq, not_exists, not_and]
  exact fun q hq => h q hq
theorem keys_ne {F : (List Key × V) → Nk → Prop} (hF : ∀ q n, F q n → q.1 = kN n) {kvs : List (List Key × V)} {ms : List Nk} {n : Nk} (h : Paired F kvs ms) (hn : n ∉ ms) : ∀ q ∈ kvs, q.1 ≠ kN n := fun q hq z => by
  obtain ⟨i, hi⟩ := List.mem_iff_getElem?.mp hq
  obtain ⟨m, hm, r⟩ := paired_get h hi
  exact hn (kN_inj ((hF _ _ r).symm.trans z) ▸ List.mem_of_getElem? hm)
theorem take_new {ns : List Nk} {i : Nat} {n : Nk} (nd : ns.Nodup) (e : ns[i]? = some n) : n ∉ ns.take i := fun z => by
  obtain ⟨j, hj⟩ := List.mem_iff_getElem?.mp z
  have hl := (List.getElem?_eq_some_iff.mp hj).1
  rw [List.length_take] at hl
  rw [List.getElem?_take_of_lt (by omega)] at hj
  have := (List.getElem?_inj (List.getElem?_eq_some_iff.mp e).1 nd).mp (e.trans hj.symm)
  omega
theorem rd_some {H : Hp} {b : Addr} {o : HO} (h : Rd H b o) (n : H b = none) : False := by
  rcases h with e | ⟨_, e⟩ <;> (rw [n] at e; cases e)
theorem rd_but {H H' : Hp} {x b : Addr} {o : HO} (k : ∀ b o, b ≠ x → H b = some o → H' b = some o) (n : b ≠ x) (h : Rd H b o) : Rd H' b o := h.imp (fun e => k _ _ n e) fun ⟨ob, e⟩ => ⟨ob, k _ _ n e⟩
theorem TP.rk {H0 H H' : Hp} {X : Wn} {k : Nat} : ∀ {kvs : List (List Key × V)} {ns : List Nk}, TP H0 H X k kvs ns → (∀ l o, V.ref l ∈ kvs.map (·.2) → Rd H l o → Rd H' l o) → TP H0 H' X k kvs ns
  | _, _, .nil, _ => .nil
  | _, _, .cons ⟨e, l, ds, e1, e2, e3, e4⟩ t, r => .cons ⟨e, l, ds, e1, e2, r _ _ (by rw [← e1]; exact List.mem_cons_self) e3, e4⟩ (TP.rk t fun l o h => r l o (List.mem_cons_of_mem _ h))
theorem Sf.again {H H' : Hp} {a : Addr} {o : HO} (s : Sf H H') (n : H a = none) : Sf H (upd H' a o) := fun b u e => by
  rw [upd_ne fun z => by rw [z, n] at e; cases e]
  exact s b u e
theorem Sf.hold {H H' : Hp} {d : Addr} {ob : Obj} {kvs : List (List Key × V)} (hd : Rd H d (.dT kvs)) (h : H' d = some (.frz ob (.dT kvs))) (k : ∀ b o, b ≠ d → H b = some o → H' b = some o) : Sf H H' := fun b o e => by
  by_cases z : b = d
  · subst z
    rcases hd with q | ⟨ob', q⟩
    · rw [q] at e
      cases e
      exact .inr ⟨kvs, ob, .inl rfl, h⟩
    · rw [q] at e
      cases e
      exact .inr ⟨kvs, ob, .inr ⟨ob', rfl⟩, h⟩
  · exact .inl (k b o z e)
theorem wk_zero {X : Wn} {n y : Nk} : Wk X 0 n y ↔ y = n := ⟨fun h => by cases h; rfl, fun h => by rw [h]; exact .nil _⟩
theorem wk_succ {X : Wn} {k : Nat} {n y : Nk} : Wk X (k + 1) n y ↔ ∃ m, Wk X k n m ∧ y ∈ X m := ⟨fun h => h.inv, fun ⟨m, h, e⟩ => .snoc h e⟩
/-- all that is asked of the ring told -/
structure Good (W : Wn) (U : List Nk) (st : Nk) (c : List Nk) : Prop where
  head : c.head? = some st
  lk : Lk W c
  nd : c.Nodup
  hit : st ∈ W (lastZ c)
  two : 2 ≤ c.length
  few : c.length ≤ 12
  inU : ∀ x ∈ c, x ∈ U
  short : ∀ n ∈ U, ∀ k, k + 1 < c.length → ¬ Wk W (k + 1) n n
  least : ∀ n ∈ U, ltN n st = true → ¬ Wk W c.length n n
  less : ∀ (k : Nat) x y o, c[k]? = some x → c[k + 1]? = some y → o ∈ W x → ltN o y = true → ¬ Wk W (c.length - (k + 1)) o st
theorem sr_good {W : Wn} {U L c : List Nk} (w : Wf W U) (hp : L.Perm U) (pw : L.Pairwise fun a b => ltN b a = false) (h : SR W L c) : ∃ st, Good W U st c := by
  obtain ⟨i, hi, all⟩ := h
  obtain ⟨A, st, B, eL, est, eA⟩ := filterMap_at hi
  have stU : st ∈ U := hp.mem_iff.mp (by rw [eL]; simp)
  obtain ⟨r1, r2, r3, r4, r5, _⟩ := ring_ok w est
  have b := (the_best w).1 c est
  have inU := Lk.inU w r2 r1 stU
  have hc : ∀ n ∈ U, ∀ k, Wk W (k + 1) n n → ∃ c', theRing W n = some c' ∧ c'.length ≤ k + 1 := fun n _ k g => by
    obtain ⟨b1, b2⟩ := the_best (st := n) w
    cases e : theRing W n with
    | none => exact absurd g (b2 e k)
    | some c' => exact ⟨c', rfl, Classical.byContradiction fun z => (b1 c' e).short k (by omega) g⟩
  refine ⟨st, r1, r2, r3, r4, r5, Nat.le_trans (nodup_len r3 inU) w.few, inU, fun n hn k hk g => ?_, fun n hn lt g => ?_, fun k x y o h1 h2 h3 h4 => b.no_less h1 h2 h3 h4⟩
  · obtain ⟨c', e, l⟩ := hc n hn k g
    have hm : c' ∈ L.filterMap (theRing W) := List.mem_filterMap.mpr ⟨n, hp.mem_iff.mpr hn, e⟩
    obtain ⟨j, hj⟩ := List.mem_iff_getElem?.mp hm
    have := (all j c' hj).1
    omega
  · obtain ⟨k, ek⟩ : ∃ k, c.length = k + 1 := ⟨c.length - 1, by omega⟩
    rw [ek] at g
    obtain ⟨c', e, l⟩ := hc n hn k g
    have nA : n ∈ A := by
      have : n ∈ L := hp.mem_iff.mpr hn
      rw [eL] at this
      rcases List.mem_append.mp this with z | z
      · exact z
      · rw [eL] at pw
        have p2 := (List.pairwise_append.mp pw).2.1
        rcases List.mem_cons.mp z with q | q
        · rw [q, ltN_irr] at lt; cases lt
        · have := (List.pairwise_cons.mp p2).1 n q
          rw [lt] at this
          cases this
    have hm : c' ∈ A.filterMap (theRing W) := List.mem_filterMap.mpr ⟨n, nA, e⟩
    obtain ⟨j, hj⟩ := List.mem_iff_getElem?.mp hm
    have jl := (List.getElem?_eq_some_iff.mp hj).1
    have := (all j c' (by rw [eL, List.filterMap_append, List.getElem?_append_left jl]; exact hj)).2 (by omega)
    omega
theorem sr_none {W : Wn} {U L : List Nk} (w : Wf W U) (hp : L.Perm U) (h : L.filterMap (theRing W) = []) : ∀ n ∈ U, ∀ k, ¬ Wk W (k + 1) n n := fun n hn k => by
  refine (the_best (st := n) w).2 ?_ k
  cases e : theRing W n with
  | none => rfl
  | some c =>
    have : c ∈ L.filterMap (theRing W) := List.mem_filterMap.mpr ⟨n, hp.mem_iff.mpr hn, e⟩
    rw [h] at this
    cases this
theorem ltE_tot {x y : Nk × Nk} (n : x ≠ y) (h : ltE x y = false) : ltE y x = true := ltP_tot VO.node VO.node x y n h
theorem same_sorted {α : Type} [DecidableEq α] {lt : α → α → Bool} (tot : ∀ x y, x ≠ y → lt x y = false → lt y x = true) {l l' : List α} (p : l.Perm l') (h : l.Pairwise fun a b => lt b a = false) (h' : l'.Pairwise fun a b => lt b a = false) : l = l' := by
  refine List.Perm.eq_of_pairwise (le := fun a b => lt b a = false) (fun a b _ _ h1 h2 => ?_) h h' p
  exact Classical.byContradiction fun n => by
    have := tot b a (Ne.symm n) h1
    rw [h2] at this
    cases this
def spNone (K : PySem.W.Frag) : Sp := fun vs H Q _ => ∃ (a d : Addr) (nv : List V) (ns : List Nk) (kvs : List (List Key × V)) (X : Wn), vs = [.ref a, .ref d] ∧ SqL K H a nv ∧ Nds H nv ns ∧ ns.Nodup ∧ ns.length ≤ 12 ∧ H d = some (.dT kvs) ∧ FD H kvs ns X ∧ (∀ n x, x ∈ X n → x ∈ ns) ∧ (∀ n ∈ ns, ∀ k, ¬ Wk X (k + 1) n n) ∧ ∀ H', Same H H' → Q (.bl true) H'
def spNoLess (K : PySem.W.Frag) : Sp := fun vs H Q _ => ∃ (a d f : Addr) (nv cw : List V) (ns c : List Nk) (st : Nk) (kvs : List (List Key × V)) (X : Wn), vs = [.ref a, .ref d, .ref f] ∧ SqL K H a nv ∧ Nds H nv ns ∧ ns.Nodup ∧ ns.length ≤ 12 ∧ H d = some (.dT kvs) ∧ FD H kvs ns X ∧ (∀ n x, x ∈ X n → x ∈ ns) ∧ H f = some (.lst cw) ∧ Nds H cw c ∧ Good X ns st c ∧ ∀ H', Same H H' → Q (.bl true) H'
def spIsChain (K : PySem.W.Frag) : Sp := fun vs H Q _ => ∃ (f a d : Addr) (nv cw : List V) (ns c : List Nk) (st : Nk) (kvs : List (List Key × V)) (X : Wn), vs = [.ref f, .ref a, .ref d] ∧ SqL K H a nv ∧ Nds H nv ns ∧ H d = some (.dT kvs) ∧ FD H kvs ns X ∧ H f = some (.lst cw) ∧ Nds H cw c ∧ Good X ns st c ∧ Q (.bl true) H
theorem lk_congr {X W : Wn} (h : ∀ n y, y ∈ X n ↔ y ∈ W n) : ∀ {c : List Nk}, Lk W c → Lk X c
  | [], _ => trivial
  | [_], _ => trivial
  | _ :: y :: r, l => ⟨(h _ _).mpr l.1, lk_congr h (c := y :: r) l.2⟩
theorem Good.congr {X W : Wn} {U c : List Nk} {st : Nk} (h : ∀ n y, y ∈ X n ↔ y ∈ W n) (g : Good W U st c) : Good X U st c :=
  ⟨g.head, lk_congr h g.lk, g.nd, (h _ _).mpr g.hit, g.two, g.few, g.inU, fun n hn k hk z => g.short n hn k hk (wk_congr h z), fun n hn lt z => g.least n hn lt (wk_congr h z), fun k x y o h1 h2 h3 h4 z => g.less k x y o h1 h2 ((h _ _).mp h3) h4 (wk_congr h z)⟩
/-- tables[k][node], read -/
theorem tab_get {H0 H : Hp} {X : Wn} {ns : List Nk} {tvs : List V} {k : Nat} {n y : Nk} {nb yb : Addr} (tr : ∀ (i : Nat) v, tvs[i]? = some v → TR H0 H X ns i v) (hk : k < tvs.length) (hn : n ∈ ns) (eb : H nb = some (.tup ((kN n).map kV))) (ey : H yb = some (.tup ((kN y).map kV))) (no : ¬ Wk X k n y) :
    ∃ t l o, atI tvs (k : Int) = some (.ref t) ∧ DGet H t (.ref nb) (some (.ref l)) ∧ DGet H l (.ref yb) o ∧ o.isSome = false := by
  obtain ⟨tv, etv⟩ : ∃ tv, tvs[k]? = some tv := ⟨_, List.getElem?_eq_getElem hk⟩
  obtain ⟨t, kvk, l, ds, rfl, rt, ev, _, rl, _, mds⟩ := (tr k tv etv).get hn
  refine ⟨t, l, _, atI_nat etv, .inr ⟨kvk, kN n, nb, rt, rfl, eb, by rw [ev]⟩, .inr ⟨_, kN y, yb, rl, rfl, ey, rfl⟩, ?_⟩
  rw [metT_val, decide_eq_false fun z => no ((mds y).mp z)]
section
variable {P : Program} {w : World} {K : PySem.W.Frag} {mg : Str → Option Value} {base : Heap}
theorem ok_followers (T : Tx K mg) : FnOk P w K mg base CX0 1 T.f_followers T.d_followers ["nodes", "pairs"] (spFollow K) := by
  refine T.F_followers.ok sc_followers (fun vs H Q E h => ?_) (fun cdv A outer s H vs Q E hr h => ?_)
  · obtain ⟨a, b, nv, ew, ns, Ed, rfl, _⟩ := h
    rfl
  · obtain ⟨a, b, nv, ew, ns, Ed, rfl, hA, hN, nd, few, hB, hP, fewE, hin, q⟩ := h
    have hu := hu_of hr
    refine ⟨_, (pss_cons (ps_set (i := 2) sc_followers.nd rfl (Or.inl rfl) (pe_callTy (call_dictT (K := K) (u16 hr.units) rfl rfl) (by rfl) T.z_dict boot_dict (pa_cons (pe_compF ["node"] rfl (CompSc.mk (fv := []) (js := []) rfl (by decide +kernel) (by decide +kernel) (by decide +kernel) allc_nil rfl (by decide +kernel)) (pi_list (pv 0)) (fun _ _ _ _ _ => (pg_name (i := 0) (show (["node"] : List Str).Nodup by decide +kernel) rfl (Or.inl rfl))) (fun _ _ _ _ _ => pf_nil) (fun _ _ _ _ _ => (pe_tup (pa_cons (pv 0) (pa_cons (pe_lst pa_nil) pa_nil))))) pa_nil)))
      (pss_cons (ps_for PassesOwn.never rfl (pi_list (pe_sortSetP (K := K) hr.units rfl rfl rfl T.z_sorted rfl T.z_set (pa_cons (pv 1) pa_nil))) (pg_tup rfl (pgs_cons (pg_name (i := 3) sc_followers.nd rfl (Or.inl rfl)) (pgs_cons (pg_name (i := 4) sc_followers.nd rfl (Or.inl rfl)) pgs_nil)))
      (pss_one (ps_expr (pe_bm PySem.F.plainAttrs_list PySem.F.slot_list_append PySem.F.type_list_append mt_appendA (pe_dget hu (pv 2) (pv 3) (fun _ _ => rfl)) (pa_cons (pv 4) pa_nil)))))
      (pss_one (ps_ret (pv 2))))), ?_⟩
    have ln : nv.length = ns.length := prs_len hN
    refine ⟨_, rfl, a, rfl, ⟨_, hA⟩, fun D hD => ⟨fun i m ys τ H2 => m = nv.length - i ∧ i ≤ nv.length ∧ (∃ t, τ = [t]) ∧ Same H H2 ∧ H2 D = some (.lst ys) ∧ ∃ qs : List (Nk × Addr), CB H H2 D ys qs ∧ qs.map (·.1) = ns.take i, ⟨_, rfl, Nat.zero_le _, ⟨none, rfl⟩, Same.upd hD, upd_same, [], ⟨.nil, List.nodup_nil⟩, rfl⟩, ?_⟩⟩
    rintro i m ys τ H2 ⟨rfl, hi, ⟨t, rfl⟩, s2, hD2, qs, cb, eq⟩
    have lq : ys.length = i := by
      have e1 := prs_len cb.1
      have e2 := congrArg List.length eq
      rw [List.length_map, List.length_take] at e2
      omega
    refine ⟨hD2, ?_⟩
    by_cases hlt : i < nv.length
    · refine .inr ⟨(gives_list (s2.seq hA)).go i hlt, by have : sizeLine = 2 ^ 24 := rfl; omega, ?_⟩
      rintro v H' ⟨rfl, yy⟩
      obtain ⟨n, en, kn⟩ := paired_get hN (yy nv (s2.seq hA))
      obtain ⟨pb, rfl, eb⟩ := nd_key (nd_same s2 kn)
      refine ⟨_, rfl, (by show 0 ≤ sizeLine; decide), fun l hl => ⟨(by show 2 ≤ sizeLine; decide), fun t2 ht2 => ⟨?_, nv.length - (i + 1), by omega, rfl, hlt, ⟨_, rfl⟩, ?_, upd_same, qs ++ [(n, l)], ?_, ?_⟩⟩⟩
      · rw [upd_ne (fun z => by rw [← z, upd_ne (fun z2 => by rw [← z2, hD2] at hl; cases hl)] at ht2; rw [hD2] at ht2; cases ht2), upd_ne (fun z => by rw [← z, hD2] at hl; cases hl)]
        exact hD2
      · exact (s2.trans (Same.upd hl)).trans (Same.upd ht2) |>.again hD
      · have lD : l ≠ D := fun z => by rw [z, hD2] at hl; cases hl
        have tD : t2 ≠ D := fun z => by rw [z, upd_ne (Ne.symm lD), hD2] at ht2; cases ht2
        have tl : t2 ≠ l := fun z => by rw [z, upd_same] at ht2; cases ht2
        have k4 : ∀ b o, b ≠ D → H' b = some o → upd (upd (upd H' l (.lst [])) t2 (.tup [.ref pb, .ref l])) D (.lst (ys ++ [.ref t2])) b = some o := fun b o nb e => by
          rw [upd_ne nb, upd_ne (fun z => by rw [← z, upd_ne (fun z2 => by rw [← z2, e] at hl; cases hl), e] at ht2; cases ht2), upd_ne (fun z => by rw [← z, e] at hl; cases hl)]
          exact e
        refine ⟨paired_append (cb.keep hD (fun xs z => by rw [hD2] at z; cases z) k4).1 (.cons ⟨t2, pb, rfl, tD, lD, ?_, k4 _ _ (fun z => by rw [z, hD2] at eb; cases eb) eb, s2.free hl, ?_⟩ .nil), ?_⟩
        · rw [upd_ne tD]; exact upd_same
        · rw [upd_ne lD, upd_ne (Ne.symm tl)]; exact upd_same
        · rw [List.map_append]
          refine List.nodup_append.mpr ⟨cb.2, List.nodup_cons.mpr ⟨by simp, List.nodup_nil⟩, fun x hx y hy e => ?_⟩
          obtain ⟨p0, hp0, rfl⟩ := List.mem_map.mp hx
          obtain ⟨j, hj⟩ := List.mem_iff_getElem?.mp hp0
          obtain ⟨_, _, _, _, _, _, _, _, _, _, h4⟩ := paired_getR cb.1 hj
          rw [List.mem_singleton.mp hy] at e
          rw [e, hl] at h4
          cases h4
      · rw [List.map_append, eq, List.take_add_one, en]
        rfl
    · have ei : i = nv.length := by omega
      refine .inl ⟨(gives_list (s2.seq hA)).stop _ (by omega), ?_⟩
      have eq' : qs.map (·.1) = ns := by rw [eq, ei, ln, List.take_length]
      have lqs : qs.length = ns.length := by rw [← eq', List.length_map]
      refine ⟨D, ys, _, rfl, hD2, CB.prs cb.1, by rw [List.length_map]; omega, fun d hd => ?_⟩
      have kn0 : ((qs.map fun q => (kN q.1, V.ref q.2)).map (·.1)).Nodup := by
        rw [List.map_map, show ((fun x : List Key × V => x.1) ∘ fun q : Nk × Addr => (kN q.1, V.ref q.2)) = kN ∘ (fun q : Nk × Addr => q.1) from rfl, ← List.map_map, eq']
        exact kN_nodup nd
      rw [putAll_self _ [] kn0 (fun _ _ _ z => by cases z), List.nil_append]
      have dD : d ≠ D := fun z => by rw [z, hD2] at hd; cases hd
      have S3 : Same H (upd H2 d (.dT (qs.map fun q => (kN q.1, V.ref q.2)))) := s2.trans (Same.upd hd)
      have bd0 : BD H (upd H2 d (.dT (qs.map fun q => (kN q.1, V.ref q.2)))) (qs.map fun q => (kN q.1, V.ref q.2)) ns (bhF []) := by
        refine ⟨?_, ?_⟩
        · have := CB.bd (H0 := H) (H' := upd H2 d (.dT (qs.map fun q => (kN q.1, V.ref q.2)))) (Same.refl H) (kt_same (Same.upd hd)) (fun b xs _ e => Same.upd hd _ _ e) cb.1
          rw [eq'] at this
          exact this
        · rw [List.map_map]
          exact List.pairwise_map.mpr (List.Pairwise.imp (fun n e => n (by injection e)) (List.pairwise_map.mp cb.2))
      have hd0 : H d = none := s2.free hd
      have hdd : upd H2 d (.dT (qs.map fun q => (kN q.1, V.ref q.2))) d = some (.dT (qs.map fun q => (kN q.1, V.ref q.2))) := upd_same
      generalize upd H2 d (.dT (qs.map fun q => (kN q.1, V.ref q.2))) = H3 at S3 bd0 hdd
      generalize (qs.map fun q => (kN q.1, V.ref q.2)) = kvs at bd0 hdd
      clear cb eq eq' kn0 hD2 s2 hd dD lqs lq hlt ei
      refine ⟨_, rfl, b, ew, Ed, rfl, S3.seq hB, prs_same S3 hP, by rw [prs_len hP]; omega, fun l ys2 js hl pj ndj mj pw => ?_⟩
      have S4 := Same.upd (o := HO.lst ys2) hl
      have hnl : V.ref l ∉ kvs.map (·.2) := fun z => by
        obtain ⟨q0, hq0, e0⟩ := List.mem_map.mp z
        obtain ⟨j, hj⟩ := List.mem_iff_getElem?.mp hq0
        obtain ⟨n0, _, _, l', ws', e2, _, e4, _⟩ := paired_get bd0.1 hj
        rw [e2] at e0
        cases e0
        rw [hl] at e4
        cases e4
      refine ⟨l, rfl, ⟨_, SqL.of upd_same⟩, for_list (K := K) (a := l) (xs := ys2) (fun i σ H5 => ∃ x3 x4 : Option V, σ = [some (.ref a), some (.ref b), some (.ref d), x3, x4] ∧ Same H H5 ∧ H5 d = some (.dT kvs) ∧ H5 l = some (.lst ys2) ∧ Paired (PrV H5) ys2 js ∧ BD H H5 kvs ns (bhF (js.take i)))
        ⟨none, none, rfl, S3.trans S4, S4 _ _ hdd, upd_same, prs_same S4 pj, ?_⟩ (fun i σ H5 _ ⟨_, _, _, _, _, h, _⟩ => SqL.of h) ?_ ?_⟩
      · exact ⟨Paired.mapP bd0.1 fun _ _ ⟨e1, l', ws, e2, e3, e4, e5⟩ => ⟨e1, l', ws, e2, e3, S4 _ _ e4, nds_kt (kt_same S4) e5⟩, bd0.2⟩
      · rintro i x σ H5 hx ⟨x3, x4, rfl, s5, hd5, hl5, pj5, bd5⟩
        obtain ⟨k, ek, kx⟩ := paired_get pj5 hx
        obtain ⟨p, u, u', rfl, ep, hu1, hu2⟩ := kx
        obtain ⟨in1, in2⟩ := hin k ((mj k).mp (List.mem_of_getElem? ek))
        obtain ⟨q0, mq0, vq0, kq0, l0, ws, el0, nl0, hl0, nds0⟩ := val_paired (α := Nat) (fun _ _ z => z.1) bd5.1 in1
        obtain ⟨p1, rfl, ep1⟩ := nd_key hu1
        refine ⟨p, [V.ref p1, u'], rfl, SqT.of ep, rfl, _, _, rfl, _, _, rfl, rfl, ?_⟩
        refine ⟨_, rfl, _, rfl, d, .ref l0, rfl, .inr ⟨kvs, kN k.1, p1, .inl hd5, rfl, ep1, by rw [vq0, el0]⟩, Or.inl ⟨rfl, _, SqL.of hl0⟩, _, rfl, l0, ws, u', rfl, rfl, hl0, ?_, fun H6 h6 k6 => ?_⟩
        · have e1 := prs_len nds0
          have e2 : (bhF (js.take i) k.1).length ≤ (js.take i).length := by unfold bhF; rw [List.length_map]; exact List.length_filter_le _ _
          have e3 := nodup_sub_len ndj fun x hx => (mj x).mp hx
          rw [List.length_take] at e2
          have : sizeLine = 2 ^ 24 := rfl
          omega
        have kt6 : KT2 H5 H6 := kt_but hl0 (fun xs z => by cases z) k6
        have ll0 : l ≠ l0 := fun z => hnl (by rw [z, ← el0]; exact List.mem_map.mpr ⟨q0, mq0, rfl⟩)
        refine ⟨_, _, rfl, fun b o e => k6 b o (fun z => by rw [z, nl0] at e; cases e) (s5 b o e), k6 _ _ (fun z => by rw [z, hl0] at hd5; cases hd5) hd5, k6 _ _ ll0 hl5, prs_kt kt6 pj5, ?_, bd5.2⟩
        have := br_app kt6 k6 hl0 h6 hu2 bd5.1 nd bd5.2 (by rw [vq0, el0])
        refine Paired.mapP this fun q n z => ?_
        rw [List.take_add_one, ek]
        show BR H H6 (bhF (js.take i ++ [k])) q n
        have eb : bhF (js.take i ++ [k]) n = if k.1 = n then bhF (js.take i) n ++ [k.2] else bhF (js.take i) n := bhF_snoc _ _ _
        unfold BR
        rw [eb]
        exact z
      · rintro σ H5 ⟨x3, x4, rfl, s5, hd5, hl5, pj5, bd5⟩
        rw [show ys2.length = js.length from prs_len pj5, List.take_length] at bd5
        exact ⟨_, rfl, q d kvs js H5 hd0 s5 hd5 ndj mj pw bd5⟩
theorem ok_Lcellat (T : Tx K mg) : FnOk P w K mg base CX0 1 T.f_Lcellat T.d_Lcellat ["_law_script", "_law_k"] (spCellA K) := by
  refine T.F_Lcellat.ok sc_Lcellat (fun vs H Q E h => ?_) (fun cdv A outer s H vs Q E hr h => ?_)
  · obtain ⟨a, cs, k, rfl, _⟩ := h
    rfl
  · obtain ⟨a, cs, k, rfl, ha, hk, q⟩ := h
    refine ⟨_, (pss_cons (ps_if (pt_cmpR op_lt (pv 1) (pe_callB call_len (by rfl) T.z_len boot_len (pa_cons (pv 0) pa_nil)) (nomark _))
      (pss_one (ps_ret (pe_ix ix_list (pv 0) (pv 1) (fun _ _ => rfl))))
      pss_nil)
      (pss_one (ps_ret pe_int))), ?_⟩
    refine ⟨_, rfl, _, rfl, _, _, rfl, .inl ⟨_, ha, rfl⟩, _, _, rfl, rfl, _, rfl, ite2 (fun e => ?_) (fun e => ?_)⟩
    · have e1 : k < ((cs.map V.int).length : Int) := of_decide_eq_true e
      rw [List.length_map] at e1
      have hv : (cs.map V.int)[k.toNat]? = some (.int (celF cs k)) := by
        unfold celF
        rw [List.getElem?_map, List.getElem?_eq_getElem (show k.toNat < cs.length by omega)]
        rfl
      have := atI_nat hv
      rw [Int.toNat_of_nonneg hk] at this
      exact ⟨_, rfl, _, rfl, a, _, _, _, rfl, rfl, ha, this, q⟩
    · have e1 : ¬ k < ((cs.map V.int).length : Int) := fun z => e (decide_eq_true z)
      rw [List.length_map] at e1
      have : celF cs k = 0 := by
        unfold celF
        rw [List.getElem?_eq_none (by omega)]
        rfl
      rw [this] at q
      exact q
theorem ok_Lwhole (T : Tx K mg) : FnOk P w K mg base CX0 1 T.f_Lwhole T.d_Lwhole ["_law_found"] spWhole := by
  refine T.F_Lwhole.ok sc_Lwhole (fun vs H Q E h => ?_) (fun cdv A outer s H vs Q E hr h => ?_)
  · obtain ⟨z, rfl, _⟩ := h
    rfl
  · obtain ⟨z, rfl, q⟩ := h
    refine ⟨_, (pss_one (ps_ret (pe_and (pe_callB call_isi (by rfl) T.z_isinstance boot_isinstance (pa_cons (pv 0) (pa_cons (pe_bltn (v := V.ty "int") rfl T.z_int boot_int rfl) pa_nil))) (pe_one (pe_not (pe_callB call_isi (by rfl) T.z_isinstance boot_isinstance (pa_cons (pv 0) (pa_cons (pe_bltn (v := V.ty "bool") rfl T.z_bool boot_bool rfl) pa_nil)))))))), ?_⟩
    refine ⟨_, rfl, _, _, _, _, rfl, TyOf.int _, kit_ii, _, rfl, iteT ?_⟩
    exact ⟨_, rfl, _, _, _, _, rfl, TyOf.int _, kit_ib, _, rfl, q⟩
theorem ok_Lnodes (T : Tx K mg) : FnOk P w K mg base CX0 2 T.f_Lnodes T.d_Lnodes ["_law_script", "_law_most"] (spNodes K) := by
  refine T.F_Lnodes.ok sc_Lnodes (fun vs H Q E h => ?_) (fun cdv A outer s H vs Q E hr h => ?_)
  · obtain ⟨a, cs, m, rfl, _⟩ := h
    rfl
  · obtain ⟨a, cs, m, rfl, ha, hm0, hm, q⟩ := h
    have hu := hu_of hr
    refine ⟨_, (pss_cons (ps_set (i := 2) sc_Lnodes.nd rfl (Or.inl rfl) (pe_call ((ok_Lcellat T).mono (by decide)) hr rfl T.m_Lcellat T.F_Lcellat.kp T.b_Lcellat .nil pass0 (pa_cons (pv 0) (pa_cons pe_int pa_nil))))
      (pss_cons (ps_set (i := 3) sc_Lnodes.nd rfl (Or.inl rfl) pe_int)
      (pss_cut (ps_if (pt_cmpR op_eq (pe_op op_mod (pe_op op_fdiv (pv 2) pe_int) pe_int) pe_int (nomark _))
      (pss_one (ps_set (i := 3) sc_Lnodes.nd rfl (Or.inl rfl) (pe_op op_mod (pe_op op_fdiv (pv 2) pe_int) (pe_op op_pow pe_int pe_int))))
      pss_nil)
      (pss_cons (ps_set (i := 4) sc_Lnodes.nd rfl (Or.inl rfl) (pe_lst pa_nil))
      (pss_cons (ps_for PassesOwn.never rfl (pi_range1 rfl T.z_range (pa_cons (pe_op op_mod (pv 2) (pe_op op_add (pv 1) pe_int)) pa_nil)) (pg_name (i := 5) sc_Lnodes.nd rfl (Or.inl rfl))
      (pss_cons (ps_set (i := 6) sc_Lnodes.nd rfl (Or.inl rfl) (pe_op op_mod (pe_op op_add (pe_op op_mul pe_int (pv 5)) (pe_op op_fdiv (pv 2) pe_int)) pe_int))
      (pss_cons (ps_set (i := 7) sc_Lnodes.nd rfl (Or.inl rfl) (pe_op op_mod (pe_op op_fdiv (pe_call ((ok_Lcellat T).mono (by decide)) hr rfl T.m_Lcellat T.F_Lcellat.kp T.b_Lcellat .nil pass0 (pa_cons (pv 0) (pa_cons pe_int pa_nil))) (pe_op op_add (pv 5) pe_int)) pe_int))
      (pss_cut (ps_if (pt_cmpR op_eq (pe_op op_mod (pe_op op_fdiv (pe_call ((ok_Lcellat T).mono (by decide)) hr rfl T.m_Lcellat T.F_Lcellat.kp T.b_Lcellat .nil pass0 (pa_cons (pv 0) (pa_cons pe_int pa_nil))) pe_int) pe_int) pe_int (nomark _))
      (pss_cons (ps_set (i := 7) sc_Lnodes.nd rfl (Or.inl rfl) (pe_op op_sub (pe_op op_mul (pe_op op_mod (pv 6) pe_int) pe_int) pe_int))
      (pss_one (ps_set (i := 6) sc_Lnodes.nd rfl (Or.inl rfl) (pe_op op_fdiv (pv 6) pe_int))))
      pss_nil)
      (pss_one (ps_expr (pe_bm PySem.F.plainAttrs_list PySem.F.slot_list_append PySem.F.type_list_append mt_appendA (pv 4) (pa_cons (pe_tup (pa_cons (pe_op op_add (pe_op op_add pe_int (pv 3)) (pv 6)) (pa_cons (pv 7) pa_nil))) pa_nil))))))))
      (pss_one (ps_ret (pv 4)))))))), ?_⟩
    refine ⟨_, rfl, a, cs, 0, rfl, ha, by decide, ?_⟩
    generalize celF cs 0 = c
    refine ⟨fun σ H2 => ∃ M : Int, σ = [some (.ref a), some (.int m), some (.int c), some (.int M), none, none, none, none] ∧ H2 = H, ?_, ?_⟩
    · refine ⟨_, rfl, _, _, rfl, rfl, ⟨by decide, by decide⟩, _, _, rfl, rfl, (by show (0 : Int) < _; decide), rfl, _, rfl, ite2 (fun e => ?_) (fun e => ?_)⟩
      · exact ⟨_, rfl, _, _, rfl, rfl, ⟨by decide, by decide⟩, _, _, rfl, rfl, ⟨by decide, by decide, by decide⟩, _, _, rfl, rfl, (by show (0 : Int) < _; decide), _, rfl, rfl⟩
      · exact ⟨0, rfl, rfl⟩
    · rintro σ H2 ⟨M, rfl, rfl⟩
      refine ⟨(by show 0 ≤ sizeLine; decide), fun p hp => ?_⟩
      have s0 := Same.upd (o := HO.lst []) hp
      refine ⟨_, rfl, _, rfl, _, _, rfl, rfl, _, _, rfl, rfl, (by show (0 : Int) < m + 1; omega), _, rfl, ?_, ?_, ?_⟩
      · have := Int.emod_nonneg c (show m + 1 ≠ 0 by omega)
        show -(2 ^ 62) ≤ c % (m + 1)
        omega
      · have := Int.emod_lt_of_pos c (show 0 < m + 1 by omega)
        show c % (m + 1) < 2 ^ 62
        omega
      have hn : (c % (m + 1)).toNat ≤ 12 := by
        have h1 := Int.emod_nonneg c (show m + 1 ≠ 0 by omega)
        have h2 := Int.emod_lt_of_pos c (show 0 < m + 1 by omega)
        omega
      generalize (c % (m + 1)).toNat = n at hn
      generalize hee : celF cs 1 = ee
      refine for_range (fun i σ H3 => ∃ (x5 x6 x7 : Option V) (nv : List V), σ = [some (.ref a), some (.int m), some (.int c), some (.int M), some (.ref p), x5, x6, x7] ∧ Same H2 H3 ∧ H3 p = some (.lst nv) ∧ Nds H3 nv ((List.range i).map (nodeF c ee M))) ⟨none, none, none, [], rfl, s0, upd_same, .nil⟩ ?_ ?_
      · rintro i σ H3 hi ⟨x5, x6, x7, nv, rfl, s3, hp3, n3⟩
        have lv : nv.length = i := by have := prs_len n3; rw [List.length_map, List.length_range] at this; exact this
        have ha3 := s3.seq ha
        refine ⟨_, rfl, _, _, rfl, rfl, .inl ⟨by decide, by decide⟩, _, rfl, _, _, rfl, rfl, ⟨by decide, by decide⟩, _, _, rfl, rfl, _, _, rfl, rfl, (by show (0 : Int) < _; decide), ?_⟩
        refine ⟨_, rfl, a, cs, 1, rfl, ha3, by decide, _, rfl, _, _, rfl, rfl, _, _, rfl, rfl, ⟨?_, ?_⟩, _, _, rfl, rfl, (by show (0 : Int) < _; decide), ?_⟩
        · show (0 : Int) < 0 + (i : Int) + 1; omega
        · show (0 : Int) + (i : Int) + 1 < 1073741824; omega
        rw [hee]
        refine ⟨fun σ H4 => σ = [some (.ref a), some (.int m), some (.int c), some (.int M), some (.ref p), some (.int (0 + (i : Int))), some (.int ((nodeF c ee M i).1 - 1 - M)), some (.int (nodeF c ee M i).2)] ∧ H4 = H3, ?_, ?_⟩
        · refine ⟨_, rfl, a, cs, 1, rfl, ha3, by decide, ?_⟩
          rw [hee]
          refine ⟨_, _, rfl, rfl, ⟨by decide, by decide⟩, _, _, rfl, rfl, (by show (0 : Int) < _; decide), rfl, _, rfl, ite2 (fun e => ?_) (fun e => ?_)⟩
          · have e1 : ee / 3 % 2 = 1 := by
              have := of_decide_eq_true e
              injection this
            refine ⟨_, rfl, _, _, rfl, rfl, (by show (0 : Int) < _; decide), _, _, rfl, rfl, .inr ⟨by decide, by decide⟩, _, _, rfl, rfl, ?_⟩
            refine ⟨_, rfl, _, _, rfl, rfl, ⟨by decide, by decide⟩, ?_⟩
            have en : nodeF c ee M i = (1 + M + oneF c i / 3, oneF c i % 3 * 1000003 - 1000003) := if_pos e1
            rw [en]
            refine ⟨?_, rfl⟩
            unfold oneF
            rw [show (0 : Int) + (i : Int) = (i : Int) by omega, show 1 + M + (5 * (i : Int) + c / 7) % 13 / 3 - 1 - M = (5 * (i : Int) + c / 7) % 13 / 3 by omega]
            rfl
          · have e1 : ¬ ee / 3 % 2 = 1 := fun z => e (decide_eq_true (show V.int (ee / 3 % 2) = V.int 1 by rw [z]))
            have en : nodeF c ee M i = (1 + M + oneF c i, ee / ((i : Int) + 1) % 4) := if_neg e1
            rw [en]
            refine ⟨?_, rfl⟩
            unfold oneF
            rw [show (0 : Int) + (i : Int) = (i : Int) by omega, show 1 + M + (5 * (i : Int) + c / 7) % 13 - 1 - M = (5 * (i : Int) + c / 7) % 13 by omega]
            rfl
        · rintro σ H4 ⟨rfl, rfl⟩
          refine ⟨_, rfl, Or.inl ⟨rfl, _, SqL.of hp3⟩, _, rfl, _, _, rfl, rfl, _, rfl, _, _, rfl, rfl, _, rfl, (by show 2 ≤ sizeLine; decide), fun t ht => ⟨p, nv, .ref t, rfl, rfl, Same.upd ht _ _ hp3, (by rw [lv]; have : sizeLine = 2 ^ 24 := rfl; omega), fun H5 h5 k5 => ?_⟩⟩
          have st := Same.upd (o := HO.tup [.int (1 + M + ((nodeF c ee M i).1 - 1 - M)), .int (nodeF c ee M i).2]) ht
          have pn : ∀ {b : Addr} {o : HO}, H2 b = some o → b ≠ p := fun e z => by rw [z, hp] at e; cases e
          have tp : t ≠ p := fun z => by rw [z, hp3] at ht; cases ht
          have kt : KT2 H4 H5 := fun b xs e => k5 b _ (fun z => by rw [z, hp3] at e; cases e) (st _ _ e)
          refine ⟨_, _, _, _, rfl, fun b o e => k5 b o (pn e) (st _ _ (s3 _ _ e)), h5, ?_⟩
          rw [List.range_succ, List.map_append]
          refine paired_append (nds_kt kt n3) (.cons ⟨t, rfl, ?_⟩ .nil)
          rw [k5 t _ tp upd_same]
          show some (HO.tup [V.int (1 + M + ((nodeF c ee M i).1 - 1 - M)), V.int (nodeF c ee M i).2]) = _
          rw [show 1 + M + ((nodeF c ee M i).1 - 1 - M) = (nodeF c ee M i).1 by omega]
      · rintro σ H3 ⟨x5, x6, x7, nv, rfl, s3, hp3, n3⟩
        exact ⟨_, rfl, q p nv _ H3 hp s3 hp3 n3 (nodes_nodup (by omega)) (by rw [List.length_map, List.length_range]; exact hn)⟩
theorem ok_Lpairs (T : Tx K mg) : FnOk P w K mg base CX0 2 T.f_Lpairs T.d_Lpairs ["_law_script", "_law_nodes_here"] (spPairs K) := by
  refine T.F_Lpairs.ok sc_Lpairs (fun vs H Q E h => ?_) (fun cdv A outer s H vs Q E hr h => ?_)
  · obtain ⟨a, b, cs, nv, ns, rfl, _⟩ := h
    rfl
  · obtain ⟨a, b, cs, nv, ns, rfl, ha, hb, hN, ndn, few, q⟩ := h
    have hu := hu_of hr
    refine ⟨_, (pss_cons (ps_set (i := 2) sc_Lpairs.nd rfl (Or.inl rfl) (pe_lst pa_nil))
      (pss_cons (ps_set (i := 3) sc_Lpairs.nd rfl (Or.inl rfl) (pe_op op_mod (pe_call ((ok_Lcellat T).mono (by decide)) hr rfl T.m_Lcellat T.F_Lcellat.kp T.b_Lcellat .nil pass0 (pa_cons (pv 0) (pa_cons pe_int pa_nil))) pe_int))
      (pss_cons (ps_for PassesOwn.never rfl (pi_list (pe_slice sl_list (pv 0) (po_some pe_int) (po_some pe_int))) (pg_name (i := 4) sc_Lpairs.nd rfl (Or.inl rfl))
      (pss_one (ps_if (pt_cmpR op_gt (pe_callB call_len (by rfl) T.z_len boot_len (pa_cons (pv 1) pa_nil)) pe_int (nomark _))
      (pss_cons (ps_set (i := 5) sc_Lpairs.nd rfl (Or.inl rfl) (pe_op op_mod (pv 4) (pe_callB call_len (by rfl) T.z_len boot_len (pa_cons (pv 1) pa_nil))))
      (pss_cons (ps_set (i := 6) sc_Lpairs.nd rfl (Or.inl rfl) (pe_op op_mod (pe_op op_fdiv (pv 4) pe_int) (pe_callB call_len (by rfl) T.z_len boot_len (pa_cons (pv 1) pa_nil))))
      (pss_cut (ps_if (pt_cmpR op_eq (pv 5) (pv 6) (nomark _))
      (pss_one (ps_set (i := 6) sc_Lpairs.nd rfl (Or.inl rfl) (pe_op op_mod (pe_op op_add (pv 5) pe_int) (pe_callB call_len (by rfl) T.z_len boot_len (pa_cons (pv 1) pa_nil)))))
      pss_nil)
      (pss_cut (ps_if (PW.pt (pw_or (pt_cmpR op_eq (pv 3) pe_int (nomark _)) (pw_or1 (PW.pt (pw_and (pt_cmpR op_eq (pv 3) pe_int (nomark _)) (pw_and1 (pt_cmpR op_gt (pe_op op_mod (pe_op op_fdiv (pv 4) pe_int) pe_int) pe_int (nomark _))))))))
      (pss_one (ps_par (i := 5) (j := 6) rfl sc_Lpairs.nd rfl rfl (by decide) rfl rfl (pa_cons (pe_callB (call_min2 rfl) (by rfl) T.z_min boot_min (pa_cons (pv 5) (pa_cons (pv 6) pa_nil))) (pa_cons (pe_callB (call_max2 rfl) (by rfl) T.z_max boot_max (pa_cons (pv 5) (pa_cons (pv 6) pa_nil))) pa_nil)) rfl))
      pss_nil)
      (pss_one (ps_expr (pe_bm PySem.F.plainAttrs_list PySem.F.slot_list_append PySem.F.type_list_append mt_appendA (pv 2) (pa_cons (pe_tup (pa_cons (pe_ix ix_list (pv 1) (pv 5) (fun _ _ => rfl)) (pa_cons (pe_ix ix_list (pv 1) (pv 6) (fun _ _ => rfl)) pa_nil))) pa_nil))))))))
      pss_nil)))
      (pss_one (ps_ret (pv 2)))))), ?_⟩
    refine ⟨(by show 0 ≤ sizeLine; decide), fun p hp => ?_⟩
    have s0 := Same.upd (o := HO.lst []) hp
    refine ⟨_, rfl, a, cs, 1, rfl, s0.seq ha, by decide, _, _, rfl, rfl, (by show (0 : Int) < _; decide), ?_⟩
    refine ⟨_, rfl, _, rfl, _, rfl, ?_⟩
    refine ⟨a, _, rfl, s0.seq ha, fun l hl => ?_⟩
    have lp : l ≠ p := fun z => by rw [z, upd_same] at hl; cases hl
    have s1 := Same.upd (o := HO.lst (cutV (cs.map V.int) (some 2) (some 62))) hl
    obtain ⟨zs, ezs, lzs⟩ : ∃ zs : List Int, cutV (cs.map V.int) (some 2) (some 62) = zs.map V.int ∧ zs.length ≤ 60 := by
      unfold cutV
      refine ⟨((cs.drop (HT.sIx (cs.map V.int).length 0 (some 2))).take (HT.sIx (cs.map V.int).length (cs.map V.int).length (some 62) - HT.sIx (cs.map V.int).length 0 (some 2))), by rw [List.map_take, List.map_drop], ?_⟩
      rw [List.length_take, List.length_drop]
      unfold HT.sIx
      simp only [List.length_map]
      rw [if_neg (by decide), if_neg (by decide)]
      omega
    rw [ezs] at s1 ⊢
    have ln : nv.length = ns.length := prs_len hN
    refine ⟨l, rfl, ⟨_, SqL.of upd_same⟩, for_list (K := K) (a := l) (xs := zs.map V.int) (fun i σ H5 => ∃ (x4 x5 x6 : Option V) (ew : List V) (E : List (Nk × Nk)), σ = [some (.ref a), some (.ref b), some (.ref p), some (.int (celF cs 1 % 3)), x4, x5, x6] ∧ Same H H5 ∧ H5 p = some (.lst ew) ∧ H5 l = some (.lst (zs.map V.int)) ∧ Paired (PrV H5) ew E ∧ E.length ≤ i ∧ ∀ k ∈ E, (k.1 ∈ ns ∧ k.2 ∈ ns) ∧ k.1 ≠ k.2)
      ⟨none, none, none, [], [], rfl, s0.trans s1, s1 _ _ upd_same, upd_same, .nil, Nat.le_refl _, fun k hk => by cases hk⟩ (fun i σ H5 _ ⟨_, _, _, _, _, _, _, _, h, _⟩ => SqL.of h) ?_ ?_⟩
    · rintro i y σ H5 hy ⟨x4, x5, x6, ew, Ed, rfl, s5, hp5, hl5, pe5, le5, in5⟩
      have hi : i < 60 := by
        have := (List.getElem?_eq_some_iff.mp hy).1
        rw [List.length_map] at this
        omega
      obtain ⟨z, rfl, _⟩ := int_of_map hy
      have hb5 := s5.seq hb
      refine ⟨_, rfl, _, _, rfl, .inl ⟨_, hb5, rfl⟩, _, _, rfl, rfl, _, rfl, ite2 (fun e => ?_) (fun e => ?_)⟩
      · have e1 : (1 : Int) < (nv.length : Int) := of_decide_eq_true e
        have m1 := fun x : Int => Int.emod_nonneg x (show (nv.length : Int) ≠ 0 by omega)
        have m2 := fun x : Int => Int.emod_lt_of_pos x (show (0 : Int) < (nv.length : Int) by omega)
        refine ⟨_, rfl, _, rfl, _, _, rfl, .inl ⟨_, hb5, rfl⟩, _, _, rfl, rfl, (by show (0 : Int) < (nv.length : Int); omega), ?_⟩
        refine ⟨_, rfl, _, _, rfl, rfl, ⟨by decide, by decide⟩, _, rfl, _, _, rfl, .inl ⟨_, hb5, rfl⟩, _, _, rfl, rfl, (by show (0 : Int) < (nv.length : Int); omega), ?_⟩
        have h1 := m1 z
        have h2 := m2 z
        have h3 := m1 (z / 13)
        have h4 := m2 (z / 13)
        refine ⟨fun σ H6 => ∃ o1 o2 : Int, σ = [some (.ref a), some (.ref b), some (.ref p), some (.int (celF cs 1 % 3)), some (.int z), some (.int o1), some (.int o2)] ∧ 0 ≤ o1 ∧ o1 < nv.length ∧ 0 ≤ o2 ∧ o2 < nv.length ∧ o1 ≠ o2 ∧ H6 = H5, ?_, ?_⟩
        · refine ⟨_, rfl, _, rfl, rfl, _, rfl, ite2 (fun e => ?_) (fun e => ?_)⟩
          · refine ⟨_, rfl, _, _, rfl, rfl, _, rfl, _, _, rfl, .inl ⟨_, hb5, rfl⟩, _, _, rfl, rfl, (by show (0 : Int) < (nv.length : Int); omega), _, _, rfl, h1, h2, m1 _, m2 _, fun zz => ?_, rfl⟩
            by_cases q1 : z % (nv.length : Int) + 1 = nv.length
            · rw [q1, Int.emod_self] at zz
              omega
            · rw [Int.emod_eq_of_lt (a := z % (nv.length : Int) + 1) (by omega) (by omega)] at zz
              omega
          · exact ⟨_, _, rfl, h1, h2, h3, h4, fun zz => e (decide_eq_true (congrArg V.int zz)), rfl⟩
        rintro σ H6 ⟨o1, o2, rfl, g1, g2, g3, g4, g5, rfl⟩
        refine ⟨fun σ H7 => ∃ o1 o2 : Int, σ = [some (.ref a), some (.ref b), some (.ref p), some (.int (celF cs 1 % 3)), some (.int z), some (.int o1), some (.int o2)] ∧ 0 ≤ o1 ∧ o1 < nv.length ∧ 0 ≤ o2 ∧ o2 < nv.length ∧ o1 ≠ o2 ∧ H7 = H6, ?_, ?_⟩
        · have sw : tPar 5 6 (tCons (tCB (fun xs H Q => ∃ i j, xs = [V.int i, V.int j] ∧ Q (V.int (if j < i then j else i)) H) (tCons (tVar 5) (tCons (tVar 6) tNil))) (tCons (tCB (fun xs H Q => ∃ i j, xs = [V.int i, V.int j] ∧ Q (V.int (if j > i then j else i)) H) (tCons (tVar 5) (tCons (tVar 6) tNil))) tNil))
              { nx := fun σ H7 => ∃ o1 o2 : Int, σ = [some (.ref a), some (.ref b), some (.ref p), some (.int (celF cs 1 % 3)), some (.int z), some (.int o1), some (.int o2)] ∧ 0 ≤ o1 ∧ o1 < nv.length ∧ 0 ≤ o2 ∧ o2 < nv.length ∧ o1 ≠ o2 ∧ H7 = H6, rt := fun _ _ => False } [some (.ref a), some (.ref b), some (.ref p), some (.int (celF cs 1 % 3)), some (.int z), some (.int o1), some (.int o2)] H6 := by
            refine ⟨_, rfl, _, rfl, _, _, rfl, _, rfl, _, rfl, _, _, rfl, _, _, rfl, if o2 < o1 then o2 else o1, if o2 > o1 then o2 else o1, rfl, ?_, ?_, ?_, ?_, ?_, rfl⟩ <;> (repeat' split) <;> omega
          refine ⟨_, rfl, rfl, _, rfl, ite2 (fun e => iteT sw) (fun e => ?_)⟩
          refine ⟨_, rfl, rfl, _, rfl, ite2 (fun e => ?_) (fun e => iteF ⟨_, _, rfl, g1, g2, g3, g4, g5, rfl⟩)⟩
          refine ⟨_, rfl, _, _, rfl, rfl, ⟨by decide, by decide⟩, _, _, rfl, rfl, (by show (0 : Int) < _; decide), _, _, rfl, rfl, _, rfl, ?_⟩
          by_cases e3 : (0 : Int) < z / 169 % 16
          · rw [decide_eq_true e3]
            exact iteT sw
          · rw [decide_eq_false e3]
            exact iteF ⟨_, _, rfl, g1, g2, g3, g4, g5, rfl⟩
        rintro σ H7 ⟨o1, o2, rfl, g1, g2, g3, g4, g5, rfl⟩
        obtain ⟨v1, ei1⟩ : ∃ v, nv[o1.toNat]? = some v := ⟨_, List.getElem?_eq_getElem (by omega)⟩
        obtain ⟨v2, ei2⟩ : ∃ v, nv[o2.toNat]? = some v := ⟨_, List.getElem?_eq_getElem (by omega)⟩
        have hv1 := atI_nat ei1
        have hv2 := atI_nat ei2
        rw [Int.toNat_of_nonneg g1] at hv1
        rw [Int.toNat_of_nonneg g3] at hv2
        refine ⟨_, rfl, Or.inl ⟨rfl, _, SqL.of hp5⟩, _, rfl, _, rfl, b, _, _, _, rfl, rfl, hb5, hv1, _, rfl, _, rfl, b, _, _, _, rfl, rfl, hb5, hv2, (by show 2 ≤ sizeLine; decide), fun t ht => ⟨p, ew, .ref t, rfl, rfl, Same.upd ht _ _ hp5, ?_, fun H8 h8 k8 => ?_⟩⟩
        · have := prs_len pe5
          have : sizeLine = 2 ^ 24 := rfl
          omega
        have nd7 := nds_kt (kt_same s5) hN
        obtain ⟨n1, en1, kn1⟩ := paired_get nd7 ei1
        obtain ⟨n2, en2, kn2⟩ := paired_get nd7 ei2
        have st := Same.upd (o := HO.tup [v1, v2]) ht
        have tp : t ≠ p := fun z => by rw [z, hp5] at ht; cases ht
        have kt : KT2 H7 H8 := fun b xs e => k8 b _ (fun z => by rw [z, hp5] at e; cases e) (st _ _ e)
        refine ⟨_, _, _, _, Ed ++ [(n1, n2)], rfl, fun b o e => k8 b o (fun z => by rw [z, hp] at e; cases e) (st _ _ (s5 _ _ e)), h8, k8 _ _ lp (st _ _ hl5), paired_append (prs_kt kt pe5) (.cons ⟨t, v1, v2, rfl, k8 _ _ tp upd_same, nd_kt kt kn1, nd_kt kt kn2⟩ .nil), ?_, fun k hk => ?_⟩
        · rw [List.length_append, List.length_singleton]; omega
        · rcases List.mem_append.mp hk with w | w
          · exact in5 k w
          · rw [List.mem_singleton.mp w]
            refine ⟨⟨List.mem_of_getElem? en1, List.mem_of_getElem? en2⟩, fun zz => ?_⟩
            have zz' : n1 = n2 := zz
            rw [← zz'] at en2
            have := (List.getElem?_inj (List.getElem?_eq_some_iff.mp en1).1 ndn).mp (en1.trans en2.symm)
            omega
      · exact ⟨_, _, _, ew, Ed, rfl, s5, hp5, hl5, pe5, Nat.le_succ_of_le le5, in5⟩
    · rintro σ H5 ⟨x4, x5, x6, ew, Ed, rfl, s5, hp5, hl5, pe5, le5, in5⟩
      rw [List.length_map] at le5
      exact ⟨_, rfl, q p ew Ed H5 hp s5 hp5 pe5 (by omega) (fun k hk => (in5 k hk).1) fun k hk => (in5 k hk).2⟩
theorem ok_ring (T : Tx K mg) : FnOk P w K mg base CX0 1 T.f_ring T.d_ring ["waits", "start"] (spRing K) := by
  refine T.F_ring.ok sc_ring (fun vs H Q E h => ?_) (fun cdv A outer s H vs Q E hr h => ?_)
  · obtain ⟨d, kvs, W, U, st, v, rfl, _⟩ := h
    rfl
  · obtain ⟨d, kvs, W, U, st, v, rfl, hd, hW, wf, hv, sU, kn, ks⟩ := h
    have hu := hu_of hr
    refine ⟨_, (pss_cons (ps_set (i := 2) sc_ring.nd rfl (Or.inl rfl) pe_dnewT)
      (pss_cons (ps_set (i := 3) sc_ring.nd rfl (Or.inl rfl) (pe_lst (pa_cons (pe_lst (pa_cons (pv 1) pa_nil)) pa_nil)))
      (pss_cons (ps_while PassesOwn.never (pt_cmpR op_gt (pe_callB call_len (by rfl) T.z_len boot_len (pa_cons (pv 3) pa_nil)) pe_int (nomark _))
      (pss_cons (ps_set (i := 4) sc_ring.nd rfl (Or.inl rfl) (pe_lst pa_nil))
      (pss_cons (ps_for PassesOwn.never rfl (pi_list (pv 3)) (pg_name (i := 5) sc_ring.nd rfl (Or.inl rfl))
      (pss_cons (ps_set (i := 6) sc_ring.nd rfl (Or.inl rfl) (pe_dget2 hu (pv 0) (pe_ix ix_list (pv 5) (pe_un un_neg pe_int) (fun _ _ => rfl)) (pe_lst pa_nil) ⟨rfl, rfl, rfl, rfl⟩))
      (pss_cons (ps_if (pt_cmpR (op_inN (K := K) (u16 hr.units) rfl) (pv 1) (pv 6) rfl)
      (pss_one (ps_ret (pv 5)))
      pss_nil)
      (pss_one (ps_for PassesOwn.never rfl (pi_list (pv 6)) (pg_name (i := 7) sc_ring.nd rfl (Or.inl rfl))
      (pss_one (ps_if (pt_cmp (pc_dnotin hu (pv 7) (pv 2)))
      (pss_cons (ps_dput hu (pv 2) (pv 7) pe_bl rfl)
      (pss_one (ps_expr (pe_bm PySem.F.plainAttrs_list PySem.F.slot_list_append PySem.F.type_list_append mt_appendA (pv 4) (pa_cons (pe_op op_cat (pv 5) (pe_lst (pa_cons (pv 7) pa_nil))) pa_nil)))))
      pss_nil)))))))
      (pss_one (ps_set (i := 3) sc_ring.nd rfl (Or.inl rfl) (pv 4))))))
      (pss_one (ps_ret pe_non))))), ?_⟩
    intro dm hdm
    have s1 := Same.upd (o := HO.dT []) hdm
    refine ⟨_, rfl, (by show 1 ≤ sizeLine; decide), fun p1 hp1 => ⟨(by show 1 ≤ sizeLine; decide), fun p2 hp2 => ?_⟩⟩
    have s2 := Same.upd (o := HO.lst [v]) hp1
    have s3 := Same.upd (o := HO.lst [V.ref p1]) hp2
    have S := s1.trans (s2.trans s3)
    have n1 : H p1 = none := same_none s1 hp1
    refine ⟨fun m σ H2 => ∃ (cl : Addr) (x4 x5 x6 x7 : Option V) (met : List Nk) (cs : List (List Nk)) (cvs : List V), σ = [some (.ref d), some v, some (.ref dm), some (.ref cl), x4, x5, x6, x7] ∧ Same H H2 ∧ H2 dm = some (.dT (metT met)) ∧ H2 cl = some (.lst cvs) ∧ ChN H H2 cvs cs ∧ Met U st met ∧ (∀ c ∈ cs, GC W st met c) ∧ (cs ≠ [] → 14 ≤ m + met.length) ∧ ringF W st m met cs = theRing W st,
      ⟨14, p2, none, none, none, none, [], [[st]], [.ref p1], rfl, S, (s2.trans s3) _ _ upd_same, upd_same, .cons ⟨p1, [v], rfl, n1, s3 _ _ upd_same, .cons (nd_same S hv) .nil⟩ .nil, (start_ok W U st).1, (start_ok W U st).2, fun _ => Nat.le_refl _, rfl⟩, ?_⟩
    clear S s3 s2 s1 hp1 hp2 n1
    rintro m σ H2 ⟨cl, x4, x5, x6, x7, met, cs, cvs, rfl, s2, hm2, hc2, ch2, M, G, fuel, er⟩
    refine ⟨_, rfl, _, _, rfl, .inl ⟨_, SqL.of hc2, rfl⟩, _, _, rfl, rfl, _, rfl, ?_⟩
    have hcl : cvs.length = cs.length := prs_len ch2
    show if decide ((0 : Int) < ((cvs.length : Nat) : Int)) = true then _ else _
    by_cases hne : cs = []
    · rw [if_neg (by rw [hcl, hne]; decide)]
      exact kn (by rw [← er, hne, ringF_nil]) H2 s2
    have cpos : 0 < cs.length := List.length_pos_iff.mpr hne
    rw [if_pos (decide_eq_true (by omega))]
    have ml := nodup_len M.nd M.inU
    have uf := wf.few
    obtain ⟨m', rfl⟩ : ∃ m', m = m' + 1 := ⟨m - 1, by have := fuel hne; omega⟩
    refine ⟨_, fun σ' H' h => ⟨m', Nat.lt_succ_self _, h⟩, ?_⟩
    refine ⟨(by show 0 ≤ sizeLine; decide), fun ll hll => ?_⟩
    have s3 := Same.upd (o := HO.lst []) hll
    have nlH : H ll = none := same_none s2 hll
    have nlc : V.ref ll ∉ cvs := fun z => by
      obtain ⟨xs, e⟩ := chn_there ch2 z
      rw [hll] at e
      cases e
    have clll : cl ≠ ll := fun z => by rw [z, hll] at hc2; cases hc2
    have lf : ∀ i, (level W st (cs.take i) (met, [])).1 = none → Met U st (level W st (cs.take i) (met, [])).2.1 ∧ (∀ d ∈ (level W st (cs.take i) (met, [])).2.2, GC W st (level W st (cs.take i) (met, [])).2.1 d) ∧ (level W st (cs.take i) (met, [])).2.1.length + 0 = met.length + (level W st (cs.take i) (met, [])).2.2.length ∧ ∀ x ∈ met, x ∈ (level W st (cs.take i) (met, [])).2.1 := fun i h => (level_facts wf (cs.take i) (met, []) M (fun c hc => G c (List.mem_of_mem_take hc)) (fun d hd => by cases hd)).2 h
    refine ⟨_, rfl, cl, rfl, ⟨_, SqL.of (s3 _ _ hc2)⟩, for_list (K := K) (a := cl) (xs := cvs) (fun i σ H3 => ∃ (x5 x6 x7 : Option V) (lvs : List V), σ = [some (.ref d), some v, some (.ref dm), some (.ref cl), some (.ref ll), x5, x6, x7] ∧ Same H H3 ∧ (level W st (cs.take i) (met, [])).1 = none ∧ H3 dm = some (.dT (metT (level W st (cs.take i) (met, [])).2.1)) ∧ H3 cl = some (.lst cvs) ∧ ChN H H3 cvs cs ∧ H3 ll = some (.lst lvs) ∧ ChN H H3 lvs (level W st (cs.take i) (met, [])).2.2 ∧ V.ref ll ∉ lvs)
      ⟨x5, x6, x7, [], rfl, s2.trans s3, rfl, s3 _ _ hm2, s3 _ _ hc2, chn_same ch2 s3, upd_same, .nil, by simp⟩ (fun i σ H3 _ ⟨_, _, _, _, _, _, _, _, h, _⟩ => SqL.of h) ?_ ?_⟩
    · rintro i y σ H3 hy ⟨y5, y6, y7, lvs, rfl, s3', hl0, hm3, hc3, ch3, hl3, chl3, nll⟩
      obtain ⟨c, g2, l, cw, rfl, g0, g4, gn⟩ := paired_get ch3 hy
      have g1 := hy
      obtain ⟨L1, L2, L3, L4⟩ := lf i hl0
      have Gc : GC W st (level W st (cs.take i) (met, [])).2.1 c := (G c (List.mem_of_getElem? g2)).mono L4
      have nlll : l ≠ ll := fun z => nlc (z ▸ List.mem_of_getElem? g1)
      obtain ⟨lv, elv, klv⟩ := last_at gn Gc.ne
      have lU : lastZ c ∈ U := Gc.inU L1 sU (lastZ_mem Gc.ne)
      refine ⟨_, rfl, d, rfl, .inr ⟨kvs, .inl (s3' _ _ hd)⟩, _, rfl, _, rfl, l, _, _, _, rfl, rfl, SqL.of g4, elv, (by show 0 ≤ sizeLine; decide), fun l0 hl0' => ?_⟩
      have s4 := Same.upd (o := HO.lst []) hl0'
      have sH4 := s3'.trans s4
      obtain ⟨ol, ow, ev, e2H, e3n⟩ := hW.get lU
      obtain ⟨lb, rfl, elb⟩ := nd_key klv
      refine ⟨_, .inr ⟨kvs, kN (lastZ c), lb, .inl (sH4 _ _ hd), rfl, s4 _ _ elb, rfl⟩, ?_⟩
      rw [ev]
      have e2 := sH4 _ _ e2H
      have e3 : ol ≠ ll := fun z => by rw [z, nlH] at e2H; cases e2H
      have en := nds_kt (kt_same sH4) e3n
      have no : ow.length = (W (lastZ c)).length := prs_len en
      refine ⟨_, rfl, _, rfl, ol, ow, W (lastZ c), st, rfl, SqL.of e2, en, nd_same sH4 hv, _, rfl, ite2 (fun e => ?_) (fun e => ?_)⟩
      · have e5 : st ∈ W (lastZ c) := of_decide_eq_true e
        exact ⟨_, rfl, ks c (by rw [← er]; exact ringF_hit hne (level_hit hl0 g2 e5)) l cw _ g0 sH4 (s4 _ _ g4) (nds_kt (kt_same s4) gn)⟩
      have hno : st ∉ W (lastZ c) := fun z => e (decide_eq_true z)
      have el := level_step hl0 g2 hno
      have ef := fun j => ext_facts wf hno ((W (lastZ c)).take j) (level W st (cs.take i) (met, [])).2 (fun x hx => List.mem_of_mem_take hx) L1 Gc L2
      generalize (level W st (cs.take i) (met, [])).2 = s0 at hm3 chl3 L1 L2 L3 L4 Gc el ef
      refine ⟨_, rfl, ol, rfl, ⟨_, SqL.of e2⟩, for_list (K := K) (a := ol) (xs := ow) (fun j σ H5 => ∃ (x7 : Option V) (lvs : List V), σ = [some (.ref d), some v, some (.ref dm), some (.ref cl), some (.ref ll), some (.ref l), some (.ref ol), x7] ∧ Same H H5 ∧ H5 ol = some (.lst ow) ∧ H5 dm = some (.dT (metT (((W (lastZ c)).take j).foldl (ext1 c) s0).1)) ∧ H5 cl = some (.lst cvs) ∧ ChN H H5 cvs cs ∧ H5 ll = some (.lst lvs) ∧ ChN H H5 lvs (((W (lastZ c)).take j).foldl (ext1 c) s0).2 ∧ V.ref ll ∉ lvs)
        ⟨_, lvs, rfl, sH4, e2, s4 _ _ hm3, s4 _ _ hc3, chn_same ch3 s4, s4 _ _ hl3, chn_same chl3 s4, nll⟩ (fun j σ H5 _ ⟨_, _, _, _, h, _⟩ => SqL.of h) ?_ ?_⟩
      · rintro j y σ H5 hy ⟨w7, lvs5, rfl, s5, ho5, hm5, hc5, ch5, hl5, chl5, nll5⟩
        have en5 := nds_kt (kt_same s5) e3n
        obtain ⟨z, ez, kz⟩ := paired_get en5 hy
        obtain ⟨F1, F2, F3, F4⟩ := ef j
        have es : ((W (lastZ c)).take (j + 1)).foldl (ext1 c) s0 = ext1 c (((W (lastZ c)).take j).foldl (ext1 c) s0) z := by
          rw [List.take_add_one, ez, List.foldl_append]
          rfl
        generalize ((W (lastZ c)).take j).foldl (ext1 c) s0 = sj at hm5 chl5 F1 F2 F3 F4 es
        have mlj := nodup_len F1.nd F1.inU
        have mv := metT_val sj.1 z
        obtain ⟨c', g2', l', cw', e', g0', g4', gn'⟩ := paired_get ch5 g1
        cases e'
        rw [g2] at g2'
        cases g2'
        obtain ⟨zb, rfl, ezb⟩ := nd_key kz
        refine ⟨_, rfl, _, rfl, dm, _, rfl, .inr ⟨_, kN z, zb, .inl hm5, rfl, ezb, rfl⟩, _, rfl, ite2 (fun e => ?_) (fun e => ?_)⟩
        · have hnew : z ∉ sj.1 := fun q => by
            rw [decide_eq_true q] at mv
            have e' : (!(valV (metT sj.1) (kN z)).isSome) = true := e
            rw [mv] at e'
            cases e'
          have es' : ((W (lastZ c)).take (j + 1)).foldl (ext1 c) s0 = (sj.1 ++ [z], sj.2 ++ [c ++ [z]]) := by rw [es]; exact if_neg hnew
          have lm : (metT sj.1).length < sizeLine := by
            rw [metT_len]
            exact Nat.lt_of_le_of_lt (Nat.le_trans mlj uf) (by decide)
          refine ⟨_, rfl, _, rfl, dm, _, rfl, DPut.t (v := .bl true) hm5 ezb lm, ?_⟩
          rw [metT_put hnew]
          have k6 : ∀ b o, b ≠ dm → H5 b = some o → upd H5 dm (.dT (metT (sj.1 ++ [z]))) b = some o := fun b o n eb => by
            rw [upd_ne n]
            exact eb
          have kL : ∀ b xs, H5 b = some (.lst xs) → upd H5 dm (.dT (metT (sj.1 ++ [z]))) b = some (.lst xs) := fun b xs eb => k6 b _ (fun q => by rw [q, hm5] at eb; cases eb) eb
          have kt6 : KT2 H5 (upd H5 dm (.dT (metT (sj.1 ++ [z])))) := kt_but hm5 (fun xs z => by cases z) k6
          have s6 : Same H (upd H5 dm (.dT (metT (sj.1 ++ [z])))) := s5.again hdm
          have cl13 := Gc.len L1 uf
          refine ⟨_, rfl, .inl ⟨rfl, _, SqL.of (kL _ _ hl5)⟩, _, rfl, _, rfl, (by show 1 ≤ sizeLine; decide), fun t1 ht1 => ?_⟩
          have st1 := Same.upd (o := HO.lst [V.ref zb]) ht1
          refine ⟨l, t1, _, _, rfl, rfl, st1 _ _ (kL _ _ g4'), upd_same, ?_, fun nl hnl => ?_⟩
          · rw [prs_len gn']
            exact Nat.le_trans (show c.length + 1 ≤ 20 by omega) (by decide)
          have sn := Same.upd (o := HO.lst (cw' ++ [V.ref zb])) hnl
          have s8 := st1.trans sn
          have nlt : nl ≠ ll := fun q => by rw [q, st1 _ _ (kL _ _ hl5)] at hnl; cases hnl
          have lvl : lvs5.length < sizeLine := by
            rw [prs_len chl5]
            exact Nat.lt_of_le_of_lt (show sj.2.length ≤ 24 by omega) (by decide)
          refine ⟨ll, lvs5, _, rfl, rfl, s8 _ _ (kL _ _ hl5), lvl, fun H7 h7 k7 => ?_⟩
          have kt7 : KT2 H5 H7 := (kt6.trans (kt_same s8)).trans (kt_but (s8 _ _ (kL _ _ hl5)) (fun xs z => by cases z) k7)
          have k57 : ∀ b xs, b ≠ ll → H5 b = some (.lst xs) → H7 b = some (.lst xs) := fun b xs n eb => k7 _ _ n (s8 _ _ (kL _ _ eb))
          have dml : dm ≠ ll := fun q => by rw [q, hl5] at hm5; cases hm5
          refine ⟨_, lvs5 ++ [.ref nl], rfl, (fun b o eb => k7 _ _ (fun q => by rw [q, nlH] at eb; cases eb) (s8 _ _ (s6 _ _ eb))), k57 _ _ e3 ho5, ?_, k57 _ _ clll hc5, chn_keep kt7 ch5 fun b xs hb eb => k57 b xs (fun q => nlc (q ▸ hb)) eb, h7, ?_, ?_⟩
          · rw [es']
            exact k7 _ _ dml (s8 _ _ upd_same)
          · rw [es']
            refine paired_append (chn_keep kt7 chl5 fun b xs hb eb => k57 b xs (fun q => nll5 (q ▸ hb)) eb) (.cons ⟨nl, _, rfl, same_none s6 (same_none st1 hnl), k7 _ _ nlt upd_same, paired_append (nds_kt kt7 gn') (.cons (nd_kt kt7 kz) .nil)⟩ .nil)
          · intro q
            rcases List.mem_append.mp q with q | q
            · exact nll5 q
            · exact nlt (V.ref.inj (List.mem_singleton.mp q)).symm
        · have hold : z ∈ sj.1 := Classical.byContradiction fun q => e (by
            show (!(valV (metT sj.1) (kN z)).isSome) = true
            rw [mv, decide_eq_false q]
            rfl)
          have es' : ((W (lastZ c)).take (j + 1)).foldl (ext1 c) s0 = sj := by rw [es]; exact if_pos hold
          refine ⟨_, lvs5, rfl, s5, ho5, ?_, hc5, ch5, hl5, ?_, nll5⟩
          · rw [es']; exact hm5
          · rw [es']; exact chl5
      · rintro σ H5 ⟨w7, lvs5, rfl, s5, ho5, hm5, hc5, ch5, hl5, chl5, nll5⟩
        rw [no, List.take_length] at hm5 chl5
        refine ⟨_, _, _, lvs5, rfl, s5, ?_, ?_, hc5, ch5, hl5, ?_, nll5⟩
        · rw [el]
        · rw [el]; exact hm5
        · rw [el]; exact chl5
    · rintro σ H3 ⟨y5, y6, y7, lvs, rfl, s3', hl0, hm3, hc3, ch3, hl3, chl3, nll⟩
      rw [hcl, List.take_length] at hl0 hm3 chl3
      have L := lf cs.length (by rw [List.take_length]; exact hl0)
      rw [List.take_length] at L
      obtain ⟨L1, L2, L3, L4⟩ := L
      have fu := fuel hne
      refine ⟨_, rfl, ll, _, _, _, _, _, _, lvs, rfl, s3', hm3, hl3, chl3, L1, L2, fun hc' => ?_, ?_⟩
      · have : 0 < (level W st cs (met, [])).2.2.length := List.length_pos_iff.mpr hc'
        omega
      · rw [← er]
        exact (ringF_go hne hl0).symm
theorem ok_leastring (T : Tx K mg) : FnOk P w K mg base CX0 2 T.f_leastring T.d_leastring ["nodes", "pairs"] (spLeast K) := by
  refine T.F_leastring.ok sc_leastring (fun vs H Q E h => ?_) (fun cdv A outer s H vs Q E hr h => ?_)
  · obtain ⟨a, b, nv, ew, ns, E, rfl, _⟩ := h
    rfl
  · obtain ⟨a, b, nv, ew, ns, Ed, rfl, hA, hN, nd, few, hB, hP, fewE, hin, hself, q⟩ := h
    have hu := hu_of hr
    refine ⟨_, (pss_cons (ps_set (i := 2) sc_leastring.nd rfl (Or.inr rfl) (pe_call ((ok_followers T).mono (by decide)) hr rfl T.m_followers T.F_followers.kp T.b_followers .nil pass0 (pa_cons (pv 0) (pa_cons (pv 1) pa_nil))))
      (pss_cons (ps_compF (i := 3) ["node"] rfl sc_leastring.nd rfl rfl (CompSc.mk (fv := ["behind"]) (js := [2]) rfl (by decide +kernel) (by decide +kernel) (by decide +kernel) (allc_cons (Or.inl rfl) allc_nil) rfl (by decide +kernel)) (pi_list (pe_callB (call_sortedN (u16 hr.units)) (by rfl) T.z_sorted boot_sorted (pa_cons (pv 0) pa_nil))) rfl (fun _ _ _ _ _ => (pg_name (i := 0) (show (["node", "behind"] : List Str).Nodup by decide +kernel) rfl (Or.inl rfl))) (fun _ _ _ _ _ => pf_nil) (fun _ _ _ _ _ => (pe_call ((ok_ring T).mono (by decide)) hr rfl T.m_ring T.F_ring.kp T.b_ring .nil pass0 (pa_cons (pv 1) (pa_cons (pv 0) pa_nil)))))
      (pss_one (ps_ret (pe_minLen (K := K) rfl rfl rfl T.z_min rfl T.z_len (pa_cons (pe_compF ["found"] rfl (CompSc.mk (fv := []) (js := []) rfl (by decide +kernel) (by decide +kernel) (by decide +kernel) allc_nil rfl (by decide +kernel)) (pi_list (pv 3)) (fun _ _ _ _ _ => (pg_name (i := 0) (show (["found"] : List Str).Nodup by decide +kernel) rfl (Or.inl rfl))) (fun _ _ _ _ _ => (pf_one (pt_cmpR op_notN (pv 0) pe_non (nomark _)))) (fun _ _ _ _ _ => (pv 0))) pa_nil)))))), ?_⟩
    refine ⟨_, rfl, _, rfl, a, b, nv, ew, ns, Ed, rfl, hA, hN, nd, few, hB, hP, fewE, hin, fun d kvs js H1 hd s1 h1 ndj mj pwj bd => ?_⟩
    have s1N := nds_kt (kt_same s1) hN
    have wf := bhF_wf ndj pwj (fun k hk => hin k ((mj k).mp hk)) (fun k hk => hself k ((mj k).mp hk)) few
    refine ⟨_, rfl, a, nv, ns, rfl, s1.seq hA, s1N, (by have := prs_len hN; omega), fun sl ys L hsl pL permL pwL => ?_⟩
    have s2 := Same.upd (o := HO.lst ys) hsl
    refine ⟨sl, rfl, ⟨_, SqL.of upd_same⟩, fun D hD => ⟨fun i m rs τ H2 => m = ys.length - i ∧ i ≤ ys.length ∧ (∃ t, τ = [t, some (.ref d)]) ∧ Same (upd H1 sl (.lst ys)) H2 ∧ H2 D = some (.lst rs) ∧ V.ref D ∉ rs ∧ Paired (OR H H2) rs ((L.take i).map (theRing (bhF js))), ⟨_, rfl, Nat.zero_le _, ⟨none, rfl⟩, Same.upd hD, upd_same, by simp, .nil⟩, ?_⟩⟩
    have ly : ys.length = L.length := prs_len pL
    have lL : L.length = ns.length := permL.length_eq
    rintro i m rs τ H2 ⟨rfl, hi, ⟨t, rfl⟩, s3, hD2, nD, pr⟩
    have lr : rs.length = i := by
      have := prs_len pr
      rw [List.length_map, List.length_take] at this
      omega
    refine ⟨hD2, ?_⟩
    by_cases hlt : i < ys.length
    · refine .inr ⟨(gives_list (SqL.of (s3 _ _ upd_same))).go i hlt, by have : sizeLine = 2 ^ 24 := rfl; omega, ?_⟩
      rintro v H' ⟨rfl, yy⟩
      obtain ⟨n, en, kn⟩ := paired_get pL (yy ys (SqL.of (s3 _ _ upd_same)))
      have S3 : Same H H' := s1.trans (s2.trans s3)
      have S13 : Same H1 H' := s2.trans s3
      have nU : n ∈ ns := permL.mem_iff.mp (List.mem_of_getElem? en)
      have next : ∀ (y : V) (H4 : Hp), Same H' H4 → OR H H4 y (theRing (bhF js) n) → y ≠ .ref D → H4 D = some (.lst rs) ∧ ∃ m', m' < ys.length - i ∧ m' = ys.length - (i + 1) ∧ i + 1 ≤ ys.length ∧ (∃ t, [some v, some (V.ref d)] = [t, some (.ref d)]) ∧ Same (upd H1 sl (.lst ys)) (upd H4 D (.lst (rs ++ [y]))) ∧ upd H4 D (.lst (rs ++ [y])) D = some (.lst (rs ++ [y])) ∧ V.ref D ∉ rs ++ [y] ∧ Paired (OR H (upd H4 D (.lst (rs ++ [y])))) (rs ++ [y]) ((L.take (i + 1)).map (theRing (bhF js))) := fun y H4 s4 oy ny => by
        have hD4 := s4 _ _ hD2
        have kt : KT2 H4 (upd H4 D (.lst (rs ++ [y]))) := kt_but hD4 (fun xs z => by cases z) fun b o n e => by rw [upd_ne n]; exact e
        have kl : ∀ l xs, V.ref l ≠ V.ref D → H4 l = some (.lst xs) → upd H4 D (.lst (rs ++ [y])) l = some (.lst xs) := fun l xs n e => by rw [upd_ne fun z => n (by rw [z])]; exact e
        refine ⟨hD4, _, by omega, rfl, hlt, ⟨_, rfl⟩, (s3.trans s4).again hD, upd_same, fun z => ?_, ?_⟩
        · rcases List.mem_append.mp z with q | q
          · exact nD q
          · exact ny (List.mem_singleton.mp q).symm
        · rw [List.take_add_one, en, List.map_append]
          refine paired_append (or_keep kt (or_keep (kt_same s4) pr fun l xs _ e => s4 _ _ e) fun l xs hl e => kl l xs (fun z => nD (z ▸ hl)) e) (or_keep kt (.cons oy .nil) fun l xs hl e => kl l xs (fun z => ?_) e)
          exact ny ((List.mem_singleton.mp hl).symm.trans z)
      refine ⟨_, rfl, _, rfl, d, kvs, bhF js, ns, n, v, rfl, S13 _ _ h1, bd.fd.same S13, wf, nd_same S13 kn, nU, fun er H4 s4 => ?_, fun c ec p ws H4 hp s4 h4 n4 => ?_⟩
      · exact next .non H4 s4 (.inl ⟨er, rfl⟩) (fun z => by cases z)
      · exact next (.ref p) H4 s4 (.inr ⟨c, ec, p, ws, rfl, S3.free hp, h4, n4⟩) (fun z => by cases z; rw [hD2] at hp; cases hp)
    · have ei : i = ys.length := by omega
      refine .inl ⟨(gives_list (SqL.of (s3 _ _ upd_same))).stop _ (by omega), ?_⟩
      rw [ei, ly, List.take_length] at pr
      have S3 : Same H H2 := s1.trans (s2.trans s3)
      clear hlt ei lr hi
      refine ⟨_, rfl, D, rfl, ⟨_, SqL.of hD2⟩, fun D2 hD22 => ⟨fun i m fs τ H3 => m = rs.length - i ∧ i ≤ rs.length ∧ (∃ t, τ = [t]) ∧ Same H2 H3 ∧ H3 D2 = some (.lst fs) ∧ V.ref D2 ∉ fs ∧ ChN H H3 fs ((L.take i).filterMap (theRing (bhF js))), ⟨_, rfl, Nat.zero_le _, ⟨none, rfl⟩, Same.upd hD22, upd_same, by simp, .nil⟩, ?_⟩⟩
      have lrs : rs.length = L.length := by
        have := prs_len pr
        rw [List.length_map] at this
        exact this
      rintro i m fs τ H3 ⟨rfl, hi, ⟨t, rfl⟩, s4, hD3, nD2, pf⟩
      have lf : fs.length ≤ i := by
        have h1 := prs_len pf
        have h2 := List.length_filterMap_le (theRing (bhF js)) (L.take i)
        rw [List.length_take] at h2
        omega
      refine ⟨hD3, ?_⟩
      by_cases hlt : i < rs.length
      · refine .inr ⟨(gives_list (SqL.of (s4 _ _ hD2))).go i hlt, by have : sizeLine = 2 ^ 24 := rfl; omega, ?_⟩
        rintro v H' ⟨rfl, yy⟩
        obtain ⟨r, er, kr⟩ := paired_get pr (yy rs (SqL.of (s4 _ _ hD2)))
        rw [List.getElem?_map] at er
        obtain ⟨n, en, enr⟩ := Option.map_eq_some_iff.mp er
        subst enr
        have et : (L.take (i + 1)).filterMap (theRing (bhF js)) = (L.take i).filterMap (theRing (bhF js)) ++ (theRing (bhF js) n).toList := by
          rw [List.take_add_one, en, List.filterMap_append]
          show _ ++ List.filterMap (theRing (bhF js)) [n] = _
          rw [List.filterMap_cons]
          cases theRing (bhF js) n <;> rfl
        rcases kr with ⟨e0, rfl⟩ | ⟨c, e0, l, ws, rfl, c1, c2, c3⟩
        · refine ⟨_, rfl, rfl, _, rfl, ?_⟩
          refine iteF ⟨_, (by omega : rs.length - (i + 1) < _), rfl, hlt, ⟨_, rfl⟩, s4, hD3, nD2, ?_⟩
          rw [et, e0]
          simpa using pf
        · refine ⟨_, rfl, rfl, _, rfl, ?_⟩
          have lD2 : V.ref l ≠ V.ref D2 := fun z => by cases z; rw [c2] at hD22; cases hD22
          have kt : KT2 H' (upd H' D2 (.lst (fs ++ [.ref l]))) := kt_but hD3 (fun xs z => by cases z) fun b o n e => by rw [upd_ne n]; exact e
          have kl : ∀ b xs, V.ref b ≠ V.ref D2 → H' b = some (.lst xs) → upd H' D2 (.lst (fs ++ [.ref l])) b = some (.lst xs) := fun b xs n e => by rw [upd_ne fun z => n (by rw [z])]; exact e
          refine iteT ⟨_, rfl, hD3, _, (by omega : rs.length - (i + 1) < _), rfl, hlt, ⟨_, rfl⟩, s4.again hD22, upd_same, fun z => ?_, ?_⟩
          · rcases List.mem_append.mp z with q | q
            · exact nD2 q
            · exact lD2 (List.mem_singleton.mp q).symm
          · rw [et, e0]
            exact paired_append (chn_keep kt pf fun b xs hb e => kl b xs (fun z => nD2 (z ▸ hb)) e) (.cons ⟨l, ws, rfl, c1, kl _ _ lD2 (s4 _ _ c2), nds_kt ((kt_same s4).trans kt) c3⟩ .nil)
      · have ei : i = rs.length := by omega
        refine .inl ⟨(gives_list (SqL.of (s4 _ _ hD2))).stop _ (by omega), ?_⟩
        rw [ei, lrs, List.take_length] at pf
        have S4 : Same H H3 := S3.trans s4
        obtain ⟨qn, qs⟩ := q js L ndj mj pwj permL pwL
        refine ⟨D2, fs, (L.filterMap (theRing (bhF js))).map List.length, rfl, SqL.of hD3, ?_, fun v hv => ?_⟩
        · exact chn_ln pf
        · rcases hv with ⟨e0, rfl⟩ | ⟨i, n, h1, h2, h3⟩
          · refine qn ?_ H3 S4
            have := prs_len pf
            rw [e0] at this
            exact List.length_eq_zero_iff.mp this.symm
          · rw [List.getElem?_map] at h2
            obtain ⟨c, hc, rfl⟩ := Option.map_eq_some_iff.mp h2
            obtain ⟨c', hc', l, ws, rfl, c1, c2, c3⟩ := paired_get pf h1
            rw [hc] at hc'
            cases hc'
            refine qs c ⟨i, hc, fun j m hm => ?_⟩ l ws H3 c1 S4 c2 c3
            exact h3 j m.length (by rw [List.getElem?_map, hm]; rfl)
theorem ok_Lnexts (T : Tx K mg) : FnOk P w K mg base CX0 1 T.f_Lnexts T.d_Lnexts ["_law_nodes_here", "_law_pairs_here"] (spNexts K) := by
  refine T.F_Lnexts.ok sc_Lnexts (fun vs H Q E h => ?_) (fun cdv A outer s H vs Q E hr h => ?_)
  · obtain ⟨a, b, nv, ew, ns, E, rfl, _⟩ := h
    rfl
  · obtain ⟨a, b, nv, ew, ns, Ed, rfl, hA, hN, nd, few, hB, hP, fewE, hin, q⟩ := h
    have hu := hu_of hr
    refine ⟨_, (pss_cons (ps_set (i := 2) sc_Lnexts.nd rfl (Or.inl rfl) pe_dnewT)
      (pss_cons (ps_for PassesOwn.never rfl (pi_list (pv 0)) (pg_name (i := 3) sc_Lnexts.nd rfl (Or.inl rfl))
      (pss_one (ps_dput hu (pv 2) (pv 3) (pe_lst pa_nil) rfl)))
      (pss_cons (ps_for PassesOwn.never rfl (pi_list (pv 1)) (pg_tup rfl (pgs_cons (pg_name (i := 4) sc_Lnexts.nd rfl (Or.inl rfl)) (pgs_cons (pg_name (i := 5) sc_Lnexts.nd rfl (Or.inl rfl)) pgs_nil)))
      (pss_one (ps_if (pt_cmpR (op_ninN (K := K) (u16 hr.units) rfl) (pv 5) (pe_dget hu (pv 2) (pv 4) (fun _ _ => rfl)) rfl)
      (pss_one (ps_expr (pe_bm PySem.F.plainAttrs_list PySem.F.slot_list_append PySem.F.type_list_append mt_appendA (pe_dget hu (pv 2) (pv 4) (fun _ _ => rfl)) (pa_cons (pv 5) pa_nil))))
      pss_nil)))
      (pss_one (ps_ret (pv 2)))))), ?_⟩
    intro d hd
    have s0 := Same.upd (o := HO.dT []) hd
    refine ⟨_, rfl, a, rfl, ⟨_, s0.seq hA⟩, for_list (K := K) (a := a) (xs := nv) (fun i σ H3 => ∃ (x3 x4 x5 : Option V) (kvs : List (List Key × V)), σ = [some (.ref a), some (.ref b), some (.ref d), x3, x4, x5] ∧ Same H H3 ∧ H3 d = some (.dT kvs) ∧ BD H H3 kvs (ns.take i) (fun _ => []))
      ⟨none, none, none, [], rfl, s0, upd_same, .nil, List.nodup_nil⟩ (fun i σ H3 _ ⟨_, _, _, _, _, h, _⟩ => h.seq hA) ?_ ?_⟩
    · rintro i y σ H3 hy ⟨x3, x4, x5, kvs, rfl, s3, hd3, bd3⟩
      obtain ⟨n, en, kn⟩ := paired_get hN hy
      obtain ⟨nb, rfl, enb⟩ := nd_key (nd_same s3 kn)
      refine ⟨(by show 0 ≤ sizeLine; decide), fun l hl => ?_⟩
      have s4 := Same.upd (o := HO.lst []) hl
      have lk : kvs.length < sizeLine := by
        have := prs_len bd3.1
        rw [List.length_take] at this
        have : sizeLine = 2 ^ 24 := rfl
        omega
      refine ⟨_, rfl, _, rfl, d, _, rfl, DPut.t (v := .ref l) (s4 _ _ hd3) (s4 _ _ enb) lk, ?_⟩
      rw [put_newT (keys_ne (fun _ _ z => z.1) bd3.1 (take_new nd en))]
      have ld : l ≠ d := fun z => by rw [z, hd3] at hl; cases hl
      have k5 : ∀ b o, b ≠ d → upd H3 l (.lst []) b = some o → upd (upd H3 l (.lst [])) d (.dT (kvs ++ [(kN n, .ref l)])) b = some o := fun b o n e => by rw [upd_ne n]; exact e
      have kt5 : KT2 H3 (upd (upd H3 l (.lst [])) d (.dT (kvs ++ [(kN n, .ref l)]))) := (kt_same s4).trans (kt_but (s4 _ _ hd3) (fun xs z => by cases z) k5)
      refine ⟨_, _, _, _, rfl, (s3.trans s4).again hd, upd_same, ?_, ?_⟩
      · rw [List.take_add_one, en]
        refine paired_append (Paired.mapP bd3.1 fun q m ⟨e1, l', ws, e2, e3, e4, e5⟩ => ⟨e1, l', ws, e2, e3, k5 _ _ (fun z => by rw [z, hd3] at e4; cases e4) (s4 _ _ e4), nds_kt kt5 e5⟩) (.cons ⟨rfl, l, [], rfl, s3.free hl, k5 _ _ ld upd_same, .nil⟩ .nil)
      · rw [List.map_append]
        refine List.nodup_append.mpr ⟨bd3.2, List.nodup_cons.mpr ⟨by simp, List.nodup_nil⟩, fun x hx y hy e => ?_⟩
        obtain ⟨q0, hq0, rfl⟩ := List.mem_map.mp hx
        obtain ⟨j, hj⟩ := List.mem_iff_getElem?.mp hq0
        obtain ⟨_, _, _, l', ws', e2, _, e4, _⟩ := paired_get bd3.1 hj
        rw [List.mem_singleton.mp hy, e2] at e
        cases e
        rw [hl] at e4
        cases e4
    · rintro σ H3 ⟨x3, x4, x5, kvs, rfl, s3, hd3, bd3⟩
      rw [show nv.length = ns.length from prs_len hN, List.take_length] at bd3
      refine ⟨_, rfl, b, rfl, ⟨_, s3.seq hB⟩, for_list (K := K) (a := b) (xs := ew) (fun i σ H5 => ∃ (x3 x4 x5 : Option V) (X : Wn), σ = [some (.ref a), some (.ref b), some (.ref d), x3, x4, x5] ∧ Same H H5 ∧ H5 d = some (.dT kvs) ∧ BD H H5 kvs ns X ∧ (∀ n, (X n).length ≤ i) ∧ ∀ n y, y ∈ X n ↔ (n, y) ∈ Ed.take i)
        ⟨_, _, _, _, rfl, s3, hd3, bd3, fun _ => Nat.le_refl _, fun n y => by simp⟩ (fun i σ H5 _ ⟨_, _, _, _, _, h, _⟩ => h.seq hB) ?_ ?_⟩
      · rintro i x σ H5 hx ⟨y3, y4, y5, X, rfl, s5, hd5, bd5, lX, mX⟩
        have hi : i < 60 := by
          have := (List.getElem?_eq_some_iff.mp hx).1
          have := prs_len hP
          omega
        obtain ⟨k, ek, kx⟩ := paired_get (prs_same s5 hP) hx
        obtain ⟨p, u, u', rfl, ep, hu1, hu2⟩ := kx
        obtain ⟨in1, in2⟩ := hin k (List.mem_of_getElem? ek)
        obtain ⟨q0, mq0, vq0, kq0, l0, ws, el0, nl0, hl0, nds0⟩ := val_paired (α := Nat) (fun _ _ z => z.1) bd5.1 in1
        obtain ⟨p1, rfl, ep1⟩ := nd_key hu1
        have tk : Ed.take (i + 1) = Ed.take i ++ [k] := by rw [List.take_add_one, ek]; rfl
        have dg : DGet H5 d (.ref p1) (some (.ref l0)) := .inr ⟨kvs, kN k.1, p1, .inl hd5, rfl, ep1, by rw [vq0, el0]⟩
        refine ⟨p, [V.ref p1, u'], rfl, SqT.of ep, rfl, _, _, rfl, _, _, rfl, rfl, ?_⟩
        refine ⟨_, rfl, _, rfl, _, rfl, d, .ref l0, rfl, dg, l0, ws, X k.1, k.2, rfl, SqL.of hl0, nds0, hu2, _, rfl, ite2 (fun e => ?_) (fun e => ?_)⟩
        · have hnew : k.2 ∉ X k.1 := fun z => by
            have e' : (!decide (k.2 ∈ X k.1)) = true := e
            rw [decide_eq_true z] at e'
            cases e'
          refine ⟨_, rfl, _, rfl, d, .ref l0, rfl, dg, Or.inl ⟨rfl, _, SqL.of hl0⟩, _, rfl, l0, ws, u', rfl, rfl, hl0, ?_, fun H6 h6 k6 => ?_⟩
          · have e1 := prs_len nds0
            have := lX k.1
            have : sizeLine = 2 ^ 24 := rfl
            omega
          have kt6 : KT2 H5 H6 := kt_but hl0 (fun xs z => by cases z) k6
          refine ⟨_, _, _, _, rfl, fun b o e => k6 b o (fun z => by rw [z, nl0] at e; cases e) (s5 b o e), k6 _ _ (fun z => by rw [z, hl0] at hd5; cases hd5) hd5, ⟨br_app kt6 k6 hl0 h6 hu2 bd5.1 nd bd5.2 (by rw [vq0, el0]), bd5.2⟩, fun n => ?_, fun n y => ?_⟩
          · split
            · rw [List.length_append]
              have := lX n
              simp only [List.length_singleton]
              omega
            · exact Nat.le_succ_of_le (lX n)
          · rw [tk, List.mem_append, ← mX]
            split
            · next e1 =>
              subst e1
              rw [List.mem_append, List.mem_singleton, List.mem_singleton]
              exact or_congr Iff.rfl ⟨fun z => by rw [z], fun z => by rw [← z]⟩
            · next e1 =>
              exact ⟨.inl, fun z => z.elim id fun w => absurd (by rw [← List.mem_singleton.mp w]) e1⟩
        · have hold : k.2 ∈ X k.1 := Classical.byContradiction fun z => e (by
            show (!decide (k.2 ∈ X k.1)) = true
            rw [decide_eq_false z]
            rfl)
          refine ⟨_, _, _, X, rfl, s5, hd5, bd5, fun n => Nat.le_succ_of_le (lX n), fun n y => ?_⟩
          rw [tk, List.mem_append, ← mX]
          exact ⟨.inl, fun z => z.elim id fun w => by rw [← List.mem_singleton.mp w] at hold; exact hold⟩
      · rintro σ H5 ⟨y3, y4, y5, X, rfl, s5, hd5, bd5, lX, mX⟩
        rw [show ew.length = Ed.length from prs_len hP, List.take_length] at mX
        exact ⟨_, rfl, q d kvs X H5 hd s5 hd5 bd5.fd mX⟩
theorem ok_Lwalks (T : Tx K mg) : FnOk P w K mg base CX0 1 T.f_Lwalks T.d_Lwalks ["_law_nodes_here", "_law_nexts_here", "_law_many"] (spWalks K) := by
  refine T.F_Lwalks.ok sc_Lwalks (fun vs H Q E h => ?_) (fun cdv A outer s H vs Q E hr h => ?_)
  · obtain ⟨a, d, m, nv, ns, kvs, X, rfl, _⟩ := h
    rfl
  · obtain ⟨a, d, m, nv, ns, kvs, X, rfl, hA, hN, nd, few, hd, hF, hX, hm, q⟩ := h
    have hu := hu_of hr
    refine ⟨_, (pss_cons (ps_set (i := 3) sc_Lwalks.nd rfl (Or.inl rfl) (pe_lst (pa_cons pe_dnewT pa_nil)))
      (pss_cons (ps_for PassesOwn.never rfl (pi_list (pv 0)) (pg_name (i := 4) sc_Lwalks.nd rfl (Or.inl rfl))
      (pss_one (ps_dput hu (pe_ix ix_list (pv 3) pe_int (fun _ _ => rfl)) (pv 4) (pe_dispT1 hr.units (pv 4) pe_bl) rfl)))
      (pss_cons (ps_for PassesOwn.never rfl (pi_range1 rfl T.z_range (pa_cons (pv 2) pa_nil)) (pg_name (i := 5) sc_Lwalks.nd rfl (Or.inl rfl))
      (pss_cons (ps_set (i := 6) sc_Lwalks.nd rfl (Or.inl rfl) pe_dnewT)
      (pss_cons (ps_for PassesOwn.never rfl (pi_list (pv 0)) (pg_name (i := 4) sc_Lwalks.nd rfl (Or.inl rfl))
      (pss_cons (ps_set (i := 7) sc_Lwalks.nd rfl (Or.inl rfl) pe_dnewT)
      (pss_cons (ps_for PassesOwn.never rfl (pi_keysT (pe_dget hu (pe_ix ix_list (pv 3) (pv 5) (fun _ _ => rfl)) (pv 4) (fun _ _ => rfl))) (pg_name (i := 8) sc_Lwalks.nd rfl (Or.inl rfl))
      (pss_one (ps_for PassesOwn.never rfl (pi_list (pe_dget hu (pv 1) (pv 8) (fun _ _ => rfl))) (pg_name (i := 9) sc_Lwalks.nd rfl (Or.inl rfl))
      (pss_one (ps_dput hu (pv 7) (pv 9) pe_bl rfl)))))
      (pss_one (ps_dput hu (pv 6) (pv 4) (pv 7) rfl)))))
      (pss_one (ps_expr (pe_bm PySem.F.plainAttrs_list PySem.F.slot_list_append PySem.F.type_list_append mt_appendA (pv 3) (pa_cons (pv 6) pa_nil)))))))
      (pss_one (ps_ret (pv 3)))))), ?_⟩
    have lnv : nv.length = ns.length := prs_len hN
    have z24 : sizeLine = 2 ^ 24 := rfl
    intro t0 ht0
    have s0 := Same.upd (o := HO.dT []) ht0
    refine ⟨(by show 1 ≤ sizeLine; decide), fun tl htl => ?_⟩
    have s1 := Same.upd (o := HO.lst [V.ref t0]) htl
    have tlt : tl ≠ t0 := fun z => by rw [z, upd_same] at htl; cases htl
    have ntl : H tl = none := s0.free htl
    refine ⟨_, rfl, a, rfl, ⟨_, (s0.trans s1).seq hA⟩, for_list (K := K) (a := a) (xs := nv) (fun i σ H3 => ∃ (x4 x5 x6 x7 x8 x9 : Option V) (kv0 : List (List Key × V)), σ = [some (.ref a), some (.ref d), some (.int m), some (.ref tl), x4, x5, x6, x7, x8, x9] ∧ Same H H3 ∧ H3 tl = some (.lst [.ref t0]) ∧ H3 t0 = some (.dT kv0) ∧ TP H H3 X 0 kv0 (ns.take i) ∧ V.ref t0 ∉ kv0.map (·.2))
      ⟨none, none, none, none, none, none, [], rfl, s0.trans s1, upd_same, s1 _ _ upd_same, .nil, by simp⟩ (fun i σ H3 _ ⟨_, _, _, _, _, _, _, _, h, _⟩ => h.seq hA) ?_ ?_⟩
    · rintro i y σ H3 hy ⟨x4, x5, x6, x7, x8, x9, kv0, rfl, s3, hl3, ht3, tp3, nt3⟩
      obtain ⟨n, en, kn⟩ := paired_get hN hy
      obtain ⟨nb, rfl, enb⟩ := nd_key (nd_same s3 kn)
      intro p hp
      have s4 := Same.upd (o := HO.dT []) hp
      refine ⟨_, rfl, upd_same, kN n, nb, rfl, s4 _ _ enb, ?_⟩
      have s5 : Same H3 (upd (upd H3 p (.dT [])) p (.dT [(kN n, V.bl true)])) := s4.again hp
      have hp5 : upd (upd H3 p (.dT [])) p (.dT [(kN n, V.bl true)]) p = some (.dT (metT [n])) := upd_same
      generalize upd (upd H3 p (.dT [])) p (.dT [(kN n, V.bl true)]) = H5 at s5 hp5
      have lk : kv0.length < sizeLine := by
        have := prs_len tp3
        rw [List.length_take] at this
        omega
      refine ⟨_, rfl, tl, _, _, _, rfl, rfl, SqL.of (s5 _ _ hl3), rfl, _, rfl, t0, _, rfl, DPut.t (v := .ref p) (s5 _ _ ht3) (s5 _ _ enb) lk, ?_⟩
      rw [put_newT (keys_ne (fun _ _ z => z.1) tp3 (take_new nd en))]
      have pt : p ≠ t0 := fun z => by rw [z, ht3] at hp; cases hp
      have k6 : ∀ b o, b ≠ t0 → H5 b = some o → upd H5 t0 (.dT (kv0 ++ [(kN n, .ref p)])) b = some o := fun b o n e => by rw [upd_ne n]; exact e
      refine ⟨_, _, _, _, _, _, _, rfl, (s3.trans s5).again ht0, k6 _ _ tlt (s5 _ _ hl3), upd_same, ?_, fun z => ?_⟩
      · rw [List.take_add_one, en]
        refine paired_append (tp3.rk fun l o hl r => rd_but k6 (fun z => nt3 (z ▸ hl)) (r.imp (fun e => s5 _ _ e) fun ⟨ob, e⟩ => ⟨ob, s5 _ _ e⟩)) (.cons ⟨rfl, p, [n], rfl, s3.free hp, .inl (k6 _ _ pt hp5), by simp, fun y => ?_⟩ .nil)
        rw [wk_zero, List.mem_singleton]
      · rw [List.map_append] at z
        rcases List.mem_append.mp z with w | w
        · exact nt3 w
        · exact pt (V.ref.inj (List.mem_singleton.mp w)).symm
    rintro σ H3 ⟨x4, x5, x6, x7, x8, x9, kv0, rfl, s3, hl3, ht3, tp3, nt3⟩
    rw [lnv, List.take_length] at tp3
    refine ⟨_, rfl, _, rfl, by omega, by omega, ?_⟩
    refine for_range (fun k σ H4 => ∃ (x4 x5 x6 x7 x8 x9 : Option V) (tvs : List V), σ = [some (.ref a), some (.ref d), some (.int m), some (.ref tl), x4, x5, x6, x7, x8, x9] ∧ Same H H4 ∧ H4 tl = some (.lst tvs) ∧ tvs.length = k + 1 ∧ ∀ (i : Nat) v, tvs[i]? = some v → TR H H4 X ns i v)
      ⟨_, _, _, _, _, _, [.ref t0], rfl, s3, hl3, rfl, fun i v e => ?_⟩ ?_ ?_
    · cases i with
      | zero =>
        cases e
        exact ⟨t0, kv0, rfl, ht0, .inl ht3, tp3⟩
      | succ i => simp at e
    · rintro k σ Hk hk ⟨y4, y5, y6, y7, y8, y9, tvs, rfl, sk, hlk, ltk, trk⟩
      have hk12 : k < 12 := by
        have : ((m : Int)).toNat = m := Int.toNat_natCast m
        omega
      intro t2 ht2
      have s2 := Same.upd (o := HO.dT []) ht2
      have nt2 : H t2 = none := sk.free ht2
      refine ⟨_, rfl, a, rfl, ⟨_, (sk.trans s2).seq hA⟩, for_list (K := K) (a := a) (xs := nv) (fun i σ H4 => ∃ (x4 x7 x8 x9 : Option V) (kv2 : List (List Key × V)), σ = [some (.ref a), some (.ref d), some (.int m), some (.ref tl), x4, some (.int (0 + (k : Int))), some (.ref t2), x7, x8, x9] ∧ Same H H4 ∧ Sf Hk H4 ∧ H4 t2 = some (.dT kv2) ∧ TP H H4 X (k + 1) kv2 (ns.take i) ∧ V.ref t2 ∉ kv2.map (·.2))
        ⟨_, _, _, _, [], rfl, sk.trans s2, Sf.of s2, upd_same, .nil, by simp⟩ (fun i σ H3 _ ⟨_, _, _, _, _, _, h, _⟩ => h.seq hA) ?_ ?_⟩
      · rintro i y σ H4 hy ⟨z4, z7, z8, z9, kv2, rfl, s4, f4, ht4, tp4, nt4⟩
        obtain ⟨n, en, kn⟩ := paired_get hN hy
        obtain ⟨nb, rfl, enb⟩ := nd_key (nd_same s4 kn)
        have nU : n ∈ ns := List.mem_of_getElem? en
        intro th hth
        have s5 := Same.upd (o := HO.dT []) hth
        have nth : H th = none := s4.free hth
        obtain ⟨tv, etv⟩ : ∃ tv, tvs[k]? = some tv := ⟨_, List.getElem?_eq_getElem (by omega)⟩
        obtain ⟨tk, kvk, l, ds, rfl, rtk, evk, nl, rl, ndd, mds⟩ := (trk k tv etv).get nU
        have atk : atI tvs (0 + (k : Int)) = some (.ref tk) := by rw [Int.zero_add]; exact atI_nat etv
        have tht : th ≠ t2 := fun z => by rw [z, ht4] at hth; cases hth
        have lth : l ≠ th := fun z => rd_some (f4.rd rl) (z ▸ hth)
        have lt2 : l ≠ t2 := fun z => rd_some rl (z ▸ ht2)
        have rl5 : Rd (upd H4 th (.dT [])) l (.dT (metT ds)) := (Sf.of s5).rd (f4.rd rl)
        refine ⟨_, rfl, _, rfl, tl, _, _, _, rfl, rfl, SqL.of (s5 _ _ (f4.lst hlk)), atk, _, rfl, tk, .ref l, rfl, .inr ⟨kvk, kN n, nb, (Sf.of s5).rd (f4.rd rtk), rfl, s5 _ _ enb, by rw [evk]⟩, l, metT ds, rfl, rl5, fun ob H5 h5 k5 n5 => ?_⟩
        refine for_keysT (fun j σ H6 => ∃ (x8 x9 : Option V) (es : List Nk), σ = [some (.ref a), some (.ref d), some (.int m), some (.ref tl), some (.ref nb), some (.int (0 + (k : Int))), some (.ref t2), some (.ref th), x8, x9] ∧ Same H H6 ∧ Sf H4 H6 ∧ H6 t2 = some (.dT kv2) ∧ H6 l = some (.frz ob (.dT (metT ds))) ∧ H6 th = some (.dT (metT es)) ∧ es.Nodup ∧ ∀ y, y ∈ es ↔ ∃ m' ∈ ds.take j, y ∈ X m')
          ⟨_, _, [], rfl, (fun b o e => k5 b o (fun z => by rw [z, nl] at e; cases e) (s5 _ _ (s4 _ _ e))), (Sf.of s5).trans (Sf.hold rl5 h5 k5), k5 _ _ (Ne.symm lt2) (s5 _ _ ht4), h5, k5 _ _ (Ne.symm lth) upd_same, List.nodup_nil, fun y => by simp⟩ (fun j σ H6 ⟨_, _, _, _, _, _, _, h, _⟩ => h) ?_ ?_
        · rintro j kk x mb σ H6 hj hmb ⟨v8, v9, es, rfl, s6, f6, ht6, hl6, hh6, nde, mes⟩
          obtain ⟨m', em', rfl⟩ := metT_get hj
          have mU : m' ∈ ns := wk_in hX ((mds m').mp (List.mem_of_getElem? em')) nU
          obtain ⟨fl, ws, ev, hfl, nfl⟩ := hF.get mU
          have lws : ws.length = (X m').length := prs_len nfl
          refine ⟨_, rfl, _, rfl, d, .ref fl, rfl, .inr ⟨kvs, kN m', mb, .inl (s6 _ _ hd), rfl, hmb, by rw [ev]⟩, fl, rfl, ⟨_, SqL.of (s6 _ _ hfl)⟩, for_list (K := K) (a := fl) (xs := ws) (fun j2 σ H7 => ∃ (x9 : Option V) (es : List Nk), σ = [some (.ref a), some (.ref d), some (.int m), some (.ref tl), some (.ref nb), some (.int (0 + (k : Int))), some (.ref t2), some (.ref th), some (.ref mb), x9] ∧ Same H H7 ∧ Sf H4 H7 ∧ H7 t2 = some (.dT kv2) ∧ H7 l = some (.frz ob (.dT (metT ds))) ∧ H7 th = some (.dT (metT es)) ∧ es.Nodup ∧ ∀ y, y ∈ es ↔ (∃ m' ∈ ds.take j, y ∈ X m') ∨ y ∈ (X m').take j2)
            ⟨_, es, rfl, s6, f6, ht6, hl6, hh6, nde, fun y => by rw [mes]; simp⟩ (fun j2 σ H7 _ ⟨_, _, _, h, _⟩ => SqL.of (h _ _ hfl)) ?_ ?_⟩
          · rintro j2 y σ H7 hy ⟨w9, es, rfl, s7, f7, ht7, hl7, hh7, nde, mes⟩
            obtain ⟨z, ez, kz⟩ := paired_get (nds_kt (kt_same s7) nfl) hy
            obtain ⟨zb, rfl, ezb⟩ := nd_key kz
            have les : es.length ≤ 12 := Nat.le_trans (nodup_len nde (U := ns) fun x hx => ((mes x).mp hx).elim (fun ⟨_, _, h⟩ => hX _ _ h) fun h => hX _ _ (List.mem_of_mem_take h)) few
            refine ⟨_, rfl, _, rfl, th, _, rfl, DPut.t (v := .bl true) hh7 ezb (by rw [metT_len]; omega), ?_⟩
            have tk2 : (X m').take (j2 + 1) = (X m').take j2 ++ [z] := by rw [List.take_add_one, ez]; rfl
            have k8 : ∀ (kv : List (List Key × V)) b o, b ≠ th → H7 b = some o → upd H7 th (.dT kv) b = some o := fun kv b o n e => by rw [upd_ne n]; exact e
            by_cases hz : z ∈ es
            · rw [metT_again hz]
              refine ⟨_, es, rfl, s7.again nth, f7.again hth, k8 _ _ _ (Ne.symm tht) ht7, k8 _ _ _ lth hl7, upd_same, nde, fun y => ?_⟩
              rw [tk2, List.mem_append, List.mem_singleton, ← or_assoc, ← mes]
              exact ⟨.inl, fun h => h.elim id fun e => e ▸ hz⟩
            · rw [metT_put hz]
              refine ⟨_, es ++ [z], rfl, s7.again nth, f7.again hth, k8 _ _ _ (Ne.symm tht) ht7, k8 _ _ _ lth hl7, upd_same, ?_, fun y => ?_⟩
              · exact List.nodup_append.mpr ⟨nde, by simp, fun x hx y hy e => hz (by rw [← List.mem_singleton.mp hy, ← e]; exact hx)⟩
              · rw [tk2, List.mem_append, List.mem_singleton, List.mem_append, List.mem_singleton, ← or_assoc, ← mes]
          · rintro σ H7 ⟨w9, es, rfl, s7, f7, ht7, hl7, hh7, nde, mes⟩
            rw [lws, List.take_length] at mes
            refine ⟨_, _, es, rfl, s7, f7, ht7, hl7, hh7, nde, fun y => ?_⟩
            rw [mes, List.take_add_one, em']
            constructor
            · rintro (⟨x, hx, h⟩ | h)
              · exact ⟨x, List.mem_append_left _ hx, h⟩
              · exact ⟨m', List.mem_append_right _ List.mem_cons_self, h⟩
            · rintro ⟨x, hx, h⟩
              rcases List.mem_append.mp hx with z | z
              · exact .inl ⟨x, z, h⟩
              · have : x = m' := List.mem_singleton.mp z
                exact .inr (this ▸ h)
        · rintro σ H6 ⟨v8, v9, es, rfl, s6, f6, ht6, hl6, hh6, nde, mes⟩
          rw [metT_len, List.take_length] at mes
          have lk : kv2.length < sizeLine := by
            have := prs_len tp4
            rw [List.length_take] at this
            omega
          refine ⟨_, rfl, _, rfl, _, rfl, t2, _, rfl, DPut.t (v := .ref th) ht6 (f6.kt _ _ enb) lk, ?_⟩
          rw [put_newT (keys_ne (fun _ _ z => z.1) tp4 (take_new nd en))]
          have k8 : ∀ b o, b ≠ t2 → H6 b = some o → upd H6 t2 (.dT (kv2 ++ [(kN n, .ref th)])) b = some o := fun b o n e => by rw [upd_ne n]; exact e
          refine ⟨_, _, _, _, _, rfl, s6.again nt2, (f4.trans f6).again ht2, upd_same, ?_, fun z => ?_⟩
          · rw [List.take_add_one, en]
            refine paired_append ((tp4.sf f6).rk fun l' o hl' r => rd_but k8 (fun z => nt4 (z ▸ hl')) r) (.cons ⟨rfl, th, es, rfl, nth, .inl (k8 _ _ tht hh6), nde, fun y => ?_⟩ .nil)
            rw [mes, wk_succ]
            exact ⟨fun ⟨x, hx, h⟩ => ⟨x, (mds x).mp hx, h⟩, fun ⟨x, hx, h⟩ => ⟨x, (mds x).mpr hx, h⟩⟩
          · rw [List.map_append] at z
            rcases List.mem_append.mp z with w | w
            · exact nt4 w
            · exact tht (V.ref.inj (List.mem_singleton.mp w)).symm
      · rintro σ H4 ⟨z4, z7, z8, z9, kv2, rfl, s4, f4, ht4, tp4, nt4⟩
        rw [lnv, List.take_length] at tp4
        have hl4 := f4.lst hlk
        refine ⟨_, rfl, Or.inl ⟨rfl, _, SqL.of hl4⟩, _, rfl, tl, tvs, .ref t2, rfl, rfl, hl4, (by omega), fun H6 h6 k6 => ?_⟩
        have rk : ∀ b kvs, Rd H4 b (.dT kvs) → Rd H6 b (.dT kvs) := fun b kvs r => rd_but k6 (fun z => by rw [z] at r; rcases r with e | ⟨_, e⟩ <;> (rw [hl4] at e; cases e)) r
        refine ⟨_, _, _, _, _, _, tvs ++ [.ref t2], rfl, (fun b o e => k6 b o (fun z => by rw [z, ntl] at e; cases e) (s4 b o e)), h6, by rw [List.length_append, ltk]; rfl, fun i v e => ?_⟩
        by_cases hi : i < tvs.length
        · rw [List.getElem?_append_left hi] at e
          obtain ⟨t, kvs', e1, e2, e3, e4⟩ := (trk i v e).sf f4
          exact ⟨t, kvs', e1, e2, rk _ _ e3, Paired.mapP e4 fun _ _ ⟨a1, l, ds, a2, a3, a4, a5⟩ => ⟨a1, l, ds, a2, a3, rk _ _ a4, a5⟩⟩
        · rw [List.getElem?_append_right (by omega)] at e
          have hj : i = k + 1 := by
            have := (List.getElem?_eq_some_iff.mp e).1
            simp only [List.length_singleton] at this
            omega
          subst hj
          rw [ltk, Nat.sub_self] at e
          cases e
          exact ⟨t2, kv2, rfl, nt2, rk _ _ (.inl ht4), Paired.mapP tp4 fun _ _ ⟨a1, l, ds, a2, a3, a4, a5⟩ => ⟨a1, l, ds, a2, a3, rk _ _ a4, a5⟩⟩
    · rintro σ H4 ⟨y4, y5, y6, y7, y8, y9, tvs, rfl, s4, hl4, lt4, tr4⟩
      exact ⟨_, rfl, q tl tvs H4 ntl s4 hl4 (by rw [lt4]; simp) tr4⟩
theorem ok_Lnone (T : Tx K mg) : FnOk P w K mg base CX0 2 T.f_Lnone T.d_Lnone ["_law_nodes_here", "_law_nexts_here"] (spNone K) := by
  refine T.F_Lnone.ok sc_Lnone (fun vs H Q E h => ?_) (fun cdv A outer s H vs Q E hr h => ?_)
  · obtain ⟨a, d, nv, ns, kvs, X, rfl, _⟩ := h
    rfl
  · obtain ⟨a, d, nv, ns, kvs, X, rfl, hA, hN, nd, few, hd, hF, hX, no, q⟩ := h
    have hu := hu_of hr
    refine ⟨_, (pss_cons (ps_set (i := 2) sc_Lnone.nd rfl (Or.inl rfl) (pe_call ((ok_Lwalks T).mono (by decide)) hr rfl T.m_Lwalks T.F_Lwalks.kp T.b_Lwalks .nil pass0 (pa_cons (pv 0) (pa_cons (pv 1) (pa_cons (pe_callB call_len (by rfl) T.z_len boot_len (pa_cons (pv 0) pa_nil)) pa_nil)))))
      (pss_cons (ps_for PassesOwn.never rfl (pi_range2 rfl T.z_range (pa_cons pe_int (pa_cons (pe_op op_add (pe_callB call_len (by rfl) T.z_len boot_len (pa_cons (pv 0) pa_nil)) pe_int) pa_nil))) (pg_name (i := 3) sc_Lnone.nd rfl (Or.inl rfl))
      (pss_one (ps_for PassesOwn.never rfl (pi_list (pv 0)) (pg_name (i := 4) sc_Lnone.nd rfl (Or.inl rfl))
      (pss_one (ps_if (pt_cmp (pc_din hu (pv 4) (pe_dget hu (pe_ix ix_list (pv 2) (pv 3) (fun _ _ => rfl)) (pv 4) (fun _ _ => rfl))))
      (pss_one (ps_ret pe_bl))
      pss_nil)))))
      (pss_one (ps_ret pe_bl)))), ?_⟩
    have lnv : nv.length = ns.length := prs_len hN
    refine ⟨_, rfl, _, rfl, _, rfl, _, _, rfl, .inl ⟨_, hA, rfl⟩, a, d, nv.length, nv, ns, kvs, X, rfl, hA, hN, nd, few, hd, hF, hX, by omega, fun tl tvs H1 htl s1 h1 lt tr => ?_⟩
    have hA1 := s1.seq hA
    have hN1 := nds_kt (kt_same s1) hN
    refine ⟨_, rfl, _, _, rfl, .inl ⟨_, hA1, rfl⟩, _, _, rfl, rfl, 1, ((nv.length : Int) + 1), rfl, ⟨by omega, by omega, by omega, by omega⟩, ?_⟩
    refine for_range (fun i σ H2 => ∃ x3 x4 : Option V, σ = [some (.ref a), some (.ref d), some (.ref tl), x3, x4] ∧ H2 = H1) ⟨none, none, rfl, rfl⟩ ?_ ?_
    · rintro i σ H2 hi ⟨x3, x4, rfl, rfl⟩
      have hi' : i < nv.length := by omega
      refine ⟨_, rfl, a, rfl, ⟨_, hA1⟩, for_list (K := K) (a := a) (xs := nv) (fun j σ H3 => ∃ x4 : Option V, σ = [some (.ref a), some (.ref d), some (.ref tl), some (.int (1 + (i : Int))), x4] ∧ H3 = H2) ⟨_, rfl, rfl⟩ (fun j σ H3 _ ⟨_, _, h⟩ => h ▸ hA1) ?_ ?_⟩
      · rintro j y σ H3 hy ⟨y4, rfl, rfl⟩
        obtain ⟨n, en, kn⟩ := paired_get hN1 hy
        obtain ⟨nb, rfl, enb⟩ := nd_key kn
        obtain ⟨t, l, o, g1, g2, g3, g4⟩ := tab_get (k := i + 1) tr (by omega) (List.mem_of_getElem? en) enb enb (no n (List.mem_of_getElem? en) i)
        rw [show (((i + 1 : Nat)) : Int) = 1 + (i : Int) by omega] at g1
        refine ⟨_, rfl, _, rfl, _, rfl, tl, _, _, _, rfl, rfl, SqL.of h1, g1, _, rfl, t, .ref l, rfl, g2, l, o, rfl, g3, _, rfl, ?_⟩
        rw [g4]
        exact iteF ⟨_, rfl, rfl⟩
      · rintro σ H3 ⟨y4, rfl, rfl⟩
        exact ⟨_, _, rfl, rfl⟩
    · rintro σ H2 ⟨x3, x4, rfl, rfl⟩
      exact q H2 s1
theorem ok_Lnoless (T : Tx K mg) : FnOk P w K mg base CX0 2 T.f_Lnoless T.d_Lnoless ["_law_nodes_here", "_law_nexts_here", "_law_chain"] (spNoLess K) := by
  refine T.F_Lnoless.ok sc_Lnoless (fun vs H Q E h => ?_) (fun cdv A outer s H vs Q E hr h => ?_)
  · obtain ⟨a, d, f, nv, cw, ns, c, st, kvs, X, rfl, _⟩ := h
    rfl
  · obtain ⟨a, d, f, nv, cw, ns, c, st, kvs, X, rfl, hA, hN, nd, few, hd, hF, hX, hf, hC, g, q⟩ := h
    have hu := hu_of hr
    refine ⟨_, (pss_cons (ps_set (i := 3) sc_Lnoless.nd rfl (Or.inl rfl) (pe_call ((ok_Lwalks T).mono (by decide)) hr rfl T.m_Lwalks T.F_Lwalks.kp T.b_Lwalks .nil pass0 (pa_cons (pv 0) (pa_cons (pv 1) (pa_cons (pe_callB call_len (by rfl) T.z_len boot_len (pa_cons (pv 2) pa_nil)) pa_nil)))))
      (pss_cons (ps_for PassesOwn.never rfl (pi_range2 rfl T.z_range (pa_cons pe_int (pa_cons (pe_callB call_len (by rfl) T.z_len boot_len (pa_cons (pv 2) pa_nil)) pa_nil))) (pg_name (i := 4) sc_Lnoless.nd rfl (Or.inl rfl))
      (pss_one (ps_for PassesOwn.never rfl (pi_list (pv 0)) (pg_name (i := 5) sc_Lnoless.nd rfl (Or.inl rfl))
      (pss_one (ps_if (pt_cmp (pc_din hu (pv 5) (pe_dget hu (pe_ix ix_list (pv 3) (pv 4) (fun _ _ => rfl)) (pv 5) (fun _ _ => rfl))))
      (pss_one (ps_ret pe_bl))
      pss_nil)))))
      (pss_cons (ps_for PassesOwn.never rfl (pi_list (pv 0)) (pg_name (i := 5) sc_Lnoless.nd rfl (Or.inl rfl))
      (pss_one (ps_if (PW.pt (pw_and (pt_cmpR (op_ltN (u16 hr.units)) (pv 5) (pe_ix ix_list (pv 2) pe_int (fun _ _ => rfl)) (nomark _)) (pw_and1 (pt_cmp (pc_din hu (pv 5) (pe_dget hu (pe_ix ix_list (pv 3) (pe_callB call_len (by rfl) T.z_len boot_len (pa_cons (pv 2) pa_nil)) (fun _ _ => rfl)) (pv 5) (fun _ _ => rfl)))))))
      (pss_one (ps_ret pe_bl))
      pss_nil)))
      (pss_cons (ps_for PassesOwn.never rfl (pi_range2 rfl T.z_range (pa_cons pe_int (pa_cons (pe_callB call_len (by rfl) T.z_len boot_len (pa_cons (pv 2) pa_nil)) pa_nil))) (pg_name (i := 4) sc_Lnoless.nd rfl (Or.inl rfl))
      (pss_one (ps_for PassesOwn.never rfl (pi_list (pe_dget hu (pv 1) (pe_ix ix_list (pv 2) (pe_op op_sub (pv 4) pe_int) (fun _ _ => rfl)) (fun _ _ => rfl))) (pg_name (i := 6) sc_Lnoless.nd rfl (Or.inl rfl))
      (pss_one (ps_if (PW.pt (pw_and (pt_cmpR (op_ltN (u16 hr.units)) (pv 6) (pe_ix ix_list (pv 2) (pv 4) (fun _ _ => rfl)) (nomark _)) (pw_and1 (pt_cmp (pc_din hu (pe_ix ix_list (pv 2) pe_int (fun _ _ => rfl)) (pe_dget hu (pe_ix ix_list (pv 3) (pe_op op_sub (pe_callB call_len (by rfl) T.z_len boot_len (pa_cons (pv 2) pa_nil)) (pv 4)) (fun _ _ => rfl)) (pv 6) (fun _ _ => rfl)))))))
      (pss_one (ps_ret pe_bl))
      pss_nil)))))
      (pss_one (ps_ret pe_bl)))))), ?_⟩
    have lnv : nv.length = ns.length := prs_len hN
    have lcw : cw.length = c.length := prs_len hC
    have g1 := g.two
    have g2 := g.few
    refine ⟨_, rfl, _, rfl, _, rfl, _, _, rfl, .inl ⟨_, SqL.of hf, rfl⟩, a, d, cw.length, nv, ns, kvs, X, rfl, hA, hN, nd, few, hd, hF, hX, by omega, fun tl tvs H1 htl s1 h1 lt tr => ?_⟩
    have hA1 := s1.seq hA
    have hf1 := s1 _ _ hf
    have hN1 := nds_kt (kt_same s1) hN
    have hC1 := nds_kt (kt_same s1) hC
    have hd1 := s1 _ _ hd
    have hF1 := hF.same s1
    obtain ⟨sv, esv, ksv⟩ : ∃ v, cw[0]? = some v ∧ NdV H1 v st := by
      have e0 : c[0]? = some st := by rw [← List.head?_eq_getElem?]; exact g.head
      exact paired_getR hC1 e0
    have at0 : atI cw 0 = some sv := atI_nat (j := 0) esv
    obtain ⟨sb, rfl, esb⟩ := nd_key ksv
    refine ⟨_, rfl, _, _, rfl, .inl ⟨_, SqL.of hf1, rfl⟩, 1, (cw.length : Int), rfl, ⟨by omega, by omega, by omega, by omega⟩, ?_⟩
    refine for_range (fun i σ H2 => ∃ x4 x5 x6 : Option V, σ = [some (.ref a), some (.ref d), some (.ref f), some (.ref tl), x4, x5, x6] ∧ H2 = H1) ⟨none, none, none, rfl, rfl⟩ ?_ ?_
    · rintro i σ H2 hi ⟨x4, x5, x6, rfl, rfl⟩
      refine ⟨_, rfl, a, rfl, ⟨_, hA1⟩, for_list (K := K) (a := a) (xs := nv) (fun j σ H3 => ∃ x5 x6 : Option V, σ = [some (.ref a), some (.ref d), some (.ref f), some (.ref tl), some (.int (1 + (i : Int))), x5, x6] ∧ H3 = H2) ⟨_, _, rfl, rfl⟩ (fun j σ H3 _ ⟨_, _, _, h⟩ => h ▸ hA1) ?_ ?_⟩
      · rintro j y σ H3 hy ⟨y5, y6, rfl, rfl⟩
        obtain ⟨n, en, kn⟩ := paired_get hN1 hy
        obtain ⟨nb, rfl, enb⟩ := nd_key kn
        obtain ⟨t, l, o, g1, g2, g3, g4⟩ := tab_get (k := i + 1) tr (by omega) (List.mem_of_getElem? en) enb enb (g.short n (List.mem_of_getElem? en) i (by omega))
        rw [show (((i + 1 : Nat)) : Int) = 1 + (i : Int) by omega] at g1
        refine ⟨_, rfl, _, rfl, _, rfl, tl, _, _, _, rfl, rfl, SqL.of h1, g1, _, rfl, t, .ref l, rfl, g2, l, o, rfl, g3, _, rfl, ?_⟩
        rw [g4]
        exact iteF ⟨_, _, rfl, rfl⟩
      · rintro σ H3 ⟨y5, y6, rfl, rfl⟩
        exact ⟨_, _, _, rfl, rfl⟩
    rintro σ H2 ⟨x4, x5, x6, rfl, rfl⟩
    refine ⟨_, rfl, a, rfl, ⟨_, hA1⟩, for_list (K := K) (a := a) (xs := nv) (fun j σ H3 => ∃ x4 x5 x6 : Option V, σ = [some (.ref a), some (.ref d), some (.ref f), some (.ref tl), x4, x5, x6] ∧ H3 = H2) ⟨_, _, _, rfl, rfl⟩ (fun j σ H3 _ ⟨_, _, _, _, h⟩ => h ▸ hA1) ?_ ?_⟩
    · rintro j y σ H3 hy ⟨y4, y5, y6, rfl, rfl⟩
      obtain ⟨n, en, kn⟩ := paired_get hN1 hy
      obtain ⟨nb, rfl, enb⟩ := nd_key kn
      refine ⟨_, rfl, _, rfl, f, _, _, _, rfl, rfl, SqL.of hf1, at0, n, st, kn, ⟨sb, rfl, esb⟩, _, rfl, ite2 (fun e => ?_) (fun e => iteF ⟨_, _, _, rfl, rfl⟩)⟩
      have no := g.least n (List.mem_of_getElem? en) e
      rw [← lcw] at no
      obtain ⟨t, l, o, g1, g2, g3, g4⟩ := tab_get (k := cw.length) tr (by omega) (List.mem_of_getElem? en) enb enb no
      refine ⟨_, rfl, _, rfl, _, rfl, _, _, rfl, .inl ⟨_, SqL.of hf1, rfl⟩, tl, _, _, _, rfl, rfl, SqL.of h1, g1, _, rfl, t, .ref l, rfl, g2, l, o, rfl, g3, _, rfl, ?_⟩
      rw [g4]
      exact iteF ⟨_, _, _, rfl, rfl⟩
    rintro σ H3 ⟨y4, y5, y6, rfl, rfl⟩
    refine ⟨_, rfl, _, _, rfl, .inl ⟨_, SqL.of hf1, rfl⟩, 1, (cw.length : Int), rfl, ⟨by omega, by omega, by omega, by omega⟩, ?_⟩
    refine for_range (fun i σ H2 => ∃ x4 x5 x6 : Option V, σ = [some (.ref a), some (.ref d), some (.ref f), some (.ref tl), x4, x5, x6] ∧ H2 = H3) ⟨_, _, _, rfl, rfl⟩ ?_ ?_
    · rintro i σ H2 hi ⟨x4, x5, x6, rfl, rfl⟩
      have hi' : i + 1 < cw.length := by omega
      obtain ⟨x, ex⟩ : ∃ x, c[i]? = some x := ⟨_, List.getElem?_eq_getElem (by omega)⟩
      obtain ⟨y, ey⟩ : ∃ y, c[i + 1]? = some y := ⟨_, List.getElem?_eq_getElem (by omega)⟩
      obtain ⟨xv, exv, kx⟩ := paired_getR hC1 ex
      obtain ⟨yv, eyv, ky⟩ := paired_getR hC1 ey
      obtain ⟨xb, rfl, exb⟩ := nd_key kx
      have atx : atI cw (1 + (i : Int) - 1) = some (.ref xb) := by rw [show 1 + (i : Int) - 1 = (i : Int) by omega]; exact atI_nat exv
      have aty : atI cw (1 + (i : Int)) = some yv := by rw [show 1 + (i : Int) = ((i + 1 : Nat) : Int) by omega]; exact atI_nat eyv
      obtain ⟨fl, ws, ev, hfl, nfl⟩ := hF1.get (g.inU x (List.mem_of_getElem? ex))
      refine ⟨_, rfl, _, rfl, _, rfl, _, _, rfl, rfl, f, _, _, _, rfl, rfl, SqL.of hf1, atx, d, .ref fl, rfl, .inr ⟨kvs, kN x, xb, .inl hd1, rfl, exb, by rw [ev]⟩, fl, rfl, ⟨_, SqL.of hfl⟩, for_list (K := K) (a := fl) (xs := ws) (fun j σ H4 => ∃ x5 x6 : Option V, σ = [some (.ref a), some (.ref d), some (.ref f), some (.ref tl), some (.int (1 + (i : Int))), x5, x6] ∧ H4 = H2) ⟨_, _, rfl, rfl⟩ (fun j σ H3 _ ⟨_, _, _, h⟩ => h ▸ SqL.of hfl) ?_ ?_⟩
      · rintro j ov σ H4 ho ⟨z5, z6, rfl, rfl⟩
        obtain ⟨z, ez, kz⟩ := paired_get nfl ho
        obtain ⟨zb, rfl, ezb⟩ := nd_key kz
        have zX : z ∈ X x := List.mem_of_getElem? ez
        refine ⟨_, rfl, _, rfl, _, rfl, f, _, _, _, rfl, rfl, SqL.of hf1, aty, z, y, kz, ky, _, rfl, ite2 (fun e => ?_) (fun e => iteF ⟨_, _, rfl, rfl⟩)⟩
        have no := g.less i x y z ex ey zX e
        rw [← lcw] at no
        obtain ⟨t, l, o, g1, g2, g3, g4⟩ := tab_get (k := cw.length - (i + 1)) tr (by omega) (hX _ _ zX) ezb esb no
        rw [show (((cw.length - (i + 1) : Nat)) : Int) = (cw.length : Int) - (1 + (i : Int)) by omega] at g1
        refine ⟨_, rfl, f, _, _, _, rfl, rfl, SqL.of hf1, at0, _, rfl, _, rfl, _, _, rfl, .inl ⟨_, SqL.of hf1, rfl⟩, _, rfl, _, _, rfl, rfl, tl, _, _, _, rfl, rfl, SqL.of h1, g1, _, rfl, t, .ref l, rfl, g2, l, o, rfl, g3, _, rfl, ?_⟩
        rw [g4]
        exact iteF ⟨_, _, rfl, rfl⟩
      · rintro σ H4 ⟨z5, z6, rfl, rfl⟩
        exact ⟨_, _, _, rfl, rfl⟩
    · rintro σ H2 ⟨x4, x5, x6, rfl, rfl⟩
      exact q H2 s1
theorem ok_Lischain (T : Tx K mg) : FnOk P w K mg base CX0 2 T.f_Lischain T.d_Lischain ["_law_found", "_law_nodes_here", "_law_nexts_here"] (spIsChain K) := by
  refine T.F_Lischain.ok sc_Lischain (fun vs H Q E h => ?_) (fun cdv A outer s H vs Q E hr h => ?_)
  · obtain ⟨f, a, d, nv, cw, ns, c, st, kvs, X, rfl, _⟩ := h
    rfl
  · obtain ⟨f, a, d, nv, cw, ns, c, st, kvs, X, rfl, hA, hN, hd, hF, hf, hC, g, q⟩ := h
    have hu := hu_of hr
    refine ⟨_, (pss_cons (ps_if (PW.pt (pw_or (pt_not (pt_val (pe_callB call_isi (by rfl) T.z_isinstance boot_isinstance (pa_cons (pv 0) (pa_cons (pe_bltn (v := V.ty "list") rfl T.z_list boot_list rfl) pa_nil))))) (pw_or (pt_cmpR op_lt (pe_callB call_len (by rfl) T.z_len boot_len (pa_cons (pv 0) pa_nil)) pe_int (nomark _)) (pw_or1 (pt_cmpR op_ne (pe_lenSetN (K := K) hr.units rfl rfl rfl T.z_len rfl T.z_set (pa_cons (pv 0) pa_nil)) (pe_callB call_len (by rfl) T.z_len boot_len (pa_cons (pv 0) pa_nil)) (nomark _))))))
      (pss_one (ps_ret pe_bl))
      pss_nil)
      (pss_cons (ps_for PassesOwn.never rfl (pi_list (pv 0)) (pg_name (i := 3) sc_Lischain.nd rfl (Or.inl rfl))
      (pss_one (ps_if (PW.pt (pw_or (pt_not (pt_val (pe_callB call_isi (by rfl) T.z_isinstance boot_isinstance (pa_cons (pv 3) (pa_cons (pe_bltn (v := V.ty "tuple") rfl T.z_tuple boot_tuple rfl) pa_nil))))) (pw_or (pt_not (pt_val (pe_call ((ok_Lwhole T).mono (by decide)) hr rfl T.m_Lwhole T.F_Lwhole.kp T.b_Lwhole .nil pass0 (pa_cons (pe_ix ix_tup (pv 3) pe_int (fun _ _ => rfl)) pa_nil)))) (pw_or (pt_not (pt_val (pe_call ((ok_Lwhole T).mono (by decide)) hr rfl T.m_Lwhole T.F_Lwhole.kp T.b_Lwhole .nil pass0 (pa_cons (pe_ix ix_tup (pv 3) pe_int (fun _ _ => rfl)) pa_nil)))) (pw_or1 (pt_cmpR (op_ninN (K := K) (u16 hr.units) rfl) (pv 3) (pv 1) rfl))))))
      (pss_one (ps_ret pe_bl))
      pss_nil)))
      (pss_cons (ps_for PassesOwn.never rfl (pi_range1 rfl T.z_range (pa_cons (pe_callB call_len (by rfl) T.z_len boot_len (pa_cons (pv 0) pa_nil)) pa_nil)) (pg_name (i := 4) sc_Lischain.nd rfl (Or.inl rfl))
      (pss_one (ps_if (pt_cmpR (op_ninN (K := K) (u16 hr.units) rfl) (pe_ix ix_list (pv 0) (pv 4) (fun _ _ => rfl)) (pe_dget hu (pv 2) (pe_ix ix_list (pv 0) (pe_op op_sub (pv 4) pe_int) (fun _ _ => rfl)) (fun _ _ => rfl)) rfl)
      (pss_one (ps_ret pe_bl))
      pss_nil)))
      (pss_one (ps_ret pe_bl))))), ?_⟩
    have lcw : cw.length = c.length := prs_len hC
    have g1 := g.two
    have g2 := g.few
    refine ⟨_, rfl, _, _, _, _, rfl, TyOf.lst hf, kit_ll, _, rfl, iteF ?_⟩
    refine ⟨_, rfl, _, _, rfl, .inl ⟨_, SqL.of hf, rfl⟩, _, _, rfl, rfl, _, rfl, ?_⟩
    rw [show decide (((cw.length : Nat) : Int) < 2) = false from decide_eq_false (by omega)]
    refine iteF ?_
    refine ⟨_, rfl, f, cw, c, rfl, SqL.of hf, hC, by omega, g.nd, _, rfl, _, _, rfl, .inl ⟨_, SqL.of hf, rfl⟩, rfl, _, rfl, ?_⟩
    rw [lcw, show (!decide (V.int (c.length : Int) = V.int (c.length : Int))) = false by simp]
    refine iteF ?_
    refine ⟨_, rfl, f, rfl, ⟨_, SqL.of hf⟩, for_list (K := K) (a := f) (xs := cw) (fun i σ H2 => H2 = H ∧ ∃ x3 x4 : Option V, σ = [some (.ref f), some (.ref a), some (.ref d), x3, x4]) ⟨rfl, none, none, rfl⟩ (fun i σ H2 _ ⟨z, _⟩ => z ▸ SqL.of hf) ?_ ?_⟩
    · rintro i y σ H2 hy ⟨z2, x3, x4, rfl⟩
      subst z2
      obtain ⟨n, en, kn⟩ := paired_get hC hy
      obtain ⟨p, rfl, ep⟩ := id kn
      refine ⟨_, rfl, _, _, _, _, rfl, TyOf.tup ep, kit_tt, _, rfl, iteF ?_⟩
      refine ⟨_, rfl, p, _, _, _, rfl, rfl, SqT.of ep, atI_nat (j := 0) rfl, n.1, rfl, true, rfl, iteF ?_⟩
      refine ⟨_, rfl, p, _, _, _, rfl, rfl, SqT.of ep, atI_nat (j := 1) rfl, n.2, rfl, true, rfl, iteF ?_⟩
      refine ⟨_, rfl, _, rfl, a, nv, ns, n, rfl, hA, hN, kn, _, rfl, ?_⟩
      rw [show (!decide (n ∈ ns)) = false by rw [decide_eq_true (g.inU n (List.mem_of_getElem? en))]; rfl]
      exact iteF ⟨rfl, _, _, rfl⟩
    rintro σ H2 ⟨z2, x3, x4, rfl⟩
    subst z2
    refine ⟨_, rfl, _, _, rfl, .inl ⟨_, SqL.of hf, rfl⟩, _, rfl, by omega, by omega, ?_⟩
    refine for_range (fun i σ H3 => H3 = H2 ∧ ∃ x3 x4 : Option V, σ = [some (.ref f), some (.ref a), some (.ref d), x3, x4]) ⟨rfl, _, _, rfl⟩ ?_ ?_
    · rintro i σ H3 hi ⟨z3, y3, y4, rfl⟩
      subst z3
      have hi' : i < c.length := by omega
      obtain ⟨y, ey⟩ : ∃ y, c[i]? = some y := ⟨_, List.getElem?_eq_getElem hi'⟩
      obtain ⟨yv, eyv, ky⟩ := paired_getR hC ey
      have aty : atI cw (0 + (i : Int)) = some yv := by rw [Int.zero_add]; exact atI_nat eyv
      obtain ⟨x, xb, atx, exb, xU, yX⟩ : ∃ (x : Nk) (xb : Addr), atI cw (0 + (i : Int) - 1) = some (.ref xb) ∧ H3 xb = some (.tup ((kN x).map kV)) ∧ x ∈ ns ∧ y ∈ X x := by
        have hne : c ≠ [] := fun z => by rw [z] at g1; simp at g1
        cases i with
        | zero =>
          obtain ⟨v, e1, e2⟩ := last_at hC hne
          obtain ⟨xb, rfl, exb⟩ := nd_key e2
          refine ⟨lastZ c, xb, e1, exb, g.inU _ (lastZ_mem hne), ?_⟩
          have : c.head? = some y := by rw [List.head?_eq_getElem?]; exact ey
          rw [g.head] at this
          cases this
          exact g.hit
        | succ j =>
          obtain ⟨x, ex⟩ : ∃ x, c[j]? = some x := ⟨_, List.getElem?_eq_getElem (by omega)⟩
          obtain ⟨v, e1, e2⟩ := paired_getR hC ex
          obtain ⟨xb, rfl, exb⟩ := nd_key e2
          refine ⟨x, xb, ?_, exb, g.inU _ (List.mem_of_getElem? ex), g.lk.zip g.hit j x y ex ?_⟩
          · rw [show (0 : Int) + ((j + 1 : Nat) : Int) - 1 = (j : Int) by omega]
            exact atI_nat e1
          · rw [List.getElem?_append_left (by rw [List.length_tail]; omega), List.getElem?_tail]
            exact ey
      obtain ⟨fl, ws, ev, hfl, nfl⟩ := hF.get xU
      refine ⟨_, rfl, _, rfl, f, _, _, _, rfl, rfl, SqL.of hf, aty, _, rfl, _, rfl, _, rfl, _, _, rfl, rfl, f, _, _, _, rfl, rfl, SqL.of hf, atx, d, .ref fl, rfl, .inr ⟨kvs, kN x, xb, .inl hd, rfl, exb, by rw [ev]⟩, fl, ws, X x, y, rfl, SqL.of hfl, nfl, ky, _, rfl, ?_⟩
      rw [show (!decide (y ∈ X x)) = false by rw [decide_eq_true yX]; rfl]
      exact iteF ⟨rfl, _, _, rfl⟩
    · rintro σ H3 ⟨z3, y3, y4, rfl⟩
      subst z3
      exact q
theorem ok_law (T : Tx K mg) : FnOk P w K mg base CX0 4 T.f_law T.d_law ["_law_script"] (spLaw K) := by
  refine T.F_law.ok sc_law (fun vs H Q E h => ?_) (fun cdv A outer s H vs Q E hr h => ?_)
  · obtain ⟨a, ns, rfl, _⟩ := h
    rfl
  · obtain ⟨a, cs, rfl, hS, hlen, hbits, k⟩ := h
    have hu := hu_of hr
    refine ⟨_, (pss_cons (ps_set (i := 1) sc_law.nd rfl (Or.inl rfl) (pe_call ((ok_Lnodes T).mono (by decide)) hr rfl T.m_Lnodes T.F_Lnodes.kp T.b_Lnodes .nil pass0 (pa_cons (pv 0) (pa_cons pe_int pa_nil))))
      (pss_cons (ps_set (i := 2) sc_law.nd rfl (Or.inl rfl) (pe_call ((ok_Lpairs T).mono (by decide)) hr rfl T.m_Lpairs T.F_Lpairs.kp T.b_Lpairs .nil pass0 (pa_cons (pv 0) (pa_cons (pv 1) pa_nil))))
      (pss_cons (ps_set (i := 3) sc_law.nd rfl (Or.inl rfl) (pe_callTy call_list_of (by rfl) T.z_list boot_list (pa_cons (pv 1) pa_nil)))
      (pss_cons (ps_set (i := 4) sc_law.nd rfl (Or.inl rfl) (pe_callTy call_list_of (by rfl) T.z_list boot_list (pa_cons (pv 2) pa_nil)))
      (pss_cons (ps_set (i := 5) sc_law.nd rfl (Or.inl rfl) (pe_call ((ok_Lnexts T).mono (by decide)) hr rfl T.m_Lnexts T.F_Lnexts.kp T.b_Lnexts .nil pass0 (pa_cons (pv 1) (pa_cons (pv 2) pa_nil))))
      (pss_cons (ps_set (i := 6) sc_law.nd rfl (Or.inl rfl) (pe_call ((ok_leastring T).mono (by decide)) hr rfl T.m_leastring T.F_leastring.kp T.b_leastring .nil pass0 (pa_cons (pv 3) (pa_cons (pv 4) pa_nil))))
      (pss_cons (ps_if (PW.pt (pw_or (pt_cmpR (op_neS hr.units) (pv 3) (pv 1) (nomark _)) (pw_or1 (pt_cmpR (op_neS hr.units) (pv 4) (pv 2) (nomark _)))))
      (pss_one (ps_ret pe_bl))
      pss_nil)
      (pss_cons (ps_if (pt_cmpR op_isN (pv 6) pe_non (nomark _))
      (pss_one (ps_ret (pe_and (pe_call ((ok_Lnone T).mono (by decide)) hr rfl T.m_Lnone T.F_Lnone.kp T.b_Lnone .nil pass0 (pa_cons (pv 1) (pa_cons (pv 5) pa_nil))) (pe_one (pe_cmpR op_isN (pe_call ((ok_leastring T).mono (by decide)) hr rfl T.m_leastring T.F_leastring.kp T.b_leastring .nil pass0 (pa_cons (pv 3) (pa_cons (pv 4) pa_nil))) pe_non (nomark _))))))
      pss_nil)
      (pss_cons (ps_if (PW.pt (pw_or (pt_not (pt_val (pe_call ((ok_Lischain T).mono (by decide)) hr rfl T.m_Lischain T.F_Lischain.kp T.b_Lischain .nil pass0 (pa_cons (pv 6) (pa_cons (pv 1) (pa_cons (pv 5) pa_nil)))))) (pw_or1 (pt_not (pt_val (pe_call ((ok_Lnoless T).mono (by decide)) hr rfl T.m_Lnoless T.F_Lnoless.kp T.b_Lnoless .nil pass0 (pa_cons (pv 1) (pa_cons (pv 5) (pa_cons (pv 6) pa_nil)))))))))
      (pss_one (ps_ret pe_bl))
      pss_nil)
      (pss_cons (ps_set (i := 7) sc_law.nd rfl (Or.inl rfl) (pe_callTy call_list_of (by rfl) T.z_list boot_list (pa_cons (pv 6) pa_nil)))
      (pss_cons (ps_expr (pe_bm0 PySem.F.plainAttrs_list PySem.F.slot_list_clear PySem.F.type_list_clear mt_clearA (pv 6)))
      (pss_one (ps_ret (pe_cmpR (op_eqS hr.units) (pe_call ((ok_leastring T).mono (by decide)) hr rfl T.m_leastring T.F_leastring.kp T.b_leastring .nil pass0 (pa_cons (pv 3) (pa_cons (pv 4) pa_nil))) (pv 7) (nomark _))))))))))))))), ?_⟩
    refine ⟨_, rfl, a, cs, 9, rfl, hS, by decide, by decide, fun p nv ns H1 hp s1 h1 hN nd few => ?_⟩
    refine ⟨_, rfl, _, rfl, a, p, cs, nv, ns, rfl, s1.seq hS, SqL.of h1, hN, nd, few, fun q ew Ed H2 hq s2 h2 hP fewE hin hself => ?_⟩
    refine ⟨_, rfl, p, nv, rfl, .inl (SqL.of (s2 _ _ h1)), fun hh hhh => ?_⟩
    have s3 := Same.upd (o := HO.lst nv) hhh
    refine ⟨_, rfl, q, ew, rfl, .inl (SqL.of (s3 _ _ h2)), fun ld hld => ?_⟩
    have s4 := Same.upd (o := HO.lst ew) hld
    have hp4 := s4 _ _ (s3 _ _ (s2 _ _ h1))
    have hq4 := s4 _ _ (s3 _ _ h2)
    have hh4 := s4 _ _ (upd_same (H := H2) (a := hh) (o := HO.lst nv))
    have hl4 := upd_same (H := upd H2 hh (.lst nv)) (a := ld) (o := HO.lst ew)
    have nN4 : Nds _ nv ns := nds_kt (kt_same (s2.trans (s3.trans s4))) hN
    have nP4 := prs_same (s3.trans s4) hP
    generalize upd (upd H2 hh (.lst nv)) ld (.lst ew) = H4 at hp4 hq4 hh4 hl4 nN4 nP4
    clear s4 s3 s2 s1 h1 h2 hN hP hhh hld hp hq hS
    refine ⟨_, rfl, _, rfl, p, q, nv, ew, ns, Ed, rfl, SqL.of hp4, nN4, nd, few, SqL.of hq4, nP4, fewE, hin, fun d kvs X H5 hd s5 h5 fd5 mX => ?_⟩
    refine ⟨_, rfl, _, rfl, hh, ld, nv, ew, ns, Ed, rfl, SqL.of (s5 _ _ hh4), nds_kt (kt_same s5) nN4, nd, few, SqL.of (s5 _ _ hl4), prs_same s5 nP4, fewE, hin, hself, fun js L ndj mj pwj permL pwL => ?_⟩
    have wf := bhF_wf ndj pwj (fun k hk => hin k ((mj k).mp hk)) (fun k hk => hself k ((mj k).mp hk)) few
    have cX : ∀ n y, y ∈ X n ↔ y ∈ bhF js n := fun n y => by rw [mX, mem_bhF, mj]
    have hX : ∀ n x, x ∈ X n → x ∈ ns := fun n x h => wf.inU ((cX n x).mp h)
    refine ⟨fun en H6 s6 => ?_, fun c sr f cw H6 hf s6 h6 n6 => ?_⟩
    · have s46 := s5.trans s6
      have nN6 := nds_kt (kt_same s46) nN4
      have nP6 := prs_same s46 nP4
      refine ⟨_, rfl, _, rfl, _, _, .lst (SqL.of (s46 _ _ hh4)) (nds_dts nN6), .lst (SqL.of (s46 _ _ hp4)) (nds_dts nN6), shaped_N ns, shaped_N ns, _, rfl, ?_⟩
      rw [eqv_N]
      refine iteF ⟨_, rfl, _, rfl, _, _, .lst (SqL.of (s46 _ _ hl4)) (prs_dts nP6), .lst (SqL.of (s46 _ _ hq4)) (prs_dts nP6), shaped_E Ed, shaped_E Ed, _, rfl, ?_⟩
      rw [eqv_E]
      refine iteF ?_
      refine ⟨_, rfl, rfl, _, rfl, iteT ?_⟩
      refine ⟨_, rfl, _, rfl, p, d, nv, ns, kvs, X, rfl, SqL.of (s46 _ _ hp4), nN6, nd, few, s6 _ _ h5, fd5.same s6, hX, fun n hn k z => sr_none wf permL en n hn k (wk_congr cX z), fun H7 s7 => ?_⟩
      have s47 := s46.trans s7
      have nN7 := nds_kt (kt_same s47) nN4
      have nP7 := prs_same s47 nP4
      refine ⟨_, rfl, iteT ?_⟩
      refine ⟨_, rfl, _, rfl, hh, ld, nv, ew, ns, Ed, rfl, SqL.of (s47 _ _ hh4), nN7, nd, few, SqL.of (s47 _ _ hl4), nP7, fewE, hin, hself, fun js' L' ndj' mj' pwj' permL' pwL' => ?_⟩
      have ejs : js' = js := same_sorted (fun x y n h => ltE_tot n h) ((List.perm_ext_iff_of_nodup ndj' ndj).mpr fun k => by rw [mj', mj]) pwj' pwj
      have eL : L' = L := same_sorted (fun x y n h => ltN_tot n h) (permL'.trans permL.symm) pwL' pwL
      subst ejs eL
      refine ⟨fun _ H8 s8 => ⟨rfl, ?_⟩, fun c sr => ?_⟩
      · exact k H8
      · obtain ⟨i, e, _⟩ := sr
        rw [en] at e
        simp at e
    · obtain ⟨st, gW⟩ := sr_good wf permL pwL sr
      have g := gW.congr cX
      have s46 := s5.trans s6
      have nN6 := nds_kt (kt_same s46) nN4
      have nP6 := prs_same s46 nP4
      refine ⟨_, rfl, _, rfl, _, _, .lst (SqL.of (s46 _ _ hh4)) (nds_dts nN6), .lst (SqL.of (s46 _ _ hp4)) (nds_dts nN6), shaped_N ns, shaped_N ns, _, rfl, ?_⟩
      rw [eqv_N]
      refine iteF ⟨_, rfl, _, rfl, _, _, .lst (SqL.of (s46 _ _ hl4)) (prs_dts nP6), .lst (SqL.of (s46 _ _ hq4)) (prs_dts nP6), shaped_E Ed, shaped_E Ed, _, rfl, ?_⟩
      rw [eqv_E]
      refine iteF ?_
      refine ⟨_, rfl, rfl, _, rfl, iteF ?_⟩
      refine ⟨_, rfl, _, rfl, _, rfl, f, p, d, nv, cw, ns, c, st, kvs, X, rfl, SqL.of (s46 _ _ hp4), nN6, s6 _ _ h5, fd5.same s6, h6, n6, g, true, rfl, iteF ?_⟩
      refine ⟨_, rfl, _, rfl, _, rfl, p, d, f, nv, cw, ns, c, st, kvs, X, rfl, SqL.of (s46 _ _ hp4), nN6, nd, few, s6 _ _ h5, fd5.same s6, hX, h6, n6, g, fun H7 s7 => ⟨true, rfl, iteF ?_⟩⟩
      refine ⟨_, rfl, f, cw, rfl, .inl (SqL.of (s7 _ _ h6)), fun kp hkp => ?_⟩
      have s8 := Same.upd (o := HO.lst cw) hkp
      have fk : f ≠ kp := fun z => by rw [z] at h6; rw [s7 _ _ h6] at hkp; cases hkp
      refine ⟨_, rfl, Or.inl ⟨rfl, _, SqL.of (s8 _ _ (s7 _ _ h6))⟩, f, cw, rfl, rfl, s8 _ _ (s7 _ _ h6), fun H9 k9 => ?_⟩
      have s59 : Same H5 H9 := fun b u e => k9 b u (fun z => by rw [z, hf] at e; cases e) (s8 _ _ (s7 _ _ (s6 b u e)))
      have kt69 : KT2 H6 H9 := fun b xs e => k9 b _ (fun z => by rw [z, h6] at e; cases e) (s8 _ _ (s7 _ _ e))
      have hk9 := k9 kp _ (Ne.symm fk) upd_same
      have s49 := s5.trans s59
      have nN9 := nds_kt (kt_same s49) nN4
      have nP9 := prs_same s49 nP4
      have nC9 := nds_kt kt69 n6
      refine ⟨_, rfl, _, rfl, hh, ld, nv, ew, ns, Ed, rfl, SqL.of (s49 _ _ hh4), nN9, nd, few, SqL.of (s49 _ _ hl4), nP9, fewE, hin, hself, fun js' L' ndj' mj' pwj' permL' pwL' => ?_⟩
      have ejs : js' = js := same_sorted (fun x y n h => ltE_tot n h) ((List.perm_ext_iff_of_nodup ndj' ndj).mpr fun k => by rw [mj', mj]) pwj' pwj
      have eL : L' = L := same_sorted (fun x y n h => ltN_tot n h) (permL'.trans permL.symm) pwL' pwL
      subst ejs eL
      refine ⟨fun en => ?_, fun c' sr' f' fv' H10 hf' s10 h10 n10 => ?_⟩
      · obtain ⟨i, e, _⟩ := sr
        rw [en] at e
        simp at e
      · have ec := sr'.one sr
        subst ec
        refine ⟨_, rfl, _, _, .lst (SqL.of h10) (nds_dts n10), .lst (SqL.of (s10 _ _ hk9)) (nds_dts (nds_kt (kt_same s10) nC9)), shaped_N _, shaped_N _, ?_⟩
        rw [eqv_N]
        exact k H10
end
theorem all_mk {l : PySem.W.OpenLaw} {w : World} {K : PySem.W.Frag} {h : Heap} {mg : Str → Option Value} {fa : Addr} (X : K.In h) (G : h.Ns mainGlobals mg) (hfa : mg "law" = some (.ref fa))
    {f0 : Addr} {od0 an0 : Option Addr} {sl0 : Array (Option Value)} {oc0 kV0 dc0 pm0 cd0 ct0 : Value}
    (a0 : PySem.W.nsIn K mainGlobals "ring" = some (some (.ref f0))) (l0 : K.lookup f0 = some ⟨oc0, od0, .func (PySem.W.fnOf "ring" "ring" (defArgs s_ring) (defBody s_ring) (defScope s_ring) .none kV0 dc0 pm0 an0 cd0 ct0), sl0⟩) (c0 : PySem.W.codeIn K cd0 "ring" = true) (k0 : PySem.W.keepIn K (.ref f0) = true)
    {f1 : Addr} {od1 an1 : Option Addr} {sl1 : Array (Option Value)} {oc1 kV1 dc1 pm1 cd1 ct1 : Value}
    (a1 : PySem.W.nsIn K mainGlobals "followers" = some (some (.ref f1))) (l1 : K.lookup f1 = some ⟨oc1, od1, .func (PySem.W.fnOf "followers" "followers" (defArgs s_followers) (defBody s_followers) (defScope s_followers) .none kV1 dc1 pm1 an1 cd1 ct1), sl1⟩) (c1 : PySem.W.codeIn K cd1 "followers" = true) (k1 : PySem.W.keepIn K (.ref f1) = true)
    {f2 : Addr} {od2 an2 : Option Addr} {sl2 : Array (Option Value)} {oc2 kV2 dc2 pm2 cd2 ct2 : Value}
    (a2 : PySem.W.nsIn K mainGlobals "least_ring" = some (some (.ref f2))) (l2 : K.lookup f2 = some ⟨oc2, od2, .func (PySem.W.fnOf "least_ring" "least_ring" (defArgs s_leastring) (defBody s_leastring) (defScope s_leastring) .none kV2 dc2 pm2 an2 cd2 ct2), sl2⟩) (c2 : PySem.W.codeIn K cd2 "least_ring" = true) (k2 : PySem.W.keepIn K (.ref f2) = true)
    {f3 : Addr} {od3 an3 : Option Addr} {sl3 : Array (Option Value)} {oc3 kV3 dc3 pm3 cd3 ct3 : Value}
    (a3 : PySem.W.nsIn K mainGlobals "_law_cell_at" = some (some (.ref f3))) (l3 : K.lookup f3 = some ⟨oc3, od3, .func (PySem.W.fnOf "_law_cell_at" "_law_cell_at" (defArgs s_Lcellat) (defBody s_Lcellat) (defScope s_Lcellat) .none kV3 dc3 pm3 an3 cd3 ct3), sl3⟩) (c3 : PySem.W.codeIn K cd3 "_law_cell_at" = true) (k3 : PySem.W.keepIn K (.ref f3) = true)
    {f4 : Addr} {od4 an4 : Option Addr} {sl4 : Array (Option Value)} {oc4 kV4 dc4 pm4 cd4 ct4 : Value}
    (a4 : PySem.W.nsIn K mainGlobals "_law_whole" = some (some (.ref f4))) (l4 : K.lookup f4 = some ⟨oc4, od4, .func (PySem.W.fnOf "_law_whole" "_law_whole" (defArgs s_Lwhole) (defBody s_Lwhole) (defScope s_Lwhole) .none kV4 dc4 pm4 an4 cd4 ct4), sl4⟩) (c4 : PySem.W.codeIn K cd4 "_law_whole" = true) (k4 : PySem.W.keepIn K (.ref f4) = true)
    {f5 : Addr} {od5 an5 : Option Addr} {sl5 : Array (Option Value)} {oc5 kV5 dc5 pm5 cd5 ct5 : Value}
    (a5 : PySem.W.nsIn K mainGlobals "_law_nodes" = some (some (.ref f5))) (l5 : K.lookup f5 = some ⟨oc5, od5, .func (PySem.W.fnOf "_law_nodes" "_law_nodes" (defArgs s_Lnodes) (defBody s_Lnodes) (defScope s_Lnodes) .none kV5 dc5 pm5 an5 cd5 ct5), sl5⟩) (c5 : PySem.W.codeIn K cd5 "_law_nodes" = true) (k5 : PySem.W.keepIn K (.ref f5) = true)
    {f6 : Addr} {od6 an6 : Option Addr} {sl6 : Array (Option Value)} {oc6 kV6 dc6 pm6 cd6 ct6 : Value}
    (a6 : PySem.W.nsIn K mainGlobals "_law_pairs" = some (some (.ref f6))) (l6 : K.lookup f6 = some ⟨oc6, od6, .func (PySem.W.fnOf "_law_pairs" "_law_pairs" (defArgs s_Lpairs) (defBody s_Lpairs) (defScope s_Lpairs) .none kV6 dc6 pm6 an6 cd6 ct6), sl6⟩) (c6 : PySem.W.codeIn K cd6 "_law_pairs" = true) (k6 : PySem.W.keepIn K (.ref f6) = true)
    {f7 : Addr} {od7 an7 : Option Addr} {sl7 : Array (Option Value)} {oc7 kV7 dc7 pm7 cd7 ct7 : Value}
    (a7 : PySem.W.nsIn K mainGlobals "_law_nexts" = some (some (.ref f7))) (l7 : K.lookup f7 = some ⟨oc7, od7, .func (PySem.W.fnOf "_law_nexts" "_law_nexts" (defArgs s_Lnexts) (defBody s_Lnexts) (defScope s_Lnexts) .none kV7 dc7 pm7 an7 cd7 ct7), sl7⟩) (c7 : PySem.W.codeIn K cd7 "_law_nexts" = true) (k7 : PySem.W.keepIn K (.ref f7) = true)
    {f8 : Addr} {od8 an8 : Option Addr} {sl8 : Array (Option Value)} {oc8 kV8 dc8 pm8 cd8 ct8 : Value}
    (a8 : PySem.W.nsIn K mainGlobals "_law_walks" = some (some (.ref f8))) (l8 : K.lookup f8 = some ⟨oc8, od8, .func (PySem.W.fnOf "_law_walks" "_law_walks" (defArgs s_Lwalks) (defBody s_Lwalks) (defScope s_Lwalks) .none kV8 dc8 pm8 an8 cd8 ct8), sl8⟩) (c8 : PySem.W.codeIn K cd8 "_law_walks" = true) (k8 : PySem.W.keepIn K (.ref f8) = true)
    {f9 : Addr} {od9 an9 : Option Addr} {sl9 : Array (Option Value)} {oc9 kV9 dc9 pm9 cd9 ct9 : Value}
    (a9 : PySem.W.nsIn K mainGlobals "_law_no_less" = some (some (.ref f9))) (l9 : K.lookup f9 = some ⟨oc9, od9, .func (PySem.W.fnOf "_law_no_less" "_law_no_less" (defArgs s_Lnoless) (defBody s_Lnoless) (defScope s_Lnoless) .none kV9 dc9 pm9 an9 cd9 ct9), sl9⟩) (c9 : PySem.W.codeIn K cd9 "_law_no_less" = true) (k9 : PySem.W.keepIn K (.ref f9) = true)
    {f10 : Addr} {od10 an10 : Option Addr} {sl10 : Array (Option Value)} {oc10 kV10 dc10 pm10 cd10 ct10 : Value}
    (a10 : PySem.W.nsIn K mainGlobals "_law_is_chain" = some (some (.ref f10))) (l10 : K.lookup f10 = some ⟨oc10, od10, .func (PySem.W.fnOf "_law_is_chain" "_law_is_chain" (defArgs s_Lischain) (defBody s_Lischain) (defScope s_Lischain) .none kV10 dc10 pm10 an10 cd10 ct10), sl10⟩) (c10 : PySem.W.codeIn K cd10 "_law_is_chain" = true) (k10 : PySem.W.keepIn K (.ref f10) = true)
    {f11 : Addr} {od11 an11 : Option Addr} {sl11 : Array (Option Value)} {oc11 kV11 dc11 pm11 cd11 ct11 : Value}
    (a11 : PySem.W.nsIn K mainGlobals "_law_none" = some (some (.ref f11))) (l11 : K.lookup f11 = some ⟨oc11, od11, .func (PySem.W.fnOf "_law_none" "_law_none" (defArgs s_Lnone) (defBody s_Lnone) (defScope s_Lnone) .none kV11 dc11 pm11 an11 cd11 ct11), sl11⟩) (c11 : PySem.W.codeIn K cd11 "_law_none" = true) (k11 : PySem.W.keepIn K (.ref f11) = true)
    {f12 : Addr} {od12 an12 : Option Addr} {sl12 : Array (Option Value)} {oc12 kV12 dc12 pm12 cd12 ct12 : Value}
    (a12 : PySem.W.nsIn K mainGlobals "law" = some (some (.ref f12))) (l12 : K.lookup f12 = some ⟨oc12, od12, .func (PySem.W.fnOf "law" "law" (defArgs s_law) (defBody s_law) (defScope s_law) .none kV12 dc12 pm12 an12 cd12 ct12), sl12⟩) (c12 : PySem.W.codeIn K cd12 "law" = true) (k12 : PySem.W.keepIn K (.ref f12) = true)
    (z_bool : PySem.W.nsIn K mainGlobals "bool" = some none)
    (z_dict : PySem.W.nsIn K mainGlobals "dict" = some none)
    (z_int : PySem.W.nsIn K mainGlobals "int" = some none)
    (z_isinstance : PySem.W.nsIn K mainGlobals "isinstance" = some none)
    (z_len : PySem.W.nsIn K mainGlobals "len" = some none)
    (z_list : PySem.W.nsIn K mainGlobals "list" = some none)
    (z_max : PySem.W.nsIn K mainGlobals "max" = some none)
    (z_min : PySem.W.nsIn K mainGlobals "min" = some none)
    (z_range : PySem.W.nsIn K mainGlobals "range" = some none)
    (z_set : PySem.W.nsIn K mainGlobals "set" = some none)
    (z_sorted : PySem.W.nsIn K mainGlobals "sorted" = some none)
    (z_tuple : PySem.W.nsIn K mainGlobals "tuple" = some none)
    : ∃ fd : FuncData, (∀ (s : Shared) (v : Value), BindsTo s fd ⟨[v], []⟩ [("_law_script", v)]) ∧ ∀ base : Heap, K.In base → base.Ns mainGlobals mg → FnOk l.prog w K mg base CX0 4 fa fd ["_law_script"] (spLaw K) := by
  have e := hfa.symm.trans (PySem.W.mg_of X G a12)
  cases e
  let T : Tx K mg := {
    f_ring := f0
    d_ring := _
    F_ring := fun_mk (st := s_ring) l0 c0 k0
    b_ring := (fun_mk (st := s_ring) l0 c0 k0).binds (ps := ["waits", "start"]) fun _ _ _ _ _ _ us hl => by obtain ⟨_, _, rfl⟩ := My.us2 hl; rfl
    m_ring := PySem.W.mg_of X G a0
    f_followers := f1
    d_followers := _
    F_followers := fun_mk (st := s_followers) l1 c1 k1
    b_followers := (fun_mk (st := s_followers) l1 c1 k1).binds (ps := ["nodes", "pairs"]) fun _ _ _ _ _ _ us hl => by obtain ⟨_, _, rfl⟩ := My.us2 hl; rfl
    m_followers := PySem.W.mg_of X G a1
    f_leastring := f2
    d_leastring := _
    F_leastring := fun_mk (st := s_leastring) l2 c2 k2
    b_leastring := (fun_mk (st := s_leastring) l2 c2 k2).binds (ps := ["nodes", "pairs"]) fun _ _ _ _ _ _ us hl => by obtain ⟨_, _, rfl⟩ := My.us2 hl; rfl
    m_leastring := PySem.W.mg_of X G a2
    f_Lcellat := f3
    d_Lcellat := _
    F_Lcellat := fun_mk (st := s_Lcellat) l3 c3 k3
    b_Lcellat := (fun_mk (st := s_Lcellat) l3 c3 k3).binds (ps := ["_law_script", "_law_k"]) fun _ _ _ _ _ _ us hl => by obtain ⟨_, _, rfl⟩ := My.us2 hl; rfl
    m_Lcellat := PySem.W.mg_of X G a3
    f_Lwhole := f4
    d_Lwhole := _
    F_Lwhole := fun_mk (st := s_Lwhole) l4 c4 k4
    b_Lwhole := (fun_mk (st := s_Lwhole) l4 c4 k4).binds (ps := ["_law_found"]) fun _ _ _ _ _ _ us hl => by obtain ⟨_, rfl⟩ := My.us1 hl; rfl
    m_Lwhole := PySem.W.mg_of X G a4
    f_Lnodes := f5
    d_Lnodes := _
    F_Lnodes := fun_mk (st := s_Lnodes) l5 c5 k5
    b_Lnodes := (fun_mk (st := s_Lnodes) l5 c5 k5).binds (ps := ["_law_script", "_law_most"]) fun _ _ _ _ _ _ us hl => by obtain ⟨_, _, rfl⟩ := My.us2 hl; rfl
    m_Lnodes := PySem.W.mg_of X G a5
    f_Lpairs := f6
    d_Lpairs := _
    F_Lpairs := fun_mk (st := s_Lpairs) l6 c6 k6
    b_Lpairs := (fun_mk (st := s_Lpairs) l6 c6 k6).binds (ps := ["_law_script", "_law_nodes_here"]) fun _ _ _ _ _ _ us hl => by obtain ⟨_, _, rfl⟩ := My.us2 hl; rfl
    m_Lpairs := PySem.W.mg_of X G a6
    f_Lnexts := f7
    d_Lnexts := _
    F_Lnexts := fun_mk (st := s_Lnexts) l7 c7 k7
    b_Lnexts := (fun_mk (st := s_Lnexts) l7 c7 k7).binds (ps := ["_law_nodes_here", "_law_pairs_here"]) fun _ _ _ _ _ _ us hl => by obtain ⟨_, _, rfl⟩ := My.us2 hl; rfl
    m_Lnexts := PySem.W.mg_of X G a7
    f_Lwalks := f8
    d_Lwalks := _
    F_Lwalks := fun_mk (st := s_Lwalks) l8 c8 k8
    b_Lwalks := (fun_mk (st := s_Lwalks) l8 c8 k8).binds (ps := ["_law_nodes_here", "_law_nexts_here", "_law_many"]) fun _ _ _ _ _ _ us hl => by obtain ⟨_, _, _, rfl⟩ := My.us3 hl; rfl
    m_Lwalks := PySem.W.mg_of X G a8
    f_Lnoless := f9
    d_Lnoless := _
    F_Lnoless := fun_mk (st := s_Lnoless) l9 c9 k9
    b_Lnoless := (fun_mk (st := s_Lnoless) l9 c9 k9).binds (ps := ["_law_nodes_here", "_law_nexts_here", "_law_chain"]) fun _ _ _ _ _ _ us hl => by obtain ⟨_, _, _, rfl⟩ := My.us3 hl; rfl
    m_Lnoless := PySem.W.mg_of X G a9
    f_Lischain := f10
    d_Lischain := _
    F_Lischain := fun_mk (st := s_Lischain) l10 c10 k10
    b_Lischain := (fun_mk (st := s_Lischain) l10 c10 k10).binds (ps := ["_law_found", "_law_nodes_here", "_law_nexts_here"]) fun _ _ _ _ _ _ us hl => by obtain ⟨_, _, _, rfl⟩ := My.us3 hl; rfl
    m_Lischain := PySem.W.mg_of X G a10
    f_Lnone := f11
    d_Lnone := _
    F_Lnone := fun_mk (st := s_Lnone) l11 c11 k11
    b_Lnone := (fun_mk (st := s_Lnone) l11 c11 k11).binds (ps := ["_law_nodes_here", "_law_nexts_here"]) fun _ _ _ _ _ _ us hl => by obtain ⟨_, _, rfl⟩ := My.us2 hl; rfl
    m_Lnone := PySem.W.mg_of X G a11
    f_law := fa
    d_law := _
    F_law := fun_mk (st := s_law) l12 c12 k12
    b_law := (fun_mk (st := s_law) l12 c12 k12).binds (ps := ["_law_script"]) fun _ _ _ _ _ _ us hl => by obtain ⟨_, rfl⟩ := My.us1 hl; rfl
    m_law := PySem.W.mg_of X G a12
    z_bool := PySem.W.mg_none_of X G z_bool
    z_dict := PySem.W.mg_none_of X G z_dict
    z_int := PySem.W.mg_none_of X G z_int
    z_isinstance := PySem.W.mg_none_of X G z_isinstance
    z_len := PySem.W.mg_none_of X G z_len
    z_list := PySem.W.mg_none_of X G z_list
    z_max := PySem.W.mg_none_of X G z_max
    z_min := PySem.W.mg_none_of X G z_min
    z_range := PySem.W.mg_none_of X G z_range
    z_set := PySem.W.mg_none_of X G z_set
    z_sorted := PySem.W.mg_none_of X G z_sorted
    z_tuple := PySem.W.mg_none_of X G z_tuple }
  exact ⟨PySem.W.fnOf "law" "law" (defArgs s_law) (defBody s_law) (defScope s_law) .none kV12 dc12 pm12 an12 cd12 ct12, fun s v => .of_eq rfl, fun base _ _ => ok_law T⟩
theorem walk {l : PySem.W.OpenLaw} {q : Program} {loose : List Str} {XP : (Str → Option Value) → Heap → Prop} {YP : World → Heap → Prop} {d : DefRec} {K : Params → PySem.W.Frag} (hn : l.most = some 63) (hdf : d.params.defaults = [])
    (hY : ∀ (w : World) (h : Heap), YP w h → (K w.params).In h)
    (F : ∀ (w : World) (mg : Str → Option Value) (fa : Addr) (h : Heap), (K w.params).In h → h.Ns mainGlobals mg → mg d.name = some (.ref fa) →
      ∃ fd : FuncData, (∀ (s : Shared) (u : Value), BindsTo s fd ⟨[u], []⟩ [("_law_script", u)]) ∧ ∀ base : Heap, (K w.params).In base → base.Ns mainGlobals mg → FnOk l.prog w (K w.params) mg base CX0 4 fa fd ["_law_script"] (spLaw (K w.params))) :
    PySem.W.WalkO q loose XP YP l.row.toRowW d [] (fun f vs => PySem.call f vs) :=
  My.walk_ofB (n := 63) (k := 4) (x := "_law_script") (CX := fun _ => CX0) (sp := fun w => spLaw (K w.params)) hn (by decide) hdf ⟨rfl, by decide, by decide⟩ hY F (fun _ _ a ns hl hb _ hS => ⟨a, ns, rfl, hS, hl, hb, fun _ => rfl⟩) fun _ _ _ _ _ z => z
end Lw
open PySem PySem.W PyProof.Rows
set_option maxRecDepth 100000 in
set_option maxHeartbeats 0 in
theorem PySem.Challenge.cw_skewhouse_k64_least_rings_holds : PySem.Challenge.rw_skewhouse_k64_least_rings.Holds := by
  w_on; o_law; k_head; (case hw => w_witness2)
  k_fill
  refine Lw.walk (l := PySem.Challenge.rw_skewhouse_k64_least_rings) rfl rfl (fun w h Y => PySem.W.kIn_of Y) ?F
  case F =>
    intro w mg fa h KX G hmg
    refine' Lw.all_mk KX G hmg ?a0 ?l0 ?c0 ?k0 ?a1 ?l1 ?c1 ?k1 ?a2 ?l2 ?c2 ?k2 ?a3 ?l3 ?c3 ?k3 ?a4 ?l4 ?c4 ?k4 ?a5 ?l5 ?c5 ?k5 ?a6 ?l6 ?c6 ?k6 ?a7 ?l7 ?c7 ?k7 ?a8 ?l8 ?c8 ?k8 ?a9 ?l9 ?c9 ?k9 ?a10 ?l10 ?c10 ?k10 ?a11 ?l11 ?c11 ?k11 ?a12 ?l12 ?c12 ?k12 ?z0 ?z1 ?z2 ?z3 ?z4 ?z5 ?z6 ?z7 ?z8 ?z9 ?z10 ?z11
    (case a0 => k_is); (case l0 => k_is); (case c0 => k_is); (case k0 => k_is)
    (case a1 => k_is); (case l1 => k_is); (case c1 => k_is); (case k1 => k_is)
    (case a2 => k_is); (case l2 => k_is); (case c2 => k_is); (case k2 => k_is)
    (case a3 => k_is); (case l3 => k_is); (case c3 => k_is); (case k3 => k_is)
    (case a4 => k_is); (case l4 => k_is); (case c4 => k_is); (case k4 => k_is)
    (case a5 => k_is); (case l5 => k_is); (case c5 => k_is); (case k5 => k_is)
    (case a6 => k_is); (case l6 => k_is); (case c6 => k_is); (case k6 => k_is)
    (case a7 => k_is); (case l7 => k_is); (case c7 => k_is); (case k7 => k_is)
    (case a8 => k_is); (case l8 => k_is); (case c8 => k_is); (case k8 => k_is)
    (case a9 => k_is); (case l9 => k_is); (case c9 => k_is); (case k9 => k_is)
    (case a10 => k_is); (case l10 => k_is); (case c10 => k_is); (case k10 => k_is)
    (case a11 => k_is); (case l11 => k_is); (case c11 => k_is); (case k11 => k_is)
    (case a12 => k_is); (case l12 => k_is); (case c12 => k_is); (case k12 => k_is)
    (case z0 => k_is)
    (case z1 => k_is)
    (case z2 => k_is)
    (case z3 => k_is)
    (case z4 => k_is)
    (case z5 => k_is)
    (case z6 => k_is)
    (case z7 => k_is)
    (case z8 => k_is)
    (case z9 => k_is)
    (case z10 => k_is)
    (case z11 => k_is)

