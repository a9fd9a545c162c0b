import PyProof.Rows.All
import Wide.All
import OpenK.AllK
import Wide.FinOn
import Lean
import PyProof.EqAt
import PyProof.EqKinds
import PyProof.TupleCall
import PySem.Challenge.RW_skewhouse_k17_whole_what_was_stays
set_option Elab.async false
set_option linter.all false
set_option maxRecDepth 100000
/-! THE HAND LAYER, for ints, bools, texts, own classes, LISTS and tuples (index, slices, in, append, pop ..), calls, loops. Paste it whole ahead of your own text; what your proof does not reach may be deleted. -/
namespace L2
open PySem PySem.Spec PyProof.Rows

/-- a key: an int or a str -/
abbrev Key := Sum Int Str
def keyIs : Key → Value → Bool
  | .inl k, v => Value.isInt k v
  | .inr x, v => Value.isStrOf x v
def keyH (w : World) : Key → Int
  | .inl k => hashInt k
  | .inr x => hashStr w x
theorem keyIs_shape : ∀ {k : Key} {v : Value}, keyIs k v = true → (∃ i t, k = Sum.inl i ∧ v = Value.int i t) ∨ (∃ x t, k = Sum.inr x ∧ v = Value.str x t)
  | .inl i, v, h => by
    obtain ⟨t, e⟩ := Value.isInt_shape (k := i) (v := v) h
    exact .inl ⟨i, t, rfl, e⟩
  | .inr x, v, h => by
    obtain ⟨t, e⟩ := Value.isStrOf_shape (x := x) (v := v) h
    exact .inr ⟨x, t, rfl, e⟩
theorem keyIs_int (i : Int) (t : Tok) : keyIs (.inl i) (.int i t) = true := by simp [keyIs, Value.isInt]
theorem keyIs_str (x : Str) (t : Tok) : keyIs (.inr x) (.str x t) = true := by simp [keyIs, Value.isStrOf]
theorem key_ll (a b : Int) : decide ((Sum.inl a : Key) = Sum.inl b) = (a == b) := by
  by_cases e : a = b
  · subst e; simp
  · have h : ¬ (Sum.inl a : Key) = Sum.inl b := fun q => e (Sum.inl.inj q)
    rw [decide_eq_false h]
    exact (beq_eq_false_iff_ne.mpr e).symm
theorem key_rr (a b : Str) : decide ((Sum.inr a : Key) = Sum.inr b) = decide (a = b) := by
  by_cases e : a = b
  · subst e; simp
  · have h : ¬ (Sum.inr a : Key) = Sum.inr b := fun q => e (Sum.inr.inj q)
    rw [decide_eq_false h, decide_eq_false e]
theorem key_lr (a : Int) (b : Str) : decide ((Sum.inl a : Key) = Sum.inr b) = false := decide_eq_false (fun q => nomatch q)
theorem key_rl (a : Str) (b : Int) : decide ((Sum.inr a : Key) = Sum.inl b) = false := decide_eq_false (fun q => nomatch q)

def mixKind (prog : Program) (w : World) : PySem.KeyKind prog w Key where
  is := keyIs
  hash := keyH w
  inj := fun v a b ha hb => by
    rcases keyIs_shape ha with ⟨i, t, rfl, rfl⟩ | ⟨x, t, rfl, rfl⟩
    · rcases keyIs_shape hb with ⟨j, u, rfl, e⟩ | ⟨y, u, rfl, e⟩
      · injection e with e1 _; rw [e1]
      · exact nomatch e
    · rcases keyIs_shape hb with ⟨j, u, rfl, e⟩ | ⟨y, u, rfl, e⟩
      · exact nomatch e
      · injection e with e1 _; rw [e1]
  byValue := fun k v h => by
    rcases keyIs_shape h with ⟨i, t, rfl, rfl⟩ | ⟨x, t, rfl, rfl⟩ <;> rfl
  pyHash := fun hv h => by
    rcases keyIs_shape hv with ⟨i, t, rfl, rfl⟩ | ⟨x, t, rfl, rfl⟩
    · exact wpAny_pyHash_int h
    · exact wpAny_pyHash_str h
  eqBool := fun hu hv h => by
    rcases keyIs_shape hu with ⟨i, t, rfl, rfl⟩ | ⟨x, t, rfl, rfl⟩
    · rcases keyIs_shape hv with ⟨j, u, rfl, rfl⟩ | ⟨y, u, rfl, rfl⟩
      · rw [key_ll] at h; exact wpAny_eqBool_int h
      · rw [key_lr] at h; exact SeqAt.EqAt.int_str i t y u _ _ _ _ h
    · rcases keyIs_shape hv with ⟨j, u, rfl, rfl⟩ | ⟨y, u, rfl, rfl⟩
      · rw [key_rl] at h; exact SeqAt.EqAt.str_int x t j u _ _ _ _ h
      · rw [key_rr] at h; exact wpAny_eqBool_str h
  «strs» := fun k x t v h => by
    rcases keyIs_shape h with ⟨i, u, rfl, e⟩ | ⟨y, u, rfl, e⟩
    · exact nomatch e
    · injection e with e1 _
      subst e1
      cases v <;> rfl

theorem mixKind_int (prog : Program) (w : World) (i : Int) (t : Tok) : (mixKind prog w).is (.inl i) (.int i t) = true := keyIs_int i t
theorem mixKind_str (prog : Program) (w : World) (x : Str) (t : Tok) : (mixKind prog w).is (.inr x) (.str x t) = true := keyIs_str x t
end L2

namespace L2
open PySem PySem.Spec PyProof.Rows

/-- a value, without the heap -/
inductive V where
  | non | bl (b : Bool) | int (i : Int) | str (x : Str) | byt (b : Array UInt8) | flt (b : UInt64) | ref (a : Addr) | ty (n : String)
  deriving DecidableEq

def RelV : V → Value → Prop
  | .non, u => u = Value.none
  | .bl b, u => u = Value.bool b
  | .int i, u => ∃ t, u = Value.int i t
  | .str x, u => ∃ t, u = Value.str x t
  | .byt b, u => ∃ t, u = Value.bytes b t
  | .flt b, u => ∃ t, u = Value.float b t
  | .ref a, u => u = Value.ref a
  | .ty n, u => u = Value.type n

abbrev Vals : List V → List Value → Prop := Paired RelV
theorem Vals.length {xs : List V} {us : List Value} (r : Vals xs us) : xs.length = us.length := Paired.length r
theorem Vals.get : ∀ {xs : List V} {us : List Value} {i : Nat} {x : V}, Vals xs us → xs[i]? = some x → ∃ u, us[i]? = some u ∧ RelV x u
  | _, _, _, _, .nil, e => by simp at e
  | _, _, 0, _, .cons r _, e => by simp at e; subst e; exact ⟨_, rfl, r⟩
  | _, _, i + 1, x, .cons _ t, e => by
    obtain ⟨u, h1, h2⟩ := Vals.get (i := i) (x := x) t (by simpa using e)
    exact ⟨u, by simpa using h1, h2⟩
theorem Vals.set {x : V} {u : Value} (r : RelV x u) : ∀ {xs : List V} {us : List Value} (i : Nat), Vals xs us → Vals (xs.set i x) (us.set i u)
  | _, _, _, .nil => .nil
  | _, _, 0, .cons _ t => .cons r t
  | _, _, i + 1, .cons q t => .cons q (Vals.set r i t)
theorem Vals.append : ∀ {xs ys : List V} {us ws : List Value}, Vals xs us → Vals ys ws → Vals (xs ++ ys) (us ++ ws)
  | _, _, _, _, .nil, s => s
  | _, _, _, _, .cons r t, s => .cons r (Vals.append t s)
theorem Vals.take : ∀ {xs : List V} {us : List Value} (n : Nat), Vals xs us → Vals (xs.take n) (us.take n)
  | _, _, 0, _ => .nil
  | _, _, _ + 1, .nil => .nil
  | _, _, n + 1, .cons r t => .cons r (Vals.take n t)
theorem Vals.drop : ∀ {xs : List V} {us : List Value} (n : Nat), Vals xs us → Vals (xs.drop n) (us.drop n)
  | _, _, 0, r => r
  | _, _, _ + 1, .nil => .nil
  | _, _, n + 1, .cons _ t => Vals.drop n t
def RelO : Option V → Option Value → Prop
  | some v, some u => RelV v u
  | none, none => True
  | _, _ => False
def KV {κ : Type} : List (κ × V) → List (κ × Value) → Prop := Paired fun (p : κ × V) (q : κ × Value) => p.1 = q.1 ∧ RelV p.2 q.2

/-- a key of a dict (00_mix): an int or a text -/
def kV : Key → V
  | .inl i => .int i
  | .inr x => .str x

/-- what stands at a tracked address -/
inductive HO where
  /-- a list -/
  | lst (xs : List V)
  /-- a tuple (never changes) -/
  | tup (xs : List V)
  /-- a dict whose keys are ints and texts; one whose keys are tuples of ints and texts (the empty one is both) -/
  | dK (kvs : List (Key × V)) | dT (kvs : List (List Key × V))
  /-- a set of ints: its members, its size -/
  | set (S : Int → Bool) (n : Nat)
  /-- an instance of the class at C, its dict at dx, its attributes -/
  | ins (C dx : Addr) (fs : List (Str × V))
  /-- the dict of the instance at x -/
  | own (x : Addr)
  /-- the dict of an exception -/
  | xd (fs : List (Str × V))
  /-- a bound method, f of x -/
  | met (f x : Addr)
  /-- a range object lo, lo + 1, .. below hi -/
  | rng (lo hi : Int)
  /-- a thing that is known to the object (the script; a dict while a loop walks it): read, never written while it is so -/
  | frz (o : Obj) (u : HO)
  /-- a code object's table -/
  | tbl (ps : Array Value)
  /-- any other thing, by what is true of its one object (a def of one's own: SetO a S n := HO.ext fun h => ..) -/
  | ext (φ : Heap → Prop)

abbrev Hp := Addr → Option HO
def upd (H : Hp) (a : Addr) (o : HO) : Hp := fun b => if b = a then some o else H b
theorem upd_same {H : Hp} {a : Addr} {o : HO} : upd H a o a = some o := by unfold upd; rw [if_pos rfl]
theorem upd_ne {H : Hp} {a b : Addr} {o : HO} (h : b ≠ a) : upd H a o b = H b := by unfold upd; rw [if_neg h]
/-- two objects of different content stand apart -/
theorem ne_of {H : Hp} {a b : Addr} {o u : HO} (h : H a = some o) (h' : H b = some u) (d : o ≠ u) : a ≠ b := by
  intro e; subst e; rw [h] at h'; exact d (Option.some.inj h')
theorem ne_of_none {H : Hp} {a b : Addr} {o : HO} (h : H a = some o) (h' : H b = none) : a ≠ b := by
  intro e; subst e; rw [h] at h'; cases h'

section
variable (P : Program) (w : World)
def ObjOk (H : Hp) (h : Heap) (a : Addr) : HO → Prop
  | .lst xs => xs.length ≤ sizeLine ∧ ∃ (its : List Value) (n : Nat), Vals xs its ∧ h.get? a = some { cls := .type "list", data := .seq its.toArray n }
  | .tup xs => xs.length ≤ sizeLine ∧ ∃ its : List Value, Vals xs its ∧ IsTup h a its.toArray
  | .dK kvs => kvs.length ≤ sizeLine ∧ (a == sysModules) = false ∧ ∃ vs, KV kvs vs ∧ h.DictOf (mixKind P w) a vs
  | .dT kvs => kvs.length ≤ sizeLine ∧ (a == sysModules) = false ∧ ∃ xs : List (List Key × Addr × Value),
      Paired (fun (p : List Key × V) (q : List Key × Addr × Value) => p.1 = q.1 ∧ H q.2.1 = some (.tup (p.1.map kV)) ∧ RelV p.2 q.2.2) kvs xs ∧
      ∃ o es ep, h.get? a = some o ∧ o.ExactDict ∧ o.data = .dict es ep ∧ es.toList = xs.map (entryOfKey (tupleKind (mixKind P w))) ∧ (xs.map (·.1)).Nodup
  | .set S n => h.SetOf (intKind P w) a S n
  | .ins C dx fs => H dx = some (.own a) ∧ fs.length ≤ 1000 ∧ dx ≠ a ∧ h.get? a = some (PySem.W.instObj C dx) ∧
      ∃ mA, h.Ns1 dx mA ∧ (∀ f, RelO (fs.lookup f) (mA f)) ∧ PySem.Within mA (fs.map (·.1))
  | .own _ => ∃ o, h.get? a = some o
  | .xd fs => ∃ mA, h.Ns1 a mA ∧ ∀ f, RelO (fs.lookup f) (mA f)
  | .rng lo hi => ∃ t u v, h.get? a = some { cls := .type "range", data := .fields #[.int lo t, .int hi u, .int 1 v] }
  | .frz o u => h.get? a = some o ∧ ObjOk H h a u
  | .tbl ps => h.get? a = some { cls := .none, data := .fields ps }
  | .met f x => h.get? a = some (PySem.W.methodObj (.ref f) (.ref x))
  | .ext φ => φ h ∧ (∃ o, h.get? a = some o) ∧ ∀ h1 h2 : Heap, φ h1 → (∀ o, h1.get? a = some o → h2.get? a = some o) → φ h2
/-- the abstract heap is held -/
def HOk (H : Hp) (h : Heap) : Prop := ∀ a o, H a = some o → ObjOk P w H h a o
end

section
variable {P : Program} {w : World} {H H' : Hp} {h h' : Heap} {a : Addr} {o : HO}
theorem ObjOk.lt (x : ObjOk P w H h a o) : a < h.objs.size := by
  cases o with
  | lst xs => obtain ⟨_, _, _, _, e⟩ := x; exact Heap.lt_size e
  | tup xs => obtain ⟨_, _, _, p⟩ := x; exact p.lt
  | dK kvs => obtain ⟨_, _, _, _, o, _, _, e, _⟩ := x; exact Heap.lt_size e
  | dT kvs => obtain ⟨_, _, _, _, o, _, _, e, _⟩ := x; exact Heap.lt_size e
  | set S n => obtain ⟨o, _, _, _, e, _⟩ := x; exact Heap.lt_size e
  | ins C dx fs => obtain ⟨_, _, _, e, _⟩ := x; exact Heap.lt_size e
  | own y => obtain ⟨_, e⟩ := x; exact Heap.lt_size e
  | xd fs => obtain ⟨_, ⟨_, _, _, e, _⟩, _⟩ := x; exact Heap.lt_size e
  | rng lo hi => obtain ⟨_, _, _, e⟩ := x; exact Heap.lt_size e
  | frz ob u => obtain ⟨e, _⟩ := x; exact Heap.lt_size e
  | tbl ps => exact Heap.lt_size (show h.get? a = some _ from x)
  | met f y => exact Heap.lt_size (show h.get? a = some _ from x)
  | ext φ => obtain ⟨_, ⟨_, e⟩, _⟩ := x; exact Heap.lt_size e
theorem Paired.mapP {α β : Type} {F G : α → β → Prop} : ∀ {l₁ : List α} {l₂ : List β}, Paired F l₁ l₂ → (∀ a b, F a b → G a b) → Paired G l₁ l₂
  | _, _, .nil, _ => .nil
  | _, _, .cons r t, f => .cons (f _ _ r) (Paired.mapP t f)
/-- what an object's description leans on: its own object, its own dict, the tuples -/
theorem ObjOk.stay (x : ObjOk P w H h a o) (k : ∀ b u, (b = a ∨ H b = some (.own a)) → h.get? b = some u → h'.get? b = some u)
    (ho : ∀ b, H b = some (.own a) → H' b = some (.own a)) (ht : ∀ b xs, H b = some (.tup xs) → H' b = some (.tup xs)) : ObjOk P w H' h' a o := by
  induction o with
  | lst xs => obtain ⟨z, its, n, r, e⟩ := x; exact ⟨z, its, n, r, k _ _ (.inl rfl) e⟩
  | tup xs => obtain ⟨z, its, r, ob, e, c⟩ := x; exact ⟨z, its, r, ob, k _ _ (.inl rfl) e, c⟩
  | dK kvs => obtain ⟨z, y, vs, r, ob, es, ep, e, c⟩ := x; exact ⟨z, y, vs, r, ob, es, ep, k _ _ (.inl rfl) e, c⟩
  | dT kvs =>
    obtain ⟨z, y, xs, r, ob, es, ep, e, c⟩ := x
    exact ⟨z, y, xs, Paired.mapP r fun p q z => ⟨z.1, ht _ _ z.2.1, z.2.2⟩, ob, es, ep, k _ _ (.inl rfl) e, c⟩
  | set S n => obtain ⟨ob, es, ep, t, e, c⟩ := x; exact ⟨ob, es, ep, t, k _ _ (.inl rfl) e, c⟩
  | ins C dx fs =>
    obtain ⟨d, z, ne, e, mA, ⟨od, es, ep, e2, c⟩, r⟩ := x
    exact ⟨ho _ d, z, ne, k _ _ (.inl rfl) e, mA, ⟨od, es, ep, k _ _ (.inr d) e2, c⟩, r⟩
  | own y => obtain ⟨ob, e⟩ := x; exact ⟨ob, k _ _ (.inl rfl) e⟩
  | xd fs => obtain ⟨mA, ⟨od, es, ep, e, c⟩, r⟩ := x; exact ⟨mA, ⟨od, es, ep, k _ _ (.inl rfl) e, c⟩, r⟩
  | rng lo hi => obtain ⟨t, u, v, e⟩ := x; exact ⟨t, u, v, k _ _ (.inl rfl) e⟩
  | frz ob u ih => obtain ⟨e, q⟩ := x; exact ⟨k _ _ (.inl rfl) e, ih q⟩
  | tbl ps =>
    have e : h.get? a = some { cls := .none, data := .fields ps } := x
    show h'.get? a = some { cls := .none, data := .fields ps }
    exact k a _ (.inl rfl) e
  | met f y =>
    have e : h.get? a = some (PySem.W.methodObj (.ref f) (.ref y)) := x
    show h'.get? a = some (PySem.W.methodObj (.ref f) (.ref y))
    exact k a _ (.inl rfl) e
  | ext φ => obtain ⟨p, ⟨o, e⟩, st⟩ := x; exact ⟨st _ _ p fun o q => k _ _ (.inl rfl) q, ⟨o, k _ _ (.inl rfl) e⟩, st⟩
theorem HOk.lt (x : HOk P w H h) (e : H a = some o) : a < h.objs.size := (x a o e).lt
theorem HOk.fresh (x : HOk P w H h) (e : h.objs.size ≤ a) : H a = none := by
  cases q : H a with
  | none => rfl
  | some u => exact absurd (Nat.lt_of_lt_of_le (x.lt q) e) (Nat.lt_irrefl _)
/-- every object of the heap is kept -/
theorem HOk.kept (x : HOk P w H h) (k : ∀ b u, h.get? b = some u → h'.get? b = some u) : HOk P w H h' := fun a o e =>
  (x a o e).stay (fun b u _ q => k b u q) (fun _ q => q) fun _ _ q => q
/-- a new object is laid and tracked -/
theorem HOk.laid (x : HOk P w H h) (k : ∀ b u, h.get? b = some u → h'.get? b = some u) (hp : h.objs.size ≤ a) (new : ObjOk P w (upd H a o) h' a o) : HOk P w (upd H a o) h' := fun b u e => by
  have hn := x.fresh hp
  by_cases hb : b = a
  · subst hb; rw [upd_same] at e; cases e; exact new
  · rw [upd_ne hb] at e
    exact (x b u e).stay (fun c v _ q => k c v q) (fun c q => by rw [upd_ne (ne_of_none q hn)]; exact q) fun c xs q => by rw [upd_ne (ne_of_none q hn)]; exact q
end

/-- what may be read as u: it is u, or a known u -/
def Rd (H : Hp) (a : Addr) (u : HO) : Prop := H a = some u ∨ ∃ o, H a = some (.frz o u)
theorem Rd.ok {P : Program} {w : World} {H : Hp} {h : Heap} {a : Addr} {u : HO} (r : Rd H a u) (x : HOk P w H h) : ObjOk P w H h a u := by
  rcases r with r | ⟨o, r⟩
  · exact x a u r
  · obtain ⟨_, q⟩ := x a _ r
    exact q
/-- what may be written -/
def Mut : Option HO → Prop
  | some (.lst _) => True
  | some (.dK _) => True
  | some (.dT _) => True
  | some (.set _ _) => True
  | some (.ins _ _ _) => True
  | some (.ext _) => True
  | _ => False
section
variable {P : Program} {w : World} {H : Hp} {h h' : Heap} {x e : Addr} {o' : HO}
/-- the object at e is changed: x itself, or the dict of the instance x -/
theorem HOk.write (ok : HOk P w H h) (mu : Mut (H x)) (he : e = x ∨ H e = some (.own x)) (k : ∀ b u, b ≠ e → h.get? b = some u → h'.get? b = some u) (heo : ∃ u, h'.get? e = some u)
    (new : ObjOk P w (upd H x o') h' x o') : HOk P w (upd H x o') h' := fun b u q => by
  have nown : ∀ c y, H c = some (.own y) → c ≠ x := fun c y r z => by subst z; rw [r] at mu; exact mu
  have ntup : ∀ c xs, H c = some (.tup xs) → c ≠ x := fun c xs r z => by subst z; rw [r] at mu; exact mu
  by_cases hb : b = x
  · subst hb; rw [upd_same] at q; cases q; exact new
  · rw [upd_ne hb] at q
    by_cases hbe : b = e
    · have q' : H b = some (.own x) := by
        rcases he with z | z
        · exact absurd (hbe.trans z) hb
        · rw [hbe]; exact z
      rw [q] at q'; cases q'
      obtain ⟨v, hv⟩ := heo
      exact ⟨v, by rw [hbe]; exact hv⟩
    · refine (ok b u q).stay (fun c v hc r => k c v ?_ r) (fun c r => by rw [upd_ne (nown c b r)]; exact r) fun c xs r => by rw [upd_ne (ntup c xs r)]; exact r
      rcases hc with rfl | hc
      · exact hbe
      · rintro rfl
        rcases he with z | z
        · exact nown c b hc z
        · rw [hc] at z; cases z; exact hb rfl
end

/-! ### kept unless tracked; of the frames at fs (the callers') the slots may change (an exception that passes writes there); of the records at ex (iterators) nothing is said -/
structure Un (fs ex : List Addr) (H H' : Hp) (h h' : Heap) : Prop where
  keep : ∀ b o, h.get? b = some o → H b = none → b ∉ fs → b ∉ ex → h'.get? b = some o
  slot : ∀ b o, h.get? b = some o → H b = none → b ∈ fs → b ∉ ex → ∃ sl, h'.get? b = some { o with slots := sl }
  free : ∀ b o, h.get? b = some o → H b = none → b ∉ ex → H' b = none
  there : ∀ b o, h.get? b = some o → b ∉ ex → ∃ o', h'.get? b = some o'
  tups : ∀ b xs, H b = some (.tup xs) → H' b = some (.tup xs)
  frzs : ∀ b o u, H b = some (.frz o u) → H' b = some (.frz o u)
  tbls : ∀ b ps, H b = some (.tbl ps) → ∃ more, H' b = some (.tbl (ps ++ more))
section
variable {fs fs' ex ex' : List Addr} {H H1 H2 : Hp} {h h1 h2 h' : Heap} {a x e : Addr} {o : HO}
theorem Un.any (u : Un fs ex H H1 h h1) {b : Addr} {ob : Obj} (q : h.get? b = some ob) (n : H b = none) (hx : b ∉ ex) : ∃ sl, h1.get? b = some { ob with slots := sl } := by
  by_cases hb : b ∈ fs
  · exact u.slot b ob q n hb hx
  · exact ⟨ob.slots, u.keep b ob q n hb hx⟩
theorem Un.kept (k : ∀ b u, h.get? b = some u → h'.get? b = some u) : Un fs ex H H h h' :=
  ⟨fun b ob q _ _ _ => k b ob q, fun b ob q _ _ _ => ⟨ob.slots, k b ob q⟩, fun _ _ _ n _ => n, fun b ob q _ => ⟨ob, k b ob q⟩, fun _ _ q => q, fun _ _ _ q => q, fun _ ps q => ⟨#[], by rw [q]; simp⟩⟩
theorem Un.refl : Un fs ex H H h h := Un.kept fun _ _ q => q
theorem Un.laid (k : ∀ b u, h.get? b = some u → h'.get? b = some u) (hp : h.objs.size ≤ a) (hn : H a = none) : Un fs ex H (upd H a o) h h' where
  keep := fun b u q _ _ _ => k b u q
  slot := fun b u q _ _ _ => ⟨u.slots, k b u q⟩
  free := fun b u q n _ => by rw [upd_ne (Nat.ne_of_lt (Nat.lt_of_lt_of_le (Heap.lt_size q) hp))]; exact n
  there := fun b u q _ => ⟨u, k b u q⟩
  tups := fun b xs q => by rw [upd_ne (ne_of_none q hn)]; exact q
  frzs := fun b u xs q => by rw [upd_ne (ne_of_none q hn)]; exact q
  tbls := fun b ps q => ⟨#[], by rw [upd_ne (ne_of_none q hn), q]; simp⟩
theorem Un.write (mu : Mut (H x)) (he : e = x ∨ H e = some (.own x)) (k : ∀ b u, b ≠ e → h.get? b = some u → h'.get? b = some u) (heo : ∃ u, h'.get? e = some u) : Un fs ex H (upd H x o) h h' := by
  have hx : ∀ b, H b = none → b ≠ x := fun b n z => by subst z; rw [n] at mu; exact mu
  have hb : ∀ b, H b = none → b ≠ e := fun b n z => by
    subst z
    rcases he with r | r
    · exact hx b n r
    · rw [n] at r; cases r
  have hm : ∀ b u, H b = some u → ¬ Mut (some u) → b ≠ x := fun b u q nm z => by subst z; rw [q] at mu; exact nm mu
  refine ⟨fun b u q n _ _ => k b u (hb b n) q, fun b u q n _ _ => ⟨u.slots, k b u (hb b n) q⟩, fun b u q n _ => by rw [upd_ne (hx b n)]; exact n, fun b u q _ => ?_,
    fun b xs q => by rw [upd_ne (hm b _ q fun z => z)]; exact q, fun b u xs q => by rw [upd_ne (hm b _ q fun z => z)]; exact q, fun b ps q => ⟨#[], by rw [upd_ne (hm b _ q fun z => z), q]; simp⟩⟩
  by_cases hbe : b = e
  · subst hbe; exact heo
  · exact ⟨u, k b u hbe q⟩
end

/-! ### the heap without what is tracked -/
def trk (h : Heap) (H : Hp) : List Addr := (List.range h.objs.size).filter fun a => (H a).isSome
def hidT (h : Heap) (H : Hp) : Heap := PySem.W.hideAll h (trk h H)
theorem hidT_size (h : Heap) (H : Hp) : (hidT h H).objs.size = h.objs.size := PySem.W.hideAll_size _ _
theorem hidT_get {h : Heap} {H : Hp} {b : Addr} {o : Obj} (e : h.get? b = some o) (n : H b = none) : (hidT h H).get? b = some o :=
  PySem.W.hideAll_get _ e fun hm => by
    have q : (H b).isSome = true := (List.mem_filter.mp hm).2
    rw [n] at q; simp at q
theorem of_hidT {h : Heap} {H : Hp} {b : Addr} {o : Obj} (e : (hidT h H).get? b = some o) : h.get? b = some o ∧ H b = none := by
  have e' : h.get? b = some o := PySem.W.of_hideAll (trk h H) e
  refine ⟨e', ?_⟩
  cases q : H b with
  | none => rfl
  | some x =>
    have hm : b ∈ trk h H := List.mem_filter.mpr ⟨List.mem_range.mpr (Heap.lt_size e'), by simp [q]⟩
    have z : (hidT h H).get? b = none := PySem.W.hideAll_none (trk h H) hm
    rw [z] at e; cases e

/-! ### OpenK's ledger, filled with every new object but one -/
def allNews (g h : Heap) (L : Addr) : List (Addr × Obj) := (List.range h.objs.size).filterMap fun a => if a = L ∨ (g.get? a).isSome = true then none else (h.get? a).map fun o => (a, o)
def rest (g h : Heap) (L d : Addr) : List (Addr × Obj) := (allNews g h L).filter fun p => decide (p.1 ≠ d)
end L2

namespace L2
open PySem PySem.Spec PyProof.Rows

/-- the module's facts, over the base: the heap at the law's entry without what is tracked there -/
structure Mod (K : PySem.W.Frag) (mg : Str → Option Value) (base : Heap) : Prop where
  kin : K.In base
  glob : base.Ns mainGlobals mg
  blt : ∃ mb, base.Ns builtinsNs mb ∧ ∀ x : Str, x ≠ "__name__" → mb x = bootBuiltins x
  nolimit : base.NoLimit

/-- the context: a def's body (or a comprehension's block) running. base: fixed through the whole law; s₀, H₀: the entry; outer: the frames whose slots others may change (a def's callers); stack: all frames that run;
   ex: iterators that were made ahead of the entry and are walked here (a comprehension's); fn: the names whose cells were made at the entry (a def: all; a comprehension's block: its own); calm: not within an except suite; pn: pins that every state bears; xe: what is wanted of an exception that leaves the code -/
structure Cx where
  prog : Program
  w : World
  K : PySem.W.Frag
  mg : Str → Option Value
  base : Heap
  A : Around
  N : List Str
  s₀ : Shared
  H₀ : Hp
  env : Env
  outer : List Env
  stack : List Env
  ex : List Addr
  fn : Str → Bool
  calm : Bool
  pn : List (Addr × Obj)
  xe : Value → Shared → Prop
/-- the callers' frames -/
def frs (l : List Env) : List Addr := l.filterMap (·.frame)
abbrev Cx.fs (X : Cx) : List Addr := frs X.outer

def Vis (sc : Scope) (x : Str) : Prop := sc.names.lookup x = some .local ∨ sc.names.lookup x = some .cell ∨ sc.names.lookup x = some .free
def Loc (sc : Scope) (x : Str) : Prop := sc.names.lookup x = some .local ∨ sc.names.lookup x = some .cell
def Look (env : Env) (h : Heap) (m : Str → Option Value) (x : Str) (u : Value) : Prop :=
  (env.kindOf x = some .local ∧ m x = some u) ∨ ((env.kindOf x = some .cell ∨ env.kindOf x = some .free) ∧ ∃ c, env.cells.lookup x = some c ∧ h.IsCell c (some u))

structure Cx.Ok (X : Cx) : Prop where
  mod : Mod X.K X.mg X.base
  kind : X.env.scope.kind = .function
  glob : X.env.globals = mainGlobals
  blt : X.env.builtins = builtinsNs
  above : X.s₀.heap.objs.size ≤ X.env.locals
  inj : ∀ x y c, X.env.cells.lookup x = some c → X.env.cells.lookup y = some c → x = y
  has : ∀ x, (X.env.kindOf x = some .cell ∨ X.env.kindOf x = some .free) → ∃ c, X.env.cells.lookup x = some c
  cab : ∀ x c, X.fn x = true → X.env.cells.lookup x = some c → X.s₀.heap.objs.size ≤ c
  hd : X.calm = true → X.A.handled = none
  frames : X.A.frames = some X.stack
  stk : X.stack = X.outer ∨ (X.stack = X.env :: X.outer ∧ X.env.frame = some X.env.locals)
  exf : ∀ b ∈ X.ex, b ≠ X.env.locals ∧ ∀ x c, X.env.cells.lookup x = some c → c ≠ b
  bs : ∀ b o, X.base.get? b = some o → X.s₀.heap.get? b = some o ∧ X.H₀ b = none
  bsz : X.base.objs.size ≤ X.s₀.heap.objs.size
  noex : ∀ b o, X.base.get? b = some o → b ∉ X.ex
  exfs : ∀ b ∈ X.ex, b ∉ X.fs
  funs : X.s₀.heap.FunFrames X.base X.outer
  frf : ∀ b ∈ X.fs, X.H₀ b = none

structure Inv (X : Cx) (pins : List (Addr × Obj)) (σ : List (Option V)) (H : Hp) (s : Shared) : Prop where
  ok : X.Ok
  os : s.os = X.s₀.os
  bare : AllBare s.gens
  base : Un X.fs X.ex X.H₀ H X.s₀.heap s.heap
  loc : ∃ m, s.heap.Ns X.env.locals m ∧ ∀ (i : Nat) (x : Str) (v : V), X.N[i]? = some x → σ[i]? = some (some v) → Vis X.env.scope x → ∃ u, RelV v u ∧ Look X.env s.heap m x u
  cell : ∀ x c, X.env.cells.lookup x = some c → ∃ v, s.heap.IsCell c v
  free : H X.env.locals = none
  freeC : ∀ x c, X.env.cells.lookup x = some c → H c = none
  pin : ∀ p ∈ X.pn ++ pins, s.heap.get? p.1 = some p.2 ∧ H p.1 = none ∧ p.1 ≠ X.env.locals ∧ p.1 ∉ X.fs ∧ ∀ v, p.2.data ≠ .cell v
  hok : HOk X.prog X.w H s.heap
  len : σ.length = X.N.length

section
variable {X : Cx} {pins : List (Addr × Obj)} {σ : List (Option V)} {H H' : Hp} {s : Shared} {h' : Heap}

theorem Cx.Ok.nofr (ok : X.Ok) {b : Addr} {o : Obj} (e : X.base.get? b = some o) : b ∉ X.fs := fun hb => by
  have := (ok.funs.mem hb).1
  rw [e] at this; cases this
theorem Inv.bs (I : Inv X pins σ H s) : ∀ b o, X.base.get? b = some o → s.heap.get? b = some o ∧ H b = none := fun b o e =>
  ⟨I.base.keep b o (I.ok.bs b o e).1 (I.ok.bs b o e).2 (I.ok.nofr e) (I.ok.noex b o e), I.base.free b o (I.ok.bs b o e).1 (I.ok.bs b o e).2 (I.ok.noex b o e)⟩
theorem Inv.bk (I : Inv X pins σ H s) : ∀ b o, X.base.get? b = some o → s.heap.get? b = some o := fun b o e => (I.bs b o e).1
theorem Inv.mod (I : Inv X pins σ H s) : Mod X.K X.mg X.base := I.ok.mod
theorem Inv.kIn (I : Inv X pins σ H s) : X.K.In s.heap := I.ok.mod.kin.keeps I.bk
theorem Inv.lt (I : Inv X pins σ H s) : X.env.locals < s.heap.objs.size := let ⟨_, hn, _⟩ := I.loc; hn.lt
theorem Inv.sz (I : Inv X pins σ H s) : X.s₀.heap.objs.size ≤ s.heap.objs.size := Nat.le_trans I.ok.above (Nat.le_of_lt I.lt)
theorem Inv.nofs (I : Inv X pins σ H s) {a : Addr} (h : s.heap.objs.size ≤ a) : a ∉ X.fs := fun hb => by
  obtain ⟨_, o, ho, _⟩ := I.ok.funs.mem hb
  exact absurd (Nat.lt_of_lt_of_le (Heap.lt_size ho) (Nat.le_trans I.sz h)) (Nat.lt_irrefl _)
theorem Inv.cne (I : Inv X pins σ H s) : ∀ x c, X.env.cells.lookup x = some c → c ≠ X.env.locals := fun x c e z => by
  obtain ⟨v, o, ho, hd⟩ := I.cell x c e
  obtain ⟨m, ⟨o', es, ep, ho', hd', _⟩, _⟩ := I.loc
  rw [z, ho'] at ho; cases ho; rw [hd'] at hd; cases hd
theorem Inv.funs (I : Inv X pins σ H s) : s.heap.FunFrames X.base X.outer := by
  have all : ∀ (l : List Env), (∀ b ∈ frs l, b ∈ X.fs) → X.s₀.heap.FunFrames X.base l → s.heap.FunFrames X.base l := by
    intro l
    induction l with
    | nil => intro _ _; trivial
    | cons env r ih =>
      intro hs hl
      obtain ⟨hk, ⟨L, o, hf, hn, ho, hd⟩, hr⟩ := hl
      have hL : L ∈ X.fs := hs L (by unfold frs; rw [List.filterMap_cons, hf]; exact List.mem_cons_self)
      obtain ⟨sl, e⟩ := I.base.slot L o ho (I.ok.frf L hL) hL fun z => I.ok.exfs L z hL
      exact ⟨hk, ⟨L, _, hf, hn, e, hd⟩, ih (fun b hb => hs b (by unfold frs; rw [List.filterMap_cons, hf]; exact List.mem_cons_of_mem _ hb)) hr⟩
  exact all X.outer (fun _ hb => hb) I.ok.funs

/-- the frames that run, for a call -/
theorem Inv.stack (I : Inv X pins σ H s) : s.heap.FunFrames X.base X.stack := by
  rcases I.ok.stk with e | ⟨e, hf⟩
  · rw [e]; exact I.funs
  · rw [e]
    obtain ⟨m, hn, _⟩ := I.loc
    refine .cons (by rw [I.ok.kind]; decide) hf hn ?_ I.funs
    exact Heap.get?_none_of_le (Nat.le_trans I.ok.bsz I.ok.above)
theorem Inv.stkSub (I : Inv X pins σ H s) : ∀ b ∈ frs X.stack, b ∈ X.env.locals :: X.fs := fun b hb => by
  rcases I.ok.stk with e | ⟨e, hf⟩
  · rw [e] at hb; exact List.mem_cons_of_mem _ hb
  · rw [e] at hb
    unfold frs at hb
    rw [List.filterMap_cons, hf] at hb
    exact hb
theorem Inv.stkFree (I : Inv X pins σ H s) : ∀ b ∈ frs X.stack, H b = none := fun b hb => by
  rcases List.mem_cons.mp (I.stkSub b hb) with e | hb
  · rw [e]; exact I.free
  · obtain ⟨_, o, ho, _⟩ := I.ok.funs.mem hb
    exact I.base.free b o ho (I.ok.frf b hb) fun z => I.ok.exfs b z hb

/-- THE STEP: the untracked objects but the frame and the records at ch are kept (the callers' frames up to slots), the frame's map is kept, the new abstract heap is held -/
theorem Inv.step {g' : Array GenState} {t' : Nat} {d' : Drawn} {ch : List Addr} (I : Inv X pins σ H s)
    (hch : ∀ b ∈ ch, (b ∈ X.ex ∨ X.s₀.heap.objs.size ≤ b) ∧ b ≠ X.env.locals ∧ (∀ x c, X.env.cells.lookup x = some c → c ≠ b) ∧ ∀ p ∈ X.pn ++ pins, p.1 ≠ b)
    (keep : ∀ b o, b ≠ X.env.locals → b ∉ X.fs → b ∉ ch → s.heap.get? b = some o → H b = none → h'.get? b = some o)
    (slot : ∀ b o, b ≠ X.env.locals → b ∈ X.fs → b ∉ ch → s.heap.get? b = some o → H b = none → ∃ sl, h'.get? b = some { o with slots := sl }) (free : ∀ b o, b ∉ ch → s.heap.get? b = some o → H b = none → H' b = none)
    (there : ∀ b o, b ∉ ch → s.heap.get? b = some o → ∃ o', h'.get? b = some o')
    (tups : ∀ b xs, H b = some (.tup xs) → H' b = some (.tup xs)) (frzs : ∀ b o u, H b = some (.frz o u) → H' b = some (.frz o u)) (tbls : ∀ b ps, H b = some (.tbl ps) → ∃ more, H' b = some (.tbl (ps ++ more)))
    (ns : ∀ m, s.heap.Ns X.env.locals m → h'.Ns X.env.locals m) (hok : HOk X.prog X.w H' h') (hg : AllBare g') :
    Inv X pins σ H' { s with heap := h', gens := g', drawn := d', toks := t' } := by
  have neL : ∀ b o, X.s₀.heap.get? b = some o → b ≠ X.env.locals := fun b o e => Nat.ne_of_lt (Nat.lt_of_lt_of_le (Heap.lt_size e) I.ok.above)
  have neC : ∀ b o, X.s₀.heap.get? b = some o → b ∉ X.ex → b ∉ ch := fun b o e hx hb => by
    rcases (hch b hb).1 with z | z
    · exact hx z
    · exact absurd (Nat.lt_of_lt_of_le (Heap.lt_size e) z) (Nat.lt_irrefl _)
  have cellK : ∀ x c, X.env.cells.lookup x = some c → ∀ v, s.heap.IsCell c v → h'.IsCell c v := fun x c e v ⟨o, ho, hd⟩ => by
    have nch : c ∉ ch := fun z => (hch c z).2.2.1 x c e rfl
    by_cases hc : c ∈ X.fs
    · obtain ⟨sl, q⟩ := slot c o (I.cne x c e) hc nch ho (I.freeC x c e)
      exact ⟨_, q, hd⟩
    · exact ⟨o, keep c o (I.cne x c e) hc nch ho (I.freeC x c e), hd⟩
  refine ⟨I.ok, I.os, hg, ⟨fun b o e n hb hx => ?_, fun b o e n hb hx => ?_, fun b o e n hx => ?_, fun b o e hx => ?_, fun b xs e => tups b xs (I.base.tups b xs e), fun b o xs e => frzs b o xs (I.base.frzs b o xs e), fun b ps e => ?_⟩, ?_, fun x c e => ?_, ?_, fun x c e => ?_, fun p hp => ?_, hok, I.len⟩
  · exact keep b o (neL b o e) hb (neC b o e hx) (I.base.keep b o e n hb hx) (I.base.free b o e n hx)
  · obtain ⟨sl, e1⟩ := I.base.slot b o e n hb hx
    obtain ⟨sl', e2⟩ := slot b _ (neL b o e) hb (neC b o e hx) e1 (I.base.free b o e n hx)
    exact ⟨sl', e2⟩
  · obtain ⟨o', e1⟩ := I.base.there b o e hx
    exact free b o' (neC b o e hx) e1 (I.base.free b o e n hx)
  · obtain ⟨o', e1⟩ := I.base.there b o e hx
    exact there b o' (neC b o e hx) e1
  · obtain ⟨m1, e1⟩ := I.base.tbls b ps e
    obtain ⟨m2, e2⟩ := tbls b _ e1
    exact ⟨m1 ++ m2, by rw [e2, Array.append_assoc]⟩
  · obtain ⟨m, hn, hl⟩ := I.loc
    refine ⟨m, ns m hn, fun i x v e1 e2 e3 => ?_⟩
    obtain ⟨u, r, l⟩ := hl i x v e1 e2 e3
    refine ⟨u, r, ?_⟩
    rcases l with l | ⟨k, c, e, z⟩
    · exact .inl l
    · exact .inr ⟨k, c, e, cellK x c e _ z⟩
  · obtain ⟨v, z⟩ := I.cell x c e
    exact ⟨v, cellK x c e v z⟩
  · obtain ⟨m, ⟨o, _, _, ho, _⟩, _⟩ := I.loc
    exact free _ o (fun z => (hch _ z).2.1 rfl) ho I.free
  · obtain ⟨v, o, ho, hd⟩ := I.cell x c e
    exact free c o (fun z => (hch c z).2.2.1 x c e rfl) ho (I.freeC x c e)
  · obtain ⟨e, n, ne, nf, d⟩ := I.pin p hp
    have nch : p.1 ∉ ch := fun z => (hch p.1 z).2.2.2 p hp rfl
    exact ⟨keep p.1 p.2 ne nf nch e n, free p.1 p.2 nch e n, ne, nf, d⟩
/-- .. where the frame's own object is kept too -/
theorem Inv.un {t' : Nat} (I : Inv X pins σ H s) (u : Un X.fs [] H H' s.heap h') (hok : HOk X.prog X.w H' h') : Inv X pins σ H' { s with heap := h', toks := t' } := by
  obtain ⟨m, ⟨o, es, ep, ho, r⟩, _⟩ := id I.loc
  obtain ⟨sl, hL⟩ := u.any ho I.free (by simp)
  exact I.step (g' := s.gens) (d' := s.drawn) (ch := []) (fun _ z => nomatch z) (fun b o _ hb _ e n => u.keep b o e n hb (by simp)) (fun b o _ hb _ e n => u.slot b o e n hb (by simp)) (fun b o _ e n => u.free b o e n (by simp)) (fun b o _ e => u.there b o e (by simp)) u.tups u.frzs u.tbls (fun m' hm => by
    obtain ⟨o', es', ep', ho', r'⟩ := hm
    rw [ho] at ho'; cases ho'
    exact ⟨_, es', ep', hL, r'⟩) hok I.bare
/-- behind a call (or a comprehension's block): the slots of this frame may have changed too, the records at ch may have turned -/
theorem Inv.call {g' : Array GenState} {t' : Nat} {d' : Drawn} {ch : List Addr} (I : Inv X pins σ H s) (u : Un (frs X.stack) ch H H' s.heap h') (hok : HOk X.prog X.w H' h') (hg : AllBare g')
    (hch : ∀ b ∈ ch, (b ∈ X.ex ∨ X.s₀.heap.objs.size ≤ b) ∧ b ≠ X.env.locals ∧ (∀ x c, X.env.cells.lookup x = some c → c ≠ b) ∧ ∀ p ∈ X.pn ++ pins, p.1 ≠ b) :
    Inv X pins σ H' { s with heap := h', gens := g', drawn := d', toks := t' } := by
  obtain ⟨m, ⟨o, es, ep, ho, r⟩, _⟩ := id I.loc
  obtain ⟨sl, hL⟩ := u.any ho I.free fun z => (hch _ z).2.1 rfl
  exact I.step (ch := ch) hch (fun b o hL hb hc e n => u.keep b o e n (fun z => (List.mem_cons.mp (I.stkSub b z)).elim hL hb) hc) (fun b o _ _ hc e n => u.any e n hc) (fun b o hc e n => u.free b o e n hc) (fun b o hc e => u.there b o e hc) u.tups u.frzs u.tbls (fun m' hm => by
    obtain ⟨o', es', ep', ho', r'⟩ := hm
    rw [ho] at ho'; cases ho'
    exact ⟨_, es', ep', hL, r'⟩) hok hg
/-- an untracked record of ours (an iterator) has turned -/
theorem Inv.turned {t' : Nat} {it : Addr} (I : Inv X pins σ H s) (k : ∀ b o, b ≠ it → s.heap.get? b = some o → h'.get? b = some o) (hn : H it = none) (hL : it ≠ X.env.locals)
    (h1 : it ∈ X.ex ∨ X.s₀.heap.objs.size ≤ it) (h2 : ∀ x c, X.env.cells.lookup x = some c → c ≠ it) (h3 : ∀ p ∈ X.pn ++ pins, p.1 ≠ it) : Inv X pins σ H { s with heap := h', toks := t' } := by
  have nit : ∀ b u, H b = some u → b ≠ it := fun b u e z => by rw [z, hn] at e; cases e
  refine I.step (g' := s.gens) (d' := s.drawn) (ch := [it]) (fun b hb => ?_) (fun b o _ _ hc e _ => k b o (fun z => hc (by simp [z])) e) (fun b o _ _ hc e _ => ⟨o.slots, k b o (fun z => hc (by simp [z])) e⟩) (fun _ _ _ _ n => n)
    (fun b o hc e => ⟨o, k b o (fun z => hc (by simp [z])) e⟩) (fun _ _ e => e) (fun _ _ _ e => e) (fun b ps e => ⟨#[], by rw [e]; simp⟩) (fun m hm => ?_) (fun b u e => ?_) I.bare
  · have e : b = it := by simpa using hb
    subst e
    exact ⟨h1, hL, h2, h3⟩
  · obtain ⟨o, es, ep, ho, r⟩ := hm
    exact ⟨o, es, ep, k _ o (Ne.symm hL) ho, r⟩
  · refine (I.hok b u e).stay (fun c v hc q => k c v ?_ q) (fun _ q => q) fun _ _ q => q
    rcases hc with z | z
    · rw [z]; exact nit b u e
    · exact nit c _ z
theorem Inv.tok (I : Inv X pins σ H s) (t : Nat) : Inv X pins σ H { s with toks := t } := I.un (h' := s.heap) (t' := t) Un.refl I.hok
/-- all objects kept -/
theorem Inv.kept {t' : Nat} (I : Inv X pins σ H s) (k : ∀ b u, s.heap.get? b = some u → h'.get? b = some u) : Inv X pins σ H { s with heap := h', toks := t' } := I.un (Un.kept k) (I.hok.kept k)
/-- a new object laid and tracked -/
theorem Inv.laid {a : Addr} {o : HO} {t' : Nat} (I : Inv X pins σ H s) (k : ∀ b u, s.heap.get? b = some u → h'.get? b = some u) (hp : s.heap.objs.size ≤ a) (new : ObjOk X.prog X.w (upd H a o) h' a o) :
    Inv X pins σ (upd H a o) { s with heap := h', toks := t' } := I.un (Un.laid k hp (I.hok.fresh hp)) (I.hok.laid k hp new)
/-- an object written -/
theorem Inv.write {x e : Addr} {o : HO} {t' : Nat} (I : Inv X pins σ H s) (mu : Mut (H x)) (he : e = x ∨ H e = some (.own x)) (k : ∀ b u, b ≠ e → s.heap.get? b = some u → h'.get? b = some u) (heo : ∃ u, h'.get? e = some u)
    (new : ObjOk X.prog X.w (upd H x o) h' x o) : Inv X pins σ (upd H x o) { s with heap := h', toks := t' } := I.un (Un.write mu he k heo) (I.hok.write mu he k heo new)
theorem Inv.pins_of {pins' : List (Addr × Obj)} (I : Inv X pins σ H s) (h : ∀ p ∈ pins', s.heap.get? p.1 = some p.2 ∧ H p.1 = none ∧ p.1 ≠ X.env.locals ∧ p.1 ∉ X.fs ∧ ∀ v, p.2.data ≠ .cell v) : Inv X pins' σ H s :=
  ⟨I.ok, I.os, I.bare, I.base, I.loc, I.cell, I.free, I.freeC, fun p hp => (List.mem_append.mp hp).elim (fun z => I.pin p (List.mem_append_left _ z)) (h p), I.hok, I.len⟩

theorem nodup_ix {N : List Str} (hN : N.Nodup) {i j : Nat} {x : Str} (a : N[i]? = some x) (b : N[j]? = some x) : i = j := by
  obtain ⟨h1, e1⟩ := List.getElem?_eq_some_iff.mp a
  obtain ⟨h2, e2⟩ := List.getElem?_eq_some_iff.mp b
  exact (List.getElem_inj hN).mp (e1.trans e2.symm)

/-- a name is stored; what changed -/
theorem store_ok2 {M : Model} {A : Around} {E : Value → Shared → Prop} {i : Nat} {x : Str} {v : V} {u : Value} {Q : Unit → Shared → Prop} (I : Inv X pins σ H s) (hN : X.N.Nodup) (hi : X.N[i]? = some x) (hx : Loc X.env.scope x) (r : RelV v u)
    (h : ∀ s', Inv X pins (σ.set i (some v)) H s' → (∃ a, Heap.SameBut a s.heap s'.heap ∧ (a = X.env.locals ∨ X.env.cells.lookup x = some a)) → Q () s') (hf : X.fn x = true ∨ X.env.scope.names.lookup x = some .local := by first | exact .inl rfl | exact .inr rfl | assumption) : wpAny M A (storeName X.env x u) Q E s := by
  obtain ⟨m, hn, hl⟩ := id I.loc
  have hcls : (X.env.scope.kind == .class || (X.env.scope.kind == .module && X.env.locals != X.env.globals)) = false := by rw [I.ok.kind]; rfl
  have hiσ : i < σ.length := by rw [I.len]; exact (List.getElem?_eq_some_iff.mp hi).1
  have cne := I.cne
  have tracked : ∀ {a : Addr} {h' : Heap}, (∃ o, s.heap.get? a = some o ∧ H a = none) → Heap.SameBut a s.heap h' → HOk X.prog X.w H h' := fun {a h'} ha hs b ob e => by
    obtain ⟨_, _, hfree⟩ := ha
    refine (I.hok b ob e).stay (fun c w' hc q => (hs.2 c ?_).trans q) (fun _ q => q) fun _ _ q => q
    rintro rfl
    rcases hc with rfl | hc
    · rw [hfree] at e; cases e
    · rw [hfree] at hc; cases hc
  rcases hx with hk | hk
  · refine wpAny_storeName_local hk hn (fun h' hn' hs => ?_) hcls
    obtain ⟨oL, _, _, hoL, _⟩ := id hn
    refine h _ ⟨I.ok, I.os, I.bare, ⟨fun b o e n hb hx => ?_, fun b o e n hb hx => ?_, I.base.free, fun b o e hx => ?_, I.base.tups, I.base.frzs, I.base.tbls⟩, ⟨_, hn', fun j y v' e1 e2 e3 => ?_⟩, fun y c e => ?_, I.free, I.freeC, fun p hp => ?_, tracked ⟨oL, hoL, I.free⟩ hs, by simpa using I.len⟩ ⟨_, hs, .inl rfl⟩
    · exact (hs.2 b (Nat.ne_of_lt (Nat.lt_of_lt_of_le (Heap.lt_size e) I.ok.above))).trans (I.base.keep b o e n hb hx)
    · obtain ⟨sl, e1⟩ := I.base.slot b o e n hb hx
      exact ⟨sl, (hs.2 b (Nat.ne_of_lt (Nat.lt_of_lt_of_le (Heap.lt_size e) I.ok.above))).trans e1⟩
    · obtain ⟨o', e1⟩ := I.base.there b o e hx
      exact ⟨o', (hs.2 b (Nat.ne_of_lt (Nat.lt_of_lt_of_le (Heap.lt_size e) I.ok.above))).trans e1⟩
    · by_cases hj : j = i
      · subst hj
        rw [hi] at e1; cases e1
        rw [List.getElem?_set_self hiσ] at e2
        cases e2
        exact ⟨u, r, .inl ⟨hk, by simp⟩⟩
      · rw [List.getElem?_set_ne (Ne.symm hj)] at e2
        obtain ⟨u', r', q⟩ := hl j y v' e1 e2 e3
        refine ⟨u', r', ?_⟩
        rcases q with ⟨k, e⟩ | ⟨k, c, e, z⟩
        · refine .inl ⟨k, ?_⟩
          have : y ≠ x := fun e => hj (nodup_ix hN e1 (e ▸ hi))
          simp [this, e]
        · exact .inr ⟨k, c, e, z.sameBut hs (cne y c e)⟩
    · obtain ⟨w', z⟩ := I.cell y c e
      exact ⟨w', z.sameBut hs (cne y c e)⟩
    · obtain ⟨e, n, ne, nf, d⟩ := I.pin p hp
      exact ⟨(hs.2 p.1 ne).trans e, n, ne, nf, d⟩
  · have hfn : X.fn x = true := by
      rcases hf with z | z
      · exact z
      · rw [z] at hk; cases hk
    obtain ⟨c, hc⟩ := I.ok.has x (.inl hk)
    obtain ⟨w', z⟩ := I.cell x c hc
    refine wpAny_storeName_cell I.ok.kind hk hc z (fun h' hc' hs => ?_)
    obtain ⟨oc, hoc, hocd⟩ := id z
    refine h { s with heap := h' } ⟨I.ok, I.os, I.bare, ⟨fun b o e n hb hx => ?_, fun b o e n hb hx => ?_, I.base.free, fun b o e hx => ?_, I.base.tups, I.base.frzs, I.base.tbls⟩, ⟨m, hn.sameBut hs (Ne.symm (cne x c hc)), fun j y v' e1 e2 e3 => ?_⟩, fun y c' e => ?_, I.free, I.freeC, fun p hp => ?_, tracked ⟨oc, hoc, I.freeC x c hc⟩ hs, by simpa using I.len⟩ ⟨c, hs, .inr hc⟩
    · exact (hs.2 b (Nat.ne_of_lt (Nat.lt_of_lt_of_le (Heap.lt_size e) (I.ok.cab x c hfn hc)))).trans (I.base.keep b o e n hb hx)
    · obtain ⟨sl, e1⟩ := I.base.slot b o e n hb hx
      exact ⟨sl, (hs.2 b (Nat.ne_of_lt (Nat.lt_of_lt_of_le (Heap.lt_size e) (I.ok.cab x c hfn hc)))).trans e1⟩
    · obtain ⟨o', e1⟩ := I.base.there b o e hx
      exact ⟨o', (hs.2 b (Nat.ne_of_lt (Nat.lt_of_lt_of_le (Heap.lt_size e) (I.ok.cab x c hfn hc)))).trans e1⟩
    · by_cases hj : j = i
      · subst hj
        rw [hi] at e1; cases e1
        rw [List.getElem?_set_self hiσ] at e2
        cases e2
        exact ⟨u, r, .inr ⟨.inl hk, c, hc, hc'⟩⟩
      · rw [List.getElem?_set_ne (Ne.symm hj)] at e2
        obtain ⟨u', r', q⟩ := hl j y v' e1 e2 e3
        refine ⟨u', r', ?_⟩
        rcases q with q | ⟨k, c', e, z'⟩
        · exact .inl q
        · refine .inr ⟨k, c', e, z'.sameBut hs ?_⟩
          rintro rfl
          exact hj (nodup_ix hN e1 (I.ok.inj _ _ _ e hc ▸ hi))
    · by_cases hcc : c' = c
      · subst hcc; exact ⟨_, hc'⟩
      · obtain ⟨w2, z2⟩ := I.cell y c' e
        exact ⟨w2, z2.sameBut hs hcc⟩
    · obtain ⟨e, n, ne, nf, d⟩ := I.pin p hp
      refine ⟨(hs.2 p.1 ?_).trans e, n, ne, nf, d⟩
      intro q
      rw [q, hoc] at e
      have q' : oc = p.2 := Option.some.inj e
      exact d w' (by rw [← q']; exact hocd)
theorem store_ok {M : Model} {A : Around} {E : Value → Shared → Prop} {i : Nat} {x : Str} {v : V} {u : Value} {Q : Unit → Shared → Prop} (I : Inv X pins σ H s) (hN : X.N.Nodup) (hi : X.N[i]? = some x) (hx : Loc X.env.scope x) (r : RelV v u)
    (h : ∀ s', Inv X pins (σ.set i (some v)) H s' → Q () s') (hf : X.fn x = true ∨ X.env.scope.names.lookup x = some .local := by first | exact .inl rfl | exact .inr rfl | assumption) : wpAny M A (storeName X.env x u) Q E s :=
  store_ok2 I hN hi hx r (fun s' I' _ => h s' I') hf
/-- behind a call or a block, the state as it is -/
theorem Inv.call' {s' : Shared} {ch : List Addr} (I : Inv X pins σ H s) (ho : s'.os = s.os) (u : Un (frs X.stack) ch H H' s.heap s'.heap) (hok : HOk X.prog X.w H' s'.heap) (hg : AllBare s'.gens)
    (hch : ∀ b ∈ ch, (b ∈ X.ex ∨ X.s₀.heap.objs.size ≤ b) ∧ b ≠ X.env.locals ∧ (∀ x c, X.env.cells.lookup x = some c → c ≠ b) ∧ ∀ p ∈ X.pn ++ pins, p.1 ≠ b) : Inv X pins σ H' s' := by
  obtain ⟨h', g', d', t', o'⟩ := s'
  have e : o' = s.os := ho
  subst e
  exact I.call (g' := g') (t' := t') (d' := d') u hok hg hch
end

/-! ### the judgements -/
/-- an exception: its class, its own dict's address (where it has one), the abstract heap behind it -/
abbrev XK := Value → Option Addr → Hp → Prop
abbrev St := List (Option V)
abbrev VK := V → Hp → Prop
/-- an expression's reading; a test's; an argument list's -/
abbrev TE := St → Hp → VK → Prop
abbrev TT := St → Hp → (Bool → Hp → Prop) → Prop
abbrev TA := St → Hp → (List V → Hp → Prop) → Prop
/-- what is wanted behind a statement -/
structure Ends where
  nx : St → Hp → Prop
  rt : VK
  bk : St → Hp → Prop := fun _ _ => False
  ct : St → Hp → Prop := fun _ _ => False
abbrev TS := Ends → St → Hp → Prop

def EP (X : Cx) (pins : List (Addr × Obj)) (σ : St) (Q : VK) (u : Value) (s' : Shared) : Prop := ∃ v H', Inv X pins σ H' s' ∧ RelV v u ∧ Q v H'
def TP (X : Cx) (pins : List (Addr × Obj)) (σ : St) (Q : Bool → Hp → Prop) (b : Bool) (s' : Shared) : Prop := ∃ H', Inv X pins σ H' s' ∧ Q b H'
def AP (X : Cx) (pins : List (Addr × Obj)) (σ : St) (Q : List V → Hp → Prop) (us : List Value) (s' : Shared) : Prop := ∃ vs H', Inv X pins σ H' s' ∧ Vals vs us ∧ Q vs H'
def SP (X : Cx) (pins : List (Addr × Obj)) (D : Ends) (f : Flow) (s' : Shared) : Prop :=
  match f with
  | .next => ∃ σ' H', Inv X pins σ' H' s' ∧ D.nx σ' H'
  | .brk => ∃ σ' H', Inv X pins σ' H' s' ∧ D.bk σ' H'
  | .cont => ∃ σ' H', Inv X pins σ' H' s' ∧ D.ct σ' H'
  | .ret u => ∃ v σ' H', Inv X pins σ' H' s' ∧ RelV v u ∧ D.rt v H'

structure PE (X : Cx) (e : Expr) (t : TE) : Prop where
  run : ∀ (pins : List (Addr × Obj)) (s : Shared) (σ : St) (H : Hp) (Q : VK), Inv X pins σ H s → t σ H Q → wpAny (model X.prog X.w) X.A (eval e X.env) (EP X pins σ Q) X.xe s
instance {X : Cx} {e : Expr} {t : TE} : CoeFun (PE X e t) fun _ => ∀ (pins : List (Addr × Obj)) (s : Shared) (σ : St) (H : Hp) (Q : VK), Inv X pins σ H s → t σ H Q → wpAny (model X.prog X.w) X.A (eval e X.env) (EP X pins σ Q) X.xe s := ⟨PE.run⟩
structure PT (X : Cx) (e : Expr) (t : TT) : Prop where
  run : ∀ (pins : List (Addr × Obj)) (s : Shared) (σ : St) (H : Hp) (Q : Bool → Hp → Prop), Inv X pins σ H s → t σ H Q → wpAny (model X.prog X.w) X.A (isTrue e X.env (eval e X.env)) (TP X pins σ Q) X.xe s
instance {X : Cx} {e : Expr} {t : TT} : CoeFun (PT X e t) fun _ => ∀ (pins : List (Addr × Obj)) (s : Shared) (σ : St) (H : Hp) (Q : Bool → Hp → Prop), Inv X pins σ H s → t σ H Q → wpAny (model X.prog X.w) X.A (isTrue e X.env (eval e X.env)) (TP X pins σ Q) X.xe s := ⟨PT.run⟩
/-- a test whatever its 'whole' is (and, or) -/
structure PW (X : Cx) (e : Expr) (t : TT) : Prop where
  run : ∀ (whole : Sem Value) (pins : List (Addr × Obj)) (s : Shared) (σ : St) (H : Hp) (Q : Bool → Hp → Prop), Inv X pins σ H s → t σ H Q → wpAny (model X.prog X.w) X.A (isTrue e X.env whole) (TP X pins σ Q) X.xe s
instance {X : Cx} {e : Expr} {t : TT} : CoeFun (PW X e t) fun _ => ∀ (whole : Sem Value) (pins : List (Addr × Obj)) (s : Shared) (σ : St) (H : Hp) (Q : Bool → Hp → Prop), Inv X pins σ H s → t σ H Q → wpAny (model X.prog X.w) X.A (isTrue e X.env whole) (TP X pins σ Q) X.xe s := ⟨PW.run⟩
theorem PW.pt {X : Cx} {e : Expr} {t : TT} (h : PW X e t) : PT X e t := ⟨h.run _⟩
/-- an argument list (no star), from the left -/
structure PA (X : Cx) (es : List Expr) (t : TA) : Prop where
  run : ∀ (pos : Pos) (pins : List (Addr × Obj)) (s : Shared) (σ : St) (H : Hp) (Q : List V → Hp → Prop), Inv X pins σ H s → t σ H Q → wpAny (model X.prog X.w) X.A (spliced (backTo pos (starEach es X.env))) (AP X pins σ Q) X.xe s
instance {X : Cx} {es : List Expr} {t : TA} : CoeFun (PA X es t) fun _ => ∀ (pos : Pos) (pins : List (Addr × Obj)) (s : Shared) (σ : St) (H : Hp) (Q : List V → Hp → Prop), Inv X pins σ H s → t σ H Q → wpAny (model X.prog X.w) X.A (spliced (backTo pos (starEach es X.env))) (AP X pins σ Q) X.xe s := ⟨PA.run⟩
structure PS (X : Cx) (st : Stmt) (t : TS) : Prop where
  run : ∀ (pins : List (Addr × Obj)) (s : Shared) (σ : St) (H : Hp) (D : Ends), Inv X pins σ H s → t D σ H → wpAny (model X.prog X.w) X.A (exec st X.env) (SP X pins D) X.xe s
instance {X : Cx} {st : Stmt} {t : TS} : CoeFun (PS X st t) fun _ => ∀ (pins : List (Addr × Obj)) (s : Shared) (σ : St) (H : Hp) (D : Ends), Inv X pins σ H s → t D σ H → wpAny (model X.prog X.w) X.A (exec st X.env) (SP X pins D) X.xe s := ⟨PS.run⟩
structure PSs (X : Cx) (st : List Stmt) (t : TS) : Prop where
  run : ∀ (pins : List (Addr × Obj)) (s : Shared) (σ : St) (H : Hp) (D : Ends), Inv X pins σ H s → t D σ H → wpAny (model X.prog X.w) X.A (execs st X.env) (SP X pins D) X.xe s
instance {X : Cx} {st : List Stmt} {t : TS} : CoeFun (PSs X st t) fun _ => ∀ (pins : List (Addr × Obj)) (s : Shared) (σ : St) (H : Hp) (D : Ends), Inv X pins σ H s → t D σ H → wpAny (model X.prog X.w) X.A (execs st X.env) (SP X pins D) X.xe s := ⟨PSs.run⟩
/-- weaken the end -/
theorem thn {α : Type} {t : Sem α} {Q Q' : α → Shared → Prop} {M : Model} {A : Around} {E : Value → Shared → Prop} {s : Shared} (h : wpAny M A t Q E s) (hQ : ∀ a s, Q a s → Q' a s) : wpAny M A t Q' E s := wpAny_mono h hQ fun _ _ x => x
end L2

namespace L2
open PySem PySem.Spec PyProof.Rows
section
variable {X : Cx}

/-! ### names and constants -/
def tVar (i : Nat) : TE := fun σ H Q => ∃ v, σ[i]? = some (some v) ∧ Q v H
def tC (v : V) : TE := fun _ H Q => Q v H
theorem pe_var {i : Nat} {x : Str} {pos : Pos} (hN : X.N[i]? = some x) (hv : Vis X.env.scope x) (hd : (x == ("__debug__" : Str)) = false := by decide) (hcd : (x == ("__classdict__" : Str)) = false := by decide) : PE X (.Name x pos) (tVar i) := by
  constructor; intro pins s σ H Q I h
  obtain ⟨v, e, h⟩ := h
  obtain ⟨m, hn, hl⟩ := I.loc
  obtain ⟨u, r, l⟩ := hl i x v hN e hv
  have fin : EP X pins σ Q u s := ⟨v, H, I, r, h⟩
  rcases l with ⟨hk, hm⟩ | ⟨hk, c, hc, hcell⟩
  · exact wpAny_Name (wpAny_loadName_local I.ok.kind hk hn hm fin) hd
  · rcases hk with hk | hk
    · exact wpAny_Name (wpAny_loadName_cell I.ok.kind hk hc hcell fin) hd
    · exact wpAny_Name (wpAny_loadName_free I.ok.kind hk hc hcell fin hcd) hd
theorem pe_int {i j pos} : PE X (.Constant (.int i) j pos) (tC (.int i)) := ⟨fun _ _ _ H _ I h => wpAny_Constant_int ⟨.int i, H, I.tok _, ⟨_, rfl⟩, h⟩⟩
theorem pe_bl {b j pos} : PE X (.Constant (.bool b) j pos) (tC (.bl b)) := ⟨fun _ _ _ H _ I h => Constant_bool ⟨.bl b, H, I, rfl, h⟩⟩
theorem pe_non {j pos} : PE X (.Constant .none j pos) (tC .non) := ⟨fun _ _ _ H _ I h => Constant_none ⟨.non, H, I, rfl, h⟩⟩
/-- a global name of the def -/
def Gl (X : Cx) (x : Str) : Prop := X.env.kindOf x = some .globalImplicit
theorem ld_glob {E : Value → Shared → Prop} {pins : List (Addr × Obj)} {s : Shared} {σ : St} {H : Hp} {x : Str} {u : Value} {pos : Pos} {Q : Value → Shared → Prop} (I : Inv X pins σ H s) (hg : Gl X x) (hm : X.mg x = some u) (h : Q u s)
    (hd : (x == ("__debug__" : Str)) = false := by decide) : wpAny (model X.prog X.w) X.A (eval (.Name x pos) X.env) Q E s :=
  Calls.Name_function_global I.ok.kind hg (Calls.loadGlobal_global (by rw [I.ok.glob]; exact I.mod.glob.keeps I.bk) hm h) hd
theorem ld_blt {E : Value → Shared → Prop} {pins : List (Addr × Obj)} {s : Shared} {σ : St} {H : Hp} {x : Str} {u : Value} {pos : Pos} {Q : Value → Shared → Prop} (I : Inv X pins σ H s) (hg : Gl X x) (hm : X.mg x = none) (hv : bootBuiltins x = some u) (h : Q u s)
    (hn : x ≠ "__name__" := by decide) (hd : (x == ("__debug__" : Str)) = false := by decide) : wpAny (model X.prog X.w) X.A (eval (.Name x pos) X.env) Q E s := by
  obtain ⟨mb, h1, h2⟩ := I.mod.blt
  exact Calls.Name_function_global I.ok.kind hg (Calls.loadGlobal_builtin (by rw [I.ok.glob]; exact I.mod.glob.keeps I.bk) hm (by rw [I.ok.blt]; exact h1.keeps I.bk) ((h2 x hn).trans hv) h) hd
/-- a module's constant, a class, a function, as a value -/
theorem pe_glob {x : Str} {v : V} {u : Value} {pos : Pos} (hg : Gl X x) (hm : X.mg x = some u) (r : RelV v u) (hd : (x == ("__debug__" : Str)) = false := by decide) : PE X (.Name x pos) (tC v) :=
  ⟨fun _ _ _ H _ I h => ld_glob I hg hm ⟨v, H, I, r, h⟩ hd⟩
theorem pe_bltn {x : Str} {v : V} {u : Value} {pos : Pos} (hg : Gl X x) (hm : X.mg x = none) (hv : bootBuiltins x = some u) (r : RelV v u) (hn : x ≠ "__name__" := by decide) (hd : (x == ("__debug__" : Str)) = false := by decide) : PE X (.Name x pos) (tC v) :=
  ⟨fun _ _ _ H _ I h => ld_blt I hg hm hv ⟨v, H, I, r, h⟩ hn hd⟩

/-! ### arithmetic -/
variable {a b : Expr} {ta tb : TE} {pos : Pos}
/-! ### comparisons -/
structure PC (X : Cx) (op : CmpOp) (a b : Expr) (t : TE) : Prop where
  run : ∀ (pins : List (Addr × Obj)) (s : Shared) (σ : St) (H : Hp) (Q : VK), Inv X pins σ H s → t σ H Q →
    wpAny (model X.prog X.w) X.A (eval a X.env) (fun v s₁ => wpAny (model X.prog X.w) X.A (eval b X.env) (fun u s₂ => wpAny (model X.prog X.w) X.A (compareOp op v u) (EP X pins σ Q) X.xe s₂) X.xe s₁) X.xe s
instance {X : Cx} {op : CmpOp} {a b : Expr} {t : TE} : CoeFun (PC X op a b t) fun _ => ∀ (pins : List (Addr × Obj)) (s : Shared) (σ : St) (H : Hp) (Q : VK), Inv X pins σ H s → t σ H Q →
    wpAny (model X.prog X.w) X.A (eval a X.env) (fun v s₁ => wpAny (model X.prog X.w) X.A (eval b X.env) (fun u s₂ => wpAny (model X.prog X.w) X.A (compareOp op v u) (EP X pins σ Q) X.xe s₂) X.xe s₁) X.xe s := ⟨PC.run⟩
/-- a comparison as a value, as a test -/
def tB (t : TE) : TT := fun σ H Q => t σ H fun x H1 => ∃ c, x = .bl c ∧ Q c H1
/-- an expression whose value is a bool, as a test -/
theorem pt_val {e : Expr} {t : TE} (h : PE X e t) (he : ∀ whole, isTrue e X.env whole = (do let v ← whole; standAt e.pos; holding [v] (truthy v)) := by intro _; rfl) : PT X e (tB t) := by
  constructor; intro pins s σ H Q I hw
  refine isTrue_plain (thn (h pins s σ H _ I hw) fun v s1 ⟨x, H1, I1, r1, q1⟩ => ?_) (he _)
  obtain ⟨d, rfl, q⟩ := q1
  cases r1
  exact wpAny_truthy_bool ⟨H1, I1, q⟩

/-! ### and, or, not -/
variable {tA tB' : TT} {rest : List Expr}
def tOr (t u : TT) : TT := fun σ H Q => t σ H fun c H1 => if c = true then Q true H1 else u σ H1 Q
def tNot (t : TT) : TT := fun σ H Q => t σ H fun c H1 => Q (!c) H1
theorem pw_or1 (ha : PT X a tA) : PW X (.BoolOp .Or [a] pos) tA := by
  constructor; intro wh pins s σ H Q I h
  refine isTrue_or (thn (ha pins s σ H Q I h) fun c s1 e => ?_)
  cases c with
  | false => exact isTrue_or_nil e
  | true => exact e
theorem pw_or (ha : PT X a tA) (hb : PW X (.BoolOp .Or (b :: rest) pos) tB') : PW X (.BoolOp .Or (a :: b :: rest) pos) (tOr tA tB') := by
  constructor; intro wh pins s σ H Q I h
  refine isTrue_or (thn (ha pins s σ H _ I h) fun c s1 ⟨H1, I1, q1⟩ => ?_)
  cases c with
  | true => exact ⟨H1, I1, q1⟩
  | false => exact hb wh pins s1 σ H1 Q I1 q1
theorem pt_not (ha : PT X a tA) : PT X (.UnaryOp .Not a pos) (tNot tA) := by
  constructor; intro pins s σ H Q I h
  exact isTrue_not (ha pins s σ H (fun c H1 => Q (!c) H1) I h)
/-- .. as values (bools) -/
def tAndV (ta tb : TE) : TE := fun σ H Q => ta σ H fun x H1 => ∃ c, x = .bl c ∧ if c = true then tb σ H1 Q else Q (.bl false) H1
def tNotV (ta : TE) : TE := fun σ H Q => ta σ H fun x H1 => ∃ c, x = .bl c ∧ Q (.bl (!c)) H1
theorem pe_one {op} {t : TE} (h : PE X a t) : PE X (.BoolOp op [a] pos) t := ⟨fun pins s σ H Q I hw => BoolOp_one (h pins s σ H Q I hw)⟩
theorem pe_and (ha : PE X a ta) (hb : PE X (.BoolOp .And (b :: rest) pos) tb) : PE X (.BoolOp .And (a :: b :: rest) pos) (tAndV ta tb) := by
  constructor; intro pins s σ H Q I h
  refine BoolOp_and (thn (ha pins s σ H _ I h) fun v s1 ⟨x, H1, I1, r1, q1⟩ => ?_)
  obtain ⟨c, rfl, q1⟩ := q1
  cases r1
  refine wpAny_truthy_bool ?_
  cases c with
  | true => exact hb pins s1 σ H1 Q I1 q1
  | false => exact ⟨.bl false, H1, I1, rfl, q1⟩
theorem pe_not (ha : PE X a ta) : PE X (.UnaryOp .Not a pos) (tNotV ta) := by
  constructor; intro pins s σ H Q I h
  refine UnaryOp_ (thn (ha pins s σ H _ I h) fun v s1 ⟨x, H1, I1, r1, q1⟩ => ?_)
  obtain ⟨c, rfl, q1⟩ := q1
  cases r1
  exact not_of (wpAny_truthy_bool ⟨.bl (!c), H1, I1, rfl, q1⟩)
end
end L2

namespace L2
open PySem PySem.Spec PyProof.Rows

/-! ### a list, a tuple that is read: tracked, frozen, or an object of the module -/
def SqL (K : PySem.W.Frag) (H : Hp) (a : Addr) (xs : List V) : Prop :=
  Rd H a (.lst xs) ∨
    ∃ (o : Obj) (its : Array Value) (n : Nat), K.lookup a = some o ∧ o.cls = .type "list" ∧ o.dict = none ∧ o.data = .seq its n ∧ its.size ≤ sizeLine ∧ Vals xs its.toList
def SqT (K : PySem.W.Frag) (H : Hp) (a : Addr) (xs : List V) : Prop :=
  Rd H a (.tup xs) ∨
    ∃ (o : Obj) (its : Array Value) (n : Nat), K.lookup a = some o ∧ o.cls = .type "tuple" ∧ o.data = .seq its n ∧ its.size ≤ sizeLine ∧ Vals xs its.toList
def absV : Value → Option V
  | .none => some .non
  | .bool b => some (.bl b)
  | .int i _ => some (.int i)
  | .str x _ => some (.str x)
  | .bytes b _ => some (.byt b)
  | .float b _ => some (.flt b)
  | .ref a => some (.ref a)
  | .type n => some (.ty n)
  | _ => none
theorem RelV.abs {x : V} {u : Value} (r : RelV x u) : absV u = some x := by
  cases x with
  | non => cases r; rfl
  | bl _ => cases r; rfl
  | int _ => obtain ⟨t, rfl⟩ := r; rfl
  | str _ => obtain ⟨t, rfl⟩ := r; rfl
  | byt _ => obtain ⟨t, rfl⟩ := r; rfl
  | flt _ => obtain ⟨t, rfl⟩ := r; rfl
  | ref _ => cases r; rfl
  | ty _ => cases r; rfl
theorem RelV.inj {x y : V} {u : Value} (r : RelV x u) (q : RelV y u) : x = y := Option.some.inj (r.abs.symm.trans q.abs)
theorem Vals.inj : ∀ {xs ys : List V} {us : List Value}, Vals xs us → Vals ys us → xs = ys
  | _, _, _, .nil, .nil => rfl
  | _, _, _, .cons r t, .cons r' t' => by rw [r.inj r', Vals.inj t t']
section
variable {X : Cx} {pins : List (Addr × Obj)} {σ : St} {H : Hp} {s : Shared} {a : Addr} {xs ys : List V}
theorem SqL.of {K : PySem.W.Frag} (h : H a = some (.lst xs)) : SqL K H a xs := .inl (.inl h)
theorem SqT.of {K : PySem.W.Frag} (h : H a = some (.tup xs)) : SqT K H a xs := .inl (.inl h)
theorem Inv.list (I : Inv X pins σ H s) (h : SqL X.K H a xs) : ∃ its : List Value, Vals xs its ∧ PlainL s.heap a its.toArray ∧ xs.length ≤ sizeLine := by
  rcases h with h | ⟨o, its, n, hk, hc, hd, hs, hz, r⟩
  · obtain ⟨z, its, n, r, e⟩ := h.ok I.hok
    exact ⟨its, r, ⟨_, n, e, rfl, rfl, rfl⟩, z⟩
  · refine ⟨its.toList, r, ⟨o, n, I.kIn a o hk, hc, hd, by simpa using hs⟩, ?_⟩
    have e := r.length
    simp only [Array.length_toList] at e
    omega
theorem Inv.tuple (I : Inv X pins σ H s) (h : SqT X.K H a xs) : ∃ its : List Value, Vals xs its ∧ IsTup s.heap a its.toArray ∧ xs.length ≤ sizeLine := by
  rcases h with h | ⟨o, its, n, hk, hc, hs, hz, r⟩
  · obtain ⟨z, its, r, p⟩ := h.ok I.hok
    exact ⟨its, r, p, z⟩
  · refine ⟨its.toList, r, ⟨o, I.kIn a o hk, hc, n, by simpa using hs⟩, ?_⟩
    have e := r.length
    simp only [Array.length_toList] at e
    omega
theorem Inv.list_inj (I : Inv X pins σ H s) (h : SqL X.K H a xs) (h' : SqL X.K H a ys) : xs = ys := by
  obtain ⟨its, r, ⟨o, n, e, _, _, d⟩, _⟩ := I.list h
  obtain ⟨its', r', ⟨o', n', e', _, _, d'⟩, _⟩ := I.list h'
  rw [e] at e'; cases e'
  rw [d] at d'
  injection d' with d1 _
  have : its = its' := by simpa using congrArg Array.toList d1
  subst this
  exact r.inj r'
end

/-! ### another wish about exceptions -/
abbrev Cx.wish (X : Cx) (E : Value → Shared → Prop) : Cx := { X with xe := E }
/-- no exception leaves -/
abbrev Cx.nox (X : Cx) : Cx := X.wish fun _ _ => False
theorem Cx.Ok.wish {X : Cx} (ok : X.Ok) (E : Value → Shared → Prop) : (X.wish E).Ok :=
  ⟨ok.mod, ok.kind, ok.glob, ok.blt, ok.above, ok.inj, ok.has, ok.cab, ok.hd, ok.frames, ok.stk, ok.exf, ok.bs, ok.bsz, ok.noex, ok.exfs, ok.funs, ok.frf⟩
theorem Cx.Ok.unwish {X : Cx} {E : Value → Shared → Prop} (ok : (X.wish E).Ok) : X.Ok :=
  ⟨ok.mod, ok.kind, ok.glob, ok.blt, ok.above, ok.inj, ok.has, ok.cab, ok.hd, ok.frames, ok.stk, ok.exf, ok.bs, ok.bsz, ok.noex, ok.exfs, ok.funs, ok.frf⟩
section
variable {X : Cx} {pins : List (Addr × Obj)} {σ : St} {H : Hp} {s : Shared} {E : Value → Shared → Prop}
theorem Inv.wish (I : Inv X pins σ H s) (E : Value → Shared → Prop) : Inv (X.wish E) pins σ H s := ⟨I.ok.wish E, I.os, I.bare, I.base, I.loc, I.cell, I.free, I.freeC, I.pin, I.hok, I.len⟩
theorem Inv.unwish (I : Inv (X.wish E) pins σ H s) : Inv X pins σ H s := ⟨I.ok.unwish, I.os, I.bare, I.base, I.loc, I.cell, I.free, I.freeC, I.pin, I.hok, I.len⟩
theorem SP.unwish {D : Ends} {f : Flow} {s' : Shared} (h : SP (X.wish E) pins D f s') : SP X pins D f s' := by
  cases f with
  | next => obtain ⟨σ', H', I, q⟩ := h; exact ⟨σ', H', I.unwish, q⟩
  | brk => obtain ⟨σ', H', I, q⟩ := h; exact ⟨σ', H', I.unwish, q⟩
  | cont => obtain ⟨σ', H', I, q⟩ := h; exact ⟨σ', H', I.unwish, q⟩
  | ret u => obtain ⟨v, σ', H', I, r, q⟩ := h; exact ⟨v, σ', H', I.unwish, r, q⟩
theorem PSs.nox {st : List Stmt} {t : TS} (h : PSs X.nox st t) : PSs X st t := ⟨fun pins s σ H D I hw =>
  wpAny_mono (h pins s σ H D (I.wish _) hw) (fun _ _ q => q.unwish) fun _ _ z => False.elim z⟩
end

/-! ### blocks and small statements -/
section
variable {X : Cx} {st : Stmt} {rest : List Stmt} {t u : TS} {e : Expr} {te : TE} {pos : Pos}
def tNext : TS := fun D σ H => D.nx σ H
def tSeq (t u : TS) : TS := fun D σ H => t { D with nx := u D } σ H
theorem pss_nil : PSs X [] tNext := ⟨fun _ _ σ H _ I h => wpAny_execs_nil ⟨σ, H, I, h⟩⟩
theorem pss_cons (h1 : PS X st t) (h2 : PSs X rest u) : PSs X (st :: rest) (tSeq t u) := by
  constructor; intro pins s σ H D I h
  refine wpAny_execs_cons (thn (h1 pins s σ H { D with nx := u D } I h) fun f s1 q => ?_)
  cases f with
  | next =>
    obtain ⟨σ', H', I', q⟩ := q
    exact h2 pins s1 σ' H' D I' q
  | ret v => exact q
  | brk => exact q
  | cont => exact q
theorem pss_one (h1 : PS X st t) : PSs X [st] t := by
  constructor; intro pins s σ H D I h
  refine wpAny_execs_cons (thn (h1 pins s σ H D I h) fun f s1 q => ?_)
  cases f with
  | next => exact wpAny_execs_nil q
  | ret v => exact q
  | brk => exact q
  | cont => exact q
/-- in a def's body nothing is shown -/
theorem Inv.quiet {pins : List (Addr × Obj)} {σ : St} {H : Hp} {s : Shared} (I : Inv X pins σ H s) : interactive X.env = false := by simp [interactive, I.ok.kind]
/-- an expression whose value is dropped -/
def tDrop (te : TE) : TS := fun D σ H => te σ H fun _ H1 => D.nx σ H1
theorem ps_expr (he : PE X e te) (hs : swapsWith e none pos.line X.env = pure false := by rfl) : PS X (.Expr e pos) (tDrop te) := by
  constructor; intro pins s σ H D I h
  exact wpAny_Expr_any (thn (he pins s σ H _ I h) fun v s1 ⟨x, H1, I1, r1, q1⟩ => ⟨σ, H1, I1, q1⟩) I.quiet hs
def tRet (te : TE) : TS := fun D σ H => te σ H D.rt
theorem ps_ret (he : PE X e te) : PS X (.Return (some e) pos) (tRet te) := by
  constructor; intro pins s σ H D I h
  exact wpAny_Return_some (thn (he pins s σ H _ I h) fun v s1 ⟨x, H1, I1, r1, q1⟩ => ⟨x, σ, H1, I1, r1, q1⟩)
def tIfS (c : TT) (t u : TS) : TS := fun D σ H => c σ H fun b H1 => if b = true then t D σ H1 else u D σ H1
theorem ps_if {c : Expr} {a b : List Stmt} {tc : TT} (hc : PT X c tc) (ha : PSs X a t) (hb : PSs X b u) : PS X (.If c a b pos) (tIfS tc t u) := by
  constructor; intro pins s σ H D I h
  refine wpAny_If (thn (hc pins s σ H _ I h) fun d s1 ⟨H1, I1, q1⟩ => ?_)
  cases d with
  | true => exact ha pins s1 σ H1 D I1 q1
  | false => exact hb pins s1 σ H1 D I1 q1
end

/-! ### targets -/
abbrev TG := V → St → Hp → (St → Hp → Prop) → Prop
abbrev TGs := List V → St → Hp → (St → Hp → Prop) → Prop
structure PG (X : Cx) (target : Expr) (t : TG) : Prop where
  run : ∀ (pins : List (Addr × Obj)) (s : Shared) (σ : St) (H : Hp) (v : V) (u : Value) (Q : St → Hp → Prop), Inv X pins σ H s → RelV v u → t v σ H Q →
    wpAny (model X.prog X.w) X.A (assign target X.env u) (fun _ s' => ∃ σ' H', Inv X pins σ' H' s' ∧ Q σ' H') X.xe s
instance {X : Cx} {target : Expr} {t : TG} : CoeFun (PG X target t) fun _ => ∀ (pins : List (Addr × Obj)) (s : Shared) (σ : St) (H : Hp) (v : V) (u : Value) (Q : St → Hp → Prop), Inv X pins σ H s → RelV v u → t v σ H Q →
    wpAny (model X.prog X.w) X.A (assign target X.env u) (fun _ s' => ∃ σ' H', Inv X pins σ' H' s' ∧ Q σ' H') X.xe s := ⟨PG.run⟩
/-- several targets, one after another -/
structure PGs (X : Cx) (ts : List Expr) (t : TGs) : Prop where
  run : ∀ (pins : List (Addr × Obj)) (s : Shared) (σ : St) (H : Hp) (vs : List V) (us : List Value) (Q : St → Hp → Prop), Inv X pins σ H s → Vals vs us → t vs σ H Q →
    wpAny (model X.prog X.w) X.A (assignInOrder ((assignEach ts X.env).map (·.2)) us) (fun _ s' => ∃ σ' H', Inv X pins σ' H' s' ∧ Q σ' H') X.xe s
instance {X : Cx} {ts : List Expr} {t : TGs} : CoeFun (PGs X ts t) fun _ => ∀ (pins : List (Addr × Obj)) (s : Shared) (σ : St) (H : Hp) (vs : List V) (us : List Value) (Q : St → Hp → Prop), Inv X pins σ H s → Vals vs us → t vs σ H Q →
    wpAny (model X.prog X.w) X.A (assignInOrder ((assignEach ts X.env).map (·.2)) us) (fun _ s' => ∃ σ' H', Inv X pins σ' H' s' ∧ Q σ' H') X.xe s := ⟨PGs.run⟩
/-- o[i] = v, by values -/
abbrev TSet := V → V → V → Hp → (Hp → Prop) → Prop
def PSet (X : Cx) (t : TSet) : Prop :=
  ∀ (pins : List (Addr × Obj)) (s : Shared) (σ : St) (H : Hp) (o i v : V) (ov iv u : Value) (Q : Hp → Prop), Inv X pins σ H s → RelV o ov → RelV i iv → RelV v u → t o i v H Q →
    wpAny (model X.prog X.w) X.A (setItem ov iv u) (fun _ s' => ∃ H', Inv X pins σ H' s' ∧ Q H') X.xe s
section
variable {X : Cx} {pos : Pos}
def gName (i : Nat) : TG := fun v σ H Q => Q (σ.set i (some v)) H
theorem pg_name {i : Nat} {x : Str} (hN : X.N.Nodup) (hi : X.N[i]? = some x) (hx : Loc X.env.scope x) (hf : X.fn x = true ∨ X.env.scope.names.lookup x = some .local := by first | exact .inl rfl | exact .inr rfl | assumption) : PG X (.Name x pos) (gName i) := by
  constructor; intro pins s σ H v u Q I r h
  exact wpAny_assign_Name (store_ok I hN hi hx r (fun s' I' => ⟨_, H, I', h⟩) hf)
def gNil : TGs := fun vs σ H Q => vs = [] ∧ Q σ H
def gCons (t : TG) (u : TGs) : TGs := fun vs σ H Q => ∃ v r, vs = v :: r ∧ t v σ H fun σ' H' => u r σ' H' Q
theorem pgs_nil : PGs X [] gNil := by
  constructor; intro pins s σ H vs us Q I r h
  obtain ⟨e, h⟩ := h
  subst e
  cases r
  exact assignInOrder_nil ⟨σ, H, I, h⟩
theorem pgs_cons {e : Expr} {es : List Expr} {t : TG} {u : TGs} (h1 : PG X e t) (h2 : PGs X es u)
    (hs : (assignEach (e :: es) X.env).map (·.2) = assign e X.env :: (assignEach es X.env).map (·.2) := by rfl) : PGs X (e :: es) (gCons t u) := by
  constructor; intro pins s σ H vs us Q I r h
  obtain ⟨v, vr, e1, h⟩ := h
  subst e1
  cases r with
  | cons r rr =>
    rw [hs]
    refine assignInOrder_cons (thn (h1 pins s σ H _ _ _ I r h) fun _ s1 ⟨σ1, H1, I1, q1⟩ => ?_)
    exact h2 pins s1 σ1 H1 _ _ Q I1 rr q1
/-- (a, b, ..) = a tuple of that length -/
def gTup (K : PySem.W.Frag) (n : Nat) (t : TGs) : TG := fun v σ H Q => ∃ a xs, v = .ref a ∧ SqT K H a xs ∧ xs.length = n ∧ t xs σ H Q
theorem pg_tup {es : List Expr} {k : Nat} {t : TGs} {n : Nat} (hc : X.calm = true) (h : PGs X es t)
    (hn : (assignEach es X.env).length = n := by rfl) (hst : (assignEach es X.env).findIdx? (·.1) = none := by rfl) : PG X (.Tuple es k pos) (gTup X.K n t) := by
  constructor; intro pins s σ H v u Q I r hw
  obtain ⟨a, xs, e1, hq, hl, hw⟩ := hw
  subst e1
  cases r
  obtain ⟨its, rv, ht, hz⟩ := I.tuple hq
  refine assign_Tuple_tuple (I.ok.hd hc) ht (by simp [hn, ← hl, rv.length]) hst fun h' hx => ?_
  have I1 : Inv X pins σ H { s with heap := h' } := I.kept (t' := s.toks) fun b o e => hx b o (Nat.ne_of_lt (Heap.lt_size e)) e
  exact h pins _ σ H xs _ Q I1 (by simpa using rv) hw
/-- o[i] = .. -/
def gSub (to ti : TE) (t : TSet) : TG := fun v σ H Q => to σ H fun o H1 => ti σ H1 fun i H2 => t o i v H2 fun H3 => Q σ H3
theorem pg_sub {o i : Expr} {to ti : TE} {t : TSet} (ho : PE X o to) (hi : PE X i ti) (hs : PSet X t)
    (ha : ∀ v, assign (.Subscript o i pos) X.env v = (do
      let ov ← holding [v] (eval o X.env)
      let iv ← holding [v, ov] (eval i X.env)
      standAt pos
      holding [v, ov, iv] (setItem ov iv v)
      release [v, ov, iv] []) := by intro _; rfl) : PG X (.Subscript o i pos) (gSub to ti t) := by
  constructor; intro pins s σ H v u Q I r h
  rw [ha]
  refine wpAny_bind (wpAny_holding (thn (ho pins s σ H _ I h) fun ov s1 ⟨x, H1, I1, r1, q1⟩ => ?_))
  refine wpAny_bind (wpAny_holding (thn (hi pins s1 σ H1 _ I1 q1) fun iv s2 ⟨y, H2, I2, r2, q2⟩ => ?_))
  refine wpAny_bind (wpAny_standAt (wpAny_bind (wpAny_holding (thn (hs pins s2 σ H2 x y v ov iv u _ I2 r1 r2 r q2) fun _ s3 ⟨H3, I3, q3⟩ => ?_))))
  exact wpAny_release ⟨σ, H3, I3, q3⟩
/-- target = value -/
def tAsg (te : TE) (g : TG) : TS := fun D σ H => te σ H fun x H1 => g x σ H1 D.nx
theorem ps_asg {tg e : Expr} {te : TE} {g : TG} (he : PE X e te) (hg : PG X tg g) (hs : swapsWithSole [tg] e pos.line X.env = pure false := by rfl) (hw : swappedStores [tg] e X.env = pure none := by rfl)
    (h1 : (assignEach [tg] X.env).map (·.2) = [assign tg X.env] := by rfl) : PS X (.Assign [tg] e pos) (tAsg te g) := by
  constructor; intro pins s σ H D I h
  refine wpAny_Assign_stores (thn (he pins s σ H _ I h) fun v s1 ⟨x, H1, I1, r1, q1⟩ => ?_) hs hw
  rw [h1]
  exact thn (hg pins s1 σ H1 x v _ I1 r1 q1) fun _ s2 q => q
/-- name = value -/
theorem ps_set {i : Nat} {x : Str} {e : Expr} {te : TE} {pos' : Pos} (hN : X.N.Nodup) (hi : X.N[i]? = some x) (hx : Loc X.env.scope x) (he : PE X e te) (hs : swapsWith e (some (.Name x pos')) pos.line X.env = pure false := by rfl) (hf : X.fn x = true ∨ X.env.scope.names.lookup x = some .local := by first | exact .inl rfl | exact .inr rfl | assumption) :
    PS X (.Assign [.Name x pos'] e pos) (tAsg te (gName i)) := by
  constructor; intro pins s σ H D I h
  refine wpAny_Assign_Name (thn (he pins s σ H _ I h) fun v s1 ⟨y, H1, I1, r1, q1⟩ => ?_) hs
  exact store_ok I1 hN hi hx r1 (fun s2 I2 => ⟨_, H1, I2, q1⟩) hf
end

/-! ### while -/
section
variable {X : Cx} {pos : Pos}
end

/-! ### what a loop or a comprehension walks -/
/-- at turn i: it yields x (the heap may grow), or it stops -/
structure It where
  go : Nat → Hp → Prop
  yld : Nat → Hp → V → Hp → Prop
  stop : Nat → Hp → Prop
/-- the iterator's own objects may turn: they are not the frame's, not pinned, younger than the entry (or a comprehension's own) -/
def FpOk (X : Cx) (pins : List (Addr × Obj)) (H : Hp) (b : Addr) : Prop :=
  H b = none ∧ b ≠ X.env.locals ∧ b ∉ X.fs ∧ (b ∈ X.ex ∨ X.s₀.heap.objs.size ≤ b) ∧ (∀ x c, X.env.cells.lookup x = some c → c ≠ b) ∧ ∀ p ∈ X.pn ++ pins, p.1 ≠ b
theorem Inv.fpOk {X : Cx} {pins : List (Addr × Obj)} {σ : St} {H H' : Hp} {s : Shared} {b : Addr} (I : Inv X pins σ H s) (hb : s.heap.objs.size ≤ b) (hn : H' b = none) : FpOk X pins H' b := by
  refine ⟨hn, Nat.ne_of_gt (Nat.lt_of_lt_of_le I.lt hb), I.nofs hb, .inr (Nat.le_trans I.sz hb), fun x c e z => ?_, fun p hp z => ?_⟩
  · obtain ⟨v, q⟩ := I.cell x c e
    exact absurd (Nat.lt_of_lt_of_le q.lt (by rw [z]; exact hb)) (Nat.lt_irrefl _)
  · exact absurd (Nat.lt_of_lt_of_le (Heap.lt_size (I.pin p hp).1) (by rw [z]; exact hb)) (Nat.lt_irrefl _)
structure Turn (P : Program) (w : World) (K : PySem.W.Frag) (tg : Expr) (J : It) (fp : List Addr) (it : Addr) (tn : Nat → Heap → Prop) : Prop where
  mem : it ∈ fp
  obj : ∀ i h, tn i h → ∀ b ∈ fp, ∃ o, h.get? b = some o ∧ ∀ v, o.data ≠ .cell v
  keep : ∀ i h h', tn i h → (∀ b ∈ fp, ∀ o, h.get? b = some o → h'.get? b = some o) → tn i h'
  item : ∀ (X : Cx), X.prog = P → X.w = w → X.K = K → X.calm = true → ∀ (i : Nat) (pins : List (Addr × Obj)) (s : Shared) (σ : St) (H : Hp) (E : Value → Shared → Prop), Inv X pins σ H s → (∀ b ∈ fp, FpOk X pins H b) → tn i s.heap → J.go i H →
    wpAny (model P w) X.A (pyNext (.ref it)) (fun r s1 => ∃ u, r = some u ∧
      wpAny (model P w) X.A (letOwnedTupleGo tg (.ref it) u) (fun _ s2 => ∃ x H', Inv X pins σ H' s2 ∧ RelV x u ∧ J.yld i H x H' ∧ tn (i + 1) s2.heap ∧ ∀ b ∈ fp, H' b = none) E s1) E s
  done : ∀ (X : Cx), X.prog = P → X.w = w → X.K = K → X.calm = true → ∀ (i : Nat) (pins : List (Addr × Obj)) (s : Shared) (σ : St) (H : Hp) (E : Value → Shared → Prop), Inv X pins σ H s → (∀ b ∈ fp, FpOk X pins H b) → tn i s.heap → J.stop i H →
    wpAny (model P w) X.A (pyNext (.ref it)) (fun r s1 => r = none ∧ Inv X pins σ H s1) E s
  self : ∀ (A : Around) (i : Nat) (s : Shared) (Q : Value → Shared → Prop) (E : Value → Shared → Prop), tn i s.heap → Q (.ref it) s → wpAny (model P w) A (pyIter (.ref it)) Q E s
abbrev TI := St → Hp → (It → Hp → Prop) → Prop
/-- an iterator has come -/
def PIE (X : Cx) (pins : List (Addr × Obj)) (σ : St) (tg : Expr) (R : It → Hp → Prop) (itv : Value) (s2 : Shared) : Prop :=
  ∃ (it : Addr) (fp : List Addr) (tn : Nat → Heap → Prop) (J : It) (H' : Hp), itv = .ref it ∧ Inv X pins σ H' s2 ∧ Turn X.prog X.w X.K tg J fp it tn ∧ tn 0 s2.heap ∧ (∀ b ∈ fp, FpOk X pins H' b) ∧ R J H'
structure PI (X : Cx) (tg iter : Expr) (wi : TI) : Prop where
  run : ∀ (pins : List (Addr × Obj)) (s : Shared) (σ : St) (H : Hp) (R : It → Hp → Prop), Inv X pins σ H s → wi σ H R →
    wpAny (model X.prog X.w) X.A (eval iter X.env) (fun v s1 => wpAny (model X.prog X.w) X.A (pyIter v) (PIE X pins σ tg R) X.xe s1) X.xe s
instance {X : Cx} {tg iter : Expr} {wi : TI} : CoeFun (PI X tg iter wi) fun _ => ∀ (pins : List (Addr × Obj)) (s : Shared) (σ : St) (H : Hp) (R : It → Hp → Prop), Inv X pins σ H s → wi σ H R →
    wpAny (model X.prog X.w) X.A (eval iter X.env) (fun v s1 => wpAny (model X.prog X.w) X.A (pyIter v) (PIE X pins σ tg R) X.xe s1) X.xe s := ⟨PI.run⟩

/-- the step ahead of the store is nothing for an iterator that keeps no tuple -/
theorem go_of {M : Model} {A : Around} {E : Value → Shared → Prop} {s : Shared} {tg : Expr} {it : Addr} {u : Value} {o : Obj} {n : String} {vs : Array Value} {Q : Unit → Shared → Prop} (ho : s.heap.get? it = some o) (hc : o.cls = .type n) (hd : o.data = .fields vs)
    (hn : ["enumerate", "zip", "dict_itemiterator", "dict_reverseitemiterator", "odict_iterator", "itertools.zip_longest", "itertools.pairwise"].contains n = false) (hQ : Q () s) : wpAny M A (letOwnedTupleGo tg (.ref it) u) Q E s := by
  unfold letOwnedTupleGo
  cases tg <;> first
    | exact wpAny_pure hQ
    | (cases u <;> first
        | exact wpAny_pure hQ
        | (refine wpAny_bind (wpAny_load ho ?_)
           rw [hc, hd]
           show wpAny M A (if (["enumerate", "zip", "dict_itemiterator", "dict_reverseitemiterator", "odict_iterator", "itertools.zip_longest", "itertools.pairwise"].contains n && vs[0]? == some (rawInt _)) = true then _ else _) Q E s
           rw [if_neg (by intro h; rw [hn, Bool.false_and] at h; cases h)]
           exact wpAny_pure hQ))

/-- the list at a, as it stands at each turn (a loop may append to it) -/
def Itl (K : PySem.W.Frag) (a : Addr) : It :=
  ⟨fun i H => ∃ xs x, SqL K H a xs ∧ xs[i]? = some x, fun i H x H' => H' = H ∧ ∀ xs, SqL K H a xs → xs[i]? = some x, fun i H => ∃ xs, SqL K H a xs ∧ xs.length ≤ i⟩
def Itt (K : PySem.W.Frag) (a : Addr) : It :=
  ⟨fun i H => ∃ xs x, SqT K H a xs ∧ xs[i]? = some x, fun i H x H' => H' = H ∧ ∀ xs, SqT K H a xs → xs[i]? = some x, fun i H => ∃ xs, SqT K H a xs ∧ xs.length ≤ i⟩
/-- lo, lo + 1, .. (n of them) -/
def Itr (lo : Int) (n : Nat) : It := ⟨fun i _ => i < n, fun i H x H' => H' = H ∧ x = .int (lo + i), fun i _ => n ≤ i⟩
theorem turn_list {P : Program} {w : World} {K : PySem.W.Frag} {tg : Expr} (a it : Addr) : Turn P w K tg (Itl K a) [it] it (fun i h => h.IsListIter it a i) where
  mem := by simp
  obj := fun i h st b hb => by
    have e : b = it := by simpa using hb
    subst e
    obtain ⟨o, e, c, d⟩ := st
    exact ⟨o, e, fun v z => by rw [d] at z; cases z⟩
  keep := fun i h h' st k => st.at fun o e => k it (by simp) o e
  item := by
    intro X hP hw hK hc i pins s σ H E I hf st hg
    subst hP hw hK
    obtain ⟨xs, x, hq, hx⟩ := hg
    obtain ⟨its, rv, p, hz⟩ := I.list hq
    obtain ⟨u, hu, ru⟩ := rv.get hx
    obtain ⟨f0, f1, f2, f3, f4, f5⟩ := hf it (by simp)
    refine wpAny_pyNext_list_item st p.isList (x := u) (by simpa using hu) fun h' st' sb => ?_
    have I1 : Inv X pins σ H { s with heap := h' } := I.turned (t' := s.toks) (fun b o hb e => (sb.2 b hb).trans e) f0 f1 f3 f4 f5
    obtain ⟨o, e, c, d⟩ := id st'
    exact ⟨u, rfl, go_of (s := { s with heap := h' }) e c d (by decide) ⟨x, H, I1, ru, ⟨rfl, fun ys hy => by rw [I.list_inj hy hq]; exact hx⟩, st', fun b hb => (hf b hb).1⟩⟩
  done := by
    intro X hP hw hK hc i pins s σ H E I hf st hg
    subst hP hw hK
    obtain ⟨xs, hq, hx⟩ := hg
    obtain ⟨its, rv, p, hz⟩ := I.list hq
    obtain ⟨f0, f1, f2, f3, f4, f5⟩ := hf it (by simp)
    have hl := rv.length
    exact wpAny_pyNext_list_end (I.ok.hd hc) st p.isList (by simp; omega) fun h' eb => ⟨rfl, I.turned (t' := s.toks) (fun b o hb e => eb b o hb e) f0 f1 f3 f4 f5⟩
  self := fun _ _ _ _ _ st h => wpAny_pyIter_listiter st h
theorem turn_range {P : Program} {w : World} {K : PySem.W.Frag} {tg : Expr} (it : Addr) (lo : Int) (n : Nat) : Turn P w K tg (Itr lo n) [it] it (fun i h => IsRangeIter h it (lo + (i : Nat) * 1) ((n : Int) - (i : Nat)) 1) where
  mem := by simp
  obj := fun i h st b hb => by
    have e : b = it := by simpa using hb
    subst e
    exact ⟨_, st, fun v z => by
      have z' : Data.fields _ = Data.cell v := z
      cases z'⟩
  keep := fun i h h' st k => k it (by simp) _ st
  item := by
    intro X hP hw hK hc i pins s σ H E I hf st hg
    subst hP hw hK
    obtain ⟨f0, f1, f2, f3, f4, f5⟩ := hf it (by simp)
    have W := Walks.range (prog := X.prog) (w := X.w) (I.ok.hd hc) it lo 1 n
    refine W.item i s _ _ hg st fun v h' tk hv st' kk => ?_
    obtain ⟨t, rfl⟩ := hv
    have I1 : Inv X pins σ H { s with heap := h', toks := tk } := I.turned (fun b o hb e => kk b o (by simpa using hb) e) f0 f1 f3 f4 f5
    refine ⟨_, rfl, go_of (s := { s with heap := h', toks := tk }) (n := "range_iterator") st' rfl rfl (by decide) ⟨.int (lo + i), H, I1, ⟨t, ?_⟩, ⟨rfl, rfl⟩, st', fun b hb => (hf b hb).1⟩⟩
    rw [Int.mul_one]
  done := by
    intro X hP hw hK hc i pins s σ H E I hf st hg
    subst hP hw hK
    obtain ⟨f0, f1, f2, f3, f4, f5⟩ := hf it (by simp)
    exact wpAny_pyNext_range_end (I.ok.hd hc) st (by have : n ≤ i := hg; omega) fun h' eb => ⟨rfl, I.turned (t' := s.toks) (fun b o hb e => eb b o hb e) f0 f1 f3 f4 f5⟩
  self := fun _ _ _ _ _ st h => wpAny_pyIter_rangeiter st h
end L2

namespace L2
open PySem PySem.Spec PyProof.Rows
section
variable {X : Cx} {tg : Expr}
def iList (K : PySem.W.Frag) (tl : TE) : TI := fun σ H R => tl σ H fun x H1 => ∃ a, x = .ref a ∧ (∃ xs, SqL K H1 a xs) ∧ R (Itl K a) H1
theorem pi_list {l : Expr} {tl : TE} (hl : PE X l tl) : PI X tg l (iList X.K tl) := by
  constructor; intro pins s σ H R I h
  refine thn (hl pins s σ H _ I h) fun v s1 ⟨x, H1, I1, r1, q1⟩ => ?_
  obtain ⟨a, e, ⟨xs, hq⟩, q⟩ := q1
  subst e
  cases r1
  obtain ⟨its, rv, p, hz⟩ := I1.list hq
  refine wpAny_pyIter_list p.isList ?_
  refine ⟨s1.heap.objs.size, [s1.heap.objs.size], _, _, H1, rfl, I1.kept (t' := s1.toks) fun b o e => Heap.get?_push_of_some _ e, turn_list a _, ⟨_, Heap.get?_push_size _ rfl, rfl, rfl⟩, fun b hb => ?_, q⟩
  have e : b = s1.heap.objs.size := by simpa using hb
  subst e
  exact I1.fpOk (Nat.le_refl _) (I1.hok.fresh (Nat.le_refl _))
/-- a range object just made, walked -/
theorem range_it {pins : List (Addr × Obj)} {σ : St} {H : Hp} {s : Shared} {R : It → Hp → Prop} {E : Value → Shared → Prop} {lo hi : Int} {t u v : Tok} {tk : Nat} (I : Inv X pins σ H s) (h1 : -(2 ^ 62) ≤ lo) (h2 : lo < 2 ^ 62) (h3 : -(2 ^ 62) ≤ hi) (h4 : hi < 2 ^ 62)
    (q : R (Itr lo (hi - lo).toNat) H) : wpAny (model X.prog X.w) X.A (pyIter (.ref s.heap.objs.size)) (PIE X pins σ tg R) E { s with heap := s.heap.push { cls := .type "range", data := .fields #[.int lo t, .int hi u, .int 1 v] }, toks := tk } := by
  refine wpAny_pyIter_range (IsRange.new ..) (small_one h1 h2 h3 h4) ?_
  have I1 : Inv X pins σ H { s with heap := s.heap.push { cls := .type "range", data := .fields #[.int lo t, .int hi u, .int 1 v] }, toks := tk } := I.kept fun b o e => Heap.get?_push_of_some _ e
  refine ⟨(s.heap.push { cls := .type "range", data := .fields #[.int lo t, .int hi u, .int 1 v] }).objs.size, [(s.heap.push { cls := .type "range", data := .fields #[.int lo t, .int hi u, .int 1 v] }).objs.size], _, _, H, rfl,
    I1.kept (t' := tk) fun b o e => Heap.get?_push_of_some _ e, turn_range _ lo (hi - lo).toNat, ?_, fun b hb => ?_, q⟩
  · have e1 : lo + ((0 : Nat) : Int) * 1 = lo := by simp
    have e2 : (((hi - lo).toNat : Nat) : Int) - ((0 : Nat) : Int) = Builtin.Range.rangeSize lo hi 1 := by rw [rangeSize_one]; split <;> omega
    show IsRangeIter _ _ (lo + ((0 : Nat) : Int) * 1) ((((hi - lo).toNat : Nat) : Int) - ((0 : Nat) : Int)) 1
    rw [e1, e2]
    exact Heap.get?_push_size _ rfl
  · have e : b = (s.heap.push { cls := .type "range", data := .fields #[.int lo t, .int hi u, .int 1 v] }).objs.size := by simpa using hb
    subst e
    exact I1.fpOk (Nat.le_refl _) (I1.hok.fresh (Nat.le_refl _))
def iRng1 (ta : TA) : TI := fun σ H R => ta σ H fun vs H1 => ∃ j : Int, vs = [.int j] ∧ -(2 ^ 62) ≤ j ∧ j < 2 ^ 62 ∧ R (Itr 0 j.toNat) H1
theorem pi_range1 {a : Expr} {ta : TA} {p pos : Pos} (hg : Gl X "range") (hm : X.mg "range" = none) (ha : PA X [a] ta) (hs : starEach [a] X.env = [(false, eval a X.env)] := by rfl) : PI X tg (.Call (.Name "range" p) [a] [] pos) (iRng1 ta) := by
  constructor; intro pins s σ H R I h
  refine Call_ (ld_blt I hg hm boot_range (PyProof.Rows.callWith_type1 (thn (ha pos pins s σ H _ I h) fun us s1 ⟨vs, H1, I1, r1, q1⟩ => ?_) hs rfl))
  obtain ⟨j, e, q1, q2, q⟩ := q1
  subst e
  cases r1 with
  | cons r rr =>
    cases rr
    obtain ⟨t, rfl⟩ := r
    exact call_range_1 (range_it I1 (by omega) (by omega) q1 q2 (by simpa using q))
/-! ### for -/
/-- W: the invariant by the turn and a measure; N: what the body is to reach -/
def tFor (wi : TI) (g : TG) (tb : TS) : TS := fun D σ H => wi σ H fun J H1 => ∃ W : Nat → Nat → St → Hp → Prop, (∃ m, W 0 m σ H1) ∧ ∀ i m σ H, W i m σ H →
  (J.stop i H ∧ D.nx σ H) ∨ (J.go i H ∧ ∃ N : St → Hp → Prop, (∀ σ' H', N σ' H' → ∃ m', m' < m ∧ W (i + 1) m' σ' H') ∧ ∀ x H', J.yld i H x H' → g x σ H' fun σ2 H2 => tb { D with nx := N, ct := N, bk := D.nx } σ2 H2)
/-- the records at fp as they stand -/
def pinsAt (fp : List Addr) (h : Heap) : List (Addr × Obj) := fp.filterMap fun b => (h.get? b).map fun o => (b, o)
theorem mem_pinsAt {fp : List Addr} {h : Heap} {b : Addr} {o : Obj} (hb : b ∈ fp) (e : h.get? b = some o) : (b, o) ∈ pinsAt fp h := List.mem_filterMap.mpr ⟨b, hb, by rw [e]; rfl⟩
theorem of_pinsAt {fp : List Addr} {h : Heap} {p : Addr × Obj} (hp : p ∈ pinsAt fp h) : p.1 ∈ fp ∧ h.get? p.1 = some p.2 := by
  obtain ⟨b, hb, e⟩ := List.mem_filterMap.mp hp
  cases q : h.get? b with
  | none => rw [q] at e; cases e
  | some o =>
    rw [q] at e
    have e' : (b, o) = p := Option.some.inj e
    subst e'
    exact ⟨hb, q⟩
theorem Inv.pinned {pins : List (Addr × Obj)} {σ : St} {H : Hp} {s : Shared} {fp : List Addr} (I : Inv X pins σ H s) (hf : ∀ b ∈ fp, FpOk X pins H b) (ho : ∀ b ∈ fp, ∃ o, s.heap.get? b = some o ∧ ∀ v, o.data ≠ .cell v) : Inv X (pins ++ pinsAt fp s.heap) σ H s :=
  I.pins_of fun p hp => (List.mem_append.mp hp).elim (fun z => I.pin p (List.mem_append_right _ z)) fun z => by
    obtain ⟨hb, e⟩ := of_pinsAt z
    obtain ⟨f0, f1, f2, _⟩ := hf p.1 hb
    obtain ⟨o, e', d⟩ := ho p.1 hb
    rw [e] at e'; cases e'
    exact ⟨e, f0, f1, f2, d⟩
theorem Inv.unpinned {pins pl : List (Addr × Obj)} {σ : St} {H : Hp} {s : Shared} (I : Inv X (pins ++ pl) σ H s) : Inv X pins σ H s := I.pins_of fun p hp => I.pin p (List.mem_append_right _ (List.mem_append_left _ hp))
theorem ps_for {iter : Expr} {body : List Stmt} {wi : TI} {g : TG} {tb : TS} {pos : Pos} (hp : PassesOwn (model X.prog X.w) X.A X.env X.xe) (hc : X.calm = true) (hi : PI X tg iter wi) (hg : PG X tg g) (hb : PSs X body tb)
    (hs : ∀ x, foldedSetIterable iter X.env x = pure x := by intro _; rfl) : PS X (.For tg iter body [] pos) (tFor wi g tb) := by
  constructor; intro pins s σ H D I h
  refine wpAny_For (thn (hi pins s σ H _ I h) fun v s1 h1 => thn h1 fun itv s2 h2 => ?_) hs
  obtain ⟨it, fp, tn, J, H2, e, I2, T, st2, f2, W, ⟨m0, w0⟩, turn⟩ := h2
  subst e
  -- what stays true of the iterator's objects through the loop
  have stat : ∀ {H' : Hp}, (∀ b ∈ fp, H' b = none) → ∀ b ∈ fp, FpOk X pins H' b := fun hn b hb => ⟨hn b hb, (f2 b hb).2⟩
  refine codeAny_forLoop_any (fun n s' => ∃ i σ' H', Inv X pins σ' H' s' ∧ tn i s'.heap ∧ (∀ b ∈ fp, H' b = none) ∧ W i n σ' H') ?_ m0 ⟨0, σ, H2, I2, st2, fun b hb => (f2 b hb).1, w0⟩
  rintro n s3 ⟨i, σ3, H3, I3, st3, fr3, w3⟩
  rcases turn i n σ3 H3 w3 with ⟨stop, qn⟩ | ⟨go, N, hN, step⟩
  · refine wpAny_passesOwn hp (thn (T.done X rfl rfl rfl hc i pins s3 σ3 H3 X.xe I3 (stat fr3) st3 stop) fun r s4 ⟨hr, I4⟩ => ?_)
    subst hr
    exact wpAny_execs_nil ⟨σ3, H3, I4, qn⟩
  · refine wpAny_passesOwn hp (thn (T.item X rfl rfl rfl hc i pins s3 σ3 H3 X.xe I3 (stat fr3) st3 go) fun r s4 ⟨u, hr, h4⟩ => ?_)
    subst hr
    refine wpAny_passesOwn hp (thn h4 fun _ s5 ⟨x, H5, I5, r5, y5, st5, fr5⟩ => ?_)
    have I5' := I5.pinned (stat fr5) (T.obj _ _ st5)
    refine wpAny_passesOwn hp (thn (hg _ s5 σ3 H5 x u _ I5' r5 (step x H5 y5)) fun _ s6 ⟨σ6, H6, I6, q6⟩ => ?_)
    refine wpAny_passesOwn hp (thn (hb _ s6 σ6 H6 _ I6 q6) fun f s7 q7 => ?_)
    have again : ∀ {σ7 : St} {H7 : Hp}, Inv X (pins ++ pinsAt fp s5.heap) σ7 H7 s7 → N σ7 H7 → ∃ m, m < n ∧ ∃ i σ' H', Inv X pins σ' H' s7 ∧ tn i s7.heap ∧ (∀ b ∈ fp, H' b = none) ∧ W i m σ' H' := fun {σ7 H7} I7 n7 => by
      obtain ⟨m', hm, w7⟩ := hN σ7 H7 n7
      refine ⟨m', hm, i + 1, σ7, H7, I7.unpinned, T.keep _ _ _ st5 fun b hb o e => (I7.pin (b, o) (List.mem_append_right _ (List.mem_append_right _ (mem_pinsAt hb e)))).1, fun b hb => ?_, w7⟩
      obtain ⟨o, e, d⟩ := T.obj _ _ st5 b hb
      exact (I7.pin (b, o) (List.mem_append_right _ (List.mem_append_right _ (mem_pinsAt hb e)))).2.1
    cases f with
    | next => obtain ⟨σ7, H7, I7, n7⟩ := q7; exact again I7 n7
    | cont => obtain ⟨σ7, H7, I7, n7⟩ := q7; exact again I7 n7
    | brk => obtain ⟨σ7, H7, I7, q7⟩ := q7; exact ⟨σ7, H7, I7.unpinned, q7⟩
    | ret v => obtain ⟨x7, σ7, H7, I7, r7, q7⟩ := q7; exact ⟨x7, σ7, H7, I7.unpinned, r7, q7⟩
end

/-! ### the forms one uses -/
/-- over a list that the body leaves as it is -/
theorem for_list {K : PySem.W.Frag} {a : Addr} {xs : List V} {g : TG} {tb : TS} {D : Ends} {σ : St} {H : Hp} (Pv : Nat → St → Hp → Prop) (h0 : Pv 0 σ H) (hl : ∀ i σ H, i ≤ xs.length → Pv i σ H → SqL K H a xs)
    (hs : ∀ i x σ H, xs[i]? = some x → Pv i σ H → g x σ H fun σ2 H2 => tb { D with nx := Pv (i + 1), ct := Pv (i + 1), bk := D.nx } σ2 H2) (hd : ∀ σ H, Pv xs.length σ H → D.nx σ H) :
    ∃ W : Nat → Nat → St → Hp → Prop, (∃ m, W 0 m σ H) ∧ ∀ i m σ H, W i m σ H →
      ((Itl K a).stop i H ∧ D.nx σ H) ∨ ((Itl K a).go i H ∧ ∃ N : St → Hp → Prop, (∀ σ' H', N σ' H' → ∃ m', m' < m ∧ W (i + 1) m' σ' H') ∧ ∀ x H', (Itl K a).yld i H x H' → g x σ H' fun σ2 H2 => tb { D with nx := N, ct := N, bk := D.nx } σ2 H2) := by
  refine ⟨fun i m σ H => m = xs.length - i ∧ i ≤ xs.length ∧ Pv i σ H, ⟨xs.length, by simp, Nat.zero_le _, h0⟩, ?_⟩
  rintro i m σ H ⟨rfl, hi, p⟩
  have q := hl i σ H hi p
  by_cases hlt : i < xs.length
  · refine .inr ⟨⟨xs, xs[i], q, by simp [hlt]⟩, Pv (i + 1), fun σ' H' p' => ⟨xs.length - (i + 1), by omega, rfl, hlt, p'⟩, fun x H' y => ?_⟩
    obtain ⟨e, y⟩ := y
    subst e
    exact hs i x σ _ (y xs q) p
  · have e : i = xs.length := by omega
    subst e
    exact .inl ⟨⟨xs, q, Nat.le_refl _⟩, hd σ H p⟩
theorem for_range {lo : Int} {n : Nat} {g : TG} {tb : TS} {D : Ends} {σ : St} {H : Hp} (Pv : Nat → St → Hp → Prop) (h0 : Pv 0 σ H)
    (hs : ∀ i σ H, i < n → Pv i σ H → g (.int (lo + i)) σ H fun σ2 H2 => tb { D with nx := Pv (i + 1), ct := Pv (i + 1), bk := D.nx } σ2 H2) (hd : ∀ σ H, Pv n σ H → D.nx σ H) :
    ∃ W : Nat → Nat → St → Hp → Prop, (∃ m, W 0 m σ H) ∧ ∀ i m σ H, W i m σ H →
      ((Itr lo n).stop i H ∧ D.nx σ H) ∨ ((Itr lo n).go i H ∧ ∃ N : St → Hp → Prop, (∀ σ' H', N σ' H' → ∃ m', m' < m ∧ W (i + 1) m' σ' H') ∧ ∀ x H', (Itr lo n).yld i H x H' → g x σ H' fun σ2 H2 => tb { D with nx := N, ct := N, bk := D.nx } σ2 H2) := by
  refine ⟨fun i m σ H => m = n - i ∧ i ≤ n ∧ Pv i σ H, ⟨n, by simp, Nat.zero_le _, h0⟩, ?_⟩
  rintro i m σ H ⟨rfl, hi, p⟩
  by_cases hlt : i < n
  · refine .inr ⟨hlt, Pv (i + 1), fun σ' H' p' => ⟨n - (i + 1), by omega, rfl, hlt, p'⟩, fun x H' y => ?_⟩
    obtain ⟨e, y⟩ := y
    subst e y
    exact hs i σ _ hlt p
  · have e : i = n := by omega
    subst e
    exact .inl ⟨Nat.le_refl _, hd σ H p⟩
end L2

namespace L2
open PySem PySem.Spec PyProof.Rows

abbrev R2 := V → V → Hp → VK → Prop
/-- a two-place operation on values: f is binaryOp op, inplaceOp op or compareOp op -/
def OpR (X : Cx) (f : Value → Value → Sem Value) (r : R2) : Prop :=
  ∀ (pins : List (Addr × Obj)) (s : Shared) (σ : St) (H : Hp) (x y : V) (v u : Value) (Q : VK), Inv X pins σ H s → RelV x v → RelV y u → r x y H Q →
    wpAny (model X.prog X.w) X.A (f v u) (EP X pins σ Q) X.xe s
/-- a one-place operation -/
def UnR (X : Cx) (f : Value → Sem Value) (r : V → Hp → VK → Prop) : Prop :=
  ∀ (pins : List (Addr × Obj)) (s : Shared) (σ : St) (H : Hp) (x : V) (v : Value) (Q : VK), Inv X pins σ H s → RelV x v → r x H Q →
    wpAny (model X.prog X.w) X.A (f v) (EP X pins σ Q) X.xe s
/-- a call of a value that is known (a builtin, a type) with values -/
def CallR (X : Cx) (f : Value) (r : List V → Hp → VK → Prop) : Prop :=
  ∀ (pins : List (Addr × Obj)) (s : Shared) (σ : St) (H : Hp) (xs : List V) (us : List Value) (Q : VK), Inv X pins σ H s → Vals xs us → r xs H Q →
    wpAny (model X.prog X.w) X.A (call f us) (EP X pins σ Q) X.xe s
def tOp (r : R2) (ta tb : TE) : TE := fun σ H Q => ta σ H fun x H1 => tb σ H1 fun y H2 => r x y H2 Q
def tUn (r : V → Hp → VK → Prop) (ta : TE) : TE := fun σ H Q => ta σ H fun x H1 => r x H1 Q
/-- ints in, under C, and a value out -/
def rI (C : Int → Int → Prop) (g : Int → Int → V) : R2 := fun x y H Q => ∃ i j, x = .int i ∧ y = .int j ∧ C i j ∧ Q (g i j) H
def rI0 (g : Int → Int → V) : R2 := fun x y H Q => ∃ i j, x = .int i ∧ y = .int j ∧ Q (g i j) H
def rU (g : Int → V) : V → Hp → VK → Prop := fun x H Q => ∃ i, x = .int i ∧ Q (g i) H

section
variable {X : Cx} {a b c : Expr} {ta tb tc : TE} {pos : Pos}

theorem binT (ha : PE X a ta) (hb : PE X b tb) {pins : List (Addr × Obj)} {s : Shared} {σ : St} {H : Hp} {R : V → V → Hp → Prop} (I : Inv X pins σ H s)
    (h : ta σ H fun x H1 => tb σ H1 fun y H2 => R x y H2) {Q : Value → Shared → Prop} {f : Value → Value → Sem Value}
    (hf : ∀ v u s2 x y H2, Inv X pins σ H2 s2 → RelV x v → RelV y u → R x y H2 → wpAny (model X.prog X.w) X.A (f v u) Q X.xe s2) :
    wpAny (model X.prog X.w) X.A (eval a X.env) (fun v s₁ => wpAny (model X.prog X.w) X.A (eval b X.env) (fun u s₂ => wpAny (model X.prog X.w) X.A (f v u) Q X.xe s₂) X.xe s₁) X.xe s := by
  refine thn (ha pins s σ H _ I h) fun v s1 ⟨x, H1, I1, r1, q1⟩ => ?_
  refine thn (hb pins s1 σ H1 _ I1 q1) fun u s2 ⟨y, H2, I2, r2, q2⟩ => ?_
  exact hf v u s2 x y H2 I2 r1 r2 q2

theorem pe_op {op : Operator} {r : R2} (ho : OpR X (binaryOp op) r) (ha : PE X a ta) (hb : PE X b tb) : PE X (.BinOp a op b pos) (tOp r ta tb) := by
  constructor; intro pins s σ H Q I h
  exact wpAny_BinOp (binT ha hb I h fun v u s2 x y H2 I2 rx ry q => ho pins s2 σ H2 x y v u Q I2 rx ry q)
theorem pe_un {op : UnaryOp} {r : V → Hp → VK → Prop} (ho : UnR X (unaryOp op) r) (ha : PE X a ta) : PE X (.UnaryOp op a pos) (tUn r ta) := by
  constructor; intro pins s σ H Q I h
  exact UnaryOp_ (thn (ha pins s σ H _ I h) fun v s1 ⟨x, H1, I1, r1, q1⟩ => ho pins s1 σ H1 x v Q I1 r1 q1)
/-! ### ints -/
theorem opI {f : Value → Value → Sem Value} {C : Int → Int → Prop} {g : Int → Int → Int}
    (rule : ∀ (i j : Int) (t u : Tok) (s : Shared) (Q : Value → Shared → Prop) (E : Value → Shared → Prop), C i j → Q (.int (g i j) s.toks) { s with toks := s.toks + 1 } → wpAny (model X.prog X.w) X.A (f (.int i t) (.int j u)) Q E s) :
    OpR X f (rI C fun i j => .int (g i j)) := by
  intro pins s σ H x y v u Q I rx ry h
  obtain ⟨i, j, rfl, rfl, hc, q⟩ := h
  obtain ⟨t, rfl⟩ := rx
  obtain ⟨t', rfl⟩ := ry
  exact rule i j t t' s _ _ hc ⟨.int (g i j), H, I.tok _, ⟨_, rfl⟩, q⟩
theorem opI0 {f : Value → Value → Sem Value} {g : Int → Int → Int}
    (rule : ∀ (i j : Int) (t u : Tok) (s : Shared) (Q : Value → Shared → Prop) (E : Value → Shared → Prop), Q (.int (g i j) s.toks) { s with toks := s.toks + 1 } → wpAny (model X.prog X.w) X.A (f (.int i t) (.int j u)) Q E s) :
    OpR X f (rI0 fun i j => .int (g i j)) := by
  intro pins s σ H x y v u Q I rx ry h
  obtain ⟨i, j, rfl, rfl, q⟩ := h
  obtain ⟨t, rfl⟩ := rx
  obtain ⟨t', rfl⟩ := ry
  exact rule i j t t' s _ _ ⟨.int (g i j), H, I.tok _, ⟨_, rfl⟩, q⟩
theorem opB0 {f : Value → Value → Sem Value} {g : Int → Int → Bool}
    (rule : ∀ (i j : Int) (t u : Tok) (s : Shared) (Q : Value → Shared → Prop) (E : Value → Shared → Prop), Q (.bool (g i j)) s → wpAny (model X.prog X.w) X.A (f (.int i t) (.int j u)) Q E s) :
    OpR X f (rI0 fun i j => .bl (g i j)) := by
  intro pins s σ H x y v u Q I rx ry h
  obtain ⟨i, j, rfl, rfl, q⟩ := h
  obtain ⟨t, rfl⟩ := rx
  obtain ⟨t', rfl⟩ := ry
  exact rule i j t t' s _ _ ⟨.bl (g i j), H, I, rfl, q⟩

def CDiv (i j : Int) : Prop := 0 < j ∧ j < 1073741824
def CPow (i j : Int) : Prop := 0 ≤ j ∧ j ≤ 1000000 ∧ i.natAbs < 2 ^ 64
def CMul (i j : Int) : Prop := (-(2 ^ 64) < i ∧ i < 2 ^ 64) ∨ (-(2 ^ 64) < j ∧ j < 2 ^ 64)
theorem CMul.ok {i j : Int} (h : CMul i j) : IntMulOk i j := by
  rcases h with ⟨h1, h2⟩ | ⟨h1, h2⟩
  · exact .of_left (intBits_le_64 h1 h2)
  · exact .of_right (intBits_le_64 h1 h2)
theorem op_add : OpR X (binaryOp .Add) (rI0 fun i j => .int (i + j)) := opI0 fun _ _ _ _ _ _ _ q => add_int q
theorem op_sub : OpR X (binaryOp .Sub) (rI0 fun i j => .int (i - j)) := opI0 fun _ _ _ _ _ _ _ q => sub_int q
theorem op_mul : OpR X (binaryOp .Mult) (rI CMul fun i j => .int (i * j)) := opI fun _ _ _ _ _ _ _ hc q => mul_int q hc.ok
/-- // by a positive divisor -/
theorem op_fdiv : OpR X (binaryOp .FloorDiv) (rI CDiv fun i j => .int (i / j)) := opI fun i j _ _ _ _ _ hc q => by
  have h1 : (0 : Int) < j := hc.1
  have h2 : j < 1073741824 := hc.2
  exact floordiv_int (by omega) (by rw [Int.fdiv_eq_ediv_of_nonneg i (by omega)]; exact q) (.inl (PyProof.noPylong_small (by omega)))
/-- % by a positive divisor of any size -/
theorem op_mod : OpR X (binaryOp .Mod) (rI (fun _ j => 0 < j) fun i j => .int (i % j)) := opI fun i j _ _ _ _ _ hc q => by
  have h1 : (0 : Int) < j := hc
  exact mod_int' (by omega) (by rw [Int.fmod_eq_emod_of_nonneg i (by omega)]; exact q)
theorem op_pow : OpR X (binaryOp .Pow) (rI CPow fun i j => .int (i ^ j.toNat)) := opI fun _ _ _ _ _ _ _ hc q => pow_int_small hc.1 hc.2.1 hc.2.2 q
theorem unI {f : Value → Sem Value} {g : Int → Int}
    (rule : ∀ (i : Int) (t : Tok) (s : Shared) (Q : Value → Shared → Prop) (E : Value → Shared → Prop), Q (.int (g i) s.toks) { s with toks := s.toks + 1 } → wpAny (model X.prog X.w) X.A (f (.int i t)) Q E s) :
    UnR X f (rU fun i => .int (g i)) := by
  intro pins s σ H x v Q I rx h
  obtain ⟨i, rfl, q⟩ := h
  obtain ⟨t, rfl⟩ := rx
  exact rule i t s _ _ ⟨.int (g i), H, I.tok _, ⟨_, rfl⟩, q⟩
theorem un_neg : UnR X (unaryOp .USub) (rU fun i => .int (-i)) := unI fun _ _ _ _ _ q => neg_int q
/-! ### bools among ints: n += (a < b) -/
end

/-! ### comparisons -/
/-- the scalars that == tells apart as data does -/
def scal : V → V → Bool
  | .non, .non => true | .non, .int _ => true | .int _, .non => true | .non, .bl _ => true | .bl _, .non => true | .non, .str _ => true | .str _, .non => true
  | .int _, .int _ => true | .bl _, .bl _ => true | .str _, .str _ => true | .byt _, .byt _ => true
  | .int _, .str _ => true | .str _, .int _ => true | .bl _, .str _ => true | .str _, .bl _ => true
  | _, _ => false
def rEq : R2 := fun x y H Q => scal x y = true ∧ Q (.bl (decide (x = y))) H
def rNe : R2 := fun x y H Q => scal x y = true ∧ Q (.bl (!decide (x = y))) H

theorem dec_int {i j : Int} : decide (V.int i = V.int j) = (i == j) := by
  rw [Bool.eq_iff_iff]
  simp
theorem dec_bl {i j : Bool} : decide (V.bl i = V.bl j) = (i == j) := by
  rw [Bool.eq_iff_iff]
  simp
theorem dec_str {i j : Str} : decide (V.str i = V.str j) = (i == j) := by
  rw [Bool.eq_iff_iff]
  simp
theorem dec_byt {i j : Array UInt8} : decide (V.byt i = V.byt j) = (i.toList == j.toList) := by
  rw [Bool.eq_iff_iff]
  cases i
  cases j
  simp

section
variable {X : Cx} {a b c : Expr} {ta tb tc : TE} {pos : Pos}
theorem fin_bl {pins : List (Addr × Obj)} {σ : St} {H : Hp} {s : Shared} {Q : VK} {k k' : Bool} (I : Inv X pins σ H s) (q : Q (.bl k) H) (e : k = k') : EP X pins σ Q (.bool k') s := by
  subst e
  exact ⟨.bl k, H, I, rfl, q⟩
theorem op_eq : OpR X (compareOp .Eq) rEq := by
  intro pins s σ H x y v u Q I rx ry h
  obtain ⟨hs, q⟩ := h
  cases x with
  | non =>
    cases rx
    cases y with
    | non => cases ry; exact PySem.EqNone.eq_none_none (fin_bl I q (by simp))
    | bl j => cases ry; exact PySem.EqNone.eq_none_bool (fin_bl I q (by simp))
    | int j => obtain ⟨t', rfl⟩ := ry; exact PySem.EqNone.eq_none_int (fin_bl I q (by simp))
    | str j => obtain ⟨t', rfl⟩ := ry; exact PySem.EqNone.eq_none_str (fin_bl I q (by simp))
    | _ => exact absurd (show false = true from hs) Bool.false_ne_true
  | bl i =>
    cases rx
    cases y with
    | non => cases ry; exact PySem.EqNone.eq_bool_none (fin_bl I q (by simp))
    | bl j => cases ry; exact eq_bool (fin_bl I q dec_bl)
    | str j => obtain ⟨t', rfl⟩ := ry; exact PySem.EqMixed.eq_bool_str (fin_bl I q (by simp))
    | _ => exact absurd (show false = true from hs) Bool.false_ne_true
  | int i =>
    obtain ⟨t, rfl⟩ := rx
    cases y with
    | non => cases ry; exact PySem.EqNone.eq_int_none (fin_bl I q (by simp))
    | int j => obtain ⟨t', rfl⟩ := ry; exact eq_int (fin_bl I q dec_int)
    | str j => obtain ⟨t', rfl⟩ := ry; exact PySem.EqMixed.eq_int_str (fin_bl I q (by simp))
    | _ => exact absurd (show false = true from hs) Bool.false_ne_true
  | str i =>
    obtain ⟨t, rfl⟩ := rx
    cases y with
    | non => cases ry; exact PySem.EqNone.eq_str_none (fin_bl I q (by simp))
    | bl j => cases ry; exact PySem.EqMixed.eq_str_bool (fin_bl I q (by simp))
    | int j => obtain ⟨t', rfl⟩ := ry; exact PySem.EqMixed.eq_str_int (fin_bl I q (by simp))
    | str j => obtain ⟨t', rfl⟩ := ry; exact eq_str (fin_bl I q dec_str)
    | _ => exact absurd (show false = true from hs) Bool.false_ne_true
  | byt i =>
    obtain ⟨t, rfl⟩ := rx
    cases y with
    | byt j => obtain ⟨t', rfl⟩ := ry; exact PySem.W.eq_bytes (fin_bl I q dec_byt)
    | _ => exact absurd (show false = true from hs) Bool.false_ne_true
  | _ => cases y <;> exact absurd (show false = true from hs) Bool.false_ne_true
theorem op_ne : OpR X (compareOp .NotEq) rNe := by
  intro pins s σ H x y v u Q I rx ry h
  obtain ⟨hs, q⟩ := h
  cases x with
  | non =>
    cases rx
    cases y with
    | non => cases ry; exact PySem.EqNone.ne_none_none (fin_bl I q (by simp))
    | bl j => cases ry; exact PySem.EqNone.ne_none_bool (fin_bl I q (by simp))
    | int j => obtain ⟨t', rfl⟩ := ry; exact PySem.EqNone.ne_none_int (fin_bl I q (by simp))
    | str j => obtain ⟨t', rfl⟩ := ry; exact PySem.EqNone.ne_none_str (fin_bl I q (by simp))
    | _ => exact absurd (show false = true from hs) Bool.false_ne_true
  | bl i =>
    cases rx
    cases y with
    | non => cases ry; exact PySem.EqNone.ne_bool_none (fin_bl I q (by simp))
    | bl j => cases ry; exact ne_bool (fin_bl I q (congrArg not dec_bl))
    | str j => obtain ⟨t', rfl⟩ := ry; exact PySem.EqMixed.ne_bool_str (fin_bl I q (by simp))
    | _ => exact absurd (show false = true from hs) Bool.false_ne_true
  | int i =>
    obtain ⟨t, rfl⟩ := rx
    cases y with
    | non => cases ry; exact PySem.EqNone.ne_int_none (fin_bl I q (by simp))
    | int j => obtain ⟨t', rfl⟩ := ry; exact ne_int (fin_bl I q (congrArg not dec_int))
    | str j => obtain ⟨t', rfl⟩ := ry; exact PySem.EqMixed.ne_int_str (fin_bl I q (by simp))
    | _ => exact absurd (show false = true from hs) Bool.false_ne_true
  | str i =>
    obtain ⟨t, rfl⟩ := rx
    cases y with
    | non => cases ry; exact PySem.EqNone.ne_str_none (fin_bl I q (by simp))
    | bl j => cases ry; exact PySem.EqMixed.ne_str_bool (fin_bl I q (by simp))
    | int j => obtain ⟨t', rfl⟩ := ry; exact PySem.EqMixed.ne_str_int (fin_bl I q (by simp))
    | str j => obtain ⟨t', rfl⟩ := ry; exact ne_str (fin_bl I q (congrArg not dec_str))
    | _ => exact absurd (show false = true from hs) Bool.false_ne_true
  | byt i =>
    obtain ⟨t, rfl⟩ := rx
    cases y with
    | byt j => obtain ⟨t', rfl⟩ := ry; exact PySem.W.ne_bytes (fin_bl I q (congrArg not dec_byt))
    | _ => exact absurd (show false = true from hs) Bool.false_ne_true
  | _ => cases y <;> exact absurd (show false = true from hs) Bool.false_ne_true

theorem op_lt : OpR X (compareOp .Lt) (rI0 fun i j => .bl (decide (i < j))) := opB0 fun _ _ _ _ _ _ _ q => lt_int q
theorem op_le : OpR X (compareOp .LtE) (rI0 fun i j => .bl (decide (i ≤ j))) := opB0 fun _ _ _ _ _ _ _ q => le_int q
theorem op_gt : OpR X (compareOp .Gt) (rI0 fun i j => .bl (decide (j < i))) := opB0 fun _ _ _ _ _ _ _ q => gt_int q
/-- is None, is not None: the right side a value none -/
theorem op_isN : OpR X (compareOp .Is) (fun x y H Q => y = .non ∧ Q (.bl (decide (x = .non))) H) := by
  intro pins s σ H x y v u Q I rx ry h
  obtain ⟨rfl, q⟩ := h
  cases ry
  refine is_none_gen (fin_bl I q ?_)
  cases x <;> first
    | (cases rx; rfl)
    | (obtain ⟨t, rfl⟩ := rx; rfl)
theorem op_notN : OpR X (compareOp .IsNot) (fun x y H Q => y = .non ∧ Q (.bl (!decide (x = .non))) H) := by
  intro pins s σ H x y v u Q I rx ry h
  obtain ⟨rfl, q⟩ := h
  cases ry
  refine isnot_none_gen (fin_bl I q ?_)
  cases x <;> first
    | (cases rx; rfl)
    | (obtain ⟨t, rfl⟩ := rx; rfl)

theorem nomark (b : Expr) {op : CmpOp} (h : op ≠ .In := by decide) (h2 : op ≠ .NotIn := by decide) : behindInMarks op b = false := by
  have e1 : (op == CmpOp.In) = false := by cases op <;> first | rfl | exact absurd rfl h
  have e2 : (op == CmpOp.NotIn) = false := by cases op <;> first | rfl | exact absurd rfl h2
  cases b <;> simp [behindInMarks, e1, e2]
/-- a comparison as a value; hm: nomark b, or (for in, not in) by with_unfolding_all rfl -/
theorem pe_cmpR {op : CmpOp} {r : R2} (ho : OpR X (compareOp op) r) (ha : PE X a ta) (hb : PE X b tb) (hm : behindInMarks op b = false) : PE X (.Compare a [op] [b] pos) (tOp r ta tb) := by
  constructor; intro pins s σ H Q I h
  exact wpAny_Compare1 (binT ha hb I h fun v u s2 x y H2 I2 rx ry q => ho pins s2 σ H2 x y v u Q I2 rx ry q) hm
/-- a reading of a value as a test -/
def tTest (t : TE) : TT := fun σ H Q => t σ H fun x H' => ∃ k, x = .bl k ∧ Q k H'
theorem pt_cmpR {op : CmpOp} {r : R2} (ho : OpR X (compareOp op) r) (ha : PE X a ta) (hb : PE X b tb) (hm : behindInMarks op b = false) : PT X (.Compare a [op] [b] pos) (tTest (tOp r ta tb)) := by
  constructor; intro pins s σ H Q I h
  refine wpAny_isTrue_Compare1 (thn (ha pins s σ H _ I h) fun v s1 ⟨x, H1, I1, r1, q1⟩ => thn (hb pins s1 σ H1 _ I1 q1) fun u s2 ⟨y, H2, I2, r2, q2⟩ =>
    thn (ho pins s2 σ H2 x y v u _ I2 r1 r2 q2) fun c s3 ⟨z, H3, I3, r3, k, e, q3⟩ => ?_) hm
  subst e
  cases r3
  exact wpAny_truthy_bool ⟨H3, I3, q3⟩
/-- a op1 b op2 c -/
def tChain (r r' : R2) (ta tb tc : TE) : TE := fun σ H Q => ta σ H fun x H1 => tb σ H1 fun y H2 => r x y H2 fun z H3 => ∃ k, z = .bl k ∧
  (if k = true then tc σ H3 fun w' H4 => r' y w' H4 Q else Q (.bl false) H3)
theorem pe_chain {op op' : CmpOp} {r r' : R2} (ho : OpR X (compareOp op) r) (ho' : OpR X (compareOp op') r') (ha : PE X a ta) (hb : PE X b tb) (hc : PE X c tc)
    (hm : lastMarks [op, op'] [b, c] = false := by with_unfolding_all rfl) : PE X (.Compare a [op, op'] [b, c] pos) (tChain r r' ta tb tc) := by
  constructor; intro pins s σ H Q I h
  refine Compare_chain (thn (ha pins s σ H _ I h) fun v s1 ⟨x, H1, I1, r1, q1⟩ => chain_link (thn (hb pins s1 σ H1 _ I1 q1) fun u s2 ⟨y, H2, I2, r2, q2⟩ =>
    thn (ho pins s2 σ H2 x y v u _ I2 r1 r2 q2) fun d s3 ⟨z, H3, I3, r3, k, e, q3⟩ => ?_)) hm
  subst e
  cases r3
  refine wpAny_truthy_bool ?_
  cases k with
  | false => exact ite_ff ⟨.bl false, H3, I3, rfl, q3⟩
  | true => exact ite_tt (chain_last (thn (hc pins s3 σ H3 _ I3 q3) fun w' s4 ⟨z', H4, I4, r4, q4⟩ => ho' pins s4 σ H4 y z' u w' Q I4 r2 r4 q4))
theorem pt_chain {op op' : CmpOp} {r r' : R2} (ho : OpR X (compareOp op) r) (ho' : OpR X (compareOp op') r') (ha : PE X a ta) (hb : PE X b tb) (hc : PE X c tc)
    (hm : lastMarks [op, op'] [b, c] = false := by with_unfolding_all rfl) : PT X (.Compare a [op, op'] [b, c] pos) (tTest (tChain r r' ta tb tc)) := by
  constructor; intro pins s σ H Q I h
  refine isTrue_chain (thn (ha pins s σ H _ I h) fun v s1 ⟨x, H1, I1, r1, q1⟩ => test_link (thn (hb pins s1 σ H1 _ I1 q1) fun u s2 ⟨y, H2, I2, r2, q2⟩ =>
    thn (ho pins s2 σ H2 x y v u _ I2 r1 r2 q2) fun d s3 ⟨z, H3, I3, r3, k, e, q3⟩ => ?_)) hm
  subst e
  cases r3
  refine wpAny_truthy_bool ?_
  cases k with
  | false =>
    obtain ⟨k', e', q'⟩ := q3
    cases e'
    exact ite_ff ⟨H3, I3, q'⟩
  | true =>
    refine ite_tt (test_last (thn (hc pins s3 σ H3 _ I3 q3) fun w' s4 ⟨z', H4, I4, r4, q4⟩ => thn (ho' pins s4 σ H4 y z' u w' _ I4 r2 r4 q4) fun d' s5 ⟨z2, H5, I5, r5, k2, e2, q5⟩ => ?_))
    subst e2
    cases r5
    exact wpAny_truthy_bool ⟨H5, I5, q5⟩

/-! ### truth -/
theorem line63 : (sizeLine : Nat) < 2 ^ 63 := by rw [sizeLine_eq]; decide
/-! ### strs and bytes -/
/-! ### scalar builtins, by CallR -/
theorem vals1 {x : V} {us : List Value} (r : Vals [x] us) : ∃ u, us = [u] ∧ RelV x u := by
  cases r with
  | cons r1 r2 => cases r2; exact ⟨_, rfl, r1⟩
theorem vals2 {x y : V} {us : List Value} (r : Vals [x, y] us) : ∃ u w', us = [u, w'] ∧ RelV x u ∧ RelV y w' := by
  cases r with
  | cons r1 r2 =>
    cases r2 with
    | cons r3 r4 => cases r4; exact ⟨_, _, rfl, r1, r3⟩
/-- len of a str, a bytes, a list, a tuple -/
def LenV (K : PySem.W.Frag) (x : V) (H : Hp) (n : Nat) : Prop :=
  match x with
  | .str y => y.length ≤ sizeLine ∧ n = y.length
  | .byt y => y.size ≤ sizeLine ∧ n = y.size
  | .ref p => (∃ xs, SqL K H p xs ∧ n = xs.length) ∨ ∃ xs, SqT K H p xs ∧ n = xs.length
  | _ => False
theorem call_len : CallR X (.builtin "len") (fun xs H Q => ∃ x n, xs = [x] ∧ LenV X.K x H n ∧ Q (.int n) H) := by
  intro pins s σ H xs us Q I r h
  obtain ⟨x, n, rfl, e, q⟩ := h
  obtain ⟨u, rfl, rx⟩ := vals1 r
  have hl := line63
  have hs : sizeLine = 16777216 := sizeLine_eq
  cases x with
  | str y =>
    obtain ⟨t, rfl⟩ := rx
    obtain ⟨hy, e'⟩ : y.length ≤ sizeLine ∧ n = y.length := e
    subst e'
    exact len_str (by omega) ⟨.int _, H, I.tok _, ⟨_, rfl⟩, q⟩
  | byt y =>
    obtain ⟨t, rfl⟩ := rx
    obtain ⟨hy, e'⟩ : y.size ≤ sizeLine ∧ n = y.size := e
    subst e'
    exact PySem.W.len_bytes (by omega) ⟨.int _, H, I.tok _, ⟨_, rfl⟩, q⟩
  | ref p =>
    cases rx
    have e' : (∃ xs, SqL X.K H p xs ∧ n = xs.length) ∨ ∃ xs, SqT X.K H p xs ∧ n = xs.length := e
    rcases e' with ⟨xs, hx, e'⟩ | ⟨xs, hx, e'⟩
    · subst e'
      obtain ⟨its, r', pl, hz⟩ := I.list hx
      have hlen := r'.length
      exact Calls.call_len_list pl.isList (by simp only [List.size_toArray]; omega) ⟨.int xs.length, H, I.tok _, ⟨_, by simp only [List.size_toArray]; rw [hlen]⟩, q⟩
    · subst e'
      obtain ⟨its, r', pl, hz⟩ := I.tuple hx
      have hlen := r'.length
      exact len_tuple pl (by simp only [List.size_toArray]; omega) ⟨.int xs.length, H, I.tok _, ⟨_, by simp only [List.size_toArray]; rw [hlen]⟩, q⟩
  | _ => exact (show False from e).elim
end
end L2

namespace L2
open PySem PySem.Spec PyProof.Rows

/-! ### an instance, its attributes a map -/
structure ObjM (h : Heap) (x dx C : Addr) (mA : Str → Option Value) : Prop where
  obj : h.get? x = some (PySem.W.instObj C dx)
  ns : h.Ns1 dx mA
  ne : dx ≠ x

theorem lookIn_ns {h : Heap} {dx : Addr} {mA : Str → Option Value} (n : h.Ns1 dx mA) : ∃ od, h.get? dx = some od ∧ ∀ name, PySem.W.lookIn name od = some (mA name) := by
  obtain ⟨o, es, ep, ho, hd, hk, _, hm⟩ := n
  refine ⟨o, ho, fun name => ?_⟩
  have e := hm name
  unfold nsFind findBy at e
  rw [← Array.find?_toList] at e
  unfold PySem.W.lookIn
  rw [hd]
  dsimp only
  split
  · rename_i y q
    rw [q] at e
    exact congrArg some e
  · rename_i q
    rw [q] at e
    have a : es.toList.any (·.refKey) = false := by
      rw [List.any_eq_false]
      intro y hy
      obtain ⟨z, t, hkey⟩ := hk y (Array.mem_toList_iff.mp hy)
      simp [DictEntry.refKey, hkey]
    have a' : ¬ es.toList.any (·.refKey) = true := by rw [a]; exact Bool.false_ne_true
    rw [if_neg a']
    exact congrArg some e

theorem ObjM.look {h : Heap} {x dx C : Addr} {mA : Str → Option Value} (I : ObjM h x dx C mA) : ∃ od, PySem.W.InstAt h x (PySem.W.instObj C dx) C (some od) ∧ ∀ name, PySem.W.lookIn name od = some (mA name) :=
  let ⟨od, ho, hl⟩ := lookIn_ns I.ns
  ⟨od, ⟨I.obj, rfl, rfl, ho⟩, hl⟩

section
variable {prog : Program} {w : World} {A : Around} {E : Value → Shared → Prop} {s : Shared} {K : PySem.W.Frag} {x dx C f : Addr} {mA : Str → Option Value} {name : Str} {v : Value}

theorem get_map {expr : Bool} {Q : Value → Shared → Prop} (X : K.In s.heap) (I : ObjM s.heap x dx C mA) (hg : PySem.W.plainGet K C name = true) (hh : PySem.W.hasDictIn K C = true)
    (ha : PySem.W.findIn K (.ref C) name = some none) (hv : mA name = some v) (hv' : PySem.W.handedIn v = true) (h : Q v { s with toks := s.toks + 1 }) :
    wpAny (model prog w) A (getAttr (.ref x) name expr) Q E s := by
  obtain ⟨od, J, hl⟩ := I.look
  exact PySem.W.get_value X J (PySem.W.plainGet_of hg).1 (PySem.W.findObj_own hh ha rfl (by rw [hl, hv])) hv' h

theorem get_meth {pl : Sem Bool} {Q : Value × List Value → Shared → Prop} (X : K.In s.heap) (I : ObjM s.heap x dx C mA) (hg : PySem.W.plainGet K C name = true)
    (hf : PySem.W.findIn K (.ref C) name = some (some (.ref f))) (ht : PySem.W.isFn K (.ref f) = true) (hv : mA name = none) (h : Q (.ref f, [.ref x]) s) :
    wpAny (model prog w) A (getMethod (.ref x) name pl) Q E s := by
  obtain ⟨od, J, hl⟩ := I.look
  exact PySem.W.method_fn X J (PySem.W.plainGet_of hg).1 (PySem.W.plainGet_of hg).2 hf (beq_iff_eq.mp ht) (by show (PySem.W.lookIn name od).map (·.isSome) = some false; rw [hl, hv]; rfl) h

theorem set_map {ns : List Str} {Q : Unit → Shared → Prop} (X : K.In s.heap) (I : ObjM s.heap x dx C mA)
    (hs : PySem.W.findIn K (.ref C) "__setattr__" = some (some (.builtin "object.__setattr__"))) (hp : PySem.W.plainOver K C = true) (ht : PySem.W.takerIn K C name = some none) (hh : PySem.W.hasDictIn K C = true)
    (hw : PySem.Within mA ns) (hsz : ns.length ≤ sizeLine)
    (h : ∀ h', ObjM h' x dx C (fun y => if y = name then some v else mA y) → Heap.SameBut dx s.heap h' → Q () { s with heap := h', toks := s.toks + 2 }) :
    wpAny (model prog w) A (setAttr (.ref x) name v) Q E s := by
  obtain ⟨od, J, hl⟩ := I.look
  refine PySem.W.set_plain X J hs (PySem.W.osa_open (s := { s with toks := s.toks + 1 }) (r := none) X J hp ht fun b => ?_)
  obtain ⟨cd, hc, hd'⟩ := PySem.W.any_some hh
  have hx : s.heap.get? x = some ⟨.ref C, some dx, .plain, #[]⟩ := I.obj
  refine wpAny_bind (wpAny_pure (wpAny_bind (wpAny_bind (wpAny_loadPart hx (wpAny_bind (PySem.W.Looks.here (s := { s with toks := s.toks + 1 }) (PySem.W.looks_clsIn X hc) ?_))))))
  rw [hd']
  refine wpAny_pure (a := some dx) (wpAny_bind (wpAny_pure (wpAny_bind ?_)))
  refine wpAny_nsSet1 (s := { s with toks := s.toks + 1 }) I.ns fun h' hn2 hs2 => ?_
  obtain ⟨oD, esD, epD, hoD, hdD, hcD⟩ := hn2.count (PySem.Within.cons name v hw)
  refine wpAny_bind (wpAny_lookBehind hoD (by rw [hdD]; exact pastItsLine_dict (Nat.le_trans hcD (by rw [List.length_cons]; omega))) ?_)
  exact wpAny_pure (h _ ⟨(hs2.2 _ (Ne.symm I.ne)).trans I.obj, hn2, I.ne⟩ hs2)

/-- C(..): the dict at the heap's end, the instance behind it; then its __init__ -/
theorem make_map {R : Result → Shared → Prop} {vs : List Value} {kw : List (Str × Value)} (X : K.In s.heap) (hm : PySem.W.makesIn K C = true)
    (hi : PySem.W.findIn K (.ref C) "__init__" = some (some (.ref f))) (hf : PySem.W.typeIn K (.ref f) = some (.type "function"))
    (h : codeAny (model prog w) (A.under (.builtin "type.__call__" ⟨.ref C :: vs, kw⟩)) (.call (.ref f) ⟨.ref (s.heap.objs.size + 1) :: vs, kw⟩) (PySem.W.InitBack (s.heap.objs.size + 1) R)
      { s with heap := (s.heap.push PySem.W.emptyDict).push (PySem.W.instObj C s.heap.objs.size) }) :
    codeAny (model prog w) A (.call (.ref C) ⟨vs, kw⟩) R s := by
  obtain ⟨hh, g, d, t, os⟩ := s
  exact PySem.W.make_core (PySem.W.makes_of X hm) (PySem.W.looks_findIn X hi) (fun self => PySem.W.bind_fn X self hf) (.inl rfl) h
end

/-! ### the attributes as a list of pairs -/
def putF (f : Str) (v : V) : List (Str × V) → List (Str × V)
  | [] => [(f, v)]
  | (g, x) :: r => if g = f then (g, v) :: r else (g, x) :: putF f v r
theorem lookup_putF (f g : Str) (v : V) : ∀ fs : List (Str × V), (putF f v fs).lookup g = if g = f then some v else fs.lookup g
  | [] => by
    show List.lookup g [(f, v)] = _
    by_cases h : g = f
    · have hb : (g == f) = true := beq_iff_eq.mpr h
      simp only [List.lookup, hb, if_pos h]
    · have hb : (g == f) = false := beq_eq_false_iff_ne.mpr h
      simp only [List.lookup, hb, if_neg h]
  | (k, x) :: r => by
    have ih := lookup_putF f g v r
    rw [show putF f v ((k, x) :: r) = (if k = f then (k, v) :: r else (k, x) :: putF f v r) from rfl]
    by_cases hk : k = f
    · rw [if_pos hk]
      by_cases h : g = k
      · have hb : (g == k) = true := beq_iff_eq.mpr h
        simp only [List.lookup, hb, if_pos (h.trans hk)]
      · have hb : (g == k) = false := beq_eq_false_iff_ne.mpr h
        simp only [List.lookup, hb, if_neg (fun e : g = f => h (e.trans hk.symm))]
    · rw [if_neg hk]
      by_cases h : g = k
      · have hb : (g == k) = true := beq_iff_eq.mpr h
        simp only [List.lookup, hb, if_neg (fun e : g = f => hk (h.symm.trans e))]
      · have hb : (g == k) = false := beq_eq_false_iff_ne.mpr h
        simp only [List.lookup, hb]
        exact ih
theorem keys_putF (f : Str) (v : V) : ∀ fs : List (Str × V), f ∈ (putF f v fs).map (·.1) ∧ ∀ g, g ∈ fs.map (·.1) → g ∈ (putF f v fs).map (·.1)
  | [] => ⟨by simp [putF], fun g h => by simp at h⟩
  | (k, x) :: r => by
    obtain ⟨i1, i2⟩ := keys_putF f v r
    rw [show putF f v ((k, x) :: r) = (if k = f then (k, v) :: r else (k, x) :: putF f v r) from rfl]
    by_cases hk : k = f
    · rw [if_pos hk]
      subst hk
      exact ⟨by simp, fun g h => by simpa using h⟩
    · rw [if_neg hk]
      refine ⟨?_, fun g h => ?_⟩
      · rw [List.map_cons]
        exact List.mem_cons_of_mem _ i1
      · rw [List.map_cons] at h ⊢
        rcases List.mem_cons.mp h with e | e
        · exact List.mem_cons.mpr (.inl e)
        · exact List.mem_cons_of_mem _ (i2 g e)
theorem length_putF (f : Str) (v : V) : ∀ fs : List (Str × V), (putF f v fs).length ≤ fs.length + 1
  | [] => by simp [putF]
  | (k, x) :: r => by
    have ih := length_putF f v r
    rw [show putF f v ((k, x) :: r) = (if k = f then (k, v) :: r else (k, x) :: putF f v r) from rfl]
    by_cases hk : k = f
    · rw [if_pos hk, List.length_cons, List.length_cons]; omega
    · rw [if_neg hk, List.length_cons, List.length_cons]; omega

theorem RelO.some_of {v : V} {o : Option Value} (r : RelO (some v) o) : ∃ u, o = some u ∧ RelV v u := by
  cases o with
  | none => exact (show False from r).elim
  | some u => exact ⟨u, rfl, r⟩
theorem RelO.none_of {o : Option Value} (r : RelO none o) : o = none := by
  cases o with
  | none => rfl
  | some u => exact (show False from r).elim
theorem handed_of {v : V} {u : Value} (r : RelV v u) : PySem.W.handedIn u = true := by
  cases v with
  | non => cases (show u = Value.none from r); rfl
  | bl b => cases (show u = Value.bool b from r); rfl
  | int i => obtain ⟨t, e⟩ := (show ∃ t, u = Value.int i t from r); cases e; rfl
  | str x => obtain ⟨t, e⟩ := (show ∃ t, u = Value.str x t from r); cases e; rfl
  | byt b => obtain ⟨t, e⟩ := (show ∃ t, u = Value.bytes b t from r); cases e; rfl
  | flt b => obtain ⟨t, e⟩ := (show ∃ t, u = Value.float b t from r); cases e; rfl
  | ref a => cases (show u = Value.ref a from r); rfl
  | ty n => cases (show u = Value.type n from r); rfl

section
variable {P : Program} {w : World} {H H' : Hp} {h h' : Heap} {a C dx : Addr} {fs fs' : List (Str × V)}
theorem ins_get (hok : HOk P w H h) (e : H a = some (.ins C dx fs)) : ∃ mA, ObjM h a dx C mA ∧ (∀ f, RelO (fs.lookup f) (mA f)) ∧ PySem.Within mA (fs.map (·.1)) ∧ fs.length ≤ 1000 ∧ H dx = some (.own a) := by
  obtain ⟨d, z, ne, ob, mA, n, r, q⟩ := (show ObjOk P w H h a (.ins C dx fs) from hok a _ e)
  exact ⟨mA, ⟨ob, n, ne⟩, r, q, z, d⟩
end

/-! ### what of the text a class must have -/
structure Cls (K : PySem.W.Frag) (C : Addr) : Prop where
  pg : PySem.W.plainGet K C Str.empty = true
  hd : PySem.W.hasDictIn K C = true
  po : PySem.W.plainOver K C = true
  sa : PySem.W.findIn K (.ref C) "__setattr__" = some (some (.builtin "object.__setattr__"))
theorem Cls.get {K : PySem.W.Frag} {C : Addr} (c : Cls K C) (f : Str) : PySem.W.plainGet K C f = true := c.pg
/-- no class of it has the name -/
def NoAttr (K : PySem.W.Frag) (C : Addr) (f : Str) : Prop := PySem.W.findIn K (.ref C) f = some none
theorem NoAttr.taker {K : PySem.W.Frag} {C : Addr} {f : Str} (n : NoAttr K C f) : PySem.W.takerIn K C f = some none := by
  unfold PySem.W.takerIn
  rw [show PySem.W.findIn K (.ref C) f = some none from n]
  rfl
/-- a constant of the class -/
structure Con (K : PySem.W.Frag) (C : Addr) (f : Str) (v : V) (u : Value) : Prop where
  at_ : PySem.W.findIn K (.ref C) f = some (some u)
  rel : RelV v u
  get : PySem.W.specialIn K u "__get__" = some none
  cp : PySem.W.copiedNames.contains f = false
/-- a method: a plain def of the class or of one above it -/
structure Meth (K : PySem.W.Frag) (C : Addr) (m : Str) (f : Addr) : Prop where
  at_ : PySem.W.findIn K (.ref C) m = some (some (.ref f))
  fn : PySem.W.isFn K (.ref f) = true
  kp : PySem.W.keepIn K (.ref f) = true

section
variable {X : Cx} {pins : List (Addr × Obj)} {σ : St} {H : Hp} {s : Shared} {a C dx : Addr} {fs : List (Str × V)} {f : Str} {v : V} {A : Around} {E : Value → Shared → Prop}

theorem getattr_ok {b : Bool} {Q : Value → Shared → Prop} (I : Inv X pins σ H s) (e : H a = some (.ins C dx fs)) (c : Cls X.K C) (n : NoAttr X.K C f) (l : fs.lookup f = some v)
    (h : ∀ u s', Inv X pins σ H s' → RelV v u → Q u s') : wpAny (model X.prog X.w) A (getAttr (.ref a) f b) Q E s := by
  obtain ⟨mA, O, r, _, _, _⟩ := ins_get I.hok e
  obtain ⟨u, hu, ru⟩ := RelO.some_of (v := v) (o := mA f) (by rw [← l]; exact r f)
  exact get_map I.kIn O (c.get f) c.hd n hu (handed_of ru) (h u _ (I.tok _) ru)

theorem getmeth_ok {m : Str} {g : Addr} {pl : Sem Bool} {Q : Value × List Value → Shared → Prop} (I : Inv X pins σ H s) (e : H a = some (.ins C dx fs)) (c : Cls X.K C) (k : Meth X.K C m g) (l : fs.lookup m = none)
    (h : Q (.ref g, [.ref a]) s) : wpAny (model X.prog X.w) A (getMethod (.ref a) m pl) Q E s := by
  obtain ⟨mA, O, r, _, _, _⟩ := ins_get I.hok e
  have hn : mA m = none := RelO.none_of (by rw [← l]; exact r m)
  exact get_meth I.kIn O (c.get m) k.at_ k.fn hn h

theorem setattr_ok {y : V} {u : Value} {Q : Unit → Shared → Prop} (I : Inv X pins σ H s) (e : H a = some (.ins C dx fs)) (c : Cls X.K C) (n : NoAttr X.K C f) (hl : fs.length < 1000) (ry : RelV y u)
    (h : ∀ s', Inv X pins σ (upd H a (.ins C dx (putF f y fs))) s' → Q () s') : wpAny (model X.prog X.w) A (setAttr (.ref a) f u) Q E s := by
  obtain ⟨mA, O, r, wi, _, ho⟩ := ins_get I.hok e
  have hz : (fs.map (·.1)).length ≤ sizeLine := by rw [List.length_map, sizeLine_eq]; omega
  refine set_map I.kIn O c.sa c.po n.taker c.hd wi hz fun h' O' sb => h _ ?_
  have hd : ∃ o, h'.get? dx = some o := let ⟨o, _, _, e', _⟩ := O'.ns; ⟨o, e'⟩
  refine I.write (x := a) (e := dx) (by rw [e]; exact True.intro) (.inr ho) (fun b q hb z => (sb.2 b hb).trans z) hd ?_
  refine ⟨by rw [upd_ne O.ne]; exact ho, ?_, O.ne, O'.obj, _, O'.ns, fun g => ?_, fun g hg => ?_⟩
  · have := length_putF f y fs; omega
  · show RelO ((putF f y fs).lookup g) (if g = f then some u else mA g)
    rw [lookup_putF]
    by_cases q : g = f
    · rw [if_pos q, if_pos q]; exact ry
    · rw [if_neg q, if_neg q]; exact r g
  · by_cases q : g = f
    · rw [q]; exact (keys_putF f y fs).1
    · refine (keys_putF f y fs).2 g (wi g fun z => hg ?_)
      show (if g = f then some u else mA g) = none
      rw [if_neg q]; exact z

/-- a new instance, tracked, without attributes -/
theorem Inv.made (I : Inv X pins σ H s) : Inv X pins σ (upd (upd H s.heap.objs.size (.own (s.heap.objs.size + 1))) (s.heap.objs.size + 1) (.ins C s.heap.objs.size []))
    { s with heap := (s.heap.push PySem.W.emptyDict).push (PySem.W.instObj C s.heap.objs.size) } := by
  have e1 : (s.heap.push PySem.W.emptyDict).get? s.heap.objs.size = some PySem.W.emptyDict := Heap.get?_push_size s.heap rfl
  have e2 : ((s.heap.push PySem.W.emptyDict).push (PySem.W.instObj C s.heap.objs.size)).get? (s.heap.objs.size + 1) = some (PySem.W.instObj C s.heap.objs.size) := by
    have := Heap.get?_push_size (s.heap.push PySem.W.emptyDict) (o := PySem.W.instObj C s.heap.objs.size) rfl
    rwa [Heap.size_push] at this
  have e3 : (s.heap.push PySem.W.emptyDict).Ns s.heap.objs.size (fun _ => none) := ⟨PySem.W.emptyDict, #[], _, e1, rfl, (fun e he => absurd he (by simp)), fun _ => rfl⟩
  have I1 := I.laid (a := s.heap.objs.size) (o := .own (s.heap.objs.size + 1)) (h' := s.heap.push PySem.W.emptyDict) (t' := s.toks) (fun b u q => Heap.get?_push_of_some _ q) (Nat.le_refl _) ⟨_, e1⟩
  refine I1.laid (a := s.heap.objs.size + 1) (o := .ins C s.heap.objs.size []) (t' := s.toks) (fun b u q => Heap.get?_push_of_some _ q) (Nat.le_of_eq (Heap.size_push _ _)) ?_
  have ne : s.heap.objs.size ≠ s.heap.objs.size + 1 := Nat.ne_of_lt (Nat.lt_succ_self _)
  refine ⟨by rw [upd_ne ne, upd_same], Nat.zero_le _, ne, e2, fun _ => none, (Heap.Ns1.of_empty e3).at fun o q => Heap.get?_push_of_some _ q, fun _ => True.intro, fun y hy => absurd rfl hy⟩

/-- e.f where nothing but the object is asked: through attributeBase (super) and the last hold -/
theorem attr_of {prog : Program} {w : World} {env : Env} {e : Expr} {f : Str} {pos : Pos} {s : Shared} {Q : Value → Shared → Prop} (hb : attributeBase e f env (eval e env) = eval e env)
    (h : wpAny (model prog w) A (eval e env) (fun o s₁ => wpAny (model prog w) A (getAttr o f true) Q E s₁) E s) : wpAny (model prog w) A (eval (.Attribute e f pos) env) Q E s :=
  Attribute_any_ h (by rw [arm_eval_Attribute, hb])
end

/-! ### readings and rules -/
/-- e.f, an attribute of the instance -/
def tFld (K : PySem.W.Frag) (ta : TE) (f : Str) : TE := fun σ H Q => ta σ H fun x H1 => ∃ a C dx fs v, x = .ref a ∧ H1 a = some (.ins C dx fs) ∧ Cls K C ∧ NoAttr K C f ∧ fs.lookup f = some v ∧ Q v H1
/-- e.f = value -/
def sFld (K : PySem.W.Frag) (ta tv : TE) (f : Str) : TS := fun D σ H => tv σ H fun y H1 => ta σ H1 fun x H2 => ∃ a C dx fs, x = .ref a ∧ H2 a = some (.ins C dx fs) ∧ Cls K C ∧ NoAttr K C f ∧ fs.length < 1000 ∧
  D.nx σ (upd H2 a (.ins C dx (putF f y fs)))
section
variable {X : Cx} {o e value : Expr} {f : Str} {pos pos' tpos : Pos} {ta tv : TE}
theorem pe_fld (he : PE X e ta) (hb : attributeBase e f X.env (eval e X.env) = eval e X.env) : PE X (.Attribute e f pos) (tFld X.K ta f) := by
  constructor; intro pins s σ H Q I h
  refine attr_of hb (thn (he pins s σ H _ I h) fun u s1 ⟨x, H1, I1, rx, a, C, dx, fs, v, ex, ea, c, n, l, q⟩ => ?_)
  subst ex
  obtain rfl : u = Value.ref a := rx
  exact getattr_ok I1 ea c n l fun u' s2 I2 ru => ⟨v, H1, I2, ru, q⟩
theorem ps_fld (ha : PE X o ta) (hv : PE X value tv) (hs : swapsWith value (some (.Attribute o f pos')) pos.line X.env = pure false) : PS X (.Assign [.Attribute o f pos'] value pos) (sFld X.K ta tv f) := by
  constructor; intro pins s σ H D I h
  refine plainObj_wpAny_Assign_Attribute (thn (hv pins s σ H _ I h) fun u s1 ⟨y, H1, I1, ry, q⟩ => thn (ha pins s1 σ H1 _ I1 q) fun ov s2 ⟨x, H2, I2, rx, a, C, dx, fs, ex, ea, c, n, l, q2⟩ => ?_) hs
  subst ex
  obtain rfl : ov = Value.ref a := rx
  exact setattr_ok I2 ea c n l ry fun s3 I3 => ⟨σ, _, I3, q2⟩
end

/-! ### isinstance -/
section
variable {X : Cx} {pins : List (Addr × Obj)} {σ : St} {H : Hp} {s : Shared} {A : Around} {E : Value → Shared → Prop} {Q : Value → Shared → Prop} {c : Value} {b : Bool}
/-- the type of a value, as the fragment's deciders take it; for an instance its class -/
inductive TyOf (K : PySem.W.Frag) (H : Hp) : V → Value → Prop where
  | non : TyOf K H .non (.type "NoneType")
  | bl (x : Bool) : TyOf K H (.bl x) (.type "bool")
  | int (i : Int) : TyOf K H (.int i) (.type "int")
  | str (x : Str) : TyOf K H (.str x) (.type "str")
  | flt (x : UInt64) : TyOf K H (.flt x) (.type "float")
  | lst {a : Addr} {xs : List V} (e : H a = some (.lst xs)) : TyOf K H (.ref a) (.type "list")
  | frz {a : Addr} {o : Obj} {xs : List V} (e : H a = some (.frz o (.lst xs))) : TyOf K H (.ref a) (.type "list")
  | tup {a : Addr} {xs : List V} (e : H a = some (.tup xs)) : TyOf K H (.ref a) (.type "tuple")
  | dK {a : Addr} {kvs : List (Key × V)} (e : H a = some (.dK kvs)) : TyOf K H (.ref a) (.type "dict")
  | dT {a : Addr} {kvs : List (List Key × V)} (e : H a = some (.dT kvs)) : TyOf K H (.ref a) (.type "dict")
  | ins {a C dx : Addr} {fs : List (Str × V)} (e : H a = some (.ins C dx fs)) (cl : Cls K C) (ha : PySem.W.findIn K (.ref C) "__class__" = some (some (.builtin "object.__class__")))
      (hn : PySem.W.specialIn K (.builtin "object.__class__") "__get__" = some (some (.builtin "getset_descriptor.__get__"))) (htk : PySem.W.takesIn K (.builtin "object.__class__") = some true)
      (hm : PySem.W.mroIn K C (.type "object") = some true) : TyOf K H (.ref a) (.ref C)
/-- isinstance(x, c) for one class c, a built-in or an own one: kitOne's answer -/
theorem isinst_ok {x : V} {u t : Value} (I : Inv X pins σ H s) (rx : RelV x u) (ty : TyOf X.K H x t) (e : PySem.W.kitOne X.K t c = some b) (h : ∀ tk, Q (.bool b) { s with toks := tk }) :
    wpAny (model X.prog X.w) A (call (.builtin "isinstance") [u, c]) Q E s := by
  cases ty with
  | non => cases (show u = Value.none from rx); exact PySem.W.kia_one PySem.W.kitx_none I.kIn True.intro e (fun z => nomatch z) h
  | bl y => cases (show u = Value.bool y from rx); exact PySem.W.kia_one PySem.W.kitx_bool I.kIn True.intro e (fun z => nomatch z) h
  | int i => obtain ⟨t, q⟩ := (show ∃ t, u = Value.int i t from rx); cases q; exact PySem.W.kia_one PySem.W.kitx_int I.kIn True.intro e (fun z => nomatch z) h
  | str y => obtain ⟨t, q⟩ := (show ∃ t, u = Value.str y t from rx); cases q; exact PySem.W.kia_one PySem.W.kitx_str I.kIn True.intro e (fun z => nomatch z) h
  | flt y => obtain ⟨t, q⟩ := (show ∃ t, u = Value.float y t from rx); cases q; exact PySem.W.kia_one PySem.W.kitx_float I.kIn True.intro e (fun z => nomatch z) h
  | @lst a xs ea =>
    cases (show u = Value.ref a from rx)
    obtain ⟨_, _, n, _, h1⟩ := (show ObjOk X.prog X.w H s.heap a (.lst xs) from I.hok a _ ea)
    exact PySem.W.kia_one PySem.W.kitx_list I.kIn ⟨_, h1, rfl⟩ e (fun z => nomatch z) h
  | @frz a ob xs ea =>
    cases (show u = Value.ref a from rx)
    obtain ⟨_, _, _, n, _, h1⟩ := (show ObjOk X.prog X.w H s.heap a (.frz ob (.lst xs)) from I.hok a _ ea)
    exact PySem.W.kia_one PySem.W.kitx_list I.kIn ⟨_, h1, rfl⟩ e (fun z => nomatch z) h
  | @tup a xs ea =>
    cases (show u = Value.ref a from rx)
    obtain ⟨_, _, _, p⟩ := (show ObjOk X.prog X.w H s.heap a (.tup xs) from I.hok a _ ea)
    obtain ⟨o, h1, h2, _⟩ := p
    exact PySem.W.kia_one PySem.W.kitx_tuple I.kIn ⟨o, h1, h2⟩ e (fun z => nomatch z) h
  | @dK a kvs ea =>
    cases (show u = Value.ref a from rx)
    obtain ⟨_, _, vs, _, p⟩ := (show ObjOk X.prog X.w H s.heap a (.dK kvs) from I.hok a _ ea)
    obtain ⟨o, es, ep, h1, h2, _⟩ := p
    exact PySem.W.kia_one PySem.W.kitx_dict I.kIn ⟨o, h1, h2.1⟩ e (fun z => nomatch z) h
  | @dT a kvs ea =>
    cases (show u = Value.ref a from rx)
    obtain ⟨_, _, xs, _, o, es, ep, h1, h2, _⟩ := (show ObjOk X.prog X.w H s.heap a (.dT kvs) from I.hok a _ ea)
    exact PySem.W.kia_one PySem.W.kitx_dict I.kIn ⟨o, h1, h2.1⟩ e (fun z => nomatch z) h
  | @ins a C dx fs ea cl ha hn htk hm =>
    cases (show u = Value.ref a from rx)
    obtain ⟨mA, O, _⟩ := ins_get I.hok ea
    obtain ⟨od, J, _⟩ := O.look
    exact PySem.W.kia_one (PySem.W.kitx_own (cl.get _) cl.hd ha hn htk hm) I.kIn J e (fun z => nomatch z) h
end
end L2

namespace L2
open PySem PySem.Spec PyProof.Rows

/-! ### room -/
structure Room (k : Nat) (A : Around) : Prop where
  hd : A.handled = none
  dp : A.depth + 3 * k + 5 < recursionLimit
  un : A.units + 16 * k + 200 < cLine
theorem Room.mono {j k : Nat} {A : Around} (r : Room k A) (h : j ≤ k) : Room j A := ⟨r.hd, by have := r.dp; omega, by have := r.un; omega⟩
theorem Room.deeper {k : Nat} {A : Around} (r : Room (k + 1) A) (env : Env) : Room k (A.deeper env) :=
  ⟨r.hd, by have := r.dp; show A.depth + 1 + 3 * k + 5 < _; omega, by have := r.un; show A.units + 3 + 16 * k + 200 < _; omega⟩
theorem make_depth {A : Around} {C : Addr} {us : List Value} {kw : List (Str × Value)} : (A.under (.builtin "type.__call__" ⟨.ref C :: us, kw⟩)).depth = A.depth + 1 := by
  first | rfl | simp [Around.under, Code.weight, Code.isCreation, Code.isGuard, Code.isCaller, Code.frames, Code.isFrame, guardIds]
theorem make_units {A : Around} {C : Addr} {us : List Value} {kw : List (Str × Value)} : (A.under (.builtin "type.__call__" ⟨.ref C :: us, kw⟩)).units = A.units + 1 := by
  first | rfl | simp [Around.under, Code.cUnits, Code.frames, Code.isFrame]
theorem Room.make {k : Nat} {A : Around} (r : Room (k + 1) A) (C : Addr) (us : List Value) (kw : List (Str × Value)) : Room k (A.under (.builtin "type.__call__" ⟨.ref C :: us, kw⟩)) :=
  ⟨r.hd, by have := r.dp; rw [make_depth]; omega, by have := r.un; rw [make_units]; omega⟩
theorem Room.depth {k : Nat} {A : Around} (r : Room k A) : A.depth < recursionLimit := by have := r.dp; omega
theorem Room.units {k : Nat} {A : Around} (r : Room k A) : A.units + 64 < cLine := by have := r.un; omega
/-! ### argument lists and displays -/
def tNil : TA := fun _ H Q => Q [] H
def tCons (ta : TE) (tr : TA) : TA := fun σ H Q => ta σ H fun x H1 => tr σ H1 fun xs H2 => Q (x :: xs) H2
section
variable {X : Cx} {e : Expr} {es : List Expr} {te : TE} {t : TA} {pos : Pos}
theorem pa_nil : PA X [] tNil := ⟨fun _ _ _ _ H Q I h => Calls.spliced_nil ⟨[], H, I, .nil, h⟩⟩
theorem pa_cons (ha : PE X e te) (hr : PA X es t) (hs : starEach (e :: es) X.env = (false, eval e X.env) :: starEach es X.env := by rfl) : PA X (e :: es) (tCons te t) := by
  constructor; intro pos pins s σ H Q I h
  rw [hs]
  show wpAny _ _ (spliced ((false, eval e X.env) :: backTo pos (starEach es X.env))) _ _ s
  refine Calls.spliced_cons (thn (ha pins s σ H _ I h) fun u s1 ⟨x, H1, I1, r1, q1⟩ => ?_)
  exact thn (hr pos pins s1 σ H1 _ I1 q1) fun us s2 ⟨xs, H2, I2, r2, q2⟩ => ⟨x :: xs, H2, I2, .cons r1 r2, q2⟩

/-- a tuple, a list of written items -/
def tTup (t : TA) : TE := fun σ H Q => t σ H fun xs H1 => xs.length ≤ sizeLine ∧ ∀ p, H1 p = none → Q (.ref p) (upd H1 p (.tup xs))
def tLst (t : TA) : TE := fun σ H Q => t σ H fun xs H1 => xs.length ≤ sizeLine ∧ ∀ p, H1 p = none → Q (.ref p) (upd H1 p (.lst xs))
theorem pe_tup {x1} (h : PA X es t) : PE X (.Tuple es x1 pos) (tTup t) := by
  constructor; intro pins s σ H Q I hq
  refine wpAny_Tuple_spliced (thn (h pos pins s σ H _ I hq) fun us s1 ⟨xs, H1, I1, r, z, q⟩ => ⟨by rw [← r.length]; exact z, ?_⟩)
  have hf : H1 s1.heap.objs.size = none := I1.hok.fresh (Nat.le_refl _)
  refine ⟨.ref s1.heap.objs.size, upd H1 s1.heap.objs.size (.tup xs), I1.laid (t' := s1.toks) (fun b u e => Heap.get?_push_of_some _ e) (Nat.le_refl _) ?_, rfl, q _ hf⟩
  exact ⟨z, us, r, ⟨_, Heap.get?_push_size _ rfl, rfl, _, rfl⟩⟩
theorem pe_lst (h : PA X es t) : PE X (.List es pos) (tLst t) := by
  constructor; intro pins s σ H Q I hq
  refine wpAny_List_spliced (thn (h pos pins s σ H _ I hq) fun us s1 ⟨xs, H1, I1, r, z, q⟩ => ⟨by rw [← r.length]; exact z, ?_⟩)
  have hf : H1 s1.heap.objs.size = none := I1.hok.fresh (Nat.le_refl _)
  refine ⟨.ref s1.heap.objs.size, upd H1 s1.heap.objs.size (.lst xs), I1.laid (t' := s1.toks) (fun b u e => Heap.get?_push_of_some _ e) (Nat.le_refl _) ?_, rfl, q _ hf⟩
  exact ⟨z, us, 0, r, Heap.get?_push_size _ rfl⟩
end

/-! ### what a def promises -/
/-- a def's promise: the bound arguments in the parameters' order, the heap, the wanted end, the wanted exception -/
abbrev Sp := List V → Hp → VK → XK → Prop
/-- how an exception lies behind a call (file 08 gives it): the callers' frames, abstract heap and state ahead of the call, the wish, the exception, the state -/
abbrev CXT := List Env → Hp → Shared → XK → Value → Shared → Prop

/-- the state at a call -/
structure Env0 (P : Program) (w : World) (K : PySem.W.Frag) (mg : Str → Option Value) (base : Heap) (A : Around) (outer : List Env) (s : Shared) (H : Hp) : Prop where
  frames : A.frames = some outer
  mod : Mod K mg base
  bs : ∀ b o, base.get? b = some o → s.heap.get? b = some o ∧ H b = none
  bsz : base.objs.size ≤ s.heap.objs.size
  funs : s.heap.FunFrames base outer
  frf : ∀ b ∈ frs outer, H b = none
  hok : HOk P w H s.heap
  bare : AllBare s.gens
/-- a call's end -/
def CE (outer : List Env) (P : Program) (w : World) (H : Hp) (s : Shared) (Q : VK) (u : Value) (s' : Shared) : Prop :=
  ∃ v H', s'.os = s.os ∧ AllBare s'.gens ∧ Un (frs outer) [] H H' s.heap s'.heap ∧ HOk P w H' s'.heap ∧ RelV v u ∧ Q v H'
def CR (CX : CXT) (outer : List Env) (P : Program) (w : World) (H : Hp) (s : Shared) (Q : VK) (E : XK) (r : Result) (s' : Shared) : Prop :=
  match r with
  | .ok (.ret u) => CE outer P w H s Q u s'
  | .ok _ => False
  | .error e => CX outer H s E e s'
structure FnOk (P : Program) (w : World) (K : PySem.W.Frag) (mg : Str → Option Value) (base : Heap) (CX : CXT) (k : Nat) (f : Addr) (fd : FuncData) (ps : List Str) (sp : Sp) : Prop where
  len : ∀ vs H Q E, sp vs H Q E → vs.length = ps.length
  run : ∀ (A : Around) (outer : List Env) (s : Shared) (H : Hp) (args : Args) (us : List Value) (vs : List V) (Q : VK) (E : XK), Room k A → Env0 P w K mg base A outer s H → BindsTo s fd args (ps.zip us) → Vals vs us → sp vs H Q E →
    codeAny (model P w) A (.call (.ref f) args) (CR CX outer P w H s Q E) s
theorem FnOk.mono {P : Program} {w : World} {K : PySem.W.Frag} {mg : Str → Option Value} {base : Heap} {CX : CXT} {j k : Nat} {f : Addr} {fd : FuncData} {ps : List Str} {sp : Sp} (F : FnOk P w K mg base CX j f fd ps sp) (h : j ≤ k) :
    FnOk P w K mg base CX k f fd ps sp := ⟨F.len, fun A outer s H args us vs Q E hr => F.run A outer s H args us vs Q E (hr.mono h)⟩
theorem Env0.make {P : Program} {w : World} {K : PySem.W.Frag} {mg : Str → Option Value} {base : Heap} {A : Around} {outer : List Env} {s : Shared} {H : Hp} (e : Env0 P w K mg base A outer s H) (C : Addr) (us : List Value) (kw : List (Str × Value)) :
    Env0 P w K mg base (A.under (.builtin "type.__call__" ⟨.ref C :: us, kw⟩)) outer s H := ⟨by first | exact e.frames | (simpa [Around.under, Code.envs, Code.isFrame, pushEnvs] using e.frames), e.mod, e.bs, e.bsz, e.funs, e.frf, e.hok, e.bare⟩
section
variable {X : Cx} {pins : List (Addr × Obj)} {σ : St} {H : Hp} {s s' : Shared}
/-- from a body: what a callee wants -/
theorem Inv.env0 (I : Inv X pins σ H s) : Env0 X.prog X.w X.K X.mg X.base X.A X.stack s H :=
  ⟨I.ok.frames, I.ok.mod, I.bs, Nat.le_trans I.ok.bsz I.sz, I.stack, I.stkFree, I.hok, I.bare⟩
/-- behind a call -/
theorem Inv.after {Q : VK} {u : Value} (I : Inv X pins σ H s) (h : CE X.stack X.prog X.w H s Q u s') : EP X pins σ Q u s' := by
  obtain ⟨v, H', os, bare, un, hok, r, q⟩ := h
  obtain ⟨hh, g, d, t, os'⟩ := s'
  obtain rfl : os' = s.os := os
  exact ⟨v, H', I.call (h' := hh) (g' := g) (d' := d) (t' := t) (ch := []) un hok bare (fun b z => absurd z (by simp)), r, q⟩
end

/-! ### calls -/
/-- f(..): the written arguments, then the defaults dvs; E: what is wanted of an exception -/
def tCall (sp : Sp) (dvs : List V) (E : XK) (t : TA) : TE := fun σ H Q => t σ H fun vs H1 => sp (vs ++ dvs) H1 Q E
/-- o.m(..) of an instance of the class at C -/
def tMeth (C : Addr) (m : Str) (sp : Sp) (dvs : List V) (E : XK) (ta : TE) (t : TA) : TE := fun σ H Q => ta σ H fun x H1 => ∃ a dx fs, x = .ref a ∧ H1 a = some (.ins C dx fs) ∧ fs.lookup m = none ∧
  t σ H1 fun vs H2 => sp (x :: (vs ++ dvs)) H2 Q E
/-- C(..): a new instance and its dict, then __init__ -/
def tMake (C : Addr) (sp : Sp) (dvs : List V) (E : XK) (t : TA) : TE := fun σ H Q => t σ H fun vs H1 => ∀ x dx, H1 x = none → H1 dx = none → dx ≠ x →
  sp (.ref x :: (vs ++ dvs)) (upd (upd H1 dx (.own x)) x (.ins C dx [])) (fun v H2 => v = .non ∧ Q (.ref x) H2) E

/-- how the parameters are bound: us the positional arguments, kw the keywords' values by name, ds the defaults that fill up -/
def Binds (K : PySem.W.Frag) (fd : FuncData) (ps : List Str) (ds : List Value) : Prop :=
  ∀ (s : Shared) (us : List Value), K.In s.heap → (us ++ ds).length = ps.length → BindsTo s fd ⟨us, []⟩ (ps.zip (us ++ ds))
/-- every parameter is given -/
theorem Binds.all {K : PySem.W.Frag} {fd : FuncData} {ps : List Str} (h : ∀ us : List Value, us.length = ps.length → bindArgs fd ⟨us, []⟩ = pure (ps.zip us)) : Binds K fd ps [] := fun s us _ hl => by
  rw [List.append_nil] at hl ⊢
  exact .of_eq (h us hl)

/-- an exception of a callee reaches what this body wants of exceptions -/
def Passes (CX : CXT) (X : Cx) (E : XK) : Prop := ∀ (pins : List (Addr × Obj)) (σ : St) (H : Hp) (s : Shared) (e : Value) (s' : Shared), Inv X pins σ H s → CX X.stack H s E e s' → X.xe e s'

section
variable {X : Cx} {CX : CXT} {k : Nat} {f C : Addr} {fd : FuncData} {ps : List Str} {sp : Sp} {dvs : List V} {ds : List Value} {E : XK} {x m : Str} {p pos apos : Pos} {e o : Expr} {es : List Expr} {ta : TE} {t : TA}

/-- the callee runs -/
theorem run_fn {pins : List (Addr × Obj)} {σ : St} {H : Hp} {s : Shared} {Q : VK} {us : List Value} {vs : List V} (F : FnOk X.prog X.w X.K X.mg X.base CX k f fd ps sp) (hr : Room k X.A) (hb : Binds X.K fd ps ds) (hd : Vals dvs ds) (hx : Passes CX X E)
    (I : Inv X pins σ H s) (r : Vals vs us) (h : sp (vs ++ dvs) H Q E) : wpAny (model X.prog X.w) X.A (call (.ref f) us) (EP X pins σ Q) X.xe s := by
  have r2 : Vals (vs ++ dvs) (us ++ ds) := r.append hd
  have hl : (us ++ ds).length = ps.length := by rw [← r2.length]; exact F.len _ _ _ _ h
  refine wpAny_call (codeAny_mono (F.run X.A X.stack s H ⟨us, []⟩ (us ++ ds) (vs ++ dvs) Q E hr I.env0 (hb s us I.kIn hl) r2 h) fun r s' hq => ?_)
  cases r with
  | error e => exact hx pins σ H s e s' I hq
  | ok fl =>
    cases fl with
    | ret u => exact I.after hq
    | next => exact False.elim hq
    | brk => exact False.elim hq
    | cont => exact False.elim hq

theorem pe_call (F : FnOk X.prog X.w X.K X.mg X.base CX k f fd ps sp) (hr : Room k X.A) (hg : Gl X x) (hm : X.mg x = some (.ref f)) (hk : PySem.W.keepIn X.K (.ref f) = true) (hb : Binds X.K fd ps ds) (hd : Vals dvs ds) (hx : Passes CX X E)
    (ha : PA X (e :: es) t) (hdb : (x == ("__debug__" : Str)) = false := by decide) (he : starEach (e :: es) X.env = (false, eval e X.env) :: starEach es X.env := by rfl) (hpl : (backTo pos (starEach es X.env)).any (·.1) = false := by rfl) :
    PE X (.Call (.Name x p) (e :: es) [] pos) (tCall sp dvs E t) := by
  constructor; intro pins s σ H Q I h
  refine wpAny_Call_Name_kw (ld_glob I hg hm ?_ hdb)
  refine PySem.W.callWith_K (h₀ := X.base) I.ok.mod.kin hk (thn (ha pos pins s σ H _ I h) fun us s1 ⟨vs, H1, I1, r, q⟩ => ⟨I1.kIn, ?_⟩) he hpl
  exact run_fn F hr hb hd hx I1 r q
/-- o.m(e, ..) -/
theorem pe_meth {pl : Sem Bool} (he : PE X o ta) (c : Cls X.K C) (hm : Meth X.K C m f) (F : FnOk X.prog X.w X.K X.mg X.base CX k f fd ps sp) (hr : Room k X.A) (hb : Binds X.K fd ps ds) (hd : Vals dvs ds) (hx : Passes CX X E) (ha : PA X (e :: es) t)
    (hst : starEach (e :: es) X.env = (false, eval e X.env) :: starEach es X.env := by rfl) (hpl : (backTo pos (starEach es X.env)).any (·.1) = false := by rfl)
    (ht : eval (.Call (.Attribute o m apos) (e :: es) [] pos) X.env = (do
      let ov ← eval o X.env
      standAt apos.atName
      let (f, first) ← holding [ov] (getMethod ov m pl)
      callWith pos f first (backTo pos (starEach (e :: es) X.env)) (backToKw pos (keywordEach [] X.env))) := by rfl) :
    PE X (.Call (.Attribute o m apos) (e :: es) [] pos) (tMeth C m sp dvs E ta t) := by
  constructor; intro pins s σ H Q I h
  refine PySem.W.methodCall_KW (pl := pl) (thn (he pins s σ H _ I h) fun u s1 ⟨x, H1, I1, rx, a, dx, fs, ex, ea, l, q⟩ => ?_) ht
  subst ex
  obtain rfl : u = Value.ref a := rx
  refine getmeth_ok I1 ea c hm l ?_
  refine PySem.W.callWith_K (first := [.ref a]) (h₀ := X.base) I.ok.mod.kin hm.kp (thn (ha pos pins s1 σ H1 _ I1 q) fun us s2 ⟨vs, H2, I2, r, q2⟩ => ⟨I2.kIn, ?_⟩) hst hpl
  exact run_fn (us := .ref a :: us) (vs := .ref a :: vs) F hr hb hd hx I2 (.cons rfl r) q2
/-- what a class must have to be made -/
structure Mk (K : PySem.W.Frag) (C f : Addr) : Prop where
  makes : PySem.W.makesIn K C = true
  init : PySem.W.findIn K (.ref C) "__init__" = some (some (.ref f))
  fn : PySem.W.isFn K (.ref f) = true
  kp : PySem.W.keepIn K (.ref C) = true

theorem run_make {pins : List (Addr × Obj)} {σ : St} {H : Hp} {s : Shared} {Q : VK} {us : List Value} {vs : List V} (M : Mk X.K C f) (F : FnOk X.prog X.w X.K X.mg X.base CX k f fd ps sp) (hr : Room (k + 1) X.A) (hb : Binds X.K fd ps ds) (hd : Vals dvs ds)
    (hx : Passes CX X E) (I : Inv X pins σ H s) (r : Vals vs us)
    (h : ∀ x dx, H x = none → H dx = none → dx ≠ x → sp (.ref x :: (vs ++ dvs)) (upd (upd H dx (.own x)) x (.ins C dx [])) (fun v H2 => v = .non ∧ Q (.ref x) H2) E) :
    wpAny (model X.prog X.w) X.A (call (.ref C) us) (EP X pins σ Q) X.xe s := by
  have hq := h (s.heap.objs.size + 1) s.heap.objs.size (I.hok.fresh (Nat.le_succ _)) (I.hok.fresh (Nat.le_refl _)) (Nat.ne_of_lt (Nat.lt_succ_self _))
  have I2 := Inv.made (C := C) I
  have r2 : Vals (V.ref (s.heap.objs.size + 1) :: (vs ++ dvs)) (Value.ref (s.heap.objs.size + 1) :: (us ++ ds)) := .cons rfl (r.append hd)
  have hl : (Value.ref (s.heap.objs.size + 1) :: us ++ ds).length = ps.length := by
    have e := r2.length
    rw [F.len _ _ _ _ hq] at e
    exact e.symm
  refine wpAny_call (make_map (f := f) I.kIn M.makes M.init (beq_iff_eq.mp M.fn) (codeAny_mono (F.run _ X.stack _ _ ⟨Value.ref (s.heap.objs.size + 1) :: us, []⟩ (Value.ref (s.heap.objs.size + 1) :: (us ++ ds)) _ _ E (hr.make C us [])
    (I2.env0.make C us []) (hb _ (Value.ref (s.heap.objs.size + 1) :: us) I2.kIn hl) r2 hq) fun r s' hq' => ?_))
  cases r with
  | error e => exact hx pins σ _ _ e s' I2 hq'
  | ok fl =>
    cases fl with
    | ret u =>
      obtain ⟨v, H', I3, rv, ev, q3⟩ := I2.after hq'
      subst ev
      exact ⟨rv, ⟨V.ref (s.heap.objs.size + 1), H', I3, rfl, q3⟩⟩
    | next => exact False.elim hq'
    | brk => exact False.elim hq'
    | cont => exact False.elim hq'
theorem pe_make (M : Mk X.K C f) (F : FnOk X.prog X.w X.K X.mg X.base CX k f fd ps sp) (hr : Room (k + 1) X.A) (hg : Gl X x) (hm : X.mg x = some (.ref C)) (hb : Binds X.K fd ps ds) (hd : Vals dvs ds) (hx : Passes CX X E)
    (ha : PA X (e :: es) t) (hdb : (x == ("__debug__" : Str)) = false := by decide) (he : starEach (e :: es) X.env = (false, eval e X.env) :: starEach es X.env := by rfl) (hpl : (backTo pos (starEach es X.env)).any (·.1) = false := by rfl) :
    PE X (.Call (.Name x p) (e :: es) [] pos) (tMake C sp dvs E t) := by
  constructor; intro pins s σ H Q I h
  refine wpAny_Call_Name_kw (ld_glob I hg hm ?_ hdb)
  refine PySem.W.callWith_K (h₀ := X.base) I.ok.mod.kin M.kp (thn (ha pos pins s σ H _ I h) fun us s1 ⟨vs, H1, I1, r, q⟩ => ⟨I1.kIn, ?_⟩) he hpl
  exact run_make M F hr hb hd hx I1 r q
end

/-! ### keywords -/
/-- the values of the keywords, from the left -/
structure PK (X : Cx) (kws : List Keyword) (t : TA) : Prop where
  run : ∀ (pos : Pos) (pins : List (Addr × Obj)) (s : Shared) (σ : St) (H : Hp) (Q : List V → Hp → Prop), Inv X pins σ H s → t σ H Q → wpAny (model X.prog X.w) X.A (evalAll ((backToKw pos (keywordEach kws X.env)).map (·.2))) (AP X pins σ Q) X.xe s
instance {X : Cx} {kws : List Keyword} {t : TA} : CoeFun (PK X kws t) fun _ => ∀ (pos : Pos) (pins : List (Addr × Obj)) (s : Shared) (σ : St) (H : Hp) (Q : List V → Hp → Prop), Inv X pins σ H s → t σ H Q → wpAny (model X.prog X.w) X.A (evalAll ((backToKw pos (keywordEach kws X.env)).map (·.2))) (AP X pins σ Q) X.xe s := ⟨PK.run⟩
section
variable {X : Cx} {CX : CXT} {k : Nat} {f C : Addr} {fd : FuncData} {ps ks : List Str} {sp : Sp} {E : XK} {x m : Str} {p pos apos kpos : Pos} {e o : Expr} {es : List Expr} {kws : List Keyword} {te ta : TE} {t tk : TA} {nm : Option Str}
/-- how a call with keywords binds: g puts the positional values us and the keywords' values ws (names ks) in the parameters' order, defaults among them -/
structure KBinds (K : PySem.W.Frag) (fd : FuncData) (ps ks : List Str) (g : List Value → List Value → List Value) (gV : List V → List V → List V) : Prop where
  to : ∀ (s : Shared) (us ws : List Value), K.In s.heap → (g us ws).length = ps.length → BindsTo s fd ⟨us, ks.zip ws⟩ (ps.zip (g us ws))
  rel : ∀ {vs : List V} {us : List Value} {zs : List V} {ws : List Value}, Vals vs us → Vals zs ws → Vals (gV vs zs) (g us ws)
variable {g : List Value → List Value → List Value} {gV : List V → List V → List V}
end

/-! ### a def's body keeps its promise -/
/-- names: the parameters first -/
structure FnScope (N P : List Str) (sc : Scope) : Prop where
  kind : sc.kind = .function
  co : sc.isCoroutine = false
  gen : sc.isGenerator = false
  nd : N.Nodup
  pre : N.take P.length = P
  par : ∀ x ∈ P, sc.names.lookup x = some .local ∨ sc.names.lookup x = some .cell
  nofree : ∀ y ∈ sc.names, y.2 ≠ .free

theorem bindL_out {kindOf : Str → Option NameKind} {x : Str} : ∀ {binds : List (Str × Value)} {m : Str → Option Value}, (∀ v, (x, v) ∉ binds) → bindL kindOf binds m x = m x
  | [], _, _ => rfl
  | (n, v) :: r, m, h => by
    unfold bindL
    rw [bindL_out fun w hw => h w (List.mem_cons_of_mem _ hw)]
    split
    · have : x ≠ n := by rintro rfl; exact h v List.mem_cons_self
      simp [this]
    · rfl
theorem bindC_out {kindOf : Str → Option NameKind} {x : Str} : ∀ {binds : List (Str × Value)} {m : Str → Option Value}, (∀ v, (x, v) ∉ binds) → bindC kindOf binds m x = m x
  | [], _, _ => rfl
  | (n, v) :: r, m, h => by
    unfold bindC
    rw [bindC_out fun w hw => h w (List.mem_cons_of_mem _ hw)]
    split
    · rfl
    · have : x ≠ n := by rintro rfl; exact h v List.mem_cons_self
      simp [this]
theorem bindL_get {kindOf : Str → Option NameKind} {x : Str} {v : Value} : ∀ {P : List Str} {vs : List Value} {i : Nat} {m : Str → Option Value}, P.Nodup → P[i]? = some x → vs[i]? = some v → kindOf x = some .local →
    bindL kindOf (P.zip vs) m x = some v
  | [], _, _, _, _, h, _, _ => by simp at h
  | _ :: _, [], _, _, _, _, h, _ => by simp at h
  | p :: P, w :: vs, 0, m, nd, h1, h2, hk => by
    simp at h1 h2; subst h1; subst h2
    show bindL kindOf ((p, w) :: P.zip vs) m p = _
    unfold bindL
    rw [bindL_out fun v hv => (List.nodup_cons.mp nd).1 (List.of_mem_zip hv).1, if_pos hk]
    simp
  | p :: P, w :: vs, i + 1, m, nd, h1, h2, hk => by
    show bindL kindOf ((p, w) :: P.zip vs) m x = _
    unfold bindL
    exact bindL_get (i := i) (List.nodup_cons.mp nd).2 (by simpa using h1) (by simpa using h2) hk
theorem bindC_get {kindOf : Str → Option NameKind} {x : Str} {v : Value} : ∀ {P : List Str} {vs : List Value} {i : Nat} {m : Str → Option Value}, P.Nodup → P[i]? = some x → vs[i]? = some v → kindOf x ≠ some .local →
    bindC kindOf (P.zip vs) m x = some v
  | [], _, _, _, _, h, _, _ => by simp at h
  | _ :: _, [], _, _, _, _, h, _ => by simp at h
  | p :: P, w :: vs, 0, m, nd, h1, h2, hk => by
    simp at h1 h2; subst h1; subst h2
    show bindC kindOf ((p, w) :: P.zip vs) m p = _
    unfold bindC
    rw [bindC_out fun v hv => (List.nodup_cons.mp nd).1 (List.of_mem_zip hv).1, if_neg hk]
    simp
  | p :: P, w :: vs, i + 1, m, nd, h1, h2, hk => by
    show bindC kindOf ((p, w) :: P.zip vs) m x = _
    unfold bindC
    exact bindC_get (i := i) (List.nodup_cons.mp nd).2 (by simpa using h1) (by simpa using h2) hk

/-- the names' values at the entry -/
def start (N : List Str) (vs : List V) : St := vs.map some ++ List.replicate (N.length - vs.length) none

/-- the context of a def's body, at its entry; an exception leaves the frame, then lies as CX says -/
def cxOf (CX : CXT) (P : Program) (w : World) (K : PySem.W.Frag) (mg : Str → Option Value) (base : Heap) (N : List Str) (qual : Str) (scope : Scope) (f : Addr) (cd : Value) (A : Around) (outer : List Env) (s : Shared) (H : Hp) (E : XK) : Cx where
  prog := P
  w := w
  K := K
  mg := mg
  base := base
  A := A.deeper (envOfC qual scope s.heap.objs.size f cd)
  N := N
  s₀ := s
  H₀ := H
  env := envOfC qual scope s.heap.objs.size f cd
  outer := outer
  stack := envOfC qual scope s.heap.objs.size f cd :: outer
  ex := []
  calm := true
  fn := fun _ => true
  pn := []
  xe := fun e s' => wpAny (model P w) (A.deeper (envOfC qual scope s.heap.objs.size f cd)) (leaving (envOfC qual scope s.heap.objs.size f cd) e) (fun _ s'' => CX outer H s E e s'') (fun e' s'' => CX outer H s E e' s'') s'

theorem cell_has {sc : Scope} {n : Nat} {x : Str} (h : sc.names.lookup x = some .cell) : ∃ c, (cellsFrom n sc.names []).lookup x = some c := by
  have q := PySem.W.cellsFrom_some sc.names n [] (.inl h)
  exact Option.isSome_iff_exists.mp q

theorem inv_start {CX : CXT} {P : Program} {w : World} {K : PySem.W.Frag} {mg : Str → Option Value} {base : Heap} {N ps : List Str} {qual : Str} {scope : Scope} {f : Addr} {cd : Value} {A : Around} {outer : List Env} {s s1 : Shared} {H : Hp} {E : XK} {us : List Value} {vs : List V}
    (S : FnScope N ps scope) (hd : A.handled = none) (e0 : Env0 P w K mg base A outer s H) (hl : vs.length = ps.length) (r : Vals vs us)
    (x : InCallC s s.heap.objs.size (bindL (envOfC qual scope s.heap.objs.size f cd).kindOf (ps.zip us) fun _ => none) (cellsFrom (s.heap.objs.size + 1) scope.names []) (bindC (envOfC qual scope s.heap.objs.size f cd).kindOf (ps.zip us) fun _ => none) s1) :
    Inv (cxOf CX P w K mg base N qual scope f cd A outer s H E) [] (start N vs) H s1 := by
  have hpl : ps.length ≤ N.length := by have := congrArg List.length S.pre; rw [List.length_take] at this; omega
  obtain ⟨h1, tk, rfl, hk⟩ := x.done
  have noA : ∀ b : Addr, b ∉ (cxOf CX P w K mg base N qual scope f cd A outer s H E).ex := fun b z => absurd (show b ∈ ([] : List Addr) from z) (by simp)
  refine ⟨⟨e0.mod, S.kind, rfl, rfl, Nat.le_refl _, fun y z c h1 h2 => ?_, fun y hy => ?_, fun y c _ h => ?_, fun _ => hd, Around.frames_deeper e0.frames, .inr ⟨rfl, rfl⟩, fun b z => absurd z (noA b), e0.bs, e0.bsz, fun b _ _ => noA b, fun b z => absurd z (noA b), e0.funs, e0.frf⟩,
    rfl, e0.bare, Un.kept hk, ⟨_, x.toInCall.ns, fun i y v h1 h2 h3 => ?_⟩, fun y c h => ⟨_, x.cell y c h⟩, e0.hok.fresh (Nat.le_refl _), fun y c h => ?_, fun p hp => absurd (show p ∈ ([] : List (Addr × Obj)) from hp) (by simp), e0.hok.kept hk, ?_⟩
  · exact name_of_addr x.apart (PySem.mem_of_lookup h1) (PySem.mem_of_lookup h2)
  · have hy : scope.names.lookup y = some .cell ∨ scope.names.lookup y = some .free := hy
    rcases hy with hy | hy
    · exact cell_has hy
    · exact absurd rfl (S.nofree _ (PySem.mem_of_lookup hy))
  · exact Nat.le_of_lt (x.above y c (PySem.mem_of_lookup h))
  · have hi : i < vs.length := by
      unfold start at h2
      by_cases hi : i < vs.length
      · exact hi
      · rw [List.getElem?_append_right (by simpa using hi)] at h2
        rw [List.getElem?_replicate] at h2
        split at h2 <;> cases h2
    have ha : vs[i]? = some v := by
      unfold start at h2
      rw [List.getElem?_append_left (by simpa using hi), List.getElem?_map] at h2
      cases e : vs[i]? with
      | none => rw [e] at h2; cases h2
      | some a => rw [e] at h2; cases h2; rfl
    obtain ⟨u, hu, rv⟩ := r.get ha
    have hp : ps[i]? = some y := by
      rw [← S.pre, List.getElem?_take_of_lt (by omega)]; exact h1
    have ndP : ps.Nodup := by rw [← S.pre]; exact S.nd.sublist (List.take_sublist _ _)
    refine ⟨u, rv, ?_⟩
    rcases S.par y (List.mem_of_getElem? hp) with k | k
    · exact .inl ⟨k, bindL_get ndP hp hu k⟩
    · obtain ⟨c, e⟩ := cell_has (n := s.heap.objs.size + 1) k
      refine .inr ⟨.inl k, c, e, ?_⟩
      have q := x.cell y c e
      rw [bindC_get ndP hp hu (by show scope.names.lookup y ≠ _; rw [k]; decide)] at q
      exact q
  · exact e0.hok.fresh (Nat.le_of_lt (x.above y c (PySem.mem_of_lookup h)))
  · unfold start
    show _ = N.length
    rw [List.length_append, List.length_map, List.length_replicate]
    omega

/-- THE RULE: a def (or a method) of the text, by its body. The body's reading t is chosen for each entry; it is run at the parameters' values -/
theorem fn_of {CX : CXT} {P : Program} {w : World} {K : PySem.W.Frag} {mg : Str → Option Value} {base : Heap} {k : Nat} {f : Addr} {name qual : Str} {params : Arguments} {body : List Stmt} {scope : Scope} {dV kV doc pm cdv ct oc : Value} {an od : Option Addr}
    {osl : Array (Option Value)} {N ps : List Str} {sp : Sp} (lk : K.lookup f = some ⟨oc, od, .func (PySem.W.fnOf name qual params body scope dV kV doc pm an cdv ct), osl⟩) (hcd : PySem.W.codeIn K cdv qual = true) (S : FnScope N ps scope)
    (len : ∀ vs H Q E, sp vs H Q E → vs.length = ps.length)
    (hbody : ∀ (A : Around) (outer : List Env) (s : Shared) (H : Hp) (vs : List V) (Q : VK) (E : XK), Room k (A.deeper (envOfC qual scope s.heap.objs.size f cdv)) → sp vs H Q E →
      ∃ t, PSs (cxOf CX P w K mg base N qual scope f cdv A outer s H E) body t ∧ t { nx := fun _ H' => Q .non H', rt := Q } (start N vs) H) :
    FnOk P w K mg base CX (k + 1) f (PySem.W.fnOf name qual params body scope dV kV doc pm an cdv ct) ps sp := by
  refine ⟨len, fun A outer s H args us vs Q E hr e0 hb r hsp => ?_⟩
  have hl := len _ _ _ _ hsp
  have KX : K.In s.heap := e0.mod.kin.keeps fun b o e => (e0.bs b o e).1
  have lim : s.heap.NoLimit := e0.mod.nolimit.keeps fun b o e => (e0.bs b o e).1
  have hkind : ∀ y ∈ ps.zip us, scope.names.lookup y.1 = some .local ∨ (scope.names.lookup y.1 = some .cell ∧ ((cellsFrom (s.heap.objs.size + 1) scope.names []).lookup y.1).isSome = true) := fun ⟨n, v⟩ hy => by
    rcases S.par n (List.of_mem_zip hy).1 with q | q
    · exact .inl q
    · exact .inr ⟨q, PySem.W.cellsFrom_some _ _ _ (.inl q)⟩
  refine codeAny_call_function hr.depth (KX _ _ lk) rfl S.co S.gen rfl (PySem.W.codeRec_of KX hcd) (hb _ _ _ _ ?_)
  refine wpAny_newFunctionEnv_cells S.kind hkind fun env he s1 x => ?_
  subst he
  refine ⟨lim.keeps x.toInCall.keep, codeAny_func ?_⟩
  obtain ⟨t, ht, hq⟩ := hbody A outer s H vs Q E (hr.deeper _) hsp
  have I : Inv (cxOf CX P w K mg base N qual scope f cdv A outer s H E) [] (start N vs) H s1 := inv_start S hr.hd e0 hl r x
  refine wpAny_mono (ht [] s1 (start N vs) H _ I hq) (fun fl s' hs => ?_) fun e s' hs => hs
  have fin : ∀ {σ' : St} {H' : Hp} {v : V} {u : Value}, Inv (cxOf CX P w K mg base N qual scope f cdv A outer s H E) [] σ' H' s' → RelV v u → Q v H' → CE outer P w H s Q u s' :=
    fun {σ' H' v u} J rv q => ⟨v, H', J.os, J.bare, J.base, J.hok, rv, q⟩
  cases fl with
  | ret u =>
    obtain ⟨v, σ', H', J, rv, q⟩ := hs
    exact fin J rv q
  | next =>
    obtain ⟨σ', H', J, q⟩ := hs
    exact fin (v := V.non) (u := Value.none) J rfl q
  | brk =>
    obtain ⟨_, _, _, q⟩ := hs
    exact False.elim q
  | cont =>
    obtain ⟨_, _, _, q⟩ := hs
    exact False.elim q
end L2

namespace L2
open PySem PySem.Spec PyProof.Rows
section
variable {X : Cx} {x : Str} {p pos : Pos} {e : Expr} {es : List Expr} {t : TA} {id T : String} {r : List V → Hp → VK → Prop}

def tCB (r : List V → Hp → VK → Prop) (t : TA) : TE := fun σ H Q => t σ H fun vs H1 => r vs H1 Q
/-- f(e, ..), f a built-in function -/
theorem pe_callB (hc : CallR X (.builtin id) r) (hg : Gl X x) (hm : X.mg x = none) (hv : bootBuiltins x = some (.builtin id)) (ha : PA X (e :: es) t) (hn : x ≠ "__name__" := by decide) (hdb : (x == ("__debug__" : Str)) = false := by decide)
    (he : starEach (e :: es) X.env = (false, eval e X.env) :: starEach es X.env := by rfl) (hpl : (backTo pos (starEach es X.env)).any (·.1) = false := by rfl) : PE X (.Call (.Name x p) (e :: es) [] pos) (tCB r t) := by
  constructor; intro pins s σ H Q I h
  refine wpAny_Call_Name_kw (ld_blt I hg hm hv ?_ hn hdb)
  exact PyProof.Rows.callWith_builtin1 (thn (ha pos pins s σ H _ I h) fun us s1 ⟨vs, H1, I1, r1, q1⟩ => hc pins s1 σ H1 vs us Q I1 r1 q1) he hpl
/-- T(e, ..), T a built-in type -/
theorem pe_callTy (hc : CallR X (.type T) r) (hg : Gl X x) (hm : X.mg x = none) (hv : bootBuiltins x = some (.type T)) (ha : PA X (e :: es) t) (hn : x ≠ "__name__" := by decide) (hdb : (x == ("__debug__" : Str)) = false := by decide)
    (he : starEach (e :: es) X.env = (false, eval e X.env) :: starEach es X.env := by rfl) (hpl : (backTo pos (starEach es X.env)).any (·.1) = false := by rfl) : PE X (.Call (.Name x p) (e :: es) [] pos) (tCB r t) := by
  constructor; intro pins s σ H Q I h
  refine wpAny_Call_Name_kw (ld_blt I hg hm hv ?_ hn hdb)
  exact PyProof.Rows.callWith_type1 (thn (ha pos pins s σ H _ I h) fun us s1 ⟨vs, H1, I1, r1, q1⟩ => hc pins s1 σ H1 vs us Q I1 r1 q1) he hpl
end
end L2

namespace HT
open PySem PyProof.Rows

section
open PySem.SeqAt
open PySem.AutoSeq1 (wpAny_loadPart')
open PySem.MeetsSeq PySem.MeetsSeq2 PySem.MeetsSeq3

end

section
variable {prog : Program} {w : World} {A : Around} {E : Value → Shared → Prop} {s : Shared}

/-! ### t[a:b], not the whole -/
/-- a slice's bound as a place among n (d where it is left out) -/
def sIx (n d : Nat) : Option Int → Nat
  | none => d
  | some v => if v < 0 then (v + (n : Int)).toNat else min v.toNat n
theorem sIx_none (n d : Nat) : sIx n d none = d := rfl
theorem sIx_nat (n d k : Nat) : sIx n d (some (k : Int)) = min k n := by
  show (if (k : Int) < 0 then ((k : Int) + (n : Int)).toNat else min (k : Int).toNat n) = min k n
  rw [if_neg (by omega), Int.toNat_natCast]
end
end HT

namespace L2
open PySem PySem.Spec PyProof.Rows

/-! ### the parts of a slice -/
abbrev TO := St → Hp → (Option Int → Hp → Prop) → Prop
/-- a slice's part (left out, or an int) -/
structure PO (X : Cx) (e : Option Expr) (t : TO) : Prop where
  run : ∀ (pins : List (Addr × Obj)) (s : Shared) (σ : St) (H : Hp) (Q : Option Int → Hp → Prop), Inv X pins σ H s → t σ H Q →
    wpAny (model X.prog X.w) X.A (evalPart e X.env) (fun u s' => ∃ o H', Inv X pins σ H' s' ∧ IsPart u o ∧ Q o H') X.xe s
instance {X : Cx} {e : Option Expr} {t : TO} : CoeFun (PO X e t) fun _ => ∀ (pins : List (Addr × Obj)) (s : Shared) (σ : St) (H : Hp) (Q : Option Int → Hp → Prop), Inv X pins σ H s → t σ H Q →
    wpAny (model X.prog X.w) X.A (evalPart e X.env) (fun u s' => ∃ o H', Inv X pins σ H' s' ∧ IsPart u o ∧ Q o H') X.xe s := ⟨PO.run⟩
def tNoPart : TO := fun _ H Q => Q none H
def tPart (t : TE) : TO := fun σ H Q => t σ H fun x H1 => ∃ i, x = .int i ∧ Q (some i) H1

section
variable {X : Cx} {e : Expr} {te : TE} {lo hi : Option Expr} {tl th : TO} {pos p2 : Pos}

theorem po_none : PO X none tNoPart := by
  constructor; intro pins s σ H Q I h
  rw [evalPart_none]
  exact wpAny_pure ⟨none, H, I, .none, h⟩
theorem po_some (h : PE X e te) : PO X (some e) (tPart te) := by
  constructor; intro pins s σ H Q I hw
  rw [evalPart_some]
  refine thn (h pins s σ H _ I hw) fun u s1 ⟨x, H1, I1, r1, q1⟩ => ?_
  obtain ⟨i, rfl, q⟩ := q1
  obtain ⟨t, rfl⟩ := r1
  exact ⟨some i, H1, I1, .int i t, q⟩

/-- what a slice of a value is, by values: the slice object stands at sl -/
def SlR (X : Cx) (r : V → Option Int → Option Int → Hp → VK → Prop) : Prop :=
  ∀ (pins : List (Addr × Obj)) (s : Shared) (σ : St) (H : Hp) (x : V) (v vl vu : Value) (lo hi : Option Int) (sl : Addr) (Q : VK), Inv X pins σ H s → RelV x v → s.heap.IsSliceOf sl vl vu .none → IsPart vl lo → IsPart vu hi → r x lo hi H Q →
    ∃ T id, typeLookup (.type T) "__getitem__" = pure (some (.builtin id)) ∧ s.TypeIs v T ∧ wpAny (model X.prog X.w) X.A (getItem v (.ref sl)) (EP X pins σ Q) X.xe s
def tSl (r : V → Option Int → Option Int → Hp → VK → Prop) (te : TE) (tl th : TO) : TE := fun σ H Q => te σ H fun x H1 => tl σ H1 fun l H2 => th σ H2 fun u H3 => r x l u H3 Q
/-- a[lo:hi], any a -/
theorem pe_slice {r : V → Option Int → Option Int → Hp → VK → Prop} (hr : SlR X r) (he : PE X e te) (hl : PO X lo tl) (hu : PO X hi th) : PE X (.Subscript e (.Slice lo hi none p2) pos) (tSl r te tl th) := by
  constructor; intro pins s σ H Q I h
  refine Subscript_ (thn (he pins s σ H _ I h) fun v s1 ⟨x, H1, I1, r1, q1⟩ => ?_)
  refine wpAny_Slice (thn (hl pins s1 σ H1 _ I1 q1) fun vl s2 ⟨l, H2, I2, pl, q2⟩ => thn (hu pins s2 σ H2 _ I2 q2) fun vu s3 ⟨u, H3, I3, pu, q3⟩ => ?_)
  rw [evalPart_none]
  refine wpAny_pure ?_
  have I4 : Inv X pins σ H3 { s3 with heap := s3.heap.push { cls := .type "slice", data := .fields #[vl, vu, .none] } } := I3.kept (t' := s3.toks) fun b ob q => Heap.get?_push_of_some _ q
  obtain ⟨T, id, hT, ht, hg⟩ := hr pins { s3 with heap := s3.heap.push { cls := .type "slice", data := .fields #[vl, vu, .none] } } σ H3 x v vl vu l u s3.heap.objs.size Q I4 r1 (Heap.IsSliceOf.new ..) pl pu q3
  show wpAny (model X.prog X.w) X.A (subscriptTail e (.Slice lo hi none p2) v (.ref s3.heap.objs.size)) (EP X pins σ Q) X.xe { s3 with heap := s3.heap.push { cls := .type "slice", data := .fields #[vl, vu, .none] } }
  exact tail_any (ops := [.ref s3.heap.objs.size, v]) ht hT hg (by with_unfolding_all rfl)

/-- the items of xs[lo:hi] -/
def cutV (xs : List V) (lo hi : Option Int) : List V := (xs.drop (HT.sIx xs.length 0 lo)).take (HT.sIx xs.length xs.length hi - HT.sIx xs.length 0 lo)
theorem cutV_length (xs : List V) (lo hi : Option Int) : (cutV xs lo hi).length ≤ xs.length := by
  unfold cutV
  rw [List.length_take, List.length_drop]
  omega
/-! ### t < u, t + u -/
end
end L2

namespace L2
open PySem PySem.Spec PyProof.Rows

/-! ### places -/
/-- the place that an index of any sign means -/
def ixN (n : Nat) (i : Int) : Option Nat := if 0 ≤ i then (if i < n then some i.toNat else none) else if -(n : Int) ≤ i then some (i + n).toNat else none
def atI {α : Type} (xs : List α) (i : Int) : Option α := (ixN xs.length i).bind fun j => xs[j]?
theorem ixN_seq {n : Nat} {i : Int} {j : Nat} (h : ixN n i = some j) : seqIndex? i n = some j ∧ j < n ∧ -(n : Int) ≤ i ∧ i < n := by
  unfold ixN at h
  by_cases h0 : 0 ≤ i
  · rw [if_pos h0] at h
    by_cases h1 : i < n
    · rw [if_pos h1] at h
      have e : i.toNat = j := Option.some.inj h
      exact ⟨by rw [seqIndex_of h0 h1, e], by omega, by omega, h1⟩
    · rw [if_neg h1] at h; cases h
  · rw [if_neg h0] at h
    by_cases h1 : -(n : Int) ≤ i
    · rw [if_pos h1] at h
      have e : (i + n).toNat = j := Option.some.inj h
      exact ⟨by rw [seqIndex_neg (by omega) h1, e], by omega, h1, by omega⟩
    · rw [if_neg h1] at h; cases h
theorem atI_get {α : Type} {xs : List α} {i : Int} {v : α} (h : atI xs i = some v) : ∃ j, seqIndex? i xs.length = some j ∧ xs[j]? = some v ∧ j < xs.length ∧ -(xs.length : Int) ≤ i ∧ i < xs.length := by
  unfold atI at h
  cases e : ixN xs.length i with
  | none => rw [e] at h; cases h
  | some j =>
    rw [e] at h
    obtain ⟨h1, h2, h3, h4⟩ := ixN_seq e
    exact ⟨j, h1, h, h2, h3, h4⟩
theorem atI_nat {α : Type} {xs : List α} {j : Nat} {v : α} (h : xs[j]? = some v) : atI xs (j : Int) = some v := by
  have hj : j < xs.length := (List.getElem?_eq_some_iff.mp h).1
  have e : ixN xs.length (j : Int) = some j := by
    unfold ixN
    rw [if_pos (by omega), if_pos (by omega)]; simp
  unfold atI; rw [e]; exact h
/-! ### what may be subscripted -/
/-- what stands as an index of a plain subscript -/
def PlainIx (b : Expr) : Prop := ∀ o i, subscripted b false o i = operate [o, i] (getItem o i)
/-- a subscript by values -/
def IxR (X : Cx) (r : R2) : Prop :=
  ∀ (value slice : Expr) (pins : List (Addr × Obj)) (s : Shared) (σ : St) (H : Hp) (x y : V) (v u : Value) (Q : VK), Inv X pins σ H s → RelV x v → RelV y u → r x y H Q →
    subscripted slice false v u = operate [v, u] (getItem v u) → wpAny (model X.prog X.w) X.A (subscriptTail value slice v u) (EP X pins σ Q) X.xe s
/-- a call of a builtin's method by values: the receiver, the arguments -/
def MtR (X : Cx) (id : String) (r : V → List V → Hp → VK → Prop) : Prop :=
  ∀ (pins : List (Addr × Obj)) (s : Shared) (σ : St) (H : Hp) (x : V) (xs : List V) (v : Value) (us : List Value) (Q : VK), Inv X pins σ H s → RelV x v → Vals xs us → r x xs H Q →
    wpAny (model X.prog X.w) X.A (call (.builtin id) (v :: us)) (EP X pins σ Q) X.xe s
section
variable {X : Cx} {a b : Expr} {ta tb : TE} {pos : Pos}
/-- a[b] -/
theorem pe_ix {r : R2} (hr : IxR X r) (ha : PE X a ta) (hb : PE X b tb) (hs : PlainIx b) : PE X (.Subscript a b pos) (tOp r ta tb) := by
  constructor; intro pins s σ H Q I h
  exact Subscript_ (binT ha hb I h fun v u s2 x y H2 I2 rx ry q => hr a b pins s2 σ H2 x y v u Q I2 rx ry q (hs _ _))

def rIxL (K : PySem.W.Frag) : R2 := fun x y H Q => ∃ p xs i v, x = .ref p ∧ y = .int i ∧ SqL K H p xs ∧ atI xs i = some v ∧ Q v H
def rIxT (K : PySem.W.Frag) : R2 := fun x y H Q => ∃ p xs i v, x = .ref p ∧ y = .int i ∧ SqT K H p xs ∧ atI xs i = some v ∧ Q v H
theorem ix_list : IxR X (rIxL X.K) := by
  intro value slice pins s σ H x y v u Q I rx ry h hs
  obtain ⟨p, xs, i, z, rfl, rfl, hq, he, q⟩ := h
  cases rx
  obtain ⟨t, rfl⟩ := ry
  obtain ⟨its, r, pl, hz⟩ := I.list hq
  obtain ⟨j, h1, h2, h3, h4, h5⟩ := atI_get he
  obtain ⟨w, ew, rw'⟩ := r.get h2
  have hl := r.length
  have hn := line63
  have fin : EP X pins σ Q w s := ⟨z, H, I, rw', q⟩
  by_cases h0 : 0 ≤ i
  · have hj : i.toNat = j := by
      rw [seqIndex_of h0 h5] at h1
      exact Option.some.inj h1
    exact item_listR pl.isList h0 (by omega) (by rw [hj]; simpa using ew) fin hs
  · have hj : (i + (its.toArray.size : Int)).toNat = j := by
      rw [seqIndex_neg (by omega) h4] at h1
      rw [List.size_toArray, ← hl]
      exact Option.some.inj h1
    exact subscriptTail_builtinR (x := w) pl.isList.typeIs slot_list_getitem.lookup
      (wpAny_getItem_list_neg (Q := fun r s' => r = w ∧ EP X pins σ Q r s') pl.isList (by omega) (by rw [List.size_toArray] <;> omega) (by omega) (by rw [hj]; simpa using ew) ⟨rfl, fin⟩) hs
theorem ix_tup : IxR X (rIxT X.K) := by
  intro value slice pins s σ H x y v u Q I rx ry h hs
  obtain ⟨p, xs, i, z, rfl, rfl, hq, he, q⟩ := h
  cases rx
  obtain ⟨t, rfl⟩ := ry
  obtain ⟨its, r, pl, hz⟩ := I.tuple hq
  obtain ⟨j, h1, h2, h3, h4, h5⟩ := atI_get he
  obtain ⟨w, ew, rw'⟩ := r.get h2
  have hl := r.length
  have hn := line63
  have fin : EP X pins σ Q w s := ⟨z, H, I, rw', q⟩
  exact subscriptTail_builtinR (x := w) pl.typeIs slot_tuple_getitem.lookup
    (getItem_tuple (j := j) (Q := fun r s' => r = w ∧ EP X pins σ Q r s') pl (by omega) (by omega) (by rw [List.size_toArray, ← hl]; exact h1) (by simpa using ew) ⟨rfl, fin⟩) hs
/-! ### xs[i] = v, any sign -/
/-- the list's object behind a store -/
theorem mapSeq_set (its : List Value) (n j : Nat) (u : Value) : Obj.mapSeq (·.setIfInBounds j u) { cls := .type "list", data := .seq its.toArray n } = { cls := .type "list", data := .seq (its.set j u).toArray n } := by
  simp [Obj.mapSeq]
theorem Inv.lst {pins : List (Addr × Obj)} {σ : St} {H : Hp} {s : Shared} {p : Addr} {xs : List V} (I : Inv X pins σ H s) (h : H p = some (.lst xs)) :
    ∃ (its : List Value) (n : Nat), Vals xs its ∧ s.heap.get? p = some { cls := .type "list", data := .seq its.toArray n } ∧ xs.length ≤ sizeLine := by
  obtain ⟨z, its, n, r, e⟩ := I.hok p _ h
  exact ⟨its, n, r, e, z⟩
/-- the list at p is written by an update of its object -/
theorem Inv.lstUpd {pins : List (Addr × Obj)} {σ : St} {H : Hp} {s : Shared} {p : Addr} {xs ys : List V} {its its' : List Value} {n n' : Nat} {f : Obj → Obj} (I : Inv X pins σ H s) (h : H p = some (.lst xs))
    (ho : s.heap.get? p = some { cls := .type "list", data := .seq its.toArray n }) (hf : f { cls := .type "list", data := .seq its.toArray n } = { cls := .type "list", data := .seq its'.toArray n' }) (r : Vals ys its') (hz : ys.length ≤ sizeLine) (t : Nat) :
    Inv X pins σ (upd H p (.lst ys)) { s with heap := s.heap.update p f, toks := t } := by
  have e : (s.heap.update p f).get? p = some { cls := .type "list", data := .seq its'.toArray n' } := by
    rw [Heap.get?_update_self f ho (by rw [hf] <;> rfl), hf]
  refine I.write (x := p) (e := p) (by rw [h]; trivial) (.inl rfl) (fun b u hb q => (Heap.get?_update_other _ _ (Ne.symm hb)).trans q) ⟨_, e⟩ ?_
  exact ⟨hz, its', n', r, e⟩
def rSetL : V → V → V → Hp → (Hp → Prop) → Prop := fun o i v H Q => ∃ p xs k j, o = .ref p ∧ i = .int k ∧ H p = some (.lst xs) ∧ ixN xs.length k = some j ∧ Q (upd H p (.lst (xs.set j v)))
theorem set_list : PSet X rSetL := by
  intro pins s σ H o i v ov iv u Q I ro ri rv h
  obtain ⟨p, xs, k, j, rfl, rfl, hp, hj, q⟩ := h
  cases ro
  obtain ⟨t, rfl⟩ := ri
  obtain ⟨its, n, r, ho, hz⟩ := I.lst hp
  obtain ⟨h1, h2, h3, h4⟩ := ixN_seq hj
  have hl := r.length
  have hn := line63
  have I' : Inv X pins σ (upd H p (.lst (xs.set j v))) { s with heap := s.heap.update p (Obj.mapSeq (·.setIfInBounds j u)) } :=
    I.lstUpd hp ho (mapSeq_set its n j u) (r.set rv j) (by rw [List.length_set]; exact hz) s.toks
  by_cases h0 : 0 ≤ k
  · have hk : k.toNat = j := by
      rw [seqIndex_of h0 h4] at h1
      exact Option.some.inj h1
    exact PySem.W.ki_setAt ho h0 (by omega) (by rw [List.size_toArray, ← hl]; exact h4) (by rw [hk]; exact ⟨_, I', q⟩)
  · have hk : (k + (its.toArray.size : Int)).toNat = j := by
      rw [seqIndex_neg (by omega) h3] at h1
      rw [List.size_toArray, ← hl]
      exact Option.some.inj h1
    exact PySem.W.ki_setBack ho (by omega) (by rw [List.size_toArray, ← hl]; exact h3) (by omega) (by rw [hk]; exact ⟨_, I', q⟩)

/-! ### slices -/
theorem slice_bounds (lo hi : Option Int) (n : Nat) : (sliceBounds lo hi none n).1 = ((HT.sIx n 0 lo : Nat) : Int) ∧ (sliceBounds lo hi none n).2.1 = ((HT.sIx n n hi : Nat) : Int) ∧ (sliceBounds lo hi none n).2.2 = 1 := by
  refine ⟨?_, ?_, rfl⟩
  · cases lo with
    | none => simp [sliceBounds, HT.sIx]
    | some i =>
      simp only [sliceBounds, HT.sIx, Option.getD_none, show (1 : Int) > 0 by decide, if_true]
      by_cases h : i < 0
      · simp only [h, if_true] <;> omega
      · simp only [h, if_false] <;> omega
  · cases hi with
    | none => simp [sliceBounds, HT.sIx]
    | some i =>
      simp only [sliceBounds, HT.sIx, Option.getD_none, show (1 : Int) > 0 by decide, if_true]
      by_cases h : i < 0
      · simp only [h, if_true] <;> omega
      · simp only [h, if_false] <;> omega
theorem slicePick_cut (its : List Value) (lo hi : Option Int) : slicePick its.toArray lo hi none = ((its.drop (HT.sIx its.length 0 lo)).take (HT.sIx its.length its.length hi - HT.sIx its.length 0 lo)).toArray := by
  obtain ⟨h1, h2, h3⟩ := slice_bounds lo hi its.toArray.size
  unfold slicePick
  rw [h1, h2, h3]
  simp only [sliceRange_one, pick_run, List.size_toArray] <;> rfl
/-- xs[lo:hi] of a list: a new list -/
def rSlL (K : PySem.W.Frag) : V → Option Int → Option Int → Hp → VK → Prop := fun x lo hi H Q => ∃ a xs, x = .ref a ∧ SqL K H a xs ∧ ∀ p, H p = none → Q (.ref p) (upd H p (.lst (cutV xs lo hi)))
theorem sl_list : SlR X (rSlL X.K) := by
  intro pins s σ H x v vl vu lo hi sl Q I rx hs pl pu h
  obtain ⟨a, xs, rfl, hx, q⟩ := h
  cases rx
  obtain ⟨its, r, ht, hz⟩ := I.list hx
  have hlen := r.length
  refine ⟨"list", _, slot_list_getitem.lookup, ht.isList.typeIs, ?_⟩
  refine wpAny_getItem_list_slice ht.isList hs pl pu .none (by simp) ?_ (by rw [List.size_toArray] <;> omega)
  rw [slicePick_cut, ← hlen]
  refine ⟨.ref s.heap.objs.size, _, I.laid (t' := s.toks) (o := .lst (cutV xs lo hi)) (fun b ob q => Heap.get?_push_of_some _ q) (Nat.le_refl _) ?_, rfl, q _ (I.hok.fresh (Nat.le_refl _))⟩
  exact ⟨Nat.le_trans (cutV_length xs lo hi) hz, _, 0, (r.drop (HT.sIx xs.length 0 lo)).take (HT.sIx xs.length xs.length hi - HT.sIx xs.length 0 lo), Heap.get?_push_size _ rfl⟩

/-! ### in, not in: flat items -/
/-! ### len, list(x), tuple(x) of any list or tuple that is read -/
theorem call_list_of : CallR X (.type "list") (fun xs H Q => ∃ p ys, xs = [.ref p] ∧ (SqL X.K H p ys ∨ SqT X.K H p ys) ∧ ∀ l, H l = none → Q (.ref l) (upd H l (.lst ys))) := by
  intro pins s σ H xs us Q I r h
  obtain ⟨p, ys, rfl, hq, q⟩ := h
  obtain ⟨u, rfl, rx⟩ := vals1 r
  cases rx
  have fin : ∀ (its : List Value), Vals ys its → ys.length ≤ sizeLine → ∀ (h' : Heap) (c' : Nat), (∀ b o', s.heap.get? b = some o' → h'.get? b = some o') →
      h'.get? s.heap.objs.size = some { cls := .type "list", dict := none, data := .seq its.toArray c', slots := #[] } → EP X pins σ Q (.ref s.heap.objs.size) { s with heap := h' } := fun its r' hz h' c' kp e =>
    ⟨.ref s.heap.objs.size, _, I.laid (t' := s.toks) kp (Nat.le_refl _) (show ObjOk X.prog X.w _ h' _ (.lst ys) from ⟨hz, its, c', r', e⟩), rfl, q _ (I.hok.fresh (Nat.le_refl _))⟩
  rcases hq with hq | hq
  · obtain ⟨its, r', pl, hz⟩ := I.list hq
    have hlen := r'.length
    obtain ⟨o, ho, hc, n, hd⟩ := pl.isList
    exact call_list_seq p (.inl rfl) ho hc hd (fun h' c' kp e => fin its r' hz h' c' kp e) (by simp only [List.size_toArray] <;> omega)
  · obtain ⟨its, r', pl, hz⟩ := I.tuple hq
    have hlen := r'.length
    obtain ⟨o, ho, hc, n, hd⟩ := pl
    exact call_list_seq p (.inr rfl) ho hc hd (fun h' c' kp e => fin its r' hz h' c' kp e) (by simp only [List.size_toArray] <;> omega)
/-! ### the call of a builtin's method: o.m(..) -/
/-- the value is of that builtin type -/
def tyV (K : PySem.W.Frag) (T : String) (x : V) (H : Hp) : Prop := match x with
  | .str _ => T = "str"
  | .int _ => T = "int"
  | .ref p => (T = "list" ∧ ∃ xs, SqL K H p xs) ∨ (T = "tuple" ∧ ∃ o, K.lookup p = some o ∧ o.cls = .type "tuple" ∧ o.dict = none) ∨
      (T = "dict" ∧ ((∃ kvs, H p = some (.dK kvs)) ∨ ∃ kvs, H p = some (.dT kvs))) ∨ (T = "set" ∧ ∃ S n, H p = some (.set S n))
  | _ => False
theorem tyV_is {pins : List (Addr × Obj)} {σ : St} {H : Hp} {s : Shared} {T : String} {x : V} {v : Value} (I : Inv X pins σ H s) (r : RelV x v) (ty : tyV X.K T x H) :
    s.TypeIs v T ∧ ∀ a, v = .ref a → ∃ ob, s.heap.get? a = some ob ∧ ob.dict = none := by
  cases x with
  | str z =>
    obtain ⟨t, rfl⟩ := r
    cases (show T = "str" from ty)
    exact ⟨typeIs_str s z t, fun _ e => nomatch e⟩
  | int i =>
    obtain ⟨t, rfl⟩ := r
    cases (show T = "int" from ty)
    exact ⟨typeIs_int s i t, fun _ e => nomatch e⟩
  | ref p =>
    cases r
    rcases ty with ⟨rfl, xs, hq⟩ | ⟨rfl, o, hk, hc, hd⟩ | ⟨rfl, hk⟩ | ⟨rfl, S, n, hk⟩
    · obtain ⟨its, _, pl, _⟩ := I.list hq
      refine ⟨pl.isList.typeIs, fun a e => ?_⟩
      cases e
      obtain ⟨o, n, e, c, hd, _⟩ := pl
      exact ⟨o, e, hd⟩
    · refine ⟨⟨o, I.kIn p o hk, hc⟩, fun a e => ?_⟩
      cases e
      exact ⟨o, I.kIn _ o hk, hd⟩
    · have z : ∃ o, s.heap.get? p = some o ∧ o.ExactDict := by
        rcases hk with ⟨kvs, hk⟩ | ⟨kvs, hk⟩
        · obtain ⟨_, _, _, _, o, _, _, e, ex, _⟩ := I.hok p _ hk
          exact ⟨o, e, ex⟩
        · obtain ⟨_, _, _, _, o, _, _, e, ex, _⟩ := I.hok p _ hk
          exact ⟨o, e, ex⟩
      obtain ⟨o, e, ex⟩ := z
      refine ⟨⟨o, e, ex.1⟩, fun a e2 => ?_⟩
      cases e2
      exact ⟨o, e, ex.2.1⟩
    · obtain ⟨o, _, _, _, e, ex, _⟩ := I.hok p _ hk
      refine ⟨⟨o, e, ex.1⟩, fun a e2 => ?_⟩
      cases e2
      exact ⟨o, e, ex.2.1⟩
  | _ => exact False.elim ty
def tBM (K : PySem.W.Frag) (T : String) (r : V → List V → Hp → VK → Prop) (to : TE) (t : TA) : TE := fun σ H Q => to σ H fun x H1 => tyV K T x H1 ∧ t σ H1 fun xs H2 => r x xs H2 Q
variable {o e : Expr} {es : List Expr} {to : TE} {t : TA} {name : Str} {apos cpos : Pos} {T id : String} {r : V → List V → Hp → VK → Prop}
theorem pe_bm (pa : PlainAttrs T) (slot : Slot T name id) (hty : typeOf (.builtin id) = pure (.type "method_descriptor")) (hm : MtR X id r) (ho : PE X o to) (ha : PA X (e :: es) t)
    (hbase : attributeBase o name X.env (eval o X.env) = eval o X.env := by rfl)
    (hfew : ((backTo cpos (starEach (e :: es) X.env)).all (fun x => !x.1) && (backToKw cpos (keywordEach [] X.env)).all (fun x => x.1.isSome)
      && decide ((e :: es).length + ([] : List Keyword).length + (if ([] : List Keyword).isEmpty then 0 else 1) < 30)) = true := by rfl)
    (hline : (apos.endLine == cpos.line) = true := by rfl) (hs : starEach (e :: es) X.env = (false, eval e X.env) :: starEach es X.env := by rfl) (hplain : (backTo cpos (starEach es X.env)).any (·.1) = false := by rfl) :
    PE X (.Call (.Attribute o name apos) (e :: es) [] cpos) (tBM X.K T r to t) := by
  constructor; intro pins s σ H Q I h
  refine wpAny_Call_method_late hbase hfew hline rfl (thn (ho pins s σ H _ I h) fun v s1 ⟨x, H1, I1, r1, ty, q1⟩ => ?_)
  obtain ⟨h1, h2⟩ := tyV_is I1 r1 ty
  refine ⟨T, id, pa, slot, hty, h1, h2, ?_⟩
  have hA := ha cpos pins s1 σ H1 _ I1 q1
  rw [hs] at hA ⊢
  refine Calls.callWith_builtin (by show (false || (backTo cpos (starEach es X.env)).any (·.1)) = false; rw [hplain] <;> rfl) (Calls.evalArgs_plain ?_)
  exact thn hA fun us s2 ⟨vs, H2, I2, r2, q2⟩ => hm pins s2 σ H2 x vs v us Q I2 r1 r2 q2
/- xs.append(e), list.index on a module's tuple .. are MtR facts of 06m -/
end
end L2

namespace L2
open PySem PySem.Spec PyProof.Rows

def MtM (X : Cx) (id : String) (r : V → List V → Hp → VK → Prop) : Prop :=
  ∀ (pins : List (Addr × Obj)) (s : Shared) (σ : St) (H : Hp) (x : V) (xs : List V) (v : Value) (us : List Value) (Q : VK), Inv X pins σ H s → RelV x v → Vals xs us → r x xs H Q →
    wpAny (model X.prog X.w) X.A (call (.builtin id) (v :: us)) (EP X pins σ Q) X.xe s

/-! ### lists of values -/
theorem Vals.one : ∀ {x : V} {us : List Value}, Vals [x] us → ∃ u, us = [u] ∧ RelV x u
  | _, _, .cons r .nil => ⟨_, rfl, r⟩
section
variable {X : Cx} {pins : List (Addr × Obj)} {σ : St} {H : Hp} {s : Shared} {l b : Addr} {xs ys zs : List V}

/-! ### the two steps: a tracked list is rewritten, a new list is laid -/
theorem Inv.lset {its its' : List Value} {n : Nat} {f : Array Value → Array Value} {t' : Nat} (I : Inv X pins σ H s) (hH : H l = some (.lst xs))
    (e : s.heap.get? l = some { cls := .type "list", data := .seq its.toArray n }) (hf : f its.toArray = its'.toArray) (hv : Vals ys its') (hz : ys.length ≤ sizeLine) :
    Inv X pins σ (upd H l (.lst ys)) { s with heap := s.heap.update l (Obj.mapSeq f), toks := t' } := by
  have q := PySem.IsL.update e f
  rw [hf] at q
  refine I.write (x := l) (e := l) (by rw [hH]; exact trivial) (.inl rfl) (fun b' u hb hu => (Heap.get?_update_other s.heap (Obj.mapSeq f) (Ne.symm hb)).trans hu) ⟨_, q⟩ ?_
  exact ⟨hz, its', _, hv, q⟩
theorem Inv.lstM (I : Inv X pins σ H s) (hH : H l = some (.lst xs)) : xs.length ≤ sizeLine ∧ ∃ (its : List Value) (n : Nat), Vals xs its ∧ xs.length = its.length ∧ s.heap.get? l = some { cls := .type "list", data := .seq its.toArray n } := by
  obtain ⟨z, its, n, r, e⟩ := I.hok l _ hH
  exact ⟨z, its, n, r, r.length, e⟩

end

section
variable {X : Cx}

/-! ### methods -/
def rAppend : V → List V → Hp → VK → Prop := fun x vs H Q => ∃ l xs y, x = .ref l ∧ vs = [y] ∧ H l = some (.lst xs) ∧ xs.length < sizeLine ∧ Q .non (upd H l (.lst (xs ++ [y])))
theorem mt_append : MtM X "list.append" rAppend := by
  intro pins s σ H x vs v us Q I rx rv h
  obtain ⟨l, xs, y, rfl, rfl, hH, hz, q⟩ := h
  cases rx
  obtain ⟨u, rfl, ru⟩ := rv.one
  obtain ⟨z, its, n, r, hl, e⟩ := I.lstM hH
  refine call_meets F.slot_list_append ⟨_, e, rfl⟩ F.entry_list_append (F.args_list_append_2 _ _) (PySem.list_append l its.toArray n u (by rw [List.size_toArray]; omega)) ⟨e, ?_⟩
  refine ⟨.non, _, I.lset (its' := its ++ [u]) hH e (by simp) (r.append (.cons ru .nil)) ?_, rfl, q⟩
  rw [List.length_append, List.length_singleton]
  omega

/-! ### list + list, list += list, list * int -/
/-! ### del xs[i] -/
end

/-! ### xs[a:b] = ys -/
section
variable {prog : Program} {w : World} {A : Around} {E : Value → Shared → Prop} {s : Shared}
end

section
variable {X : Cx}
end
end L2

namespace L2
open PySem PySem.Spec PyProof.Rows

/-! ### lists of pairs as tables -/
section
variable {κ : Type} [DecidableEq κ]
def valV (kvs : List (κ × V)) (k : κ) : Option V := (kvs.find? fun kv => decide (kv.1 = k)).map (·.2)
/-- in its place, or at the end -/
def putK (kvs : List (κ × V)) (k : κ) (v : V) : List (κ × V) :=
  if (kvs.any fun kv => decide (kv.1 = k)) = true then kvs.map (fun kv => if kv.1 = k then (kv.1, v) else kv) else kvs ++ [(k, v)]
def dropK (kvs : List (κ × V)) (k : κ) : List (κ × V) := kvs.filter fun kv => decide (kv.1 ≠ k)

theorem valV_pos {p : κ × V} {r : List (κ × V)} {k : κ} (e : p.1 = k) : valV (p :: r) k = some p.2 := by simp [valV, List.find?_cons, e]
theorem valV_neg {p : κ × V} {r : List (κ × V)} {k : κ} (e : ¬ p.1 = k) : valV (p :: r) k = valV r k := by simp [valV, List.find?_cons, e]
theorem valV_any (k : κ) : ∀ kvs : List (κ × V), (kvs.any fun kv => decide (kv.1 = k)) = (valV kvs k).isSome
  | [] => rfl
  | p :: r => by
    rw [List.any_cons]
    by_cases e : p.1 = k
    · simp only [valV_pos e, decide_eq_true e, Bool.true_or, Option.isSome_some]
    · rw [valV_neg e, decide_eq_false e, Bool.false_or]; exact valV_any k r
theorem length_putK (kvs : List (κ × V)) (k : κ) (v : V) : (putK kvs k v).length ≤ kvs.length + 1 := by
  unfold putK
  split
  · rw [List.length_map]; omega
  · rw [List.length_append, List.length_cons, List.length_nil]; omega
theorem RelO.isSome_eq {o : Option V} {u : Option Value} (r : RelO o u) : o.isSome = u.isSome := by
  cases o with
  | none => cases u with
    | none => rfl
    | some _ => exact (show False from r).elim
  | some _ => cases u with
    | none => exact (show False from r).elim
    | some _ => rfl
theorem RelO.getD {o : Option V} {u : Option Value} {d : V} {d' : Value} (r : RelO o u) (rd : RelV d d') : RelV (o.getD d) (u.getD d') := by
  cases o with
  | none => cases u with
    | none => exact rd
    | some _ => exact (show False from r).elim
  | some _ => cases u with
    | none => exact (show False from r).elim
    | some _ => exact r

/-- raw tables of the same keys -/
theorem KV.val {kvs : List (κ × V)} {vs : List (κ × Value)} (r : KV kvs vs) (k : κ) : RelO (valV kvs k) (valueAt vs k) := by
  unfold KV at r
  induction r with
  | nil => exact True.intro
  | @cons p q ps qs h t ih =>
    obtain ⟨h1, h2⟩ := h
    by_cases e : p.1 = k
    · have e' : q.1 = k := h1.symm.trans e
      have b : valueAt (q :: qs) k = some q.2 := by simp [valueAt, List.find?_cons, e']
      rw [valV_pos e, b]; exact h2
    · have e' : ¬ q.1 = k := fun z => e (h1.trans z)
      have b : valueAt (q :: qs) k = valueAt qs k := by simp [valueAt, List.find?_cons, e']
      rw [valV_neg e, b]; exact ih
theorem KV.any {kvs : List (κ × V)} {vs : List (κ × Value)} (r : KV kvs vs) (k : κ) : (kvs.any fun kv => decide (kv.1 = k)) = vs.any fun kv => decide (kv.1 = k) := by
  unfold KV at r
  induction r with
  | nil => rfl
  | cons h t ih => rw [List.any_cons, List.any_cons, ih, h.1]
theorem KV.repl {kvs : List (κ × V)} {vs : List (κ × Value)} (r : KV kvs vs) (k : κ) {y : V} {u : Value} (ry : RelV y u) :
    KV (kvs.map fun kv => if kv.1 = k then (kv.1, y) else kv) (vs.map fun kv => if kv.1 = k then (kv.1, u) else kv) := by
  unfold KV at r ⊢
  induction r with
  | nil => exact .nil
  | @cons p q ps qs h t ih =>
    rw [List.map_cons, List.map_cons]
    refine .cons ?_ ih
    obtain ⟨h1, h2⟩ := h
    by_cases e : p.1 = k
    · rw [if_pos e, if_pos (h1.symm.trans e)]; exact ⟨h1, ry⟩
    · rw [if_neg e, if_neg (fun z => e (h1.trans z))]; exact ⟨h1, h2⟩
theorem KV.put {kvs : List (κ × V)} {vs : List (κ × Value)} (r : KV kvs vs) (k : κ) {y : V} {u : Value} (ry : RelV y u) : KV (putK kvs k y) (stored vs k u) := by
  unfold putK stored
  rw [r.any k]
  by_cases e : (vs.any fun kv => decide (kv.1 = k)) = true
  · rw [if_pos e, if_pos e]; exact r.repl k ry
  · rw [if_neg e, if_neg e]; exact Paired.snoc r ⟨rfl, ry⟩
theorem KV.keys {kvs : List (κ × V)} {vs : List (κ × Value)} (r : KV kvs vs) : kvs.map (·.1) = vs.map (·.1) := by
  unfold KV at r
  induction r with
  | nil => rfl
  | cons h t ih => rw [List.map_cons, List.map_cons, ih, h.1]
theorem KV.length {kvs : List (κ × V)} {vs : List (κ × Value)} (r : KV kvs vs) : kvs.length = vs.length := Paired.length r
end


/-! ### a tracked dict, its keys ints and texts or tuples of these -/
theorem kV_is {P : Program} {w : World} {k : Key} {u : Value} (r : RelV (kV k) u) : (mixKind P w).is k u = true := by
  cases k with
  | inl i => obtain ⟨t, e⟩ := (show ∃ t, u = Value.int i t from r); subst e; exact mixKind_int P w i t
  | inr x => obtain ⟨t, e⟩ := (show ∃ t, u = Value.str x t from r); subst e; exact mixKind_str P w x t
theorem items_are {P : Program} {w : World} : ∀ {ks : List Key} {us : List Value}, Vals (ks.map kV) us → ItemsAre (mixKind P w) ks us
  | [], _, r => by rw [List.map_nil] at r; cases r; exact .nil
  | k :: ks, _, r => by
    rw [List.map_cons] at r
    cases r with
    | cons h t => exact .cons (kV_is h) (items_are t)

/-- raw entries of a dict with tuple keys -/
abbrev KT (H : Hp) : List (List Key × V) → List (List Key × Addr × Value) → Prop := Paired fun p q => p.1 = q.1 ∧ H q.2.1 = some (.tup (p.1.map kV)) ∧ RelV p.2 q.2.2
theorem KT.val {H : Hp} {kvs : List (List Key × V)} {xs : List (List Key × Addr × Value)} (r : KT H kvs xs) (k : List Key) : RelO (valV kvs k) ((atKey xs k).map (·.2)) := by
  induction r with
  | nil => exact True.intro
  | @cons p q ps qs h t ih =>
    obtain ⟨h1, _, h2⟩ := h
    by_cases e : p.1 = k
    · have e' : q.1 = k := h1.symm.trans e
      have b : atKey (q :: qs) k = some q.2 := by simp [atKey, List.find?_cons, e']
      rw [valV_pos e, b]; exact h2
    · have e' : ¬ q.1 = k := fun z => e (h1.trans z)
      have b : atKey (q :: qs) k = atKey qs k := by simp [atKey, List.find?_cons, e']
      rw [valV_neg e, b]; exact ih
theorem KT.repl {H : Hp} {kvs : List (List Key × V)} {xs : List (List Key × Addr × Value)} (r : KT H kvs xs) (k : List Key) {y : V} {u : Value} (ry : RelV y u) :
    KT H (kvs.map fun kv => if kv.1 = k then (kv.1, y) else kv) (xs.map (putAt k u)) := by
  induction r with
  | nil => exact .nil
  | @cons p q ps qs h t ih =>
    rw [List.map_cons, List.map_cons]
    refine .cons ?_ ih
    obtain ⟨h1, h2, h3⟩ := h
    unfold putAt
    by_cases e : p.1 = k
    · rw [if_pos e, if_pos (h1.symm.trans e)]; exact ⟨h1, h2, ry⟩
    · rw [if_neg e, if_neg (fun z => e (h1.trans z))]; exact ⟨h1, h2, h3⟩
theorem KT.put {H : Hp} {kvs : List (List Key × V)} {xs : List (List Key × Addr × Value)} (r : KT H kvs xs) (k : List Key) {b : Addr} {y : V} {u : Value} (hb : H b = some (.tup (k.map kV))) (ry : RelV y u) :
    KT H (putK kvs k y) (storedH xs k b u) := by
  have e : (kvs.any fun kv => decide (kv.1 = k)) = (atKey xs k).isSome := by
    rw [valV_any, (r.val k).isSome_eq, Option.isSome_map]
  unfold putK storedH
  rw [e]
  by_cases q : (atKey xs k).isSome = true
  · rw [if_pos q, if_pos q]; exact r.repl k ry
  · rw [if_neg q, if_neg q]; exact Paired.snoc r ⟨rfl, hb, ry⟩
theorem KT.keeps {H H' : Hp} {kvs : List (List Key × V)} {xs : List (List Key × Addr × Value)} (r : KT H kvs xs) (ht : ∀ b ys, H b = some (.tup ys) → H' b = some (.tup ys)) : KT H' kvs xs :=
  Paired.mapP r fun _ _ z => ⟨z.1, ht _ _ z.2.1, z.2.2⟩

section
variable {P : Program} {w : World} {H : Hp} {h : Heap} {a : Addr}
theorem rd_of {u : HO} (ok : HOk P w H h) (e : Rd H a u) : ObjOk P w H h a u := e.ok ok
theorem dk_rd {kvs : List (Key × V)} (ok : HOk P w H h) (e : Rd H a (.dK kvs)) : kvs.length ≤ sizeLine ∧ (a == sysModules) = false ∧ ∃ vs, KV kvs vs ∧ h.DictOf (mixKind P w) a vs :=
  show ObjOk P w H h a (.dK kvs) from rd_of ok e
theorem dk_of {kvs : List (Key × V)} (ok : HOk P w H h) (e : H a = some (.dK kvs)) : kvs.length ≤ sizeLine ∧ (a == sysModules) = false ∧ ∃ vs, KV kvs vs ∧ h.DictOf (mixKind P w) a vs := dk_rd ok (.inl e)
/-- a tracked tuple of ints and texts is a key -/
theorem key_of {ks : List Key} (ok : HOk P w H h) (e : H a = some (.tup (ks.map kV))) : (tupleKind (mixKind P w)).is h ks a := by
  obtain ⟨_, its, r, o, h1, h2, n, h3⟩ := (show ObjOk P w H h a (.tup (ks.map kV)) from ok a _ e)
  exact ⟨o, its.toArray, n, h1, h2, h3, by simpa using items_are r⟩
theorem dt_rd {kvs : List (List Key × V)} (ok : HOk P w H h) (e : Rd H a (.dT kvs)) : kvs.length ≤ sizeLine ∧ (a == sysModules) = false ∧
    ∃ xs, KT H kvs xs ∧ h.DictOfH (tupleKind (mixKind P w)) a xs := by
  obtain ⟨z, y, xs, r, o, es, ep, h1, h2, h3, h4, h5⟩ := (show ObjOk P w H h a (.dT kvs) from rd_of ok e)
  refine ⟨z, y, xs, r, o, es, ep, h1, h2, h3, h4, fun x hx => ?_, h5⟩
  have all : ∀ {l : List (List Key × V)} {m : List (List Key × Addr × Value)}, KT H l m → ∀ x ∈ m, (tupleKind (mixKind P w)).is h x.1 x.2.1 := by
    intro l m q
    induction q with
    | nil => intro x hx; exact nomatch hx
    | @cons p q ps qs hq t ih =>
      intro x hx
      rcases List.mem_cons.mp hx with e | hx
      · subst e
        exact key_of ok (by rw [← hq.1]; exact hq.2.1)
      · exact ih x hx
  exact all r x hx
theorem dt_of {kvs : List (List Key × V)} (ok : HOk P w H h) (e : H a = some (.dT kvs)) : kvs.length ≤ sizeLine ∧ (a == sysModules) = false ∧
    ∃ xs, KT H kvs xs ∧ h.DictOfH (tupleKind (mixKind P w)) a xs := dt_rd ok (.inl e)
end

/-- what the dict at a holds at the key y -/
def DGet (H : Hp) (a : Addr) (y : V) (r : Option V) : Prop :=
  (∃ kvs k, Rd H a (.dK kvs) ∧ y = kV k ∧ r = valV kvs k) ∨ ∃ kvs k b, Rd H a (.dT kvs) ∧ y = .ref b ∧ H b = some (.tup (k.map kV)) ∧ r = valV kvs k
/-- the heap behind a[y] = v -/
def DPut (H : Hp) (a : Addr) (y v : V) (H' : Hp) : Prop :=
  (∃ kvs k, H a = some (.dK kvs) ∧ y = kV k ∧ kvs.length < sizeLine ∧ H' = upd H a (.dK (putK kvs k v))) ∨
  ∃ kvs k b, H a = some (.dT kvs) ∧ y = .ref b ∧ H b = some (.tup (k.map kV)) ∧ kvs.length < sizeLine ∧ H' = upd H a (.dT (putK kvs k v))
theorem DGet.k {H : Hp} {a : Addr} {kvs : List (Key × V)} {k : Key} (e : H a = some (.dK kvs)) : DGet H a (kV k) (valV kvs k) := .inl ⟨kvs, k, .inl e, rfl, rfl⟩
theorem DPut.k {H : Hp} {a : Addr} {kvs : List (Key × V)} {k : Key} {v : V} (e : H a = some (.dK kvs)) (hl : kvs.length < sizeLine) : DPut H a (kV k) v (upd H a (.dK (putK kvs k v))) := .inl ⟨kvs, k, e, rfl, hl, rfl⟩
section
variable {X : Cx} {pins : List (Addr × Obj)} {σ : St} {H : Hp} {s : Shared} {a : Addr} {y v : V} {u r : Value} {o : Option V} {A : Around} {E : Value → Shared → Prop}

theorem Inv.big (I : Inv X pins σ H s) : sysModules < s.heap.objs.size := by
  have h : mainGlobals < s.heap.objs.size := (I.mod.glob.keeps I.bk).lt
  exact Nat.lt_trans (by decide) h

/-- d[y], there -/
theorem d_getItem {Q : Value → Shared → Prop} (hu : A.units + 1 < cLine) (I : Inv X pins σ H s) (g : DGet H a y (some v)) (ry : RelV y u) (h : ∀ w' s', Inv X pins σ H s' → RelV v w' → Q w' s') :
    wpAny (model X.prog X.w) A (getItem (.ref a) u) Q E s := by
  rcases g with ⟨kvs, k, e, ey, l⟩ | ⟨kvs, k, b, e, ey, eb, l⟩
  · subst ey
    obtain ⟨z, hd, vs, rel, dd⟩ := dk_rd I.hok e
    obtain ⟨w', hw, rw'⟩ := RelO.some_of (v := v) (o := valueAt vs k) (by rw [l]; exact rel.val k)
    exact wpAny_getItem_of (kV_is ry) dd.mapOf hw (h w' _ (I.tok _) rw')
  · subst ey
    cases (show u = Value.ref b from ry)
    obtain ⟨z, hd, xs, rel, dd⟩ := dt_rd I.hok e
    obtain ⟨w', hw, rw'⟩ := RelO.some_of (v := v) (o := (atKey xs k).map (·.2)) (by rw [l]; exact rel.val k)
    obtain ⟨p, hp, hp2⟩ := Option.map_eq_some_iff.mp hw
    refine wpAny_getItem_heap (tupleKind_room_in1 hu) (key_of I.hok eb) dd hp ?_
    rw [hp2]
    exact h w' _ (I.tok _) rw'
/-- a dict's object is replaced -/
theorem d_write {h' : Heap} {t' : Nat} {ob : HO} (I : Inv X pins σ H s) (mu : Mut (H a)) (hs : Heap.SameBut a s.heap h') (he : ∃ q, h'.get? a = some q) (new : ObjOk X.prog X.w (upd H a ob) h' a ob) :
    Inv X pins σ (upd H a ob) { s with heap := h', toks := t' } :=
  I.write (x := a) (e := a) mu (.inl rfl) (fun b q hb z => (hs.2 b hb).trans z) he new
theorem dk_new {P : Program} {w : World} {H' : Hp} {h' : Heap} {kvs : List (Key × V)} {vs : List (Key × Value)} (z : kvs.length ≤ sizeLine) (hd : (a == sysModules) = false) (rel : KV kvs vs) (dd : h'.DictOf (mixKind P w) a vs) :
    ObjOk P w H' h' a (.dK kvs) := ⟨z, hd, vs, rel, dd⟩
/-- d[y] = v -/
theorem d_setItem {H' : Hp} {Q : Unit → Shared → Prop} (hu : A.units + 1 < cLine) (I : Inv X pins σ H s) (g : DPut H a y v H') (ry : RelV y u) (rv : RelV v r) (h : ∀ s', Inv X pins σ H' s' → Q () s') :
    wpAny (model X.prog X.w) A (setItem (.ref a) u r) Q E s := by
  rcases g with ⟨kvs, k, e, ey, l, eH⟩ | ⟨kvs, k, b, e, ey, eb, l, eH⟩
  · subst ey eH
    obtain ⟨z, hd, vs, rel, dd⟩ := dk_of I.hok e
    have hz : vs.length ≤ sizeLine := by rw [← rel.length]; exact z
    have hl : (putK kvs k v).length ≤ sizeLine := by have := length_putK kvs k v; omega
    refine wpAny_setItem_pairs (hsz := hz) (kV_is ry) dd fun h' dd' hs => h _ ?_
    have he : ∃ q, h'.get? a = some q := let ⟨q, _, _, hq, _⟩ := dd'; ⟨q, hq⟩
    exact d_write I (by rw [e]; exact True.intro) hs he (dk_new hl hd (rel.put k rv) dd')
  · subst ey eH
    cases (show u = Value.ref b from ry)
    obtain ⟨z, hd, xs, rel, dd⟩ := dt_of I.hok e
    have hz : xs.length ≤ sizeLine := by rw [← Paired.length rel]; exact z
    have hl : (putK kvs k v).length ≤ sizeLine := by have := length_putK kvs k v; omega
    refine wpAny_setItem_heap (hsz := hz) (tupleKind_room_in1 hu) (key_of I.hok eb) dd fun h' dd' hs => h _ ?_
    obtain ⟨q, es, ep, hq, h2, h3, h4, _, h5⟩ := dd'
    refine d_write I (by rw [e]; exact True.intro) hs ⟨q, hq⟩ ⟨hl, hd, _, (rel.put k eb rv).keeps fun c ys ec => ?_, q, es, ep, hq, h2, h3, h4, h5⟩
    rw [upd_ne (ne_of ec e (fun z => nomatch z))]
    exact ec
end

section
variable {X : Cx} {pins : List (Addr × Obj)} {σ : St} {H : Hp} {s : Shared} {a : Addr} {kvs : List (Key × V)} {k : Key} {u : Value} {A : Around} {E : Value → Shared → Prop}
end


/-! ### readings and rules -/
/-- the element of a subscription, not a slice -/
def NoSl (i : Expr) : Prop := ∀ ov iv, subscripted i false ov iv = operate [ov, iv] (getItem ov iv)
theorem subD_of {prog : Program} {w : World} {A : Around} {E : Value → Shared → Prop} {s : Shared} {env : Env} {value slice : Expr} {pos : Pos} {T id : String} {Q : Value → Shared → Prop}
    (hl : typeLookup (.type T) "__getitem__" = pure (some (.builtin id))) (hs : NoSl slice)
    (h : wpAny (model prog w) A (eval value env) (fun o s₁ => wpAny (model prog w) A (eval slice env) (fun i s₂ => s₂.TypeIs o T ∧ wpAny (model prog w) A (getItem o i) Q E s₂) E s₁) E s) :
    wpAny (model prog w) A (eval (.Subscript value slice pos) env) Q E s := by
  refine Subscript_ (wpAny_mono h (fun o s₁ h₁ => wpAny_mono h₁ (fun i s₂ h₂ => ?_) fun _ _ x => x) fun _ _ x => x)
  obtain ⟨hT, h₂⟩ := h₂
  unfold subscriptTail
  refine wpAny_bind ?_
  rw [getitemInPython_of_ne hT.not_modules]
  refine wpAny_bind (wpAny_specialOf hT hl ?_)
  have fin : wpAny (model prog w) A (subscripted slice false o i) (fun r s₃ => wpAny (model prog w) A (letTemporaryGo value o r >>= fun _ => pure r) Q E s₃) E s₂ := by
    rw [hs o i]
    exact wpAny_operating (wpAny_mono h₂ (fun r s₃ h₃ => wpAny_bind (wpAny_letTemporaryGo (wpAny_pure h₃))) fun _ _ x => x)
  first
    | exact wpAny_pure (wpAny_bind fin)
    | exact wpAny_bind (wpAny_pure (wpAny_bind fin))
    | exact wpAny_bind fin

theorem dict_typeIs {X : Cx} {pins : List (Addr × Obj)} {σ : St} {H : Hp} {s : Shared} {a : Addr} {y : V} {o : Option V} (I : Inv X pins σ H s) (g : DGet H a y o) : s.TypeIs (.ref a) "dict" := by
  rcases g with ⟨kvs, k, e, _, _⟩ | ⟨kvs, k, b, e, _, _, _⟩
  · obtain ⟨_, _, vs, _, dd⟩ := dk_rd I.hok e
    exact dd.typeIs
  · obtain ⟨_, _, xs, _, dd⟩ := dt_rd I.hok e
    exact dd.typeIs
/-- d[y] -/
def tDGet (td ty : TE) : TE := fun σ H Q => td σ H fun x H1 => ty σ H1 fun y H2 => ∃ a v, x = .ref a ∧ DGet H2 a y (some v) ∧ Q v H2
/-- d[y] = v -/
def sDPut (td ty tv : TE) : TS := fun D σ H => tv σ H fun v H1 => td σ H1 fun x H2 => ty σ H2 fun y H3 => ∃ a H4, x = .ref a ∧ DPut H3 a y v H4 ∧ D.nx σ H4
section
variable {X : Cx} {o i e value : Expr} {pos pos' tpos : Pos} {td ty tv : TE}
theorem pe_dget (hu : X.A.units + 1 < cLine) (ho : PE X o td) (hi : PE X i ty) (hs : NoSl i) : PE X (.Subscript o i pos) (tDGet td ty) := by
  constructor; intro pins s σ H Q I h
  refine subD_of PySem.F.slot_dict_getitem.lookup hs (thn (ho pins s σ H _ I h) fun u s1 ⟨x, H1, I1, rx, q1⟩ => thn (hi pins s1 σ H1 _ I1 q1) fun iv s2 ⟨y, H2, I2, ry, a, v, ex, g, q2⟩ => ?_)
  subst ex
  obtain rfl : u = Value.ref a := rx
  exact ⟨dict_typeIs I2 g, d_getItem hu I2 g ry fun w' s3 I3 rw' => ⟨v, H2, I3, rw', q2⟩⟩
theorem ps_dput (hu : X.A.units + 1 < cLine) (ho : PE X o td) (hi : PE X i ty) (hv : PE X value tv) (hs : swapsWith value (some (.Subscript o i pos')) pos.line X.env = pure false) :
    PS X (.Assign [.Subscript o i pos'] value pos) (sDPut td ty tv) := by
  constructor; intro pins s σ H D I h
  refine wpAny_Assign_Subscript (thn (hv pins s σ H _ I h) fun r s1 ⟨v, H1, I1, rv, q1⟩ => thn (ho pins s1 σ H1 _ I1 q1) fun u s2 ⟨x, H2, I2, rx, q2⟩ => thn (hi pins s2 σ H2 _ I2 q2) fun iv s3 ⟨y, H3, I3, ry, a, H4, ex, g, q3⟩ => ?_) hs
  subst ex
  obtain rfl : u = Value.ref a := rx
  exact d_setItem hu I3 g ry rv fun s4 I4 => ⟨σ, H4, I4, q3⟩
end


/-! ### displays -/
theorem dk_empty {P : Program} {w : World} {H : Hp} (h : Heap) (hb : sysModules < h.objs.size) : ObjOk P w H (h.push { cls := .type "dict", data := .dict #[] }) h.objs.size (.dK []) :=
  ⟨Nat.zero_le _, beq_eq_false_iff_ne.mpr (Ne.symm (Nat.ne_of_lt hb)), [], .nil, Heap.DictOf.new h⟩
/-- {}, to be a dict of the kind that is wanted -/
def tDNewK : TE := fun _ H Q => ∀ p, H p = none → Q (.ref p) (upd H p (.dK []))
section
variable {X : Cx} {pos : Pos}
theorem pe_dnewK : PE X (.Dict [] [] pos) tDNewK := ⟨fun pins s σ H Q I h =>
  wpAny_Dict_empty ⟨.ref s.heap.objs.size, _, I.laid (a := s.heap.objs.size) (o := .dK []) (t' := s.toks) (fun _ _ q => Heap.get?_push_of_some _ q) (Nat.le_refl _) (dk_empty s.heap I.big), rfl, h _ (I.hok.fresh (Nat.le_refl _))⟩⟩
end

/-! ### methods -/
/-- a method call o.m(e) of a built-in, with one argument: what must be seen of the text -/
structure M1 (X : Cx) (o : Expr) (m : Str) (apos : Pos) (e : Expr) (cpos : Pos) : Prop where
  base : attributeBase o m X.env (eval o X.env) = eval o X.env
  few : ((backTo cpos (starEach [e] X.env)).all (fun x => !x.1) && (backToKw cpos (keywordEach [] X.env)).all (fun x => x.1.isSome)
    && decide (([e] : List Expr).length + ([] : List Keyword).length + (if ([] : List Keyword).isEmpty then 0 else 1) < 30)) = true
  line : (apos.endLine == cpos.line) = true
  trees : backTo cpos (starEach [e] X.env) = [(false, eval e X.env)]
structure M2 (X : Cx) (o : Expr) (m : Str) (apos : Pos) (e f : Expr) (cpos : Pos) : Prop where
  base : attributeBase o m X.env (eval o X.env) = eval o X.env
  few : ((backTo cpos (starEach [e, f] X.env)).all (fun x => !x.1) && (backToKw cpos (keywordEach [] X.env)).all (fun x => x.1.isSome)
    && decide (([e, f] : List Expr).length + ([] : List Keyword).length + (if ([] : List Keyword).isEmpty then 0 else 1) < 30)) = true
  line : (apos.endLine == cpos.line) = true
  trees : backTo cpos (starEach [e, f] X.env) = [(false, eval e X.env), (false, eval f X.env)]

/-- a is a dict, whatever its keys -/
def IsD (H : Hp) (a : Addr) : Prop := (∃ kvs, Rd H a (.dK kvs)) ∨ ∃ kvs, Rd H a (.dT kvs)
theorem isD_at {X : Cx} {pins : List (Addr × Obj)} {σ : St} {H : Hp} {s : Shared} {a : Addr} (I : Inv X pins σ H s) (d : IsD H a) :
    s.TypeIs (.ref a) "dict" ∧ (∀ b, Value.ref a = .ref b → ∃ ob, s.heap.get? b = some ob ∧ ob.dict = none) ∧ (a == sysModules) = false := by
  rcases d with ⟨kvs, e⟩ | ⟨kvs, e⟩
  · obtain ⟨_, hd, vs, _, dd⟩ := dk_rd I.hok e
    refine ⟨dd.typeIs, fun b q => ?_, hd⟩
    cases q
    obtain ⟨ob, _, _, h1, h2, _⟩ := dd
    exact ⟨ob, h1, h2.2.1⟩
  · obtain ⟨_, hd, xs, _, dd⟩ := dt_rd I.hok e
    refine ⟨dd.typeIs, fun b q => ?_, hd⟩
    cases q
    obtain ⟨ob, _, _, h1, h2, _⟩ := dd
    exact ⟨ob, h1, h2.2.1⟩

section
variable {X : Cx} {pins : List (Addr × Obj)} {σ : St} {H : Hp} {s : Shared} {a : Addr} {y d : V} {u r : Value} {o : Option V} {A : Around} {E : Value → Shared → Prop}
/-- d.get(y, x) -/
theorem d_get2 {Q : Value → Shared → Prop} (hu : A.units + 1 < cLine) (I : Inv X pins σ H s) (g : DGet H a y o) (ry : RelV y u) (rd : RelV d r) (h : ∀ w' s', Inv X pins σ H s' → RelV (o.getD d) w' → Q w' s') :
    wpAny (model X.prog X.w) A (call (.builtin "dict.get") [.ref a, u, r]) Q E s := by
  rcases g with ⟨kvs, k, e, ey, l⟩ | ⟨kvs, k, b, e, ey, eb, l⟩
  · subst ey
    obtain ⟨z, hd, vs, rel, dd⟩ := dk_rd I.hok e
    refine call_meetsIn PySem.F.slot_dict_get dd.typeIs PySem.F.entry_dict_get (PySem.F.args_dict_get_3 _ _ _) (meets_dict_get_default (mixKind X.prog X.w) a (kV_is ry) hd r) ⟨_, dd.mapOf, h _ _ (I.tok _) ?_⟩
    rw [l]
    exact (rel.val k).getD rd
  · subst ey
    cases (show u = Value.ref b from ry)
    obtain ⟨z, hd, xs, rel, dd⟩ := dt_rd I.hok e
    refine call_meetsIn PySem.F.slot_dict_get dd.typeIs PySem.F.entry_dict_get (PySem.F.args_dict_get_3 _ _ _) (meetsH_dict_get_default (tupleKind (mixKind X.prog X.w)) a b hd r) ⟨tupleKind_room_in1 hu, k, xs, key_of I.hok eb, dd, h _ _ (I.tok _) ?_⟩
    rw [l]
    exact (rel.val k).getD rd
end

def tDGet2 (td ty tx : TE) : TE := fun σ H Q => td σ H fun x H1 => ∃ a, x = .ref a ∧ IsD H1 a ∧ ty σ H1 fun y H2 => tx σ H2 fun z H3 => ∃ o, DGet H3 a y o ∧ Q (o.getD z) H3
section
variable {X : Cx} {o e f : Expr} {apos cpos : Pos} {td ty tx : TE}
theorem pe_dget2 (hu : X.A.units + 1 < cLine) (ho : PE X o td) (he : PE X e ty) (hf : PE X f tx) (m : M2 X o "get" apos e f cpos) : PE X (.Call (.Attribute o "get" apos) [e, f] [] cpos) (tDGet2 td ty tx) := by
  constructor; intro pins s σ H Q I h
  refine wpAny_Call_method m.base m.few m.line PySem.F.plainAttrs_dict PySem.F.slot_dict_get PySem.F.type_dict_get (thn (ho pins s σ H _ I h) fun u s1 ⟨x, H1, I1, rx, a, ex, d, q1⟩ => ?_)
  subst ex
  obtain rfl : u = Value.ref a := rx
  obtain ⟨t1, t2, _⟩ := isD_at I1 d
  refine ⟨t1, t2, ?_⟩
  rw [m.trees]
  refine Calls.callWith_builtin rfl (Calls.evalArgs_plain (Calls.spliced_cons (thn (he pins s1 σ H1 _ I1 q1) fun iv s2 ⟨y, H2, I2, ry, q2⟩ =>
    Calls.spliced_cons (thn (hf pins s2 σ H2 _ I2 q2) fun fv s3 ⟨z, H3, I3, rz, ov, g, q3⟩ => Calls.spliced_nil ?_))))
  exact d_get2 hu I3 g ry rz fun w' s4 I4 rw' => ⟨_, H3, I4, rw', q3⟩
end

/-! ### dict(d): a copy -/
section
variable {X : Cx} {pins : List (Addr × Obj)} {σ : St} {H : Hp} {s : Shared} {a : Addr} {kvs : List (Key × V)} {A : Around} {E : Value → Shared → Prop}
theorem d_copyOf {Q : Value → Shared → Prop} (I : Inv X pins σ H s) (e : Rd H a (.dK kvs)) (h : ∀ p s', H p = none → Inv X pins σ (upd H p (.dK kvs)) s' → Q (.ref p) s') : wpAny (model X.prog X.w) A (call (.type "dict") [.ref a]) Q E s := by
  obtain ⟨z, hd, vs, rel, dd⟩ := dk_rd I.hok e
  refine kt_call_dict hd dd (by rw [← rel.length]; exact z) fun h' dd' hs => ?_
  refine h _ _ (I.hok.fresh (Nat.le_refl _)) (I.laid (a := s.heap.objs.size) (o := .dK kvs) (t' := s.toks) (fun b q hq => ?_) (Nat.le_refl _) (dk_new z (beq_eq_false_iff_ne.mpr (Ne.symm (Nat.ne_of_lt I.big))) rel dd'))
  exact (hs.2 b (Nat.ne_of_lt (Heap.lt_size hq))).trans (Heap.get?_push_of_some _ hq)
end


section
variable {X : Cx} {pins : List (Addr × Obj)} {σ : St} {H : Hp} {s : Shared} {a : Addr} {y : V} {u : Value} {A : Around} {E : Value → Shared → Prop}
end
end L2

namespace Att
open PySem PySem.W PySem.Calls PyProof.Rows

/-! ### the script -/
theorem ints_of_wellAll {P : Params} {h : Heap} : ∀ (ns : List Int) (vs : List Value), WellAll P h vs (ns.map WData.int) → IntsAre vs ns := by
  intro ns
  induction ns with
  | nil =>
    intro vs w
    rw [List.map_nil] at w
    cases w
    exact .nil
  | cons n ns ih =>
    intro vs w
    rw [List.map_cons] at w
    cases w with
    | cons a b =>
      cases a
      exact .cons _ _ (ih _ b)

theorem script_of {l : OpenLaw} {n : Nat} (hn : l.most = some n) {P : Params} {h : Heap} {args : List WData} {vals : List Value}
    (hpre : l.row.toRowW.claim.pre args = true) (hwl : WellAll P h vals args) :
    ∃ a vs ns, vals = [Value.ref a] ∧ args = [WData.list (ns.map WData.int)] ∧ h.get? a = some { cls := .type "list", data := .seq vs.toArray } ∧ IntsAre vs ns ∧ ns.length ≤ n := by
  have hsh : WShape.hasAll [] args [.list .int] = true := (pre_splitW hpre).1
  have hc : l.pre.holds [] { args := args } = true := (pre_splitW hpre).2
  obtain ⟨d, r, rfl, h1, h2⟩ := hasAllW_cons hsh
  obtain rfl := hasAllW_nil h2
  obtain ⟨xs, rfl, h3⟩ := hasW_list h1
  obtain ⟨ns, rfl⟩ := items_int h3
  have hlen : ns.length ≤ n := by
    unfold OpenLaw.pre at hc
    have h4 : (WTm.not (.lt (.lit (.int (n : Int))) (.len (.arg 0)))).holds [] { args := [.list (ns.map .int)] } = true := by
      have h4 := (holds_andW hc).1
      rw [hn] at h4
      exact h4
    have h5 := condW_of h4 (w_not (w_lt w_lit (w_len_list (w_arg rfl))))
    rw [List.length_map] at h5
    refine Nat.le_of_not_lt fun q => ?_
    have q' : (n : Int) < ((ns.length : Nat) : Int) := by omega
    first
      | (rw [decide_eq_true q'] at h5; exact absurd h5 (by decide))
      | (simp at h5; omega)
  cases hwl with
  | cons w1 w2 =>
    cases w2
    cases w1 with
    | list ho hall => exact ⟨_, _, ns, rfl, rfl, ho, ints_of_wellAll ns _ hall, hlen⟩

theorem post_true (l : OpenLaw) (args : List WData) : l.row.toRowW.claim.post args (.bool true) args = true :=
  postW_of (r := l.row.toRowW) (X := (true == true))
    (show WShape.has [] (.bool true) .bool = true by first | rfl | decide | simp [WShape.has, WShape.arms, WShape.armsAll])
    (show (WTm.eq .res (.lit (.bool true))).value [] { args := args, res := some (.bool true), after := args } = some (.bool (true == true)) from w_eq_bool (w_res rfl) w_lit) rfl

/-! ### the attachment: holds_open's last premise (the goal 'hc' behind k_head) from a wpAny of the law's body -/
/-! ### rules over ANY heap (no ledger) from facts about the written part K: the library's own take a ledger (News) for what they write -/
section
variable {prog : Program} {w : World} {A : Around} {E : Value → Shared → Prop} {s : Shared} {K : Frag}

/-! the whole heap as the ledger: makes every rule that writes through a ledger a rule over any heap -/
def ledger (h : Heap) (L d : Addr) : List (Addr × Obj) := (List.range h.objs.size).filterMap fun a => if a = L ∨ a = d then none else (h.get? a).map fun o => (a, o)
end
end Att

namespace L2
open PySem PySem.Spec PyProof.Rows

theorem vals_ints : ∀ {vs : List Value} {ns : List Int}, IntsAre vs ns → Vals (ns.map V.int) vs
  | _, _, .nil => .nil
  | _, _, .cons n t h => .cons ⟨t, rfl⟩ (vals_ints h)

/-- nothing is tracked but the script, known to the object (or it is an object of the module) -/
def Only (H : Hp) : Prop := ∀ b, H b = none ∨ ∃ o xs, H b = some (.frz o (.lst xs))

/-- THE HEAD: the law's promise, at the heap behind the top. F, the promise of the law's def, may use that base is part of the heap (so K.In base, base.Ns mainGlobals mg stand in Mod) -/
theorem law_call {P : Program} {w : World} {K : PySem.W.Frag} {mg mb : Str → Option Value} {CX : CXT} {k : Nat} {fa a : Addr} {fd : FuncData} {x : Str} {sp : Sp} {s₁ : Shared} {vs : List Value} {ns : List Int}
    (KX : K.In s₁.heap) (hns : s₁.heap.Ns mainGlobals mg) (hb : s₁.heap.Ns builtinsNs mb) (hbb : ∀ x : Str, x ≠ "__name__" → mb x = bootBuiltins x) (hlim : s₁.heap.NoLimit) (hg : s₁.gens = #[])
    (ha : s₁.heap.get? a = some { cls := .type "list", data := .seq vs.toArray }) (hi : IntsAre vs ns) (hl : ns.length ≤ sizeLine) (hr : Room k callerA)
    (F : ∀ base : Heap, K.In base → base.Ns mainGlobals mg → FnOk P w K mg base CX k fa fd [x] sp) (hbind : ∀ (s : Shared) (u : Value), BindsTo s fd ⟨[u], []⟩ [(x, u)])
    (hsp : ∀ H : Hp, Only H → SqL K H a (ns.map V.int) → sp [.ref a] H (fun v _ => v = .bl true) fun _ _ _ => False)
    (hCX : ∀ H e s', CX [] H s₁ (fun _ _ _ => False) e s' → False) :
    codeAny (model P w) callerA (.call (.ref fa) ⟨[.ref a], []⟩) (fun r s' => r = .ok (.ret (.bool true)) ∧ OldK s₁.heap s'.heap ∧ s'.os = s₁.os ∧ AllBare s'.gens) s₁ := by
  have rv := vals_ints hi
  have lenV := hi.length
  -- from an abstract heap in which nothing but the script may be tracked
  have core : ∀ H : Hp, Only H → SqL K H a (ns.map V.int) → HOk P w H s₁.heap → (∀ b, H b ≠ none → b = a) → (H a ≠ none → K.lookup a = none) →
      codeAny (model P w) callerA (.call (.ref fa) ⟨[.ref a], []⟩) (fun r s' => r = .ok (.ret (.bool true)) ∧ OldK s₁.heap s'.heap ∧ s'.os = s₁.os ∧ AllBare s'.gens) s₁ := by
    intro H hO hS hok hA hK
    have base_of : ∀ {b : Addr} {o : Obj}, s₁.heap.get? b = some o → H b = none → (hidT s₁.heap H).get? b = some o := fun e n => hidT_get e n
    have noA : ∀ {b : Addr} {o : Obj} {es : Array DictEntry} {ep : Nat}, s₁.heap.get? b = some o → o.data = .dict es ep → H b = none := fun {b o es ep} e d => by
      cases q : H b with
      | none => rfl
      | some u =>
        have e' : b = a := hA b (by rw [q]; simp)
        subst e'
        rw [ha] at e; cases e
        have d' : Data.seq vs.toArray _ = Data.dict es ep := d
        cases d'
    have nsK : ∀ {b : Addr} {m : Str → Option Value}, s₁.heap.Ns b m → (hidT s₁.heap H).Ns b m := fun {b m} ⟨o, es, ep, e, d, r⟩ => ⟨o, es, ep, base_of e (noA e d), d, r⟩
    have hKb : K.In (hidT s₁.heap H) := fun b o e => base_of (KX b o e) (by
      cases q : H b with
      | none => rfl
      | some u =>
        have e' : b = a := hA b (by rw [q]; simp)
        subst e'
        rw [hK (by rw [q]; simp)] at e; cases e)
    have hM : Mod K mg (hidT s₁.heap H) := ⟨hKb, nsK hns, ⟨mb, nsK hb, hbb⟩, let ⟨mc, h1, h2⟩ := hlim; ⟨mc, nsK h1, h2⟩⟩
    have e0 : Env0 P w K mg (hidT s₁.heap H) callerA [] s₁ H := ⟨rfl, hM, fun b o e => of_hidT e, Nat.le_of_eq (hidT_size _ _), trivial, fun b hb => absurd (show b ∈ ([] : List Addr) from hb) (by simp), hok, .of_eq hg⟩
    refine codeAny_mono ((F _ hKb (nsK hns)).run callerA [] s₁ H ⟨[.ref a], []⟩ [.ref a] [.ref a] _ _ hr e0 (hbind s₁ (.ref a)) (.cons rfl .nil) (hsp H hO hS)) fun r s' h => ?_
    cases r with
    | error e => exact (hCX H e s' h).elim
    | ok fl =>
      cases fl with
      | next => exact False.elim h
      | brk => exact False.elim h
      | cont => exact False.elim h
      | ret u =>
        obtain ⟨v, H', os, bare, un, hok', r', q⟩ := h
        have q' : v = .bl true := q
        subst q'
        obtain rfl : u = Value.bool true := r'
        refine ⟨rfl, OldK.of_keep fun b o e => ?_, os, bare⟩
        cases q : H b with
        | none => exact un.keep b o e q (by intro z; exact absurd (show b ∈ ([] : List Addr) from z) (by simp)) (by simp)
        | some u =>
          rcases hO b with z | ⟨ob, xs, z⟩
          · rw [q] at z; cases z
          · have z2 := un.frzs b ob _ z
            obtain ⟨e1, _⟩ := hok b _ z
            obtain ⟨e2, _⟩ := hok' b _ z2
            rw [e] at e1; cases e1
            exact e2
  cases hk : K.lookup a with
  | some o =>
    -- the script is one of the module's own objects
    have e := KX a o hk
    rw [ha] at e
    cases e
    refine core (fun _ => none) (fun _ => .inl rfl) (.inr ⟨_, vs.toArray, _, hk, rfl, rfl, rfl, by rw [List.size_toArray, lenV]; exact hl, by simpa using rv⟩) (fun b u z => by have z' : (none : Option HO) = some u := z; cases z') (fun b z => absurd rfl z) fun z => absurd rfl z
  | none =>
    refine core (fun b => if b = a then some (.frz { cls := .type "list", data := .seq vs.toArray } (.lst (ns.map V.int))) else none) (fun b => ?_) (.inl (.inr ⟨{ cls := .type "list", data := .seq vs.toArray }, if_pos rfl⟩)) (fun b u z => ?_) (fun b z => ?_) fun _ => hk
    · by_cases hb : b = a
      · exact .inr ⟨_, _, if_pos hb⟩
      · exact .inl (if_neg hb)
    · by_cases hb : b = a
      · have z' := (if_pos hb).symm.trans z
        cases z'
        subst hb
        exact ⟨ha, by rw [List.length_map]; exact hl, vs, _, rv, ha⟩
      · have z' := (if_neg hb).symm.trans z
        cases z'
    · by_cases hb : b = a
      · exact hb
      · exact absurd (if_neg hb) z
end L2

namespace L2
open PySem PySem.Spec PyProof.Rows

abbrev KOf {K : PySem.W.Frag} {h : Heap} (_ : K.In h) : PySem.W.Frag := K

end L2

/- THE LAST THEOREM (shape; LID, My.* are yours):
   My.Adr: a structure of the addresses that your layer names (classes, functions); My.Txt K t: a structure (Prop) of the equations over K;
   My.txt_mk : {K} {implicit addresses ..} (e1 : nsIn K mainGlobals "law" = some (some (.ref f))) (e2 : K.lookup f = some ⟨oc, od, .func (fnOf "law" "law" params body scope dV kV doc pm an cdv ct), sl⟩) (e3 : codeIn K cdv "law" = true) .. : ∃ t, My.Txt K t

set_option maxRecDepth 100000 in
set_option maxHeartbeats 0 in
theorem PySem.Challenge.cw_LID_holds : PySem.Challenge.rw_LID.Holds := by
  w_on; o_law; k_head; (case hw => w_witness2)
  k_fill
  refine L2.walk_of (l := PySem.Challenge.rw_LID) (n := 63) (k := 40) (x := "script") (CX := fun w => ..) (sp := fun _ => My.sp_law) rfl (by decide) rfl ⟨rfl, by decide, by decide⟩ (fun w h Y => PySem.W.kIn_of Y) ?F ?S ?C
  case F =>
    intro w mg fa h KX G hmg
    have T : ∃ t, My.Txt (L2.KOf KX) t := by
      dsimp only [L2.KOf]                          -- K must stand as «<heap const> w.params» for k_is
      refine' My.txt_mk ?e1 ?e2 ?e3 ..
      (case e1 => PySem.W.k_is)                    -- in the order: a name -> its address -> its object -> its parts
      (case e2 => PySem.W.k_is)
      ..
    obtain ⟨t, T⟩ := T
    have e0 := hmg.symm.trans (PySem.W.mg_of KX G T.law)
    cases e0                                       -- fa is the law's own address
    exact ⟨_, fun s u => .of_eq rfl, fun base kb nb => My.law_fn T kb nb⟩     -- if «.of_eq rfl» comes too early: refine' ⟨_, ?b, fun base kb nb => My.law_fn T kb nb⟩; exact fun s u => .of_eq rfl
  case S => exact fun w H a ns hl hO hS => ..
  case C => exact ..
(the tactic k_is has no namespace: write k_is) -/

/-! SHORT WORDS over the layer: a def of the text, its body, what a loop and a test want. -/
namespace L2
open PySem PySem.Spec PyProof.Rows

/-! ### the text by places -/
def defArgs (s : Stmt) : Arguments := match s with
  | .FunctionDef _ a _ _ _ _ _ _ _ _ => a
  | _ => { posonlyargs := [], args := [], vararg := none, kwonlyargs := [], kw_defaults := [], kwarg := none, defaults := [] }
def defBody (s : Stmt) : List Stmt := match s with
  | .FunctionDef _ _ b _ _ _ _ _ _ _ => b
  | _ => []
def defScope (s : Stmt) : Scope := match s with
  | .FunctionDef _ _ _ _ _ _ sc _ _ _ => sc
  | _ => { kind := .function, names := [], isGenerator := false, isCoroutine := false }

/-! ### no exception leaves a def -/
abbrev CX0 : CXT := fun _ _ _ _ _ _ => False
abbrev E0 : XK := fun _ _ _ => False
theorem pass0 {X : Cx} : Passes CX0 X E0 := fun _ _ _ _ _ _ _ h => h.elim

/-! ### a def (or method) of the text as it stands behind the top -/
structure Fun (K : PySem.W.Frag) (x qual : Str) (st : Stmt) (f : Addr) (fd : FuncData) : Prop where
  ex : ∃ (oc : Value) (od : Option Addr) (kV doc pm : Value) (an : Option Addr) (cdv ct : Value) (osl : Array (Option Value)),
    fd = PySem.W.fnOf x qual (defArgs st) (defBody st) (defScope st) .none kV doc pm an cdv ct ∧ K.lookup f = some ⟨oc, od, .func fd, osl⟩ ∧ PySem.W.codeIn K cdv qual = true
  kp : PySem.W.keepIn K (.ref f) = true
section
variable {P : Program} {w : World} {K : PySem.W.Frag} {mg : Str → Option Value} {base : Heap}
/-- THE RULE for a def: its body as a term of rules, and the reading of that term -/
theorem Fun.ok {x qual : Str} {st : Stmt} {f : Addr} {fd : FuncData} {N ps : List Str} {k : Nat} {sp : Sp} (F : Fun K x qual st f fd) (S : FnScope N ps (defScope st)) (len : ∀ vs H Q E, sp vs H Q E → vs.length = ps.length)
    (hbody : ∀ (cdv : Value) (A : Around) (outer : List Env) (s : Shared) (H : Hp) (vs : List V) (Q : VK) (E : XK), Room k (A.deeper (envOfC qual (defScope st) s.heap.objs.size f cdv)) → sp vs H Q E →
      ∃ t, PSs (cxOf CX0 P w K mg base N qual (defScope st) f cdv A outer s H E).nox (defBody st) t ∧ t { nx := fun _ H' => Q .non H', rt := Q } (start N vs) H) : FnOk P w K mg base CX0 (k + 1) f fd ps sp := by
  obtain ⟨oc, od, kV, doc, pm, an, cdv, ct, osl, rfl, lk, hcd⟩ := F.ex
  refine fn_of lk hcd S len fun A outer s H vs Q E hr hsp => ?_
  obtain ⟨t, h, q⟩ := hbody cdv A outer s H vs Q E hr hsp
  exact ⟨t, h.nox, q⟩
/-- how its arguments bind (no defaults): h is «fun _ _ _ _ _ _ us hl => match us, hl with | [_, _], _ => rfl», one _ a parameter -/
theorem Fun.binds {x qual : Str} {st : Stmt} {f : Addr} {fd : FuncData} {ps : List Str} (F : Fun K x qual st f fd)
    (h : ∀ (kV doc pm : Value) (an : Option Addr) (cdv ct : Value) (us : List Value), us.length = ps.length → bindArgs (PySem.W.fnOf x qual (defArgs st) (defBody st) (defScope st) .none kV doc pm an cdv ct) ⟨us, []⟩ = pure (ps.zip us)) : Binds K fd ps [] := by
  obtain ⟨oc, od, kV, doc, pm, an, cdv, ct, osl, rfl, lk, hcd⟩ := F.ex
  exact .all (h kV doc pm an cdv ct)
theorem fun_mk {x qual : Str} {st : Stmt} {f : Addr} {oc : Value} {od an : Option Addr} {osl : Array (Option Value)} {kV doc pm cdv ct : Value} (l : K.lookup f = some ⟨oc, od, .func (PySem.W.fnOf x qual (defArgs st) (defBody st) (defScope st) .none kV doc pm an cdv ct), osl⟩)
    (c : PySem.W.codeIn K cdv qual = true) (k : PySem.W.keepIn K (.ref f) = true) : Fun K x qual st f (PySem.W.fnOf x qual (defArgs st) (defBody st) (defScope st) .none kV doc pm an cdv ct) := ⟨⟨oc, od, kV, doc, pm, an, cdv, ct, osl, rfl, l, c⟩, k⟩
end
theorem hu_of {A : Around} {k : Nat} (hr : Room k A) : A.units + 1 < cLine := Nat.lt_of_le_of_lt (Nat.add_le_add_left (by decide : 1 ≤ 64) _) hr.units
/-! ### expressions in short: the name that stands in the i-th slot -/
section
variable {X : Cx}
theorem pv (i : Nat) {x : Str} {pos : Pos} (hN : X.N[i]? = some x := by rfl) (hv : Vis X.env.scope x := by first | exact Or.inl rfl | exact Or.inr (Or.inl rfl) | exact Or.inr (Or.inr rfl)) (hd : (x == ("__debug__" : Str)) = false := by decide)
    (hcd : (x == ("__classdict__" : Str)) = false := by decide) : PE X (.Name x pos) (tVar i) := pe_var hN hv hd hcd
end

/-! ### tests -/
theorem iteF {A B : Prop} (h : B) : if false = true then A else B := by
  rw [if_neg Bool.false_ne_true]
  exact h
theorem iteT {A B : Prop} (h : A) : if true = true then A else B := by
  rw [if_pos rfl]
  exact h
theorem ite2 {c A B : Prop} [Decidable c] (h1 : c → A) (h2 : ¬ c → B) : if c then A else B := by
  by_cases h : c
  · rw [if_pos h]
    exact h1 h
  · rw [if_neg h]
    exact h2 h
/-! ### heaps -/
/-- all that was tracked is as it was -/
def Same (H H' : Hp) : Prop := ∀ b o, H b = some o → H' b = some o
theorem Same.refl (H : Hp) : Same H H := fun _ _ h => h
theorem Same.trans {H H1 H2 : Hp} (a : Same H H1) (b : Same H1 H2) : Same H H2 := fun c o h => b c o (a c o h)
theorem Same.seq {K : PySem.W.Frag} {H H' : Hp} {a : Addr} {xs : List V} (e : Same H H') (h : SqL K H a xs) : SqL K H' a xs := by
  rcases h with (h | ⟨o, h⟩) | h
  · exact .inl (.inl (e _ _ h))
  · exact .inl (.inr ⟨o, e _ _ h⟩)
  · exact .inr h

end L2

namespace L2
open PySem PySem.Spec PyProof.Rows
section
variable {X : Cx}
end
/-! ### a dict's pairs: keys that differ -/
section
variable {κ : Type} [DecidableEq κ]
end
end L2

/-! ### own rules above the hand layer (namespace My): products of great ints, isinstance, dict(d), d == e of equal dicts, the head with the script's bits -/
namespace My
open PySem PySem.Spec PyProof.Rows L2
section
variable {X : Cx}
theorem call_isi : CallR X (.builtin "isinstance") (fun xs H Q => ∃ x t c b, xs = [x, V.ty c] ∧ TyOf X.K H x t ∧ PySem.W.kitOne X.K t (.type c) = some b ∧ Q (.bl b) H) := by
  intro pins s σ H xs us Q I r h
  obtain ⟨x, t, c, b, rfl, ty, e, q⟩ := h
  obtain ⟨u, w', rfl, ru, rw'⟩ := vals2 r
  cases rw'
  exact isinst_ok I ru ty e fun tk => ⟨.bl b, H, I.tok tk, rfl, q⟩
end
section
variable {K : PySem.W.Frag}
theorem kit_ii : PySem.W.kitOne K (.type "int") (.type "int") = some true := by
  show (if (Value.type "int" == Value.type "int") = true then some true else if PySem.W.kitMeta "int" = true then (fastBuiltinMro "int").map (·.contains (Value.type "int")) else none) = some true
  decide +kernel
theorem kit_ib : PySem.W.kitOne K (.type "int") (.type "bool") = some false := by
  show (if (Value.type "int" == Value.type "bool") = true then some true else if PySem.W.kitMeta "bool" = true then (fastBuiltinMro "int").map (·.contains (Value.type "bool")) else none) = some false
  decide +kernel
theorem kit_tt : PySem.W.kitOne K (.type "tuple") (.type "tuple") = some true := by
  show (if (Value.type "tuple" == Value.type "tuple") = true then some true else if PySem.W.kitMeta "tuple" = true then (fastBuiltinMro "tuple").map (·.contains (Value.type "tuple")) else none) = some true
  decide +kernel
end
/-! ### d == e -/
theorem mem_valV {κ : Type} [DecidableEq κ] {kvs : List (κ × V)} {k : κ} {v : V} (h : valV kvs k = some v) : ∃ kv ∈ kvs, kv.2 = v := by
  unfold valV at h
  obtain ⟨kv, e, rfl⟩ := Option.map_eq_some_iff.mp h
  exact ⟨kv, List.mem_of_find?_eq_some e, rfl⟩
def AllInt (kvs : List (Key × V)) : Prop := ∀ kv ∈ kvs, ∃ n, kv.2 = V.int n
/-! ### items -/
theorem atI_lt {α : Type} {xs : List α} {i : Int} (h0 : 0 ≤ i) (h1 : i < xs.length) : ∃ v, atI xs i = some v := by
  have e : ixN xs.length i = some i.toNat := by
    unfold ixN
    rw [if_pos h0, if_pos h1]
  have hl : i.toNat < xs.length := by omega
  refine ⟨xs[i.toNat], ?_⟩
  unfold atI
  rw [e]
  exact List.getElem?_eq_getElem hl
theorem atI_mem {α : Type} {xs : List α} {i : Int} {v : α} (h : atI xs i = some v) : v ∈ xs := by
  obtain ⟨j, _, e, _⟩ := atI_get h
  exact List.mem_of_getElem? e
theorem cut_take (xs : List V) (k : Nat) : cutV xs none (some (k : Int)) = xs.take k := by
  unfold cutV
  rw [HT.sIx_none, HT.sIx_nat, List.drop_zero, Nat.sub_zero]
  exact (List.take_eq_take_min).symm
theorem int_of_map {ns : List Int} {i : Nat} {y : V} (h : (ns.map V.int)[i]? = some y) : ∃ z, y = V.int z ∧ z ∈ ns := by
  rw [List.getElem?_map] at h
  cases e : ns[i]? with
  | none => rw [e] at h; cases h
  | some z => rw [e] at h; exact ⟨z, (Option.some.inj h).symm, List.mem_of_getElem? e⟩
theorem _root_.L2.Same.upd {H : Hp} {p : Addr} {o : HO} (h : H p = none) : Same H (upd H p o) := fun b u e => by
  rw [upd_ne (ne_of_none e h)]
  exact e
theorem _root_.L2.Same.again {H H' : Hp} {p : Addr} {o : HO} (s : Same H H') (h : H p = none) : Same H (L2.upd H' p o) := fun b u e => by
  rw [upd_ne (ne_of_none e h)]
  exact s b u e
/-! ### bits -/
open Builtin.Int (intBits)
theorem bits_item : ∀ {ns : List Int} {m : Int}, m ∈ ns → intBits m ≤ PySem.W.WData.weightAll (ns.map PySem.W.WData.int)
  | n :: r, m, h => by
    rcases List.mem_cons.mp h with e | e
    · subst e
      simp only [List.map_cons, PySem.W.WData.weightAll, PySem.W.WData.weight, Builtin.Int.intBits]
      omega
    · have z := bits_item e
      simp only [List.map_cons, PySem.W.WData.weightAll]
      omega
theorem bits_of {ns : List Int} (h : PySem.W.WData.layableAll [PySem.W.WData.list (ns.map .int)] = true) : ∀ m ∈ ns, intBits m ≤ 1048576 := fun m hm => by
  have h1 := (PySem.W.layW_cons h).1
  have h2 : PySem.W.WData.weight (.list (ns.map .int)) ≤ 2 ^ 20 := of_decide_eq_true (Bool.and_eq_true_iff.mp h1).2
  have h3 := bits_item hm
  have h4 : PySem.W.WData.weight (.list (ns.map .int)) = PySem.W.WData.weightAll (ns.map .int) := by simp only [PySem.W.WData.weight]
  have e : (2 : Nat) ^ 20 = 1048576 := by decide
  omega
end My
namespace My
open PySem PySem.W PySem.Calls PyProof.Rows L2
theorem walk_ofB {l : PySem.W.OpenLaw} {n k : Nat} {q : Program} {loose : List Str} {XP : (Str → Option Value) → Heap → Prop} {YP : World → Heap → Prop} {d : DefRec} {K : Params → PySem.W.Frag} {CX : World → CXT} {sp : World → Sp} {x : Str}
    (hn : l.most = some n) (hn2 : n ≤ sizeLine) (hdf : d.params.defaults = []) (hr : Room k callerA)
    (hY : ∀ (w : World) (h : Heap), YP w h → (K w.params).In h)
    (F : ∀ (w : World) (mg : Str → Option Value) (fa : Addr) (h : Heap), (K w.params).In h → h.Ns mainGlobals mg → mg d.name = some (.ref fa) →
      ∃ fd : FuncData, (∀ (s : Shared) (u : Value), BindsTo s fd ⟨[u], []⟩ [(x, u)]) ∧
        ∀ base : Heap, (K w.params).In base → base.Ns mainGlobals mg → FnOk l.prog w (K w.params) mg base (CX w) k fa fd [x] (sp w))
    (hsp : ∀ (w : World) (H : Hp) (a : Addr) (ns : List Int), ns.length ≤ n → (∀ m ∈ ns, Builtin.Int.intBits m ≤ 1048576) → Only H → SqL (K w.params) H a (ns.map V.int) → sp w [.ref a] H (fun v _ => v = .bl true) fun _ _ _ => False)
    (hCX : ∀ (w : World) (H : Hp) (s : Shared) (e : Value) (s' : Shared), CX w [] H s (fun _ _ _ => False) e s' → False) :
    PySem.W.WalkO q loose XP YP l.row.toRowW d [] (fun f vs => PySem.call f vs) := by
  intro w s₀ s₁ mg mb G Y fa o pm cd doc dV kV ho hd hcd hD hmg hg args vals as hpre hlay hrd hwl hlo
  obtain rfl : dV = .none := Dflts.none hD hdf
  obtain rfl : kV = .none := Dflts.noKw hD
  obtain ⟨a, vs, ns, rfl, rfl, hobj, hints, hlen⟩ := Att.script_of hn hpre hwl
  have KX := hY w _ Y
  obtain ⟨fd, hb, hF⟩ := F w mg fa _ KX G.T.g hmg
  refine enter_call (codeAny_mono (law_call KX G.T.g G.T.b G.T.builtins G.T.nolimit hg hobj hints (Nat.le_trans hlen hn2) hr hF hb (fun H hO hS => hsp w H a ns hlen (bits_of hlay) hO hS) fun H e s' => hCX w H s₁ e s') fun r s' hq => ?_)
  obtain ⟨rfl, h2, h3, h4⟩ := hq
  exact ⟨.inl ⟨.bool true, .bool true, [], rfl, fun _ => rfl, .bool true, Att.post_true l _, fun _ => ⟨List.Pairwise.nil, fun _ hm => (nomatch hm)⟩⟩, h2, h3, h4⟩
end My
/-! ### data of the abstract heap, compared whatever its depth; sum of a list of ints -/
namespace My
open PySem PySem.Spec PyProof.Rows L2
mutual
inductive Dt (K : PySem.W.Frag) (H : Hp) : V → PyData → Prop where
  | non : Dt K H .non .none
  | bl (b : Bool) : Dt K H (.bl b) (.bool b)
  | int (i : Int) : Dt K H (.int i) (.int i)
  | str (x : Str) : Dt K H (.str x) (.str x)
  | lst {a : Addr} {xs : List V} {ds : List PyData} (h : SqL K H a xs) (r : Dts K H xs ds) : Dt K H (.ref a) (.list ds)
  | tup {a : Addr} {xs : List V} {ds : List PyData} (h : SqT K H a xs) (r : Dts K H xs ds) : Dt K H (.ref a) (.tuple ds)
inductive Dts (K : PySem.W.Frag) (H : Hp) : List V → List PyData → Prop where
  | nil : Dts K H [] []
  | cons {x : V} {d : PyData} {xs : List V} {ds : List PyData} (h : Dt K H x d) (r : Dts K H xs ds) : Dts K H (x :: xs) (d :: ds)
end
section
variable {X : Cx} {pins : List (Addr × Obj)} {σ : L2.St} {H : Hp} {s : Shared}
mutual
theorem Dt.reads (I : Inv X pins σ H s) {v : V} {d : PyData} (h : Dt X.K H v d) {u : Value} (r : RelV v u) : ∃ as, Reads s.heap u d as := by
  cases h with
  | non => cases r; exact ⟨_, .none⟩
  | bl b => cases r; exact ⟨_, .bool b⟩
  | int i => obtain ⟨t, rfl⟩ := r; exact ⟨_, .int i t⟩
  | str x => obtain ⟨t, rfl⟩ := r; exact ⟨_, .str x t⟩
  | lst h q =>
    cases r
    obtain ⟨its, rv, ⟨o, n, e, c, _, dd⟩, _⟩ := I.list h
    obtain ⟨as, z⟩ := Dts.reads I q rv
    exact ⟨_, .list e c dd (by simpa using z)⟩
  | tup h q =>
    cases r
    obtain ⟨its, rv, ⟨o, e, c, n, dd⟩, _⟩ := I.tuple h
    obtain ⟨as, z⟩ := Dts.reads I q rv
    exact ⟨_, .tuple e c dd (by simpa using z)⟩
theorem Dts.reads (I : Inv X pins σ H s) {vs : List V} {ds : List PyData} (h : Dts X.K H vs ds) {us : List Value} (r : Vals vs us) : ∃ as, ReadsAll s.heap us ds as := by
  cases h with
  | nil => cases r; exact ⟨_, .nil⟩
  | cons h q =>
    cases r with
    | cons r1 r2 =>
      obtain ⟨as, z⟩ := Dt.reads I h r1
      obtain ⟨bs, y⟩ := Dts.reads I q r2
      exact ⟨_, .cons z y⟩
end
end
section
variable {X : Cx}
def rEqD (K : PySem.W.Frag) : R2 := fun x y H Q => ∃ da db, Dt K H x da ∧ Dt K H y db ∧ SeqAt.shaped da = true ∧ SeqAt.shaped db = true ∧ Q (.bl (PyData.eqv da db)) H
def rNeD (K : PySem.W.Frag) : R2 := fun x y H Q => ∃ da db, Dt K H x da ∧ Dt K H y db ∧ SeqAt.shaped da = true ∧ SeqAt.shaped db = true ∧ Q (.bl (!PyData.eqv da db)) H
theorem op_eqS (hu : X.A.units + 64 < cLine) : OpR X (compareOp .Eq) (rEqD X.K) := by
  intro pins s σ H x y v u Q I rx ry h
  obtain ⟨da, db, ha, hb, sa, sb, q⟩ := h
  obtain ⟨as, ra⟩ := ha.reads I rx
  obtain ⟨bs, rb⟩ := hb.reads I ry
  exact SeqAt.compareEq_shaped ra rb sa sb hu ⟨.bl _, H, I, rfl, q⟩
theorem op_neS (hu : X.A.units + 64 < cLine) : OpR X (compareOp .NotEq) (rNeD X.K) := by
  intro pins s σ H x y v u Q I rx ry h
  obtain ⟨da, db, ha, hb, sa, sb, q⟩ := h
  obtain ⟨as, ra⟩ := ha.reads I rx
  obtain ⟨bs, rb⟩ := hb.reads I ry
  exact SeqAt.compareNe_shaped ra rb sa sb hu ⟨.bl _, H, I, rfl, q⟩
end
end My
/-! ### y = [elt for x in rows], elt quiet: the rule, and elt = x[1] over a list of tuples -/
namespace My
open PySem PySem.Spec PyProof.Rows L2
theorem obj_some {P : Program} {w : World} {H : Hp} {h : Heap} {a : Addr} {o : HO} (x : ObjOk P w H h a o) : ∃ ob, h.get? a = some ob := by
  cases o with
  | lst xs => obtain ⟨_, _, _, _, e⟩ := x; exact ⟨_, e⟩
  | tup xs => obtain ⟨_, _, _, ob, e, _⟩ := x; exact ⟨_, e⟩
  | dK kvs => obtain ⟨_, _, _, _, o, _, _, e, _⟩ := x; exact ⟨_, e⟩
  | dT kvs => obtain ⟨_, _, _, _, o, _, _, e, _⟩ := x; exact ⟨_, e⟩
  | set S n => obtain ⟨o, _, _, _, e, _⟩ := x; exact ⟨_, e⟩
  | ins C dx fs => obtain ⟨_, _, _, e, _⟩ := x; exact ⟨_, e⟩
  | own y => exact x
  | xd fs => obtain ⟨_, ⟨_, _, _, e, _⟩, _⟩ := x; exact ⟨_, e⟩
  | rng lo hi => obtain ⟨_, _, _, e⟩ := x; exact ⟨_, e⟩
  | frz ob u => obtain ⟨e, _⟩ := x; exact ⟨_, e⟩
  | tbl ps => exact ⟨_, (show h.get? a = some _ from x)⟩
  | met f y => exact ⟨_, (show h.get? a = some _ from x)⟩
  | ext φ => obtain ⟨_, e, _⟩ := x; exact e
section
variable {X : Cx} {pins : List (Addr × Obj)} {σ : L2.St} {H : Hp} {s : Shared}
theorem inv_none (I : Inv X pins σ H s) {D : Addr} (h : s.heap.get? D = none) : H D = none := by
  cases q : H D with
  | none => rfl
  | some u =>
    obtain ⟨ob, e⟩ := obj_some (I.hok D u q)
    rw [h] at e
    cases e
end
end My
/-! ### what noting a frame leaves as it is: the objects' dicts -/
namespace My
open PySem PySem.Spec PyProof.Rows L2
/-- trees that leave every object's dict as it is, and run no code -/
inductive Calm {α : Type} : Sem α → Prop
  | pure (a : α) : Calm (.pure a)
  | raise (e : Value) : Calm (.raise e)
  | stop (x : String) : Calm (.unsupported x)
  | rule {t k} : (∀ u, Calm (k u)) → Calm (.rule t k)
  | at {p k} : (∀ u, Calm (k u)) → Calm (.at p k)
  | load {a p k} : (∀ o, Calm (k o)) → Calm (.load a p k)
  | update {a p f k} : (∀ o : Obj, (f o).dict = o.dict ∧ (o.isFreed = false → (f o).isFreed = false)) → (∀ u, Calm (k u)) → Calm (.update a p f k)
  | alloc {o k} : (∀ a, Calm (k a)) → Calm (.alloc o k)
  | point {l k} : (∀ u, Calm (k u)) → Calm (.point l k)
  | fresh {k} : (∀ u, Calm (k u)) → Calm (.fresh k)
  | stack {k} : (∀ u, Calm (k u)) → Calm (.stack k)
/-- the objects' dicts are as they were -/
def DK (h h' : Heap) : Prop := ∀ b o, h.get? b = some o → ∃ o', h'.get? b = some o' ∧ o'.dict = o.dict
end My
/-! ### exceptions: raised in a def, passed on by a def, caught by a try around one call -/
namespace My
open PySem PySem.Spec PyProof.Rows L2
/-- how an exception lies behind a call: in flight over B, the objects that B has stay as they are -/
def CXW (P : Program) (w : World) : CXT := fun outer H s E e s' =>
  ∃ (ea : Addr) (cls a0 : Value) (B : Heap) (H' : Hp) (d : Option Addr), e = .ref ea ∧ s'.os = s.os ∧ AllBare s'.gens ∧ Un (frs outer) [] H H' s.heap s'.heap ∧ HOk P w H' s'.heap ∧ Heap.FlyingW B outer ea cls a0 s'.heap ∧
    (∀ b o, s'.heap.get? b = some o → (s.heap.get? b ≠ none ∨ H' b ≠ none) → b ∉ frs outer → B.get? b = some o) ∧ H' ea = none ∧ s.heap.get? ea = none ∧ (∃ o, s'.heap.get? ea = some o ∧ o.dict = d) ∧ E cls d H'
section
variable {X : Cx} {pins : List (Addr × Obj)} {σ : L2.St} {H H' : Hp} {s : Shared} {h1 h2 B : Heap}
end
section
variable {P : Program} {w : World} {K : PySem.W.Frag} {mg : Str → Option Value} {base : Heap} {N : List Str} {qual : Str} {scope : Scope} {f : Addr} {cd : Value} {A : Around} {outer : List Env} {s₀ : Shared} {H₀ : Hp} {E : XK}
  {pins : List (Addr × Obj)} {σ : L2.St} {H H' : Hp} {s : Shared}
/-- an own class of exceptions of the text, right or further under ValueError, without an __init__ -/
structure ExcC (K : PySem.W.Frag) (mg : Str → Option Value) (x : Str) (C : Addr) : Prop where
  bound : mg x = some (.ref C)
  ok : PySem.W.excIn K C [.type "ValueError", .type "Exception", .type "BaseException", .type "object"] "ValueError.__new__" = true
end
end My
/-! ### raise, f"{x!r} ..", try around one call: the rules -/
namespace My
open PySem PySem.Spec PyProof.Rows L2
section
variable {P : Program} {w : World} {K : PySem.W.Frag} {mg : Str → Option Value} {base : Heap} {N : List Str} {qual : Str} {scope : Scope} {f : Addr} {cd : Value} {A : Around} {outer : List Env} {s₀ : Shared} {H₀ : Hp} {E : XK}
end
section
variable {X : Cx}
/-- the context within an except suite -/
abbrev markX (X : Cx) (ea : Addr) : Cx := { X with A := X.A.mark (some (.ref ea)), calm := false, xe := fun _ _ => False }
end
end My
/-! ### texts: slices, startswith, upper, * n, <=, int(text), [elt for c in text], all(list) -/
namespace My
open PySem PySem.Spec PyProof.Rows L2
section
variable {X : Cx}
end
end My
namespace My
open PySem PySem.Spec PyProof.Rows L2
section
variable {X : Cx}
end
end My
/-! ### written numbers and letters, over the signs of a text -/
namespace My
open PySem PySem.Spec PyProof.Rows L2 PySem.NumText
def dig (c : Nat) : Bool := decide (48 ≤ c ∧ c ≤ 57)
def figsL : List Nat → List Nat
  | [] => []
  | c :: r => if c = 45 then r else c :: r
def isFigs : List Nat → Bool
  | [] => false
  | c :: r => !decide (c = 48) && (decide ((c :: r).length ≤ 30) && (c :: r).all dig)
def isNumL (cs : List Nat) : Bool := decide (cs = [48]) || isFigs (figsL cs)
def isLetL : List Nat → Bool
  | [c] => decide (97 ≤ c ∧ c ≤ 122)
  | _ => false
end My
namespace My
open PySem PySem.Spec PyProof.Rows L2 PySem.NumText
def Bad (tx : Str) : Prop := isNumL tx.cps.toList = false ∧ isLetL tx.cps.toList = false ∧ tx.length ≤ 100 ∧ ∀ c ∈ tx.cps.toList, c < 16 ^ 8
end My
/-! ### isinstance(e, C) of an own exception e -/
namespace My
open PySem PySem.Spec PyProof.Rows L2 Builtin Builtin.ObjectAttr Builtin.Getset_descriptor
/-- what the lookups tell along an own class of exceptions -/
structure ExcK (K : PySem.W.Frag) (C : Addr) : Prop where
  it : PySem.W.isClsIn K C = true
  ga : PySem.W.findIn K (.ref C) "__getattribute__" = some (some (.builtin "BaseException.__getattribute__"))
  gt : PySem.W.findIn K (.ref C) "__getattr__" = some none
  cl : PySem.W.findIn K (.ref C) "__class__" = some (some (.builtin "object.__class__"))
  mB : PySem.W.mroIn K C (.type "BaseException") = some true
  mO : PySem.W.mroIn K C (.type "object") = some true
/-- the object at a is of the class at C -/
def IsExc (a C : Addr) (h : Heap) : Prop := ∃ o, h.get? a = some o ∧ o.cls = .ref C
section
variable {prog : Program} {w : World} {A : Around} {E : Value → Shared → Prop} {h : Heap} {g : Array GenState} {d : Drawn} {t : Nat} {os : OsState} {a C : Addr} {o : Obj} {K : PySem.W.Frag}
end
end My
/-! ### try: y = f(..) / except S as e: .., S a class above the one that was raised; isinstance of e -/
namespace My
open PySem PySem.Spec PyProof.Rows L2
section
variable {X : Cx}
/-- how two own classes stand: D's object, whether C is under D -/
structure KitP (K : PySem.W.Frag) (C D : Addr) (b : Bool) : Prop where
  it : PySem.W.isClsIn K D = true
  ty : PySem.W.typeIn K (.ref D) = some (.type "type")
  self : PySem.W.subIn K (.ref C) (.ref C) = some true
  sub : PySem.W.subIn K (.ref C) (.ref D) = some b
end
end My
/-! ### try: y = f(..) / except S as n: .. -/
namespace My
open PySem PySem.Spec PyProof.Rows L2
section
variable {X : Cx} {pins : List (Addr × Obj)} {σ : L2.St} {H : Hp} {s : Shared}
/-- an object that was made since is tracked -/
theorem inv_track {s1 : Shared} {H1 : Hp} {a : Addr} {o : HO} (I1 : Inv X pins σ H1 s1) (I : Inv X pins σ H s) (hn : s1.heap.get? a = none) (ha : H a = none) (ok : ObjOk X.prog X.w (upd H a o) s.heap a o) : Inv X pins σ (upd H a o) s := by
  have ne : ∀ b u, s1.heap.get? b = some u → b ≠ a := fun b u e z => by rw [z, hn] at e; cases e
  refine ⟨I.ok, I.os, I.bare, ⟨I.base.keep, I.base.slot, fun b u e n hx => ?_, I.base.there, fun b xs e => ?_, fun b u v e => ?_, fun b ps e => ?_⟩, I.loc, I.cell, ?_, fun x c e => ?_, fun p hp => ?_, fun b u e => ?_, I.len⟩
  · obtain ⟨u', e1⟩ := I1.base.there b u e hx
    rw [upd_ne (ne b u' e1)]
    exact I.base.free b u e n hx
  · have q := I.base.tups b xs e
    rw [upd_ne (ne_of_none q ha)]
    exact q
  · have q := I.base.frzs b u v e
    rw [upd_ne (ne_of_none q ha)]
    exact q
  · obtain ⟨more, q⟩ := I.base.tbls b ps e
    exact ⟨more, by rw [upd_ne (ne_of_none q ha)]; exact q⟩
  · obtain ⟨m0, ⟨u, _, _, hu, _⟩, _⟩ := I1.loc
    rw [upd_ne (ne _ u hu)]
    exact I.free
  · obtain ⟨v, u, hu, _⟩ := I1.cell x c e
    rw [upd_ne (ne c u hu)]
    exact I.freeC x c e
  · obtain ⟨e, n, n2, nf, d⟩ := I.pin p hp
    obtain ⟨e1, _⟩ := I1.pin p hp
    exact ⟨e, by rw [upd_ne (ne _ _ e1)]; exact n, n2, nf, d⟩
  · by_cases hb : b = a
    · subst hb
      rw [upd_same] at e
      cases e
      exact ok
    · rw [upd_ne hb] at e
      refine (I.hok b u e).stay (fun c v hc q => q) (fun c q => ?_) fun c xs q => ?_
      · rw [upd_ne (ne_of_none q ha)]; exact q
      · rw [upd_ne (ne_of_none q ha)]; exact q
/-- a class of exceptions, as an except clause's -/
structure ExcS (K : PySem.W.Frag) (mg : Str → Option Value) (x : Str) (S : Addr) : Prop where
  bound : mg x = some (.ref S)
  ty : PySem.W.typeIn K (.ref S) = some (.type "type")
  it : PySem.W.isClsIn K S = true
  mB : PySem.W.mroIn K S (.type "BaseException") = some true
/-- what is wanted behind the suite: the name is gone -/
def gone (j : Nat) (D : Ends) : Ends := { nx := fun σ H => D.nx (σ.set j none) H, rt := D.rt, bk := fun σ H => D.bk (σ.set j none) H, ct := fun σ H => D.ct (σ.set j none) H }
/-- an exception of the class at C stands at a, its dict is d -/
def IsExcK (a C : Addr) (d : Option Addr) (h : Heap) : Prop := ∃ o, h.get? a = some o ∧ o.cls = .ref C ∧ PySem.W.notCls o = true ∧ o.dict = d
end
end My
/-! ### for c in text; for a, b in zip(xs, ys) over lists, tuples and texts -/
namespace My
open PySem PySem.Spec PyProof.Rows L2
/-- a fixed row of values -/
def Itf (ys : List V) : It := ⟨fun i _ => i < ys.length, fun i H x H' => H' = H ∧ ys[i]? = some x, fun i _ => ys.length ≤ i⟩
abbrev vsigns (y : Str) : List V := y.cps.toList.map fun c => V.str ⟨#[c]⟩
abbrev strIt (y : Str) : String := if y.cps.all (· < 128) then "str_ascii_iterator" else "str_iterator"
abbrev strItO (y : Str) (t : Tok) : Obj := { cls := .type (strIt y), data := .fields #[.str y t, .int 0 0] }
section
variable {X : Cx} {tg : Expr}
end
/-! the sources of a zip -/
structure Src (P : Program) (w : World) (K : PySem.W.Frag) (J : It) (it : Addr) (st : Nat → Heap → Prop) : Prop where
  obj : ∀ i h, st i h → ∃ o, h.get? it = some o ∧ ∀ v, o.data ≠ .cell v
  keep : ∀ i h h', st i h → (∀ o, h.get? it = some o → h'.get? it = some o) → st i h'
  item : ∀ (X : Cx), X.prog = P → X.w = w → X.K = K → ∀ (A : Around) (i : Nat) (pins : List (Addr × Obj)) (s : Shared) (σ : L2.St) (H : Hp) (Q : Value → Shared → Prop) (E : Value → Shared → Prop), Inv X pins σ H s → st i s.heap → J.go i H →
    (∀ x u h' tk, RelV x u → J.yld i H x H → st (i + 1) h' → Heap.SameBut it s.heap h' → Q u { s with heap := h', toks := tk }) → wpAny (model P w) A (Builtin.SmallTypes.nextOf (.ref it)) Q E s
  done : ∀ (X : Cx), X.prog = P → X.w = w → X.K = K → ∀ (A : Around), A.handled = none → ∀ (i : Nat) (pins : List (Addr × Obj)) (s : Shared) (σ : L2.St) (H : Hp) (Q : Value → Shared → Prop) (E : Value → Shared → Prop), Inv X pins σ H s → st i s.heap → J.stop i H →
    (∀ h' e, Heap.ExtBut it s.heap h' → (∃ o, h'.get? e = some o ∧ o.cls = .type "StopIteration") → E (.ref e) { s with heap := h' }) → wpAny (model P w) A (Builtin.SmallTypes.nextOf (.ref it)) Q E s
section
variable {P : Program} {w : World} {K : PySem.W.Frag}
/-- the five objects of a zip -/
structure ZipAp (z TI TO i1 i2 : Addr) : Prop where
  TIz : TI ≠ z
  TOz : TO ≠ z
  i1z : i1 ≠ z
  i2z : i2 ≠ z
  TITO : TI ≠ TO
  TIi1 : TI ≠ i1
  TIi2 : TI ≠ i2
  TOi1 : TO ≠ i1
  TOi2 : TO ≠ i2
  i12 : i1 ≠ i2
/-! the call of zip -/
inductive SrcV (h : Heap) : Value → Obj → Prop where
  | list {l : Addr} {xs : Array Value} (e : h.IsList l xs) : SrcV h (.ref l) { cls := .type "list_iterator", data := .fields #[.ref l, .int 0 0] }
  | tup {l : Addr} {xs : Array Value} (e : h.IsTuple l xs) : SrcV h (.ref l) { cls := .type "tuple_iterator", data := .fields #[.ref l, .int 0 0] }
  | str (y : Str) (t : Tok) : SrcV h (.str y t) (strItO y t)
abbrev zA (h : Heap) (o1 : Obj) : Heap := h.push o1
abbrev zB (h : Heap) (o1 o2 : Obj) : Heap := (zA h o1).push o2
abbrev zC (h : Heap) (o1 o2 : Obj) : Heap := (zB h o1 o2).push { cls := .type "tuple", data := .seq #[.ref h.objs.size, .ref (zA h o1).objs.size] }
abbrev zD (h : Heap) (o1 o2 : Obj) : Heap := (zC h o1 o2).push { cls := .type "tuple", data := .seq #[.none, .none] }
/-- a zip has been made over h: its five objects in g -/
structure Zipped (h g : Heap) (o1 o2 : Obj) (z TI TO i1 i2 : Addr) : Prop where
  zip : IsZip g z TI TO .none
  ins : IsPair g TI (.ref i1) (.ref i2)
  outs : IsPair g TO .none .none
  one : g.get? i1 = some o1
  two : g.get? i2 = some o2
  keep : ∀ c o, h.get? c = some o → g.get? c = some o
  young : ∀ c ∈ [z, TI, TO, i1, i2], h.objs.size ≤ c
  ap : ZipAp z TI TO i1 i2
end
/-- what a zip may walk, as it stands in the abstract heap -/
inductive SrcOf (K : PySem.W.Frag) (H : Hp) : V → It → Prop where
  | list {a : Addr} {xs : List V} (h : SqL K H a xs) : SrcOf K H (.ref a) (Itl K a)
  | tup {a : Addr} {xs : List V} (h : SqT K H a xs) : SrcOf K H (.ref a) (Itt K a)
  | str (y : Str) : SrcOf K H (.str y) (Itf (vsigns y))
section
variable {X : Cx}
end
/-- what a source gives -/
structure Gives (J : It) (H : Hp) (xs : List V) : Prop where
  go : ∀ i, i < xs.length → J.go i H
  stop : ∀ i, xs.length ≤ i → J.stop i H
  yld : ∀ i x H', J.yld i H x H' → xs[i]? = some x
end My
/-! ### figures of a text: in, index; more of isinstance -/
namespace My
open PySem PySem.Spec PyProof.Rows L2 PySem.NumText
section
variable {X : Cx}
end
section
variable {K : PySem.W.Frag}
end
/-- a text that a message may show -/
def Short (n : Nat) (x : Str) : Prop := x.length ≤ n ∧ ∀ c ∈ x.cps.toList, c < 16 ^ 8
section
variable {X : Cx} {K : PySem.W.Frag}
end
end My
/-! ### [elt for target in iter], elt any expression that raises nothing -/
namespace My
open PySem PySem.Spec PyProof.Rows L2
section
variable {X : Cx} {pins : List (Addr × Obj)} {σ : L2.St} {H : Hp} {s : Shared} {scope : Scope} {N : List Str} {C : Addr} {ex : List Addr}
end
section
variable {X : Cx} {pins : List (Addr × Obj)} {σ : L2.St} {H : Hp} {s : Shared} {scope : Scope} {N : List Str} {target iter elt : Expr} {pos : Pos} {g : TG} {te : TE}
/-- behind the block: the caller's state -/
theorem comp_after {s' : Shared} {H' : Hp} {fp : List Addr} {C : Addr} (I : Inv X pins σ H s) (hf : ∀ b ∈ fp, FpOk X pins H b) (os : s'.os = s.os) (bare : AllBare s'.gens) (un : Un (frs X.stack) fp H H' s.heap s'.heap) (hok : HOk X.prog X.w H' s'.heap) (nC : H' C = none) (hC : s.heap.objs.size ≤ C) :
    Inv X pins σ H' s' ∧ FpOk X pins H' C :=
  ⟨I.call' os un hok bare fun b hb => let ⟨_, f1, _, f3, f4, f5⟩ := hf b hb; ⟨f3, f1, f4, f5⟩, I.fpOk hC nC⟩
theorem inv_but {H' : Hp} {C : Addr} {h' : Heap} (I : Inv X pins σ H' s) (f : FpOk X pins H' C) (k : Heap.SameBut C s.heap h') : Inv X pins σ H' { s with heap := h' } :=
  let ⟨f0, f1, _, f3, f4, f5⟩ := f
  I.turned (t' := s.toks) (fun b o hb e => (k.2 b hb).trans e) f0 f1 f3 f4 f5
end
end My
/-! ### texts cut at a sign and put together again: split, join -/
namespace My
open PySem PySem.Spec PyProof.Rows L2 PySem.Builtin.Str
section
variable {X : Cx}
end
end My
/-! ### a dict of the module: D.get(e) -/
namespace My
open PySem PySem.Spec PyProof.Rows L2
structure KDict (P : Program) (w : World) (K : PySem.W.Frag) (a : Addr) (kvs : List (Key × V)) : Prop where
  get : ∀ h : Heap, K.In h → ∃ vs, KV kvs vs ∧ h.DictOf (mixKind P w) a vs
  sys : (a == sysModules) = false
inductive KEnts (w : World) : List DictEntry → List (Str × V) → Prop where
  | nil : KEnts w [] []
  | cons {x : Str} {t : Tok} {v : V} {u : Value} {es : List DictEntry} {ps : List (Str × V)} (r : RelV v u) (q : KEnts w es ps) : KEnts w ({ hash := hashStr w x, key := .str x t, val := u } :: es) ((x, v) :: ps)
end My
/-! ### str of an int or a text; a comprehension over what stays -/
namespace My
open PySem PySem.Spec PyProof.Rows L2
end My
namespace My
open PySem PySem.Spec PyProof.Rows L2
end My
/-! ### own exceptions made and kept: C(e) of a class without an __init__ -/
namespace My
open PySem PySem.Spec PyProof.Rows L2
section
variable {X : Cx}
end
end My
/-! ### exceptions with an __init__ and fields: C(..) made, S.__init__(self, ..), self.x = .., e.x -/
namespace My
open PySem
section
variable {prog : Program} {w : World} {A : Around} {E : Value → Shared → Prop} {h : Heap} {g : Array GenState} {d : Drawn} {t : Nat} {os : OsState}
variable {nm q : Str} {C N : Addr} {bs bm bmB : List Value} {hdct : Bool} {sn : List Str} {sub : List Value} {ab : Bool} {col : Option Bool} {dd : Option Addr} {k0 k1 k2 k3 k5 : Option Value} {B newId initId : String}

end
end My
namespace My
open PySem PySem.Spec PyProof.Rows L2
abbrev mroVE : List Value := [.type "ValueError", .type "Exception", .type "BaseException", .type "object"]
/-- the object at C is a class under ValueError, those between without an __init__ -/
def ExcCl (K : PySem.W.Frag) (C : Addr) : Prop := ∃ bm N nm qn bs hd sn sub ab col dd k0 k1 k2 k3 k5, K.lookup C = some (excClassObj nm qn C N bs bm hd sn sub ab col dd k0 k1 k2 k3 k5 "ValueError.__new__") ∧ ∀ h, K.In h → OwnTail h mroVE bm
section
variable {prog : Program} {w : World} {A : Around} {E : Value → Shared → Prop} {h : Heap} {g : Array GenState} {d : Drawn} {t : Nat} {os : OsState} {a C : Addr} {ox : Obj} {od : Option Obj} {K : PySem.W.Frag} {name : Str} {v : Value}
/-- what a store on an exception of the class at C asks of the class -/
structure ExcW (K : PySem.W.Frag) (C : Addr) : Prop where
  sa : PySem.W.findIn K (.ref C) "__setattr__" = some (some (.builtin "object.__setattr__"))
  hd : PySem.W.hasDictIn K C = true
  mO : PySem.W.mroIn K C (.type "object") = some true
  tl : ExcCl K C
end
end My
namespace My
open PySem PySem.Spec PyProof.Rows L2
def IsExcF (a C : Addr) (d : Option Addr) (h : Heap) : Prop := ∃ o, h.get? a = some o ∧ o.cls = .ref C ∧ o.dict = d ∧ ∃ vs t0, o.data = .fields vs ∧ vs[0]? = some (.ref t0) ∧ vs[1]? = some .none
abbrev IsExcD (a C dx : Addr) (h : Heap) : Prop := IsExcK a C (some dx) h
section
variable {P : Program} {w : World} {H : Hp} {h : Heap} {a C dx : Addr} {fs : List (Str × V)}
end
section
variable {X : Cx} {pins : List (Addr × Obj)} {σ : L2.St} {H : Hp} {s : Shared} {a C dx : Addr} {fs : List (Str × V)} {A : Around} {E : Value → Shared → Prop} {f : Str} {y v : V} {u : Value}
end
section
variable {X : Cx} {o e value : Expr} {f : Str} {pos pos' : Pos} {ta tv : TE}
end
end My
namespace My
open PySem PySem.Spec PyProof.Rows L2
/-- what an exception class with an __init__ of its own must have to be made -/
structure MkX (K : PySem.W.Frag) (C f : Addr) : Prop where
  cls : ExcCl K C
  init : PySem.W.findIn K (.ref C) "__init__" = some (some (.ref f))
  fn : PySem.W.isFn K (.ref f) = true
  kp : PySem.W.keepIn K (.ref C) = true
section
variable {X : Cx} {CX : CXT} {k : Nat} {f C : Addr} {fd : FuncData} {ps : List Str} {sp : Sp} {dvs : List V} {ds : List Value} {E : XK} {x m : Str} {p pos apos : Pos} {e o : Expr} {es : List Expr} {ta : TE} {t : TA}
/-- what the class at S must have for S.m to be the builtin id -/
structure ClsB (K : PySem.W.Frag) (S : Addr) (m : Str) (id : String) : Prop where
  sp : PySem.W.specialIn K (.ref S) "__getattribute__" = some (some (.builtin "type.__getattribute__"))
  rd : PySem.W.readsIn K S (.type "type") = true
  fd : PySem.W.findCls K (.ref S) (.type "type") m = some (.val (.builtin id))
  ha : PySem.W.handedIn (.builtin id) = true
end
end My
/-! ### raise C(..), C with an __init__ of its own: what leaves the def keeps its fields -/
namespace My
open PySem PySem.Spec PyProof.Rows L2
section
variable {M : Model} {A : Around} {E : Value → Shared → Prop} {s : Shared} {env : Env} {K : PySem.W.Frag} {C : Addr}
end

/-- an object goes untracked -/
def del (H : Hp) (a : Addr) : Hp := fun b => if b = a then none else H b
theorem del_same {H : Hp} {a : Addr} : del H a a = none := if_pos rfl
theorem del_ne {H : Hp} {a b : Addr} (h : b ≠ a) : del H a b = H b := if_neg h
section
variable {X : Cx} {CX : CXT} {k : Nat} {f C : Addr} {fd : FuncData} {ps : List Str} {sp : Sp} {dvs : List V} {ds : List Value} {E : XK}
end
section
variable {P : Program} {w : World} {H H2 : Hp} {fs : List Addr} {h h' h2 : Heap} {ea : Addr} {o : HO}
end

section
variable {P : Program} {w : World} {K : PySem.W.Frag} {mg : Str → Option Value} {base : Heap} {N : List Str} {qual : Str} {scope : Scope} {f : Addr} {cd : Value} {A : Around} {outer : List Env} {s₀ : Shared} {H₀ : Hp} {E : XK}
  {pins : List (Addr × Obj)} {σ : L2.St} {H H2 : Hp} {s s2 : Shared} {h' : Heap} {ea C : Addr} {d : Option Addr}
end

section
variable {P : Program} {w : World} {K : PySem.W.Frag} {mg : Str → Option Value} {base : Heap} {N : List Str} {qual : Str} {scope : Scope} {f fI : Addr} {cd : Value} {A : Around} {outer : List Env} {s₀ : Shared} {H₀ : Hp} {E : XK}
end
end My
/-! ### try: raise C(..) / except S as e -/
namespace My
open PySem PySem.Spec PyProof.Rows L2
section
variable {M : Model} {A : Around} {E : Value → Shared → Prop} {s : Shared}
end
section
variable {X : Cx}
end
end My
/-! ### isinstance of any tracked exception, f"..{n}..", count of truths -/
namespace My
open PySem PySem.Spec PyProof.Rows L2
section
variable {X : Cx} {K : PySem.W.Frag}
end
end My
/-! ### [elt for target in iter if test], with names of the def around it (cells) -/
namespace My
open PySem PySem.Spec PyProof.Rows L2
/-- what a block closes over -/
def closOf (cells : List (Str × Addr)) : List (Str × NameKind) → List (Str × Addr) → List (Str × Addr)
  | [], acc => acc
  | (n, k) :: r, acc => if (k == NameKind.free) = true then closOf cells r ((n, (cells.lookup n).getD 0) :: acc) else closOf cells r acc
theorem closure_is {scope : Scope} {env : Env} (h : ∀ q ∈ scope.names, q.2 = .free → ∃ c, env.cells.lookup q.1 = some c) : closureFor scope env = pure (closOf env.cells scope.names []) := by
  simp only [closureFor]
  generalize ([] : List (Str × Addr)) = acc
  revert h
  generalize scope.names = names
  intro h
  induction names generalizing acc with
  | nil => rfl
  | cons q r ih =>
    obtain ⟨n, k⟩ := q
    rw [List.forIn_cons]
    by_cases hk : (k == NameKind.free) = true
    · obtain ⟨c, hc⟩ := h (n, k) List.mem_cons_self (by simpa using hk)
      have e : cellOf env n = pure c := by simp only [cellOf, hc]
      simp only [closOf, hk, if_true, e, hc, Option.getD_some, pure_bind]
      exact ih _ fun q hq => h q (List.mem_cons_of_mem _ hq)
    · simp only [closOf, hk, if_false, pure_bind, Bool.false_eq_true]
      exact ih _ fun q hq => h q (List.mem_cons_of_mem _ hq)
theorem closOf_sub {cells : List (Str × Addr)} : ∀ {names : List (Str × NameKind)} {acc : List (Str × Addr)}, (∀ q ∈ names, q.2 = .free → ∃ c, cells.lookup q.1 = some c) → (∀ x c, acc.lookup x = some c → cells.lookup x = some c) → ∀ x c, (closOf cells names acc).lookup x = some c → cells.lookup x = some c
  | [], _, _, ha => ha
  | (n, k) :: r, acc, h, ha => by
    intro x c e
    by_cases hk : (k == NameKind.free) = true
    · obtain ⟨d, hd⟩ := h (n, k) List.mem_cons_self (by simpa using hk)
      rw [closOf, if_pos hk] at e
      refine closOf_sub (fun q hq => h q (List.mem_cons_of_mem _ hq)) (fun y b q => ?_) x c e
      cases hy : y == n with
      | true =>
        rw [List.lookup_cons, hy] at q
        have ey : y = n := by simpa using hy
        subst ey
        have hd' : List.lookup y cells = some d := hd
        rw [hd'] at q ⊢
        simpa using q
      | false =>
        rw [List.lookup_cons, hy] at q
        exact ha y b q
    · rw [closOf, if_neg hk] at e
      exact closOf_sub (fun q hq => h q (List.mem_cons_of_mem _ hq)) ha x c e
theorem closOf_has {cells : List (Str × Addr)} : ∀ {names : List (Str × NameKind)} {acc : List (Str × Addr)} {x : Str}, ((x, NameKind.free) ∈ names ∨ ∃ c, acc.lookup x = some c) → ∃ c, (closOf cells names acc).lookup x = some c
  | [], _, _, h => h.elim (fun z => by cases z) id
  | (n, k) :: r, acc, x, h => by
    by_cases hk : (k == NameKind.free) = true
    · rw [closOf, if_pos hk]
      refine closOf_has ?_
      cases hx : x == n with
      | true => exact .inr ⟨_, by rw [List.lookup_cons, hx]⟩
      | false =>
        rcases h with h | ⟨c, h⟩
        · rcases List.mem_cons.mp h with z | z
          · cases z
            simp at hx
          · exact .inl z
        · exact .inr ⟨c, by rw [List.lookup_cons, hx]; exact h⟩
    · rw [closOf, if_neg hk]
      refine closOf_has ?_
      rcases h with h | h
      · rcases List.mem_cons.mp h with z | z
        · cases z
          exact absurd rfl hk
        · exact .inl z
      · exact .inr h
theorem relabel_kind {env : Env} : ∀ {names : List (Str × NameKind)} {x : Str} {k' : NameKind}, (names.map fun (n, k) => if (k == NameKind.free && env.scope.kind == .function && env.kindOf n == some .cell) then (n, NameKind.cell) else (n, k)).lookup x = some k' →
    ∃ k, names.lookup x = some k ∧ (k' = k ∨ (k = .free ∧ k' = .cell))
  | [], _, _, h => by simp at h
  | (n, k) :: r, x, k', h => by
    have ih := @relabel_kind env r x k'
    have h : List.lookup x ((if (k == NameKind.free && env.scope.kind == .function && env.kindOf n == some .cell) = true then (n, NameKind.cell) else (n, k)) :: _) = some k' := h
    cases hx : x == n with
    | true =>
      by_cases hc : (k == NameKind.free && env.scope.kind == .function && env.kindOf n == some .cell) = true
      · rw [if_pos hc, List.lookup_cons, hx] at h
        cases h
        have hk : k = .free := by
          simp only [Bool.and_eq_true] at hc
          simpa using hc.1.1
        exact ⟨k, by rw [List.lookup_cons, hx], .inr ⟨hk, rfl⟩⟩
      · rw [if_neg hc, List.lookup_cons, hx] at h
        cases h
        exact ⟨k, by rw [List.lookup_cons, hx], .inl rfl⟩
    | false =>
      obtain ⟨k2, e, q⟩ := ih (by
        by_cases hc : (k == NameKind.free && env.scope.kind == .function && env.kindOf n == some .cell) = true
        · rw [if_pos hc, List.lookup_cons, hx] at h; exact h
        · rw [if_neg hc, List.lookup_cons, hx] at h; exact h)
      exact ⟨k2, by rw [List.lookup_cons, hx]; exact e, q⟩
/-- the context of the block -/
def compCxF (X : Cx) (scope : Scope) (N : List Str) (cl : List (Str × Addr)) (C : Addr) (s₀ : Shared) (H₀ : Hp) (ex : List Addr) : Cx :=
  { X with N := N, s₀ := s₀, H₀ := H₀, env := compEnvC scope cl C X.env, outer := X.stack, stack := X.stack, ex := ex, fn := fun _ => false, pn := [], xe := fun _ _ => False }
/-- the names at the block's entry: its own have no value yet, those of the def have theirs -/
def startF (σ : L2.St) (n : Nat) (js : List Nat) : L2.St := List.replicate n none ++ js.map fun j => (σ[j]?).getD none
/-- the tests of a clause -/
def ifsOf (ifs : List Expr) (env : Env) : Sem Bool := forIn ifs true fun c r => if r = true then do let ok ← isTrue c env (eval c env); pure (ForInStep.yield ok) else pure (ForInStep.yield r)
structure PIfs (X : Cx) (ifs : List Expr) (t : TT) : Prop where
  run : ∀ (pins : List (Addr × Obj)) (s : Shared) (σ : L2.St) (H : Hp) (Q : Bool → Hp → Prop), Inv X pins σ H s → t σ H Q → wpAny (model X.prog X.w) X.A (ifsOf ifs X.env) (TP X pins σ Q) X.xe s
def tYes : TT := fun _ H Q => Q true H
theorem pf_nil {X : Cx} : PIfs X [] tYes := ⟨fun pins s σ H Q I h => wpAny_tests_nil ⟨H, I, h⟩⟩
theorem pf_one {X : Cx} {c : Expr} {t : TT} (h : PT X c t) : PIfs X [c] t := ⟨fun pins s σ H Q I q => wpAny_tests_one (h pins s σ H Q I q)⟩
/-- scope and names fit: fv are names of the def (its cells), at the places js of its own names -/
structure CompSc (X : Cx) (scope : Scope) (fv : List Str) (js : List Nat) : Prop where
  kind : scope.kind = .function
  cell : ∀ q ∈ scope.names, q.2 ≠ .cell
  names : ∀ q ∈ scope.names, q.2 = .local → scope.names.lookup q.1 = some .local
  free : ∀ q ∈ scope.names, q.2 = .free → q.1 ∈ fv
  out : ∀ x ∈ fv, X.env.kindOf x = some .cell ∨ X.env.kindOf x = some .free
  at' : js.map (fun j => X.N[j]?) = fv.map some
  fr : ∀ x ∈ fv, scope.names.lookup x = some .free
section
variable {X : Cx} {pins : List (Addr × Obj)} {σ : L2.St} {H : Hp} {s : Shared} {scope : Scope} {N : List Str} {C : Addr} {ex : List Addr} {cl : List (Str × Addr)} {fv tg : List Str} {js : List Nat}
theorem CompSc.clos (S : CompSc X scope fv js) (ok : X.Ok) : closureFor scope X.env = pure (closOf X.env.cells scope.names []) := closure_is fun q hq e => ok.has q.1 (S.out q.1 (S.free q hq e))
theorem CompSc.sub (S : CompSc X scope fv js) (ok : X.Ok) : ∀ x c, (closOf X.env.cells scope.names []).lookup x = some c → X.env.cells.lookup x = some c :=
  closOf_sub (fun q hq e => ok.has q.1 (S.out q.1 (S.free q hq e))) (fun x c e => by cases e)
theorem comp_okF (I : Inv X pins σ H s) (S : CompSc X scope fv js) (hC : s.heap.objs.size ≤ C)
    (hf : ∀ b ∈ ex, FpOk X pins H b) (ho : ∀ b ∈ ex, ∃ o, s.heap.get? b = some o) : (compCxF X scope N (closOf X.env.cells scope.names []) C s H ex).Ok := by
  have sub := S.sub I.ok
  refine ⟨I.ok.mod, S.kind, I.ok.glob, I.ok.blt, hC, fun x y c e1 e2 => I.ok.inj x y c (sub x c e1) (sub y c e2), fun x hx => ?_, fun x c z _ => Bool.noConfusion z, I.ok.hd, I.ok.frames, .inl rfl, fun b hb => ⟨?_, fun x c e => ?_⟩, I.bs, Nat.le_trans I.ok.bsz I.sz, fun b o e hb => ?_, fun b hb hm => ?_, I.stack, I.stkFree⟩
  · have e : ∃ k', (relabel scope X.env).names.lookup x = some k' ∧ (k' = .cell ∨ k' = .free) := by
      rcases hx with z | z
      · exact ⟨_, z, .inl rfl⟩
      · exact ⟨_, z, .inr rfl⟩
    obtain ⟨k', e, hk⟩ := e
    obtain ⟨k, e2, q⟩ := relabel_kind e
    have hk2 : k = .free := by
      rcases q with rfl | ⟨rfl, _⟩
      · rcases hk with rfl | rfl
        · exact absurd rfl (S.cell _ (PySem.mem_of_lookup e2))
        · rfl
      · rfl
    subst hk2
    exact closOf_has (.inl (PySem.mem_of_lookup e2))
  · obtain ⟨o, e⟩ := ho b hb
    exact Nat.ne_of_lt (Nat.lt_of_lt_of_le (Heap.lt_size e) hC)
  · obtain ⟨_, _, _, _, q, _⟩ := hf b hb
    exact q x c (sub x c e)
  · obtain ⟨_, _, _, q, _⟩ := hf b hb
    rcases q with q | q
    · exact I.ok.noex b o e q
    · exact absurd (Nat.lt_of_lt_of_le (Heap.lt_size e) (Nat.le_trans I.ok.bsz q)) (Nat.lt_irrefl _)
  · obtain ⟨_, q1, q2, _⟩ := hf b hb
    rcases List.mem_cons.mp (I.stkSub b hm) with z | z
    · exact q1 z
    · exact q2 z
theorem comp_startF {D : Addr} {h' : Heap} {t' : Nat} {m : Str → Option Value} (I : Inv X pins σ H s) (S : CompSc X scope fv js) (ok : (compCxF X scope (tg ++ fv) (closOf X.env.cells scope.names []) C s H ex).Ok) (hk : ∀ b o, s.heap.get? b = some o → h'.get? b = some o) (hD : s.heap.get? D = none) (hC : s.heap.get? C = none) (hDC : D ≠ C)
    (hl : h'.get? D = some { cls := .type "list", data := .seq #[] }) (hn : h'.Ns C m) : Inv (compCxF X scope (tg ++ fv) (closOf X.env.cells scope.names []) C s H ex) [] (startF σ tg.length js) (upd H D (.lst [])) { s with heap := h', toks := t' } := by
  have nD := inv_none I hD
  have neD : ∀ b u, s.heap.get? b = some u → b ≠ D := fun b u e z => by rw [z, hD] at e; cases e
  have sub := S.sub I.ok
  have cellK : ∀ c v, s.heap.IsCell c v → h'.IsCell c v := fun c v ⟨o, ho, hd⟩ => ⟨o, hk c o ho, hd⟩
  have hlen : js.length = fv.length := by have := congrArg List.length S.at'; simpa using this
  refine ⟨ok, rfl, I.bare, ⟨fun b u q _ _ _ => hk b u q, fun b u q _ _ _ => ⟨u.slots, hk b u q⟩, fun b u q n _ => by rw [upd_ne (neD b u q)]; exact n, fun b u q _ => ⟨u, hk b u q⟩, fun b xs q => by rw [upd_ne (ne_of_none q nD)]; exact q,
    fun b u xs q => by rw [upd_ne (ne_of_none q nD)]; exact q, fun b ps (q : H b = _) => ⟨#[], by rw [upd_ne (ne_of_none q nD), q]; simp⟩⟩, ⟨m, hn, fun i x v e1 e2 e3 => ?_⟩, fun x c e => ?_, ?_, fun x c e => ?_, fun p hp => (by cases hp), fun b u e => ?_, by simp [compCxF, startF, hlen]⟩
  · have e1 : (tg ++ fv)[i]? = some x := e1
    rcases Nat.lt_or_ge i tg.length with hi | hi
    · rw [startF, List.getElem?_append_left (by simpa using hi), List.getElem?_replicate, if_pos hi] at e2
      cases e2
    · rw [List.getElem?_append_right hi] at e1
      rw [startF, List.getElem?_append_right (by simpa using hi), List.length_replicate, List.getElem?_map] at e2
      obtain ⟨j, hj, e2⟩ := Option.map_eq_some_iff.mp e2
      have hσ : σ[j]? = some (some v) := by
        cases q : σ[j]? with
        | none => rw [q] at e2; cases e2
        | some z => rw [q] at e2; exact congrArg some e2
      have hN : X.N[j]? = some x := by
        have q := congrArg (fun l => l[i - tg.length]?) S.at'
        simp only [List.getElem?_map, hj, e1, Option.map_some] at q
        exact Option.some.inj q
      have hx : x ∈ fv := List.mem_of_getElem? e1
      have ko := S.out x hx
      obtain ⟨m0, _, hl0⟩ := I.loc
      have vis : Vis X.env.scope x := ko.elim (fun z => .inr (.inl z)) fun z => .inr (.inr z)
      obtain ⟨u, ru, lk⟩ := hl0 j x v hN hσ vis
      obtain ⟨c, hc, hcell⟩ : ∃ c, X.env.cells.lookup x = some c ∧ s.heap.IsCell c (some u) := by
        rcases lk with ⟨z, _⟩ | ⟨_, q⟩
        · rcases ko with y | y <;> (rw [y] at z; cases z)
        · exact q
      obtain ⟨c2, hc2⟩ : ∃ c2, (closOf X.env.cells scope.names []).lookup x = some c2 := closOf_has (.inl (PySem.mem_of_lookup (S.fr x hx)))
      have ec : c2 = c := by have := sub x c2 hc2; rw [hc] at this; exact (Option.some.inj this).symm
      subst ec
      refine ⟨u, ru, .inr ⟨?_, c2, hc2, cellK _ _ hcell⟩⟩
      have e3 : (relabel scope X.env).names.lookup x = some .local ∨ (relabel scope X.env).names.lookup x = some .cell ∨ (relabel scope X.env).names.lookup x = some .free := e3
      rcases e3 with z | z | z
      · obtain ⟨k, ek, q⟩ := relabel_kind z
        rw [S.fr x hx] at ek
        cases ek
        rcases q with q | ⟨_, q⟩ <;> cases q
      · exact .inl z
      · exact .inr z
  · obtain ⟨v, z⟩ := I.cell x c (sub x c e)
    exact ⟨v, cellK c v z⟩
  · show upd H D (.lst []) C = none
    rw [upd_ne (Ne.symm hDC)]
    exact inv_none I hC
  · obtain ⟨v, o, ho, _⟩ := I.cell x c (sub x c e)
    rw [upd_ne (neD c o ho)]
    exact I.freeC x c (sub x c e)
  · by_cases hb : b = D
    · subst hb
      rw [upd_same] at e
      cases e
      exact ⟨Nat.zero_le _, [], _, .nil, hl⟩
    · rw [upd_ne hb] at e
      exact (I.hok b u e).stay (fun c v _ q => hk c v q) (fun c q => by rw [upd_ne (ne_of_none q nD)]; exact q) fun c xs q => by rw [upd_ne (ne_of_none q nD)]; exact q
end
theorem comp_loopF {prog : Program} {w : World} {A : Around} {s : Shared} {R : Result → Shared → Prop} {elt target iter : Expr} {ifs : List Expr} {scope : Scope} {pos : Pos} {it acc : Value} {env : Env} (I : Nat → Shared → Prop)
    (turn : ∀ n s, I n s → wpAny (model prog w) A (pyNext it) (fun r s1 => (r = none ∧ R (.ok .next) s1) ∨ ∃ v, r = some v ∧ wpAny (model prog w) A (letOwnedTupleGo target it v) (fun _ s2 => wpAny (model prog w) A (assign target env v) (fun _ s3 =>
      wpAny (model prog w) A (ifsOf ifs env) (fun ok s4 => if ok = true then wpAny (model prog w) A (eval elt env) (fun x s5 => wpAny (model prog w) A (call (.builtin "list.append") [acc, x]) (fun _ s6 => ∃ m, m < n ∧ I m s6) (fun _ _ => False) s5) (fun _ _ => False) s4
        else ∃ m, m < n ∧ I m s4) (fun _ _ => False) s3) (fun _ _ => False) s2) (fun _ _ => False) s1) (fun _ _ => False) s)
    (n : Nat) (h : I n s) : codeAny (model prog w) A (.compLoop (.ListComp elt [⟨target, iter, ifs, 0⟩] scope pos) 0 it acc env) R s := by
  have no : ∀ {α : Type} {E : Value → Shared → Prop} {t : Sem α} {Q : α → Shared → Prop} {u : Shared}, wpAny (model prog w) A t Q (fun _ _ => False) u → wpAny (model prog w) A t Q E u := fun z => wpAny_mono z (fun _ _ q => q) fun _ _ q => q.elim
  refine codeAny_loop rfl I (fun n s hI => wpAny_noted ?_) n h
  rw [compTurn_list]
  refine wpAny_bind (wpAny_standAt (wpAny_bind (wpAny_mono (turn n s hI) (fun r s1 q => ?_) fun _ _ z => z.elim)))
  rcases q with ⟨rfl, q⟩ | ⟨v, rfl, q⟩
  · exact wpAny_pure q
  · refine wpAny_bind (no (thn q fun _ s2 q2 => wpAny_bind (no (thn q2 fun _ s3 q3 => wpAny_bind (no (thn q3 fun ok s4 q4 => ?_))))))
    cases ok with
    | false => exact wpAny_pure ⟨rfl, q4⟩
    | true => exact wpAny_bind (wpAny_bind (no (thn q4 fun x s5 q5 => wpAny_bind (no (thn q5 fun _ s6 q6 => wpAny_pure (wpAny_pure ⟨rfl, q6⟩))))))
def compQF (σ0 : L2.St) (J : It) (g : TG) (tc : TT) (te : TE) (Q : VK) (H1 : Hp) : Prop := ∀ D, H1 D = none → ∃ W : Nat → Nat → List V → L2.St → Hp → Prop, (∃ m, W 0 m [] σ0 (upd H1 D (.lst []))) ∧ ∀ i m ys τ H, W i m ys τ H → H D = some (.lst ys) ∧
  ((J.stop i H ∧ Q (.ref D) H) ∨ (J.go i H ∧ ys.length < sizeLine ∧ ∀ v H', J.yld i H v H' → g v τ H' fun τ2 H2 => tc τ2 H2 fun ok H3 => if ok = true then te τ2 H3 fun y H4 => H4 D = some (.lst ys) ∧ ∃ m', m' < m ∧ W (i + 1) m' (ys ++ [y]) τ2 (upd H4 D (.lst (ys ++ [y])))
    else ∃ m', m' < m ∧ W (i + 1) m' ys τ2 H3))
section
variable {X : Cx} {pins : List (Addr × Obj)} {σ : L2.St} {H : Hp} {s : Shared} {scope : Scope} {fv : List Str} {js : List Nat} {target iter elt : Expr} {ifs : List Expr} {pos : Pos} {g : TG} {tc : TT} {te : TE}
theorem comp_blockF {E : Value → Shared → Prop} {J : It} {fp : List Addr} {it : Addr} {tn : Nat → Heap → Prop} {Q : VK} {RR : Value → Addr → Result → Shared → Prop} (tg : List Str) (I : Inv X pins σ H s) (hc : X.calm = true)
    (S : CompSc X scope fv js) (T : Turn X.prog X.w X.K target J fp it tn) (st : tn 0 s.heap) (hf : ∀ b ∈ fp, FpOk X pins H b)
    (hg : ∀ cl C s₀ H₀ ex, PG (compCxF X scope (tg ++ fv) cl C s₀ H₀ ex) target g) (hi : ∀ cl C s₀ H₀ ex, PIfs (compCxF X scope (tg ++ fv) cl C s₀ H₀ ex) ifs tc) (he : ∀ cl C s₀ H₀ ex, PE (compCxF X scope (tg ++ fv) cl C s₀ H₀ ex) elt te) (q : compQF (startF σ tg.length js) J g tc te Q H)
    (hRR : ∀ D C H' s' m, s'.os = s.os → AllBare s'.gens → Un (frs X.stack) fp H H' s.heap s'.heap → HOk X.prog X.w H' s'.heap → s'.heap.Ns C m → H' C = none → s.heap.objs.size ≤ C → Q (.ref D) H' → RR (.ref D) C (.ok .next) s') :
    wpAny (model X.prog X.w) X.A (newList []) (fun acc s3 => wpAny (model X.prog X.w) X.A (newFunctionEnv scope X.env.globals (closOf X.env.cells scope.names []) [] X.env.qual none .none (some X.env)) (fun cenv s4 =>
      codeAny (model X.prog X.w) X.A (.compStart (.ListComp elt [⟨target, iter, ifs, 0⟩] scope pos) 0 (.ref it) acc { cenv with scope := relabel scope X.env }) (RR acc cenv.locals) s4) E s3) E s := by
  refine wpAny_newObj_type (wpAny_newFunctionEnv S.cell (by intro y hy; simp at hy) (fun h1 hn k1 => ?_) S.kind)
  dsimp only at hn k1 ⊢
  generalize hg2 : s.heap.push { cls := .type "list", dict := none, data := .seq ([] : List Value).toArray } = g2 at hn k1 ⊢
  have hC : g2.objs.size = s.heap.objs.size + 1 := by rw [← hg2, Heap.size_push]
  have hDC : s.heap.objs.size ≠ g2.objs.size := by rw [hC]; exact Nat.ne_of_lt (Nat.lt_succ_self _)
  have hle : s.heap.objs.size ≤ g2.objs.size := by rw [hC]; exact Nat.le_succ _
  have nD : s.heap.get? s.heap.objs.size = none := Heap.get?_none_of_le (Nat.le_refl _)
  have nC : s.heap.get? g2.objs.size = none := Heap.get?_none_of_le hle
  have old : ∀ b o, s.heap.get? b = some o → h1.get? b = some o := fun b o e => k1.extBut b o (Nat.ne_of_lt (Nat.lt_of_lt_of_le (Heap.lt_size e) hle)) (Heap.get?_push_of_some _ (hg2 ▸ Heap.get?_push_of_some _ e))
  have hl : h1.get? s.heap.objs.size = some { cls := .type "list", data := .seq #[] } := k1.extBut _ _ hDC (Heap.get?_push_of_some _ (hg2 ▸ Heap.get?_push_size _ rfl))
  have ob := T.obj 0 s.heap st
  generalize hcl : closOf X.env.cells scope.names [] = cl
  have ok : (compCxF X scope (tg ++ fv) cl g2.objs.size s H fp).Ok := hcl ▸ comp_okF I S hle hf fun b hb => let ⟨o, e, _⟩ := ob b hb; ⟨o, e⟩
  have I0 : Inv (compCxF X scope (tg ++ fv) cl g2.objs.size s H fp) [] (startF σ tg.length js) (upd H s.heap.objs.size (.lst [])) { s with heap := h1, toks := s.toks + ([] : List (Str × Value)).length } := by
    subst hcl
    exact comp_startF I S ok old nD nC hDC hl hn
  have st1 : tn 0 h1 := T.keep 0 _ _ st fun b _ o e => old b o e
  obtain ⟨W, ⟨m0, w0⟩, turn⟩ := q _ (inv_none I nD)
  have fpok : ∀ {H' : Hp} {ps : List (Addr × Obj)}, (∀ p ∈ ps, p.1 ∉ fp) → (∀ b ∈ fp, H' b = none) → ∀ b ∈ fp, FpOk (compCxF X scope (tg ++ fv) cl g2.objs.size s H fp) ps H' b := fun hps hn b hb => ⟨hn b hb, (ok.exf b hb).1, ok.exfs b hb, .inl hb, (ok.exf b hb).2, fun p hp z => hps p hp (z ▸ hb)⟩
  have loop : codeAny (model X.prog X.w) X.A (.compLoop (.ListComp elt [⟨target, iter, ifs, 0⟩] scope pos) 0 (.ref it) (.ref s.heap.objs.size) (compEnvC scope cl g2.objs.size X.env)) (RR (.ref s.heap.objs.size) g2.objs.size) { s with heap := h1, toks := s.toks + ([] : List (Str × Value)).length } := by
    refine comp_loopF (fun n s' => ∃ i ys τ H', Inv (compCxF X scope (tg ++ fv) cl g2.objs.size s H fp) [] τ H' s' ∧ tn i s'.heap ∧ (∀ b ∈ fp, H' b = none) ∧ W i n ys τ H') (fun n s' hI => ?_) m0 ⟨0, [], _, _, I0, st1, fun b hb => ?_, w0⟩
    · obtain ⟨i, ys, τ, H', I1, t1, f1, w1⟩ := hI
      obtain ⟨hD, w1⟩ := turn i n ys τ H' w1
      rcases w1 with ⟨stop, qn⟩ | ⟨go, hz, step⟩
      · refine thn (T.done (compCxF X scope (tg ++ fv) cl g2.objs.size s H fp) rfl rfl rfl hc i [] s' τ H' _ I1 (fpok (by simp) f1) t1 stop) fun r s2 ⟨hr, I2⟩ => .inl ⟨hr, ?_⟩
        obtain ⟨m, hn2, _⟩ := I2.loc
        exact hRR _ _ H' s2 m I2.os I2.bare I2.base I2.hok hn2 I2.free hle qn
      · refine thn (T.item (compCxF X scope (tg ++ fv) cl g2.objs.size s H fp) rfl rfl rfl hc i [] s' τ H' _ I1 (fpok (by simp) f1) t1 go) fun r s2 ⟨u, hr, h2⟩ => .inr ⟨u, hr, thn h2 fun _ s3 ⟨x, H3, I3, r3, y3, t3, f3⟩ => ?_⟩
        have I3' := I3.pinned (fpok (by simp) f3) (T.obj _ _ t3)
        have back : ∀ {s6 : Shared} {τ4 : L2.St} {H6 : Hp}, Inv (compCxF X scope (tg ++ fv) cl g2.objs.size s H fp) ([] ++ pinsAt fp s3.heap) τ4 H6 s6 → tn (i + 1) s6.heap ∧ ∀ b ∈ fp, H6 b = none := fun I6 =>
          ⟨T.keep _ _ _ t3 fun b hb o e => (I6.pin (b, o) (List.mem_append_right _ (List.mem_append_right _ (mem_pinsAt hb e)))).1, fun b hb => by
            obtain ⟨o, e, _⟩ := T.obj _ _ t3 b hb
            exact (I6.pin (b, o) (List.mem_append_right _ (List.mem_append_right _ (mem_pinsAt hb e)))).2.1⟩
        refine thn ((hg _ _ _ _ _) _ s3 τ H3 x u _ I3' r3 (step x H3 y3)) fun _ s4 ⟨τ4, H4, I4, q4⟩ => ?_
        refine thn ((hi _ _ _ _ _).run _ s4 τ4 H4 _ I4 q4) fun b s5 ⟨H5, I5, q5⟩ => ?_
        cases b with
        | false =>
          obtain ⟨m', hm, w5⟩ := (show ∃ m', m' < n ∧ W (i + 1) m' ys τ4 H5 from q5)
          obtain ⟨b1, b2⟩ := back I5
          exact ⟨m', hm, i + 1, _, τ4, _, I5.unpinned, b1, b2, w5⟩
        | true =>
          refine thn ((he _ _ _ _ _) _ s5 τ4 H5 _ I5 q5) fun z s6 ⟨y, H6, I6, r6, hD6, m', hm, w6⟩ => ?_
          refine thn (mt_append _ s6 τ4 H6 (.ref s.heap.objs.size) [y] (.ref s.heap.objs.size) [z] (fun _ H7 => H7 = upd H6 s.heap.objs.size (.lst (ys ++ [y]))) I6 rfl (.cons r6 .nil) ⟨_, ys, y, rfl, rfl, hD6, hz, rfl⟩) fun _ s7 ⟨v7, H7, I7, _, e7⟩ => ?_
          subst e7
          obtain ⟨b1, b2⟩ := back I7
          exact ⟨m', hm, i + 1, _, τ4, _, I7.unpinned, b1, b2, w6⟩
    · obtain ⟨o, e, _⟩ := ob b hb
      rw [upd_ne (Nat.ne_of_lt (Heap.lt_size e))]
      exact (hf b hb).1
  exact codeAny_compStart_list loop (T.self _ 0 _ _ _ st1 loop)
def tCompF (n : Nat) (js : List Nat) (wi : TI) (g : TG) (tc : TT) (te : TE) : TE := fun σ H Q => wi σ H fun J H1 => compQF (startF σ n js) J g tc te Q H1
theorem pe_compF {wi : TI} (tg : List Str) (hc : X.calm = true) (S : CompSc X scope fv js) (hi : PI X target iter wi)
    (hg : ∀ cl C s₀ H₀ ex, PG (compCxF X scope (tg ++ fv) cl C s₀ H₀ ex) target g) (hf : ∀ cl C s₀ H₀ ex, PIfs (compCxF X scope (tg ++ fv) cl C s₀ H₀ ex) ifs tc) (he : ∀ cl C s₀ H₀ ex, PE (compCxF X scope (tg ++ fv) cl C s₀ H₀ ex) elt te) (hs : ∀ x, foldedSetIterable iter X.env x = pure x := by intro _; rfl) :
    PE X (.ListComp elt [⟨target, iter, ifs, 0⟩] scope pos) (tCompF tg.length js wi g tc te) := by
  constructor; intro pins s σ H Q I h
  rw [eval_ListComp]
  refine wpAny_comprehension_free (use := none) rfl hs (S.clos I.ok) S.kind S.names (thn (hi pins s σ H _ I h) fun v s1 h1 => thn h1 fun itv s2 h2 => ?_)
  obtain ⟨it, fp, tn, J, H2, rfl, I2, T, st2, f2, q⟩ := h2
  refine comp_blockF (RR := fun acc C => compPost (model X.prog X.w) X.A X.xe none (EP X pins σ Q) acc C) tg I2 hc S T st2 f2 hg hf he q fun D C H' s' m os bare un hok hn nC hC qq => ⟨m, hn, fun h' k => ?_⟩
  obtain ⟨IX, fC⟩ := comp_after I2 f2 os bare un hok nC hC
  exact ⟨.ref D, H', inv_but IX fC k, rfl, qq⟩
/-- y = [..] -/
theorem ps_compF {wi : TI} {i : Nat} {y : Str} {py spos : Pos} (tg : List Str) (hc : X.calm = true) (hN : X.N.Nodup) (hy : X.N[i]? = some y) (hk : X.env.scope.names.lookup y = some .local) (S : CompSc X scope fv js) (hi : PI X target iter wi)
    (hsw : swapsWith (.ListComp elt [⟨target, iter, ifs, 0⟩] scope pos) (some (.Name y py)) spos.line X.env = pure true)
    (hg : ∀ cl C s₀ H₀ ex, PG (compCxF X scope (tg ++ fv) cl C s₀ H₀ ex) target g) (hf : ∀ cl C s₀ H₀ ex, PIfs (compCxF X scope (tg ++ fv) cl C s₀ H₀ ex) ifs tc) (he : ∀ cl C s₀ H₀ ex, PE (compCxF X scope (tg ++ fv) cl C s₀ H₀ ex) elt te) (hs : ∀ x, foldedSetIterable iter X.env x = pure x := by intro _; rfl) :
    PS X (.Assign [.Name y py] (.ListComp elt [⟨target, iter, ifs, 0⟩] scope pos) spos) (fun D σ H => tCompF tg.length js wi g tc te σ H fun v H1 => D.nx (σ.set i (some v)) H1) := by
  constructor; intro pins s σ H D I h
  rw [exec_Assign_Name_used _ _ _ _ hsw]
  refine wpAny_bind (wpAny_standAt (wpAny_bind (wpAny_bind (wpAny_mono (Q := fun _ s' => SP X pins D .next s') (E := X.xe) (wpAny_comprehension_free (use := some (assign (.Name y py) X.env)) rfl hs (S.clos I.ok) S.kind S.names
    (thn (hi pins s σ H _ I h) fun v s1 h1 => thn h1 fun itv s2 h2 => ?_)) (fun _ s' q => wpAny_pure (wpAny_pure q)) fun _ _ z => z))))
  obtain ⟨it, fp, tn, J, H2, rfl, I2, T, st2, f2, q⟩ := h2
  refine comp_blockF (RR := fun acc C => compPost (model X.prog X.w) X.A X.xe (some (assign (.Name y py) X.env)) (fun _ s' => SP X pins D .next s') acc C) tg I2 hc S T st2 f2 hg hf he q fun L C H' s' m os bare un hok hn nC hC qq => ?_
  obtain ⟨IX, fC⟩ := comp_after I2 f2 os bare un hok nC hC
  refine wpAny_assign_Name (store_ok2 IX hN hy (.inl hk) (v := .ref L) rfl (fun s3 I3 ⟨a, k3, ha⟩ => ?_) (.inr hk))
  have ne : C ≠ a := by
    rcases ha with z | z
    · rw [z]; exact fC.2.1
    · exact fun w' => fC.2.2.2.2.1 y a z w'.symm
  exact ⟨m, hn.sameBut k3 ne, fun h' k => ⟨_, H', inv_but I3 fC k, qq⟩⟩
end
theorem allc_nil {α : Type} {P : α → Prop} : ∀ x ∈ ([] : List α), P x := fun _ h => by cases h
theorem allc_cons {α : Type} {P : α → Prop} {a : α} {l : List α} (h : P a) (t : ∀ x ∈ l, P x) : ∀ x ∈ a :: l, P x := fun x hx => by
  rcases List.mem_cons.mp hx with e | e
  · exact e ▸ h
  · exact t x e
/-- forms that name the module's facts: for a block's context -/
theorem ix_tupK {X : Cx} {K : PySem.W.Frag} (hK : X.K = K) : IxR X (rIxT K) := hK ▸ ix_tup
/-- what is gathered: of each turn one element, or none -/
theorem compQF_map {σ0 fs : L2.St} {k : Nat} {J : It} {g : TG} {tc : TT} {te : TE} {Q : VK} {H1 : Hp} (n : Nat) (f : Nat → Option V) (h0 : σ0 = List.replicate k none ++ fs) (hz : n ≤ sizeLine) (hgo : ∀ i H, Same H1 H → i < n → J.go i H) (hstop : ∀ H, Same H1 H → J.stop n H)
    (step : ∀ i H (ts : L2.St) v H' (R : Option V → L2.St → Hp → Prop), Same H1 H → i < n → ts.length = k → J.yld i H v H' → (∀ (ts2 : L2.St) H3, ts2.length = k → Same H H3 → R (f i) (ts2 ++ fs) H3) →
      g v (ts ++ fs) H' fun τ2 H2 => tc τ2 H2 fun ok H3 => if ok = true then te τ2 H3 fun y H4 => R (some y) τ2 H4 else R none τ2 H3)
    (fin : ∀ D H', H1 D = none → Same H1 H' → H' D = some (.lst ((List.range n).filterMap f)) → Q (.ref D) H') : compQF σ0 J g tc te Q H1 := by
  intro D hD
  refine ⟨fun i m ys τ H => m = n - i ∧ i ≤ n ∧ ys = (List.range i).filterMap f ∧ (∃ ts : L2.St, ts.length = k ∧ τ = ts ++ fs) ∧ Same H1 H ∧ H D = some (.lst ys), ⟨n, rfl, Nat.zero_le _, rfl, ⟨_, List.length_replicate, h0⟩, Same.upd hD, upd_same⟩, ?_⟩
  rintro i m ys τ H ⟨rfl, hi, rfl, ⟨ts, ht, rfl⟩, ss, hd⟩
  refine ⟨hd, ?_⟩
  by_cases hlt : i < n
  · have hl : ((List.range i).filterMap f).length < sizeLine := Nat.lt_of_le_of_lt (List.length_filterMap_le _ _) (by rw [List.length_range]; omega)
    refine .inr ⟨hgo i H ss hlt, hl, fun v H' y => step i H ts v H' (fun o τ2 H3 => match o with
      | some y => H3 D = some (.lst ((List.range i).filterMap f)) ∧ ∃ m', m' < n - i ∧ m' = n - (i + 1) ∧ i + 1 ≤ n ∧ (List.range i).filterMap f ++ [y] = (List.range (i + 1)).filterMap f ∧ (∃ ts : L2.St, ts.length = k ∧ τ2 = ts ++ fs) ∧ Same H1 (upd H3 D (.lst ((List.range i).filterMap f ++ [y]))) ∧ upd H3 D (.lst ((List.range i).filterMap f ++ [y])) D = some (.lst ((List.range i).filterMap f ++ [y]))
      | none => ∃ m', m' < n - i ∧ m' = n - (i + 1) ∧ i + 1 ≤ n ∧ (List.range i).filterMap f = (List.range (i + 1)).filterMap f ∧ (∃ ts : L2.St, ts.length = k ∧ τ2 = ts ++ fs) ∧ Same H1 H3 ∧ H3 D = some (.lst ((List.range i).filterMap f))) ss hlt ht y fun ts2 H3 h2 s3 => ?_⟩
    cases e : f i with
    | none =>
      refine ⟨n - (i + 1), by omega, rfl, hlt, ?_, ⟨ts2, h2, rfl⟩, ss.trans s3, s3 _ _ hd⟩
      rw [List.range_succ, List.filterMap_append]
      simp [e]
    | some y =>
      refine ⟨s3 _ _ hd, n - (i + 1), by omega, rfl, hlt, ?_, ⟨ts2, h2, rfl⟩, (ss.trans s3).again hD, upd_same⟩
      rw [List.range_succ, List.filterMap_append]
      simp [e]
  · have e : i = n := by omega
    subst e
    exact .inl ⟨hstop H ss, fin D H hD ss hd⟩
end My
/-! ### dicts: d.setdefault(k, x), sorted(d); any(xs); forms for a block's context -/
namespace My
open PySem PySem.Spec PyProof.Rows L2
section
variable {X : Cx} {pins : List (Addr × Obj)} {σ : L2.St} {H : Hp} {s : Shared} {a : Addr} {kvs : List (Key × V)} {k : Key} {u r : Value} {d : V} {A : Around} {E : Value → Shared → Prop}
theorem d_setdef {Q : Value → Shared → Prop} (I : Inv X pins σ H s) (e : H a = some (.dK kvs)) (ry : RelV (kV k) u) (rd : RelV d r) (hl : kvs.length < sizeLine) (h1 : ∀ v w' s', valV kvs k = some v → Inv X pins σ H s' → RelV v w' → Q w' s')
    (h2 : valV kvs k = none → ∀ s', Inv X pins σ (upd H a (.dK (putK kvs k d))) s' → Q r s') : wpAny (model X.prog X.w) A (call (.builtin "dict.setdefault") [.ref a, u, r]) Q E s := by
  obtain ⟨z, hd, vs, rel, dd⟩ := dk_of I.hok e
  refine call_meetsIn PySem.F.slot_dict_setdefault dd.typeIs PySem.F.entry_dict_setdefault (PySem.F.args_dict_setdefault_3 _ _ _) (kt_meets_setdefault (mixKind X.prog X.w) a (kV_is ry) hd r) ⟨vs, dd, by rw [← rel.length]; exact z, fun v hv => ?_, fun hn h' dd' hs => ?_⟩
  · have q := rel.val k
    cases e2 : valV kvs k with
    | none => rw [e2] at q; rw [RelO.none_of q] at hv; cases hv
    | some y =>
      rw [e2] at q
      obtain ⟨w', hw, rw'⟩ := RelO.some_of (v := y) q
      rw [hw] at hv
      cases hv
      exact h1 y _ _ e2 (I.tok _) rw'
  · have q := rel.val k
    cases e2 : valV kvs k with
    | some y =>
      rw [e2] at q
      obtain ⟨w', hw, _⟩ := RelO.some_of (v := y) q
      rw [hw] at hn
      cases hn
    | none =>
      refine h2 e2 _ ?_
      have he : ∃ q, h'.get? a = some q := let ⟨q, _, _, hq, _⟩ := dd'; ⟨q, hq⟩
      have hz : (putK kvs k d).length ≤ sizeLine := by have := length_putK kvs k d; omega
      exact d_write I (by rw [e]; exact True.intro) hs he (dk_new hz hd (rel.put k rd) dd')
end
def tDSet (td ty tx : TE) : TE := fun σ H Q => td σ H fun x H1 => ∃ a, x = .ref a ∧ IsD H1 a ∧ ty σ H1 fun y H2 => tx σ H2 fun z H3 => ∃ kvs k, H3 a = some (.dK kvs) ∧ y = kV k ∧ kvs.length < sizeLine ∧
  (∀ v, valV kvs k = some v → Q v H3) ∧ (valV kvs k = none → Q z (upd H3 a (.dK (putK kvs k z))))
section
variable {X : Cx} {o e f : Expr} {td ty tx : TE} {apos cpos : Pos}
theorem pe_dset (ho : PE X o td) (he : PE X e ty) (hf : PE X f tx) (m : M2 X o "setdefault" apos e f cpos) : PE X (.Call (.Attribute o "setdefault" apos) [e, f] [] cpos) (tDSet td ty tx) := by
  constructor; intro pins s σ H Q I h
  refine wpAny_Call_method m.base m.few m.line PySem.F.plainAttrs_dict PySem.F.slot_dict_setdefault PySem.F.type_dict_setdefault (thn (ho pins s σ H _ I h) fun u s1 ⟨x, H1, I1, rx, a, ex, d, q1⟩ => ?_)
  subst ex
  obtain rfl : u = Value.ref a := rx
  obtain ⟨t1, t2, _⟩ := isD_at I1 d
  refine ⟨t1, t2, ?_⟩
  rw [m.trees]
  refine Calls.callWith_builtin rfl (Calls.evalArgs_plain (Calls.spliced_cons (thn (he pins s1 σ H1 _ I1 q1) fun iv s2 ⟨y, H2, I2, ry, q2⟩ =>
    Calls.spliced_cons (thn (hf pins s2 σ H2 _ I2 q2) fun fv s3 ⟨z, H3, I3, rz, kvs, k, ea, ey, hl, q3, q4⟩ => Calls.spliced_nil ?_))))
  subst ey
  exact d_setdef I3 ea ry rz hl (fun v w' s4 l I4 rw' => ⟨v, H3, I4, rw', q3 v l⟩) fun l s4 I4 => ⟨z, _, I4, rz, q4 l⟩
/-- two risen lists of the same numbers are one -/
theorem risen_one : ∀ {a b : List Int}, a.Perm b → a.Pairwise (· ≤ ·) → b.Pairwise (· ≤ ·) → a = b
  | [], _, p, _, _ => (List.nil_perm.mp p).symm
  | x :: r, b, p, ha, hb => by
    cases b with
    | nil => exact absurd (List.perm_nil.mp p) (by simp)
    | cons y t =>
      rw [List.pairwise_cons] at ha hb
      have h1 : x ≤ y := by
        rcases List.mem_cons.mp (p.symm.subset List.mem_cons_self) with e | e
        · omega
        · exact ha.1 y e
      have h2 : y ≤ x := by
        rcases List.mem_cons.mp (p.subset List.mem_cons_self) with e | e
        · omega
        · exact hb.1 x e
      have e : x = y := by omega
      subst e
      rw [risen_one ((List.perm_cons x).mp p) ha.2 hb.2]
/-- the numbers risen -/
def risen (ks : List Int) : List Int := ks.mergeSort (· ≤ ·)
theorem risen_perm (ks : List Int) : (risen ks).Perm ks := List.mergeSort_perm ks _
theorem risen_rises (ks : List Int) : (risen ks).Pairwise (· ≤ ·) := by
  have := List.pairwise_mergeSort (le := fun a b : Int => decide (a ≤ b)) (fun a b c h1 h2 => by simp only [decide_eq_true_eq] at *; omega) (fun a b => by simp only [Bool.or_eq_true, decide_eq_true_eq]; omega) ks
  exact this.imp fun h => by simpa using h
theorem risen_is {ks ks' : List Int} (p : ks'.Perm ks) (h : ks'.Pairwise (· ≤ ·)) : ks' = risen ks := risen_one (p.trans (risen_perm ks).symm) h (risen_rises ks)
theorem ints_vals : ∀ {us : List Value} {ns : List Int}, IntsAre us ns → Vals (ns.map V.int) us
  | _, _, .nil => .nil
  | _, _, .cons _ _ t => .cons ⟨_, rfl⟩ (ints_vals t)
theorem intsAre_of : ∀ {us : List Value} {ns : List Int}, us.length = ns.length → (∀ (j : Nat) (v : Value), us[j]? = some v → ∃ n t, ns[j]? = some n ∧ v = Value.int n t) → IntsAre us ns
  | [], [], _, _ => .nil
  | [], _ :: _, h, _ => by simp at h
  | _ :: _, [], h, _ => by simp at h
  | u :: us, n :: ns, h, hv => by
    obtain ⟨m, t, e, rfl⟩ := hv 0 u rfl
    cases (show some n = some m from e)
    exact .cons _ _ (intsAre_of (by simpa using h) fun j v e => hv (j + 1) v (by simpa using e))
/-- o.f and d[k] in a block's context -/
theorem pe_fldK {K : PySem.W.Frag} {e : Expr} {ta : TE} {f : Str} {pos : Pos} (hK : X.K = K) (he : PE X e ta) (hb : attributeBase e f X.env (eval e X.env) = eval e X.env) : PE X (.Attribute e f pos) (tFld K ta f) := by
  subst hK
  exact pe_fld he hb
end
section
variable {K : PySem.W.Frag}
theorem kit_ll : PySem.W.kitOne K (.type "list") (.type "list") = some true := by
  show (if (Value.type "list" == Value.type "list") = true then some true else if PySem.W.kitMeta "list" = true then (fastBuiltinMro "list").map (·.contains (Value.type "list")) else none) = some true
  decide +kernel
end
/-- xs.append(y): the heap behind it by what it has -/
def rAppendA : V → List V → Hp → VK → Prop := fun x vs H Q => ∃ l xs y, x = .ref l ∧ vs = [y] ∧ H l = some (.lst xs) ∧ xs.length < sizeLine ∧ ∀ H', H' l = some (.lst (xs ++ [y])) → (∀ b o, b ≠ l → H b = some o → H' b = some o) → Q .non H'
theorem mt_appendA {X : Cx} : MtM X "list.append" rAppendA := by
  intro pins s σ H x vs v us Q I rx rv h
  obtain ⟨l, xs, y, ex, ev, hH, hz, q⟩ := h
  exact mt_append pins s σ H x vs v us Q I rx rv ⟨l, xs, y, ex, ev, hH, hz, q _ upd_same fun b o n e => by rw [upd_ne n]; exact e⟩
/-- xs[i] = v: the heap behind it by what it has -/
def rSetA : V → V → V → Hp → (Hp → Prop) → Prop := fun o i v H Q => ∃ p xs k j, o = .ref p ∧ i = .int k ∧ H p = some (.lst xs) ∧ ixN xs.length k = some j ∧ ∀ H', H' p = some (.lst (xs.set j v)) → (∀ b o, b ≠ p → H b = some o → H' b = some o) → Q H'
theorem set_listA {X : Cx} : PSet X rSetA := by
  intro pins s σ H o i v ov iv u Q I ro ri rv h
  obtain ⟨p, xs, k, j, eo, ei, hp, hj, q⟩ := h
  exact set_list pins s σ H o i v ov iv u Q I ro ri rv ⟨p, xs, k, j, eo, ei, hp, hj, q _ upd_same fun b o n e => by rw [upd_ne n]; exact e⟩
end My
/-! ### for i, x in enumerate(xs), xs a list -/
namespace My
open PySem PySem.Spec PyProof.Rows L2
section
variable {P : Program} {w : World} {K : PySem.W.Frag}
end
section
variable {X : Cx}
end
end My
/-! ### try: o.m(..) / except S as n: suite -/
namespace My
open PySem PySem.Spec PyProof.Rows L2
section
variable {X : Cx}
end
end My
/-! ### for k, v in d.items(); for x in reversed(xs) -/
namespace My
open PySem PySem.Spec PyProof.Rows L2
/-- an object held as it is: nothing may change it any more -/
theorem inv_freeze {X : Cx} {pins : List (Addr × Obj)} {σ : L2.St} {H : Hp} {s : Shared} {d : Addr} {ob : Obj} {kvs : List (Key × V)} (I : Inv X pins σ H s) (e : H d = some (.dK kvs)) (ho : s.heap.get? d = some ob) : Inv X pins σ (upd H d (.frz ob (.dK kvs))) s := by
  have ne : ∀ b, H b = none → b ≠ d := fun b q z => by rw [z, e] at q; cases q
  refine ⟨I.ok, I.os, I.bare, ⟨I.base.keep, I.base.slot, fun b o q n hx => ?_, I.base.there, fun b xs q => ?_, fun b o u q => ?_, fun b ps q => ?_⟩, I.loc, I.cell, ?_, fun x c q => ?_, fun p hp => ?_, fun b u q => ?_, I.len⟩
  · have := I.base.free b o q n hx
    rw [upd_ne (ne b this)]; exact this
  · have := I.base.tups b xs q
    rw [upd_ne fun z => by rw [z, e] at this; cases this]; exact this
  · have := I.base.frzs b o u q
    rw [upd_ne fun z => by rw [z, e] at this; cases this]; exact this
  · obtain ⟨more, q2⟩ := I.base.tbls b ps q
    exact ⟨more, by rw [upd_ne fun z => by rw [z, e] at q2; cases q2]; exact q2⟩
  · rw [upd_ne (ne _ I.free)]; exact I.free
  · rw [upd_ne (ne _ (I.freeC x c q))]; exact I.freeC x c q
  · obtain ⟨a1, a2, a3⟩ := I.pin p hp
    exact ⟨a1, by rw [upd_ne (ne _ a2)]; exact a2, a3⟩
  · by_cases hb : b = d
    · subst hb
      rw [upd_same] at q
      cases q
      exact ⟨ho, (I.hok b _ e).stay (fun c v _ z => z) (fun c z => by rw [upd_ne fun y => by rw [y, e] at z; cases z]; exact z) fun c xs z => by rw [upd_ne fun y => by rw [y, e] at z; cases z]; exact z⟩
    · rw [upd_ne hb] at q
      exact (I.hok b u q).stay (fun c v _ z => z) (fun c z => by rw [upd_ne fun y => by rw [y, e] at z; cases z]; exact z) fun c xs z => by rw [upd_ne fun y => by rw [y, e] at z; cases z]; exact z
def ItI (d : Addr) (ob : Obj) (kvs : List (Key × V)) : It :=
  ⟨fun i H => H d = some (.frz ob (.dK kvs)) ∧ i < kvs.length, fun i H v H' => ∃ p k x, kvs[i]? = some (k, x) ∧ v = .ref p ∧ H p = none ∧ H' = upd H p (.tup [kV k, x]), fun i H => H d = some (.frz ob (.dK kvs)) ∧ i = kvs.length⟩
theorem paired_get {α β : Type} {F : α → β → Prop} : ∀ {l : List α} {m : List β} {i : Nat} {a : α}, Paired F l m → l[i]? = some a → ∃ b, m[i]? = some b ∧ F a b
  | _, _, _, _, .nil, e => by simp at e
  | _, _, 0, _, .cons h _, e => by simp at e; subst e; exact ⟨_, rfl, h⟩
  | _, _, i + 1, a, .cons _ t, e => by
    obtain ⟨b, h1, h2⟩ := paired_get (i := i) (a := a) t (by simpa using e)
    exact ⟨b, by simpa using h1, h2⟩
section
variable {P : Program} {w : World} {K : PySem.W.Frag}
theorem key_rel {k : Key} {key : Value} (h : (mixKind P w).is k key = true) : RelV (kV k) key := by
  rcases keyIs_shape h with ⟨i, t, rfl, rfl⟩ | ⟨y, t, rfl, rfl⟩
  · exact ⟨t, rfl⟩
  · exact ⟨t, rfl⟩
theorem turn_items (d it ep : Addr) (ob : Obj) (kvs : List (Key × V)) (vs : List (Key × Value)) (rel : KV kvs vs) (hat : ∀ h : Heap, h.get? d = some ob → h.DictAt (mixKind P w) d vs ep) {elts : List Expr} {kk : Nat} {tpos : Pos} :
    Turn P w K (.Tuple elts kk tpos) (ItI d ob kvs) [it] it (fun i h => ∃ ok ov, IsItemIter h it d i vs.length ep ok ov) where
  mem := by simp
  obj := fun i h ⟨ok, ov, he⟩ c hc => by
    rw [List.mem_singleton.mp hc]; exact ⟨_, he, fun v z => by simp at z⟩
  keep := fun i h h' ⟨ok, ov, he⟩ k => ⟨ok, ov, k it (by simp) _ he⟩
  item := by
    intro X hP hw hK hc i pins s σ H E I hf st hg
    subst hP hw hK
    obtain ⟨ok, ov, he⟩ := st
    obtain ⟨hd, hi⟩ := hg
    obtain ⟨ho, _⟩ := (show ObjOk X.prog X.w H s.heap d (.frz ob (.dK kvs)) from I.hok d _ hd)
    obtain ⟨q, hq⟩ : ∃ q, kvs[i]? = some q := ⟨_, List.getElem?_eq_getElem hi⟩
    obtain ⟨k, x⟩ := q
    obtain ⟨⟨k2, u⟩, hu, hk2, ru⟩ := paired_get rel hq
    cases (show k = k2 from hk2)
    refine wpAny_pyNext_items_item he (hat _ ho) hu fun key h' hkey ho' ht' hz' k' => ?_
    refine ⟨_, rfl, wpAny_letOwnedTupleGo_items ho' fun h2 he2 hs2 => ?_⟩
    have hilt : it < s.heap.objs.size := Heap.lt_size he
    have nT : s.heap.get? s.heap.objs.size = none := Heap.get?_none_of_le (Nat.le_refl _)
    have hT : h2.get? s.heap.objs.size = some { cls := .type "tuple", data := .seq #[key, u] } := hs2.extBut _ _ (Nat.ne_of_gt hilt) ht'
    obtain ⟨f0, f1, f2, f3, f4, f5⟩ := hf it (by simp)
    have I2 : Inv X pins σ H { s with heap := h2 } := I.turned (t' := s.toks) (fun b o hb eo => hs2.extBut _ _ hb (k' b o hb eo)) f0 f1 f3 f4 f5
    have HT : H s.heap.objs.size = none := inv_none I nT
    have I3 : Inv X pins σ (upd H s.heap.objs.size (.tup [kV k, x])) { s with heap := h2 } := inv_track I I2 nT HT ⟨by show 2 ≤ sizeLine; decide, [key, u], .cons (key_rel hkey) (.cons ru .nil), _, hT, rfl, _, rfl⟩
    refine ⟨.ref s.heap.objs.size, _, I3, rfl, ⟨s.heap.objs.size, k, x, hq, rfl, HT, rfl⟩, ⟨_, _, he2⟩, fun c hcm => ?_⟩
    rw [List.mem_singleton.mp hcm, upd_ne (Nat.ne_of_lt hilt)]
    exact f0
  done := by
    intro X hP hw hK hc i pins s σ H E I hf st hg
    subst hP hw hK
    obtain ⟨ok, ov, he⟩ := st
    obtain ⟨hd, hi⟩ := hg
    obtain ⟨ho, _⟩ := (show ObjOk X.prog X.w H s.heap d (.frz ob (.dK kvs)) from I.hok d _ hd)
    have hn : vs[i]? = none := List.getElem?_eq_none_iff.mpr (by rw [← rel.length]; omega)
    refine wpAny_pyNext_items_end (I.ok.hd hc) he (hat _ ho) hn fun h' k => ⟨rfl, ?_⟩
    obtain ⟨f0, f1, f2, f3, f4, f5⟩ := hf it (by simp)
    exact I.turned (t' := s.toks) (fun b o hb eo => k b o hb eo) f0 f1 f3 f4 f5
  self := fun _ _ _ _ _ st h => let ⟨_, _, he⟩ := st; PySem.W.kcp_self he h
end
section
variable {X : Cx}
/-- d.items(), walked: the dict is held as it is from then on -/
def iItems (td : TE) : TI := fun σ H R => td σ H fun x H1 => ∃ d kvs, x = .ref d ∧ (H1 d = some (.dK kvs) ∨ ∃ ob, H1 d = some (.frz ob (.dK kvs))) ∧ ∀ ob H2, H2 d = some (.frz ob (.dK kvs)) → (∀ b o, b ≠ d → H1 b = some o → H2 b = some o) → (∀ b, b ≠ d → H1 b = none → H2 b = none) → R (ItI d ob kvs) H2
theorem pi_items {o : Expr} {td : TE} {apos cpos : Pos} {elts : List Expr} {kk : Nat} {tpos : Pos} (ho : PE X o td) (hbase : attributeBase o "items" X.env (eval o X.env) = eval o X.env := by rfl) (hline : (apos.endLine == cpos.line) = true := by rfl) :
    PI X (.Tuple elts kk tpos) (.Call (.Attribute o "items" apos) [] [] cpos) (iItems td) := by
  constructor; intro pins s σ H R I h
  refine wpAny_Call_method0_late hbase hline (thn (ho pins s σ H _ I h) fun v s1 ⟨x, H1, I1, r1, d, kvs, ex, hd, q⟩ => ?_)
  subst ex
  cases r1
  -- the dict held as it is
  obtain ⟨ob, H2, I2, h2, k2, n2⟩ : ∃ ob H2, Inv X pins σ H2 s1 ∧ H2 d = some (.frz ob (.dK kvs)) ∧ (∀ b o, b ≠ d → H1 b = some o → H2 b = some o) ∧ ∀ b, b ≠ d → H1 b = none → H2 b = none := by
    rcases hd with e | ⟨ob, e⟩
    · obtain ⟨ob, eo⟩ := obj_some (I1.hok d _ e)
      exact ⟨ob, _, inv_freeze I1 e eo, upd_same, fun b o n q => by rw [upd_ne n]; exact q, fun b n q => by rw [upd_ne n]; exact q⟩
    · exact ⟨ob, H1, I1, e, fun _ _ _ q => q, fun _ _ q => q⟩
  obtain ⟨ho2, z, hs, vs, rel, dd⟩ := (show ObjOk X.prog X.w H2 s1.heap d (.frz ob (.dK kvs)) from I2.hok d _ h2)
  obtain ⟨ep, hat⟩ := dd.dictAt
  have hat' : ∀ h : Heap, h.get? d = some ob → h.DictAt (mixKind X.prog X.w) d vs ep := fun h e => hat.at' fun o e2 => by
    rw [ho2] at e2
    cases e2
    exact e
  refine ⟨"dict", "dict.items", PySem.F.plainAttrs_dict, PySem.F.slot_dict_items, PySem.F.type_dict_items, dd.typeIs, fun b q => ?_, Calls.callWith_builtin rfl (PySem.evalArgs_none ?_)⟩
  · cases q
    obtain ⟨o1, _, _, e1, c1, _⟩ := dd
    exact ⟨o1, e1, c1.2.1⟩
  refine call_meetsIn PySem.F.slot_dict_items dd.typeIs PySem.F.entry_dict_items (PySem.F.args_dict_items_1 _) (meets_dict_items (mixKind X.prog X.w) d hs) ⟨⟨vs, dd⟩, ?_⟩
  have hv : (s1.heap.push { cls := .type "dict_items", data := .fields #[.ref d] }).IsItemsView s1.heap.objs.size d := ⟨_, Heap.get?_push_size _ rfl, rfl, rfl⟩
  have I3 : Inv X pins σ H2 { s1 with heap := s1.heap.push { cls := .type "dict_items", data := .fields #[.ref d] } } := I2.kept (t' := s1.toks) fun b o e => Heap.get?_push_of_some _ e
  refine wpAny_pyIter_items (s := { s1 with heap := s1.heap.push { cls := .type "dict_items", data := .fields #[.ref d] } }) hv (hat' _ (Heap.get?_push_of_some _ ho2)) ?_
  have I4 := I3.kept (t' := s1.toks) (h' := (s1.heap.push { cls := .type "dict_items", data := .fields #[.ref d] }).push { cls := .type "dict_itemiterator", data := .fields #[.none, .bool false, .ref d, .int 0 0, .int vs.length 0, .int ep 0, .none, .none] }) fun b o e => Heap.get?_push_of_some _ e
  exact ⟨_, [(s1.heap.push { cls := .type "dict_items", data := .fields #[.ref d] }).objs.size], _, _, H2, rfl, I4, turn_items d _ ep ob kvs vs rel hat', ⟨_, _, Heap.get?_push_size _ rfl⟩, fun b hb => by
    rw [List.mem_singleton.mp hb]
    exact I3.fpOk (Nat.le_refl _) (I3.hok.fresh (Nat.le_refl _)), q ob H2 h2 k2 n2⟩
end
theorem for_items {d : Addr} {ob : Obj} {kvs : List (Key × V)} {g : TG} {tb : TS} {D : Ends} {σ : L2.St} {H : Hp} (Pv : Nat → L2.St → Hp → Prop) (h0 : Pv 0 σ H) (hl : ∀ i σ H, Pv i σ H → H d = some (.frz ob (.dK kvs)))
    (hs : ∀ i k x σ H p, kvs[i]? = some (k, x) → Pv i σ H → H p = none → g (.ref p) σ (upd H p (.tup [kV k, x])) fun σ2 H2 => tb { D with nx := Pv (i + 1), ct := Pv (i + 1), bk := D.nx } σ2 H2) (hd : ∀ σ H, Pv kvs.length σ H → D.nx σ H) :
    ∃ W : Nat → Nat → L2.St → Hp → Prop, (∃ m, W 0 m σ H) ∧ ∀ i m σ H, W i m σ H →
      ((ItI d ob kvs).stop i H ∧ D.nx σ H) ∨ ((ItI d ob kvs).go i H ∧ ∃ N : L2.St → Hp → Prop, (∀ σ' H', N σ' H' → ∃ m', m' < m ∧ W (i + 1) m' σ' H') ∧ ∀ x H', (ItI d ob kvs).yld i H x H' → g x σ H' fun σ2 H2 => tb { D with nx := N, ct := N, bk := D.nx } σ2 H2) := by
  refine ⟨fun i m σ H => m = kvs.length - i ∧ i ≤ kvs.length ∧ Pv i σ H, ⟨kvs.length, by simp, Nat.zero_le _, h0⟩, ?_⟩
  rintro i m σ H ⟨rfl, hi, p⟩
  by_cases hlt : i < kvs.length
  · refine .inr ⟨⟨hl i σ H p, hlt⟩, Pv (i + 1), fun σ' H' p' => ⟨kvs.length - (i + 1), by omega, rfl, hlt, p'⟩, ?_⟩
    rintro v H' ⟨q, k, x, hx, rfl, hq, rfl⟩
    exact hs i k x σ H q hx p hq
  · have e : i = kvs.length := by omega
    subst e
    exact .inl ⟨⟨hl _ σ H p, rfl⟩, hd σ H p⟩
/-! ### reversed(xs) -/
def ItV (K : PySem.W.Frag) (a : Addr) (n : Nat) : It :=
  ⟨fun i H => ∃ xs x, SqL K H a xs ∧ xs.length = n ∧ i < n ∧ xs[n - 1 - i]? = some x, fun i H v H' => H' = H ∧ ∀ xs, SqL K H a xs → xs[n - 1 - i]? = some v, fun i _ => i = n⟩
theorem turn_rev {P : Program} {w : World} {K : PySem.W.Frag} {tg : Expr} (a it : Addr) (n : Nat) : Turn P w K tg (ItV K a n) [it] it (fun i h => i ≤ n ∧ h.IsRevIter it a ((n : Int) - 1 - (i : Int))) where
  mem := by simp
  obj := fun i h ⟨_, hi⟩ c hc => by
    rw [List.mem_singleton.mp hc]
    obtain ⟨o, eo, _, d⟩ := hi
    exact ⟨o, eo, fun v z => by rw [d] at z; cases z⟩
  keep := fun i h h' ⟨l, hi⟩ k => ⟨l, hi.at fun o eo => k it (by simp) o eo⟩
  item := by
    intro X hP hw hK hc i pins s σ H E I hf st hg
    subst hP hw hK
    obtain ⟨_, hi⟩ := st
    obtain ⟨xs, x, hq, hn, hlt, hx⟩ := hg
    obtain ⟨its, rv, p, hz⟩ := I.list hq
    obtain ⟨u, hu, ru⟩ := rv.get hx
    have e1 : (n : Int) - 1 - (i : Int) = ((n - 1 - i : Nat) : Int) := by omega
    rw [e1] at hi
    refine wpAny_pyNext_rev_item hi p.isList (x := u) (by simpa using hu) fun h' hi' hs' => ?_
    obtain ⟨f0, f1, f2, f3, f4, f5⟩ := hf it (by simp)
    obtain ⟨o', eo', co', do'⟩ := id hi'
    refine ⟨u, rfl, go_of eo' co' do' (by decide) ⟨x, H, I.turned (t' := s.toks) (fun b o hb eo => (hs'.2 b hb).trans eo) f0 f1 f3 f4 f5, ru, ⟨rfl, fun ys hy => by rw [I.list_inj hy hq]; exact hx⟩, ⟨hlt, ?_⟩, fun c hcm => by rw [List.mem_singleton.mp hcm]; exact f0⟩⟩
    have e2 : ((n - 1 - i : Nat) : Int) - 1 = (n : Int) - 1 - ((i + 1 : Nat) : Int) := by omega
    rw [e2] at hi'
    exact hi'
  done := by
    intro X hP hw hK hc i pins s σ H E I hf st hg
    subst hP hw hK
    obtain ⟨_, hi⟩ := st
    have en : i = n := hg
    subst en
    have e1 : (i : Int) - 1 - (i : Int) = -1 := by omega
    rw [e1] at hi
    refine wpAny_pyNext_rev_end (I.ok.hd hc) hi fun h' k => ⟨rfl, ?_⟩
    obtain ⟨f0, f1, f2, f3, f4, f5⟩ := hf it (by simp)
    exact I.turned (t' := s.toks) (fun b o hb eo => k b o hb eo) f0 f1 f3 f4 f5
  self := fun _ _ _ _ _ st h => wpAny_pyIter_revIter st.2 h
section
variable {X : Cx}
def iRev (K : PySem.W.Frag) (ta : TA) : TI := fun σ H R => ta σ H fun vs H1 => ∃ a xs, vs = [.ref a] ∧ H1 a = some (.lst xs) ∧ R (ItV K a xs.length) H1
theorem pi_rev {tg a : Expr} {ta : TA} {p pos : Pos} (hg : Gl X "reversed") (hm : X.mg "reversed" = none) (ha : PA X [a] ta) (hs : starEach [a] X.env = [(false, eval a X.env)] := by rfl) : PI X tg (.Call (.Name "reversed" p) [a] [] pos) (iRev X.K ta) := by
  constructor; intro pins s σ H R I h
  refine Call_ (ld_blt I hg hm boot_reversed (PyProof.Rows.callWith_type1 (thn (ha pos pins s σ H _ I h) fun us s1 ⟨vs, H1, I1, r1, q1⟩ => ?_) hs rfl))
  obtain ⟨l, xs, rfl, hl, q⟩ := q1
  obtain ⟨u, rfl, ru⟩ := vals1 r1
  cases ru
  obtain ⟨its, rv, pl, hz⟩ := I1.list (SqL.of hl)
  have hlen := rv.length
  refine call_reversed_list pl.isList ?_
  have e : ((its.toArray.size : Nat) : Int) - 1 = (xs.length : Int) - 1 - ((0 : Nat) : Int) := by rw [List.size_toArray, ← hlen]; omega
  rw [e]
  have hi : (s1.heap.push (revObj l ((xs.length : Int) - 1 - ((0 : Nat) : Int)))).IsRevIter s1.heap.objs.size l ((xs.length : Int) - 1 - ((0 : Nat) : Int)) := ⟨_, Heap.get?_push_size _ rfl, rfl, rfl⟩
  have I2 : Inv X pins σ H1 { s1 with heap := s1.heap.push (revObj l ((xs.length : Int) - 1 - ((0 : Nat) : Int))) } := I1.kept (t' := s1.toks) fun b o e => Heap.get?_push_of_some _ e
  refine wpAny_pyIter_revIter (s := { s1 with heap := s1.heap.push (revObj l ((xs.length : Int) - 1 - ((0 : Nat) : Int))) }) hi ⟨s1.heap.objs.size, [s1.heap.objs.size], _, ItV X.K l xs.length, H1, rfl, I2, turn_rev l _ _, ⟨Nat.zero_le _, hi⟩, fun b hb => ?_, q⟩
  rw [List.mem_singleton.mp hb]
  exact I1.fpOk (Nat.le_refl _) (I1.hok.fresh (Nat.le_refl _))
end
theorem for_rev {K : PySem.W.Frag} {a : Addr} {xs : List V} {g : TG} {tb : TS} {D : Ends} {σ : L2.St} {H : Hp} (Pv : Nat → L2.St → Hp → Prop) (h0 : Pv 0 σ H) (hl : ∀ i σ H, Pv i σ H → SqL K H a xs)
    (hs : ∀ i x σ H, xs[xs.length - 1 - i]? = some x → i < xs.length → Pv i σ H → g x σ H fun σ2 H2 => tb { D with nx := Pv (i + 1), ct := Pv (i + 1), bk := D.nx } σ2 H2) (hd : ∀ σ H, Pv xs.length σ H → D.nx σ H) :
    ∃ W : Nat → Nat → L2.St → Hp → Prop, (∃ m, W 0 m σ H) ∧ ∀ i m σ H, W i m σ H →
      ((ItV K a xs.length).stop i H ∧ D.nx σ H) ∨ ((ItV K a xs.length).go i H ∧ ∃ N : L2.St → Hp → Prop, (∀ σ' H', N σ' H' → ∃ m', m' < m ∧ W (i + 1) m' σ' H') ∧ ∀ x H', (ItV K a xs.length).yld i H x H' → g x σ H' fun σ2 H2 => tb { D with nx := N, ct := N, bk := D.nx } σ2 H2) := by
  refine ⟨fun i m σ H => m = xs.length - i ∧ i ≤ xs.length ∧ Pv i σ H, ⟨xs.length, by simp, Nat.zero_le _, h0⟩, ?_⟩
  rintro i m σ H ⟨rfl, hi, p⟩
  have q := hl i σ H p
  by_cases hlt : i < xs.length
  · refine .inr ⟨⟨xs, _, q, rfl, hlt, List.getElem?_eq_getElem (by omega)⟩, Pv (i + 1), fun σ' H' p' => ⟨xs.length - (i + 1), by omega, rfl, hlt, p'⟩, ?_⟩
    rintro x H' ⟨rfl, hy⟩
    exact hs i x σ _ (hy xs q) hlt p
  · have e : i = xs.length := by omega
    subst e
    exact .inl ⟨rfl, hd σ H p⟩
end My
/-! ### dicts of numbers and None compared, held ones too; isinstance of any tuple -/
namespace My
open PySem PySem.Spec PyProof.Rows L2
section
variable {X : Cx} {pins : List (Addr × Obj)} {σ : L2.St} {H : Hp} {s : Shared} {a b : Addr} {kvs : List (Key × V)}
end
section
variable {X : Cx}
theorem call_dictR : CallR X (.type "dict") (fun xs H Q => ∃ a kvs, xs = [V.ref a] ∧ Rd H a (.dK kvs) ∧ ∀ p, H p = none → Q (.ref p) (upd H p (.dK kvs))) := by
  intro pins s σ H xs us Q I r h
  obtain ⟨a, kvs, rfl, ha, q⟩ := h
  obtain ⟨u, rfl, ru⟩ := vals1 r
  cases ru
  exact d_copyOf I ha fun p s' hp I' => ⟨.ref p, _, I', rfl, q p hp⟩
/-- isinstance(t, c) of any tuple, the module's too -/
theorem call_ist {K : PySem.W.Frag} (hK : X.K = K) : CallR X (.builtin "isinstance") (fun xs H Q => ∃ p ys c b, xs = [V.ref p, V.ty c] ∧ SqT K H p ys ∧ PySem.W.kitOne K (.type "tuple") (.type c) = some b ∧ Q (.bl b) H) := by
  subst hK
  intro pins s σ H xs us Q I r h
  obtain ⟨p, ys, c, b, rfl, hq, e, q⟩ := h
  obtain ⟨u, w', rfl, ru, rw'⟩ := vals2 r
  cases ru
  cases rw'
  obtain ⟨its, rv, ⟨o, h1, h2, _⟩, _⟩ := I.tuple hq
  exact PySem.W.kia_one PySem.W.kitx_tuple I.kIn ⟨o, h1, h2⟩ e (fun z => nomatch z) fun tk => ⟨.bl b, H, I.tok tk, rfl, q⟩
end
end My
/-! ### xs.insert(0, y) -/
namespace My
open PySem PySem.Spec PyProof.Rows L2
end My
/-! ### text.partition(sep) -/
namespace My
open PySem PySem.Spec PyProof.Rows L2 Builtin.Str
end My
/-! ### texts cut at "; " and put together again -/
namespace My
open PySem PySem.Spec PyProof.Rows L2 Builtin.Str PySem.StrLaws
def pre (d : Nat) : List (List Nat) → List (List Nat)
  | [] => []
  | p :: r => p :: r.map (d :: ·)
end My
/-! ### f"{a}lit", f"{a}lit{b}" of texts -/
namespace My
open PySem PySem.Spec PyProof.Rows L2
section
variable {X : Cx}
end
/-! ### what partition finds -/
section
open Builtin.Str PySem.StrLaws
end
end My
/-! ### min(numbers, default=None); comprehensions whose elements are new objects -/
namespace My
open PySem PySem.Spec PyProof.Rows L2 PyProof
section
variable {prog : Program} {w : World} {A : Around}
end
end My
/-! ### list(reversed(xs)) -/
namespace My
open PySem PySem.Spec PyProof.Rows L2 PyProof
section
variable {prog : Program} {w : World} {A : Around} {s : Shared}
end
end My
/-! ### own classes without an __init__, a method by the object's class, isinstance of an own instance, try: f(..), texts -/
namespace My
open PySem PySem.Spec PyProof.Rows L2 PyProof
structure MkO (K : PySem.W.Frag) (C : Addr) : Prop where
  makes : PySem.W.makesIn K C = true
  init : PySem.W.findIn K (.ref C) "__init__" = some (some (.builtin "object.__init__"))
  kp : PySem.W.keepIn K (.ref C) = true
section
variable {X : Cx}
end
end My
/-! ### the table of a set: its places rise -/
namespace My
open PySem PySem.Spec PyProof.Rows L2 PyProof
def Ris (xs : Array Nat) : Prop := xs.toList.Pairwise (· < ·)
/-- a set's table that was only added to -/
structure TOk (t : SetTable) : Prop where
  up : Ris t.place
  nd : t.dummies = #[]
end My
/-! ### set(numbers): what the set holds, and its table -/
namespace My
open PySem PySem.Spec PyProof.Rows L2 PyProof
def keyI (e : Int × Value) : Int := match e.2 with
  | .int n _ => n
  | _ => 0
section
variable {prog : Program} {w : World} {A : Around} {E : Value → Shared → Prop} {s : Shared}
/-- the set at a holds just ks, in some order -/
def SetG (prog : Program) (w : World) (h : Heap) (a : Addr) (ks : List Int) (led : Bool) : Prop :=
  ∃ o es ep t, h.get? a = some o ∧ o.ExactSet ∧ o.data = .set es ep t ∧ ElemsOf (intKind prog w) es.toList ∧ es.size < scanBound ∧ t.fits es.size = true ∧ TOk t ∧ t.led = led ∧ (es.toList.map keyI).Perm ks
end
end My
/-! ### set(numbers), made -/
namespace My
open PySem PySem.Spec PyProof.Rows L2 PyProof
/-- each number once, in the order in which they come -/
def dd (ns : List Int) : List Int := ns.foldl step_dedup []
section
variable {prog : Program} {w : World} {A : Around} {E : Value → Shared → Prop} {s : Shared}
end
end My
/-! ### the walk over a set of numbers -/
namespace My
open PySem PySem.Spec PyProof.Rows L2 PyProof
section
variable {M : Model} {A : Around} {E : Value → Shared → Prop}
end
end My
/-! ### the walk over a set of numbers: one step -/
namespace My
open PySem PySem.Spec PyProof.Rows L2 PyProof
/-- the iterator at I of the set at a -/
def ItAt (h : Heap) (I a : Addr) (first : Value) (i n ep : Nat) : Prop := ∃ o, h.get? I = some o ∧ o.cls = .type "set_iterator" ∧ o.data = .fields #[first, .int i 0, .ref a, .int n 0, .int ep 0]
def SetIs (h : Heap) (a : Addr) (es : Array (Int × Value)) (ep : Nat) (t : SetTable) : Prop := ∃ o, h.get? a = some o ∧ o.ExactSet ∧ o.data = .set es ep t
section
variable {prog : Program} {w : World} {A : Around} {E : Value → Shared → Prop} {s : Shared} {I a : Addr} {es : Array (Int × Value)} {ep : Nat} {t : SetTable}
end
end My
/-! ### the walk over a set of numbers: its end, and where its order was drawn -/
namespace My
open PySem PySem.Spec PyProof.Rows L2 PyProof
section
variable {prog : Program} {w : World} {A : Around} {E : Value → Shared → Prop} {s : Shared} {I a : Addr} {es : Array (Int × Value)} {ep : Nat} {t : SetTable}
end
end My
/-! ### the walk over a set of numbers: all of it -/
namespace My
open PySem PySem.Spec PyProof.Rows L2 PyProof
section
variable {prog : Program} {w : World} {A : Around} {E : Value → Shared → Prop} {s : Shared} {I a : Addr} {es : Array (Int × Value)} {ep : Nat} {t : SetTable}
end
end My
/-! ### sorted(set(numbers)) -/
namespace My
open PySem PySem.Spec PyProof.Rows L2 PyProof
section
variable {prog : Program} {w : World} {A : Around} {E : Value → Shared → Prop} {s : Shared} {a : Addr} {ks : List Int} {led : Bool}
end
end My
/-! ### dict(pairs) -/
namespace My
open PySem PySem.Spec PyProof.Rows L2 PyProof
theorem dp_keys : typeLookup (.type "list") "keys" = pure none := by rw [typeLookup_type, builtinLookup_eq_fast]; exact (by kernel_rfl)
theorem dp_entry : entryFor table "dict.update.loop" = some Builtin.«dict.update.loop» := entryFor_of_tree (by kernel_rfl)
theorem dp_plain : plainId "dict.update.loop" = true := by decide +kernel
section
variable {prog : Program} {w : World} {A : Around} {E : Value → Shared → Prop} {s : Shared}
theorem no_keys {l : Addr} {its : Array Value} {Q : Option Value → Shared → Prop} (hL : PlainL s.heap l its) (hA : A.handled = none) (h : ∀ h' tk, (∀ b o, s.heap.get? b = some o → h'.get? b = some o) → Q none { s with heap := h', toks := tk }) : wpAny (model prog w) A (getAttr? (.ref l) "keys") Q E s := by
  obtain ⟨o, n, ho, hc, hd, hdat⟩ := hL
  obtain ⟨c, dct, dat, sl⟩ := o
  simp only at hc hdat hd
  subst hc hdat hd
  obtain ⟨hp, g, d, tk, os⟩ := s
  have hT : ∀ tk', (⟨hp, g, d, tk', os⟩ : Shared).TypeIs (.ref l) "list" := fun _ => ⟨_, ho, rfl⟩
  have f1 := sub_AttributeError
  have f3 := PySem.F.slot_list_getattribute.lookup
  have f4 := PySem.F.slot_list_getattribute.bind (.ref l)
  have f5 := am_list_getattr_none
  have hname : (["__module__", "__name__", "__qualname__", "__doc__", "__annotations__"] : List Str).contains "keys" = false := by decide +kernel
  unfold getAttr? getAttrBy? getAttrBy
  repeat (any_goals (first | assumption | exact hT _ | ((with_reducible show wpAny _ _ (call (Value.builtin "list.__getattribute__") _ _) _ _ _); refine call_meets PySem.F.slot_list_getattribute (hT _) am_entry_list_getattribute (PySem.F.args_list_getattribute_2 _ _) (meets_getattribute_miss_list l its n sl "keys" _ dp_keys hname (by decide +kernel)) ⟨ho, hA, fun h' tk' e hx' => ?_⟩) | wp_step))
  obtain ⟨t', u', he⟩ := hx'.there
  show wpAny _ _ (getattributeRaised _ _ _ _ _ _ _) _ _ _
  unfold getattributeRaised
  repeat (any_goals (first | assumption | wp_step))
  exact h _ _ hx'.keeps
theorem stored_len {K : Type} [DecidableEq K] (vs : List (K × Value)) (k : K) (v : Value) : (stored vs k v).length ≤ vs.length + 1 := by
  unfold stored
  split <;> simp
/-- one by one into the dict -/
def storedAll {K : Type} [DecidableEq K] (vs : List (K × Value)) (ps : List (K × Value)) : List (K × Value) := ps.foldl (fun a q => stored a q.1 q.2) vs
theorem dp_loop {R : Result → Shared → Prop} {I D l : Addr} {us : List Value} {ks : List (Key × Value)} (hh : A.handled = none) (hlI : l ≠ I) (hDI : D ≠ I) (hDl : D ≠ l) (hlen : us.length = ks.length) (hsz : ks.length < 1000000) :
    ∀ (k i : Nat) (s : Shared), us.length - i = k → i ≤ us.length → s.heap.IsListIter I l i → s.heap.IsList l us.toArray → (∀ (j : Nat) u, us[j]? = some u → ∃ t ku q, u = .ref t ∧ t ≠ I ∧ t ≠ D ∧ ks[j]? = some q ∧ s.heap.IsTuple t #[ku, q.2] ∧ (mixKind prog w).is q.1 ku = true) →
      (∃ vs, s.heap.DictOf (mixKind prog w) D vs ∧ vs = storedAll [] (ks.take i) ∧ vs.length ≤ i) →
      (∀ h' tk, (∀ b o, b ≠ I → b ≠ D → s.heap.get? b = some o → h'.get? b = some o) → h'.DictOf (mixKind prog w) D (storedAll [] ks) → R (.ok (.ret .none)) { s with heap := h', toks := tk }) →
      codeAny (model prog w) A (.builtin "dict.update.loop" ⟨[.ref D, .ref I, rawInt i, .none], []⟩) R s := by
  have W := Walks.list (prog := prog) (w := w) (A := A.in1) hh I l hlI us.toArray
  have us0 : us.toArray.size = us.length := by simp
  intro k
  induction k with
  | zero =>
    intro i s hk hi hit hil ht hg hR
    have hin : i = us.length := by omega
    refine codeAny_builtin dp_entry ?_
    rw [Around.under_plainId dp_plain _]
    refine wpAny_bind (W.done s _ _ ⟨by rw [us0, ← hin]; exact hit, hil⟩ fun h' tk hk' => ?_)
    obtain ⟨vs, dd, rfl, _⟩ := hg
    rw [hin, hlen, List.take_length] at dd
    refine wpAny_bind (wpAny_pure (wpAny_pure (hR h' tk (fun b o b1 _ e => hk' b o (by simpa using b1) e) ?_)))
    obtain ⟨o, es, ep, ho, r⟩ := dd
    exact ⟨o, es, ep, hk' D o (by simpa using hDI) ho, r⟩
  | succ k ih =>
    intro i s hk hi hit hil ht hg hR
    have hlt : i < us.length := by omega
    refine codeAny_builtin dp_entry ?_
    rw [Around.under_plainId dp_plain _]
    refine wpAny_bind (W.item i s _ _ (by rw [us0]; exact hlt) ⟨hit, hil⟩ fun v h1 tk1 hP hst hk1 => ?_)
    obtain ⟨t, ku, q, rfl, tI, tD, hq, hT, hkk⟩ := ht i v (by simpa using hP)
    obtain ⟨vs, dd, evs, hvl⟩ := hg
    obtain ⟨oT, hoT, hcT, nT, hdT⟩ := id hT
    have hoT1 := hk1 t oT (by simpa using tI) hoT
    refine wpAny_bind (wpAny_holding ?_)
    refine wpAny_bind (wpAny_tryCatch ?_)
    unfold Builtin.Dict.pairItems
    refine wpAny_bind (wpAny_typeOf (T := "tuple") ⟨oT, hoT1, hcT⟩ ?_)
    rw [if_pos (by decide)]
    refine wpAny_bind (wpAny_seqItems hoT1 hdT ?_)
    refine wpAny_pure ?_
    show wpAny _ _ (holding [ku, q.2] (dictSet D ku q.2)) _ _ _
    refine wpAny_holding ?_
    unfold dictSet
    try with_reducible refine wpAny_holding ?_
    refine wpAny_bind ((mixKind prog w).pyHash hkk ?_)
    have dd1 : h1.DictOf (mixKind prog w) D vs := by
      obtain ⟨o, es, ep, ho, r⟩ := dd
      exact ⟨o, es, ep, hk1 D o (by simpa using hDI) ho, r⟩
    have hv6 : vs.length ≤ sizeLine := Nat.le_trans hvl (Nat.le_trans hi (by rw [hlen]; exact Nat.le_trans (Nat.le_of_lt hsz) (by decide)))
    refine wpAny_dictSetHashed_pairs (s := { s with heap := h1, toks := tk1 + 1 }) (hsz := hv6) hkk dd1 fun h2 dd2 sb => ?_
    have oth : ∀ b, b ≠ D → h2.get? b = h1.get? b := fun b hb => sb.2 b hb
    refine wpAny_pure ⟨plainId_quiet dp_plain _, ?_⟩
    have en : rawInt ((i : Int) + 1) = rawInt ((i + 1 : Nat) : Int) := by rw [Int.natCast_add]; rfl
    rw [en]
    refine ih (i + 1) { s with heap := h2, toks := tk1 + 1 } (by omega) hlt (hst.1.at fun o e => (oth I hDI.symm).trans e) (hst.2.at fun o e => (oth l hDl.symm).trans e) (fun j u eu => ?_) ⟨_, dd2, ?_, ?_⟩ fun h3 tk3 k3 dd3 => ?_
    · obtain ⟨t', ku', q', e1, e2, e3, e4, ⟨oT', hoT', r'⟩, e6⟩ := ht j u eu
      exact ⟨t', ku', q', e1, e2, e3, e4, ⟨oT', (oth _ e3).trans (hk1 _ _ (by simpa using e2) hoT'), r'⟩, e6⟩
    · rw [List.take_add_one, hq, evs]
      unfold storedAll
      rw [List.foldl_append]
      rfl
    · have := stored_len (K := Key) vs q.1 q.2
      omega
    · exact hR h3 tk3 (fun b o b1 b2 e => k3 b o b1 b2 ((oth b b2).trans (hk1 b o (by simpa using b1) e))) dd3
end
/-- a list of pairs -/
inductive Prs2 (K : PySem.W.Frag) (H : Hp) : List V → List (Key × V) → Prop where
  | nil : Prs2 K H [] []
  | cons {t : Addr} {q : Key × V} {ws : List V} {ps : List (Key × V)} (h : SqT K H t [kV q.1, q.2]) (r : Prs2 K H ws ps) : Prs2 K H (.ref t :: ws) (q :: ps)
def putAllK (kvs ps : List (Key × V)) : List (Key × V) := ps.foldl (fun a q => putK a q.1 q.2) kvs
theorem kv_all : ∀ {ps : List (Key × V)} {ks : List (Key × Value)} {kvs : List (Key × V)} {vs : List (Key × Value)}, KV ps ks → KV kvs vs → KV (putAllK kvs ps) (storedAll vs ks)
  | _, _, _, _, .nil, h => h
  | _, _, _, _, .cons (a := p) (b := q) e r, h => by
    have := KV.put h p.1 e.2
    rw [show stored _ p.1 q.2 = stored _ q.1 q.2 by rw [e.1]] at this
    have h2 := kv_all r this
    exact h2
theorem putAllK_len : ∀ (ps kvs : List (Key × V)), (putAllK kvs ps).length ≤ kvs.length + ps.length
  | [], kvs => Nat.le_refl _
  | q :: r, kvs => by
    have h1 := putAllK_len r (putK kvs q.1 q.2)
    have h2 := length_putK kvs q.1 q.2
    show (putAllK (putK kvs q.1 q.2) r).length ≤ kvs.length + (r.length + 1)
    omega
theorem prs_ks {X : Cx} {pins : List (Addr × Obj)} {σ : L2.St} {H : Hp} {s : Shared} (I : Inv X pins σ H s) : ∀ {ws : List V} {ps : List (Key × V)} {its : List Value}, Prs2 X.K H ws ps → Vals ws its →
    ∃ ks : List (Key × Value), KV ps ks ∧ its.length = ks.length ∧ ∀ (j : Nat) u, its[j]? = some u → ∃ t ku q, u = .ref t ∧ t < s.heap.objs.size ∧ ks[j]? = some q ∧ s.heap.IsTuple t #[ku, q.2] ∧ (mixKind X.prog X.w).is q.1 ku = true
  | _, _, _, .nil, .nil => ⟨[], .nil, rfl, fun j u e => by simp at e⟩
  | _, _, _, .cons (q := q) h r, .cons rv rr => by
    obtain ⟨ks, k1, k2, k3⟩ := prs_ks I r rr
    obtain ⟨its, r2, ⟨o, ho, hr⟩, _⟩ := I.tuple h
    obtain ⟨ku, vu, rfl, e1, e2⟩ := vals2 r2
    cases rv
    refine ⟨(q.1, vu) :: ks, .cons ⟨rfl, e2⟩ k1, by simp [k2], fun j u e => ?_⟩
    cases j with
    | zero =>
      cases e
      exact ⟨_, ku, (q.1, vu), rfl, Heap.lt_size ho, rfl, ⟨o, ho, hr.1, hr.2⟩, kV_is e1⟩
    | succ j => exact k3 j u (by simpa using e)
theorem call_dictP {X : Cx} {K : PySem.W.Frag} (hK : X.K = K) (hc : X.calm = true) : CallR X (.type "dict") (fun xs H Q => ∃ (a : Addr) (ws : List V) (ps : List (Key × V)), xs = [V.ref a] ∧ H a = some (.lst ws) ∧ Prs2 K H ws ps ∧ ps.length < 1000000 ∧ ∀ p, H p = none → Q (.ref p) (upd H p (.dK (putAllK [] ps)))) := by
  subst hK
  intro pins s σ H xs us Q I r h
  obtain ⟨a, ws, ps, rfl, ha, hp, hz, q⟩ := h
  obtain ⟨u, rfl, ru⟩ := vals1 r
  cases ru
  obtain ⟨its, rv, pl, _⟩ := I.list (SqL.of ha)
  obtain ⟨ks, k1, k2, k3⟩ := prs_ks I hp rv
  have kl : ks.length = ps.length := (Paired.length k1).symm
  have hal : a < s.heap.objs.size := by obtain ⟨_, _, e, _⟩ := pl; exact Heap.lt_size e
  refine callType_codes (Q₁ := fun obj s₁ => obj = .ref s.heap.objs.size ∧ s₁ = { s with heap := s.heap.push { cls := .type "dict", data := .dict #[] } }) PySem.F.kt_called_dict (PySem.F.kt_typeCall_dict_1 _) PySem.F.entry_dict_init (PySem.kt_code_dict_new _ ⟨rfl, rfl⟩) fun obj s₁ ⟨e1, e2⟩ => ?_
  subst e1 e2
  have hnew : (s.heap.push { cls := .type "dict", data := .dict #[] }).DictOf (mixKind X.prog X.w) s.heap.objs.size [] := Heap.DictOf.new s.heap
  refine ⟨hnew.typeIs, PySem.F.args_dict_init_2 _ _, ?_⟩
  unfold Builtin.«dict.__init__»
  refine wpAny_bind ?_
  unfold Builtin.Dict.selfAndRest
  refine wpAny_bind (wpAny_notOrdered_dict hnew.typeIs ?_)
  show wpAny _ _ (pure (s.heap.objs.size, [Value.ref a])) _ _ _
  refine wpAny_pure ?_
  show wpAny _ _ (Builtin.Dict.updateFrom "dict.__init__" s.heap.objs.size (.ref a) [] .none) _ _ _
  unfold Builtin.Dict.updateFrom
  have pl1 : PlainL (s.heap.push { cls := .type "dict", data := .dict #[] }) a its.toArray := pl.keeps fun b o e => Heap.get?_push_of_some _ e
  obtain ⟨oa, na, hoa, hca, _⟩ := id pl1
  refine wpAny_bind (wpAny_typeOf (T := "list") ⟨oa, hoa, hca⟩ ?_)
  rw [if_pos (by decide)]
  refine wpAny_bind (no_keys (s := { s with heap := s.heap.push { cls := .type "dict", data := .dict #[] } }) pl1 (I.ok.hd hc) fun h1 tk1 hk1 => ?_)
  rw [if_pos (show (none : Option Value).isNone = true from rfl)]
  refine wpAny_bind (wpAny_rule ?_)
  have pl2 := pl1.keeps hk1
  refine wpAny_bind (wpAny_pyIter_list pl2.isList ?_)
  have dd1 : (h1.push { cls := .type "list_iterator", data := .fields #[.ref a, .int 0 0] }).DictOf (mixKind X.prog X.w) s.heap.objs.size [] := by
    obtain ⟨o, es, ep, ho, r⟩ := hnew
    exact ⟨o, es, ep, Heap.get?_push_of_some _ (hk1 _ _ ho), r⟩
  have hDl : s.heap.objs.size < h1.objs.size := by obtain ⟨o, es, ep, ho, r⟩ := hnew; exact Heap.lt_size (hk1 _ _ ho)
  have haI : a < h1.objs.size := Nat.lt_trans hal hDl
  have kp : ∀ b o, s.heap.get? b = some o → (h1.push { cls := .type "list_iterator", data := .fields #[.ref a, .int 0 0] }).get? b = some o := fun b o e => Heap.get?_push_of_some _ (hk1 _ _ (Heap.get?_push_of_some _ e))
  refine wpAny_pure ⟨plainId_quiet dp_plain _, dp_loop (A := X.A.in1) (s := { s with heap := h1.push { cls := .type "list_iterator", data := .fields #[.ref a, .int 0 0] }, toks := tk1 }) (I := h1.objs.size) (D := s.heap.objs.size) (I.ok.hd hc) (Nat.ne_of_lt haI) (Nat.ne_of_lt hDl) (Nat.ne_of_gt hal) k2 (by rw [kl]; exact hz) its.length 0 rfl (Nat.zero_le _) ⟨_, Heap.get?_push_size _ rfl, rfl, rfl⟩ (pl2.isList.push _) (fun j u eu => ?_) ⟨[], dd1, rfl, Nat.le_refl _⟩ fun h3 tk3 k3' dd3 => ?_⟩
  · obtain ⟨t, ku, q', e1, e2, e3, ⟨oT, hoT, r'⟩, e5⟩ := k3 j u eu
    exact ⟨t, ku, q', e1, Nat.ne_of_lt (Nat.lt_trans e2 hDl), Nat.ne_of_lt e2, e3, ⟨oT, kp _ _ hoT, r'⟩, e5⟩
  · refine ⟨rfl, .ref _, _, ?_, rfl, q _ (I.hok.fresh (Nat.le_refl _))⟩
    refine I.laid (a := s.heap.objs.size) (o := .dK (putAllK [] ps)) (t' := tk3) (fun b o e => k3' b o (Nat.ne_of_lt (Nat.lt_trans (Heap.lt_size e) hDl)) (Nat.ne_of_lt (Heap.lt_size e)) (kp b o e)) (Nat.le_refl _) ?_
    exact dk_new (Nat.le_trans (putAllK_len ps []) (by simp only [List.length_nil, Nat.zero_add]; exact Nat.le_trans (Nat.le_of_lt hz) (by decide))) (beq_eq_false_iff_ne.mpr (Ne.symm (Nat.ne_of_lt I.big))) (kv_all k1 .nil) dd3
end My
/-! ### a, b = a list; list(d) -/
namespace My
open PySem PySem.Spec PyProof.Rows L2 PyProof
section
variable {prog : Program} {w : World} {A : Around} {E : Value → Shared → Prop}
theorem draw_walk {I : Addr} {fp : List Addr} {m : Nat} {us : List Value} {Sw : Nat → Heap → Prop} (W : Walks prog w A I fp [I] m (fun i v => us.toArray[i]? = some v) Sw) (hm : m = us.length) : ∀ (n i : Nat) (s : Shared) (Q : List Value → Shared → Prop), i + n ≤ us.length → Sw i s.heap →
    (∀ h' tk, Sw (i + n) h' → (∀ b o, b ≠ I → s.heap.get? b = some o → h'.get? b = some o) → Q ((us.drop i).take n) { s with heap := h', toks := tk }) → wpAny (model prog w) A (draw (.ref I) n) Q E s
  | 0, i, s, Q, _, st, hQ => by
    show wpAny _ _ (pure []) Q E s
    exact wpAny_pure (by simpa using hQ s.heap s.toks st fun b o _ e => e)
  | n + 1, i, s, Q, hle, st, hQ => by
    have hlt : i < us.length := by omega
    show wpAny _ _ (pyNext (.ref I) >>= _) Q E s
    refine wpAny_bind (W.item i s _ _ (by omega) st fun v h1 tk1 hv st1 k1 => ?_)
    refine wpAny_bind (wpAny_holding (draw_walk W hm n (i + 1) _ _ (by omega) st1 fun h2 tk2 st2 k2 => wpAny_pure ?_))
    have ev : us[i]? = some v := by simpa using hv
    have hd : us.drop i = v :: us.drop (i + 1) := by
      rw [List.drop_eq_getElem_cons hlt]
      rw [List.getElem?_eq_getElem hlt] at ev
      rw [Option.some.inj ev]
    have := hQ h2 tk2 (by rw [show i + (n + 1) = i + 1 + n by omega]; exact st2) fun b o hb e => k2 b o hb (k1 b o (by simpa using hb) e)
    rw [hd, List.take_succ_cons] at this
    exact this
theorem unpack_list {s : Shared} {l : Addr} {us : List Value} {Q : List Value → Shared → Prop} (hh : A.handled = none) (hl : s.heap.IsList l us.toArray) (hQ : ∀ h' tk, (∀ b o, s.heap.get? b = some o → h'.get? b = some o) → Q us { s with heap := h', toks := tk }) : wpAny (model prog w) A (unpackItems (.ref l) us.length none) Q E s := by
  have hll : l < s.heap.objs.size := by obtain ⟨o, ho, _⟩ := hl; exact Heap.lt_size ho
  have hT : s.TypeIs (.ref l) "list" := by obtain ⟨o, ho, hc, _⟩ := hl; exact ⟨o, ho, hc⟩
  have us0 : us.toArray.size = us.length := by simp
  have W := Walks.list (prog := prog) (w := w) (A := A) hh s.heap.objs.size l (Nat.ne_of_lt hll) us.toArray
  unfold unpackItems
  refine wpAny_bind ?_
  unfold notIterableAtAll
  refine wpAny_bind (wpAny_specialOf hT PySem.F.slot_list_iter.lookup (wpAny_pure ?_))
  simp only [Bool.false_eq_true, if_false]
  refine wpAny_bind (wpAny_holding (wpAny_pyIter_list hl ?_))
  refine wpAny_bind (wpAny_holding (draw_walk W us0 us.length 0 _ _ (by omega) ⟨⟨_, Heap.get?_push_size _ rfl, rfl, rfl⟩, hl.push _⟩ fun h1 tk1 st1 k1 => ?_))
  have hall : List.take us.length (List.drop 0 us) = us := by rw [List.drop_zero]; exact List.take_of_length_le (Nat.le_refl _)
  rw [hall, if_neg (Nat.lt_irrefl _)]
  refine wpAny_bind (wpAny_holding (W.done _ _ _ (by rw [us0, show us.length = 0 + us.length by omega]; exact st1) fun h2 tk2 k2 => ?_))
  simp only [Option.isSome_none, Bool.false_eq_true, if_false]
  refine wpAny_pure (hQ h2 tk2 fun b o e => ?_)
  have hb : b ≠ s.heap.objs.size := Nat.ne_of_lt (Heap.lt_size e)
  exact k2 b o (by simpa using hb) (k1 b o hb (Heap.get?_push_of_some _ e))
end
section
variable {X : Cx} {pos : Pos}
/-- (a, b, ..) = a list of that length -/
def gLst (K : PySem.W.Frag) (n : Nat) (t : TGs) : TG := fun v σ H Q => ∃ a xs, v = .ref a ∧ SqL K H a xs ∧ xs.length = n ∧ t xs σ H Q
theorem pg_lst {es : List Expr} {k : Nat} {t : TGs} {n : Nat} (hc : X.calm = true) (h : PGs X es t)
    (hn : (assignEach es X.env).length = n := by rfl) (hst : (assignEach es X.env).findIdx? (·.1) = none := by rfl) : PG X (.Tuple es k pos) (gLst X.K n t) := by
  constructor; intro pins s σ H v u Q I r hw
  obtain ⟨a, xs, e1, hq, hl, hw⟩ := hw
  subst e1
  cases r
  obtain ⟨its, rv, pl, hz⟩ := I.list hq
  rw [assign_Tuple]
  refine wpAny_bind (wpAny_standAt ?_)
  unfold unpack
  rw [hn, hst, show n = its.length by rw [← hl, rv.length]]
  refine wpAny_bind (wpAny_holding (unpack_list (I.ok.hd hc) pl.isList fun h' tk hx => ?_))
  exact h pins _ σ H xs _ Q (I.kept (t' := tk) hx) rv hw
end
end My
/-! ### for k in d -/
namespace My
open PySem PySem.Spec PyProof.Rows L2
def ItK (d : Addr) (ob : Obj) (kvs : List (Key × V)) : It :=
  ⟨fun i H => H d = some (.frz ob (.dK kvs)) ∧ i < kvs.length, fun i H v H' => H' = H ∧ ∃ k x, kvs[i]? = some (k, x) ∧ v = kV k, fun i H => H d = some (.frz ob (.dK kvs)) ∧ i = kvs.length⟩
section
variable {P : Program} {w : World} {K : PySem.W.Frag}
theorem turn_keys {tg : Expr} (d it ep : Addr) (ob : Obj) (kvs : List (Key × V)) (vs : List (Key × Value)) (rel : KV kvs vs) (hat : ∀ h : Heap, h.get? d = some ob → h.DictAt (mixKind P w) d vs ep) :
    Turn P w K tg (ItK d ob kvs) [it] it (fun i h => h.IsKeyIter it d i vs.length ep) where
  mem := by simp
  obj := fun i h hi c hc => by
    rw [List.mem_singleton.mp hc]
    obtain ⟨o, eo, _, dd⟩ := hi
    exact ⟨o, eo, fun v z => by rw [dd] at z; cases z⟩
  keep := fun i h h' hi k => hi.at fun o eo => k it (by simp) o eo
  item := by
    intro X hP hw hK hc i pins s σ H E I hf st hg
    subst hP hw hK
    obtain ⟨hd, hi⟩ := hg
    obtain ⟨ho, _⟩ := (show ObjOk X.prog X.w H s.heap d (.frz ob (.dK kvs)) from I.hok d _ hd)
    obtain ⟨⟨k, x⟩, hq⟩ : ∃ q, kvs[i]? = some q := ⟨_, List.getElem?_eq_getElem hi⟩
    obtain ⟨⟨k2, u⟩, hu, hk2, ru⟩ := paired_get rel hq
    cases (show k = k2 from hk2)
    refine wpAny_pyNext_dict_item st (hat _ ho) hu fun key h' hkey hi' hs' => ?_
    obtain ⟨f0, f1, f2, f3, f4, f5⟩ := hf it (by simp)
    obtain ⟨o', eo', co', do'⟩ := id hi'
    exact ⟨key, rfl, go_of eo' co' do' (by decide) ⟨kV k, H, I.turned (t' := s.toks) (fun b o hb eo => (hs'.2 b hb).trans eo) f0 f1 f3 f4 f5, key_rel hkey, ⟨rfl, k, x, hq, rfl⟩, hi', fun c hcm => by rw [List.mem_singleton.mp hcm]; exact f0⟩⟩
  done := by
    intro X hP hw hK hc i pins s σ H E I hf st hg
    subst hP hw hK
    obtain ⟨hd, hi⟩ := hg
    obtain ⟨ho, _⟩ := (show ObjOk X.prog X.w H s.heap d (.frz ob (.dK kvs)) from I.hok d _ hd)
    have hn : vs[i]? = none := List.getElem?_eq_none_iff.mpr (by rw [← rel.length]; omega)
    refine wpAny_pyNext_dict_end (I.ok.hd hc) st (hat _ ho) hn fun h' k => ⟨rfl, ?_⟩
    obtain ⟨f0, f1, f2, f3, f4, f5⟩ := hf it (by simp)
    exact I.turned (t' := s.toks) (fun b o hb eo => k b o hb eo) f0 f1 f3 f4 f5
  self := fun _ _ _ _ _ st h => wpAny_pyIter_keyiter st h
end
section
variable {X : Cx}
/-- d, walked by its keys: the dict is held as it is from then on -/
def iKeys (td : TE) : TI := fun σ H R => td σ H fun x H1 => ∃ d kvs, x = .ref d ∧ Rd H1 d (.dK kvs) ∧ ∀ ob H2, H2 d = some (.frz ob (.dK kvs)) → (∀ b o, b ≠ d → H1 b = some o → H2 b = some o) → (∀ b, b ≠ d → H1 b = none → H2 b = none) → R (ItK d ob kvs) H2
theorem pi_keys {tg o : Expr} {td : TE} (ho : PE X o td) : PI X tg o (iKeys td) := by
  constructor; intro pins s σ H R I h
  refine thn (ho pins s σ H _ I h) fun v s1 ⟨x, H1, I1, r1, d, kvs, ex, hd, q⟩ => ?_
  subst ex
  cases r1
  obtain ⟨ob, H2, I2, h2, k2, n2⟩ : ∃ ob H2, Inv X pins σ H2 s1 ∧ H2 d = some (.frz ob (.dK kvs)) ∧ (∀ b o, b ≠ d → H1 b = some o → H2 b = some o) ∧ ∀ b, b ≠ d → H1 b = none → H2 b = none := by
    rcases hd with e | ⟨ob, e⟩
    · obtain ⟨ob, eo⟩ := obj_some (I1.hok d _ e)
      exact ⟨ob, _, inv_freeze I1 e eo, upd_same, fun b o n q => by rw [upd_ne n]; exact q, fun b n q => by rw [upd_ne n]; exact q⟩
    · exact ⟨ob, H1, I1, e, fun _ _ _ q => q, fun _ _ q => q⟩
  obtain ⟨ho2, z, hs, vs, rel, dd⟩ := (show ObjOk X.prog X.w H2 s1.heap d (.frz ob (.dK kvs)) from I2.hok d _ h2)
  obtain ⟨ep, hat⟩ := dd.dictAt
  have hat' : ∀ h : Heap, h.get? d = some ob → h.DictAt (mixKind X.prog X.w) d vs ep := fun h e => hat.at' fun o e2 => by
    rw [ho2] at e2
    cases e2
    exact e
  refine wpAny_pyIter_dict hs hat ?_
  have I3 := I2.kept (t' := s1.toks) (h' := s1.heap.push { cls := .type "dict_keyiterator", data := .fields #[.ref d, .int 0 0, .int vs.length 0, .int ep 0] }) fun b o e => Heap.get?_push_of_some _ e
  exact ⟨_, [s1.heap.objs.size], _, _, H2, rfl, I3, turn_keys d _ ep ob kvs vs rel hat', ⟨_, Heap.get?_push_size _ rfl, rfl, rfl⟩, fun b hb => by
    rw [List.mem_singleton.mp hb]
    exact I2.fpOk (Nat.le_refl _) (I2.hok.fresh (Nat.le_refl _)), q ob H2 h2 k2 n2⟩
end
theorem for_keys {d : Addr} {ob : Obj} {kvs : List (Key × V)} {g : TG} {tb : TS} {D : Ends} {σ : L2.St} {H : Hp} (Pv : Nat → L2.St → Hp → Prop) (h0 : Pv 0 σ H) (hl : ∀ i σ H, Pv i σ H → H d = some (.frz ob (.dK kvs)))
    (hs : ∀ i k x σ H, kvs[i]? = some (k, x) → Pv i σ H → g (kV k) σ H fun σ2 H2 => tb { D with nx := Pv (i + 1), ct := Pv (i + 1), bk := D.nx } σ2 H2) (hd : ∀ σ H, Pv kvs.length σ H → D.nx σ H) :
    ∃ W : Nat → Nat → L2.St → Hp → Prop, (∃ m, W 0 m σ H) ∧ ∀ i m σ H, W i m σ H →
      ((ItK d ob kvs).stop i H ∧ D.nx σ H) ∨ ((ItK d ob kvs).go i H ∧ ∃ N : L2.St → Hp → Prop, (∀ σ' H', N σ' H' → ∃ m', m' < m ∧ W (i + 1) m' σ' H') ∧ ∀ x H', (ItK d ob kvs).yld i H x H' → g x σ H' fun σ2 H2 => tb { D with nx := N, ct := N, bk := D.nx } σ2 H2) := by
  refine ⟨fun i m σ H => m = kvs.length - i ∧ i ≤ kvs.length ∧ Pv i σ H, ⟨kvs.length, by simp, Nat.zero_le _, h0⟩, ?_⟩
  rintro i m σ H ⟨rfl, hi, p⟩
  by_cases hlt : i < kvs.length
  · refine .inr ⟨⟨hl i σ H p, hlt⟩, Pv (i + 1), fun σ' H' p' => ⟨kvs.length - (i + 1), by omega, rfl, hlt, p'⟩, ?_⟩
    rintro v H' ⟨rfl, k, x, hx, rfl⟩
    exact hs i k x σ _ hx p
  · have e : i = kvs.length := by omega
    subst e
    exact .inl ⟨⟨hl _ σ H p, rfl⟩, hd σ H p⟩
end My
/-! ### d.clear() of a dict that was held, d.update(d2), xs[lo:hi:st] -/
namespace My
open PySem PySem.Spec PyProof.Rows L2 PyProof
def tDUpd (td te : TE) : TE := fun σ H Q => td σ H fun x H1 => ∃ a, x = .ref a ∧ IsD H1 a ∧ te σ H1 fun y H2 => ∃ b kvs more, y = .ref b ∧ a ≠ b ∧ H2 a = some (.dK kvs) ∧ Rd H2 b (.dK more) ∧ kvs.length + more.length ≤ sizeLine ∧ Q .non (upd H2 a (.dK (putAllK kvs more)))
section
variable {X : Cx} {o e : Expr} {td te : TE} {apos cpos : Pos}
theorem pe_dupd (ho : PE X o td) (he : PE X e te) (m : M1 X o "update" apos e cpos) : PE X (.Call (.Attribute o "update" apos) [e] [] cpos) (tDUpd td te) := by
  constructor; intro pins s σ H Q I h
  refine wpAny_Call_method m.base m.few m.line PySem.F.plainAttrs_dict PySem.F.slot_dict_update PySem.F.type_dict_update (thn (ho pins s σ H _ I h) fun u s1 ⟨x, H1, I1, rx, a, ex, d, q1⟩ => ?_)
  subst ex
  obtain rfl : u = Value.ref a := rx
  obtain ⟨t1, t2, _⟩ := isD_at I1 d
  refine ⟨t1, t2, ?_⟩
  rw [m.trees]
  refine Calls.callWith_builtin rfl (Calls.evalArgs_plain (Calls.spliced_cons (thn (he pins s1 σ H1 _ I1 q1) fun iv s2 ⟨y, H2, I2, ry, b, kvs, more, ey, nab, ha, hb, hz, q2⟩ => Calls.spliced_nil ?_)))
  subst ey
  obtain rfl : iv = Value.ref b := ry
  obtain ⟨z, hd, vs, rel, dd⟩ := dk_of I2.hok ha
  obtain ⟨z2, hd2, vs2, rel2, dd2⟩ := dk_rd I2.hok hb
  obtain ⟨t3, _, _⟩ := isD_at I2 (.inl ⟨kvs, .inl ha⟩)
  refine call_meetsIn PySem.F.slot_dict_update t3 PySem.F.entry_dict_update (PySem.F.args_dict_update_2 _ _) (meets_dict_update (mixKind X.prog X.w) a b nab hd2) ⟨vs, vs2, dd, dd2, by rw [← rel.length, ← rel2.length]; exact hz, fun h' dd' _ hs => ?_⟩
  have he' : ∃ q, h'.get? a = some q := let ⟨q, _, _, hq, _⟩ := dd'; ⟨q, hq⟩
  exact ⟨.non, _, d_write (t' := s2.toks) (ob := .dK (putAllK kvs more)) I2 (by rw [ha]; exact True.intro) hs he' (dk_new (Nat.le_trans (putAllK_len more kvs) hz) hd (kv_all rel2 rel) dd'), rfl, q2⟩
end
section
variable {X : Cx} {e : Expr} {te : TE} {lo hi : Option Expr} {st : Expr} {tl th tk : TO} {pos p2 : Pos}
end
end My
/-! ### list(range(n)), list(reversed(range(n))) -/
namespace My
open PySem PySem.Spec PyProof.Rows L2 PyProof
section
variable {prog : Program} {w : World} {A : Around} {E : Value → Shared → Prop} {s : Shared}
end
end My
/-! ### dicts of data compared -/
namespace My
open PySem PySem.Spec PyProof.Rows L2
section
variable {X : Cx} {pins : List (Addr × Obj)} {σ : L2.St} {H : Hp} {s : Shared} {a b : Addr} {kvs kvs' : List (Key × V)} {ds : List (Key × PyData)}
end
section
variable {X : Cx}
end
end My
/-! ### max(xs, key=lambda n: d[n]) -/
namespace My
open PySem PySem.Spec PyProof.Rows L2 PyProof
section
variable {prog : Program} {w : World} {A : Around}
end
end My
/-! ### the head of a law whose text makes lambdas: the table of code objects is tracked beside the script -/
namespace My
open PySem PySem.Spec PyProof.Rows L2
section
variable {P : Program} {w : World} {K : PySem.W.Frag} {mg : Str → Option Value} {base : Heap}
end
section
variable {P : Program} {w : World} {K : PySem.W.Frag} {mg mb : Str → Option Value} {CX : CXT} {k : Nat} {fa a c0 P0 : Addr} {fd : FuncData} {x : Str} {sp : Heap → Sp} {s₁ : Shared} {vs : List Value} {ns : List Int}
end
end My
namespace My
open PySem PySem.W PySem.Calls PyProof.Rows L2
end My
/-! ### sorted(xs, key=lambda z: z.f), fewer than 64 things -/
namespace My
open PySem PySem.Spec PyProof.Rows L2 PyProof
end My
/-! ### try: y = f(..) / except S: .., no name, S an exception class or one above the one raised -/
namespace My
open PySem PySem.Spec PyProof.Rows L2
section
variable {X : Cx}
end
end My
/-! ### list.sort over fewer than 128 numbers: the model's runs, gallops and merges (its own defs are named by the library's elaborator, nothing of them is written out here) -/
namespace My
open PySem PyProof.Rows
def gallopP : Bool → Keyed → Array Keyed → Nat → Nat → Nat → StateT SortSt Sem (Option Nat) := sortPriv% PySem.Builtin.gallop
/-- the number by which a thing is sorted -/
def kf (p : Keyed) : Int := numOf p.1
def IntK (p : Keyed) : Prop := ∃ n t, p.1 = .int n t
theorem IntK.is {p : Keyed} (h : IntK p) : ∃ t, p = (.int (kf p) t, p.2) := by
  obtain ⟨n, t, e⟩ := h
  refine ⟨t, ?_⟩
  obtain ⟨x, y⟩ := p
  cases (show x = .int n t from e)
  rfl
section
variable {prog : Program} {w : World} {s : Shared} {A : Around} {E : Value → Shared → Prop}
theorem lt_ok {st : SortSt} {p q : Keyed} {Q : Option Bool → SortSt → Prop} (hk : kindOf st = oneType') (hp : IntK p) (hq : IntK q) (h : Q (some (decide (kf p < kf q))) st) :
    wpS (model prog w) A E s (lt' p q) Q st := by
  obtain ⟨t, e1⟩ := hp.is
  obtain ⟨u, e2⟩ := hq.is
  rw [e1, e2, lt'_eq]
  refine wpS_bind (wpS_get (wpS_bind (wpS_lift (wpAny_attempt ?_))))
  rw [hk, keyLt'_oneType]
  exact oneLt_int ⟨rfl, wpS_pure h⟩
theorem elem_ok {st : SortSt} {xs : Array Keyed} {i : Nat} {p : Keyed} {Q : Keyed → SortSt → Prop} (e : xs[i]? = some p) (h : Q p st) : wpS (model prog w) A E s (elem' xs i) Q st := by
  rw [elem'_eq, e]
  exact wpS_pure h
def bey (left : Bool) (k x : Int) : Bool := if left = true then decide (x < k) else !decide (k < x)
theorem bey_mono {left : Bool} {k x y : Int} (h : x ≤ y) (hy : bey left k y = true) : bey left k x = true := by
  unfold bey at *
  cases left
  · rw [if_neg (by simp)] at hy ⊢
    rw [Bool.not_eq_true'] at hy ⊢
    have := of_decide_eq_false hy
    exact decide_eq_false (show ¬ _ by omega)
  · rw [if_pos rfl] at hy ⊢
    have := of_decide_eq_true hy
    exact decide_eq_true (show _ < _ by omega)
theorem gallop_ok {left : Bool} {key : Keyed} {arr : Array Keyed} {b n hint : Nat} {Q : Option Nat → SortSt → Prop} {st : SortSt} (hk : kindOf st = oneType') (hkey : IntK key) (g : Nat → Keyed) (hg : ∀ i, i < n → arr[b + i]? = some (g i)) (hi : ∀ i, i < n → IntK (g i)) (hh : hint < n)
    (hs : ∀ i j, i ≤ j → j < n → kf (g i) ≤ kf (g j)) (h : ∀ m, m ≤ n → (∀ i, i < m → bey left (kf key) (kf (g i)) = true) → (∀ i, m ≤ i → i < n → bey left (kf key) (kf (g i)) = false) → Q (some m) st) :
    wpS (model prog w) A E s (gallopP left key arr b n hint) Q st := by
  obtain ⟨p, hp⟩ : ∃ p : Nat → Bool, p = fun i => bey left (kf key) (kf (g i)) := ⟨_, rfl⟩
  have mono : ∀ i j, i ≤ j → j < n → p j = true → p i = true := fun i j h1 h2 h3 => by
    rw [hp] at h3 ⊢
    exact bey_mono (hs i j h1 h2) h3
  replace h : ∀ m, m ≤ n → (m = 0 ∨ p (m - 1) = true) → (m = n ∨ p m = false) → Q (some m) st := fun m h1 h2 h3 => by
    refine h m h1 (fun i hi => ?_) fun i h4 h5 => ?_
    · have := mono i (m - 1) (by omega) (by omega) (h2.resolve_left (by omega))
      rw [hp] at this
      exact this
    · cases e : bey left (kf key) (kf (g i)) with
      | false => rfl
      | true =>
        have q := mono m i h4 h5 (by rw [hp]; exact e)
        rw [h3.resolve_left (by omega)] at q
        cases q
  have ask : ∀ {R : Option Bool → SortSt → Prop} {i : Nat}, i < n → R (some (p i)) st → wpS (model prog w) A E s (do
      let x ← elem' arr (b + i)
      if left = true then lt' x key else do
        let y ← lt' key x
        pure (Option.map (fun z => !z) y)) R st := fun {R i} h1 h2 => by
    refine wpS_bind (elem_ok (hg i h1) ?_)
    replace h2 : R (some (bey left (kf key) (kf (g i)))) st := by
      rw [hp] at h2
      exact h2
    unfold bey at h2
    cases left
    · rw [if_neg (by simp)] at h2 ⊢
      exact wpS_bind (lt_ok hk hkey (hi i h1) (wpS_pure h2))
    · rw [if_pos rfl] at h2 ⊢
      exact lt_ok hk (hi i h1) hkey h2
  clear hp
  refine wpS_bind (ask (i := hint) hh ?_)
  have bin : ∀ (f : Nat → Option (Option Nat) × Nat × Nat → StateT SortSt Sem (ForInStep (Option (Option Nat) × Nat × Nat))) (R : Option (Option Nat) × Nat × Nat → SortSt → Prop) (lo hi : Nat), (∀ x l r, l ≥ r → f x (none, l, r) = pure (ForInStep.done (none, l, r))) →
      (∀ x l r (R : ForInStep (Option (Option Nat) × Nat × Nat) → SortSt → Prop), l < r → r ≤ n → (p (l + (r - l) / 2) = true → R (ForInStep.yield (none, l + (r - l) / 2 + 1, r)) st) → (p (l + (r - l) / 2) = false → R (ForInStep.yield (none, l, l + (r - l) / 2)) st) → wpS (model prog w) A E s (f x (none, l, r)) R st) →
      lo ≤ hi → hi ≤ n → (lo = 0 ∨ p (lo - 1) = true) → (hi = n ∨ p hi = false) → (∀ m, m ≤ n → (m = 0 ∨ p (m - 1) = true) → (m = n ∨ p m = false) → R (none, m, m) st) → wpS (model prog w) A E s (forIn [:n] (none, lo, hi) f) R st := fun f R lo hi f0 f1 h1 h2 h3 h4 hR => by
    refine wpS_forRange (I := fun x c st' => st' = st ∧ ∃ l r, c = (none, l, r) ∧ l ≤ r ∧ r ≤ n ∧ (l = 0 ∨ p (l - 1) = true) ∧ (r = n ∨ p r = false) ∧ r - l ≤ n - x) ?_ ?_ ⟨rfl, lo, hi, rfl, h1, h2, h3, h4, by omega⟩
    · rintro x c st' _ hx ⟨rfl, l, r, rfl, q1, q2, q3, q4, q5⟩
      by_cases hge : l ≥ r
      · rw [f0 x l r hge]
        have : l = r := by omega
        subst this
        exact wpS_pure (hR l q2 q3 q4)
      · exact f1 x l r _ (by omega) q2 (fun e => ⟨rfl, _, _, rfl, by omega, by omega, .inr e, q4, by omega⟩) fun e => ⟨rfl, _, _, rfl, by omega, by omega, q3, .inr e, by omega⟩
    · rintro c st' ⟨rfl, l, r, rfl, q1, q2, q3, q4, q5⟩
      have : l = r := by omega
      subst this
      exact hR l q2 q3 q4
  cases e0 : p hint with
  | true =>
    refine wpS_bind (wpS_mono (wpS_forRange (I := fun x c st' => st' = st ∧ ∃ l o, c = (none, l, o) ∧ l < o ∧ x < o ∧ l < n - hint ∧ p (hint + l) = true) (Q := fun c st' => st' = st ∧ ∃ l o, c = (none, l, o) ∧ l < o ∧ l < n - hint ∧ p (hint + l) = true ∧ (o ≥ n - hint ∨ p (hint + o) = false)) ?_ ?_ ⟨rfl, 0, 1, rfl, by omega, by omega, by omega, e0⟩) ?_)
    · rintro x c st' _ hx ⟨rfl, l, o, rfl, q1, q2, q3, q4⟩
      dsimp only
      by_cases hge : o ≥ n - hint
      · rw [if_pos hge]
        exact wpS_pure ⟨rfl, l, o, rfl, q1, q3, q4, .inl hge⟩
      · rw [if_neg hge]
        refine wpS_bind (ask (i := hint + o) (by omega) ?_)
        cases e : p (hint + o) with
        | true => exact wpS_pure ⟨rfl, _, _, rfl, by omega, by omega, by omega, e⟩
        | false => exact wpS_pure ⟨rfl, l, o, rfl, q1, q3, q4, .inr e⟩
    · rintro c st' ⟨rfl, l, o, rfl, q1, q2, q3, q4⟩
      exact ⟨rfl, l, o, rfl, q1, q3, q4, .inl (by omega)⟩
    · rintro c st' ⟨rfl, l, o, rfl, q1, q3, q4, q5⟩
      refine wpS_bind (bin _ _ (hint + l + 1) (hint + min o (n - hint)) (fun x l r hl => if_pos hl) (fun x l r R hl hr r1 r2 => ?_) (by omega) (by omega) (.inr q4) ?_ fun m h1 h2 h3 => wpS_pure (h m h1 h2 h3))
      · dsimp only
        rw [if_neg (by omega)]
        refine wpS_bind (ask (by omega) ?_)
        cases e : p (l + (r - l) / 2) with
        | true => exact wpS_pure (r1 e)
        | false => exact wpS_pure (r2 e)
      · by_cases hge : o ≥ n - hint
        · exact .inl (by omega)
        · rw [show min o (n - hint) = o by omega]
          exact .inr (q5.resolve_left hge)
  | false =>
    refine wpS_bind (wpS_mono (wpS_forRange (I := fun x c st' => st' = st ∧ ∃ l o, c = (none, l, o) ∧ l < o ∧ x < o ∧ l ≤ hint ∧ p (hint - l) = false) (Q := fun c st' => st' = st ∧ ∃ l o, c = (none, l, o) ∧ l < o ∧ l ≤ hint ∧ p (hint - l) = false ∧ (o ≥ hint + 1 ∨ p (hint - o) = true)) ?_ ?_ ⟨rfl, 0, 1, rfl, by omega, by omega, by omega, e0⟩) ?_)
    · rintro x c st' _ hx ⟨rfl, l, o, rfl, q1, q2, q3, q4⟩
      dsimp only
      by_cases hge : o ≥ hint + 1
      · rw [if_pos hge]
        exact wpS_pure ⟨rfl, l, o, rfl, q1, q3, q4, .inl hge⟩
      · rw [if_neg hge]
        refine wpS_bind (ask (i := hint - o) (by omega) ?_)
        cases e : p (hint - o) with
        | true => exact wpS_pure ⟨rfl, l, o, rfl, q1, q3, q4, .inr e⟩
        | false => exact wpS_pure ⟨rfl, _, _, rfl, by omega, by omega, by omega, e⟩
    · rintro c st' ⟨rfl, l, o, rfl, q1, q2, q3, q4⟩
      exact ⟨rfl, l, o, rfl, q1, q3, q4, .inl (by omega)⟩
    · rintro c st' ⟨rfl, l, o, rfl, q1, q3, q4, q5⟩
      refine wpS_bind (bin _ _ (hint + 1 - min o (hint + 1)) (hint - l) (fun x l r hl => if_pos hl) (fun x l r R hl hr r1 r2 => ?_) (by omega) (by omega) ?_ (.inr q4) fun m h1 h2 h3 => wpS_pure (h m h1 h2 h3))
      · dsimp only
        rw [if_neg (by omega)]
        refine wpS_bind (ask (by omega) ?_)
        cases e : p (l + (r - l) / 2) with
        | true => exact wpS_pure (r1 e)
        | false => exact wpS_pure (r2 e)
      · by_cases hge : o ≥ hint + 1
        · exact .inl (by omega)
        · rw [show hint + 1 - min o (hint + 1) - 1 = hint - o by omega]
          exact .inr (q5.resolve_left hge)
end
def mergeLoP : Array Keyed → Array Keyed → StateT SortSt Sem (Array Keyed) := sortPriv% PySem.Builtin.mergeLo
def mergeHiP : Array Keyed → Array Keyed → StateT SortSt Sem (Array Keyed) := sortPriv% PySem.Builtin.mergeHi
abbrev Upk (l : List Keyed) : Prop := l.Pairwise fun x y => kf x ≤ kf y
/-- two lists woven so far -/
structure LInv (A B out : List Keyed) (ia ib : Nat) : Prop where
  ha : ia ≤ A.length
  hb : ib ≤ B.length
  perm : out.Perm (A.take ia ++ B.take ib)
  up : Upk out
  leA : ∀ x ∈ out, ∀ y ∈ A.drop ia, kf x ≤ kf y
  leB : ∀ x ∈ out, ∀ y ∈ B.drop ib, kf x ≤ kf y
theorem LInv.swap {A B out : List Keyed} {ia ib : Nat} (h : LInv A B out ia ib) : LInv B A out ib ia := ⟨h.hb, h.ha, h.perm.trans List.perm_append_comm, h.up, h.leB, h.leA⟩
theorem LInv.pushA {A B out : List Keyed} {ia ib : Nat} (h : LInv A B out ia ib) (sA : Upk A) {k : Nat} (hk : ia + k ≤ A.length) (hc : ∀ x ∈ (A.drop ia).take k, ∀ y ∈ B.drop ib, kf x ≤ kf y) : LInv A B (out ++ (A.drop ia).take k) (ia + k) ib := by
  have sD : Upk (A.drop ia) := sA.sublist (List.drop_sublist _ _)
  have eD : A.drop ia = (A.drop ia).take k ++ A.drop (ia + k) := by rw [← List.drop_drop, List.take_append_drop]
  refine ⟨hk, h.hb, ?_, ?_, fun x hx y hy => ?_, fun x hx y hy => ?_⟩
  · rw [List.take_add, List.append_assoc]
    refine (h.perm.append_right _).trans ?_
    rw [List.append_assoc]
    exact List.perm_append_comm.append_left _
  · exact List.pairwise_append.mpr ⟨h.up, sD.sublist (List.take_sublist _ _), fun x hx y hy => h.leA x hx y (List.mem_of_mem_take hy)⟩
  · rcases List.mem_append.mp hx with z | z
    · exact h.leA x z y (by rw [eD]; exact List.mem_append_right _ hy)
    · rw [eD] at sD
      exact (List.pairwise_append.mp sD).2.2 x z y hy
  · rcases List.mem_append.mp hx with z | z
    · exact h.leB x z y hy
    · exact hc x z y hy
theorem LInv.pushB {A B out : List Keyed} {ia ib : Nat} (h : LInv A B out ia ib) (sB : Upk B) {k : Nat} (hk : ib + k ≤ B.length) (hc : ∀ x ∈ (B.drop ib).take k, ∀ y ∈ A.drop ia, kf x ≤ kf y) : LInv A B (out ++ (B.drop ib).take k) ia (ib + k) := (h.swap.pushA sB hk hc).swap
theorem LInv.res {A B out : List Keyed} {ia ib : Nat} (h : LInv A B out ia ib) (e1 : ia = A.length) (e2 : ib = B.length) : out.Perm (A ++ B) ∧ Upk out := by
  have := h.perm
  rw [e1, e2, List.take_length, List.take_length] at this
  exact ⟨this, h.up⟩
/-- the one is through -/
theorem LInv.endA {A B out : List Keyed} {ia ib : Nat} (h : LInv A B out ia ib) (sA : Upk A) (e : ib = B.length) : (out ++ A.drop ia).Perm (A ++ B) ∧ Upk (out ++ A.drop ia) := by
  have := h.pushA sA (k := A.length - ia) (by have := h.ha; omega) (fun x _ y hy => by rw [e, List.drop_length] at hy; cases hy)
  rw [List.take_of_length_le (by rw [List.length_drop]; omega)] at this
  exact this.res (by have := h.ha; omega) e
theorem LInv.endB {A B out : List Keyed} {ia ib : Nat} (h : LInv A B out ia ib) (sB : Upk B) (e : ia = A.length) : (out ++ B.drop ib).Perm (A ++ B) ∧ Upk (out ++ B.drop ib) :=
  let ⟨p, u⟩ := h.swap.endA sB e
  ⟨p.trans List.perm_append_comm, u⟩
/-- only the greatest of the one is left -/
theorem LInv.lastA {A B out : List Keyed} {ia ib : Nat} (h : LInv A B out ia ib) (sA : Upk A) (sB : Upk B) (hl : ∀ x ∈ B, ∀ y ∈ A.drop ia, kf x ≤ kf y) : (out ++ B.drop ib ++ A.drop ia).Perm (A ++ B) ∧ Upk (out ++ B.drop ib ++ A.drop ia) := by
  have q := h.pushB sB (k := B.length - ib) (by have := h.hb; omega) (fun x hx y hy => hl x (List.mem_of_mem_drop (List.mem_of_mem_take hx)) y hy)
  rw [List.take_of_length_le (by rw [List.length_drop]; omega)] at q
  exact q.endA sA (by have := h.hb; omega)
theorem take_one {A : List Keyed} {i : Nat} {x : Keyed} (h : A[i]? = some x) : (A.drop i).take 1 = [x] := by
  have ⟨hi, e⟩ := List.getElem?_eq_some_iff.mp h
  rw [List.drop_eq_getElem_cons hi, e]
  rfl
theorem up_drop {A : List Keyed} (sA : Upk A) {i : Nat} {x : Keyed} (h : A[i]? = some x) : ∀ y ∈ A.drop i, kf x ≤ kf y := by
  have ⟨hi, e⟩ := List.getElem?_eq_some_iff.mp h
  have sD : Upk (A.drop i) := sA.sublist (List.drop_sublist _ _)
  rw [List.drop_eq_getElem_cons hi, e] at sD ⊢
  intro y hy
  rcases List.mem_cons.mp hy with z | z
  · rw [z]; exact Int.le_refl _
  · exact (List.pairwise_cons.mp sD).1 y z
structure SameS (st st' : SortSt) : Prop where
  kind : kindOf st' = kindOf st
  arr : arrOf st' = arrOf st
  pend : pendingOf st' = pendingOf st
  fail : failedOf st' = failedOf st
theorem SameS.refl (st : SortSt) : SameS st st := ⟨rfl, rfl, rfl, rfl⟩
theorem SameS.trans {a b c : SortSt} (h : SameS a b) (k : SameS b c) : SameS a c := ⟨k.kind.trans h.kind, k.arr.trans h.arr, k.pend.trans h.pend, k.fail.trans h.fail⟩
theorem SameS.mk' (st : SortSt) (g : Nat) : SameS st (SortSt.mk' (kindOf st) (arrOf st) (pendingOf st) g (failedOf st)) := ⟨rfl, rfl, rfl, rfl⟩
theorem ext_to (a : Array Keyed) (i : Nat) : (a.extract i).toList = a.toList.drop i := by
  simp
  exact List.take_of_length_le (Nat.le_of_eq (by simp))
theorem ext_part (a : Array Keyed) (i k : Nat) : (a.extract i (i + k)).toList = (a.toList.drop i).take k := by simp [List.extract_eq_take_drop]
section
variable {prog : Program} {w : World} {s : Shared} {A : Around} {E : Value → Shared → Prop}
theorem wpS_if {σ α : Type} {c : Prop} [Decidable c] {m1 m2 : StateT σ Sem α} {Q : α → σ → Prop} {st : σ} (h1 : c → wpS (model prog w) A E s m1 Q st) (h2 : ¬ c → wpS (model prog w) A E s m2 Q st) : wpS (model prog w) A E s (if c then m1 else m2) Q st := by
  by_cases h : c
  · rw [if_pos h]; exact h1 h
  · rw [if_neg h]; exact h2 h
theorem gal_ok {left : Bool} {key : Keyed} {arr : Array Keyed} {base n hint : Nat} {Q : Option Nat → SortSt → Prop} {st : SortSt} {D : List Keyed} (hk : kindOf st = oneType') (hkey : IntK key) (hn : base + n ≤ arr.size) (hh : hint < n) (eD : D = (arr.toList.drop base).take n) (sD : Upk D) (iD : ∀ x ∈ D, IntK x)
    (h : ∀ k, k ≤ n → (∀ x ∈ D.take k, bey left (kf key) (kf x) = true) → (∀ x ∈ D.drop k, bey left (kf key) (kf x) = false) → Q (some k) st) : wpS (model prog w) A E s (gallopP left key arr base n hint) Q st := by
  have ln : D.length = n := by rw [eD, List.length_take, List.length_drop, Array.length_toList]; omega
  have gt : ∀ i, (hi : i < n) → (D[i]?).getD key = D[i]'(by omega) := fun i hi => by rw [List.getElem?_eq_getElem (by omega)]; rfl
  refine gallop_ok hk hkey (fun i => (D[i]?).getD key) (fun i hi => ?_) (fun i hi => ?_) hh (fun i j h1 h2 => ?_) fun m hm h1 h2 => h m hm (fun x hx => ?_) fun x hx => ?_
  · have e : D[i]? = arr[base + i]? := by rw [eD, List.getElem?_take_of_lt hi, List.getElem?_drop, Array.getElem?_toList]
    rw [← e, List.getElem?_eq_getElem (by omega)]
    rfl
  · show IntK ((D[i]?).getD key)
    rw [gt i hi]
    exact iD _ (List.getElem_mem _)
  · show kf ((D[i]?).getD key) ≤ kf ((D[j]?).getD key)
    rw [gt i (by omega), gt j h2]
    rcases Nat.lt_or_eq_of_le h1 with z | z
    · exact List.pairwise_iff_getElem.mp sD i j (by omega) (by omega) z
    · subst z; exact Int.le_refl _
  · obtain ⟨i, hi, e⟩ := List.getElem_of_mem hx
    rw [List.length_take] at hi
    rw [List.getElem_take] at e
    have := h1 i (by omega)
    rw [gt i (by omega), e] at this
    exact this
  · obtain ⟨i, hi, e⟩ := List.getElem_of_mem hx
    rw [List.length_drop] at hi
    rw [List.getElem_drop] at e
    have := h2 (m + i) (by omega) (by omega)
    rw [gt (m + i) (by omega), e] at this
    exact this
theorem bey_le {k x : Int} (h : bey false k x = true) : x ≤ k := by
  unfold bey at h
  rw [if_neg (by simp), Bool.not_eq_true'] at h
  have := of_decide_eq_false h
  omega
theorem bey_gt {k x : Int} (h : bey false k x = false) : k < x := by
  unfold bey at h
  rw [if_neg (by simp), Bool.not_eq_false'] at h
  exact of_decide_eq_true h
theorem bey_lt {k x : Int} (h : bey true k x = true) : x < k := of_decide_eq_true h
theorem bey_ge {k x : Int} (h : bey true k x = false) : k ≤ x := by
  have := of_decide_eq_false (show decide (x < k) = false from h)
  omega
theorem mergeLo_ok {a b : Array Keyed} {Q : Array Keyed → SortSt → Prop} {st : SortSt} (hk : kindOf st = oneType') (iA : ∀ x ∈ a.toList, IntK x) (iB : ∀ x ∈ b.toList, IntK x) (sA : Upk a.toList) (sB : Upk b.toList) (nA : 0 < a.size) (nB : 0 < b.size)
    (first : ∀ x, b[0]? = some x → ∀ y ∈ a.toList, kf x ≤ kf y) (last : ∀ x ∈ b.toList, ∀ y, a[a.size - 1]? = some y → kf x ≤ kf y)
    (h : ∀ (r : Array Keyed) st', SameS st st' → r.toList.Perm (a.toList ++ b.toList) → Upk r.toList → Q r st') : wpS (model prog w) A E s (mergeLoP a b) Q st := by
  refine wpS_bind (wpS_lift (wpAny_rule (And.intro rfl ?_)))
  have at_ : ∀ {xs : Array Keyed} {i : Nat}, i < xs.size → ∃ x, xs[i]? = some x ∧ xs.toList[i]? = some x ∧ x ∈ xs.toList := fun {xs i} hi => ⟨xs[i], getElem?_pos xs i hi, by rw [Array.getElem?_toList]; exact getElem?_pos xs i hi, Array.getElem_mem_toList hi⟩
  have la : a.toList.length = a.size := Array.length_toList
  have lb : b.toList.length = b.size := Array.length_toList
  have dn : ∀ (out : Array Keyed) (ia ib : Nat) st', SameS st st' → LInv a.toList b.toList out.toList ia ib → ib = b.size → Q (out ++ a.extract ia ++ b.extract ib) st' := fun out ia ib st' ss L e => by
    have q := L.endA sA (e.trans lb.symm)
    have eq : (out ++ a.extract ia ++ b.extract ib).toList = out.toList ++ a.toList.drop ia := by
      rw [Array.toList_append, Array.toList_append, ext_to, ext_to, e, ← lb, List.drop_length, List.append_nil]
    exact h _ st' ss (eq ▸ q.1) (eq ▸ q.2)
  have dnA : ∀ (out : Array Keyed) (ia ib : Nat) st', SameS st st' → LInv a.toList b.toList out.toList ia ib → ia = a.size → Q (out ++ a.extract ia ++ b.extract ib) st' := fun out ia ib st' ss L e => by
    have q := L.endB sB (e.trans la.symm)
    have eq : (out ++ a.extract ia ++ b.extract ib).toList = out.toList ++ b.toList.drop ib := by
      rw [Array.toList_append, Array.toList_append, ext_to, ext_to, e, ← la, List.drop_length, List.append_nil]
    exact h _ st' ss (eq ▸ q.1) (eq ▸ q.2)
  have dl : ∀ (out : Array Keyed) (ia ib : Nat) st', SameS st st' → LInv a.toList b.toList out.toList ia ib → ia + 1 = a.size → Q (out ++ b.extract ib ++ a.extract ia) st' := fun out ia ib st' ss L e => by
    obtain ⟨z, z1, z2, _⟩ := at_ (xs := a) (i := ia) (by omega)
    have ez : a.toList.drop ia = [z] := by
      rw [← take_one z2, List.take_of_length_le (by rw [List.length_drop]; omega)]
    have q := L.lastA sA sB (fun x hx y hy => by
      rw [ez] at hy
      rw [List.mem_singleton.mp hy]
      exact last x hx z (by rw [← z1]; congr 1; omega))
    have eq : (out ++ b.extract ib ++ a.extract ia).toList = out.toList ++ b.toList.drop ib ++ a.toList.drop ia := by
      rw [Array.toList_append, Array.toList_append, ext_to, ext_to]
    exact h _ st' ss (eq ▸ q.1) (eq ▸ q.2)
  have kd : ∀ {st'}, SameS st st' → kindOf st' = oneType' := fun ss => ss.kind.trans hk
  obtain ⟨x0, e0, e0', m0⟩ := at_ nB
  refine wpS_bind (elem_ok e0 ?_)
  have L1 : LInv a.toList b.toList [x0] 0 1 := by
    have L0 : LInv a.toList b.toList [] 0 0 := ⟨Nat.zero_le _, Nat.zero_le _, by simp, .nil, by simp, by simp⟩
    have q := L0.pushB sB (k := 1) (by omega) (fun x hx y hy => by
      rw [take_one e0'] at hx
      rw [List.mem_singleton.mp hx]
      exact first x0 e0 y (List.mem_of_mem_drop hy))
    rw [take_one e0'] at q
    exact q
  refine wpS_if (fun c1 => wpS_pure (dn #[x0] 0 1 st (SameS.refl _) L1 (by simpa using c1))) fun c1 => ?_
  refine wpS_if (fun c2 => wpS_pure (dl #[x0] 0 1 st (SameS.refl _) L1 (by simpa using c2))) fun c2 => ?_
  have c1' : 1 ≠ b.size := by simpa using c1
  have c2' : 0 + 1 ≠ a.size := by simpa using c2
  refine wpS_bind (wpS_get ?_)
  refine wpS_bind (wpS_mono (wpS_forRange (I := fun x c st' => SameS st st' ∧ ∃ out ia ib mg, c = (none, out, ia, ib, mg) ∧ LInv a.toList b.toList out.toList ia ib ∧ ia + 1 < a.size ∧ ib < b.size ∧ x + 1 ≤ ia + ib) (Q := fun c st' => ∃ r o, c = (some r, o) ∧ Q r st') ?step ?fin ⟨SameS.refl _, #[x0], 0, 1, _, rfl, L1, by omega, by omega, by omega⟩) ?post)
  case post =>
    rintro c st' ⟨r, o, rfl, q⟩
    exact wpS_pure q
  case fin =>
    rintro c st' ⟨ss, out, ia, ib, mg, rfl, L, h1, h2, h3⟩
    omega
  case step =>
    rintro x c st' _ hx ⟨ss, out, ia, ib, mg, rfl, L, h1, h2, h3⟩
    refine wpS_bind (wpS_mono (wpS_forRange (I := fun y c st' => SameS st st' ∧ ∃ out' ia' ib' ac bc, c = (none, out', ia', ib', ac, bc) ∧ LInv a.toList b.toList out'.toList ia' ib' ∧ ia' + 1 < a.size ∧ ib' < b.size ∧ ia + ib + y ≤ ia' + ib') (Q := fun c st' => (∃ r o, c = (some r, o) ∧ Q r st') ∨ (SameS st st' ∧ ∃ out' ia' ib' ac bc, c = (none, out', ia', ib', ac, bc) ∧ LInv a.toList b.toList out'.toList ia' ib' ∧ ia' + 1 < a.size ∧ ib' < b.size ∧ ia + ib + 1 ≤ ia' + ib')) ?step1 ?fin1 ⟨ss, out, ia, ib, 0, 0, rfl, L, h1, h2, by omega⟩) ?post1)
    case fin1 =>
      rintro c st' ⟨ss, out', ia', ib', ac, bc, rfl, L, h1, h2, h3⟩
      exact .inr ⟨ss, out', ia', ib', ac, bc, rfl, L, h1, h2, by omega⟩
    case step1 =>
      rintro y c st' _ hy ⟨ss, out', ia', ib', ac, bc, rfl, L, h1, h2, h3⟩
      obtain ⟨xb, eb, eb', mb⟩ := at_ h2
      obtain ⟨xa, ea, ea', ma⟩ := at_ (xs := a) (i := ia') (by omega)
      refine wpS_bind (elem_ok eb (wpS_bind (elem_ok ea (wpS_bind (lt_ok (kd ss) (iB _ mb) (iA _ ma) ?_)))))
      by_cases hl : kf xb < kf xa
      · rw [decide_eq_true hl]
        have L2 := L.pushB sB (k := 1) (by omega) (fun x hx y hy => by
          rw [take_one eb'] at hx
          rw [List.mem_singleton.mp hx]
          have := up_drop sA ea' y hy
          omega)
        rw [take_one eb', ← Array.toList_push] at L2
        refine wpS_bind (elem_ok eb ?_)
        refine wpS_if (fun c => wpS_pure (.inl ⟨_, _, rfl, dn _ _ _ _ ss L2 (by simpa using c)⟩)) fun c => ?_
        have c' : ib' + 1 ≠ b.size := by simpa using c
        refine wpS_if (fun _ => wpS_pure (.inr ⟨ss, out'.push xb, ia', ib' + 1, _, _, rfl, L2, h1, by omega, by omega⟩)) fun _ => wpS_pure ⟨ss, out'.push xb, ia', ib' + 1, _, _, rfl, L2, h1, by omega, by omega⟩
      · rw [decide_eq_false hl]
        have L2 := L.pushA sA (k := 1) (by omega) (fun x hx y hy => by
          rw [take_one ea'] at hx
          rw [List.mem_singleton.mp hx]
          have := up_drop sB eb' y hy
          omega)
        rw [take_one ea', ← Array.toList_push] at L2
        refine wpS_bind (elem_ok ea ?_)
        refine wpS_if (fun c => wpS_pure (.inl ⟨_, _, rfl, dl _ _ _ _ ss L2 (by simpa using c)⟩)) fun c => ?_
        have c' : ia' + 1 + 1 ≠ a.size := by simpa using c
        refine wpS_if (fun _ => wpS_pure (.inr ⟨ss, out'.push xa, ia' + 1, ib', _, _, rfl, L2, by omega, h2, by omega⟩)) fun _ => wpS_pure ⟨ss, out'.push xa, ia' + 1, ib', _, _, rfl, L2, by omega, h2, by omega⟩
    case post1 =>
      rintro c st' (⟨r, o, rfl, q⟩ | ⟨ss, out', ia', ib', ac, bc, rfl, L, h1, h2, h4⟩)
      · exact wpS_pure ⟨r, _, rfl, q⟩
      refine wpS_bind (wpS_lift (wpAny_rule (And.intro rfl ?_)))
      refine wpS_bind (wpS_mono (wpS_forRange (I := fun _ c st' => SameS st st' ∧ ∃ o2 i2 j2 mg ac bc, c = (none, o2, i2, j2, mg, ac, bc) ∧ LInv a.toList b.toList o2.toList i2 j2 ∧ i2 + 1 < a.size ∧ j2 < b.size ∧ ia' + ib' ≤ i2 + j2) (Q := fun c st' => (∃ r o, c = (some r, o) ∧ Q r st') ∨ (SameS st st' ∧ ∃ o2 i2 j2 mg ac bc, c = (none, o2, i2, j2, mg, ac, bc) ∧ LInv a.toList b.toList o2.toList i2 j2 ∧ i2 + 1 < a.size ∧ j2 < b.size ∧ ia' + ib' ≤ i2 + j2)) ?step2 (fun c st' z => .inr z) ⟨ss, out', ia', ib', _, ac, bc, rfl, L, h1, h2, Nat.le_refl _⟩) ?post2)
      case post2 =>
        rintro c st' (⟨r, o, rfl, q⟩ | ⟨ss, o2, i2, j2, mg, ac, bc, rfl, L, h1, h2, h5⟩)
        · exact wpS_pure ⟨r, _, rfl, q⟩
        · exact wpS_bind (wpS_modify (wpS_pure ⟨ss.trans ⟨rfl, rfl, rfl, rfl⟩, o2, i2, j2, _, rfl, L, h1, h2, by omega⟩))
      case step2 =>
        rintro y c st' _ hy ⟨ss, o2, i2, j2, mg, ac, bc, rfl, L, h1, h2, h5⟩
        obtain ⟨xb, eb, eb', mb⟩ := at_ h2
        refine wpS_if (fun _ => ?_) fun _ => ?_
        all_goals
          refine wpS_bind (wpS_modify (wpS_bind (elem_ok eb (wpS_bind (gal_ok (D := a.toList.drop i2) (kd (ss.trans (SameS.mk' st' _))) (iB _ mb) (by show i2 + (a.size - i2) ≤ a.size; omega) (by show 0 < a.size - i2; omega) (List.take_of_length_le (by rw [List.length_drop, la]; exact Nat.le_refl _)).symm (sA.sublist (List.drop_sublist _ _)) (fun x hx => iA x (List.mem_of_mem_drop hx)) fun k hkn k1 k2 => ?_)))))
          replace hkn : k ≤ a.size - i2 := hkn
          have sm := fun g => ss.trans (SameS.mk' st' g)
          rw [List.drop_drop] at k2
          have Lk := L.pushA sA (k := k) (by omega) (fun x hx y hy => by
            have z1 := bey_le (k1 x hx)
            have z2 := up_drop sB eb' y hy
            omega)
          rw [← ext_part, ← Array.toList_append] at Lk
          refine wpS_if (fun hk0 => wpS_if (fun c => wpS_pure (.inl ⟨_, _, rfl, dl _ _ _ _ (sm _) Lk (by simpa using c)⟩)) fun c => wpS_if (fun c => wpS_pure (.inl ⟨_, _, rfl, dnA _ _ _ _ (sm _) Lk (by simpa using c)⟩)) fun c3 => ?_) fun hk0 => ?_
          have c' : i2 + k + 1 ≠ a.size := by simpa using c
          have c3' : i2 + k ≠ a.size := by simpa using c3
          have m3 : i2 + k + 1 < a.size := by omega
          have h6 : ia' + ib' ≤ i2 + k + j2 := by omega
          have g3 : ∀ y ∈ a.toList.drop (i2 + k), kf xb < kf y := fun y hy => bey_gt (k2 y hy)
          dsimp only
          clear k1 k2 c c3 c' c3' hkn hk0 L h1 h5
          generalize o2 ++ a.extract i2 (i2 + k) = o3 at Lk ⊢
          generalize i2 + k = i3 at Lk m3 h6 g3 ⊢
          rotate_left
          have e0 : k = 0 := Nat.le_zero.mp (Nat.le_of_not_lt hk0)
          subst e0
          have m3 : i2 + 1 < a.size := h1
          have h6 : ia' + ib' ≤ i2 + j2 := h5
          have g3 : ∀ y ∈ a.toList.drop i2, kf xb < kf y := fun y hy => bey_gt (k2 y hy)
          clear Lk
          have Lk := L
          dsimp only
          clear k1 k2 hkn hk0 L h1 h5
          generalize o2 = o3 at Lk ⊢
          generalize i2 = i3 at Lk m3 h6 g3 ⊢
          rotate_left
          all_goals
            have L4 := Lk.pushB sB (k := 1) (by omega) (fun x hx y hy => by
              rw [take_one eb'] at hx
              rw [List.mem_singleton.mp hx]
              exact Int.le_of_lt (g3 y hy))
            rw [take_one eb', ← Array.toList_push] at L4
            refine wpS_bind (elem_ok eb (wpS_if (fun c => wpS_pure (.inl ⟨_, _, rfl, dn _ _ _ _ (sm _) L4 (by simpa using c)⟩)) fun c4 => ?_))
            have c4' : j2 + 1 ≠ b.size := by simpa using c4
            obtain ⟨xa, ea, ea', ma⟩ := at_ (xs := a) (i := i3) (by omega)
            refine wpS_bind (elem_ok ea (wpS_bind (gal_ok (D := b.toList.drop (j2 + 1)) (kd (sm _)) (iA _ ma) (by omega) (by omega) (List.take_of_length_le (by rw [List.length_drop, lb]; exact Nat.le_refl _)).symm (sB.sublist (List.drop_sublist _ _)) (fun x hx => iB x (List.mem_of_mem_drop hx)) fun k hkn k1 k2 => ?_)))
            rw [List.drop_drop] at k2
            have L5 := L4.pushB sB (k := k) (by omega) (fun x hx y hy => by
              have z1 := bey_lt (k1 x hx)
              have z2 := up_drop sA ea' y hy
              omega)
            rw [← ext_part, ← Array.toList_append] at L5
            refine wpS_if (fun hk0 => wpS_if (fun c => wpS_pure (.inl ⟨_, _, rfl, dn _ _ _ _ (sm _) L5 (by simpa using c)⟩)) fun c => ?_) fun hk0 => ?_
            · have c' : j2 + 1 + k ≠ b.size := by simpa using c
              have L6 := L5.pushA sA (k := 1) (by omega) (fun x hx y hy => by
                rw [take_one ea'] at hx
                rw [List.mem_singleton.mp hx]
                exact bey_ge (k2 y hy))
              rw [take_one ea', ← Array.toList_push] at L6
              refine wpS_bind (elem_ok ea (wpS_if (fun c => wpS_pure (.inl ⟨_, _, rfl, dl _ _ _ _ (sm _) L6 (by simpa using c)⟩)) fun c7 => ?_))
              have c7' : i3 + 1 + 1 ≠ a.size := by simpa using c7
              exact wpS_if (fun _ => wpS_pure (.inr ⟨sm _, _, i3 + 1, j2 + 1 + k, _, _, _, rfl, L6, by omega, by omega, by omega⟩)) fun _ => wpS_pure ⟨sm _, _, i3 + 1, j2 + 1 + k, _, _, _, rfl, L6, by omega, by omega, by omega⟩
            · have e0 : k = 0 := Nat.le_zero.mp (Nat.le_of_not_lt hk0)
              subst e0
              have L6 := L4.pushA sA (k := 1) (by omega) (fun x hx y hy => by
                rw [take_one ea'] at hx
                rw [List.mem_singleton.mp hx]
                exact bey_ge (k2 y hy))
              rw [take_one ea', ← Array.toList_push] at L6
              refine wpS_bind (elem_ok ea (wpS_if (fun c => wpS_pure (.inl ⟨_, _, rfl, dl _ _ _ _ (sm _) L6 (by simpa using c)⟩)) fun c7 => ?_))
              have c7' : i3 + 1 + 1 ≠ a.size := by simpa using c7
              exact wpS_if (fun _ => wpS_pure (.inr ⟨sm _, _, i3 + 1, j2 + 1, _, _, _, rfl, L6, by omega, by omega, by omega⟩)) fun _ => wpS_pure ⟨sm _, _, i3 + 1, j2 + 1, _, _, _, rfl, L6, by omega, by omega, by omega⟩
end
/-- two lists woven so far, from behind -/
structure HInv (A B tl : List Keyed) (na nb : Nat) : Prop where
  ha : na ≤ A.length
  hb : nb ≤ B.length
  perm : tl.Perm (A.drop na ++ B.drop nb)
  up : Upk tl
  leA : ∀ x ∈ A.take na, ∀ y ∈ tl, kf x ≤ kf y
  leB : ∀ x ∈ B.take nb, ∀ y ∈ tl, kf x ≤ kf y
theorem HInv.swap {A B tl : List Keyed} {na nb : Nat} (h : HInv A B tl na nb) : HInv B A tl nb na := ⟨h.hb, h.ha, h.perm.trans List.perm_append_comm, h.up, h.leB, h.leA⟩
theorem HInv.pushA {A B tl : List Keyed} {na nb : Nat} (h : HInv A B tl na nb) (sA : Upk A) {k : Nat} (hk : k ≤ na) (hc : ∀ x ∈ (A.take na).drop k, ∀ y ∈ B.take nb, kf y ≤ kf x) : HInv A B ((A.take na).drop k ++ tl) k nb := by
  have sT : Upk (A.take na) := sA.sublist (List.take_sublist _ _)
  have e1 : A.take na = A.take k ++ (A.take na).drop k := by
    have := List.take_append_drop k (A.take na)
    rw [List.take_take, Nat.min_eq_left hk] at this
    exact this.symm
  have e2 : A.drop k = (A.take na).drop k ++ A.drop na := by
    have z := List.take_append_drop na A
    have z2 : A.drop k = (A.take na ++ A.drop na).drop k := by rw [z]
    rw [z2, List.drop_append_of_le_length (by rw [List.length_take]; have := h.ha; omega)]
  refine ⟨Nat.le_trans hk h.ha, h.hb, ?_, ?_, fun x hx y hy => ?_, fun x hx y hy => ?_⟩
  · rw [e2, List.append_assoc]
    exact h.perm.append_left _
  · exact List.pairwise_append.mpr ⟨sT.sublist (List.drop_sublist _ _), h.up, fun x hx y hy => h.leA x (List.mem_of_mem_drop hx) y hy⟩
  · have hx' : x ∈ A.take na := by rw [e1]; exact List.mem_append_left _ hx
    rcases List.mem_append.mp hy with z | z
    · rw [e1] at sT
      exact (List.pairwise_append.mp sT).2.2 x hx y z
    · exact h.leA x hx' y z
  · rcases List.mem_append.mp hy with z | z
    · exact hc y z x hx
    · exact h.leB x hx y z
theorem HInv.pushB {A B tl : List Keyed} {na nb : Nat} (h : HInv A B tl na nb) (sB : Upk B) {k : Nat} (hk : k ≤ nb) (hc : ∀ x ∈ (B.take nb).drop k, ∀ y ∈ A.take na, kf y ≤ kf x) : HInv A B ((B.take nb).drop k ++ tl) na k := (h.swap.pushA sB hk hc).swap
theorem HInv.endA {A B tl : List Keyed} {na nb : Nat} (h : HInv A B tl na nb) (sA : Upk A) (e : nb = 0) : (A.take na ++ tl).Perm (A ++ B) ∧ Upk (A.take na ++ tl) := by
  subst e
  have q := h.pushA sA (Nat.zero_le na) (fun x _ y hy => by cases hy)
  rw [List.drop_zero] at q
  exact ⟨q.perm, q.up⟩
theorem HInv.endB {A B tl : List Keyed} {na nb : Nat} (h : HInv A B tl na nb) (sB : Upk B) (e : na = 0) : (B.take nb ++ tl).Perm (A ++ B) ∧ Upk (B.take nb ++ tl) :=
  let ⟨p, u⟩ := h.swap.endA sB e
  ⟨p.trans List.perm_append_comm, u⟩
theorem HInv.firstB {A B tl : List Keyed} {na nb : Nat} (h : HInv A B tl na nb) (sA : Upk A) (sB : Upk B) (hl : ∀ x ∈ A, ∀ y ∈ B.take nb, kf y ≤ kf x) : (B.take nb ++ (A.take na ++ tl)).Perm (A ++ B) ∧ Upk (B.take nb ++ (A.take na ++ tl)) := by
  have q := h.pushA sA (Nat.zero_le na) (fun x hx y hy => hl x (List.mem_of_mem_take (List.mem_of_mem_drop hx)) y hy)
  rw [List.drop_zero] at q
  exact q.endB sB rfl
theorem drop_last {A : List Keyed} {i : Nat} {x : Keyed} (h : A[i]? = some x) : (A.take (i + 1)).drop i = [x] := by
  have ⟨hi, e⟩ := List.getElem?_eq_some_iff.mp h
  rw [List.take_succ_eq_append_getElem hi, List.drop_append_of_le_length (by rw [List.length_take]; omega), List.drop_of_length_le (by rw [List.length_take]; omega), e]
  rfl
theorem up_take {A : List Keyed} (sA : Upk A) {i : Nat} {x : Keyed} (h : A[i]? = some x) : ∀ y ∈ A.take (i + 1), kf y ≤ kf x := by
  have ⟨hi, e⟩ := List.getElem?_eq_some_iff.mp h
  have sT : Upk (A.take (i + 1)) := sA.sublist (List.take_sublist _ _)
  rw [List.take_succ_eq_append_getElem hi, e] at sT ⊢
  intro y hy
  rcases List.mem_append.mp hy with z | z
  · exact (List.pairwise_append.mp sT).2.2 y z x (List.mem_singleton.mpr rfl)
  · rw [List.mem_singleton.mp z]; exact Int.le_refl _
theorem ext_head (a : Array Keyed) (n : Nat) : (a.extract 0 n).toList = a.toList.take n := by simp [List.extract_eq_take_drop]
theorem ext_mid (a : Array Keyed) (k n : Nat) : (a.extract k n).toList = (a.toList.take n).drop k := by simp [List.extract_eq_take_drop, List.drop_take]
section
variable {prog : Program} {w : World} {s : Shared} {A : Around} {E : Value → Shared → Prop}
theorem mergeHi_ok {a b : Array Keyed} {Q : Array Keyed → SortSt → Prop} {st : SortSt} (hk : kindOf st = oneType') (iA : ∀ x ∈ a.toList, IntK x) (iB : ∀ x ∈ b.toList, IntK x) (sA : Upk a.toList) (sB : Upk b.toList) (nA : 0 < a.size) (nB : 0 < b.size)
    (first : ∀ x, b[0]? = some x → ∀ y ∈ a.toList, kf x ≤ kf y) (last : ∀ x ∈ b.toList, ∀ y, a[a.size - 1]? = some y → kf x ≤ kf y)
    (h : ∀ (r : Array Keyed) st', SameS st st' → r.toList.Perm (a.toList ++ b.toList) → Upk r.toList → Q r st') : wpS (model prog w) A E s (mergeHiP a b) Q st := by
  refine wpS_bind (wpS_lift (wpAny_rule (And.intro rfl ?_)))
  have at_ : ∀ {xs : Array Keyed} {i : Nat}, i < xs.size → ∃ x, xs[i]? = some x ∧ xs.toList[i]? = some x ∧ x ∈ xs.toList := fun {xs i} hi => ⟨xs[i], getElem?_pos xs i hi, by rw [Array.getElem?_toList]; exact getElem?_pos xs i hi, Array.getElem_mem_toList hi⟩
  have la : a.toList.length = a.size := Array.length_toList
  have lb : b.toList.length = b.size := Array.length_toList
  have dnA : ∀ (out : Array Keyed) (na nb : Nat) st', SameS st st' → HInv a.toList b.toList out.toList.reverse na nb → na = 0 → Q (a.extract 0 na ++ b.extract 0 nb ++ out.reverse) st' := fun out na nb st' ss L e => by
    have q := L.endB sB e
    have eq : (a.extract 0 na ++ b.extract 0 nb ++ out.reverse).toList = b.toList.take nb ++ out.toList.reverse := by
      rw [Array.toList_append, Array.toList_append, ext_head, ext_head, e, List.take_zero, List.nil_append, Array.toList_reverse]
    exact h _ st' ss (eq ▸ q.1) (eq ▸ q.2)
  have dnB : ∀ (out : Array Keyed) (na nb : Nat) st', SameS st st' → HInv a.toList b.toList out.toList.reverse na nb → nb = 0 → Q (a.extract 0 na ++ b.extract 0 nb ++ out.reverse) st' := fun out na nb st' ss L e => by
    have q := L.endA sA e
    have eq : (a.extract 0 na ++ b.extract 0 nb ++ out.reverse).toList = a.toList.take na ++ out.toList.reverse := by
      rw [Array.toList_append, Array.toList_append, ext_head, ext_head, e, List.take_zero, List.append_nil, Array.toList_reverse]
    exact h _ st' ss (eq ▸ q.1) (eq ▸ q.2)
  have fb : ∀ (out : Array Keyed) (na nb : Nat) st', SameS st st' → HInv a.toList b.toList out.toList.reverse na nb → nb = 1 → Q (b.extract 0 nb ++ a.extract 0 na ++ out.reverse) st' := fun out na nb st' ss L e => by
    obtain ⟨z, z1, z2, _⟩ := at_ nB
    have q := L.firstB sA sB (fun x hx y hy => by
      rw [e] at hy
      have ey : b.toList.take 1 = [z] := by
        have := take_one z2
        rw [List.drop_zero] at this
        exact this
      rw [ey] at hy
      rw [List.mem_singleton.mp hy]
      exact first z z1 x hx)
    have eq : (b.extract 0 nb ++ a.extract 0 na ++ out.reverse).toList = b.toList.take nb ++ (a.toList.take na ++ out.toList.reverse) := by
      rw [Array.toList_append, Array.toList_append, ext_head, ext_head, Array.toList_reverse, List.append_assoc]
    exact h _ st' ss (eq ▸ q.1) (eq ▸ q.2)
  have kd : ∀ {st'}, SameS st st' → kindOf st' = oneType' := fun ss => ss.kind.trans hk
  obtain ⟨x0, e0, e0', m0⟩ := at_ (xs := a) (i := a.size - 1) (by omega)
  refine wpS_bind (elem_ok e0 ?_)
  have push1 : ∀ (out : Array Keyed) (x : Keyed), [x] ++ out.toList.reverse = (out.push x).toList.reverse := fun out x => by rw [Array.toList_push, List.reverse_append]; rfl
  have pushA1 : ∀ {out : Array Keyed} {na nb : Nat} {x : Keyed}, HInv a.toList b.toList out.toList.reverse (na + 1) nb → a.toList[na]? = some x → (∀ y ∈ b.toList.take nb, kf y ≤ kf x) → HInv a.toList b.toList (out.push x).toList.reverse na nb := fun {out na nb x} L e hc => by
    have q := L.pushA sA (Nat.le_succ na) (fun z hz y hy => by
      rw [drop_last e] at hz
      rw [List.mem_singleton.mp hz]
      exact hc y hy)
    rw [drop_last e, push1] at q
    exact q
  have pushB1 : ∀ {out : Array Keyed} {na nb : Nat} {x : Keyed}, HInv a.toList b.toList out.toList.reverse na (nb + 1) → b.toList[nb]? = some x → (∀ y ∈ a.toList.take na, kf y ≤ kf x) → HInv a.toList b.toList (out.push x).toList.reverse na nb := fun {out na nb x} L e hc => by
    have q := L.pushB sB (Nat.le_succ nb) (fun z hz y hy => by
      rw [drop_last e] at hz
      rw [List.mem_singleton.mp hz]
      exact hc y hy)
    rw [drop_last e, push1] at q
    exact q
  have L1 : HInv a.toList b.toList (#[x0] : Array Keyed).toList.reverse (a.size - 1) b.size := by
    have L0 : HInv a.toList b.toList (#[] : Array Keyed).toList.reverse (a.size - 1 + 1) b.size := ⟨by omega, by omega, by
      rw [show a.size - 1 + 1 = a.toList.length by omega, ← lb, List.drop_length, List.drop_length]; exact List.Perm.refl _, .nil, (fun x _ y hy => by simp at hy), fun x _ y hy => by simp at hy⟩
    exact pushA1 L0 e0' (fun y hy => last y (List.mem_of_mem_take hy) x0 e0)
  refine wpS_if (fun c1 => wpS_pure (dnA #[x0] _ _ st (SameS.refl _) L1 (by simpa using c1))) fun c1 => ?_
  refine wpS_if (fun c2 => wpS_pure (fb #[x0] _ _ st (SameS.refl _) L1 (by simpa using c2))) fun c2 => ?_
  have c1' : a.size - 1 ≠ 0 := by simpa using c1
  have c2' : b.size ≠ 1 := by simpa using c2
  refine wpS_bind (wpS_get ?_)
  refine wpS_bind (wpS_mono (wpS_forRange (I := fun x c st' => SameS st st' ∧ ∃ na nb out mg, c = (none, na + 1, nb + 2, out, mg) ∧ HInv a.toList b.toList out.toList.reverse (na + 1) (nb + 2) ∧ na + nb + 4 + x ≤ a.size + b.size) (Q := fun c st' => ∃ r o, c = (some r, o) ∧ Q r st') ?step ?fin ⟨SameS.refl _, a.size - 2, b.size - 2, #[x0], _, by rw [show a.size - 2 + 1 = a.size - 1 by omega, show b.size - 2 + 2 = b.size by omega], by rw [show a.size - 2 + 1 = a.size - 1 by omega, show b.size - 2 + 2 = b.size by omega]; exact L1, by omega⟩) ?post)
  case post =>
    rintro c st' ⟨r, o, rfl, q⟩
    exact wpS_pure q
  case fin =>
    rintro c st' ⟨ss, na, nb, out, mg, rfl, L, h3⟩
    omega
  case step =>
    rintro x c st' _ hx ⟨ss, na, nb, out, mg, rfl, L, h3⟩
    refine wpS_bind (wpS_mono (wpS_forRange (I := fun y c st' => SameS st st' ∧ ∃ n2 m2 out' ac bc, c = (none, n2 + 1, m2 + 2, out', ac, bc) ∧ HInv a.toList b.toList out'.toList.reverse (n2 + 1) (m2 + 2) ∧ n2 + m2 + y ≤ na + nb) (Q := fun c st' => (∃ r o, c = (some r, o) ∧ Q r st') ∨ (SameS st st' ∧ ∃ n2 m2 out' ac bc, c = (none, n2 + 1, m2 + 2, out', ac, bc) ∧ HInv a.toList b.toList out'.toList.reverse (n2 + 1) (m2 + 2) ∧ n2 + m2 + 1 ≤ na + nb)) ?step1 ?fin1 ⟨ss, na, nb, out, 0, 0, rfl, L, by omega⟩) ?post1)
    case fin1 =>
      rintro c st' ⟨ss, n2, m2, out', ac, bc, rfl, L, h3⟩
      exact .inr ⟨ss, n2, m2, out', ac, bc, rfl, L, by omega⟩
    case step1 =>
      rintro y c st' _ hy ⟨ss, n2, m2, out', ac, bc, rfl, L, h3⟩
      have hla := L.ha
      have hlb := L.hb
      obtain ⟨xb, eb, eb', mb⟩ := at_ (xs := b) (i := m2 + 1) (by omega)
      obtain ⟨xa, ea, ea', ma⟩ := at_ (xs := a) (i := n2) (by omega)
      refine wpS_bind (elem_ok eb (wpS_bind (elem_ok ea (wpS_bind (lt_ok (kd ss) (iB _ mb) (iA _ ma) ?_)))))
      by_cases hl : kf xb < kf xa
      · rw [decide_eq_true hl]
        have L2 := pushA1 L ea' (fun y hy => by have := up_take sB eb' y hy; omega)
        refine wpS_bind (elem_ok ea (wpS_if (fun c => wpS_pure (.inl ⟨_, _, rfl, dnA _ _ _ _ ss L2 (by simpa using c)⟩)) fun c => ?_))
        have c' : n2 ≠ 0 := by simpa using c
        obtain ⟨n3, rfl⟩ : ∃ n3, n2 = n3 + 1 := ⟨n2 - 1, by omega⟩
        exact wpS_if (fun _ => wpS_pure (.inr ⟨ss, n3, m2, out'.push xa, _, _, rfl, L2, by omega⟩)) fun _ => wpS_pure ⟨ss, n3, m2, out'.push xa, _, _, rfl, L2, by omega⟩
      · rw [decide_eq_false hl]
        have L2 := pushB1 L eb' (fun y hy => by have := up_take sA ea' y hy; omega)
        refine wpS_bind (elem_ok eb (wpS_if (fun c => wpS_pure (.inl ⟨_, _, rfl, fb _ _ _ _ ss L2 (by simpa using c)⟩)) fun c => ?_))
        have c' : m2 ≠ 0 := by simpa using c
        obtain ⟨m3, rfl⟩ : ∃ m3, m2 = m3 + 1 := ⟨m2 - 1, by omega⟩
        exact wpS_if (fun _ => wpS_pure (.inr ⟨ss, n2, m3, out'.push xb, _, _, rfl, L2, by omega⟩)) fun _ => wpS_pure ⟨ss, n2, m3, out'.push xb, _, _, rfl, L2, by omega⟩
    case post1 =>
      rintro c st' (⟨r, o, rfl, q⟩ | ⟨ss, n1, m1, out', ac, bc, rfl, L, h4⟩)
      · exact wpS_pure ⟨r, _, rfl, q⟩
      refine wpS_bind (wpS_lift (wpAny_rule (And.intro rfl ?_)))
      refine wpS_bind (wpS_mono (wpS_forRange (I := fun _ c st' => SameS st st' ∧ ∃ n2 m2 o2 mg ac bc, c = (none, n2 + 1, m2 + 2, o2, mg, ac, bc) ∧ HInv a.toList b.toList o2.toList.reverse (n2 + 1) (m2 + 2) ∧ n2 + m2 ≤ n1 + m1) (Q := fun c st' => (∃ r o, c = (some r, o) ∧ Q r st') ∨ (SameS st st' ∧ ∃ n2 m2 o2 mg ac bc, c = (none, n2 + 1, m2 + 2, o2, mg, ac, bc) ∧ HInv a.toList b.toList o2.toList.reverse (n2 + 1) (m2 + 2) ∧ n2 + m2 ≤ n1 + m1)) ?step2 (fun c st' z => .inr z) ⟨ss, n1, m1, out', _, ac, bc, rfl, L, Nat.le_refl _⟩) ?post2)
      case post2 =>
        rintro c st' (⟨r, o, rfl, q⟩ | ⟨ss, n2, m2, o2, mg, ac, bc, rfl, L, h5⟩)
        · exact wpS_pure ⟨r, _, rfl, q⟩
        · exact wpS_bind (wpS_modify (wpS_pure ⟨ss.trans ⟨rfl, rfl, rfl, rfl⟩, n2, m2, o2, _, rfl, L, by omega⟩))
      case step2 =>
        rintro y c st' _ hy ⟨ss, n2, m2, o2, mg, ac, bc, rfl, L, h5⟩
        have hla := L.ha
        have hlb := L.hb
        obtain ⟨xb, eb, eb', mb⟩ := at_ (xs := b) (i := m2 + 1) (by omega)
        refine wpS_if (fun _ => ?_) fun _ => ?_
        all_goals
          refine wpS_bind (wpS_modify (wpS_bind (elem_ok eb (wpS_bind (gal_ok (D := a.toList.take (n2 + 1)) (kd (ss.trans (SameS.mk' st' _))) (iB _ mb) (by show 0 + (n2 + 1) ≤ a.size; omega) (by show n2 + 1 - 1 < n2 + 1; omega) (by rw [List.drop_zero]) (sA.sublist (List.take_sublist _ _)) (fun x hx => iA x (List.mem_of_mem_take hx)) fun k hkn k1 k2 => ?_)))))
          replace hkn : k ≤ n2 + 1 := hkn
          have sm := fun g => ss.trans (SameS.mk' st' g)
          rw [List.take_take, Nat.min_eq_left hkn] at k1
          have Lk := L.pushA sA hkn (fun x hx y hy => by
            have z1 := bey_gt (k2 x hx)
            have z2 := up_take sB eb' y hy
            omega)
          have eo : (a.toList.take (n2 + 1)).drop k ++ o2.toList.reverse = (o2 ++ (a.extract k (n2 + 1)).reverse).toList.reverse := by
            rw [Array.toList_append, List.reverse_append, Array.toList_reverse, List.reverse_reverse, ext_mid]
          rw [eo] at Lk
          have g3 : ∀ y ∈ a.toList.take k, kf y ≤ kf xb := fun y hy => bey_le (k1 y hy)
          refine wpS_if (fun hk0 => wpS_if (fun c => wpS_pure (.inl ⟨_, _, rfl, dnA _ _ _ _ (sm _) Lk (by simpa using c)⟩)) fun c => ?_) fun hk0 => ?_
          have c' : k ≠ 0 := by simpa using c
          obtain ⟨n3, rfl⟩ : ∃ n3, k = n3 + 1 := ⟨k - 1, by omega⟩
          have h6 : n3 + m2 ≤ n1 + m1 := by omega
          dsimp only
          clear k1 k2 c c' hk0 L hla eo hkn h5
          generalize o2 ++ (a.extract (n3 + 1) (n2 + 1)).reverse = o3 at Lk ⊢
          rotate_left
          have e0 : k = n2 + 1 := by
            have z : ¬ n2 + 1 - k > 0 := hk0
            omega
          subst e0
          have h6 : n2 + m2 ≤ n1 + m1 := h5
          clear Lk
          have Lk := L
          dsimp only
          clear k1 k2 hk0 L hla eo hkn h5
          generalize o2 = o3 at Lk ⊢
          generalize n2 = n3 at Lk h6 g3 ⊢
          rotate_left
          all_goals
            have hla := Lk.ha
            have L4 := pushB1 Lk eb' g3
            refine wpS_bind (elem_ok eb (wpS_if (fun c => wpS_pure (.inl ⟨_, _, rfl, fb _ _ _ _ (sm _) L4 (by simpa using c)⟩)) fun c4 => ?_))
            have c4' : m2 ≠ 0 := by simpa using c4
            obtain ⟨xa, ea, ea', ma⟩ := at_ (xs := a) (i := n3) (by omega)
            refine wpS_bind (elem_ok ea (wpS_bind (gal_ok (D := b.toList.take (m2 + 1)) (kd (sm _)) (iA _ ma) (by show 0 + (m2 + 1) ≤ b.size; omega) (by show m2 + 1 - 1 < m2 + 1; omega) (by rw [List.drop_zero]; rfl) (sB.sublist (List.take_sublist _ _)) (fun x hx => iB x (List.mem_of_mem_take hx)) fun k hkn k1 k2 => ?_)))
            replace hkn : k ≤ m2 + 1 := hkn
            rw [List.take_take, Nat.min_eq_left hkn] at k1
            have L5 := L4.pushB sB hkn (fun x hx y hy => by
              have z1 := bey_ge (k2 x hx)
              have z2 := up_take sA ea' y hy
              omega)
            have eo : ∀ (o : Array Keyed), (b.toList.take (m2 + 1)).drop k ++ o.toList.reverse = (o ++ (b.extract k (m2 + 1)).reverse).toList.reverse := fun o => by
              rw [Array.toList_append, List.reverse_append, Array.toList_reverse, List.reverse_reverse, ext_mid]
            rw [eo] at L5
            refine wpS_if (fun hk0 => wpS_if (fun c => wpS_pure (.inl ⟨_, _, rfl, fb _ _ _ _ (sm _) L5 (by simpa using c)⟩)) fun c => wpS_if (fun c => wpS_pure (.inl ⟨_, _, rfl, dnB _ _ _ _ (sm _) L5 (by simpa using c)⟩)) fun c2 => ?_) fun hk0 => ?_
            · have c' : k ≠ 1 := by simpa using c
              have c2' : k ≠ 0 := by simpa using c2
              obtain ⟨m3, rfl⟩ : ∃ m3, k = m3 + 2 := ⟨k - 2, by omega⟩
              have L6 := pushA1 L5 ea' (fun y hy => Int.le_of_lt (bey_lt (k1 y hy)))
              refine wpS_bind (elem_ok ea (wpS_if (fun c => wpS_pure (.inl ⟨_, _, rfl, dnA _ _ _ _ (sm _) L6 (by simpa using c)⟩)) fun c7 => ?_))
              have c7' : n3 ≠ 0 := by simpa using c7
              obtain ⟨n4, rfl⟩ : ∃ n4, n3 = n4 + 1 := ⟨n3 - 1, by omega⟩
              exact wpS_if (fun _ => wpS_pure (.inr ⟨sm _, n4, m3, _, _, _, _, rfl, L6, by omega⟩)) fun _ => wpS_pure ⟨sm _, n4, m3, _, _, _, _, rfl, L6, by omega⟩
            · have e0 : k = m2 + 1 := by
                have z : ¬ m2 + 1 - k > 0 := hk0
                omega
              subst e0
              obtain ⟨m3, rfl⟩ : ∃ m3, m2 = m3 + 1 := ⟨m2 - 1, by omega⟩
              have L6 := pushA1 L4 ea' (fun y hy => Int.le_of_lt (bey_lt (k1 y hy)))
              refine wpS_bind (elem_ok ea (wpS_if (fun c => wpS_pure (.inl ⟨_, _, rfl, dnA _ _ _ _ (sm _) L6 (by simpa using c)⟩)) fun c7 => ?_))
              have c7' : n3 ≠ 0 := by simpa using c7
              obtain ⟨n4, rfl⟩ : ∃ n4, n3 = n4 + 1 := ⟨n3 - 1, by omega⟩
              exact wpS_if (fun _ => wpS_pure (.inr ⟨sm _, n4, m3, _, _, _, _, rfl, L6, by omega⟩)) fun _ => wpS_pure ⟨sm _, n4, m3, _, _, _, _, rfl, L6, by omega⟩
end
/-- a state of the sorting: what lies ahead of lo is as xs has it -/
structure Sb (a₀ : Array Keyed) (pd : Array (Nat × Nat × Nat)) (lo : Nat) (xs : Array Keyed) (st : SortSt) : Prop where
  perm : (arrOf st).Perm a₀
  kind : kindOf st = oneType'
  fail : failedOf st = none
  pend : pendingOf st = pd
  low : ∀ k, k < lo → (arrOf st)[k]? = xs[k]?
def Rise (xs : Array Keyed) (lo hi : Nat) : Prop := ∀ i j, lo ≤ i → i ≤ j → j < hi → K xs i ≤ K xs j
def Fall (xs : Array Keyed) (lo hi : Nat) : Prop := ∀ i j, lo ≤ i → i ≤ j → j < hi → K xs j ≤ K xs i
section
variable {prog : Program} {w : World} {s : Shared} {A : Around} {E : Value → Shared → Prop} {a₀ xs : Array Keyed} {pd : Array (Nat × Nat × Nat)} {lo : Nat} {st : SortSt}
theorem Sb.size (h : Sb a₀ pd lo xs st) : (arrOf st).size = a₀.size := h.perm.size_eq
theorem Sb.set (h : Sb a₀ pd lo xs st) {ys : Array Keyed} (p : ys.Perm (arrOf st)) (l : ∀ k, k < lo → ys[k]? = (arrOf st)[k]?) : Sb a₀ pd lo xs (setArr st ys) := ⟨p.trans h.perm, h.kind, h.fail, h.pend, fun k hk => (l k hk).trans (h.low k hk)⟩
theorem Sb.mir (h : Sb a₀ pd lo xs st) {i j : Nat} (hi : lo ≤ i) (hj : j ≤ a₀.size) : Sb a₀ pd lo xs (setArr st (mirror (arrOf st) i j ((j - i) / 2))) :=
  h.set (mirror_perm _ _ _ _) fun k hk => by
    rw [getElem?_mirror_all (by rw [h.size]; exact hj), if_neg (by omega)]
theorem ltk (h : Sb a₀ pd lo xs st) (h0 : IntKeys a₀) {i j : Nat} (hi : i < a₀.size) (hj : j < a₀.size) {Q : Option Bool → SortSt → Prop} (q1 : K (arrOf st) i < K (arrOf st) j → Q (some true) st) (q2 : ¬ K (arrOf st) i < K (arrOf st) j → Q (some false) st) : wpS (model prog w) A E s (ltAt' i j) Q st := by
  have hb : SBase a₀ (setPending st #[]) := ⟨h.perm, h.kind, h.fail, rfl⟩
  obtain ⟨t, p, e1⟩ := hb.at h0 hi
  obtain ⟨u, q, e2⟩ := hb.at h0 hj
  refine wpS_ltAt h.kind e1 e2 ?_
  by_cases c : K (arrOf st) i < K (arrOf st) j
  · rw [show decide (K (arrOf (setPending st #[])) i < K (arrOf (setPending st #[])) j) = true from decide_eq_true c]
    exact q1 c
  · rw [show decide (K (arrOf (setPending st #[])) i < K (arrOf (setPending st #[])) j) = false from decide_eq_false c]
    exact q2 c
theorem rise_one (xs : Array Keyed) (lo : Nat) : Rise xs lo (lo + 1) := fun i j h1 h2 h3 => by
  have : i = j := by omega
  subst this
  exact Int.le_refl _
theorem rise_more {xs : Array Keyed} {lo hi : Nat} (h : Rise xs lo hi) (hl : lo < hi) (n : ¬ K xs hi < K xs (hi - 1)) : Rise xs lo (hi + 1) := fun i j h1 h2 h3 => by
  by_cases c : j < hi
  · exact h i j h1 h2 c
  · have ej : j = hi := by omega
    subst ej
    by_cases ci : i = j
    · subst ci; exact Int.le_refl _
    · have := h i (j - 1) h1 (by omega) (by omega)
      omega
theorem fall_more {xs : Array Keyed} {lo hi : Nat} (h : Fall xs lo hi) (hl : lo < hi) (n : K xs hi ≤ K xs (hi - 1)) : Fall xs lo (hi + 1) := fun i j h1 h2 h3 => by
  by_cases c : j < hi
  · exact h i j h1 h2 c
  · have ej : j = hi := by omega
    subst ej
    by_cases ci : i = j
    · subst ci; exact Int.le_refl _
    · have := h i (j - 1) h1 (by omega) (by omega)
      omega
theorem Fall.eq {xs ys : Array Keyed} {lo hi : Nat} (h : Fall xs lo hi) (e : ∀ k, K ys k = K xs k) : Fall ys lo hi := fun i j h1 h2 h3 => by
  rw [e, e]
  exact h i j h1 h2 h3
theorem asc_ok {a nrem : Nat} {f : Nat → Option (Option Nat) × Nat → StateT SortSt Sem (ForInStep (Option (Option Nat) × Nat))} {Q : Option (Option Nat) × Nat → SortSt → Prop}
    (hf : ∀ x n (R : ForInStep (Option (Option Nat) × Nat) → SortSt → Prop), a ≤ n → n < nrem → (K (arrOf st) (lo + n) < K (arrOf st) (lo + n - 1) → R (ForInStep.done (none, n)) st) → (¬ K (arrOf st) (lo + n) < K (arrOf st) (lo + n - 1) → R (ForInStep.yield (none, n + 1)) st) → wpS (model prog w) A E s (f x (none, n)) R st)
    (ha : 1 ≤ a) (han : a ≤ nrem) (hs : Rise (arrOf st) lo (lo + a)) (h : ∀ n, a ≤ n → n ≤ nrem → Rise (arrOf st) lo (lo + n) → (n = nrem ∨ K (arrOf st) (lo + n) < K (arrOf st) (lo + n - 1)) → Q (none, n) st) : wpS (model prog w) A E s (forIn [a:nrem] (none, a) f) Q st := by
  refine wpS_forRange (I := fun x c st' => st' = st ∧ c = (none, x) ∧ Rise (arrOf st) lo (lo + x)) ?_ ?_ ⟨rfl, rfl, hs⟩
  · rintro x c st' h1 h2 ⟨rfl, rfl, hr⟩
    exact hf x x _ h1 h2 (fun z => h x h1 (by omega) hr (.inr z)) fun z => ⟨rfl, rfl, rise_more (hi := lo + x) hr (by omega) z⟩
  · rintro c st' ⟨rfl, rfl, hr⟩
    rw [show max a nrem = nrem by omega] at hr ⊢
    exact h nrem han (Nat.le_refl _) hr (.inl rfl)
theorem count_ok {nrem : Nat} {Q : Option Nat → SortSt → Prop} (h0 : IntKeys a₀) (hn : lo + nrem ≤ a₀.size) (h1 : 1 ≤ nrem) (hB : Sb a₀ pd lo xs st) (h : ∀ m st', Sb a₀ pd lo xs st' → 1 ≤ m → m ≤ nrem → Rise (arrOf st') lo (lo + m) → Q (some m) st') : wpS (model prog w) A E s (countRun' lo nrem) Q st := by
  refine wpS_bind (asc_ok (lo := lo) (fun x n R a1 a2 r1 r2 => wpS_bind (ltk hB h0 (by show lo + n < a₀.size; omega) (by show lo + n - 1 < a₀.size; omega) (fun z => wpS_pure (r1 z)) fun z => wpS_pure (r2 z))) (Nat.le_refl 1) h1 (rise_one _ _) fun n n1 n2 hr hor => ?_)
  refine wpS_if (fun c => wpS_pure (h n st hB n1 n2 hr)) fun c => ?_
  have c' : n ≠ nrem := by simpa using c
  have hlt := hor.resolve_left c'
  refine wpS_if (fun c2 => wpS_bind (ltk hB h0 (by omega) (by omega) (fun z => wpS_pure (h n st hB n1 n2 hr)) fun z => wpS_bind (wpS_reverse ?_))) fun c2 => ?_
  replace z : ¬ K (arrOf st) lo < K (arrOf st) (lo + n - 1) := z
  have eqK : ∀ k, K (mirror (arrOf st) lo (lo + n) ((lo + n - lo) / 2)) k = K (arrOf st) k := fun k => by
    rw [K_mirror (by rw [hB.size]; omega)]
    split
    · next q =>
      have z1 := hr lo k (Nat.le_refl _) q.1 q.2
      have z2 := hr k (lo + n - 1) q.1 (by omega) (by omega)
      have z3 := hr lo (lo + (lo + n) - 1 - k) (Nat.le_refl _) (by omega) (by omega)
      have z4 := hr (lo + (lo + n) - 1 - k) (lo + n - 1) (by omega) (by omega) (by omega)
      omega
    · rfl
  have fl : Fall (mirror (arrOf st) lo (lo + n) ((lo + n - lo) / 2)) lo (lo + n + 1) := by
    refine Fall.eq (fall_more (fun i j a1 a2 a3 => ?_) (by omega) (Int.le_of_lt hlt)) eqK
    have z1 := hr lo i (Nat.le_refl _) a1 (by omega)
    have z2 := hr j (lo + n - 1) (by omega) (by omega) (by omega)
    omega
  have hB2 := hB.mir (i := lo) (j := lo + n) (Nat.le_refl _) (by omega)
  generalize hst2 : setArr st (mirror (arrOf st) lo (lo + n) ((lo + n - lo) / 2)) = st2 at hB2 ⊢
  replace fl : Fall (arrOf st2) lo (lo + n + 1) := by rw [← hst2]; exact fl
  clear eqK hst2
  rotate_left
  have hB2 := hB
  have fl : Fall (arrOf st) lo (lo + n + 1) := by
    have en : n = 1 := by omega
    refine fall_more (fun i j a1 a2 a3 => ?_) (by omega) (Int.le_of_lt hlt)
    have : i = j := by omega
    subst this
    exact Int.le_refl _
  generalize st = st2 at hB2 fl ⊢
  rotate_left
  all_goals
    clear hB hr hor hlt c c2
    refine wpS_bind (wpS_lift (wpAny_rule (And.intro rfl ?_)))
    refine wpS_bind (wpS_mono (wpS_forRange (I := fun x c st' => ∃ neq, c = (none, x, neq) ∧ Sb a₀ pd lo xs st' ∧ Fall (arrOf st') lo (lo + x) ∧ neq + 1 ≤ x ∧ ∀ i, lo + x - (neq + 1) ≤ i → i < lo + x → K (arrOf st') i = K (arrOf st') (lo + x - 1)) (Q := fun c st' => ∃ m neq, c = (none, m, neq) ∧ m ≤ nrem ∧ Sb a₀ pd lo xs st' ∧ Fall (arrOf st') lo (lo + m) ∧ neq + 1 ≤ m ∧ ∀ i, lo + m - (neq + 1) ≤ i → i < lo + m → K (arrOf st') i = K (arrOf st') (lo + m - 1)) ?_ ?_ ⟨0, rfl, hB2, fl, by omega, fun i a1 a2 => by congr 1; omega⟩) ?_)
    · rintro x c st' a1 a2 ⟨neq, rfl, hB3, f3, q3, e3⟩
      refine wpS_bind (ltk hB3 h0 (by show lo + x < a₀.size; omega) (by show lo + x - 1 < a₀.size; omega) (fun z => ?_) fun z => ?_)
      · refine wpS_if (fun _ => ?_) fun n => absurd rfl n
        refine wpS_if (fun z2 => ?_) fun z2 => ?_
        · refine wpS_bind (wpS_reverse (wpS_pure ?_))
          refine ⟨0, rfl, hB3.mir (by show lo ≤ lo + x - (neq + 1); omega) (by show lo + x ≤ a₀.size; omega), Fall.eq (fall_more (hi := lo + x) f3 (by omega) (Int.le_of_lt z)) ?_, by omega, fun i b1 b2 => by congr 1; omega⟩
          intro k
          show K (mirror (arrOf st') (lo + x - (neq + 1)) (lo + x) ((lo + x - (lo + x - (neq + 1))) / 2)) k = K (arrOf st') k
          rw [K_mirror (by rw [hB3.size]; omega)]
          split
          · next q => rw [e3 k q.1 q.2, e3 _ (by omega) (by omega)]
          · rfl
        · refine wpS_pure ?_
          exact ⟨0, rfl, hB3, fall_more (hi := lo + x) f3 (by omega) (Int.le_of_lt z), by omega, fun i b1 b2 => by congr 1; omega⟩
      · refine wpS_if (fun n => by cases n) fun _ => ?_
        refine wpS_bind (ltk hB3 h0 (by show lo + x - 1 < a₀.size; omega) (by show lo + x < a₀.size; omega) (fun z2 => wpS_pure ?_) fun z2 => wpS_pure ?_)
        · exact ⟨x, neq, rfl, by omega, hB3, f3, q3, e3⟩
        have ex : K (arrOf st') (lo + x) = K (arrOf st') (lo + x - 1) := by
          have z' : ¬ K (arrOf st') (lo + x) < K (arrOf st') (lo + x - 1) := z
          have z2' : ¬ K (arrOf st') (lo + x - 1) < K (arrOf st') (lo + x) := z2
          omega
        refine ⟨neq + 1, rfl, hB3, fall_more (hi := lo + x) f3 (by omega) (by omega), by omega, fun i b1 b2 => ?_⟩
        rw [show lo + (x + 1) - 1 = lo + x by omega]
        by_cases ci : i = lo + x
        · rw [ci]
        · rw [e3 i (by omega) (by omega), ex]
    · rintro c st' ⟨neq, rfl, hB3, f3, q3, e3⟩
      rw [show max (n + 1) nrem = nrem by omega] at f3 q3 e3 ⊢
      exact ⟨nrem, neq, rfl, Nat.le_refl _, hB3, f3, q3, e3⟩
    · rintro c st' ⟨m, neq, rfl, mn, hB3, f3, q3, e3⟩
      refine wpS_if (fun z2 => wpS_bind (wpS_reverse ?_)) fun z2 => ?_
      have f4 : Fall (mirror (arrOf st') (lo + m - (neq + 1)) (lo + m) ((lo + m - (lo + m - (neq + 1))) / 2)) lo (lo + m) := Fall.eq f3 fun k => by
        rw [K_mirror (by rw [hB3.size]; omega)]
        split
        · next q => rw [e3 k q.1 q.2, e3 _ (by omega) (by omega)]
        · rfl
      have hB4 := hB3.mir (i := lo + m - (neq + 1)) (j := lo + m) (by omega) (by omega)
      generalize hst2 : setArr st' (mirror (arrOf st') (lo + m - (neq + 1)) (lo + m) ((lo + m - (lo + m - (neq + 1))) / 2)) = st4 at hB4 ⊢
      replace f4 : Fall (arrOf st4) lo (lo + m) := by rw [← hst2]; exact f4
      clear hst2
      rotate_left
      have f4 := f3
      have hB4 := hB3
      generalize st' = st4 at hB4 f4 ⊢
      rotate_left
      all_goals
        refine wpS_bind (wpS_reverse (?_))
        have hB5 := hB4.mir (i := lo) (j := lo + m) (Nat.le_refl _) (by omega)
        refine wpS_bind (asc_ok (lo := lo) (a := m) (fun x n R a1 a2 r1 r2 => wpS_bind (ltk hB5 h0 (by show lo + n < a₀.size; omega) (by show lo + n - 1 < a₀.size; omega) (fun z => wpS_pure (r1 z)) fun z => wpS_pure (r2 z))) (by omega) mn ?_ fun n5 a1 a2 a3 _ => wpS_pure (h n5 _ hB5 (by omega) a2 a3))
        intro i j a1 a2 a3
        show K (mirror (arrOf st4) lo (lo + m) ((lo + m - lo) / 2)) i ≤ K (mirror (arrOf st4) lo (lo + m) ((lo + m - lo) / 2)) j
        rw [K_mirror (by rw [hB4.size]; omega), K_mirror (by rw [hB4.size]; omega), if_pos (by omega), if_pos (by omega)]
        exact f4 _ _ (by omega) (by omega) (by omega)
end
section
variable {prog : Program} {w : World} {s : Shared} {A : Around} {E : Value → Shared → Prop} {a₀ xs : Array Keyed} {pd : Array (Nat × Nat × Nat)} {lo : Nat} {st : SortSt}
theorem bins_ok {n ok : Nat} {Q : Bool → SortSt → Prop} (h0 : IntKeys a₀) (hn : lo + n ≤ a₀.size) (h1 : 1 ≤ n) (hok : ok ≤ n) (hB : Sb a₀ pd lo xs st) (hr : Rise (arrOf st) lo (lo + ok)) (h : ∀ st', Sb a₀ pd lo xs st' → Rise (arrOf st') lo (lo + n) → Q true st') : wpS (model prog w) A E s (binarySort' lo n ok) Q st := by
  refine wpS_bind (wpS_mono (wpS_forRange (I := fun k c st' => c = (none, ()) ∧ Sb a₀ pd lo xs st' ∧ Rise (arrOf st') lo (lo + k)) (Q := fun c st' => c = (none, ()) ∧ Sb a₀ pd lo xs st' ∧ Rise (arrOf st') lo (lo + n)) ?_ ?_ ⟨rfl, hB, ?_⟩) ?_)
  · rintro k c st' k1 k2 ⟨rfl, hB2, hr2⟩
    refine wpS_bind (wpS_mono (wpS_forRange (I := fun x c st'' => st'' = st' ∧ ∃ l r, c = (none, l, r) ∧ l ≤ r ∧ r ≤ k ∧ r - l ≤ k - x ∧ (∀ i, i < l → K (arrOf st') (lo + i) ≤ K (arrOf st') (lo + k)) ∧ ∀ i, r ≤ i → i < k → K (arrOf st') (lo + k) < K (arrOf st') (lo + i)) (Q := fun c st'' => st'' = st' ∧ ∃ l r, c = (none, l, r) ∧ l ≤ k ∧ (∀ i, i < l → K (arrOf st') (lo + i) ≤ K (arrOf st') (lo + k)) ∧ ∀ i, l ≤ i → i < k → K (arrOf st') (lo + k) < K (arrOf st') (lo + i)) ?_ ?_ ⟨rfl, 0, k, rfl, by omega, by omega, by omega, (fun i z => by omega), fun i z1 z2 => by omega⟩) ?_)
    · rintro x c st'' _ x2 ⟨rfl, l, r, rfl, q1, q2, q3, q4, q5⟩
      refine wpS_if (fun z => wpS_pure ?_) fun z => wpS_bind (ltk hB2 h0 (by show lo + k < a₀.size; omega) (by show lo + (l + r) / 2 < a₀.size; replace z : ¬ l ≥ r := z; omega) (fun y => wpS_pure ?_) fun y => wpS_pure ?_)
      · replace z : l ≥ r := z
        have : l = r := by omega
        subst this
        exact ⟨rfl, l, l, rfl, q2, q4, q5⟩
      · replace z : ¬ l ≥ r := z
        refine ⟨rfl, l, (l + r) / 2, rfl, by omega, by omega, by omega, q4, fun i i1 i2 => ?_⟩
        have y1 : K (arrOf st'') (lo + k) < K (arrOf st'') (lo + (l + r) / 2) := y
        have y2 := hr2 (lo + (l + r) / 2) (lo + i) (by omega) (by omega) (by omega)
        omega
      · replace z : ¬ l ≥ r := z
        refine ⟨rfl, (l + r) / 2 + 1, r, rfl, by omega, by omega, by omega, fun i i1 => ?_, q5⟩
        have y1 : ¬ K (arrOf st'') (lo + k) < K (arrOf st'') (lo + (l + r) / 2) := y
        have y2 := hr2 (lo + i) (lo + (l + r) / 2) (by omega) (by omega) (by omega)
        omega
    · rintro c st'' ⟨rfl, l, r, rfl, q1, q2, q3, q4, q5⟩
      have : l = r := by omega
      subst this
      exact ⟨rfl, l, l, rfl, q2, q4, q5⟩
    · rintro c st'' ⟨rfl, l, r, rfl, q2, q4, q5⟩
      refine wpS_bind (wpS_modify (wpS_pure ?_))
      have hs : lo + k < (arrOf st'').size := by rw [hB2.size]; omega
      refine ⟨rfl, hB2.set (bubble_perm _ _ _) (fun j hj => ?_), fun i j i1 i2 i3 => ?_⟩
      · refine (getElem?_bubble hs (lo + k - (lo + l)) (by omega) j).trans ?_
        rw [if_neg (by omega), if_neg (by omega)]
      · show K (bubble (arrOf st'') (lo + k) (lo + k - (lo + l))) i ≤ K (bubble (arrOf st'') (lo + k) (lo + k - (lo + l))) j
        have lo' : ∀ i, lo ≤ i → i < lo + l → K (arrOf st'') i ≤ K (arrOf st'') (lo + k) := fun i a b => by
          have := q4 (i - lo) (by omega)
          rw [show lo + (i - lo) = i by omega] at this
          exact this
        have hi' : ∀ i, lo + l ≤ i → i < lo + k → K (arrOf st'') (lo + k) < K (arrOf st'') i := fun i a b => by
          have := q5 (i - lo) (by omega) (by omega)
          rw [show lo + (i - lo) = i by omega] at this
          exact this
        rw [K_bubble hs (by omega), K_bubble hs (by omega), show lo + k - (lo + k - (lo + l)) = lo + l by omega]
        repeat' split
        all_goals first
          | omega
          | exact lo' _ (by omega) (by omega)
          | exact Int.le_of_lt (hi' _ (by omega) (by omega))
          | exact hr2 _ _ (by omega) (by omega) (by omega)
  · rintro c st' ⟨rfl, hB2, hr2⟩
    rw [show max (max ok 1) n = n by omega] at hr2
    exact ⟨rfl, hB2, hr2⟩
  · by_cases z : ok = 0
    · rw [show max ok 1 = 1 by omega]
      exact rise_one _ _
    · rw [show max ok 1 = ok by omega]
      exact hr
  · rintro c st' ⟨rfl, hB2, hr2⟩
    exact wpS_pure (h st' hB2 hr2)
end
theorem K_kf {xs : Array Keyed} {i : Nat} (hi : i < xs.toList.length) : K xs i = kf xs.toList[i] := by
  have hi' : i < xs.size := by rw [← Array.length_toList]; exact hi
  rw [K_eq hi', Array.getElem_toList]
  rfl
theorem rise_upk {xs : Array Keyed} {lo hi : Nat} (h : Rise xs lo hi) (hh : hi ≤ xs.size) : Upk ((xs.toList.drop lo).take (hi - lo)) := by
  rw [Upk, List.pairwise_iff_getElem]
  intro i j hi hj hij
  rw [List.length_take, List.length_drop, Array.length_toList] at hi hj
  rw [List.getElem_take, List.getElem_take, List.getElem_drop, List.getElem_drop, ← K_kf, ← K_kf]
  exact h _ _ (by omega) (by omega) (by omega)
theorem upk_rise {xs : Array Keyed} (h : Upk xs.toList) : SortedTo xs xs.size := fun i j h1 h2 => by
  rw [← Array.length_toList] at h2
  rw [K_kf h2, K_kf (Nat.lt_of_le_of_lt h1 h2)]
  rcases Nat.lt_or_eq_of_le h1 with z | z
  · exact List.pairwise_iff_getElem.mp h i j _ _ z
  · subst z; exact Int.le_refl _
/-- things laid one behind the other -/
theorem fold_set (sa : Nat) : ∀ (r : List Keyed) (c : Nat) (arr : Array Keyed), sa + c + r.length ≤ arr.size → ((r.zipIdx c).foldl (fun a x => a.setIfInBounds (sa + x.2) x.1) arr).toList = arr.toList.take (sa + c) ++ r ++ arr.toList.drop (sa + c + r.length)
  | [], c, arr, _ => by simp
  | p :: r, c, arr, h => by
    rw [List.length_cons] at h
    rw [List.zipIdx_cons, List.foldl_cons]
    have ih := fold_set sa r (c + 1) (arr.setIfInBounds (sa + c) p) (by rw [Array.size_setIfInBounds]; omega)
    refine ih.trans ?_
    have hl : sa + c < arr.toList.length := by rw [Array.length_toList]; omega
    rw [Array.toList_setIfInBounds, show sa + (c + 1) = sa + c + 1 by omega, List.take_set, List.drop_set_of_lt (by omega), List.length_cons, show sa + c + 1 + r.length = sa + c + (r.length + 1) by omega]
    congr 1
    rw [List.take_succ_eq_append_getElem hl, List.set_append_right _ _ (by rw [List.length_take]; omega), List.length_take, Nat.min_eq_left (by omega), Nat.sub_self]
    simp
section
variable {prog : Program} {w : World} {s : Shared} {A : Around} {E : Value → Shared → Prop} {a₀ : Array Keyed} {st : SortSt}
theorem wpS_put {σ : Type} {Q : PUnit → σ → Prop} {st st2 : σ} (h : Q ⟨⟩ st2) : wpS (model prog w) A E s (set st2 : StateT σ Sem PUnit) Q st := by
  unfold wpS
  rw [StateT.run_set]
  exact wpAny_pure ⟨rfl, h⟩
theorem merge_ok {n1 n2 pw : Nat} {Q : Bool → SortSt → Prop} (h0 : IntKeys a₀) (hp : (arrOf st).Perm a₀) (hk : kindOf st = oneType') (hf : failedOf st = none) (hpd : pendingOf st = #[(0, n1, pw), (n1, n2, 0)]) (p1 : 1 ≤ n1) (p2 : 1 ≤ n2) (hn : n1 + n2 = (arrOf st).size) (r1 : Rise (arrOf st) 0 n1) (r2 : Rise (arrOf st) n1 (n1 + n2))
    (h : ∀ st', (arrOf st').Perm a₀ → failedOf st' = none → pendingOf st' = #[(0, n1 + n2, pw)] → Upk (arrOf st').toList → Q true st') : wpS (model prog w) A E s (mergeAt' 0) Q st := by
  obtain ⟨kn, ar, pe, mg, fl⟩ := st
  replace hpd : pe = #[(0, n1, pw), (n1, n2, 0)] := hpd
  replace hf : fl = none := hf
  replace hk : kn = oneType' := hk
  replace hp : ar.Perm a₀ := hp
  replace hn : n1 + n2 = ar.size := hn
  replace r1 : Rise ar 0 n1 := r1
  replace r2 : Rise ar n1 (n1 + n2) := r2
  subst hpd hf hk
  refine wpS_bind (wpS_get ?_)
  have e1 : (#[(0, n1, pw), (n1, n2, 0)] : Array (Nat × Nat × Nat))[0]? = some (0, n1, pw) := rfl
  have e2 : (#[(0, n1, pw), (n1, n2, 0)] : Array (Nat × Nat × Nat))[0 + 1]? = some (n1, n2, 0) := rfl
  dsimp only
  rw [e1, e2]
  refine wpS_bind (wpS_put ?_)
  have ep : ((#[(0, n1, pw), (n1, n2, 0)] : Array (Nat × Nat × Nat)).setIfInBounds 0 (0, n1 + n2, pw)).eraseIdxIfInBounds (0 + 1) = #[(0, n1 + n2, pw)] := by
    apply Array.toList_inj.mp
    simp [Array.eraseIdxIfInBounds]
  rw [ep]
  have lU : ar.toList.length = ar.size := Array.length_toList
  have iU : ∀ x ∈ ar.toList, IntK x := fun x hx => h0 x ((Array.perm_iff_toList_perm.mp hp).mem_iff.mp hx)
  have sT : Upk (ar.toList.take n1) := by
    have := rise_upk r1 (by omega)
    rw [List.drop_zero, Nat.sub_zero] at this
    exact this
  have sD : Upk (ar.toList.drop n1) := by
    have := rise_upk r2 (by omega)
    rw [List.take_of_length_le (by rw [List.length_drop]; omega)] at this
    exact this
  have eU := List.take_append_drop n1 ar.toList
  obtain ⟨y0, a1, a2, a3⟩ : ∃ x, ar[n1]? = some x ∧ ar.toList[n1]? = some x ∧ x ∈ ar.toList := ⟨ar[n1], getElem?_pos ar n1 (by omega), by rw [Array.getElem?_toList]; exact getElem?_pos ar n1 (by omega), Array.getElem_mem_toList (by omega)⟩
  obtain ⟨z0, b1, b2, b3⟩ : ∃ x, ar[n1 - 1]? = some x ∧ ar.toList[n1 - 1]? = some x ∧ x ∈ ar.toList := ⟨ar[n1 - 1], getElem?_pos ar (n1 - 1) (by omega), by rw [Array.getElem?_toList]; exact getElem?_pos ar (n1 - 1) (by omega), Array.getElem_mem_toList (by omega)⟩
  have y0le : ∀ x ∈ ar.toList.drop n1, kf y0 ≤ kf x := by
    have z : (ar.toList.drop n1)[0]? = some y0 := by rw [List.getElem?_drop]; exact a2
    have q := up_drop sD z
    rw [List.drop_zero] at q
    exact q
  have z0ge : ∀ x ∈ ar.toList.take n1, kf x ≤ kf z0 := by
    have z : (ar.toList.take n1)[n1 - 1]? = some z0 := by rw [List.getElem?_take_of_lt (by omega)]; exact b2
    have q := up_take sT z
    rw [List.take_take, Nat.min_eq_left (by omega)] at q
    rwa [show n1 - 1 + 1 = n1 by omega] at q
  have whole : (∀ x ∈ ar.toList.take n1, ∀ y ∈ ar.toList.drop n1, kf x ≤ kf y) → Upk ar.toList := fun c => by
    rw [← eU]
    exact List.pairwise_append.mpr ⟨sT, sD, c⟩
  refine wpS_bind (elem_ok a1 (wpS_bind (gal_ok (D := ar.toList.take n1) rfl (iU _ a3) (by omega) (by omega) (by rw [List.drop_zero]) sT (fun x hx => iU x (List.mem_of_mem_take hx)) fun k hkn k1 k2 => ?_)))
  rw [List.take_take, Nat.min_eq_left hkn] at k1
  refine wpS_if (fun c => wpS_pure (h _ hp rfl rfl (whole fun x hx y hy => ?_))) fun c => ?_
  · have c' : n1 - k = 0 := by simpa using c
    have ek : k = n1 := by omega
    subst ek
    exact Int.le_trans (bey_le (k1 x hx)) (y0le y hy)
  have c' : n1 - k ≠ 0 := by simpa using c
  refine wpS_bind (elem_ok (p := z0) (by rw [show 0 + k + (n1 - k) - 1 = n1 - 1 by omega]; exact b1) (wpS_bind (gal_ok (D := ar.toList.drop n1) rfl (iU _ b3) (by omega) (by omega) (List.take_of_length_le (by rw [List.length_drop]; omega)).symm sD (fun x hx => iU x (List.mem_of_mem_drop hx)) fun m hmn m1 m2 => ?_)))
  refine wpS_if (fun c => wpS_pure (h _ hp rfl rfl (whole fun x hx y hy => ?_))) fun c2 => ?_
  · have e0 : m = 0 := by simpa using c
    subst e0
    exact Int.le_trans (z0ge x hx) (bey_ge (m2 y hy))
  have c2' : m ≠ 0 := by simpa using c2
  rw [List.drop_drop] at m2
  have ea : (ar.extract (0 + k) n1).toList = (ar.toList.take n1).drop k := by rw [ext_mid, Nat.zero_add]
  have eb : (ar.extract n1 (n1 + m)).toList = (ar.toList.drop n1).take m := ext_part _ _ _
  have la : (ar.extract (0 + k) n1).toList.length = n1 - k := by rw [ea, List.length_drop, List.length_take]; omega
  have lb : (ar.extract n1 (n1 + m)).toList.length = m := by rw [eb, List.length_take, List.length_drop]; omega
  have first : ∀ x, (ar.extract n1 (n1 + m))[0]? = some x → ∀ y ∈ (ar.extract (0 + k) n1).toList, kf x ≤ kf y := fun x hx y hy => by
    rw [← Array.getElem?_toList, eb, List.getElem?_take_of_lt (by omega), List.getElem?_drop, Nat.add_zero, a2] at hx
    cases hx
    rw [ea] at hy
    exact Int.le_of_lt (bey_gt (k2 y hy))
  have last : ∀ x ∈ (ar.extract n1 (n1 + m)).toList, ∀ y, (ar.extract (0 + k) n1)[(ar.extract (0 + k) n1).size - 1]? = some y → kf x ≤ kf y := fun x hx y hy => by
    rw [← Array.getElem?_toList, ← Array.length_toList, la, ea, List.getElem?_drop, List.getElem?_take_of_lt (by omega), show k + (n1 - k - 1) = n1 - 1 by omega, b2] at hy
    cases hy
    rw [eb] at hx
    exact Int.le_of_lt (bey_lt (m1 x hx))
  have fin : ∀ (r : Array Keyed) (g : Nat), r.toList.Perm ((ar.extract (0 + k) n1).toList ++ (ar.extract n1 (n1 + m)).toList) → Upk r.toList → Q true (SortSt.mk' oneType' (r.toList.zipIdx.foldl (fun a x => a.setIfInBounds (0 + k + x.2) x.1) ar) #[(0, n1 + n2, pw)] g none) := fun r g pr ur => by
    have lr : r.toList.length = n1 - k + m := by rw [pr.length_eq, List.length_append, la, lb]
    have ef := fold_set (0 + k) r.toList 0 ar (by rw [lr]; omega)
    rw [lr, show 0 + k + 0 = k by omega, show k + (n1 - k + m) = n1 + m by omega] at ef
    have ev : ar.toList = ar.toList.take k ++ ((ar.toList.take n1).drop k ++ (ar.toList.drop n1).take m) ++ ar.toList.drop (n1 + m) := by
      have v1 := List.take_append_drop k (ar.toList.take n1)
      rw [List.take_take, Nat.min_eq_left hkn] at v1
      have v2 := List.take_append_drop m (ar.toList.drop n1)
      rw [List.drop_drop] at v2
      rw [← List.append_assoc, v1, List.append_assoc, v2, eU]
    have pr' : r.toList.Perm ((ar.toList.take n1).drop k ++ (ar.toList.drop n1).take m) := by rw [← ea, ← eb]; exact pr
    refine h _ ?_ rfl rfl ?_
    · refine Array.Perm.trans (Array.perm_iff_toList_perm.mpr ?_) hp
      show (List.foldl _ ar r.toList.zipIdx).toList.Perm ar.toList
      rw [ef]
      conv => rhs; rw [ev]
      exact (pr'.append_left _).append_right _
    · show Upk (List.foldl _ ar r.toList.zipIdx).toList
      rw [ef]
      have inR : ∀ x ∈ r.toList, kf y0 ≤ kf x ∧ kf x ≤ kf z0 := fun x hx => by
        rcases List.mem_append.mp (pr'.subset hx) with z | z
        · exact ⟨Int.le_of_lt (bey_gt (k2 x z)), z0ge x (List.mem_of_mem_drop z)⟩
        · exact ⟨y0le x (List.mem_of_mem_take z), Int.le_of_lt (bey_lt (m1 x z))⟩
      have up1 : Upk (ar.toList.take k) := by
        have : ar.toList.take k = (ar.toList.take n1).take k := by rw [List.take_take, Nat.min_eq_left hkn]
        rw [this]
        exact sT.sublist (List.take_sublist _ _)
      have up3 : Upk (ar.toList.drop (n1 + m)) := by
        rw [← List.drop_drop]
        exact sD.sublist (List.drop_sublist _ _)
      refine List.pairwise_append.mpr ⟨List.pairwise_append.mpr ⟨up1, ur, fun x hx y hy => Int.le_trans (bey_le (k1 x hx)) (inR y hy).1⟩, up3, fun x hx y hy => ?_⟩
      rcases List.mem_append.mp hx with z | z
      · refine Int.le_trans (bey_le (k1 x z)) (y0le y ?_)
        rw [← List.drop_drop] at hy
        exact List.mem_of_mem_drop hy
      · exact Int.le_trans (inR x z).2 (bey_ge (m2 y hy))
  have nA : 0 < (ar.extract (0 + k) n1).size := by rw [← Array.length_toList, la]; omega
  have nB : 0 < (ar.extract n1 (n1 + m)).size := by rw [← Array.length_toList, lb]; omega
  have iA : ∀ x ∈ (ar.extract (0 + k) n1).toList, IntK x := fun x hx => by
    rw [ea] at hx
    exact iU x (List.mem_of_mem_take (List.mem_of_mem_drop hx))
  have iB : ∀ x ∈ (ar.extract n1 (n1 + m)).toList, IntK x := fun x hx => by
    rw [eb] at hx
    exact iU x (List.mem_of_mem_drop (List.mem_of_mem_take hx))
  have sA : Upk (ar.extract (0 + k) n1).toList := by
    rw [ea]
    exact sT.sublist (List.drop_sublist _ _)
  have sB : Upk (ar.extract n1 (n1 + m)).toList := by
    rw [eb]
    exact sD.sublist (List.take_sublist _ _)
  refine wpS_if (fun _ => wpS_bind (mergeLo_ok rfl iA iB sA sB nA nB first last fun r st' ss pr ur => ?_)) fun _ => wpS_bind (mergeHi_ok rfl iA iB sA sB nA nB first last fun r st' ss pr ur => ?_)
  all_goals
    obtain ⟨x1, x2, x3, x4, x5⟩ := st'
    obtain ⟨s1, s2, s3, s4⟩ := ss
    replace s1 : x1 = oneType' := s1
    replace s2 : x2 = ar := s2
    replace s3 : x3 = #[(0, n1 + n2, pw)] := s3
    replace s4 : x5 = none := s4
    subst s1 s2 s3 s4
    exact wpS_bind (wpS_modify (wpS_bind (wpS_get (wpS_pure (fin r x4 pr ur)))))
end
section
variable {prog : Program} {w : World} {s : Shared} {A : Around} {E : Value → Shared → Prop} {a₀ : Array Keyed} {st : SortSt}
theorem minRun_is {n : Nat} (h1 : 64 ≤ n) (h2 : n < 128) : minRun' n n 0 = n / 2 + n % 2 := by
  obtain ⟨f, rfl⟩ : ∃ f, n = f + 2 := ⟨n - 2, by omega⟩
  rw [minRun'_succ, if_neg (by omega), minRun'_succ, if_pos (by omega)]
  omega
/-- the two runs of fewer than 128 things -/
inductive Two (a₀ : Array Keyed) (N : Nat) (st : SortSt) : Nat → Prop where
  | zero (h : Sb a₀ #[] 0 #[] st) : Two a₀ N st 0
  | one {n1 : Nat} (h : Sb a₀ #[(0, n1, 0)] 0 #[] st) (h1 : 1 ≤ n1) (h2 : n1 ≤ N) (h3 : N / 2 + N % 2 ≤ n1) (hr : Rise (arrOf st) 0 n1) : Two a₀ N st n1
  | two {n1 pw : Nat} (h : Sb a₀ #[(0, n1, pw), (n1, N - n1, 0)] 0 #[] st) (h1 : 1 ≤ n1) (h2 : n1 < N) (hr : Rise (arrOf st) 0 n1) (hr2 : Rise (arrOf st) n1 N) : Two a₀ N st N
theorem Two.le {a₀ : Array Keyed} {N lo : Nat} {st : SortSt} (h : Two a₀ N st lo) : lo ≤ N := by
  cases h with
  | zero => exact Nat.zero_le _
  | one _ _ h2 => exact h2
  | two => exact Nat.le_refl _
theorem K_low {xs ys : Array Keyed} {lo : Nat} (l : ∀ k, k < lo → ys[k]? = xs[k]?) (h : Rise xs 0 lo) : Rise ys 0 lo := fun i j h1 h2 h3 => by
  rw [K_congr (l i (by omega)), K_congr (l j h3)]
  exact h i j h1 h2 h3
theorem pend_two (a b : Nat × Nat × Nat) (f : Nat × Nat × Nat → Nat × Nat × Nat) : ((#[a] : Array (Nat × Nat × Nat)).modify (#[a].size - 1) f).push b = #[f a, b] := by
  apply Array.toList_inj.mp
  simp [Array.toList_modify]
theorem runs_ok {Q : Unit → SortSt → Prop} (h0 : IntKeys a₀) (hB : SBase a₀ st) (h64 : 64 ≤ a₀.size) (h128 : a₀.size < 128)
    (fin : ∀ st', (arrOf st').Perm a₀ → failedOf st' = none → SortedTo (arrOf st') a₀.size → Q () st') : wpS (model prog w) A E s sortRuns' Q st := by
  obtain ⟨kn, ar, pe, mg, fl⟩ := st
  have hsz : ar.size = a₀.size := hB.size
  have hmr := minRun_is (n := ar.size) (by omega) (by omega)
  refine wpS_bind (wpS_get ?_)
  refine wpS_bind (wpS_mono (wpS_forRange (I := fun x c st' => ∃ lo, c = (none, lo) ∧ Two a₀ ar.size st' lo ∧ (1 ≤ x → 1 ≤ lo) ∧ (2 ≤ x → lo = ar.size)) (Q := fun c st' => c = (none, ar.size) ∧ Two a₀ ar.size st' ar.size) ?_ ?_ ⟨0, rfl, .zero ⟨hB.perm, hB.kind, hB.failed, hB.pend, fun k hk => absurd hk (Nat.not_lt_zero _)⟩, (fun z => by omega), fun z => by omega⟩) ?_)
  · rintro x c st' _ x2 ⟨lo, rfl, t, hx1, hx⟩
    refine wpS_if (fun z => wpS_pure ?_) fun z => ?_
    · replace z : lo ≥ ar.size := z
      have e : lo = ar.size := Nat.le_antisymm t.le z
      subst e
      exact ⟨rfl, t⟩
    replace z : ¬ lo ≥ ar.size := z
    cases t with
    | two => exact absurd (Nat.le_refl _) z
    | zero hS =>
      refine wpS_bind (count_ok (lo := 0) h0 (by show 0 + (ar.size - 0) ≤ a₀.size; omega) (by show 1 ≤ ar.size - 0; omega) hS fun m st2 hS2 m1 m2 hr => ?_)
      replace m2 : m ≤ ar.size - 0 := m2
      refine wpS_if (fun c => wpS_bind (wpS_lift (wpAny_rule ⟨rfl, wpS_bind (bins_ok (lo := 0) h0 (by show 0 + min (ar.size - 0) (minRun' ar.size ar.size 0) ≤ a₀.size; omega) (by show 1 ≤ min (ar.size - 0) (minRun' ar.size ar.size 0); omega) (by show m ≤ min (ar.size - 0) (minRun' ar.size ar.size 0); have c' : m < minRun' ar.size ar.size 0 := c; omega) hS2 hr fun st3 hS3 hr3 => wpS_if (fun n => by cases n) fun _ => ?_)⟩))) fun c => ?_
      · obtain ⟨k3, a3, p3, g3, f3⟩ := st3
        obtain ⟨s1, s2, s3, s4, s5⟩ := hS3
        replace s4 : p3 = #[] := s4
        subst s4
        refine wpS_bind (wpS_get (wpS_bind (wpS_modify (wpS_pure ?_))))
        refine ⟨0 + min (ar.size - 0) (minRun' ar.size ar.size 0), rfl, .one ⟨s1, s2, s3, ?_, fun k hk => absurd hk (Nat.not_lt_zero _)⟩ (by omega) (by omega) (by omega) hr3, (fun _ => by omega), fun z => ?_⟩
        · rw [Nat.zero_add]
          rfl
        · have := hx1 (by omega)
          omega
      · replace c : ¬ m < minRun' ar.size ar.size 0 := c
        obtain ⟨k3, a3, p3, g3, f3⟩ := st2
        obtain ⟨s1, s2, s3, s4, s5⟩ := hS2
        replace s4 : p3 = #[] := s4
        subst s4
        refine wpS_bind (wpS_get (wpS_bind (wpS_modify (wpS_pure ?_))))
        refine ⟨0 + m, rfl, .one ⟨s1, s2, s3, ?_, fun k hk => absurd hk (Nat.not_lt_zero _)⟩ (by omega) (by omega) (by omega) hr, (fun _ => by omega), fun z => ?_⟩
        · rw [Nat.zero_add]
          rfl
        · have := hx1 (by omega)
          omega
    | one hS h1 h2 h3 hr1 =>
      have hS' : Sb a₀ #[(0, lo, 0)] lo (arrOf st') st' := ⟨hS.perm, hS.kind, hS.fail, hS.pend, fun _ _ => rfl⟩
      refine wpS_bind (count_ok (lo := lo) h0 (by show lo + (ar.size - lo) ≤ a₀.size; omega) (by show 1 ≤ ar.size - lo; omega) hS' fun m st2 hS2 m1 m2 hr => ?_)
      replace m2 : m ≤ ar.size - lo := m2
      refine wpS_if (fun c => wpS_bind (wpS_lift (wpAny_rule ⟨rfl, wpS_bind (bins_ok (lo := lo) h0 (by show lo + min (ar.size - lo) (minRun' ar.size ar.size 0) ≤ a₀.size; omega) (by show 1 ≤ min (ar.size - lo) (minRun' ar.size ar.size 0); omega) (by show m ≤ min (ar.size - lo) (minRun' ar.size ar.size 0); have c' : m < minRun' ar.size ar.size 0 := c; omega) hS2 hr fun st3 hS3 hr3 => wpS_if (fun n => by cases n) fun _ => ?_)⟩))) fun c => ?_
      · have em : min (ar.size - lo) (minRun' ar.size ar.size 0) = ar.size - lo := by omega
        obtain ⟨k3, a3, p3, g3, f3⟩ := st3
        obtain ⟨s1, s2, s3, s4, s5⟩ := hS3
        replace s4 : p3 = #[(0, lo, 0)] := s4
        subst s4
        refine wpS_bind (wpS_get ?_)
        refine wpS_bind (wpS_mono (wpS_forRange (I := fun _ c st'' => st'' = SortSt.mk' k3 a3 #[(0, lo, 0)] g3 f3 ∧ c = (none, ())) (Q := fun c st'' => st'' = SortSt.mk' k3 a3 #[(0, lo, 0)] g3 f3 ∧ c = (none, ())) ?_ (fun c st'' z => z) ⟨rfl, rfl⟩) ?_)
        · rintro y c st'' _ _ ⟨rfl, rfl⟩
          exact wpS_bind (wpS_get (wpS_pure ⟨rfl, rfl⟩))
        · rintro c st'' ⟨rfl, rfl⟩
          refine wpS_bind (wpS_modify (wpS_bind (wpS_modify (wpS_pure ?_))))
          refine ⟨ar.size, ?_, .two (pw := power' ar.size (2 * 0 + lo) (2 * 0 + lo + lo + min (ar.size - lo) (minRun' ar.size ar.size 0)) ar.size) ⟨s1, s2, s3, ?_, fun k hk => absurd hk (Nat.not_lt_zero _)⟩ h1 (by omega) (K_low s5 hr1) ?_, (fun _ => by omega), fun _ => rfl⟩
          · show (none, lo + min (ar.size - lo) (minRun' ar.size ar.size 0)) = (none, ar.size)
            rw [em]
            congr 1
            omega
          · exact (pend_two (0, lo, 0) (lo, min (ar.size - lo) (minRun' ar.size ar.size 0), 0) _).trans (congrArg (fun n => #[(0, lo, power' ar.size (2 * 0 + lo) (2 * 0 + lo + lo + min (ar.size - lo) (minRun' ar.size ar.size 0)) ar.size), (lo, n, 0)]) em)
          · have q : Rise a3 lo (lo + min (ar.size - lo) (minRun' ar.size ar.size 0)) := hr3
            rw [em, show lo + (ar.size - lo) = ar.size by omega] at q
            exact q
      · replace c : ¬ m < minRun' ar.size ar.size 0 := c
        have em : m = ar.size - lo := by omega
        obtain ⟨k3, a3, p3, g3, f3⟩ := st2
        obtain ⟨s1, s2, s3, s4, s5⟩ := hS2
        replace s4 : p3 = #[(0, lo, 0)] := s4
        subst s4
        refine wpS_bind (wpS_get ?_)
        refine wpS_bind (wpS_mono (wpS_forRange (I := fun _ c st'' => st'' = SortSt.mk' k3 a3 #[(0, lo, 0)] g3 f3 ∧ c = (none, ())) (Q := fun c st'' => st'' = SortSt.mk' k3 a3 #[(0, lo, 0)] g3 f3 ∧ c = (none, ())) ?_ (fun c st'' z => z) ⟨rfl, rfl⟩) ?_)
        · rintro y c st'' _ _ ⟨rfl, rfl⟩
          exact wpS_bind (wpS_get (wpS_pure ⟨rfl, rfl⟩))
        · rintro c st'' ⟨rfl, rfl⟩
          refine wpS_bind (wpS_modify (wpS_bind (wpS_modify (wpS_pure ?_))))
          refine ⟨ar.size, ?_, .two (pw := power' ar.size (2 * 0 + lo) (2 * 0 + lo + lo + m) ar.size) ⟨s1, s2, s3, ?_, fun k hk => absurd hk (Nat.not_lt_zero _)⟩ h1 (by omega) (K_low s5 hr1) ?_, (fun _ => by omega), fun _ => rfl⟩
          · show (none, lo + m) = (none, ar.size)
            rw [em]
            congr 1
            omega
          · exact (pend_two (0, lo, 0) (lo, m, 0) _).trans (congrArg (fun n => #[(0, lo, power' ar.size (2 * 0 + lo) (2 * 0 + lo + lo + m) ar.size), (lo, n, 0)]) em)
          · have q : Rise a3 lo (lo + m) := hr
            rw [em, show lo + (ar.size - lo) = ar.size by omega] at q
            exact q
  · rintro c st' ⟨lo, rfl, t, hx1, hx⟩
    have e : lo = ar.size := hx (by show 2 ≤ max 0 ar.size; omega)
    subst e
    exact ⟨rfl, t⟩
  · rintro c st' ⟨rfl, t⟩
    refine wpS_bind (wpS_mono (wpS_forRange (I := fun x c st'' => c = (none, ()) ∧ ((x = 0 ∧ Two a₀ ar.size st'' ar.size) ∨ (arrOf st'').Perm a₀ ∧ failedOf st'' = none ∧ (pendingOf st'').size ≤ 1 ∧ SortedTo (arrOf st'') a₀.size)) (Q := fun c st'' => c = (none, ()) ∧ (arrOf st'').Perm a₀ ∧ failedOf st'' = none ∧ SortedTo (arrOf st'') a₀.size) ?_ ?_ ⟨rfl, .inl ⟨rfl, t⟩⟩) ?_)
    · rintro x c st'' _ x2 ⟨rfl, hor⟩
      refine wpS_bind (wpS_get ?_)
      rcases hor with ⟨rfl, t⟩ | ⟨q1, q2, q3, q4⟩
      · generalize hN : ar.size = N at t
        cases t with
        | zero => omega
        | one hS n1 n2 n3 hr =>
          refine wpS_if (fun _ => wpS_pure ⟨rfl, hS.perm, hS.fail, fun i j i1 i2 => hr i j (Nat.zero_le _) i1 (by omega)⟩) fun z => absurd ?_ z
          show (pendingOf st'').size ≤ 1
          rw [hS.pend]
          exact Nat.le_refl _
        | two hS n1 n2 hr hr2 =>
          rename_i m1 pw
          obtain ⟨k3, a3, p3, g3, f3⟩ := st''
          obtain ⟨s1, s2, s3, s4, s5⟩ := hS
          replace s4 : p3 = #[(0, m1, pw), (m1, N - m1, 0)] := s4
          replace s1 : a3.Perm a₀ := s1
          subst s4
          have sz := s1.size_eq
          refine wpS_if (fun z => absurd (show 2 ≤ 1 from z) (by omega)) fun _ => ?_
          refine wpS_bind (merge_ok (n1 := m1) (n2 := N - m1) (pw := pw) h0 s1 s2 s3 rfl n1 (by omega) (by show m1 + (N - m1) = a3.size; omega) hr (by rw [show m1 + (N - m1) = N by omega]; exact hr2) fun st4 r1 r2 r3 r4 => wpS_if (fun n => by cases n) fun _ => wpS_pure ⟨rfl, .inr ⟨r1, r2, ?_, ?_⟩⟩)
          · rw [r3]
            exact Nat.le_refl _
          · have := upk_rise r4
            rw [r1.size_eq] at this
            exact this
      · exact wpS_if (fun _ => wpS_pure ⟨rfl, q1, q2, q4⟩) fun z => absurd q3 z
    · rintro c st'' ⟨rfl, hor⟩
      rcases hor with ⟨e, _⟩ | ⟨q1, q2, q3, q4⟩
      · have : max 0 ar.size = 0 := e
        omega
      · exact ⟨rfl, q1, q2, q4⟩
    · rintro c st'' ⟨rfl, q1, q2, q4⟩
      exact wpS_pure (fin st'' q1 q2 q4)
end
section
variable {prog : Program} {w : World} {s : Shared} {A : Around} {E : Value → Shared → Prop}
/-- xs.sort(), fewer than 128 numbers -/
theorem sort_tree {a : Addr} {vs : List Value} {ns : List Int} {n : Nat} {P : Fin → Shared → Prop} (ho : s.heap.get? a = some (seqObj "list" vs.toArray n)) (hI : IntsAre vs ns) (hn : vs.length < 128)
    (h : ∀ (out : Array Value) (ns' : List Int), IntsAre out.toList ns' → ns'.Perm ns → ns'.Pairwise (· ≤ ·) → P (.done (.ret .none)) { s with heap := sortedHeap s.heap a vs out }) : wpAny (model prog w) A (Builtin.«list.sort» ⟨[.ref a], []⟩) P E s := by
  by_cases h64 : vs.length < 64
  · exact list_sort_tree ho hI h64 h
  rw [list_sort_plain]
  have ha := Heap.lt_size ho
  have fits : ∀ k, k < 128 → k ≤ sizeLine := fun k hk => Nat.le_trans (Nat.le_of_lt hk) (by decide)
  have zs : vs.toArray.size = vs.length := List.size_toArray
  refine wpAny_bind (listItems_at ho rfl (wpAny_bind (listUpdate_at ho rfl ?_ (by rw [zs]; exact fits _ hn) (Nat.zero_le _))))
  obtain ⟨e1, ho1⟩ : ∃ e1, (s.heap.update a (Obj.mapSeq fun _ => #[])).get? a = some (seqObj "list" #[] e1) := ⟨_, get?_update_seq ho _⟩
  refine wpAny_bind (seqEpoch_at ho1 rfl (wpAny_bind (wpAny_newTuple (wpAny_bind (wpAny_newList (wpAny_holding ?_))) (by show vs.length ≤ sizeLine; exact fits _ hn))))
  have ho6 : (((s.heap.update a (Obj.mapSeq fun _ => #[])).push (seqObj "tuple" vs.toArray 0)).push (seqObj "list" #[] 0)).get? a = some (seqObj "list" #[] e1) := Heap.get?_push_of_some _ (Heap.get?_push_of_some _ ho1)
  rw [if_neg (by rw [zs]; omega), if_neg (by rw [zs]; omega)]
  obtain ⟨u₁, u₂, rest, rfl⟩ : ∃ u₁ u₂ rest, vs = u₁ :: u₂ :: rest := by
    match vs, h64 with
    | [], h => exact absurd (by decide) h
    | [_], h => exact absurd (by show 1 < 64; decide) h
    | u₁ :: u₂ :: rest, _ => exact ⟨u₁, u₂, rest, rfl⟩
  rw [keyKind_ints hI]
  have zp := pairsOf_size (u₁ :: u₂ :: rest)
  refine wpAny_bind (wpAny_pure (wpAny_bind (wpAny_mono (runs_ok (a₀ := pairsOf (u₁ :: u₂ :: rest)) (Q := fun _ st' => (arrOf st').Perm (pairsOf (u₁ :: u₂ :: rest)) ∧ failedOf st' = none ∧ SortedTo (arrOf st') (pairsOf (u₁ :: u₂ :: rest)).size) hI.intKeys ⟨Array.Perm.refl _, rfl, rfl, rfl⟩ (by omega) (by omega) fun st' r1 r2 r3 => ⟨r1, r2, r3⟩) ?_ fun _ _ e => e)))
  rintro ⟨⟨⟩, st'⟩ s' ⟨rfl, hp, hf, hz⟩
  have ⟨ns', h1, h2, h3⟩ := sorted_out hI hp hz
  have zo : ((arrOf st').map (·.2)).size < 128 := by rw [Array.size_map, hp.size_eq, zp]; exact hn
  refine wpAny_bind (seqEpoch_at ho6 rfl (wpAny_bind (listUpdate_at ho6 rfl ?_ (Nat.zero_le _) (Nat.le_succ_of_le (fits _ zo)))))
  rw [hf]
  simp only [bne_self_eq_false, if_false, Bool.false_eq_true]
  exact wpAny_pure (h _ ns' h1 h2 h3)
end
end My
/-! ### sorted(d), fewer than 128 keys -/
namespace My
open PySem PySem.Spec PyProof.Rows L2
section
variable {X : Cx}
/-- sorted(d), d a dict with numbers for keys, fewer than 128 -/
theorem call_sortedB (hc : X.calm = true) : CallR X (.builtin "sorted") (fun xs H Q => ∃ (a : Addr) (kvs : List (Key × V)) (ks : List Int), xs = [V.ref a] ∧ H a = some (.dK kvs) ∧ kvs.map (·.1) = ks.map Sum.inl ∧ ks.length < 128 ∧ ∀ p, H p = none → Q (.ref p) (upd H p (.lst ((risen ks).map V.int)))) := by
  intro pins s σ H xs us Q I r h
  obtain ⟨a, kvs, ks, rfl, e, ek, h64, q⟩ := h
  obtain ⟨u, rfl, ru⟩ := vals1 r
  cases ru
  obtain ⟨z, hd, vs, rel, dd⟩ := dk_of I.hok e
  obtain ⟨ep, hat⟩ := dd.dictAt
  have hkl : vs.length = ks.length := by rw [← rel.length, ← List.length_map (f := (·.1)) (as := kvs), ek, List.length_map]
  have hsz : vs.length ≤ sizeLine := by rw [← rel.length]; exact z
  refine (Calls.call_function_entry kind_sorted plain_sorted entry_sorted (args_sorted1 _) ?_)
  unfold Builtin.«sorted»
  refine (wpAny_bind (m := checkCount "sorted" 1 1 _) (wpAny_pure ?_))
  refine wpAny_bind (PySem.W.kdu_collect (PySem.W.kdl_dict (knd := mixKind X.prog X.w) (kvs := vs) (ep := ep) hd) (I.ok.hd hc) hat hsz fun h' tk acc hk hacc => ?_)
  have hl : acc.toList.length = vs.length := by rw [Array.length_toList]; exact hacc.1
  have hI : IntsAre acc.toList ks := intsAre_of (by rw [hl, hkl]) fun j v ev => by
    obtain ⟨k, x, hx, hkk⟩ := hacc.2 j v (by rw [← Array.getElem?_toList]; exact ev)
    have e1 : (vs.map (·.1))[j]? = some k := by rw [List.getElem?_map, hx]; rfl
    rw [← rel.keys, ek, List.getElem?_map] at e1
    obtain ⟨n, hn, rfl⟩ := Option.map_eq_some_iff.mp e1
    rcases keyIs_shape (show keyIs (Sum.inl n) v = true from hkk) with ⟨i, t, ei, ev2⟩ | ⟨y, t, ei, ev2⟩
    · cases ei
      exact ⟨n, t, hn, ev2⟩
    · cases ei
  refine wpAny_bind (wpAny_newList ?_ (by rw [hl]; exact hsz))
  have hoL : (h'.push { cls := .type "list", data := .seq acc.toList.toArray }).get? h'.objs.size = some (seqObj "list" acc.toList.toArray 0) := Heap.get?_push_size _ rfl
  refine wpAny_bind (wpAny_holding (wpAny_call_entry slot_list_sort ⟨_, hoL, rfl⟩ entry_list_sort (sort_tree hoL hI (by rw [hl, hkl]; exact h64) fun out ns' a1 a2 a3 => ⟨_, rfl, ?_⟩) (args_list_sort _)))
  obtain ⟨ep', hat'⟩ := sortedHeap_at (out := out) hoL
  have I1 : Inv X pins σ H { s with heap := h', toks := tk } := I.kept (t' := tk) hk
  have en := risen_is a2 a3
  subst en
  have I2 := I1.laid (a := h'.objs.size) (o := .lst ((risen ks).map V.int)) (t' := tk) (h' := sortedHeap (h'.push { cls := .type "list", data := .seq acc.toList.toArray }) h'.objs.size acc.toList out)
    (fun b v ev => by
      have hb : b < h'.objs.size := Heap.lt_size ev
      rw [sortedHeap_old (Nat.ne_of_lt hb) (by rw [size_push']; exact Nat.lt_succ_of_lt hb)]
      exact Heap.get?_push_of_some _ ev) (Nat.le_refl _)
    ⟨by rw [List.length_map, (risen_perm ks).length_eq, ← hkl]; exact hsz, out.toList, ep', ints_vals a1, by simpa [seqObj] using hat'⟩
  exact wpAny_pure ⟨_, rfl, .ref _, _, I2, rfl, q _ (I1.hok.fresh (Nat.le_refl _))⟩
end
end My
/-! ### xs != [], whatever xs has -/
namespace My
open PySem PySem.Spec PyProof.Rows L2
section
variable {X : Cx}
theorem op_neNil (hu : X.A.units + 64 < cLine) : OpR X (compareOp .NotEq) (fun x y H Q => ∃ (a b : Addr) (xs : List V), x = .ref a ∧ y = .ref b ∧ SqL X.K H a xs ∧ SqL X.K H b [] ∧ Q (.bl (!xs.isEmpty)) H) := by
  intro pins s σ H x y v u Q I rx ry h
  obtain ⟨a, b, xs, rfl, rfl, ha, hb, q⟩ := h
  cases xs with
  | nil => exact op_neS hu pins s σ H (.ref a) (.ref b) v u Q I rx ry ⟨_, _, .lst ha .nil, .lst hb .nil, rfl, rfl, q⟩
  | cons w r =>
    cases rx
    cases ry
    obtain ⟨its, rv, ⟨o, n, e, c, d0, dd⟩, _⟩ := I.list ha
    obtain ⟨jts, rw', ⟨o2, n2, e2, c2, d2, dd2⟩, _⟩ := I.list hb
    cases rw'
    have hne : (its.toArray.size != (#[] : Array Value).size) = true := by
      cases rv
      simp
    exact PySem.SeqAt.RcNeAt.lists_lengths ⟨_, e, c, n, dd⟩ ⟨_, e2, c2, n2, dd2⟩ hne (Nat.lt_of_le_of_lt (Nat.le_add_right _ _) hu) _ _ _ _ ⟨.bl true, H, I, rfl, q⟩
end
end My

namespace Lw
open PySem PySem.Spec PyProof.Rows L2 My
set_option maxHeartbeats 4000000
def top (i : Nat) : Stmt := PySem.Challenge.pw_skewhouse_k17_whole_what_was_stays.main.body.getD i (.Pass ⟨0, 0, 0, 0⟩)
def clsBody (s : Stmt) : List Stmt := match s with
  | .ClassDef _ _ _ b _ _ _ _ _ _ _ => b
  | _ => []
abbrev s_inside : Stmt := top 2
abbrev s_laid : Stmt := top 3
abbrev s_Shelfinit : Stmt := (clsBody (top 7)).getD 0 (.Pass ⟨0, 0, 0, 0⟩)
abbrev s_Shelfput : Stmt := (clsBody (top 7)).getD 1 (.Pass ⟨0, 0, 0, 0⟩)
abbrev s_Shelfmake : Stmt := (clsBody (top 7)).getD 2 (.Pass ⟨0, 0, 0, 0⟩)
abbrev s_Shelfknown : Stmt := (clsBody (top 7)).getD 8 (.Pass ⟨0, 0, 0, 0⟩)
abbrev s_Shelfrowsof : Stmt := (clsBody (top 7)).getD 9 (.Pass ⟨0, 0, 0, 0⟩)
abbrev s_Shelfthere : Stmt := (clsBody (top 7)).getD 5 (.Pass ⟨0, 0, 0, 0⟩)
abbrev s_Shelfrows : Stmt := (clsBody (top 7)).getD 4 (.Pass ⟨0, 0, 0, 0⟩)
abbrev s_Lcellat : Stmt := top 9
abbrev s_Lwhole : Stmt := top 10
abbrev s_Lstream : Stmt := top 11
abbrev s_Lgreat : Stmt := top 12
abbrev s_Lkey : Stmt := top 13
abbrev s_Lvalue : Stmt := top 14
abbrev s_Ldraft : Stmt := top 15
abbrev s_Lfirst : Stmt := top 16
abbrev s_Lputs : Stmt := top 17
abbrev s_Lends : Stmt := top 18
abbrev s_Lisrows : Stmt := top 19
abbrev s_Llarge : Stmt := top 20
abbrev s_Lrows : Stmt := top 21
abbrev s_Lover : Stmt := top 22
abbrev s_Lgrown : Stmt := top 23
abbrev s_Lmakes : Stmt := top 24
abbrev s_law : Stmt := top 25
set_option genInjectivity false in
set_option genSizeOf false in
structure Tx (K : PySem.W.Frag) (mg : Str → Option Value) where
  f_inside : Addr
  d_inside : FuncData
  F_inside : Fun K "inside" "inside" s_inside f_inside d_inside
  b_inside : Binds K d_inside ["key", "low", "high"] []
  m_inside : mg "inside" = some (.ref f_inside)
  f_laid : Addr
  d_laid : FuncData
  F_laid : Fun K "laid" "laid" s_laid f_laid d_laid
  b_laid : Binds K d_laid ["rows", "drafts", "low", "high"] []
  m_laid : mg "laid" = some (.ref f_laid)
  f_Shelfinit : Addr
  d_Shelfinit : FuncData
  F_Shelfinit : Fun K "__init__" "Shelf.__init__" s_Shelfinit f_Shelfinit d_Shelfinit
  b_Shelfinit : Binds K d_Shelfinit ["self", "rows"] []
  f_Shelfput : Addr
  d_Shelfput : FuncData
  F_Shelfput : Fun K "put" "Shelf.put" s_Shelfput f_Shelfput d_Shelfput
  b_Shelfput : Binds K d_Shelfput ["self", "stamp", "dealing", "drafts"] []
  f_Shelfmake : Addr
  d_Shelfmake : FuncData
  F_Shelfmake : Fun K "make" "Shelf.make" s_Shelfmake f_Shelfmake d_Shelfmake
  b_Shelfmake : Binds K d_Shelfmake ["self", "key", "stamp"] []
  f_Shelfknown : Addr
  d_Shelfknown : FuncData
  F_Shelfknown : Fun K "known" "Shelf.known" s_Shelfknown f_Shelfknown d_Shelfknown
  b_Shelfknown : Binds K d_Shelfknown ["self", "low", "high"] []
  f_Shelfrowsof : Addr
  d_Shelfrowsof : FuncData
  F_Shelfrowsof : Fun K "rows_of" "Shelf.rows_of" s_Shelfrowsof f_Shelfrowsof d_Shelfrowsof
  b_Shelfrowsof : Binds K d_Shelfrowsof ["self", "keys", "stamp"] []
  f_Shelfthere : Addr
  d_Shelfthere : FuncData
  F_Shelfthere : Fun K "there" "Shelf.there" s_Shelfthere f_Shelfthere d_Shelfthere
  b_Shelfthere : Binds K d_Shelfthere ["self", "stamp"] []
  f_Shelfrows : Addr
  d_Shelfrows : FuncData
  F_Shelfrows : Fun K "rows" "Shelf.rows" s_Shelfrows f_Shelfrows d_Shelfrows
  b_Shelfrows : Binds K d_Shelfrows ["self", "low", "high", "stamp"] []
  f_Lcellat : Addr
  d_Lcellat : FuncData
  F_Lcellat : Fun K "_law_cell_at" "_law_cell_at" s_Lcellat f_Lcellat d_Lcellat
  b_Lcellat : Binds K d_Lcellat ["_law_script", "_law_k"] []
  m_Lcellat : mg "_law_cell_at" = some (.ref f_Lcellat)
  f_Lwhole : Addr
  d_Lwhole : FuncData
  F_Lwhole : Fun K "_law_whole" "_law_whole" s_Lwhole f_Lwhole d_Lwhole
  b_Lwhole : Binds K d_Lwhole ["_law_found"] []
  m_Lwhole : mg "_law_whole" = some (.ref f_Lwhole)
  f_Lstream : Addr
  d_Lstream : FuncData
  F_Lstream : Fun K "_law_stream" "_law_stream" s_Lstream f_Lstream d_Lstream
  b_Lstream : Binds K d_Lstream ["_law_cell", "_law_many"] []
  m_Lstream : mg "_law_stream" = some (.ref f_Lstream)
  f_Lgreat : Addr
  d_Lgreat : FuncData
  F_Lgreat : Fun K "_law_great" "_law_great" s_Lgreat f_Lgreat d_Lgreat
  b_Lgreat : Binds K d_Lgreat ["_law_number"] []
  m_Lgreat : mg "_law_great" = some (.ref f_Lgreat)
  f_Lkey : Addr
  d_Lkey : FuncData
  F_Lkey : Fun K "_law_key" "_law_key" s_Lkey f_Lkey d_Lkey
  b_Lkey : Binds K d_Lkey ["_law_number", "_law_base"] []
  m_Lkey : mg "_law_key" = some (.ref f_Lkey)
  f_Lvalue : Addr
  d_Lvalue : FuncData
  F_Lvalue : Fun K "_law_value" "_law_value" s_Lvalue f_Lvalue d_Lvalue
  b_Lvalue : Binds K d_Lvalue ["_law_number"] []
  m_Lvalue : mg "_law_value" = some (.ref f_Lvalue)
  f_Ldraft : Addr
  d_Ldraft : FuncData
  F_Ldraft : Fun K "_law_draft" "_law_draft" s_Ldraft f_Ldraft d_Ldraft
  b_Ldraft : Binds K d_Ldraft ["_law_number"] []
  m_Ldraft : mg "_law_draft" = some (.ref f_Ldraft)
  f_Lfirst : Addr
  d_Lfirst : FuncData
  F_Lfirst : Fun K "_law_first" "_law_first" s_Lfirst f_Lfirst d_Lfirst
  b_Lfirst : Binds K d_Lfirst ["_law_cell", "_law_base"] []
  m_Lfirst : mg "_law_first" = some (.ref f_Lfirst)
  f_Lputs : Addr
  d_Lputs : FuncData
  F_Lputs : Fun K "_law_puts" "_law_puts" s_Lputs f_Lputs d_Lputs
  b_Lputs : Binds K d_Lputs ["_law_cells", "_law_base"] []
  m_Lputs : mg "_law_puts" = some (.ref f_Lputs)
  f_Lends : Addr
  d_Lends : FuncData
  F_Lends : Fun K "_law_ends" "_law_ends" s_Lends f_Lends d_Lends
  b_Lends : Binds K d_Lends ["_law_number", "_law_base"] []
  m_Lends : mg "_law_ends" = some (.ref f_Lends)
  f_Lisrows : Addr
  d_Lisrows : FuncData
  F_Lisrows : Fun K "_law_is_rows" "_law_is_rows" s_Lisrows f_Lisrows d_Lisrows
  b_Lisrows : Binds K d_Lisrows ["_law_found"] []
  m_Lisrows : mg "_law_is_rows" = some (.ref f_Lisrows)
  f_Llarge : Addr
  d_Llarge : FuncData
  F_Llarge : Fun K "_law_large" "_law_large" s_Llarge f_Llarge d_Llarge
  b_Llarge : Binds K d_Llarge ["_law_first_here", "_law_puts_here", "_law_cell"] []
  m_Llarge : mg "_law_large" = some (.ref f_Llarge)
  f_Lrows : Addr
  d_Lrows : FuncData
  F_Lrows : Fun K "_law_rows" "_law_rows" s_Lrows f_Lrows d_Lrows
  b_Lrows : Binds K d_Lrows ["_law_held"] []
  m_Lrows : mg "_law_rows" = some (.ref f_Lrows)
  f_Lover : Addr
  d_Lover : FuncData
  F_Lover : Fun K "_law_over" "_law_over" s_Lover f_Lover d_Lover
  b_Lover : Binds K d_Lover ["_law_rows_here", "_law_drafts"] []
  m_Lover : mg "_law_over" = some (.ref f_Lover)
  f_Lgrown : Addr
  d_Lgrown : FuncData
  F_Lgrown : Fun K "_law_grown" "_law_grown" s_Lgrown f_Lgrown d_Lgrown
  b_Lgrown : Binds K d_Lgrown ["_law_shelf", "_law_first_here", "_law_puts_here"] []
  m_Lgrown : mg "_law_grown" = some (.ref f_Lgrown)
  f_Lmakes : Addr
  d_Lmakes : FuncData
  F_Lmakes : Fun K "_law_makes" "_law_makes" s_Lmakes f_Lmakes d_Lmakes
  b_Lmakes : Binds K d_Lmakes ["_law_shelf", "_law_rows_here", "_law_stamp", "_law_dealing", "_law_drafts"] []
  m_Lmakes : mg "_law_makes" = some (.ref f_Lmakes)
  f_law : Addr
  d_law : FuncData
  F_law : Fun K "law" "law" s_law f_law d_law
  b_law : Binds K d_law ["_law_script"] []
  m_law : mg "law" = some (.ref f_law)
  c_Shelf : Addr
  m_Shelf : mg "Shelf" = some (.ref c_Shelf)
  mk_Shelf : Mk K c_Shelf f_Shelfinit
  cl_Shelf : Cls K c_Shelf
  na_Shelf_makes : NoAttr K c_Shelf "makes"
  me_Shelfput : Meth K c_Shelf "put" f_Shelfput
  me_Shelfmake : Meth K c_Shelf "make" f_Shelfmake
  me_Shelfknown : Meth K c_Shelf "known" f_Shelfknown
  me_Shelfrowsof : Meth K c_Shelf "rows_of" f_Shelfrowsof
  me_Shelfthere : Meth K c_Shelf "there" f_Shelfthere
  me_Shelfrows : Meth K c_Shelf "rows" f_Shelfrows
  t_START : Tok
  m_START : mg "START" = some (.int 0 t_START)
  a_NO_MAKE : Addr
  m_NO_MAKE : mg "NO_MAKE" = some (.ref a_NO_MAKE)
  q_NO_MAKE : ∀ H : Hp, SqT K H a_NO_MAKE [V.int 0, V.int 0, V.non]
  z_bool : mg "bool" = none
  z_dict : mg "dict" = none
  z_int : mg "int" = none
  z_isinstance : mg "isinstance" = none
  z_len : mg "len" = none
  z_list : mg "list" = none
  z_range : mg "range" = none
  z_reversed : mg "reversed" = none
  z_sorted : mg "sorted" = none
  z_tuple : mg "tuple" = none
theorem sc_inside : FnScope ["key", "low", "high"] ["key", "low", "high"] (defScope s_inside) := ⟨rfl, rfl, rfl, by decide +kernel, rfl, by decide +kernel, by decide +kernel⟩
theorem sc_laid : FnScope ["rows", "drafts", "low", "high", "values", "key", "value"] ["rows", "drafts", "low", "high"] (defScope s_laid) := ⟨rfl, rfl, rfl, by decide +kernel, rfl, by decide +kernel, by decide +kernel⟩
theorem sc_Shelfinit : FnScope ["self", "rows", "key", "value"] ["self", "rows"] (defScope s_Shelfinit) := ⟨rfl, rfl, rfl, by decide +kernel, rfl, by decide +kernel, by decide +kernel⟩
theorem sc_Shelfput : FnScope ["self", "stamp", "dealing", "drafts", "key", "value"] ["self", "stamp", "dealing", "drafts"] (defScope s_Shelfput) := ⟨rfl, rfl, rfl, by decide +kernel, rfl, by decide +kernel, by decide +kernel⟩
theorem sc_Shelfmake : FnScope ["self", "key", "stamp", "found"] ["self", "key", "stamp"] (defScope s_Shelfmake) := ⟨rfl, rfl, rfl, by decide +kernel, rfl, by decide +kernel, by decide +kernel⟩
theorem sc_Shelfknown : FnScope ["self", "low", "high"] ["self", "low", "high"] (defScope s_Shelfknown) := ⟨rfl, rfl, rfl, by decide +kernel, rfl, by decide +kernel, by decide +kernel⟩
theorem sc_Shelfrowsof : FnScope ["self", "keys", "stamp", "found"] ["self", "keys", "stamp"] (defScope s_Shelfrowsof) := ⟨rfl, rfl, rfl, by decide +kernel, rfl, by decide +kernel, by decide +kernel⟩
theorem sc_Shelfthere : FnScope ["self", "stamp"] ["self", "stamp"] (defScope s_Shelfthere) := ⟨rfl, rfl, rfl, by decide +kernel, rfl, by decide +kernel, by decide +kernel⟩
theorem sc_Shelfrows : FnScope ["self", "low", "high", "stamp"] ["self", "low", "high", "stamp"] (defScope s_Shelfrows) := ⟨rfl, rfl, rfl, by decide +kernel, rfl, by decide +kernel, by decide +kernel⟩
theorem sc_Lcellat : FnScope ["_law_script", "_law_k"] ["_law_script", "_law_k"] (defScope s_Lcellat) := ⟨rfl, rfl, rfl, by decide +kernel, rfl, by decide +kernel, by decide +kernel⟩
theorem sc_Lwhole : FnScope ["_law_found"] ["_law_found"] (defScope s_Lwhole) := ⟨rfl, rfl, rfl, by decide +kernel, rfl, by decide +kernel, by decide +kernel⟩
theorem sc_Lstream : FnScope ["_law_cell", "_law_many", "_law_found", "_law_number", "_law_k"] ["_law_cell", "_law_many"] (defScope s_Lstream) := ⟨rfl, rfl, rfl, by decide +kernel, rfl, by decide +kernel, by decide +kernel⟩
theorem sc_Lgreat : FnScope ["_law_number"] ["_law_number"] (defScope s_Lgreat) := ⟨rfl, rfl, rfl, by decide +kernel, rfl, by decide +kernel, by decide +kernel⟩
theorem sc_Lkey : FnScope ["_law_number", "_law_base"] ["_law_number", "_law_base"] (defScope s_Lkey) := ⟨rfl, rfl, rfl, by decide +kernel, rfl, by decide +kernel, by decide +kernel⟩
theorem sc_Lvalue : FnScope ["_law_number"] ["_law_number"] (defScope s_Lvalue) := ⟨rfl, rfl, rfl, by decide +kernel, rfl, by decide +kernel, by decide +kernel⟩
theorem sc_Ldraft : FnScope ["_law_number"] ["_law_number"] (defScope s_Ldraft) := ⟨rfl, rfl, rfl, by decide +kernel, rfl, by decide +kernel, by decide +kernel⟩
theorem sc_Lfirst : FnScope ["_law_cell", "_law_base", "_law_xs", "_law_rows_here", "_law_j"] ["_law_cell", "_law_base"] (defScope s_Lfirst) := ⟨rfl, rfl, rfl, by decide +kernel, rfl, by decide +kernel, by decide +kernel⟩
theorem sc_Lputs : FnScope ["_law_cells", "_law_base", "_law_puts_here", "_law_stamp", "_law_cell", "_law_xs", "_law_drafts", "_law_j"] ["_law_cells", "_law_base"] (defScope s_Lputs) := ⟨rfl, rfl, rfl, by decide +kernel, rfl, by decide +kernel, by decide +kernel⟩
theorem sc_Lends : FnScope ["_law_number", "_law_base", "_law_way", "_law_key_here", "_law_low"] ["_law_number", "_law_base"] (defScope s_Lends) := ⟨rfl, rfl, rfl, by decide +kernel, rfl, by decide +kernel, by decide +kernel⟩
theorem sc_Lisrows : FnScope ["_law_found", "_law_row"] ["_law_found"] (defScope s_Lisrows) := ⟨rfl, rfl, rfl, by decide +kernel, rfl, by decide +kernel, by decide +kernel⟩
theorem sc_Llarge : FnScope ["_law_first_here", "_law_puts_here", "_law_cell", "_law_rows_here", "_law_k", "_law_some", "_law_at", "_law_stamp", "_law_dealing", "_law_drafts", "_law_wide"] ["_law_first_here", "_law_puts_here", "_law_cell"] (defScope s_Llarge) := ⟨rfl, rfl, rfl, by decide +kernel, rfl, by decide +kernel, by decide +kernel⟩
theorem sc_Lrows : FnScope ["_law_held"] ["_law_held"] (defScope s_Lrows) := ⟨rfl, rfl, rfl, by decide +kernel, rfl, by decide +kernel, by decide +kernel⟩
theorem sc_Lover : FnScope ["_law_rows_here", "_law_drafts", "_law_held"] ["_law_rows_here", "_law_drafts"] (defScope s_Lover) := ⟨rfl, rfl, rfl, by decide +kernel, rfl, by decide +kernel, by decide +kernel⟩
theorem sc_Lgrown : FnScope ["_law_shelf", "_law_first_here", "_law_puts_here", "_law_rows_here", "_law_states", "_law_stamp", "_law_dealing", "_law_drafts", "_law_found"] ["_law_shelf", "_law_first_here", "_law_puts_here"] (defScope s_Lgrown) := ⟨rfl, rfl, rfl, by decide +kernel, rfl, by decide +kernel, by decide +kernel⟩
theorem sc_Lmakes : FnScope ["_law_shelf", "_law_rows_here", "_law_stamp", "_law_dealing", "_law_drafts", "_law_key_here", "_law_value_here", "_law_found"] ["_law_shelf", "_law_rows_here", "_law_stamp", "_law_dealing", "_law_drafts"] (defScope s_Lmakes) := ⟨rfl, rfl, rfl, by decide +kernel, rfl, by decide +kernel, by decide +kernel⟩
theorem sc_law : FnScope ["_law_script", "_law_base", "_law_first_here", "_law_puts_here", "_law_shelf", "_law_states", "_law_k", "_law_stamp", "_law_dealing", "_law_drafts", "_law_before", "_law_rows_here", "_law_low", "_law_high", "_law_part"] ["_law_script"] (defScope s_law) := ⟨rfl, rfl, rfl, by decide +kernel, rfl, by decide +kernel, by decide +kernel⟩
/-! ### the shelf -/
abbrev Hold := Int × Int × Option Int
def ov : Option Int → V
  | some v => .int v
  | none => .non
inductive Rws (H : Hp) : List V → List Hold → Prop where
  | nil : Rws H [] []
  | cons {t : Addr} {a b : Int} {o : Option Int} {vs : List V} {rs : List Hold} (h : H t = some (.tup [.int a, .int b, ov o])) (r : Rws H vs rs) : Rws H (.ref t :: vs) ((a, b, o) :: rs)
inductive Ent (H : Hp) : List (Key × V) → List (Int × List Hold) → Prop where
  | nil : Ent H [] []
  | cons {l : Addr} {k : Int} {vs : List V} {rs : List Hold} {kvs : List (Key × V)} {m : List (Int × List Hold)} (h : H l = some (.lst vs)) (q : Rws H vs rs) (r : Ent H kvs m) : Ent H ((Sum.inl k, .ref l) :: kvs) ((k, rs) :: m)
def hk (m : List (Int × List Hold)) (k : Int) : List Hold := ((m.find? fun q => decide (q.1 = k)).map (·.2)).getD []
/-- a make more -/
def addH (m : List (Int × List Hold)) (k : Int) (r : Hold) : List (Int × List Hold) := if (m.any fun q => decide (q.1 = k)) = true then m.map (fun q => if q.1 = k then (q.1, q.2 ++ [r]) else q) else m ++ [(k, [r])]
/-- the shelf at a: the dict at d, what it has -/
structure Hs (K : PySem.W.Frag) (C : Addr) (H : Hp) (a dx d : Addr) (kvs : List (Key × V)) (m : List (Int × List Hold)) : Prop where
  obj : H a = some (.ins C dx [("makes", .ref d)])
  dict : H d = some (.dK kvs)
  ent : Ent H kvs m
  few : m.length < 1000
  short : ∀ q ∈ m, q.2.length < 1000
  full : ∀ q ∈ m, q.2 ≠ []
  keys : (m.map (·.1)).Nodup
  vals : (kvs.map (·.2)).Nodup
theorem Rws.same {H H' : Hp} {vs : List V} {rs : List Hold} (s : ∀ t xs, H t = some (.tup xs) → H' t = some (.tup xs)) (r : Rws H vs rs) : Rws H' vs rs := by
  induction r with
  | nil => exact .nil
  | cons h _ ih => exact .cons (s _ _ h) ih
theorem Ent.same {H H' : Hp} {kvs : List (Key × V)} {m : List (Int × List Hold)} (s : Same H H') (r : Ent H kvs m) : Ent H' kvs m := by
  induction r with
  | nil => exact .nil
  | cons h q _ ih => exact .cons (s _ _ h) (q.same fun _ _ e => s _ _ e) ih
theorem Hs.same {K : PySem.W.Frag} {C : Addr} {H H' : Hp} {a dx d : Addr} {kvs : List (Key × V)} {m : List (Int × List Hold)} (h : Hs K C H a dx d kvs m) (s : Same H H') : Hs K C H' a dx d kvs m :=
  ⟨s _ _ h.obj, s _ _ h.dict, h.ent.same s, h.few, h.short, h.full, h.keys, h.vals⟩
theorem Ent.keys {H : Hp} {kvs : List (Key × V)} {m : List (Int × List Hold)} (r : Ent H kvs m) : kvs.map (·.1) = (m.map (·.1)).map Sum.inl := by
  induction r with
  | nil => rfl
  | cons _ _ _ ih => simp only [List.map_cons, ih]
theorem Ent.len {H : Hp} {kvs : List (Key × V)} {m : List (Int × List Hold)} (r : Ent H kvs m) : kvs.length = m.length := by
  induction r with
  | nil => rfl
  | cons _ _ _ ih => simp only [List.length_cons, ih]
theorem Rws.len {H : Hp} {vs : List V} {rs : List Hold} (r : Rws H vs rs) : vs.length = rs.length := by
  induction r with
  | nil => rfl
  | cons _ _ ih => simp only [List.length_cons, ih]
theorem Rws.get {H : Hp} {vs : List V} {rs : List Hold} (r : Rws H vs rs) {i : Nat} (hi : i < rs.length) : ∃ t a b o, vs[i]? = some (.ref t) ∧ rs[i]? = some (a, b, o) ∧ H t = some (.tup [.int a, .int b, ov o]) := by
  induction r generalizing i with
  | nil => simp at hi
  | @cons t a b o vs rs h _ ih =>
    cases i with
    | zero => exact ⟨t, a, b, o, rfl, rfl, h⟩
    | succ i =>
      obtain ⟨t', a', b', o', h1, h2, h3⟩ := ih (i := i) (by simpa using hi)
      exact ⟨t', a', b', o', by simpa using h1, by simpa using h2, h3⟩
/-- what stands under a key -/
theorem Ent.at_ {H : Hp} {kvs : List (Key × V)} {m : List (Int × List Hold)} (r : Ent H kvs m) {k : Int} (hk' : k ∈ m.map (·.1)) : ∃ l vs, valV kvs (Sum.inl k : Key) = some (.ref l) ∧ H l = some (.lst vs) ∧ Rws H vs (hk m k) := by
  induction r with
  | nil => simp at hk'
  | @cons l k' vs rs kvs m h q _ ih =>
    by_cases e : k' = k
    · subst e
      exact ⟨l, vs, valV_pos rfl, h, by simpa [hk, List.find?_cons] using q⟩
    · have hm : k ∈ m.map (·.1) := by
        rcases List.mem_cons.mp hk' with z | z
        · exact absurd z.symm e
        · exact z
      obtain ⟨l2, vs2, h1, h2, h3⟩ := ih hm
      refine ⟨l2, vs2, ?_, h2, ?_⟩
      · rw [valV_neg (fun z => e (Sum.inl.inj z))]; exact h1
      · simpa [hk, List.find?_cons, e] using h3
theorem Ent.none_at {H : Hp} {kvs : List (Key × V)} {m : List (Int × List Hold)} (r : Ent H kvs m) {k : Int} (hk' : k ∉ m.map (·.1)) : valV kvs (Sum.inl k : Key) = none := by
  induction r with
  | nil => rfl
  | @cons l k' vs rs kvs m h q _ ih =>
    simp only [List.map_cons, List.mem_cons, not_or] at hk'
    rw [valV_neg (fun z => hk'.1 (Sum.inl.inj z).symm)]
    exact ih hk'.2
theorem Ent.val_mem {H : Hp} {kvs : List (Key × V)} {m : List (Int × List Hold)} (r : Ent H kvs m) {k : Key} {v : V} (h : valV kvs k = some v) : v ∈ kvs.map (·.2) := by
  obtain ⟨kv, hm, hv⟩ := mem_valV h
  exact hv ▸ List.mem_map_of_mem hm
/-- a row more in the list under k -/
theorem Ent.push {H H' : Hp} {kvs : List (Key × V)} {m : List (Int × List Hold)} {k a b : Int} {o : Option Int} {l t : Addr} {vs : List V} (r : Ent H kvs m) (nd : (kvs.map (·.2)).Nodup) (nk : (m.map (·.1)).Nodup) (hv : valV kvs (Sum.inl k : Key) = some (.ref l)) (hl : H l = some (.lst vs))
    (hl' : H' l = some (.lst (vs ++ [.ref t]))) (ht : H' t = some (.tup [.int a, .int b, ov o])) (keep : ∀ c u, c ≠ l → H c = some u → H' c = some u) : Ent H' kvs (m.map fun q => if q.1 = k then (q.1, q.2 ++ [(a, b, o)]) else q) := by
  have tups : ∀ t xs, H t = some (.tup xs) → H' t = some (.tup xs) := fun t xs e => keep t _ (fun z => by rw [z, hl] at e; cases e) e
  induction r with
  | nil => cases hv
  | @cons l0 k0 vs0 rs0 kvs0 m0 h q r0 ih =>
    simp only [List.map_cons, List.nodup_cons] at nd nk
    by_cases e : k0 = k
    · subst e
      rw [valV_pos rfl] at hv
      cases hv
      rw [hl] at h
      cases h
      have hm : m0.map (fun q => if q.1 = k0 then (q.1, q.2 ++ [(a, b, o)]) else q) = m0 := by
        refine (List.map_congr_left fun q hq => ?_).trans (List.map_id _)
        rw [if_neg (fun (z : q.1 = k0) => nk.1 (z ▸ List.mem_map_of_mem hq))]
        rfl
      rw [List.map_cons, if_pos rfl, hm]
      refine .cons hl' ?_ ?_
      · have go : ∀ {us : List V} {ss : List Hold}, Rws H us ss → Rws H' (us ++ [.ref t]) (ss ++ [(a, b, o)]) := fun x => by
          induction x with
          | nil => exact .cons ht .nil
          | cons h1 _ ih1 => exact .cons (tups _ _ h1) ih1
        exact go q
      · have go : ∀ {kk : List (Key × V)} {mm : List (Int × List Hold)}, Ent H kk mm → V.ref l ∉ kk.map (·.2) → Ent H' kk mm := fun x => by
          induction x with
          | nil => intro _; exact .nil
          | cons h1 q1 _ ih1 =>
            intro nm
            simp only [List.map_cons, List.mem_cons, not_or] at nm
            exact .cons (keep _ _ (fun z => nm.1 (z ▸ rfl)) h1) (q1.same tups) (ih1 nm.2)
        exact go r0 nd.1
    · rw [valV_neg (fun z => e (Sum.inl.inj z))] at hv
      have hmem : V.ref l ∈ kvs0.map (·.2) := r0.val_mem hv
      have ne : l0 ≠ l := fun z => nd.1 (z ▸ hmem)
      rw [List.map_cons, if_neg e]
      exact .cons (keep _ _ ne h) (q.same tups) (ih nd.2 nk.2 hv)
theorem Ent.snoc {H : Hp} {kvs : List (Key × V)} {m : List (Int × List Hold)} {k : Int} {l : Addr} {vs : List V} {rs : List Hold} (r : Ent H kvs m) (hl : H l = some (.lst vs)) (q : Rws H vs rs) : Ent H (kvs ++ [(Sum.inl k, .ref l)]) (m ++ [(k, rs)]) := by
  induction r with
  | nil => exact .cons hl q .nil
  | cons h1 q1 _ ih => exact .cons h1 q1 ih
theorem Ent.tracked {H : Hp} {kvs : List (Key × V)} {m : List (Int × List Hold)} (r : Ent H kvs m) {l : Addr} (h : V.ref l ∈ kvs.map (·.2)) : ∃ vs, H l = some (.lst vs) := by
  induction r with
  | nil => simp at h
  | cons h1 _ _ ih =>
    simp only [List.map_cons, List.mem_cons] at h
    rcases h with z | z
    · cases z; exact ⟨_, h1⟩
    · exact ih z
theorem hk_short {m : List (Int × List Hold)} (h : ∀ q ∈ m, q.2.length < 1000) (k : Int) : (hk m k).length < 1000 := by
  unfold hk
  cases e : m.find? fun q => decide (q.1 = k) with
  | none => exact Nat.zero_lt_succ _
  | some q => exact h q (List.mem_of_find?_eq_some e)
theorem addH_old {m : List (Int × List Hold)} {k : Int} {r : Hold} (h : k ∈ m.map (·.1)) : addH m k r = m.map fun q => if q.1 = k then (q.1, q.2 ++ [r]) else q := by
  unfold addH
  rw [if_pos]
  obtain ⟨q, hq, rfl⟩ := List.mem_map.mp h
  exact List.any_eq_true.mpr ⟨q, hq, decide_eq_true rfl⟩
theorem addH_new {m : List (Int × List Hold)} {k : Int} {r : Hold} (h : k ∉ m.map (·.1)) : addH m k r = m ++ [(k, [r])] := by
  unfold addH
  rw [if_neg]
  intro z
  obtain ⟨q, hq, e⟩ := List.any_eq_true.mp z
  exact h (of_decide_eq_true e ▸ List.mem_map_of_mem hq)
theorem keys_upd {m : List (Int × List Hold)} {k : Int} {r : Hold} : (m.map fun q => if q.1 = k then (q.1, q.2 ++ [r]) else q).map (·.1) = m.map (·.1) := by
  rw [List.map_map]
  refine List.map_congr_left fun q _ => ?_
  show (if q.1 = k then (q.1, q.2 ++ [r]) else q).1 = q.1
  split <;> rfl
abbrev Dr := List (Int × Option Int)
def dkv (dr : Dr) : List (Key × V) := dr.map fun q => (Sum.inl q.1, ov q.2)
def putAll (m : List (Int × List Hold)) (st dl : Int) (dr : Dr) : List (Int × List Hold) := dr.foldl (fun m q => addH m q.1 (st, dl, q.2)) m
def tupM (q : Hold) : List V := [.int q.1, .int q.2.1, ov q.2.2]
def noM : Hold := (0, 0, none)
def makeAt (rs : List Hold) (s : Int) : Hold := (rs.reverse.find? fun q => decide (q.1 ≤ s)).getD noM
def lastM (rs : List Hold) : Hold := rs.getLast?.getD noM
def Left2 (H H' : Hp) (d r : Addr) (kvs : List (Key × V)) : Prop := ∀ b o, H b = some o → b ≠ d → b ≠ r → V.ref b ∉ kvs.map (·.2) → H' b = some o
def Grew (H : Hp) (kvs kvs' : List (Key × V)) : Prop := ∀ l, V.ref l ∈ kvs'.map (·.2) → V.ref l ∈ kvs.map (·.2) ∨ H l = none
theorem addH_len {m : List (Int × List Hold)} {k : Int} {r : Hold} : (addH m k r).length ≤ m.length + 1 := by
  by_cases h : k ∈ m.map (·.1)
  · rw [addH_old h, List.length_map]; omega
  · rw [addH_new h]; simp
theorem addH_short {m : List (Int × List Hold)} {k : Int} {r : Hold} {i : Nat} (hq : ∀ q ∈ m, q.2.length ≤ i) : ∀ q ∈ addH m k r, q.2.length ≤ i + 1 := by
  intro q hm
  by_cases h : k ∈ m.map (·.1)
  · rw [addH_old h] at hm
    obtain ⟨p, hp, rfl⟩ := List.mem_map.mp hm
    have := hq p hp
    split
    · rw [List.length_append]; simp; omega
    · omega
  · rw [addH_new h] at hm
    rcases List.mem_append.mp hm with z | z
    · have := hq q z; omega
    · rw [List.mem_singleton.mp z]; simp
theorem Ent.but2 {H H' : Hp} {kvs : List (Key × V)} {m : List (Int × List Hold)} (r : Ent H kvs m) (keep : ∀ b o, H b = some o → ((∃ xs, o = .lst xs) ∨ ∃ xs, o = .tup xs) → H' b = some o) : Ent H' kvs m := by
  induction r with
  | nil => exact .nil
  | cons h q _ ih => exact .cons (keep _ _ h (.inl ⟨_, rfl⟩)) (q.same fun t xs e => keep _ _ e (.inr ⟨_, rfl⟩)) ih
theorem addH_full {m : List (Int × List Hold)} {k : Int} {r : Hold} (hq : ∀ q ∈ m, q.2 ≠ []) : ∀ q ∈ addH m k r, q.2 ≠ [] := by
  intro q hm
  by_cases h : k ∈ m.map (·.1)
  · rw [addH_old h] at hm
    obtain ⟨p, hp, rfl⟩ := List.mem_map.mp hm
    split
    · simp
    · exact hq p hp
  · rw [addH_new h] at hm
    rcases List.mem_append.mp hm with z | z
    · exact hq q z
    · rw [List.mem_singleton.mp z]; simp
theorem addH_keys {m : List (Int × List Hold)} {k : Int} {r : Hold} (nd : (m.map (·.1)).Nodup) : ((addH m k r).map (·.1)).Nodup := by
  by_cases h : k ∈ m.map (·.1)
  · rw [addH_old h, keys_upd]; exact nd
  · rw [addH_new h, List.map_append]
    refine List.nodup_append.mpr ⟨nd, by simp, fun x hx y hy z => h ?_⟩
    have e : y = k := by simpa using hy
    rw [← e, ← z]
    exact hx
theorem hk_full {m : List (Int × List Hold)} {k : Int} (h : ∀ q ∈ m, q.2 ≠ []) (hm : k ∈ m.map (·.1)) : hk m k ≠ [] := by
  obtain ⟨q, hq, e⟩ := List.mem_map.mp hm
  cases f : m.find? fun q => decide (q.1 = k) with
  | none => exact absurd (decide_eq_true e) (List.find?_eq_none.mp f q hq)
  | some p => unfold hk; rw [f]; exact h p (List.mem_of_find?_eq_some f)
theorem same_none {H H' : Hp} (s : Same H H') {l : Addr} (h : H' l = none) : H l = none := by
  cases e : H l with
  | none => rfl
  | some o => rw [s _ _ e] at h; cases h
theorem putK_new {kvs : List (Key × V)} {k : Key} {l : Addr} (h : valV kvs k = none) : putK kvs k (.ref l) = kvs ++ [(k, .ref l)] := by
  unfold putK
  rw [if_neg]
  rw [valV_any, h]
  exact Bool.false_ne_true
theorem Hs.snoc {K : PySem.W.Frag} {C : Addr} {H H4 : Hp} {a dx d l t : Addr} {kvs : List (Key × V)} {m : List (Int × List Hold)} {k x y : Int} {o : Option Int} (hs : Hs K C H a dx d kvs m) (nm : k ∉ m.map (·.1)) (hl : H l = none)
    (h1 : H4 d = some (.dK (putK kvs (Sum.inl k : Key) (.ref l)))) (h2 : H4 l = some (.lst [.ref t])) (h3 : H4 t = some (.tup [.int x, .int y, ov o])) (keep : ∀ b u, b ≠ d → H b = some u → H4 b = some u) (few : m.length < 999) :
    Hs K C H4 a dx d (kvs ++ [(Sum.inl k, .ref l)]) (addH m k (x, y, o)) := by
  rw [putK_new (hs.ent.none_at nm)] at h1
  have ad : a ≠ d := fun z => by have e := hs.obj; rw [z, hs.dict] at e; cases e
  refine ⟨keep _ _ ad hs.obj, h1, ?_, Nat.lt_of_le_of_lt addH_len (by omega), ?_, addH_full hs.full, addH_keys hs.keys, ?_⟩
  · rw [addH_new nm]
    exact (hs.ent.but2 fun b u e hb => keep b u (fun z => by rw [z, hs.dict] at e; cases e; rcases hb with ⟨_, z⟩ | ⟨_, z⟩ <;> cases z) e).snoc h2 (.cons h3 .nil)
  · intro q hq
    rw [addH_new nm] at hq
    rcases List.mem_append.mp hq with z | z
    · exact hs.short q z
    · rw [List.mem_singleton.mp z]; show 1 < 1000; decide
  · rw [List.map_append]
    refine List.nodup_append.mpr ⟨hs.vals, by simp, fun v hv u hu e => ?_⟩
    have e1 : u = .ref l := by simpa using hu
    rw [e, e1] at hv
    obtain ⟨us, e2⟩ := hs.ent.tracked hv
    rw [hl] at e2
    cases e2
theorem Hs.push {K : PySem.W.Frag} {C : Addr} {H H4 : Hp} {a dx d l t : Addr} {kvs : List (Key × V)} {m : List (Int × List Hold)} {k x y : Int} {o : Option Int} {us : List V} (hs : Hs K C H a dx d kvs m) (hm : k ∈ m.map (·.1)) (hv : valV kvs (Sum.inl k : Key) = some (.ref l)) (hl : H l = some (.lst us))
    (h2 : H4 l = some (.lst (us ++ [.ref t]))) (h3 : H4 t = some (.tup [.int x, .int y, ov o])) (keep : ∀ b u, b ≠ l → H b = some u → H4 b = some u) (b9 : ∀ q ∈ m, q.2.length ≤ 950) :
    Hs K C H4 a dx d kvs (addH m k (x, y, o)) := by
  have al : a ≠ l := fun z => by have e := hs.obj; rw [z, hl] at e; cases e
  have dl : d ≠ l := fun z => by have e := hs.dict; rw [z, hl] at e; cases e
  refine ⟨keep _ _ al hs.obj, keep _ _ dl hs.dict, ?_, ?_, fun q hq => ?_, addH_full hs.full, addH_keys hs.keys, hs.vals⟩
  · rw [addH_old hm]
    exact hs.ent.push hs.vals hs.keys hv hl h2 h3 keep
  · rw [addH_old hm, List.length_map]; exact hs.few
  · have := addH_short b9 q hq
    omega
def spInit (K : PySem.W.Frag) (C : Addr) : Sp := fun vs H Q _ => ∃ (a dx r : Addr) (fs : Dr), vs = [.ref a, .ref r] ∧ H a = some (.ins C dx []) ∧ Rd H r (.dK (dkv fs)) ∧ (fs.map (·.1)).Nodup ∧ fs.length ≤ 100 ∧
  ∀ H' d kvs' ob, Hs K C H' a dx d kvs' (fs.map fun q => (q.1, [(0, 0, q.2)])) → (∀ b o, H b = some o → b ≠ a → b ≠ r → H' b = some o) → (∀ l, V.ref l ∈ kvs'.map (·.2) → H l = none) → H d = none → H' r = some (.frz ob (.dK (dkv fs))) → Q .non H'
def spPut (K : PySem.W.Frag) (C : Addr) : Sp := fun vs H Q _ => ∃ (a dx d r : Addr) (kvs : List (Key × V)) (m : List (Int × List Hold)) (st dl : Int) (dr : Dr), vs = [.ref a, .int st, .int dl, .ref r] ∧ Hs K C H a dx d kvs m ∧ Rd H r (.dK (dkv dr)) ∧ r ≠ d ∧ dr.length ≤ 45 ∧ m.length < 900 ∧ (∀ q ∈ m, q.2.length ≤ 900) ∧
  ∀ H' kvs' ob, Hs K C H' a dx d kvs' (putAll m st dl dr) → Left2 H H' d r kvs → Grew H kvs kvs' → H' r = some (.frz ob (.dK (dkv dr))) → Q .non H'
def spMake (K : PySem.W.Frag) (C : Addr) : Sp := fun vs H Q _ => ∃ (a dx d : Addr) (kvs : List (Key × V)) (m : List (Int × List Hold)) (k s : Int), vs = [.ref a, .int k, .int s] ∧ Hs K C H a dx d kvs m ∧ ∀ t H', Same H H' → SqT K H' t (tupM (makeAt (hk m k) s)) → Q (.ref t) H'
theorem hk_none {m : List (Int × List Hold)} {k : Int} (h : k ∉ m.map (·.1)) : hk m k = [] := by
  have e : m.find? (fun q => decide (q.1 = k)) = none := List.find?_eq_none.mpr fun q hq z => h (of_decide_eq_true z ▸ List.mem_map_of_mem hq)
  unfold hk
  rw [e]
  rfl
/-! ### what the laws of the shelf draw -/
def spCellAt (K : PySem.W.Frag) : Sp := fun vs H Q _ => ∃ (a : Addr) (ns : List Int) (k : Int), vs = [.ref a, .int k] ∧ SqL K H a (ns.map V.int) ∧ 0 ≤ k ∧ ∀ z : Int, Q (.int z) H
def spWhole : Sp := fun vs H Q _ => ∃ z : Int, vs = [.int z] ∧ Q (.bl true) H
def spStream : Sp := fun vs H Q _ => ∃ (c : Int) (n : Nat), vs = [.int c, .int n] ∧ n ≤ 20 ∧ ∀ p (xs : List Int) H', H p = none → Same H H' → H' p = some (.lst (xs.map V.int)) → xs.length = n → (∀ x ∈ xs, 0 ≤ x ∧ x < 2147483647) → Q (.ref p) H'
def spValue : Sp := fun vs H Q _ => ∃ n : Int, vs = [.int n] ∧ 0 ≤ n ∧ n < 2147483647 ∧ ∀ z : Int, Q (.int z) H
def spDraft : Sp := fun vs H Q _ => ∃ n : Int, vs = [.int n] ∧ 0 ≤ n ∧ n < 2147483647 ∧ ∀ o : Option Int, Q (ov o) H
/-- a row more in the dict -/
def putO (fs : Dr) (k : Int) (o : Option Int) : Dr := if k ∈ fs.map (·.1) then fs.map (fun q => if q.1 = k then (q.1, o) else q) else fs ++ [(k, o)]
theorem putO_len (fs : Dr) (k : Int) (o : Option Int) : (putO fs k o).length ≤ fs.length + 1 := by
  unfold putO
  split
  · rw [List.length_map]; omega
  · simp
theorem putO_nd {fs : Dr} (k : Int) (o : Option Int) (nd : (fs.map (·.1)).Nodup) : ((putO fs k o).map (·.1)).Nodup := by
  unfold putO
  split
  · rw [List.map_map]
    rw [show fs.map ((·.1) ∘ fun q => if q.1 = k then (q.1, o) else q) = fs.map (·.1) from List.map_congr_left fun q _ => by
      show (if q.1 = k then (q.1, o) else q).1 = q.1
      split <;> rfl]
    exact nd
  · rename_i h
    rw [List.map_append]
    refine List.nodup_append.mpr ⟨nd, by simp, fun x hx y hy z => h ?_⟩
    have e : y = k := by simpa using hy
    rw [← e, ← z]
    exact hx
theorem dkv_val (fs : Dr) (k : Int) : valV (dkv fs) (Sum.inl k : Key) = (fs.find? fun q => decide (q.1 = k)).map fun q => ov q.2 := by
  induction fs with
  | nil => rfl
  | cons q r ih =>
    by_cases e : q.1 = k
    · show valV ((Sum.inl q.1, ov q.2) :: dkv r) _ = _
      rw [valV_pos (congrArg Sum.inl e), List.find?_cons, decide_eq_true e]
      rfl
    · show valV ((Sum.inl q.1, ov q.2) :: dkv r) _ = _
      rw [valV_neg (fun z => e (Sum.inl.inj z)), ih, List.find?_cons, decide_eq_false e]
theorem dkv_put (fs : Dr) (k : Int) (o : Option Int) : putK (dkv fs) (Sum.inl k : Key) (ov o) = dkv (putO fs k o) := by
  unfold putK putO
  by_cases h : k ∈ fs.map (·.1)
  · have h2 : ((dkv fs).any fun kv => decide (kv.1 = (Sum.inl k : Key))) = true := by
      obtain ⟨q, hq, e⟩ := List.mem_map.mp h
      exact List.any_eq_true.mpr ⟨(Sum.inl q.1, ov q.2), List.mem_map_of_mem hq, decide_eq_true (congrArg Sum.inl e)⟩
    rw [if_pos h2, if_pos h]
    unfold dkv
    rw [List.map_map, List.map_map]
    refine List.map_congr_left fun q _ => ?_
    by_cases e : q.1 = k
    · simp [e]
    · simp [e]
  · have h2 : ¬ ((dkv fs).any fun kv => decide (kv.1 = (Sum.inl k : Key))) = true := fun z => by
      obtain ⟨x, hx, e⟩ := List.any_eq_true.mp z
      obtain ⟨q, hq, rfl⟩ := List.mem_map.mp hx
      exact h (Sum.inl.inj (of_decide_eq_true e) ▸ List.mem_map_of_mem hq)
    rw [if_neg h2, if_neg h]
    unfold dkv
    rw [List.map_append]
    rfl
abbrev Pt := Int × Int × Dr
/-- the puts of a law: stamp, dealing, drafts -/
inductive Pts (H : Hp) : List V → List Pt → Prop where
  | nil : Pts H [] []
  | cons {t d : Addr} {a b : Int} {dr : Dr} {vs : List V} {ps : List Pt} (h : H t = some (.tup [.int a, .int b, .ref d])) (g : H d = some (.dK (dkv dr))) (r : Pts H vs ps) : Pts H (.ref t :: vs) ((a, b, dr) :: ps)
theorem Pts.keep {H H' : Hp} {vs : List V} {ps : List Pt} (r : Pts H vs ps) (k : ∀ b o, H b = some o → ((∃ xs, o = .tup xs) ∨ ∃ ks, o = .dK ks) → H' b = some o) : Pts H' vs ps := by
  induction r with
  | nil => exact .nil
  | cons h g _ ih => exact .cons (k _ _ h (.inl ⟨_, rfl⟩)) (k _ _ g (.inr ⟨_, rfl⟩)) ih
theorem Pts.same {H H' : Hp} {vs : List V} {ps : List Pt} (r : Pts H vs ps) (s : Same H H') : Pts H' vs ps := r.keep fun _ _ e _ => s _ _ e
theorem Pts.len {H : Hp} {vs : List V} {ps : List Pt} (r : Pts H vs ps) : vs.length = ps.length := by
  induction r with
  | nil => rfl
  | cons _ _ _ ih => simp only [List.length_cons, ih]
theorem Pts.get {H : Hp} {vs : List V} {ps : List Pt} (r : Pts H vs ps) {i : Nat} (hi : i < ps.length) : ∃ t d a b dr, vs[i]? = some (.ref t) ∧ ps[i]? = some (a, b, dr) ∧ H t = some (.tup [.int a, .int b, .ref d]) ∧ H d = some (.dK (dkv dr)) := by
  induction r generalizing i with
  | nil => simp at hi
  | @cons t d a b dr vs ps h g _ ih =>
    cases i with
    | zero => exact ⟨t, d, a, b, dr, rfl, rfl, h, g⟩
    | succ i =>
      obtain ⟨t', d', a', b', dr', h1, h2, h3, h4⟩ := ih (i := i) (by simpa using hi)
      exact ⟨t', d', a', b', dr', by simpa using h1, by simpa using h2, h3, h4⟩
theorem Pts.snoc {H : Hp} {vs : List V} {ps : List Pt} {t d : Addr} {a b : Int} {dr : Dr} (r : Pts H vs ps) (h : H t = some (.tup [.int a, .int b, .ref d])) (g : H d = some (.dK (dkv dr))) : Pts H (vs ++ [.ref t]) (ps ++ [(a, b, dr)]) := by
  induction r with
  | nil => exact .cons h g .nil
  | cons h1 g1 _ ih => exact .cons h1 g1 ih
theorem Pts.take {H : Hp} {vs : List V} {ps : List Pt} (r : Pts H vs ps) : ∀ n : Nat, Pts H (vs.take n) (ps.take n) := by
  induction r with
  | nil => intro n; rw [List.take_nil, List.take_nil]; exact .nil
  | cons h1 g1 _ ih =>
    intro n
    cases n with
    | zero => exact .nil
    | succ n => exact .cons h1 g1 (ih n)
def Good (z : Int) (ps : List Pt) : Prop := ps.Pairwise (fun p q => p.1 ≤ q.1) ∧ ∀ p ∈ ps, 1 ≤ p.1 ∧ p.1 ≤ z ∧ p.2.2.length ≤ 3 ∧ (p.2.2.map (·.1)).Nodup
theorem ints_at {xs : List Int} (hx : ∀ x ∈ xs, 0 ≤ x ∧ x < 2147483647) {j : Int} (h0 : 0 ≤ j) (h1 : j < xs.length) : ∃ z, atI (xs.map V.int) j = some (.int z) ∧ 0 ≤ z ∧ z < 2147483647 := by
  obtain ⟨v, hv⟩ := atI_lt (xs := xs.map V.int) h0 (by rw [List.length_map]; exact h1)
  obtain ⟨z, hz, rfl⟩ := List.mem_map.mp (atI_mem hv)
  exact ⟨z, hv, hx z hz⟩
/-! ### the make that is due -/
def fk (fs : Dr) (k : Int) : Option (Option Int) := (fs.find? fun q => decide (q.1 = k)).map (·.2)
def firstM (fs : Dr) (k : Int) : Hold := match fk fs k with
  | some o => (0, 0, o)
  | none => noM
def stepD (k s : Int) (d : Hold) (p : Pt) : Hold := match fk p.2.2 k with
  | some o => if p.1 ≤ s then (p.1, p.2.1, o) else d
  | none => d
def dueM (fs : Dr) (ps : List Pt) (k s : Int) : Hold := ps.foldl (stepD k s) (firstM fs k)
def m0 (fs : Dr) : List (Int × List Hold) := fs.map fun q => (q.1, [(0, 0, q.2)])
def mOf (fs : Dr) (ps : List Pt) : List (Int × List Hold) := ps.foldl (fun m p => putAll m p.1 p.2.1 p.2.2) (m0 fs)
theorem fk_val (fs : Dr) (k : Int) : valV (dkv fs) (Sum.inl k : Key) = (fk fs k).map ov := by
  rw [dkv_val]
  unfold fk
  cases fs.find? fun q => decide (q.1 = k) <;> rfl
theorem hk_addH (m : List (Int × List Hold)) (j k : Int) (r : Hold) : hk (addH m j r) k = if j = k then hk m k ++ [r] else hk m k := by
  by_cases hj : j ∈ m.map (·.1)
  · rw [addH_old hj]
    induction m with
    | nil => simp at hj
    | cons q m ih =>
      by_cases e : q.1 = k
      · by_cases ej : q.1 = j
        · have : j = k := ej ▸ e
          simp [hk, List.find?_cons, e, this]
        · have : ¬ j = k := fun z => ej (e.trans z.symm)
          have hkj : ¬ k = j := fun z => this z.symm
          simp [hk, List.find?_cons, e, this, hkj]
      · by_cases ej : q.1 = j
        · have hjk : ¬ j = k := fun z => e (ej.trans z)
          rw [if_neg hjk]
          have e2 : (List.find? (fun q => decide (q.1 = k)) (m.map fun q => if q.1 = j then (q.1, q.2 ++ [r]) else q)) = (m.find? fun q => decide (q.1 = k)).map id := by
            clear ih hj
            induction m with
            | nil => rfl
            | cons x m ih2 =>
              by_cases ex : x.1 = k
              · have : ¬ k = j := fun z => hjk z.symm
                simp [List.find?_cons, ex, this]
              · by_cases exj : x.1 = j
                · simp only [List.map_cons, List.find?_cons, if_pos exj, decide_eq_false ex]; exact ih2
                · simp only [List.map_cons, List.find?_cons, if_neg exj, decide_eq_false ex]; exact ih2
          simp only [hk, List.map_cons, List.find?_cons, if_pos ej, decide_eq_false e, e2]
          simp
        · have hm : j ∈ m.map (·.1) := by
            rcases List.mem_cons.mp hj with z | z
            · exact absurd z.symm ej
            · exact z
          have := ih hm
          simp only [hk, List.map_cons, List.find?_cons, if_neg ej, decide_eq_false e] at this ⊢
          exact this
  · rw [addH_new hj]
    by_cases e : j = k
    · subst e
      have h1 : hk m j = [] := hk_none hj
      have : m.find? (fun q => decide (q.1 = j)) = none := List.find?_eq_none.mpr fun q hq z => hj (of_decide_eq_true z ▸ List.mem_map_of_mem hq)
      rw [if_pos rfl, h1]
      simp [hk, List.find?_append, this]
    · rw [if_neg e]
      unfold hk
      rw [List.find?_append]
      cases m.find? fun q => decide (q.1 = k) with
      | none => simp [e]
      | some q => rfl
theorem hk_put (st dl k : Int) : ∀ (dr : Dr) (m : List (Int × List Hold)), (dr.map (·.1)).Nodup → hk (putAll m st dl dr) k = match fk dr k with
    | some o => hk m k ++ [(st, dl, o)]
    | none => hk m k
  | [], _, _ => rfl
  | q :: r, m, nd => by
    have nd' := List.nodup_cons.mp nd
    show hk (putAll (addH m q.1 (st, dl, q.2)) st dl r) k = _
    rw [hk_put st dl k r _ nd'.2, hk_addH]
    by_cases e : q.1 = k
    · have : fk r k = none := by
        unfold fk
        rw [List.find?_eq_none.mpr fun x hx z => nd'.1 (by show q.1 ∈ _; rw [e, ← of_decide_eq_true z]; exact List.mem_map_of_mem hx)]
        rfl
      rw [this, if_pos e]
      simp [fk, List.find?_cons, e]
    · rw [if_neg e]
      simp [fk, List.find?_cons, e]
theorem make_snoc (rs : List Hold) (r : Hold) (s : Int) : makeAt (rs ++ [r]) s = if r.1 ≤ s then r else makeAt rs s := by
  unfold makeAt
  rw [List.reverse_append]
  by_cases e : r.1 ≤ s
  · simp [List.find?_cons, e]
  · simp [List.find?_cons, e]
theorem hk_m0 (k : Int) : ∀ fs : Dr, hk (m0 fs) k = match fk fs k with
    | some o => [(0, 0, o)]
    | none => []
  | [] => rfl
  | q :: r => by
    have ih := hk_m0 k r
    by_cases e : q.1 = k
    · simp [hk, m0, fk, List.find?_cons, e]
    · simp only [hk, m0, fk, List.map_cons, List.find?_cons, decide_eq_false e] at ih ⊢
      exact ih
theorem make_fold (k s : Int) : ∀ (ps : List Pt) (m : List (Int × List Hold)) (d : Hold), (∀ p ∈ ps, (p.2.2.map (·.1)).Nodup) → makeAt (hk m k) s = d → makeAt (hk (ps.foldl (fun m p => putAll m p.1 p.2.1 p.2.2) m) k) s = ps.foldl (stepD k s) d
  | [], _, _, _, h => h
  | p :: r, m, d, nd, h => by
    refine make_fold k s r _ _ (fun q hq => nd q (List.mem_cons_of_mem _ hq)) ?_
    rw [hk_put _ _ _ _ _ (nd p List.mem_cons_self)]
    unfold stepD
    cases fk p.2.2 k with
    | none => exact h
    | some o => show makeAt (hk m k ++ [(p.1, p.2.1, o)]) s = _; rw [make_snoc, h]
theorem make_due {fs : Dr} {ps : List Pt} {k s : Int} (h0 : 0 ≤ s) (nd : ∀ p ∈ ps, (p.2.2.map (·.1)).Nodup) : makeAt (hk (mOf fs ps) k) s = dueM fs ps k s := by
  refine make_fold k s ps _ _ nd ?_
  rw [hk_m0]
  unfold firstM
  cases fk fs k with
  | none => rfl
  | some o => show makeAt ([] ++ [(0, 0, o)]) s = _; rw [make_snoc, if_pos h0]
theorem mOf_snoc (fs : Dr) (ps : List Pt) (p : Pt) : mOf fs (ps ++ [p]) = putAll (mOf fs ps) p.1 p.2.1 p.2.2 := by
  unfold mOf
  rw [List.foldl_append]
  rfl
def datM (q : Hold) : List PyData := [.int q.1, .int q.2.1, match q.2.2 with
  | some v => .int v
  | none => .none]
theorem dts_M {K : PySem.W.Frag} {H : Hp} (q : Hold) : Dts K H (tupM q) (datM q) := by
  obtain ⟨a, b, o⟩ := q
  cases o with
  | none => exact .cons (.int _) (.cons (.int _) (.cons .non .nil))
  | some v => exact .cons (.int _) (.cons (.int _) (.cons (.int _) .nil))
theorem shaped_M (q : Hold) : SeqAt.shaped (.tuple (datM q)) = true := by
  obtain ⟨a, b, o⟩ := q
  cases o <;> rfl
theorem eqv_M (q : Hold) : PyData.eqv (.tuple (datM q)) (.tuple (datM q)) = true := by
  obtain ⟨a, b, o⟩ := q
  exact SeqAt.eqv_refl _ (by cases o <;> rfl)
theorem dget_of {H : Hp} {a : Addr} {kvs : List (Key × V)} {k : Key} {o : Option V} (e : H a = some (.dK kvs)) (h : valV kvs k = o) : DGet H a (kV k) o := h ▸ DGet.k e
theorem same_seqT {K : PySem.W.Frag} {H H' : Hp} {a : Addr} {xs : List V} (e : Same H H') (h : SqT K H a xs) : SqT K H' a xs := h.imp (fun r => r.imp (e _ _) (fun ⟨o, x⟩ => ⟨o, e _ _ x⟩)) id
theorem cut_mid (ns : List Int) : ∃ ms : List Int, cutV (ns.map V.int) (some 2) (some 42) = ms.map V.int ∧ ms.length ≤ 40 := by
  refine ⟨(ns.drop (min 2 ns.length)).take (min 42 ns.length - min 2 ns.length), ?_, ?_⟩
  · unfold cutV
    rw [show (2 : Int) = ((2 : Nat) : Int) from rfl, show (42 : Int) = ((42 : Nat) : Int) from rfl, HT.sIx_nat, HT.sIx_nat, List.length_map, List.map_take, List.map_drop]
  · rw [List.length_take]
    omega
def moreP (m : Int) (p : Pt) : Pt := (p.1, p.2.1 + m, p.2.2)
def spLaw (K : PySem.W.Frag) : Sp := fun vs H Q _ => ∃ (a : Addr) (ns : List Int), vs = [.ref a] ∧ SqL K H a (ns.map V.int) ∧ ns.length ≤ 63 ∧ (∀ m ∈ ns, Builtin.Int.intBits m ≤ 1048576) ∧ ∀ H', Q (.bl true) H'
theorem range_gather {α β : Type} (l : List α) (d : α) (g : α → Option β) : (List.range l.length).filterMap (fun i => g (l.getD i d)) = l.filterMap g := by
  have e : (List.range l.length).map (fun i => l.getD i d) = l := by
    refine List.ext_getElem (by simp) fun i h1 h2 => ?_
    simp only [List.getElem_map, List.getElem_range]
    rw [List.getD_eq_getElem?_getD, List.getElem?_eq_getElem h2]
    rfl
  conv => rhs; rw [← e]
  rw [List.filterMap_map]
  rfl
theorem gather_filter {α : Type} (l : List α) (p : α → Bool) (f : α → V) : l.filterMap (fun x => if p x = true then some (f x) else none) = (l.filter p).map f := by
  induction l with
  | nil => rfl
  | cons x r ih =>
    rw [List.filterMap_cons, List.filter_cons]
    by_cases h : p x = true
    · simp only [h, if_true, List.map_cons, ih]
    · simp only [h, if_false, ih, Bool.false_eq_true]
/-! ### drafts laid -/
theorem nodup_len : ∀ {l U : List Int}, l.Nodup → (∀ x ∈ l, x ∈ U) → l.length ≤ U.length
  | [], U, _, _ => Nat.zero_le _
  | x :: r, U, nd, hs => by
    obtain ⟨n1, n2⟩ := List.nodup_cons.mp nd
    have hx := hs x List.mem_cons_self
    have := nodup_len (l := r) (U := U.erase x) n2 fun y hy => (List.mem_erase_of_ne (show y ≠ x from fun z => n1 (z ▸ hy))).mpr (hs y (List.mem_cons_of_mem _ hy))
    rw [List.length_erase_of_mem hx] at this
    have := List.length_pos_of_mem hx
    show r.length + 1 ≤ U.length
    omega
theorem fk_none {fs : Dr} {k : Int} : fk fs k = none ↔ k ∉ fs.map (·.1) := by
  unfold fk
  rw [Option.map_eq_none_iff, List.find?_eq_none]
  constructor
  · intro h z
    obtain ⟨q, hq, e⟩ := List.mem_map.mp z
    exact h q hq (decide_eq_true e)
  · intro h q hq z
    exact h (of_decide_eq_true z ▸ List.mem_map_of_mem hq)
theorem fk_cons (q : Int × Option Int) (r : Dr) (k : Int) : fk (q :: r) k = if q.1 = k then some q.2 else fk r k := by
  unfold fk
  rw [List.find?_cons]
  by_cases e : q.1 = k
  · simp [e]
  · simp [e]
theorem fk_mem : ∀ {fs : Dr} {k : Int} {o : Option Int}, (fs.map (·.1)).Nodup → (fk fs k = some o ↔ (k, o) ∈ fs)
  | [], k, o, _ => by simp [fk]
  | q :: r, k, o, nd => by
    obtain ⟨n1, n2⟩ := List.nodup_cons.mp nd
    rw [fk_cons]
    by_cases e : q.1 = k
    · rw [if_pos e]
      constructor
      · intro z
        have : q = (k, o) := Prod.ext e (Option.some.inj z)
        rw [this]
        exact List.mem_cons_self
      · intro z
        rcases List.mem_cons.mp z with y | y
        · rw [← y]
        · exact absurd (by show q.1 ∈ _; rw [e]; exact List.mem_map_of_mem (f := (·.1)) y) n1
    · rw [if_neg e, fk_mem n2]
      constructor
      · exact List.mem_cons_of_mem _
      · intro z
        rcases List.mem_cons.mp z with y | y
        · exact absurd (by rw [← y]) e
        · exact y
theorem fk_app (a b : Dr) (k : Int) : fk (a ++ b) k = match fk a k with
    | some o => some o
    | none => fk b k := by
  induction a with
  | nil => rfl
  | cons q r ih =>
    rw [List.cons_append, fk_cons, fk_cons]
    by_cases e : q.1 = k
    · rw [if_pos e, if_pos e]
    · rw [if_neg e, if_neg e]
      exact ih
theorem fk_putO (fs : Dr) (k : Int) (o : Option Int) (j : Int) : fk (putO fs k o) j = if k = j then some o else fk fs j := by
  unfold putO
  by_cases h : k ∈ fs.map (·.1)
  · rw [if_pos h]
    have key : ∀ r : Dr, fk (r.map fun q => if q.1 = k then (q.1, o) else q) j = if k = j then (if k ∈ r.map (·.1) then some o else fk r j) else fk r j := by
      intro r
      induction r with
      | nil => simp [fk]
      | cons q r ih =>
        rw [List.map_cons, fk_cons, fk_cons, ih]
        by_cases e : q.1 = k
        · by_cases e2 : k = j
          · simp [e, e2]
          · simp [e, e2]
        · by_cases e2 : k = j
          · subst e2
            have e5 : ¬ k = q.1 := fun z => e z.symm
            rw [if_neg e, if_pos rfl, if_pos rfl, if_neg e, if_neg e, List.map_cons]
            by_cases e6 : k ∈ r.map (·.1)
            · rw [if_pos e6, if_pos (List.mem_cons_of_mem _ e6)]
            · rw [if_neg e6, if_neg fun z => (List.mem_cons.mp z).elim e5 e6]
          · simp [e, e2]
    rw [key fs]
    by_cases e : k = j
    · rw [if_pos e, if_pos h, if_pos e]
    · rw [if_neg e, if_neg e]
  · rw [if_neg h, fk_app, fk_cons]
    by_cases e : k = j
    · subst e
      rw [fk_none.mpr h, if_pos rfl]
      simp
    · rw [if_neg e]
      cases fk fs j <;> simp [fk, e]
theorem putO_keys {fs : Dr} {k : Int} {o : Option Int} {x : Int} (h : x ∈ (putO fs k o).map (·.1)) : x = k ∨ x ∈ fs.map (·.1) := by
  by_cases e : k = x
  · exact .inl e.symm
  · right
    apply Classical.byContradiction
    intro z
    have : fk (putO fs k o) x = none := by rw [fk_putO, if_neg e]; exact fk_none.mpr z
    exact fk_none.mp this h
def pick (rs ds : Dr) (k : Int) : Option (Option Int) := match fk ds k with
  | some o => some o
  | none => fk rs k
def IsLaid (rs ds : Dr) (lo hi : Int) (L : Dr) : Prop := (L.map (·.1)).Pairwise (· < ·) ∧ ∀ k o, (k, o) ∈ L ↔ (lo ≤ k ∧ k ≤ hi) ∧ pick rs ds k = some o ∧ o ≠ none
theorem dr_one : ∀ {a b : Dr}, (a.map (·.1)).Pairwise (· < ·) → (b.map (·.1)).Pairwise (· < ·) → (∀ x, x ∈ a ↔ x ∈ b) → a = b
  | [], [], _, _, _ => rfl
  | [], y :: r, _, _, h => absurd ((h y).mpr List.mem_cons_self) (by simp)
  | x :: r, [], _, _, h => absurd ((h x).mp List.mem_cons_self) (by simp)
  | x :: r, y :: q, ha, hb, h => by
    obtain ⟨a1, a2⟩ := List.pairwise_cons.mp ha
    obtain ⟨b1, b2⟩ := List.pairwise_cons.mp hb
    have e : x = y := by
      rcases List.mem_cons.mp ((h x).mp List.mem_cons_self) with z | z
      · exact z
      · rcases List.mem_cons.mp ((h y).mpr List.mem_cons_self) with z2 | z2
        · exact z2.symm
        · have t1 : y.1 < x.1 := b1 x.1 (List.mem_map_of_mem (f := (·.1)) z)
          have t2 : x.1 < y.1 := a1 y.1 (List.mem_map_of_mem (f := (·.1)) z2)
          omega
    subst e
    rw [dr_one a2 b2 fun z => ?_]
    constructor
    · intro hz
      rcases List.mem_cons.mp ((h z).mp (List.mem_cons_of_mem _ hz)) with w | w
      · have t1 : x.1 < z.1 := a1 z.1 (List.mem_map_of_mem (f := (·.1)) hz)
        rw [w] at t1
        omega
      · exact w
    · intro hz
      rcases List.mem_cons.mp ((h z).mpr (List.mem_cons_of_mem _ hz)) with w | w
      · have t1 : x.1 < z.1 := b1 z.1 (List.mem_map_of_mem (f := (·.1)) hz)
        rw [w] at t1
        omega
      · exact w
theorem laid_one {rs ds : Dr} {lo hi : Int} {L L' : Dr} (a : IsLaid rs ds lo hi L) (b : IsLaid rs ds lo hi L') : L = L' := dr_one a.1 b.1 fun x => (a.2 x.1 x.2).trans (b.2 x.1 x.2).symm
theorem lt_nd {l : List Int} (h : l.Pairwise (· < ·)) : l.Nodup := h.imp fun h z => by omega
def rowAt (x : Option (Option Int)) (k : Int) : Option (Int × Option Int) := match x with
  | some (some v) => some (k, some v)
  | _ => none
theorem rowAt_some {x : Option (Option Int)} {k : Int} {q : Int × Option Int} : rowAt x k = some q ↔ q.1 = k ∧ x = some q.2 ∧ q.2 ≠ none := by
  obtain ⟨a, b⟩ := q
  cases x with
  | none => simp [rowAt]
  | some y =>
    cases y with
    | none =>
      simp only [rowAt]
      constructor
      · intro z; cases z
      · rintro ⟨h1, h2, h3⟩
        exact absurd (Option.some.inj h2).symm h3
    | some v =>
      simp only [rowAt]
      constructor
      · intro z
        cases z
        exact ⟨rfl, rfl, fun z => by cases z⟩
      · rintro ⟨h1, h2, h3⟩
        rw [← h1, Option.some.inj h2]
theorem sel_sub (g : Int → Option (Option Int)) : ∀ sk : List Int, ((sk.filterMap fun k => rowAt (g k) k).map (·.1)).Sublist sk
  | [] => .slnil
  | k :: r => by
    rw [List.filterMap_cons]
    cases e : rowAt (g k) k with
    | none => exact (sel_sub g r).cons _
    | some q =>
      have := (rowAt_some.mp e).1
      dsimp only
      rw [List.map_cons, this]
      exact (sel_sub g r).cons_cons k
theorem laid_sel {rs ds : Dr} {lo hi : Int} {sk : List Int} (g : Int → Option (Option Int)) (hs : sk.Pairwise (· < ·)) (hg : ∀ k v, (k ∈ sk ∧ g k = some (some v)) ↔ ((lo ≤ k ∧ k ≤ hi) ∧ pick rs ds k = some (some v))) : IsLaid rs ds lo hi (sk.filterMap fun k => rowAt (g k) k) := by
  refine ⟨hs.sublist (sel_sub g sk), fun k o => ?_⟩
  rw [List.mem_filterMap]
  constructor
  · rintro ⟨j, hj, e⟩
    obtain ⟨e1, e2, e3⟩ := rowAt_some.mp e
    dsimp only at e1 e2 e3
    subst e1
    cases o with
    | none => exact absurd rfl e3
    | some v =>
      have := (hg k v).mp ⟨hj, e2⟩
      exact ⟨this.1, this.2, e3⟩
  · rintro ⟨h1, h2, h3⟩
    cases o with
    | none => exact absurd rfl h3
    | some v =>
      obtain ⟨h4, h5⟩ := (hg k v).mpr ⟨h1, h2⟩
      exact ⟨k, h4, rowAt_some.mpr ⟨rfl, h5, h3⟩⟩
theorem risen_lt {ks : List Int} (nd : ks.Nodup) : (risen ks).Pairwise (· < ·) := by
  have h1 := risen_rises ks
  have h2 : (risen ks).Nodup := (risen_perm ks).nodup_iff.mpr nd
  have h3 : (risen ks).Pairwise (fun a b => a ≤ b ∧ a ≠ b) := h1.and h2
  exact h3.imp fun h => by omega
def insB (lo hi : Int) (k : Int) : Bool := decide (lo ≤ k ∧ k ≤ hi)
def layO (lo hi : Int) (m : Dr) (q : Int × Option Int) : Dr := if insB lo hi q.1 = true then putO m q.1 q.2 else m
theorem fk_filter (lo hi : Int) (k : Int) : ∀ rs : Dr, fk (rs.filter fun q => insB lo hi q.1) k = if insB lo hi k = true then fk rs k else none
  | [] => by simp [fk]
  | q :: r => by
    rw [List.filter_cons, fk_cons]
    by_cases e : insB lo hi q.1 = true
    · rw [if_pos e, fk_cons, fk_filter lo hi k r]
      by_cases e2 : q.1 = k
      · subst e2
        rw [if_pos rfl, if_pos e, if_pos rfl]
      · rw [if_neg e2, if_neg e2]
    · rw [if_neg e, fk_filter lo hi k r]
      by_cases e2 : q.1 = k
      · subst e2
        rw [if_neg e, if_neg e]
      · rw [if_neg e2]
theorem fk_lay (lo hi : Int) (k : Int) : ∀ (ds m : Dr), (ds.map (·.1)).Nodup → fk (ds.foldl (layO lo hi) m) k = if insB lo hi k = true then (match fk ds k with
    | some o => some o
    | none => fk m k) else fk m k
  | [], m, _ => by
    simp only [List.foldl_nil]
    split <;> rfl
  | q :: r, m, nd => by
    obtain ⟨n1, n2⟩ := List.nodup_cons.mp nd
    rw [List.foldl_cons, fk_lay lo hi k r _ n2, fk_cons]
    by_cases e : q.1 = k
    · subst e
      have hr : fk r q.1 = none := fk_none.mpr n1
      rw [if_pos rfl, hr]
      by_cases e2 : insB lo hi q.1 = true
      · rw [if_pos e2, if_pos e2]
        unfold layO
        rw [if_pos e2]
        dsimp only
        rw [fk_putO, if_pos rfl]
      · rw [if_neg e2, if_neg e2]
        unfold layO
        rw [if_neg e2]
    · rw [if_neg e]
      have h : fk (layO lo hi m q) k = fk m k := by
        unfold layO
        split
        · rw [fk_putO, if_neg e]
        · rfl
      rw [h]
theorem lay_nd (lo hi : Int) : ∀ (ds m : Dr), (m.map (·.1)).Nodup → ((ds.foldl (layO lo hi) m).map (·.1)).Nodup
  | [], m, nd => nd
  | q :: r, m, nd => by
    rw [List.foldl_cons]
    refine lay_nd lo hi r _ ?_
    unfold layO
    split
    · exact putO_nd _ _ nd
    · exact nd
theorem lay_keys (lo hi : Int) {U : List Int} : ∀ (ds m : Dr), (∀ x ∈ ds.map (·.1), x ∈ U) → (∀ x ∈ m.map (·.1), x ∈ U) → ∀ x ∈ (ds.foldl (layO lo hi) m).map (·.1), x ∈ U
  | [], m, _, hm => hm
  | q :: r, m, hd, hm => by
    rw [List.foldl_cons]
    refine lay_keys lo hi r _ (fun x hx => hd x (List.mem_cons_of_mem _ hx)) fun x hx => ?_
    unfold layO at hx
    split at hx
    · rcases putO_keys hx with z | z
      · rw [z]
        exact hd q.1 List.mem_cons_self
      · exact hm x z
    · exact hm x hx
/-- what lies in the dict at the end of laying -/
theorem fk_laid (rs ds : Dr) (lo hi k : Int) (nd : (ds.map (·.1)).Nodup) : fk (ds.foldl (layO lo hi) (rs.filter fun q => insB lo hi q.1)) k = if insB lo hi k = true then pick rs ds k else none := by
  rw [fk_lay lo hi k ds _ nd, fk_filter]
  unfold pick
  by_cases e : insB lo hi k = true
  · rw [if_pos e, if_pos e, if_pos e]
  · rw [if_neg e, if_neg e, if_neg e]
theorem laid_is {rs ds : Dr} {lo hi : Int} (nr : (rs.map (·.1)).Nodup) (nd : (ds.map (·.1)).Nodup) : IsLaid rs ds lo hi ((risen ((ds.foldl (layO lo hi) (rs.filter fun q => insB lo hi q.1)).map (·.1))).filterMap fun k => rowAt (fk (ds.foldl (layO lo hi) (rs.filter fun q => insB lo hi q.1)) k) k) := by
  have n0 : ((rs.filter fun q => insB lo hi q.1).map (·.1)).Nodup := nr.sublist (List.Sublist.map _ List.filter_sublist)
  refine laid_sel _ (risen_lt (lay_nd lo hi ds _ n0)) fun k v => ?_
  have hk := fk_laid rs ds lo hi k nd
  constructor
  · rintro ⟨h1, h2⟩
    rw [hk] at h2
    by_cases e : insB lo hi k = true
    · rw [if_pos e] at h2
      exact ⟨of_decide_eq_true e, h2⟩
    · rw [if_neg e] at h2
      cases h2
  · rintro ⟨h1, h2⟩
    have e : insB lo hi k = true := decide_eq_true h1
    rw [if_pos e, h2] at hk
    refine ⟨(risen_perm _).mem_iff.mpr ?_, hk⟩
    apply Classical.byContradiction
    intro z
    rw [fk_none.mpr z] at hk
    cases hk
/-! ### the keys of a law, the makers, the touched keys -/
def gr (n : Int) : Int := n ^ Int.toNat 3 * 1009 % (2 * 10 ^ Int.toNat 30 - 1) - (10 ^ Int.toNat 30 - 1)
def univ (b : Int) : List Int := [-3, -2, -1, 0, 1, 2, 3, gr b, gr (b + 1), gr (b + 2)]
def spGreat2 : Sp := fun vs H Q _ => ∃ n : Int, vs = [.int n] ∧ 0 ≤ n ∧ n < 2147483660 ∧ Q (.int (gr n)) H
def spKey2 : Sp := fun vs H Q _ => ∃ n b : Int, vs = [.int n, .int b] ∧ 0 ≤ n ∧ n < 2147483647 ∧ 0 ≤ b ∧ b < 2147483647 ∧ ∀ z : Int, z ∈ univ b → Q (.int z) H
def spFirst2 : Sp := fun vs H Q _ => ∃ c b : Int, vs = [.int c, .int b] ∧ 0 ≤ b ∧ b < 2147483647 ∧ ∀ p (fs : Dr) H', H p = none → Same H H' → H' p = some (.dK (dkv fs)) → (fs.map (·.1)).Nodup → fs.length ≤ 4 → (∀ x ∈ fs.map (·.1), x ∈ univ b) → Q (.ref p) H'
/-- the puts of a law, their dicts perhaps held -/
inductive PtR (H : Hp) : List V → List Pt → List Addr → Prop where
  | nil : PtR H [] [] []
  | cons {t d : Addr} {a b : Int} {dr : Dr} {vs : List V} {ps : List Pt} {Ds : List Addr} (h : H t = some (.tup [.int a, .int b, .ref d])) (g : Rd H d (.dK (dkv dr))) (r : PtR H vs ps Ds) : PtR H (.ref t :: vs) ((a, b, dr) :: ps) (d :: Ds)
theorem PtR.keep {H H' : Hp} {vs : List V} {ps : List Pt} {Ds : List Addr} (r : PtR H vs ps Ds) (k1 : ∀ b xs, H b = some (.tup xs) → H' b = some (.tup xs)) (k2 : ∀ b kvs, b ∈ Ds → Rd H b (.dK kvs) → Rd H' b (.dK kvs)) : PtR H' vs ps Ds := by
  induction r with
  | nil => exact .nil
  | cons h g _ ih => exact .cons (k1 _ _ h) (k2 _ _ List.mem_cons_self g) (ih fun b kvs hb => k2 b kvs (List.mem_cons_of_mem _ hb))
theorem rd_same {H H' : Hp} (s : Same H H') {b : Addr} {u : HO} (r : Rd H b u) : Rd H' b u := r.imp (s _ _) fun ⟨ob, z⟩ => ⟨ob, s _ _ z⟩
theorem PtR.same {H H' : Hp} {vs : List V} {ps : List Pt} {Ds : List Addr} (r : PtR H vs ps Ds) (s : Same H H') : PtR H' vs ps Ds := r.keep (fun _ _ e => s _ _ e) fun _ _ _ e => rd_same s e
theorem PtR.get {H : Hp} {vs : List V} {ps : List Pt} {Ds : List Addr} (r : PtR H vs ps Ds) {i : Nat} (hi : i < ps.length) : ∃ t d a b dr, vs[i]? = some (.ref t) ∧ ps[i]? = some (a, b, dr) ∧ Ds[i]? = some d ∧ H t = some (.tup [.int a, .int b, .ref d]) ∧ Rd H d (.dK (dkv dr)) := by
  induction r generalizing i with
  | nil => simp at hi
  | @cons t d a b dr vs ps Ds h g _ ih =>
    cases i with
    | zero => exact ⟨t, d, a, b, dr, rfl, rfl, rfl, h, g⟩
    | succ i =>
      obtain ⟨t', d', a', b', dr', h1, h2, h3, h4, h5⟩ := ih (i := i) (by simpa using hi)
      exact ⟨t', d', a', b', dr', by simpa using h1, by simpa using h2, by simpa using h3, h4, h5⟩
theorem PtR.rd {H : Hp} {vs : List V} {ps : List Pt} {Ds : List Addr} (r : PtR H vs ps Ds) {b : Addr} (hb : b ∈ Ds) : ∃ dr, Rd H b (.dK (dkv dr)) := by
  induction r with
  | nil => simp at hb
  | @cons t d a b' dr vs ps Ds h g _ ih =>
    rcases List.mem_cons.mp hb with z | z
    · exact ⟨dr, z ▸ g⟩
    · exact ih z
def Gd (b : Int) (ps : List Pt) : Prop := ∀ p ∈ ps, 1 ≤ p.2.1 ∧ p.2.2.length ≤ 3 ∧ (p.2.2.map (·.1)).Nodup ∧ ∀ x ∈ p.2.2.map (·.1), x ∈ univ b
def SmX (Ds : List Addr) (H H' : Hp) : Prop := ∀ b o, b ∉ Ds → H b = some o → H' b = some o
def putsOf (ps : List Pt) (k : Int) : List Hold := ps.filterMap fun p => (fk p.2.2 k).map fun o => (p.1, p.2.1, o)
theorem hk_fold (k : Int) : ∀ (ps : List Pt) (m : List (Int × List Hold)), (∀ p ∈ ps, (p.2.2.map (·.1)).Nodup) → hk (ps.foldl (fun m p => putAll m p.1 p.2.1 p.2.2) m) k = hk m k ++ putsOf ps k
  | [], m, _ => by rw [List.foldl_nil, putsOf, List.filterMap_nil, List.append_nil]
  | p :: r, m, nd => by
    rw [List.foldl_cons, hk_fold k r _ fun q hq => nd q (List.mem_cons_of_mem _ hq), hk_put _ _ _ _ _ (nd p List.mem_cons_self)]
    unfold putsOf
    rw [List.filterMap_cons]
    cases fk p.2.2 k with
    | none => rfl
    | some o => simp
theorem hk_is (fs : Dr) (ps : List Pt) (k : Int) (nd : ∀ p ∈ ps, (p.2.2.map (·.1)).Nodup) : hk (mOf fs ps) k = (match fk fs k with
    | some o => [(0, 0, o)]
    | none => []) ++ putsOf ps k := by
  unfold mOf
  rw [hk_fold k ps _ nd, hk_m0]
theorem int_one : ∀ {a b : List Int}, a.Pairwise (· < ·) → b.Pairwise (· < ·) → (∀ x, x ∈ a ↔ x ∈ b) → a = b
  | [], [], _, _, _ => rfl
  | [], y :: r, _, _, h => absurd ((h y).mpr List.mem_cons_self) (by simp)
  | x :: r, [], _, _, h => absurd ((h x).mp List.mem_cons_self) (by simp)
  | x :: r, y :: q, ha, hb, h => by
    obtain ⟨a1, a2⟩ := List.pairwise_cons.mp ha
    obtain ⟨b1, b2⟩ := List.pairwise_cons.mp hb
    have e : x = y := by
      rcases List.mem_cons.mp ((h x).mp List.mem_cons_self) with z | z
      · exact z
      · rcases List.mem_cons.mp ((h y).mpr List.mem_cons_self) with z2 | z2
        · exact z2.symm
        · have t1 := b1 x z
          have t2 := a1 y z2
          omega
    subst e
    rw [int_one a2 b2 fun z => ?_]
    constructor
    · intro hz
      rcases List.mem_cons.mp ((h z).mp (List.mem_cons_of_mem _ hz)) with w | w
      · have t1 := a1 z hz
        omega
      · exact w
    · intro hz
      rcases List.mem_cons.mp ((h z).mpr (List.mem_cons_of_mem _ hz)) with w | w
      · have t1 := b1 z hz
        omega
      · exact w
theorem rd_one {H : Hp} {a : Addr} {p q : List (Key × V)} (r1 : Rd H a (.dK p)) (r2 : Rd H a (.dK q)) : p = q := by
  rcases r1 with e | ⟨o, e⟩ <;> rcases r2 with f | ⟨o2, f⟩ <;> (rw [e] at f; cases f) <;> rfl
theorem PtR.out {H : Hp} {vs : List V} {ps : List Pt} {Ds : List Addr} (r : PtR H vs ps Ds) {b : Addr} {o : HO} (e : H b = some o) (n : ∀ kvs, o ≠ .dK kvs) (n2 : ∀ ob u, o ≠ .frz ob u) : b ∉ Ds := fun z => by
  obtain ⟨dr, q⟩ := r.rd z
  rcases q with q | ⟨ob, q⟩ <;> (rw [e] at q; cases q)
  · exact n _ rfl
  · exact n2 _ _ rfl
theorem Hs.smx {K : PySem.W.Frag} {C : Addr} {H H' : Hp} {a dx d : Addr} {kvs : List (Key × V)} {m : List (Int × List Hold)} {vs : List V} {ps : List Pt} {Ds : List Addr} (hs : Hs K C H a dx d kvs m) (r : PtR H vs ps Ds) (dn : d ∉ Ds) (s : SmX Ds H H') : Hs K C H' a dx d kvs m :=
  ⟨s _ _ (r.out hs.obj (fun _ z => by cases z) fun _ _ z => by cases z) hs.obj, s _ _ dn hs.dict, hs.ent.but2 fun b o e hb => s b o (r.out e (fun _ z => by rcases hb with ⟨_, y⟩ | ⟨_, y⟩ <;> (rw [y] at z; cases z)) fun _ _ z => by rcases hb with ⟨_, y⟩ | ⟨_, y⟩ <;> (rw [y] at z; cases z)) e, hs.few, hs.short, hs.full, hs.keys, hs.vals⟩
def spIn : Sp := fun vs H Q _ => ∃ k l h : Int, vs = [.int k, .int l, .int h] ∧ Q (.bl (decide (l ≤ k ∧ k ≤ h))) H
def spEnds15 : Sp := fun vs H Q _ => ∃ c b : Int, vs = [.int c, .int b] ∧ 0 ≤ c ∧ c < 2147483647 ∧ 0 ≤ b ∧ b < 2147483647 ∧ ∀ t lo hi H', H t = none → Same H H' → H' t = some (.tup [.int lo, .int hi]) → Q (.ref t) H'
/-! ### rows as tuples -/
inductive Prt (H : Hp) : List V → Dr → Prop where
  | nil : Prt H [] []
  | cons {t : Addr} {k : Int} {o : Option Int} {ws : List V} {L : Dr} (h : H t = some (.tup [.int k, ov o])) (r : Prt H ws L) : Prt H (.ref t :: ws) ((k, o) :: L)
theorem Prt.keep {H H' : Hp} {ws : List V} {L : Dr} (r : Prt H ws L) (k : ∀ b xs, H b = some (.tup xs) → H' b = some (.tup xs)) : Prt H' ws L := by
  induction r with
  | nil => exact .nil
  | cons h _ ih => exact .cons (k _ _ h) ih
theorem Prt.same {H H' : Hp} {ws : List V} {L : Dr} (r : Prt H ws L) (s : Same H H') : Prt H' ws L := r.keep fun _ _ e => s _ _ e
theorem Prt.len {H : Hp} {ws : List V} {L : Dr} (r : Prt H ws L) : ws.length = L.length := by
  induction r with
  | nil => rfl
  | cons _ _ ih => simp only [List.length_cons, ih]
theorem Prt.get {H : Hp} {ws : List V} {L : Dr} (r : Prt H ws L) {i : Nat} {v : V} (hi : ws[i]? = some v) : ∃ t k o, v = .ref t ∧ L[i]? = some (k, o) ∧ H t = some (.tup [.int k, ov o]) := by
  induction r generalizing i with
  | nil => simp at hi
  | @cons t k o ws L h _ ih =>
    cases i with
    | zero => cases hi; exact ⟨t, k, o, rfl, rfl, h⟩
    | succ i => simpa using ih (i := i) (by simpa using hi)
theorem Prt.snoc {H : Hp} {ws : List V} {L : Dr} {t : Addr} {k : Int} {o : Option Int} (r : Prt H ws L) (h : H t = some (.tup [.int k, ov o])) : Prt H (ws ++ [.ref t]) (L ++ [(k, o)]) := by
  induction r with
  | nil => exact .cons h .nil
  | cons h1 _ ih => exact .cons h1 ih
theorem Prt.prs {K : PySem.W.Frag} {H : Hp} {ws : List V} {L : Dr} (r : Prt H ws L) : Prs2 K H ws (dkv L) := by
  induction r with
  | nil => exact .nil
  | cons h _ ih => exact .cons (SqT.of h) ih
theorem Prt.sel {H : Hp} (p : Int → Bool) {ws : List V} {L : Dr} (r : Prt H ws L) : Prt H ((ws.zip L).filterMap fun x => if p x.2.1 = true then some x.1 else none) (L.filter fun q => p q.1) := by
  induction r with
  | nil => exact .nil
  | @cons t k o ws L h _ ih =>
    rw [List.zip_cons_cons, List.filterMap_cons, List.filter_cons]
    by_cases e : p k = true
    · rw [if_pos e, if_pos e]
      exact .cons h ih
    · rw [if_neg e, if_neg e]
      exact ih
def datR (q : Int × Option Int) : PyData := .tuple [.int q.1, match q.2 with
  | some v => .int v
  | none => .none]
theorem Prt.dts {K : PySem.W.Frag} {H : Hp} {ws : List V} {L : Dr} (r : Prt H ws L) : Dts K H ws (L.map datR) := by
  induction r with
  | nil => exact .nil
  | @cons t k o ws L h _ ih =>
    refine .cons (.tup (SqT.of h) ?_) ih
    cases o with
    | none => exact .cons (.int _) (.cons .non .nil)
    | some v => exact .cons (.int _) (.cons (.int _) .nil)
theorem lay_R (L : Dr) : PyData.canLayAll0 (L.map datR) = true ∧ PyData.depthAll (L.map datR) ≤ 1 := by
  induction L with
  | nil => exact ⟨rfl, Nat.zero_le _⟩
  | cons q r ih =>
    obtain ⟨k, o⟩ := q
    have e : PyData.canLay0 (datR (k, o)) = true ∧ PyData.depth (datR (k, o)) = 1 := by cases o <;> exact ⟨rfl, rfl⟩
    refine ⟨?_, ?_⟩
    · show (PyData.canLay0 (datR (k, o)) && PyData.canLayAll0 (r.map datR)) = true
      rw [e.1, ih.1]
      rfl
    · show max (PyData.depth (datR (k, o))) (PyData.depthAll (r.map datR)) ≤ 1
      rw [e.2]
      exact Nat.max_le.mpr ⟨Nat.le_refl _, ih.2⟩
theorem shaped_R (L : Dr) : SeqAt.shaped (.list (L.map datR)) = true := by
  show (PyData.canLayAll0 (L.map datR) && decide (PyData.depthAll (L.map datR) + 1 ≤ 64)) = true
  have := (lay_R L).2
  rw [(lay_R L).1, decide_eq_true (by omega)]
  rfl
theorem eqv_R (L : Dr) : PyData.eqv (.list (L.map datR)) (.list (L.map datR)) = true := SeqAt.eqv_refl _ (lay_R L).1
theorem putO_new {fs : Dr} {k : Int} {o : Option Int} (h : k ∉ fs.map (·.1)) : putO fs k o = fs ++ [(k, o)] := by
  unfold putO
  rw [if_neg h]
theorem putAll_dkv : ∀ (b a : Dr), ((a ++ b).map (·.1)).Nodup → putAllK (dkv a) (dkv b) = dkv (a ++ b)
  | [], a, _ => by rw [List.append_nil]; rfl
  | q :: r, a, nd => by
    have hn : q.1 ∉ a.map (·.1) := fun z => by
      rw [List.map_append, List.nodup_append] at nd
      exact nd.2.2 q.1 z q.1 List.mem_cons_self rfl
    show putAllK (putK (dkv a) (Sum.inl q.1 : Key) (ov q.2)) (dkv r) = _
    rw [dkv_put, putO_new hn, putAll_dkv r (a ++ [(q.1, q.2)]) (by simpa using nd)]
    simp
theorem dkv_keys (fs : Dr) : (dkv fs).map (·.1) = (fs.map (·.1)).map Sum.inl := by
  unfold dkv
  rw [List.map_map, List.map_map]
  rfl
/-- a comprehension that makes rows, or leaves out -/
theorem compQF_rows {σ0 fs : L2.St} {k : Nat} {J : It} {g : TG} {tc : TT} {te : TE} {Q : VK} {H1 : Hp} (n : Nat) (f : Nat → Option (Int × Option Int)) (h0 : σ0 = List.replicate k none ++ fs) (hz : n ≤ sizeLine) (hgo : ∀ i H, Same H1 H → i < n → J.go i H) (hstop : ∀ H, Same H1 H → J.stop n H)
    (step : ∀ i H (ts : L2.St) v H' (R : Option V → L2.St → Hp → Prop), Same H1 H → i < n → ts.length = k → J.yld i H v H' → (f i = none → ∀ (ts2 : L2.St) H3, ts2.length = k → Same H H3 → R none (ts2 ++ fs) H3) →
      (∀ a b, f i = some (a, b) → ∀ t (ts2 : L2.St) H3, H3 t = some (.tup [.int a, ov b]) → ts2.length = k → Same H H3 → R (some (.ref t)) (ts2 ++ fs) H3) →
      g v (ts ++ fs) H' fun τ2 H2 => tc τ2 H2 fun ok H3 => if ok = true then te τ2 H3 fun y H4 => R (some y) τ2 H4 else R none τ2 H3)
    (fin : ∀ D H' ys, H1 D = none → Same H1 H' → H' D = some (.lst ys) → Prt H' ys ((List.range n).filterMap f) → Q (.ref D) H') : compQF σ0 J g tc te Q H1 := by
  intro D hD
  refine ⟨fun i m ys τ H => m = n - i ∧ i ≤ n ∧ Prt H ys ((List.range i).filterMap f) ∧ (∃ ts : L2.St, ts.length = k ∧ τ = ts ++ fs) ∧ Same H1 H ∧ H D = some (.lst ys), ⟨n, rfl, Nat.zero_le _, .nil, ⟨_, List.length_replicate, h0⟩, Same.upd hD, upd_same⟩, ?_⟩
  rintro i m ys τ H ⟨rfl, hi, hp, ⟨ts, ht, rfl⟩, ss, hd⟩
  refine ⟨hd, ?_⟩
  by_cases hlt : i < n
  · have hl : ys.length < sizeLine := by
      rw [hp.len]
      exact Nat.lt_of_le_of_lt (List.length_filterMap_le _ _) (by rw [List.length_range]; omega)
    refine .inr ⟨hgo i H ss hlt, hl, fun v H' y => step i H ts v H' (fun o τ2 H3 => match o with
      | some y => H3 D = some (.lst ys) ∧ ∃ m', m' < n - i ∧ m' = n - (i + 1) ∧ i + 1 ≤ n ∧ Prt (upd H3 D (.lst (ys ++ [y]))) (ys ++ [y]) ((List.range (i + 1)).filterMap f) ∧ (∃ ts : L2.St, ts.length = k ∧ τ2 = ts ++ fs) ∧ Same H1 (upd H3 D (.lst (ys ++ [y]))) ∧ upd H3 D (.lst (ys ++ [y])) D = some (.lst (ys ++ [y]))
      | none => ∃ m', m' < n - i ∧ m' = n - (i + 1) ∧ i + 1 ≤ n ∧ Prt H3 ys ((List.range (i + 1)).filterMap f) ∧ (∃ ts : L2.St, ts.length = k ∧ τ2 = ts ++ fs) ∧ Same H1 H3 ∧ H3 D = some (.lst ys)) ss hlt ht y (fun e ts2 H3 h2 s3 => ?_) (fun a b e t ts2 H3 e3 h2 s3 => ?_)⟩
    · refine ⟨n - (i + 1), by omega, rfl, hlt, ?_, ⟨ts2, h2, rfl⟩, ss.trans s3, s3 _ _ hd⟩
      rw [List.range_succ, List.filterMap_append]
      simpa [e] using hp.same s3
    · have hd3 := s3 _ _ hd
      refine ⟨hd3, n - (i + 1), by omega, rfl, hlt, ?_, ⟨ts2, h2, rfl⟩, (ss.trans s3).again hD, upd_same⟩
      rw [List.range_succ, List.filterMap_append]
      have kp : ∀ c xs, H3 c = some (.tup xs) → upd H3 D (.lst (ys ++ [.ref t])) c = some (.tup xs) := fun c xs ec => by
        rw [upd_ne fun z => by rw [z, hd3] at ec; cases ec]
        exact ec
      simpa [e] using ((hp.same s3).keep kp).snoc (kp _ _ e3)
  · have e : i = n := by omega
    subst e
    exact .inl ⟨hstop H ss, fin D H ys hD ss hd hp⟩
theorem fk_made (g : Int → Option Int) (k : Int) : ∀ sk : List Int, fk (sk.map fun k => (k, g k)) k = if k ∈ sk then some (g k) else none
  | [] => by simp [fk]
  | x :: r => by
    rw [List.map_cons, fk_cons, fk_made g k r]
    by_cases e : x = k
    · subst e
      rw [if_pos rfl, if_pos List.mem_cons_self]
    · rw [if_neg e]
      by_cases e2 : k ∈ r
      · rw [if_pos e2, if_pos (List.mem_cons_of_mem _ e2)]
      · rw [if_neg e2, if_neg fun z => (List.mem_cons.mp z).elim (fun y => e y.symm) e2]
/-! ### what is there at a stamp: the shelf's rows and the law's own -/
def rowsF (l : List Int) (g : Int → Option Int) : Dr := (l.filter fun k => (g k).isSome).map fun k => (k, g k)
theorem rowsF_gather (l : List Int) (g : Int → Option Int) : (l.filterMap fun k => if (g k).isSome = true then some (k, g k) else none) = rowsF l g := by
  unfold rowsF
  induction l with
  | nil => rfl
  | cons x r ih =>
    rw [List.filterMap_cons, List.filter_cons]
    by_cases e : (g x).isSome = true
    · rw [if_pos e, if_pos e, List.map_cons]; simp only; rw [ih]
    · rw [if_neg e, if_neg e]; exact ih
theorem rowsF_of (l : List Int) (g : Int → Option Int) : ((l.map fun k => (k, g k)).filter fun q => q.2.isSome) = rowsF l g := by
  unfold rowsF
  rw [List.filter_map]
  rfl
theorem rows_one {l1 l2 : List Int} {g : Int → Option Int} (h1 : l1.Pairwise (· < ·)) (h2 : l2.Pairwise (· < ·)) (h : ∀ k, (g k).isSome = true → (k ∈ l1 ↔ k ∈ l2)) : rowsF l1 g = rowsF l2 g := by
  unfold rowsF
  rw [int_one (h1.sublist List.filter_sublist) (h2.sublist List.filter_sublist) fun x => ?_]
  rw [List.mem_filter, List.mem_filter]
  constructor
  · rintro ⟨a, b⟩; exact ⟨(h x b).mp a, b⟩
  · rintro ⟨a, b⟩; exact ⟨(h x b).mpr a, b⟩
theorem rows_fun {l : List Int} {g g' : Int → Option Int} (h : ∀ k ∈ l, g k = g' k) : rowsF l g = rowsF l g' := by
  unfold rowsF
  rw [List.filter_congr fun k hk => by rw [h k hk]]
  exact List.map_congr_left fun k hk => by rw [h k (List.mem_filter.mp hk).1]
def putsO (m dr : Dr) : Dr := dr.foldl (fun m q => putO m q.1 q.2) m
theorem dkv_putsO : ∀ (dr m : Dr), putAllK (dkv m) (dkv dr) = dkv (putsO m dr)
  | [], m => rfl
  | q :: r, m => by
    show putAllK (putK (dkv m) (Sum.inl q.1 : Key) (ov q.2)) (dkv r) = _
    rw [dkv_put, dkv_putsO r]
    rfl
theorem fk_putsO (k : Int) : ∀ (dr m : Dr), (dr.map (·.1)).Nodup → fk (putsO m dr) k = match fk dr k with
    | some o => some o
    | none => fk m k
  | [], m, _ => rfl
  | q :: r, m, nd => by
    obtain ⟨n1, n2⟩ := List.nodup_cons.mp nd
    show fk (putsO (putO m q.1 q.2) r) k = _
    rw [fk_putsO k r _ n2, fk_cons]
    by_cases e : q.1 = k
    · have hn : fk r k = none := fk_none.mpr (e ▸ n1)
      rw [hn, if_pos e]
      show fk (putO m q.1 q.2) k = some q.2
      rw [fk_putO, if_pos e]
    · rw [if_neg e]
      cases fk r k with
      | some o => rfl
      | none => show fk (putO m q.1 q.2) k = fk m k; rw [fk_putO, if_neg e]
theorem putsO_nd : ∀ (dr m : Dr), (m.map (·.1)).Nodup → ((putsO m dr).map (·.1)).Nodup
  | [], _, h => h
  | q :: r, m, h => putsO_nd r _ (putO_nd _ _ h)
theorem putsO_keys : ∀ (dr m : Dr) {x : Int}, x ∈ (putsO m dr).map (·.1) → x ∈ m.map (·.1) ∨ x ∈ dr.map (·.1)
  | [], _, _, h => .inl h
  | q :: r, m, x, h => by
    rcases putsO_keys r _ h with z | z
    · rcases putO_keys z with y | y
      · exact .inr (by rw [y]; exact List.mem_cons_self)
      · exact .inl y
    · exact .inr (List.mem_cons_of_mem _ z)
def heldF (s : Int) (fs : Dr) (ps : List Pt) : Dr := ps.foldl (fun m p => if p.1 ≤ s then putsO m p.2.2 else m) fs
theorem held_fold (k s : Int) : ∀ (ps : List Pt) (m : Dr) (d : Hold), (∀ p ∈ ps, (p.2.2.map (·.1)).Nodup) → (fk m k).getD none = d.2.2 → (fk (heldF s m ps) k).getD none = (ps.foldl (stepD k s) d).2.2
  | [], _, _, _, h => h
  | p :: r, m, d, nd, h => by
    show (fk (heldF s (if p.1 ≤ s then putsO m p.2.2 else m) r) k).getD none = (r.foldl (stepD k s) (stepD k s d p)).2.2
    refine held_fold k s r _ _ (fun q hq => nd q (List.mem_cons_of_mem _ hq)) ?_
    unfold stepD
    by_cases e : p.1 ≤ s
    · rw [if_pos e, fk_putsO k _ _ (nd p List.mem_cons_self)]
      cases fk p.2.2 k with
      | none => exact h
      | some o => show o = (if p.1 ≤ s then (p.1, p.2.1, o) else d).2.2; rw [if_pos e]
    · rw [if_neg e]
      cases fk p.2.2 k with
      | none => exact h
      | some o => show _ = (if p.1 ≤ s then (p.1, p.2.1, o) else d).2.2; rw [if_neg e]; exact h
theorem held_due {fs : Dr} {ps : List Pt} {k s : Int} (h0 : 0 ≤ s) (nd : ∀ p ∈ ps, (p.2.2.map (·.1)).Nodup) : (fk (heldF s fs ps) k).getD none = (makeAt (hk (mOf fs ps) k) s).2.2 := by
  rw [make_due h0 nd]
  refine held_fold k s ps fs _ nd ?_
  unfold firstM
  cases fk fs k <;> rfl
theorem held_nd (s : Int) : ∀ (ps : List Pt) (fs : Dr), (fs.map (·.1)).Nodup → ((heldF s fs ps).map (·.1)).Nodup
  | [], _, h => h
  | p :: r, fs, h => by
    show ((heldF s (if p.1 ≤ s then putsO fs p.2.2 else fs) r).map (·.1)).Nodup
    refine held_nd s r _ ?_
    by_cases e : p.1 ≤ s
    · rw [if_pos e]; exact putsO_nd _ _ h
    · rw [if_neg e]; exact h
def LO : Int := 1 - 10 ^ (30 : Int).toNat
def HI : Int := 10 ^ (30 : Int).toNat - 1
theorem gr_in (n : Int) : LO ≤ gr n ∧ gr n ≤ HI := by
  have a1 := Int.emod_nonneg (n ^ Int.toNat 3 * 1009) (show (2 * 10 ^ Int.toNat 30 - 1 : Int) ≠ 0 by decide)
  have a2 := Int.emod_lt_of_pos (n ^ Int.toNat 3 * 1009) (show (0 : Int) < 2 * 10 ^ Int.toNat 30 - 1 by decide)
  have e : (10 : Int) ^ Int.toNat 30 = 1000000000000000000000000000000 := by decide
  unfold LO HI gr
  rw [e] at a1 a2 ⊢
  omega
theorem univ_in {b x : Int} (h : x ∈ univ b) : insB LO HI x = true := by
  have l : LO = -999999999999999999999999999999 := by decide
  have r : HI = 999999999999999999999999999999 := by decide
  refine decide_eq_true ?_
  unfold univ at h
  simp only [List.mem_cons, List.not_mem_nil, or_false] at h
  rcases h with h | h | h | h | h | h | h | h | h | h
  all_goals first
    | (rw [h]; exact gr_in _)
    | (rw [h, l, r]; decide)
/-! ### every other one -/
def Old (ps : List Pt) : Prop := ∀ p ∈ ps, 1 ≤ p.1
/-- what has come about since H -/
def rst (H H' : Hp) : Hp := fun b => match H b with
  | some _ => none
  | none => H' b
theorem rst_some {H H' : Hp} {b : Addr} {o : HO} (e : rst H H' b = some o) : H b = none ∧ H' b = some o := by
  unfold rst at e
  cases h : H b with
  | some u => rw [h] at e; cases e
  | none => rw [h] at e; exact ⟨rfl, e⟩
theorem rst_of {H H' : Hp} {b : Addr} {o : HO} (h : H b = none) (e : H' b = some o) : rst H H' b = some o := by
  unfold rst
  rw [h]
  exact e
/-- the law's first rows and puts -/
structure Gv (H : Hp) (f pl : Addr) (b : Int) (fs : Dr) (ws : List V) (ps : List Pt) : Prop where
  first : H f = some (.dK (dkv fs))
  nd : (fs.map (·.1)).Nodup
  few : fs.length ≤ 4
  inU : ∀ x ∈ fs.map (·.1), x ∈ univ b
  lst : H pl = some (.lst ws)
  pts : Pts H ws ps
  forty : ps.length ≤ 40
  good : Gd b ps
theorem Hs.butD {K : PySem.W.Frag} {C : Addr} {H H' : Hp} {a dx d r : Addr} {kvs : List (Key × V)} {m : List (Int × List Hold)} (hs : Hs K C H a dx d kvs m) (hr : ∃ u, Rd H r (.dK u)) (nd : d ≠ r) (keep : ∀ b o, b ≠ r → H b = some o → H' b = some o) : Hs K C H' a dx d kvs m := by
  have notr : ∀ b o, H b = some o → (∀ u, o ≠ .dK u) → (∀ x u, o ≠ .frz x u) → b ≠ r := fun b o e n n2 z => by
    obtain ⟨u, q⟩ := hr
    rw [z] at e
    rcases q with q | ⟨x, q⟩ <;> (rw [e] at q; cases q)
    · exact n _ rfl
    · exact n2 _ _ rfl
  exact ⟨keep _ _ (notr _ _ hs.obj (fun u z => by cases z) fun x u z => by cases z) hs.obj, keep _ _ nd hs.dict, hs.ent.but2 fun b o e hb => keep b o (notr b o e (fun u z => by rcases hb with ⟨_, y⟩ | ⟨_, y⟩ <;> (rw [y] at z; cases z)) fun x u z => by rcases hb with ⟨_, y⟩ | ⟨_, y⟩ <;> (rw [y] at z; cases z)) e, hs.few, hs.short, hs.full, hs.keys, hs.vals⟩
/-! ### rows at a stamp: the shelf's and the law's own, fewer than 128 keys -/
def univL (b c : Int) : List Int := univ b ++ ((List.range 69).map (fun k : Nat => 5 * (0 + (k : Int)) - 90 + c) ++ (List.range 41).map fun k : Nat => 5 * (0 + (k : Int)) - 60 + c)
theorem univL_len (b c : Int) : (univL b c).length = 120 := by
  unfold univL univ
  simp
theorem univL_of {b c x : Int} (h : x ∈ univ b) : x ∈ univL b c := List.mem_append_left _ h
theorem univL_row {b c : Int} {k : Nat} (h : k < 69) : 5 * (0 + (k : Int)) - 90 + c ∈ univL b c := List.mem_append_right _ (List.mem_append_left _ (List.mem_map.mpr ⟨k, List.mem_range.mpr h, rfl⟩))
theorem univL_wide {b c : Int} {k : Nat} (h : k < 41) : 5 * (0 + (k : Int)) - 60 + c ∈ univL b c := List.mem_append_right _ (List.mem_append_right _ (List.mem_map.mpr ⟨k, List.mem_range.mpr h, rfl⟩))
theorem univL_in {b c x : Int} (c0 : 0 ≤ c) (c7 : c < 7) (h : x ∈ univL b c) : insB LO HI x = true := by
  have l : LO = -999999999999999999999999999999 := by decide
  have r : HI = 999999999999999999999999999999 := by decide
  rcases List.mem_append.mp h with z | z
  · exact univ_in z
  · rcases List.mem_append.mp z with y | y
    all_goals
      obtain ⟨k, hk, rfl⟩ := List.mem_map.mp y
      have := List.mem_range.mp hk
      refine decide_eq_true ?_
      rw [l, r]
      omega
/-- the puts: their keys in U -/
structure Gw (U : List Int) (ps : List Pt) : Prop where
  few : ∀ p ∈ ps, p.2.2.length ≤ 44
  nd : ∀ p ∈ ps, (p.2.2.map (·.1)).Nodup
  inU : ∀ p ∈ ps, ∀ x ∈ p.2.2.map (·.1), x ∈ U
theorem Gw.take {U : List Int} {ps : List Pt} (g : Gw U ps) (n : Nat) : Gw U (ps.take n) := ⟨fun p hp => g.few p (List.mem_of_mem_take hp), fun p hp => g.nd p (List.mem_of_mem_take hp), fun p hp => g.inU p (List.mem_of_mem_take hp)⟩
theorem Gw.of {b c : Int} {ps : List Pt} (g : Gd b ps) : Gw (univL b c) ps := ⟨fun p hp => Nat.le_trans (g p hp).2.1 (by decide), fun p hp => (g p hp).2.2.1, fun p hp x hx => univL_of ((g p hp).2.2.2 x hx)⟩
theorem keysW {fs : Dr} {ps : List Pt} (nd : ∀ p ∈ ps, (p.2.2.map (·.1)).Nodup) {k : Int} (h : hk (mOf fs ps) k ≠ []) : k ∈ fs.map (·.1) ∨ ∃ p ∈ ps, k ∈ p.2.2.map (·.1) := by
  rw [hk_is fs ps k nd] at h
  cases e : fk fs k with
  | some o => exact .inl (Classical.byContradiction fun z => by rw [fk_none.mpr z] at e; cases e)
  | none =>
    rw [e] at h
    obtain ⟨q, hq⟩ := List.exists_mem_of_ne_nil _ h
    obtain ⟨p, hp, e⟩ := List.mem_filterMap.mp hq
    obtain ⟨o, e2, _⟩ := Option.map_eq_some_iff.mp e
    exact .inr ⟨p, hp, Classical.byContradiction fun z => by rw [fk_none.mpr z] at e2; cases e2⟩
theorem keysW_in {K : PySem.W.Frag} {C : Addr} {H : Hp} {a dx d : Addr} {kvs : List (Key × V)} {U : List Int} {fs : Dr} {ps : List Pt} (hs : Hs K C H a dx d kvs (mOf fs ps)) (g : Gw U ps) (hf : ∀ x ∈ fs.map (·.1), x ∈ U) : ∀ k ∈ (mOf fs ps).map (·.1), k ∈ U := fun k hk' => by
  rcases keysW g.nd (hk_full hs.full hk') with z | ⟨p, hp, z⟩
  · exact hf k z
  · exact g.inU p hp k z
theorem keysW_few {K : PySem.W.Frag} {C : Addr} {H : Hp} {a dx d : Addr} {kvs : List (Key × V)} {U : List Int} {fs : Dr} {ps : List Pt} (hs : Hs K C H a dx d kvs (mOf fs ps)) (g : Gw U ps) (hf : ∀ x ∈ fs.map (·.1), x ∈ U) : (mOf fs ps).length ≤ U.length := by
  have := nodup_len hs.keys (keysW_in hs g hf)
  rw [List.length_map] at this
  exact this
theorem hk_mem {m : List (Int × List Hold)} (nd : (m.map (·.1)).Nodup) {q : Int × List Hold} (hq : q ∈ m) : hk m q.1 = q.2 := by
  induction m with
  | nil => cases hq
  | cons p r ih =>
    rw [List.map_cons, List.nodup_cons] at nd
    unfold hk
    rcases List.mem_cons.mp hq with e | e
    · subst e
      rw [List.find?_cons, decide_eq_true rfl]
      rfl
    · have ne : ¬ p.1 = q.1 := fun z => nd.1 (z ▸ List.mem_map_of_mem e)
      rw [List.find?_cons, decide_eq_false ne]
      exact ih nd.2 e
theorem shortW {K : PySem.W.Frag} {C : Addr} {H : Hp} {a dx d : Addr} {kvs : List (Key × V)} {U : List Int} {fs : Dr} {ps : List Pt} (hs : Hs K C H a dx d kvs (mOf fs ps)) (g : Gw U ps) (hp : ps.length ≤ 40) : ∀ q ∈ mOf fs ps, q.2.length ≤ 900 := fun q hq => by
  rw [← hk_mem hs.keys hq, hk_is fs ps q.1 g.nd, List.length_append]
  have h1 : (putsOf ps q.1).length ≤ ps.length := List.length_filterMap_le _ _
  cases fk fs q.1 with
  | some o => show 1 + (putsOf ps q.1).length ≤ 900; omega
  | none => show 0 + (putsOf ps q.1).length ≤ 900; omega
/-- what is held behind all puts -/
def heldA (fs : Dr) (ps : List Pt) : Dr := ps.foldl (fun m p => putsO m p.2.2) fs
theorem heldA_snoc (fs : Dr) (ps : List Pt) (p : Pt) : heldA fs (ps ++ [p]) = putsO (heldA fs ps) p.2.2 := by
  unfold heldA
  rw [List.foldl_append]
  rfl
theorem heldF_all {s : Int} : ∀ {ps : List Pt} {fs : Dr}, (∀ p ∈ ps, p.1 ≤ s) → heldF s fs ps = heldA fs ps
  | [], _, _ => rfl
  | p :: r, fs, h => by
    show heldF s (if p.1 ≤ s then putsO fs p.2.2 else fs) r = heldA (putsO fs p.2.2) r
    rw [if_pos (h p List.mem_cons_self)]
    exact heldF_all fun q hq => h q (List.mem_cons_of_mem _ hq)
theorem heldF_keys {U : List Int} (s : Int) : ∀ {ps : List Pt} {fs : Dr}, Gw U ps → (∀ x ∈ fs.map (·.1), x ∈ U) → ∀ x ∈ (heldF s fs ps).map (·.1), x ∈ U
  | [], _, _, h => h
  | p :: r, fs, g, h => by
    show ∀ x ∈ (heldF s (if p.1 ≤ s then putsO fs p.2.2 else fs) r).map (·.1), x ∈ U
    refine heldF_keys s ⟨fun q hq => g.few q (List.mem_cons_of_mem _ hq), fun q hq => g.nd q (List.mem_cons_of_mem _ hq), fun q hq => g.inU q (List.mem_cons_of_mem _ hq)⟩ ?_
    by_cases e : p.1 ≤ s
    · rw [if_pos e]
      intro x hx
      rcases putsO_keys _ _ hx with z | z
      · exact h x z
      · exact g.inU p List.mem_cons_self x z
    · rw [if_neg e]; exact h
theorem heldA_is (fs : Dr) (ps : List Pt) : ∃ s, heldA fs ps = heldF s fs ps := by
  refine ⟨(ps.map (·.1)).foldl max 0, (heldF_all fun p hp => ?_).symm⟩
  have : ∀ (l : List Int) (z : Int), z ≤ l.foldl max z ∧ ∀ x ∈ l, x ≤ l.foldl max z := by
    intro l
    induction l with
    | nil => intro z; exact ⟨Int.le_refl _, fun x hx => by cases hx⟩
    | cons y r ih =>
      intro z
      obtain ⟨i1, i2⟩ := ih (max z y)
      refine ⟨?_, fun x hx => ?_⟩
      · show z ≤ r.foldl max (max z y)
        omega
      · show x ≤ r.foldl max (max z y)
        rcases List.mem_cons.mp hx with e | e
        · omega
        · exact i2 x e
  exact (this (ps.map (·.1)) 0).2 _ (List.mem_map_of_mem hp)
theorem rowsW {K : PySem.W.Frag} {C : Addr} {H : Hp} {a dx d : Addr} {kvs : List (Key × V)} {s : Int} {fs : Dr} {ps : List Pt} (q : Int → Bool) (hs : Hs K C H a dx d kvs (mOf fs ps)) (nds : ∀ p ∈ ps, (p.2.2.map (·.1)).Nodup) (nd : (fs.map (·.1)).Nodup) (h0 : 0 ≤ s) :
    rowsF ((risen ((mOf fs ps).map (·.1))).filter q) (fun k => (makeAt (hk (mOf fs ps) k) s).2.2) = rowsF ((risen ((heldF s fs ps).map (·.1))).filter q) (fun k => (fk (heldF s fs ps) k).getD none) := by
  rw [rows_fun (g := fun k => (makeAt (hk (mOf fs ps) k) s).2.2) (g' := fun k => (fk (heldF s fs ps) k).getD none) fun k _ => (held_due h0 nds).symm]
  refine rows_one ((risen_lt hs.keys).sublist List.filter_sublist) ((risen_lt (held_nd s ps fs nd)).sublist List.filter_sublist) fun k hk' => ?_
  have h2 : k ∈ (heldF s fs ps).map (·.1) := Classical.byContradiction fun z => by
    simp only [fk_none.mpr z] at hk'
    cases hk'
  have h1 : k ∈ (mOf fs ps).map (·.1) := Classical.byContradiction fun z => by
    simp only [held_due h0 nds, hk_none z] at hk'
    cases hk'
  rw [List.mem_filter, List.mem_filter, (risen_perm _).mem_iff, (risen_perm _).mem_iff]
  exact ⟨fun z => ⟨h2, z.2⟩, fun z => ⟨h1, z.2⟩⟩
theorem rowsF_some {l : List Int} {g : Int → Option Int} : ∀ q ∈ rowsF l g, q.2.isSome = true := fun q hq => by
  unfold rowsF at hq
  obtain ⟨k, hk', rfl⟩ := List.mem_map.mp hq
  exact (List.mem_filter.mp hk').2
def whenP (ps : List Pt) : Nat → Int
  | 0 => 0
  | j + 1 => (ps[j]?.map (·.1)).getD 0
/-- the law's states: the first rows and what was held behind each put -/
structure Sx (H : Hp) (us : List V) (fs : Dr) (ps : List Pt) (n : Nat) (Ds : List Addr) : Prop where
  len : us.length = n + 1
  lenD : Ds.length = n + 1
  at_ : ∀ j, j ≤ n → ∃ t d, us[j]? = some (.ref t) ∧ Ds[j]? = some d ∧ H t = some (.tup [.int (whenP ps j), .ref d]) ∧ H d = some (.dK (dkv (heldA fs (ps.take j))))
theorem when_le {ps : List Pt} (pw : ps.Pairwise fun u v => u.1 < v.1) {j : Nat} {p : Pt} (h : ps[j]? = some p) : ∀ q ∈ ps.take (j + 1), q.1 ≤ p.1 := fun q hq => by
  obtain ⟨hj, e⟩ := List.getElem?_eq_some_iff.mp h
  obtain ⟨i, hi, e2⟩ := List.getElem_of_mem hq
  rw [List.length_take] at hi
  rw [List.getElem_take] at e2
  rcases Nat.lt_or_eq_of_le (show i ≤ j by omega) with z | z
  · rw [← e, ← e2]
    exact Int.le_of_lt (List.pairwise_iff_getElem.mp pw i j _ _ z)
  · subst z
    rw [← e2, e]
    exact Int.le_refl _
def spKnownB (K : PySem.W.Frag) (C : Addr) : Sp := fun vs H Q _ => ∃ (a dx d : Addr) (kvs : List (Key × V)) (m : List (Int × List Hold)) (lo hi : Int), vs = [.ref a, .int lo, .int hi] ∧ Hs K C H a dx d kvs m ∧ m.length < 128 ∧
  ∀ p H', H p = none → Same H H' → H' p = some (.lst (((risen (m.map (·.1))).filter (insB lo hi)).map V.int)) → Q (.ref p) H'
def spRowsOfB (K : PySem.W.Frag) (C : Addr) : Sp := fun vs H Q _ => ∃ (a dx d : Addr) (kvs : List (Key × V)) (m : List (Int × List Hold)) (l : Addr) (sk : List Int) (s : Int), vs = [.ref a, .ref l, .int s] ∧ Hs K C H a dx d kvs m ∧ H l = some (.lst (sk.map V.int)) ∧ sk.length < 128 ∧
  ∀ p H' ys, H p = none → Same H H' → H' p = some (.lst ys) → Prt H' ys (rowsF sk fun k => (makeAt (hk m k) s).2.2) → Q (.ref p) H'
def spThereB (K : PySem.W.Frag) (C : Addr) : Sp := fun vs H Q _ => ∃ (a dx d : Addr) (kvs : List (Key × V)) (m : List (Int × List Hold)) (s : Int), vs = [.ref a, .int s] ∧ Hs K C H a dx d kvs m ∧ m.length < 128 ∧
  ∀ p H' ys, H p = none → Same H H' → H' p = some (.lst ys) → Prt H' ys (rowsF (risen (m.map (·.1))) fun k => (makeAt (hk m k) s).2.2) → Q (.ref p) H'
def spRowsSB (K : PySem.W.Frag) (C : Addr) : Sp := fun vs H Q _ => ∃ (a dx d : Addr) (kvs : List (Key × V)) (m : List (Int × List Hold)) (lo hi s : Int), vs = [.ref a, .int lo, .int hi, .int s] ∧ Hs K C H a dx d kvs m ∧ m.length < 128 ∧
  ∀ p H' ys, H p = none → Same H H' → H' p = some (.lst ys) → Prt H' ys (rowsF ((risen (m.map (·.1))).filter (insB lo hi)) fun k => (makeAt (hk m k) s).2.2) → Q (.ref p) H'
def spPuts4 (K : PySem.W.Frag) : Sp := fun vs H Q _ => ∃ (c : Addr) (ns : List Int) (b : Int), vs = [.ref c, .int b] ∧ SqL K H c (ns.map V.int) ∧ ns.length ≤ 40 ∧ 0 ≤ b ∧ b < 2147483647 ∧
  ∀ p (ws : List V) (ps : List Pt) H', H p = none → Same H H' → H' p = some (.lst ws) → Pts (rst H H') ws ps → ps.length = ns.length → Gd b ps → Old ps → ps.Pairwise (fun u v => u.1 < v.1) → Q (.ref p) H'
def spIsRows : Sp := fun vs H Q _ => ∃ (p : Addr) (ys : List V) (L : Dr), vs = [.ref p] ∧ H p = some (.lst ys) ∧ Prt H ys L ∧ (∀ q ∈ L, q.2.isSome = true) ∧ Q (.bl true) H
/-- what the law has drawn -/
structure Dw (U : List Int) (fs : Dr) (ps : List Pt) : Prop where
  nd : (fs.map (·.1)).Nodup
  fin : ∀ x ∈ fs.map (·.1), x ∈ U
  gw : Gw U ps
  old : Old ps
  pw : ps.Pairwise fun u v => u.1 < v.1
  forty : ps.length ≤ 40
  len : U.length = 120
  inn : ∀ x ∈ U, insB LO HI x = true
def spLarge : Sp := fun vs H Q _ => ∃ (f pl : Addr) (fs : Dr) (ws : List V) (ps : List Pt) (b c : Int), vs = [.ref f, .ref pl, .int c] ∧ H f = some (.dK (dkv fs)) ∧ (fs.map (·.1)).Nodup ∧ fs.length ≤ 4 ∧ (∀ x ∈ fs.map (·.1), x ∈ univ b) ∧ H pl = some (.lst ws) ∧ Pts H ws ps ∧ ps.length ≤ 40 ∧ Gd b ps ∧ Old ps ∧ ps.Pairwise (fun u v => u.1 < v.1) ∧
  ∀ p f2 pl2 (fs2 : Dr) (ws2 : List V) (ps2 : List Pt) H', H f2 = none → Same H H' → H' p = some (.lst [.ref f2, .ref pl2]) → H' f2 = some (.dK (dkv fs2)) → H' pl2 = some (.lst ws2) → Pts (del H' f2) ws2 ps2 → Dw (univL b (c % 7)) fs2 ps2 → fs2.length ≤ 100 → Q (.ref p) H'
theorem Pts.set {H : Hp} {vs : List V} {ps : List Pt} {t d : Addr} {a b : Int} {dr : Dr} (r : Pts H vs ps) (h : H t = some (.tup [.int a, .int b, .ref d])) (g : H d = some (.dK (dkv dr))) : ∀ j : Nat, Pts H (vs.set j (.ref t)) (ps.set j (a, b, dr)) := by
  induction r with
  | nil => intro j; exact .nil
  | cons h1 g1 r1 ih =>
    intro j
    cases j with
    | zero => exact .cons h g r1
    | succ j => exact .cons h1 g1 (ih j)
theorem set_fst {l : List Pt} {j : Nat} {p q : Pt} (h : l[j]? = some p) (e : q.1 = p.1) : (l.set j q).map (·.1) = l.map (·.1) := by
  rw [List.map_set, e]
  refine List.ext_getElem? fun i => ?_
  rw [List.getElem?_set]
  by_cases z : j = i
  · subst z
    rw [if_pos rfl]
    have hj := (List.getElem?_eq_some_iff.mp h).1
    rw [if_pos (by rw [List.length_map]; exact hj), List.getElem?_map, h]
    rfl
  · rw [if_neg z]
theorem set_mem {l : List Pt} {j : Nat} {q x : Pt} (h : x ∈ l.set j q) : x ∈ l ∨ x = q := List.mem_or_eq_of_mem_set h
theorem Ent.butL {H H' : Hp} {L : Addr} {us : List V} {kvs : List (Key × V)} {m : List (Int × List Hold)} (r : Ent H kvs m) (hL : H L = some (.lst us)) (nL : V.ref L ∉ kvs.map (·.2)) (k : ∀ b o, b ≠ L → H b = some o → H' b = some o) : Ent H' kvs m := by
  induction r with
  | nil => exact .nil
  | @cons l kk vs rs kvs m h q _ ih =>
    simp only [List.map_cons, List.mem_cons, not_or] at nL
    exact .cons (k _ _ (fun z => nL.1 (by rw [z])) h) (q.same fun t xs e => k _ _ (fun z => by rw [z, hL] at e; cases e) e) (ih nL.2)
/-- the shelf, where another list changes -/
theorem Hs.butL {K : PySem.W.Frag} {C : Addr} {H H' : Hp} {a dx d L : Addr} {us : List V} {kvs : List (Key × V)} {m : List (Int × List Hold)} (hs : Hs K C H a dx d kvs m) (hL : H L = some (.lst us)) (nL : V.ref L ∉ kvs.map (·.2)) (k : ∀ b o, b ≠ L → H b = some o → H' b = some o) : Hs K C H' a dx d kvs m :=
  ⟨k _ _ (fun z => by have e := hs.obj; rw [z, hL] at e; cases e) hs.obj, k _ _ (fun z => by have e := hs.dict; rw [z, hL] at e; cases e) hs.dict, hs.ent.butL hL nL k, hs.few, hs.short, hs.full, hs.keys, hs.vals⟩
/-! ### what was stays -/
def rowsM (M : Dr) : Dr := rowsF (risen (M.map (·.1))) fun k => (fk M k).getD none
theorem in_keys {M : Dr} {k : Int} (h : ((fk M k).getD none).isSome = true) : k ∈ M.map (·.1) := Classical.byContradiction fun z => by
  rw [fk_none.mpr z] at h
  cases h
theorem rowsM_like {A B : Dr} (na : (A.map (·.1)).Nodup) (nb : (B.map (·.1)).Nodup) (h : ∀ k, (fk A k).getD none = (fk B k).getD none) : rowsM A = rowsM B := by
  unfold rowsM
  rw [rows_fun (g := fun k => (fk A k).getD none) (g' := fun k => (fk B k).getD none) fun k _ => h k]
  refine rows_one (risen_lt na) (risen_lt nb) fun k hk' => ?_
  rw [(risen_perm _).mem_iff, (risen_perm _).mem_iff]
  exact ⟨fun _ => in_keys hk', fun _ => in_keys (by rw [h k]; exact hk')⟩
theorem fk_rowsM (M : Dr) (k : Int) : fk (rowsM M) k = if ((fk M k).getD none).isSome = true then some ((fk M k).getD none) else none := by
  unfold rowsM rowsF
  rw [fk_made (fun k => (fk M k).getD none)]
  by_cases h : ((fk M k).getD none).isSome = true
  · rw [if_pos h, if_pos]
    rw [List.mem_filter, (risen_perm _).mem_iff]
    exact ⟨in_keys h, h⟩
  · have n : ¬ k ∈ (risen (M.map (·.1))).filter fun k => ((fk M k).getD none).isSome := fun z => h (List.mem_filter.mp z).2
    rw [if_neg h]
    exact if_neg n
theorem getD_rowsM (M : Dr) (k : Int) : (fk (rowsM M) k).getD none = (fk M k).getD none := by
  rw [fk_rowsM]
  cases e : (fk M k).getD none with
  | none => rfl
  | some v => rfl
theorem rowsM_nd {M : Dr} (nd : (M.map (·.1)).Nodup) : ((rowsM M).map (·.1)).Pairwise (· < ·) := by
  unfold rowsM rowsF
  rw [List.map_map]
  have e : ((·.1) ∘ fun k => (k, (fk M k).getD none)) = (id : Int → Int) := rfl
  rw [e, List.map_id]
  exact (risen_lt nd).sublist List.filter_sublist
theorem rowsM_keys {M : Dr} : ∀ x ∈ (rowsM M).map (·.1), x ∈ M.map (·.1) := fun x hx => by
  unfold rowsM rowsF at hx
  obtain ⟨q, hq, rfl⟩ := List.mem_map.mp hx
  obtain ⟨k, hk', rfl⟩ := List.mem_map.mp hq
  exact (risen_perm _).mem_iff.mp (List.mem_filter.mp hk').1
theorem rowsM_over {M dr : Dr} (nm : (M.map (·.1)).Nodup) (nd : (dr.map (·.1)).Nodup) : rowsM (putsO (rowsM M) dr) = rowsM (putsO M dr) := by
  refine rowsM_like (putsO_nd _ _ (lt_nd (rowsM_nd nm))) (putsO_nd _ _ nm) fun k => ?_
  rw [fk_putsO k dr _ nd, fk_putsO k dr _ nd]
  cases fk dr k with
  | some o => rfl
  | none => exact getD_rowsM M k
theorem rowsM_sel (M : Dr) (p : Int → Bool) : (rowsM M).filter (fun q => p q.1) = rowsF ((risen (M.map (·.1))).filter p) fun k => (fk M k).getD none := by
  unfold rowsM rowsF
  rw [List.filter_map, List.filter_filter, List.filter_filter]
  congr 1
  refine List.filter_congr fun k _ => ?_
  show (p k && _) = (_ && p k)
  rw [Bool.and_comm]
theorem rowsF_mem {l : List Int} {g : Int → Option Int} {k : Int} {o : Option Int} : (k, o) ∈ rowsF l g ↔ k ∈ l ∧ o = g k ∧ (g k).isSome = true := by
  unfold rowsF
  rw [List.mem_map]
  constructor
  · rintro ⟨j, hj, e⟩
    cases e
    exact ⟨(List.mem_filter.mp hj).1, rfl, (List.mem_filter.mp hj).2⟩
  · rintro ⟨h1, rfl, h2⟩
    exact ⟨k, List.mem_filter.mpr ⟨h1, h2⟩, rfl⟩
/-- a part of the rows behind a put is what the drafts lay over the rows ahead of it -/
theorem part_laid {M dr : Dr} {lo hi : Int} (nm : (M.map (·.1)).Nodup) (nd : (dr.map (·.1)).Nodup) : IsLaid (rowsM M) dr lo hi ((rowsM (putsO M dr)).filter fun q => insB lo hi q.1) := by
  refine ⟨(rowsM_nd (putsO_nd _ _ nm)).sublist (List.Sublist.map _ List.filter_sublist), fun k o => ?_⟩
  have ef := fk_putsO k dr M nd
  have eg : (fk (putsO M dr) k).getD none = (match fk dr k with
    | some o => some o
    | none => fk M k).getD none := by rw [ef]
  rw [List.mem_filter]
  unfold rowsM at *
  rw [rowsF_mem, (risen_perm _).mem_iff]
  have er := fk_rowsM M k
  unfold rowsM at er
  unfold pick
  rw [er]
  constructor
  · rintro ⟨⟨h1, h2, h3⟩, h4⟩
    refine ⟨of_decide_eq_true h4, ?_⟩
    rw [eg] at h2 h3
    cases e : fk dr k with
    | some x =>
      rw [e] at h2 h3
      refine ⟨congrArg some h2.symm, fun z => ?_⟩
      rw [h2] at z
      rw [show (some x).getD none = x from rfl] at h3 z
      rw [z] at h3
      cases h3
    | none =>
      rw [e] at h2 h3
      refine ⟨by rw [if_pos h3, h2], fun z => ?_⟩
      rw [← h2, z] at h3
      cases h3
  · rintro ⟨h1, h2, h3⟩
    have so : o.isSome = true := by
      cases o with
      | none => exact absurd rfl h3
      | some v => rfl
    have e2 : (fk (putsO M dr) k).getD none = o := by
      rw [eg]
      cases e : fk dr k with
      | some x =>
        rw [e] at h2
        exact Option.some.inj h2
      | none =>
        rw [e] at h2
        by_cases q : ((fk M k).getD none).isSome = true
        · simp only [if_pos q] at h2
          exact Option.some.inj h2
        · simp only [if_neg q] at h2
          cases h2
    have s2 : ((fk (putsO M dr) k).getD none).isSome = true := by rw [e2]; exact so
    exact ⟨⟨in_keys s2, e2.symm, s2⟩, decide_eq_true h1⟩
theorem thereM {K : PySem.W.Frag} {C : Addr} {H : Hp} {a dx d : Addr} {kvs : List (Key × V)} {s : Int} {fs : Dr} {ps : List Pt} (hs : Hs K C H a dx d kvs (mOf fs ps)) (nds : ∀ p ∈ ps, (p.2.2.map (·.1)).Nodup) (nd : (fs.map (·.1)).Nodup) (h0 : 0 ≤ s) :
    rowsF (risen ((mOf fs ps).map (·.1))) (fun k => (makeAt (hk (mOf fs ps) k) s).2.2) = rowsM (heldF s fs ps) := by
  have := rowsW (fun _ => true) hs nds nd h0
  rw [List.filter_eq_self.mpr fun _ _ => rfl, List.filter_eq_self.mpr fun _ _ => rfl] at this
  exact this
/-- those not yet put -/
theorem heldF_cut {s : Int} {fs : Dr} {ps : List Pt} (n : Nat) (h1 : ∀ p ∈ ps.take n, p.1 ≤ s) (h2 : ∀ p ∈ ps.drop n, ¬ p.1 ≤ s) : heldF s fs ps = heldA fs (ps.take n) := by
  have e := List.take_append_drop n ps
  have e2 : heldF s fs ps = heldF s (heldF s fs (ps.take n)) (ps.drop n) := by
    conv => lhs; rw [← e]
    unfold heldF
    rw [List.foldl_append]
  rw [e2, heldF_all h1]
  generalize heldA fs (ps.take n) = m
  generalize ps.drop n = qs at h2
  induction qs generalizing m with
  | nil => rfl
  | cons p r ih =>
    show heldF s (if p.1 ≤ s then putsO m p.2.2 else m) r = m
    rw [if_neg (h2 p List.mem_cons_self)]
    exact ih m fun q hq => h2 q (List.mem_cons_of_mem _ hq)
theorem late_lt {ps : List Pt} (pw : ps.Pairwise fun u v => u.1 < v.1) {j : Nat} {p : Pt} (h : ps[j]? = some p) : ∀ q ∈ ps.drop (j + 1), p.1 < q.1 := fun q hq => by
  obtain ⟨hj, e⟩ := List.getElem?_eq_some_iff.mp h
  obtain ⟨i, hi, e2⟩ := List.getElem_of_mem hq
  rw [List.length_drop] at hi
  rw [List.getElem_drop] at e2
  rw [← e, ← e2]
  exact List.pairwise_iff_getElem.mp pw j (j + 1 + i) _ _ (by omega)
theorem early_lt {ps : List Pt} (pw : ps.Pairwise fun u v => u.1 < v.1) {j : Nat} {p : Pt} (h : ps[j]? = some p) : ∀ q ∈ ps.take j, q.1 < p.1 := fun q hq => by
  obtain ⟨hj, e⟩ := List.getElem?_eq_some_iff.mp h
  obtain ⟨i, hi, e2⟩ := List.getElem_of_mem hq
  rw [List.length_take] at hi
  rw [List.getElem_take] at e2
  rw [← e, ← e2]
  exact List.pairwise_iff_getElem.mp pw i j _ _ (by omega)
theorem makeAt_le {rs : List Hold} {s : Int} (h0 : 0 ≤ s) : (makeAt rs s).1 ≤ s := by
  unfold makeAt
  cases e : rs.reverse.find? fun q => decide (q.1 ≤ s) with
  | none => exact h0
  | some q =>
    have z := List.find?_some e
    exact of_decide_eq_true z
/-- what a put drafts is made at its stamp -/
theorem make_own {fs : Dr} {ps : List Pt} {j : Nat} {p : Pt} {k : Int} {o : Option Int} (pw : ps.Pairwise fun u v => u.1 < v.1) (nds : ∀ p ∈ ps, (p.2.2.map (·.1)).Nodup) (h : ps[j]? = some p) (h0 : 0 ≤ p.1) (hk' : fk p.2.2 k = some o) : makeAt (hk (mOf fs ps) k) p.1 = (p.1, p.2.1, o) := by
  rw [make_due h0 nds]
  have e : ps = ps.take j ++ (p :: ps.drop (j + 1)) := by
    obtain ⟨hj, e⟩ := List.getElem?_eq_some_iff.mp h
    rw [← e, ← List.drop_eq_getElem_cons hj, List.take_append_drop]
  have lt := late_lt pw h
  unfold dueM
  rw [e, List.foldl_append, List.foldl_cons]
  generalize (ps.take j).foldl (stepD k p.1) (firstM fs k) = d
  have e1 : stepD k p.1 d p = (p.1, p.2.1, o) := by
    unfold stepD
    rw [hk']
    exact if_pos (Int.le_refl _)
  rw [e1]
  generalize (p.1, p.2.1, o) = w
  generalize ps.drop (j + 1) = qs at lt
  induction qs generalizing w with
  | nil => rfl
  | cons q r ih =>
    have e2 : stepD k p.1 w q = w := by
      unfold stepD
      cases fk q.2.2 k with
      | none => rfl
      | some x => exact if_neg (by have := lt q List.mem_cons_self; omega)
    rw [List.foldl_cons, e2]
    exact ih w fun x hx => lt x (List.mem_cons_of_mem _ hx)
/-- the law's states: rows behind each put -/
structure Rx (H : Hp) (us : List V) (fs : Dr) (ps : List Pt) (n : Nat) (Ls : List Addr) : Prop where
  len : us.length = n + 1
  at_ : ∀ j, j ≤ n → ∃ t l ys, us[j]? = some (.ref t) ∧ l ∈ Ls ∧ H t = some (.tup [.int (whenP ps j), .ref l]) ∧ H l = some (.lst ys) ∧ Prt H ys (rowsM (heldA fs (ps.take j)))
theorem Rx.keep {H H' : Hp} {us : List V} {fs : Dr} {ps : List Pt} {n : Nat} {Ls : List Addr} (x : Rx H us fs ps n Ls) (k1 : ∀ b xs, H b = some (.tup xs) → H' b = some (.tup xs)) (k2 : ∀ b ys, b ∈ Ls → H b = some (.lst ys) → H' b = some (.lst ys)) : Rx H' us fs ps n Ls :=
  ⟨x.len, fun j hj => let ⟨t, l, ys, a, b, c, e, g⟩ := x.at_ j hj; ⟨t, l, ys, a, b, k1 _ _ c, k2 _ _ b e, g.keep k1⟩⟩
theorem Rx.same {H H' : Hp} {us : List V} {fs : Dr} {ps : List Pt} {n : Nat} {Ls : List Addr} (x : Rx H us fs ps n Ls) (s : Same H H') : Rx H' us fs ps n Ls := x.keep (fun _ _ e => s _ _ e) fun _ _ _ e => s _ _ e
theorem Rx.snoc {H : Hp} {us : List V} {fs : Dr} {ps : List Pt} {n : Nat} {Ls : List Addr} {t l : Addr} {ys : List V} (x : Rx H us fs ps n Ls) (h1 : H t = some (.tup [.int (whenP ps (n + 1)), .ref l])) (h2 : H l = some (.lst ys)) (h3 : Prt H ys (rowsM (heldA fs (ps.take (n + 1))))) : Rx H (us ++ [.ref t]) fs ps (n + 1) (l :: Ls) := by
  refine ⟨by rw [List.length_append, x.len]; rfl, fun j hj => ?_⟩
  rcases Nat.lt_or_eq_of_le hj with z | z
  · obtain ⟨t', l', ys', a, b, c⟩ := x.at_ j (by omega)
    exact ⟨t', l', ys', by rw [List.getElem?_append_left (by rw [x.len]; omega)]; exact a, List.mem_cons_of_mem _ b, c⟩
  · subst z
    refine ⟨t, l, ys, ?_, List.mem_cons_self, h1, h2, h3⟩
    rw [List.getElem?_append_right (by rw [x.len]; exact Nat.le_refl _), x.len, Nat.sub_self]
    rfl
theorem atI_end {xs : List V} {n : Nat} {v : V} (hl : xs.length = n + 1) (h : xs[n]? = some v) : atI xs (-1) = some v := by
  unfold atI ixN
  rw [if_neg (by decide), if_pos (by omega)]
  show xs[(-1 + (xs.length : Int)).toNat]? = some v
  rw [show (-1 + (xs.length : Int)).toNat = n by omega]
  exact h
def spLaidB : Sp := fun vs H Q _ => ∃ (r d : Addr) (ws : List V) (rs ds : Dr) (lo hi : Int) (U : List Int), vs = [.ref r, .ref d, .int lo, .int hi] ∧ H r = some (.lst ws) ∧ Prt H ws rs ∧ (rs.map (·.1)).Nodup ∧ Rd H d (.dK (dkv ds)) ∧ (ds.map (·.1)).Nodup ∧ U.length ≤ 120 ∧ (∀ x ∈ rs.map (·.1), x ∈ U) ∧ (∀ x ∈ ds.map (·.1), x ∈ U) ∧
  ∀ p ws' L H', H p = none → (∀ b o, b ≠ d → H b = some o → H' b = some o) → Rd H' d (.dK (dkv ds)) → H' p = some (.lst ws') → Prt H' ws' L → IsLaid rs ds lo hi L → Q (.ref p) H'
def spRowsL : Sp := fun vs H Q _ => ∃ (h : Addr) (M : Dr), vs = [.ref h] ∧ H h = some (.dK (dkv M)) ∧ M.length < 128 ∧ ∀ p H' ys, H p = none → Same H H' → H' p = some (.lst ys) → Prt H' ys (rowsM M) → Q (.ref p) H'
def spOver : Sp := fun vs H Q _ => ∃ (l d : Addr) (ys : List V) (L dr : Dr), vs = [.ref l, .ref d] ∧ H l = some (.lst ys) ∧ Prt H ys L ∧ (L.map (·.1)).Nodup ∧ L.length ≤ 120 ∧ dr.length ≤ 44 ∧ Rd H d (.dK (dkv dr)) ∧ (putsO L dr).length < 128 ∧ ∀ p H' ys, H p = none → Same H H' → H' p = some (.lst ys) → Prt H' ys (rowsM (putsO L dr)) → Q (.ref p) H'
def spMakesL (K : PySem.W.Frag) (C : Addr) : Sp := fun vs H Q _ => ∃ (x dx d : Addr) (kvs : List (Key × V)) (m : List (Int × List Hold)) (l d2 : Addr) (ys : List V) (L dr : Dr) (st dl : Int), vs = [.ref x, .ref l, .int st, .int dl, .ref d2] ∧ Hs K C H x dx d kvs m ∧ H l = some (.lst ys) ∧ Prt H ys L ∧ (∀ q ∈ L, q.2.isSome = true ∧ (makeAt (hk m q.1) st).2.2 = q.2) ∧ 0 ≤ st ∧ Rd H d2 (.dK (dkv dr)) ∧ d ≠ d2 ∧ (dr.map (·.1)).Nodup ∧ (∀ q ∈ dr, makeAt (hk m q.1) st = (st, dl, q.2)) ∧
  ∀ H' ob, (∀ b o, b ≠ d2 → H b = some o → H' b = some o) → H' d2 = some (.frz ob (.dK (dkv dr))) → Q (.bl true) H'
def spGrown (K : PySem.W.Frag) (C : Addr) : Sp := fun vs H Q _ => ∃ (x dx d : Addr) (kvs : List (Key × V)) (f pl : Addr) (fs : Dr) (ws : List V) (ps : List Pt) (U : Hp) (W : List Int), vs = [.ref x, .ref f, .ref pl] ∧ Hs K C H x dx d kvs (m0 fs) ∧ Same U H ∧ U d = none ∧ (∀ l, V.ref l ∈ kvs.map (·.2) → U l = none) ∧ U f = some (.dK (dkv fs)) ∧ U pl = some (.lst ws) ∧ Pts U ws ps ∧ Dw W fs ps ∧
  ∀ L H' kvs' us Ls, Hs K C H' x dx d kvs' (mOf fs ps) → Same U H' → H' L = some (.lst us) → Rx H' us fs ps ps.length Ls → Q (.ref L) H'
theorem Pts.ptr {H : Hp} {vs : List V} {ps : List Pt} (r : Pts H vs ps) : ∃ Ds, PtR H vs ps Ds ∧ ∀ x ∈ Ds, H x ≠ none := by
  induction r with
  | nil => exact ⟨[], .nil, fun x hx => by cases hx⟩
  | cons h g _ ih =>
    obtain ⟨Ds, a, b⟩ := ih
    refine ⟨_, .cons h (.inl g) a, fun x hx => ?_⟩
    rcases List.mem_cons.mp hx with z | z
    · rw [z, g]; simp
    · exact b x z
theorem held_when {W : List Int} {fs : Dr} {ps : List Pt} (D : Dw W fs ps) (j : Nat) (hj : j ≤ ps.length) : heldF (whenP ps j) fs ps = heldA fs (ps.take j) := by
  cases j with
  | zero =>
    refine heldF_cut 0 (fun p hp => by cases hp) fun p hp => ?_
    have := D.old p hp
    show ¬ p.1 ≤ 0
    omega
  | succ j =>
    obtain ⟨p, hp⟩ : ∃ p, ps[j]? = some p := ⟨_, List.getElem?_eq_getElem (by omega)⟩
    have ew : whenP ps (j + 1) = p.1 := by show (ps[j]?.map (·.1)).getD 0 = p.1; rw [hp]; rfl
    rw [ew]
    refine heldF_cut (j + 1) (when_le D.pw hp) fun q hq => ?_
    have := late_lt D.pw hp q hq
    omega
theorem when_pos {W : List Int} {fs : Dr} {ps : List Pt} (D : Dw W fs ps) (j : Nat) : 0 ≤ whenP ps j := by
  cases j with
  | zero => exact Int.le_refl _
  | succ j =>
    show 0 ≤ (ps[j]?.map (·.1)).getD 0
    cases e : ps[j]? with
    | none => exact Int.le_refl _
    | some p => exact Int.le_trans (by decide) (D.old p (List.mem_of_getElem? e))
theorem rows_make {W : List Int} {fs : Dr} {ps : List Pt} {j : Nat} (D : Dw W fs ps) (hj : j ≤ ps.length) : ∀ q ∈ rowsM (heldA fs (ps.take j)), q.2.isSome = true ∧ (makeAt (hk (mOf fs ps) q.1) (whenP ps j)).2.2 = q.2 := fun q hq => by
  refine ⟨rowsF_some q hq, ?_⟩
  rw [← held_due (when_pos D j) D.gw.nd, held_when D j hj]
  obtain ⟨k, o⟩ := q
  exact (rowsF_mem.mp hq).2.1.symm
theorem make_first {fs : Dr} {ps : List Pt} (nds : ∀ p ∈ ps, (p.2.2.map (·.1)).Nodup) (old : Old ps) {k : Int} {o : Option Int} (h : fk fs k = some o) : makeAt (hk (mOf fs ps) k) 0 = (0, 0, o) := by
  rw [make_due (Int.le_refl _) nds]
  unfold dueM firstM
  rw [h]
  show ps.foldl (stepD k 0) (0, 0, o) = (0, 0, o)
  clear nds
  induction ps with
  | nil => rfl
  | cons p r ih =>
    have e : stepD k 0 (0, 0, o) p = (0, 0, o) := by
      unfold stepD
      cases fk p.2.2 k with
      | none => rfl
      | some x => exact if_neg (by have := old p List.mem_cons_self; omega)
    rw [List.foldl_cons, e]
    exact ih fun q hq => old q (List.mem_cons_of_mem _ hq)
section
variable {P : Program} {w : World} {K : PySem.W.Frag} {mg : Str → Option Value} {base : Heap}
theorem ok_inside (T : Tx K mg) : FnOk P w K mg base CX0 1 T.f_inside T.d_inside ["key", "low", "high"] spIn := by
  refine T.F_inside.ok sc_inside (fun vs H Q E h => ?_) (fun cdv A outer s H vs Q E hr h => ?_)
  · obtain ⟨k, l, h, rfl, _⟩ := h
    rfl
  · obtain ⟨k, l, h, rfl, q⟩ := h
    refine ⟨_, (pss_one (ps_ret (pe_chain op_le op_le (pv 1) (pv 0) (pv 2)))), ?_⟩
    refine ⟨_, rfl, _, rfl, _, _, rfl, rfl, _, rfl, ite2 (fun e => ⟨_, rfl, _, _, rfl, rfl, ?_⟩) (fun e => ?_)⟩
    · have e1 : l ≤ k := of_decide_eq_true e
      rw [show decide (l ≤ k ∧ k ≤ h) = decide (k ≤ h) from decide_eq_decide.mpr (by omega)] at q
      exact q
    · have e1 : ¬ l ≤ k := fun z => e (decide_eq_true z)
      rw [show decide (l ≤ k ∧ k ≤ h) = false from decide_eq_false fun z => e1 z.1] at q
      exact q
theorem ok_laid (T : Tx K mg) : FnOk P w K mg base CX0 2 T.f_laid T.d_laid ["rows", "drafts", "low", "high"] spLaidB := by
  refine T.F_laid.ok sc_laid (fun vs H Q E h => ?_) (fun cdv A outer s H vs Q E hr h => ?_)
  · obtain ⟨r, d, ws, rs, ds, lo, hi, U, rfl, _⟩ := h
    rfl
  · obtain ⟨r, d, ws, rs, ds, lo, hi, U, rfl, hr1, hP, nr, hd1, nd, hU, kr, kd, q⟩ := h
    have hu := hu_of hr
    refine ⟨_, (pss_cons (ps_set (i := 4) sc_laid.nd rfl (Or.inr rfl) (pe_callTy (call_dictP (K := K) rfl rfl) (by rfl) T.z_dict boot_dict (pa_cons (pe_compF ["row"] rfl (CompSc.mk (fv := ["low", "high"]) (js := [2, 3]) rfl (by decide +kernel) (by decide +kernel) (by decide +kernel) (allc_cons (Or.inl rfl) (allc_cons (Or.inl rfl) allc_nil)) rfl (by decide +kernel)) (pi_list (pv 0)) (fun _ _ _ _ _ => (pg_name (i := 0) (show (["row", "low", "high"] : List Str).Nodup by decide +kernel) rfl (Or.inl rfl))) (fun _ _ _ _ _ => (pf_one (pt_val (pe_call ((ok_inside T).mono (by decide)) hr rfl T.m_inside T.F_inside.kp T.b_inside .nil pass0 (pa_cons (pe_ix (ix_tupK (K := K) rfl) (pv 0) pe_int (fun _ _ => rfl)) (pa_cons (pv 1) (pa_cons (pv 2) pa_nil))))))) (fun _ _ _ _ _ => (pv 0))) pa_nil)))
      (pss_cons (ps_for PassesOwn.never rfl (pi_items (pv 1)) (pg_tup rfl (pgs_cons (pg_name (i := 5) sc_laid.nd rfl (Or.inl rfl)) (pgs_cons (pg_name (i := 6) sc_laid.nd rfl (Or.inl rfl)) pgs_nil)))
      (pss_one (ps_if (pt_val (pe_call ((ok_inside T).mono (by decide)) hr rfl T.m_inside T.F_inside.kp T.b_inside .nil pass0 (pa_cons (pv 5) (pa_cons (pv 2) (pa_cons (pv 3) pa_nil)))))
      (pss_one (ps_dput hu (pv 4) (pv 5) (pv 6) rfl))
      pss_nil)))
      (pss_one (ps_ret (pe_compF ["key"] rfl (CompSc.mk (fv := ["values"]) (js := [4]) rfl (by decide +kernel) (by decide +kernel) (by decide +kernel) (allc_cons (Or.inl rfl) allc_nil) rfl (by decide +kernel)) (pi_list (pe_callB (call_sortedB rfl) (by rfl) T.z_sorted boot_sorted (pa_cons (pv 4) pa_nil))) (fun _ _ _ _ _ => (pg_name (i := 0) (show (["key", "values"] : List Str).Nodup by decide +kernel) rfl (Or.inl rfl))) (fun _ _ _ _ _ => (pf_one (pt_cmpR op_notN (pe_dget hu (pv 1) (pv 0) (fun _ _ => rfl)) pe_non (nomark _)))) (fun _ _ _ _ _ => (pe_tup (pa_cons (pv 0) (pa_cons (pe_dget hu (pv 1) (pv 0) (fun _ _ => rfl)) pa_nil))))))))), ?_⟩
    have n0 : ((rs.filter fun q => insB lo hi q.1).map (·.1)).Nodup := nr.sublist (List.Sublist.map _ List.filter_sublist)
    have hwl : ws.length = rs.length := hP.len
    have rl : rs.length ≤ 120 := by
      have := nodup_len nr kr
      rw [List.length_map] at this
      omega
    have dl : ds.length ≤ 120 := by
      have := nodup_len nd kd
      rw [List.length_map] at this
      omega
    have hzl : (ws.zip rs).length = ws.length := by rw [List.length_zip, hwl, Nat.min_self]
    refine ⟨_, rfl, r, rfl, ⟨_, SqL.of hr1⟩, ?_⟩
    refine compQF_map (k := 1) (fs := [some (.int lo), some (.int hi)]) (ws.zip rs).length (fun i => (fun x : V × Int × Option Int => if insB lo hi x.2.1 = true then some x.1 else none) ((ws.zip rs).getD i (.non, (0, none)))) rfl (by rw [hzl, hwl]; exact Nat.le_trans rl (by decide)) (fun i H2 s2 hlt => ⟨ws, _, SqL.of (s2 _ _ hr1), List.getElem?_eq_getElem (by omega)⟩) (fun H2 s2 => ⟨ws, SqL.of (s2 _ _ hr1), by omega⟩) ?_ ?_
    · rintro i H2 ts v H' R s2 hlt ht ⟨rfl, hv⟩ cb
      have ev := hv ws (SqL.of (s2 _ _ hr1))
      obtain ⟨t, k, o, rfl, eL, hT⟩ := hP.get ev
      have ez : (ws.zip rs).getD i (.non, (0, none)) = (.ref t, (k, o)) := by
        rw [List.getD_eq_getElem?_getD, List.getElem?_zip_eq_some (z := (V.ref t, (k, o))) |>.mpr ⟨ev, eL⟩]
        rfl
      match ts, ht with
      | [t0], _ =>
        refine ⟨_, rfl, t, _, _, _, rfl, rfl, SqT.of (s2 _ _ hT), atI_nat (j := 0) rfl, _, rfl, _, rfl, k, lo, hi, rfl, _, rfl, ?_⟩
        have c2 := cb [some (.ref t)] _ rfl (Same.refl _)
        rw [ez] at c2
        show if insB lo hi k = true then _ else _
        by_cases e : insB lo hi k = true
        · rw [if_pos e]
          dsimp only at c2
          rw [if_pos e] at c2
          exact ⟨_, rfl, c2⟩
        · rw [if_neg e]
          dsimp only at c2
          rw [if_neg e] at c2
          exact c2
    · intro D H2 hD s2 h2
      have eg := range_gather (ws.zip rs) (V.non, ((0 : Int), (none : Option Int))) (fun x : V × Int × Option Int => if insB lo hi x.2.1 = true then some x.1 else none)
      rw [show _ = _ from congrArg (fun z => some (HO.lst z)) eg] at h2
      have hP2 : Prt H2 _ (rs.filter fun q => insB lo hi q.1) := (hP.same s2).sel (insB lo hi)
      refine ⟨D, _, dkv (rs.filter fun q => insB lo hi q.1), rfl, h2, hP2.prs, ?_, fun p hp => ?_⟩
      · unfold dkv
        rw [List.length_map]
        exact Nat.lt_of_le_of_lt (List.length_filter_le _ _) (Nat.lt_of_le_of_lt rl (by decide))
      have e0 : putAllK [] (dkv (rs.filter fun q => insB lo hi q.1)) = dkv (rs.filter fun q => insB lo hi q.1) := putAll_dkv _ [] n0
      rw [e0]
      have s3 := s2.trans (Same.upd (o := HO.dK (dkv (rs.filter fun q => insB lo hi q.1))) hp)
      have dp : p ≠ d := fun z => by
        have hp0 := same_none s2 hp
        rcases hd1 with e | ⟨ob, e⟩ <;> (rw [z, e] at hp0; cases hp0)
      have hd3 : Rd (upd H2 p (.dK (dkv (rs.filter fun q => insB lo hi q.1)))) d (.dK (dkv ds)) := hd1.imp (s3 _ _) fun ⟨ob, e⟩ => ⟨ob, s3 _ _ e⟩
      refine ⟨_, rfl, d, dkv ds, rfl, hd3, fun ob H4 h4 k4 m4 => ?_⟩
      have hp4 : H4 p = some (.dK (dkv (rs.filter fun q => insB lo hi q.1))) := k4 _ _ dp upd_same
      have hp0 : H p = none := same_none s2 hp
      refine for_items (d := d) (ob := ob) (kvs := dkv ds) (fun i σ H5 => ∃ x5 x6, σ = [some (.ref r), some (.ref d), some (.int lo), some (.int hi), some (.ref p), x5, x6] ∧ H5 p = some (.dK (dkv ((ds.take i).foldl (layO lo hi) (rs.filter fun q => insB lo hi q.1)))) ∧ (∀ b o, b ≠ p → H4 b = some o → H5 b = some o))
        ⟨none, none, rfl, hp4, fun b o _ e => e⟩ (fun i σ H5 ⟨_, _, _, _, k5⟩ => k5 _ _ (Ne.symm dp) h4) ?_ ?_
      · rintro i kk x σ H5 t hx ⟨x5, x6, rfl, h5, k5⟩ ht
        have hlt : i < ds.length := by
          have := (List.getElem?_eq_some_iff.mp hx).1
          unfold dkv at this
          rwa [List.length_map] at this
        obtain ⟨⟨fk0, fv⟩, hf'⟩ : ∃ q, ds[i]? = some q := ⟨_, List.getElem?_eq_getElem hlt⟩
        have ex : (dkv ds)[i]? = some (Sum.inl fk0, ov fv) := by unfold dkv; rw [List.getElem?_map, hf']; rfl
        rw [ex] at hx
        cases hx
        have tk : (ds.take (i + 1)).foldl (layO lo hi) (rs.filter fun q => insB lo hi q.1) = layO lo hi ((ds.take i).foldl (layO lo hi) (rs.filter fun q => insB lo hi q.1)) (fk0, fv) := by
          rw [List.take_add_one, hf', List.foldl_append]
          rfl
        have sp := Same.upd (o := HO.tup [kV (Sum.inl fk0 : Key), ov fv]) ht
        have pt : p ≠ t := fun z => by rw [← z, h5] at ht; cases ht
        refine ⟨t, _, rfl, SqT.of upd_same, rfl, _, _, rfl, _, _, rfl, rfl, ?_⟩
        refine ⟨_, rfl, _, rfl, _, rfl, fk0, lo, hi, rfl, _, rfl, ?_⟩
        rw [tk]
        show if insB lo hi fk0 = true then _ else _
        by_cases e : insB lo hi fk0 = true
        · rw [if_pos e, show layO lo hi ((ds.take i).foldl (layO lo hi) (rs.filter fun q => insB lo hi q.1)) (fk0, fv) = putO ((ds.take i).foldl (layO lo hi) (rs.filter fun q => insB lo hi q.1)) fk0 fv from if_pos e]
          refine ⟨_, rfl, _, rfl, _, rfl, p, _, rfl, DPut.k (k := Sum.inl fk0) (v := ov fv) (sp _ _ h5) ?_, _, _, rfl, ?_, ?_⟩
          · unfold dkv
            rw [List.length_map, ← List.length_map (f := (·.1))]
            refine Nat.lt_of_le_of_lt (nodup_len (lay_nd lo hi _ _ n0) (U := U) (lay_keys lo hi _ _ (fun x hx => kd x (List.mem_map.mpr ?_)) fun x hx => kr x ((List.Sublist.map _ List.filter_sublist).subset hx))) (Nat.lt_of_le_of_lt hU (by decide))
            obtain ⟨q, hq, e2⟩ := List.mem_map.mp hx
            exact ⟨q, List.mem_of_mem_take hq, e2⟩
          · rw [dkv_put]
            exact upd_same
          · intro b o hb eb
            rw [upd_ne hb]
            exact sp _ _ (k5 b o hb eb)
        · rw [if_neg e, show layO lo hi ((ds.take i).foldl (layO lo hi) (rs.filter fun q => insB lo hi q.1)) (fk0, fv) = (ds.take i).foldl (layO lo hi) (rs.filter fun q => insB lo hi q.1) from if_neg e]
          exact ⟨_, _, rfl, sp _ _ h5, fun b o hb eb => sp _ _ (k5 b o hb eb)⟩
      · rintro σ H5 ⟨x5, x6, rfl, h5, k5⟩
        rw [show (dkv ds).length = ds.length from List.length_map _, List.take_length] at h5
        have mnd := lay_nd lo hi ds _ n0
        have mlen := nodup_len mnd (U := U) (lay_keys lo hi _ _ kd fun x hx => kr x ((List.Sublist.map _ List.filter_sublist).subset hx))
        have res := laid_is (lo := lo) (hi := hi) nr nd
        generalize ds.foldl (layO lo hi) (rs.filter fun q => insB lo hi q.1) = M at h5 mnd mlen res
        have keep5 : ∀ b o, b ≠ d → H b = some o → H5 b = some o := fun b o hb e => k5 b o (fun z => by rw [z, hp0] at e; cases e) (k4 b o hb (s3 _ _ e))
        have d5 : H5 d = some (.frz ob (.dK (dkv ds))) := k5 _ _ (Ne.symm dp) h4
        refine ⟨_, rfl, p, dkv M, M.map (·.1), rfl, h5, dkv_keys M, by omega, fun l hl => ⟨l, rfl, ⟨_, SqL.of upd_same⟩, ?_⟩⟩
        have s6 := Same.upd (o := HO.lst ((risen (M.map (·.1))).map V.int)) hl
        have hsl : (risen (M.map (·.1))).length ≤ 120 := by rw [(risen_perm _).length_eq]; omega
        have hin : ∀ k ∈ risen (M.map (·.1)), k ∈ M.map (·.1) := fun k hk => (risen_perm _).mem_iff.mp hk
        generalize risen (M.map (·.1)) = sk at s6 hsl hin res
        refine compQF_rows (k := 1) (fs := [some (.ref p)]) sk.length (fun i => (fun k => rowAt (fk M k) k) (sk.getD i 0)) rfl (Nat.le_trans hsl (by decide)) (fun i H7 s7 hlt => ⟨sk.map V.int, _, SqL.of (s7 _ _ upd_same), List.getElem?_eq_getElem (by rw [List.length_map]; exact hlt)⟩) (fun H7 s7 => ⟨sk.map V.int, SqL.of (s7 _ _ upd_same), by rw [List.length_map]; exact Nat.le_refl _⟩) ?_ ?_
        · rintro i H7 ts v H' R s7 hlt ht ⟨rfl, hv⟩ c0 c1
          have ev := hv (sk.map V.int) (SqL.of (s7 _ _ upd_same))
          rw [List.getElem?_map] at ev
          obtain ⟨k, ek, rfl⟩ := Option.map_eq_some_iff.mp ev
          have egd : sk.getD i 0 = k := by rw [List.getD_eq_getElem?_getD, ek]; rfl
          rw [egd] at c0 c1
          dsimp only at c0 c1
          have hM7 := s7 _ _ (s6 _ _ h5)
          obtain ⟨o, eo⟩ : ∃ o, fk M k = some o := by
            cases e : fk M k with
            | some o => exact ⟨o, rfl⟩
            | none => exact absurd (hin k (List.mem_of_getElem? ek)) (fk_none.mp e)
          have hg : valV (dkv M) (Sum.inl k : Key) = some (ov o) := by rw [fk_val, eo]; rfl
          rw [eo] at c0 c1
          match ts, ht with
          | [t0], _ =>
            refine ⟨_, rfl, _, rfl, p, _, rfl, dget_of hM7 hg, rfl, _, rfl, ?_⟩
            cases o with
            | none =>
              show if (!decide (ov none = V.non)) = true then _ else _
              rw [if_neg (by simp [ov])]
              exact c0 rfl [some (.int k)] _ rfl (Same.refl _)
            | some x =>
              show if (!decide (ov (some x) = V.non)) = true then _ else _
              rw [if_pos (by simp [ov])]
              refine ⟨_, rfl, _, rfl, _, rfl, p, _, rfl, dget_of hM7 hg, (by show 2 ≤ sizeLine; decide), fun t ht => ?_⟩
              exact c1 k (some x) rfl t [some (.int k)] _ upd_same rfl (Same.upd ht)
        · intro D H8 ys hD s8 h8 hP8
          have eg := range_gather sk 0 (fun k => rowAt (fk M k) k)
          rw [eg] at hP8
          have s68 := s6.trans s8
          refine q D ys _ H8 ?_ (fun b o hb e => s68 _ _ (keep5 b o hb e)) (.inr ⟨ob, s68 _ _ d5⟩) h8 hP8 res
          have hD5 := same_none s6 hD
          cases e : H D with
          | none => rfl
          | some o =>
            by_cases z : D = d
            · rw [z, d5] at hD5; cases hD5
            · rw [keep5 D o z e] at hD5; cases hD5
theorem ok_Shelfinit (T : Tx K mg) : FnOk P w K mg base CX0 1 T.f_Shelfinit T.d_Shelfinit ["self", "rows"] (spInit K T.c_Shelf) := by
  refine T.F_Shelfinit.ok sc_Shelfinit (fun vs H Q E h => ?_) (fun cdv A outer s H vs Q E hr h => ?_)
  · obtain ⟨a, dx, r, fs, rfl, _⟩ := h
    rfl
  · obtain ⟨a, dx, r, fs, rfl, ha, hrd, nd, hlen, k⟩ := h
    have hu := hu_of hr
    refine ⟨_, (pss_cons (ps_fld (pv 0) pe_dnewK rfl)
      (pss_one (ps_for PassesOwn.never rfl (pi_items (pv 1)) (pg_tup rfl (pgs_cons (pg_name (i := 2) sc_Shelfinit.nd rfl (Or.inl rfl)) (pgs_cons (pg_name (i := 3) sc_Shelfinit.nd rfl (Or.inl rfl)) pgs_nil)))
      (pss_one (ps_dput hu (pe_fldK (K := K) rfl (pv 0) rfl) (pv 2) (pe_lst (pa_cons (pe_tup (pa_cons pe_int (pa_cons (pe_glob (v := V.int 0) rfl T.m_START ⟨_, rfl⟩) (pa_cons (pv 3) pa_nil)))) pa_nil)) rfl))))), ?_⟩
    intro d hd
    have ad : a ≠ d := fun z => by rw [z, hd] at ha; cases ha
    refine ⟨_, rfl, a, _, dx, [], rfl, (by rw [upd_ne ad]; exact ha), T.cl_Shelf, T.na_Shelf_makes, (by show 0 < 1000; decide), ?_⟩
    have rd : r ≠ d := fun z => by rcases hrd with e | ⟨o, e⟩ <;> (rw [z, hd] at e; cases e)
    have ra : r ≠ a := fun z => by rcases hrd with e | ⟨o, e⟩ <;> (rw [z, ha] at e; cases e)
    have kp0 : ∀ b o, H b = some o → b ≠ a → upd (upd H d (.dK [])) a (.ins T.c_Shelf dx (putF "makes" (.ref d) [])) b = some o := fun b o e n => by rw [upd_ne n, upd_ne fun z => by rw [z, hd] at e; cases e]; exact e
    refine ⟨_, rfl, r, dkv fs, rfl, ?_, fun ob H1 h1 k1 n1 => ?_⟩
    · rcases hrd with e | ⟨o, e⟩
      · exact .inl (kp0 _ _ e ra)
      · exact .inr ⟨o, kp0 _ _ e ra⟩
    have ha1 := k1 a _ (Ne.symm ra) upd_same
    have hd1 := k1 d (.dK []) (Ne.symm rd) (by rw [upd_ne (Ne.symm ad), upd_same])
    have kp1 : ∀ b o, H b = some o → b ≠ a → b ≠ r → H1 b = some o := fun b o e n n2 => k1 _ _ n2 (kp0 b o e n)
    have fr1 : ∀ l, H1 l = none → H l = none := fun l z => by
      cases e : H l with
      | none => rfl
      | some o =>
        by_cases l1 : l = a
        · rw [l1, ha1] at z; cases z
        · by_cases l2 : l = r
          · rw [l2, h1] at z; cases z
          · rw [kp1 l o e l1 l2] at z; cases z
    refine for_items (d := r) (ob := ob) (kvs := dkv fs) (fun i σ H2 => ∃ kvs2 x2 x3, σ = [some (.ref a), some (.ref r), x2, x3] ∧ Hs K T.c_Shelf H2 a dx d kvs2 ((fs.take i).map fun q => (q.1, [(0, 0, q.2)])) ∧ (∀ b o, H1 b = some o → b ≠ d → H2 b = some o) ∧ ∀ l, V.ref l ∈ kvs2.map (·.2) → H1 l = none)
      ⟨[], none, none, rfl, ⟨ha1, hd1, .nil, (by show 0 < 1000; decide), (fun q hq => by cases hq), (fun q hq => by cases hq), .nil, .nil⟩, fun b o e _ => e, fun l z => by cases z⟩ (fun i σ H2 ⟨_, _, _, _, _, kp, _⟩ => kp _ _ h1 rd) ?_ ?_
    · rintro i kk x σ H2 p hx ⟨kvs2, x2, x3, rfl, hs2, kp, nw⟩ hp
      have hi : i < fs.length := by
        have := (List.getElem?_eq_some_iff.mp hx).1
        unfold dkv at this
        rwa [List.length_map] at this
      obtain ⟨⟨fk, fv⟩, hf'⟩ : ∃ q, fs[i]? = some q := ⟨_, List.getElem?_eq_getElem hi⟩
      have ex : (dkv fs)[i]? = some (Sum.inl fk, ov fv) := by unfold dkv; rw [List.getElem?_map, hf']; rfl
      rw [ex] at hx
      cases hx
      have tk : fs.take (i + 1) = fs.take i ++ [(fk, fv)] := by rw [List.take_add_one, hf']; rfl
      have nm : fk ∉ ((fs.take i).map fun q => (q.1, [((0 : Int), (0 : Int), q.2)])).map (·.1) := by
        intro z
        rw [List.map_map] at z
        obtain ⟨q, hq, e⟩ := List.mem_map.mp z
        have es : fs = fs.take i ++ (fk, fv) :: fs.drop (i + 1) := by
          have h2 := (List.getElem?_eq_some_iff.mp hf')
          conv => lhs; rw [← List.take_append_drop i fs]
          rw [List.drop_eq_getElem_cons h2.1, h2.2]
        rw [es, List.map_append, List.map_cons] at nd
        exact (List.nodup_append.mp nd).2.2 fk (List.mem_map.mpr ⟨q, hq, e⟩) fk List.mem_cons_self rfl
      refine ⟨p, _, rfl, SqT.of upd_same, rfl, _, _, rfl, _, _, rfl, rfl, ?_⟩
      have sp := Same.upd (o := HO.tup [kV (Sum.inl fk : Key), ov fv]) hp
      refine ⟨_, rfl, (by show 3 ≤ sizeLine; decide), fun t ht => ⟨(by show 1 ≤ sizeLine; decide), fun l hl => ?_⟩⟩
      have s3 := (sp.trans (Same.upd (o := HO.tup [.int 0, .int 0, ov fv]) ht)).trans (Same.upd (o := HO.lst [.ref t]) hl)
      have hs3 := hs2.same s3
      have l0 : H2 l = none := same_none (sp.trans (Same.upd (o := HO.tup [.int 0, .int 0, ov fv]) ht)) hl
      have t0 : H2 t = none := same_none sp ht
      have ld : l ≠ d := fun z => by rw [z, hs2.dict] at l0; cases l0
      have td : t ≠ d := fun z => by rw [z, hs2.dict] at t0; cases t0
      have tl : t ≠ l := fun z => by rw [← z, upd_same] at hl; cases hl
      have el : ((fs.take i).map fun q => (q.1, [((0 : Int), (0 : Int), q.2)])).length ≤ 100 := by rw [List.length_map, List.length_take]; omega
      refine ⟨_, rfl, a, _, dx, _, _, rfl, hs3.obj, T.cl_Shelf, T.na_Shelf_makes, rfl, _, rfl, d, _, rfl, DPut.k (k := Sum.inl fk) hs3.dict (by rw [hs3.ent.len]; exact Nat.lt_of_le_of_lt el (by decide)), putK kvs2 (Sum.inl fk : Key) (.ref l), _, _, rfl, ?_, ?_, ?_⟩
      · rw [tk, List.map_append]
        have := hs2.snoc (l := l) (t := t) (x := 0) (y := 0) (o := fv) nm l0 (H4 := upd (upd (upd (upd H2 p (.tup [kV (Sum.inl fk : Key), ov fv])) t (.tup [.int 0, .int 0, ov fv])) l (.lst [.ref t])) d (.dK (putK kvs2 (Sum.inl fk) (.ref l)))) upd_same (by rw [upd_ne ld, upd_same]) (by rw [upd_ne td, upd_ne tl, upd_same]) (fun b u n e => by rw [upd_ne n]; exact s3 _ _ e) (by omega)
        rw [addH_new nm, ← putK_new (hs2.ent.none_at nm)] at this
        exact this
      · intro b o e n
        rw [upd_ne n]
        exact s3 _ _ (kp b o e n)
      · intro l1 z
        have hput := putK_new (l := l) (hs2.ent.none_at nm)
        rw [hput, List.map_append] at z
        rcases List.mem_append.mp z with z | z
        · exact nw l1 z
        · have e1 : l1 = l := by simpa using z
          rw [e1]
          cases e : H1 l with
          | none => rfl
          | some o => rw [kp l o e ld] at l0; cases l0
    · rintro σ H2 ⟨kvs2, x2, x3, rfl, hs2, kp, nw⟩
      have el : (dkv fs).length = fs.length := List.length_map _
      rw [el, List.take_length] at hs2
      exact k H2 d kvs2 ob hs2 (fun b o e n n2 => kp _ _ (kp1 b o e n n2) fun z => by rw [z, hd] at e; cases e) (fun l z => fr1 l (nw l z)) hd (kp _ _ h1 rd)
theorem ok_Shelfput (T : Tx K mg) : FnOk P w K mg base CX0 1 T.f_Shelfput T.d_Shelfput ["self", "stamp", "dealing", "drafts"] (spPut K T.c_Shelf) := by
  refine T.F_Shelfput.ok sc_Shelfput (fun vs H Q E h => ?_) (fun cdv A outer s H vs Q E hr h => ?_)
  · obtain ⟨a, dx, d, r, kvs, m, st, dl, dr, rfl, _⟩ := h
    rfl
  · obtain ⟨a, dx, d, r, kvs, m, st, dl, dr, rfl, hs, hrd, rd, hlen, hfew, hshort, k⟩ := h
    have hu := hu_of hr
    refine ⟨_, (pss_one (ps_for PassesOwn.never rfl (pi_items (pv 3)) (pg_tup rfl (pgs_cons (pg_name (i := 4) sc_Shelfput.nd rfl (Or.inl rfl)) (pgs_cons (pg_name (i := 5) sc_Shelfput.nd rfl (Or.inl rfl)) pgs_nil)))
      (pss_one (ps_expr (pe_bm PySem.F.plainAttrs_list PySem.F.slot_list_append PySem.F.type_list_append mt_append (pe_dset (pe_fldK (K := K) rfl (pv 0) rfl) (pv 4) (pe_lst pa_nil) ⟨rfl, rfl, rfl, rfl⟩) (pa_cons (pe_tup (pa_cons (pv 1) (pa_cons (pv 2) (pa_cons (pv 5) pa_nil)))) pa_nil)))))), ?_⟩
    have ra : r ≠ a := fun z => by rcases hrd with e | ⟨o, e⟩ <;> (rw [z, hs.obj] at e; cases e)
    have rl : V.ref r ∉ kvs.map (·.2) := fun z => by
      obtain ⟨vs, e0⟩ := hs.ent.tracked z
      rcases hrd with e | ⟨o, e⟩ <;> (rw [e0] at e; cases e)
    refine ⟨_, rfl, r, dkv dr, rfl, hrd, fun ob H1 h1 k1 n1 => ?_⟩
    have hs1 : Hs K T.c_Shelf H1 a dx d kvs m := ⟨k1 _ _ (Ne.symm ra) hs.obj, k1 _ _ (Ne.symm rd) hs.dict, hs.ent.but2 fun b o e hb => k1 b o (fun z => by
      rw [z] at e
      rcases hrd with e1 | ⟨o1, e1⟩ <;> (rw [e1] at e; cases e; rcases hb with ⟨_, z⟩ | ⟨_, z⟩ <;> cases z)) e, hs.few, hs.short, hs.full, hs.keys, hs.vals⟩
    have fr1 : ∀ l, H1 l = none → H l = none := fun l z => by
      cases e : H l with
      | none => rfl
      | some o =>
        by_cases l2 : l = r
        · rw [l2, h1] at z; cases z
        · rw [k1 l o l2 e] at z; cases z
    refine for_items (d := r) (ob := ob) (kvs := dkv dr) (fun i σ H2 => ∃ kvs2 x2 x3, σ = [some (.ref a), some (.int st), some (.int dl), some (.ref r), x2, x3] ∧ Hs K T.c_Shelf H2 a dx d kvs2 (putAll m st dl (dr.take i)) ∧ (∀ b o, H1 b = some o → b ≠ d → V.ref b ∉ kvs.map (·.2) → H2 b = some o) ∧ (∀ l, V.ref l ∈ kvs2.map (·.2) → V.ref l ∈ kvs.map (·.2) ∨ H1 l = none) ∧ (putAll m st dl (dr.take i)).length ≤ m.length + i ∧ ∀ q ∈ putAll m st dl (dr.take i), q.2.length ≤ 900 + i)
      ⟨kvs, none, none, rfl, hs1, (fun b o e _ _ => e), (fun l z => .inl z), Nat.le_refl _, hshort⟩ (fun i σ H2 ⟨_, _, _, _, _, kp, _⟩ => kp _ _ h1 rd rl) ?_ ?_
    · rintro i kk x σ H2 p hx ⟨kvs2, x2, x3, rfl, hs2, kp, nw, b1, b2⟩ hp
      have hi : i < dr.length := by
        have := (List.getElem?_eq_some_iff.mp hx).1
        unfold dkv at this
        rwa [List.length_map] at this
      obtain ⟨⟨fk, fv⟩, hf'⟩ : ∃ q, dr[i]? = some q := ⟨_, List.getElem?_eq_getElem hi⟩
      have ex : (dkv dr)[i]? = some (Sum.inl fk, ov fv) := by unfold dkv; rw [List.getElem?_map, hf']; rfl
      rw [ex] at hx
      cases hx
      have tk : dr.take (i + 1) = dr.take i ++ [(fk, fv)] := by rw [List.take_add_one, hf']; rfl
      have pk : putAll m st dl (dr.take (i + 1)) = addH (putAll m st dl (dr.take i)) fk (st, dl, fv) := by unfold putAll; rw [tk, List.foldl_append]; rfl
      refine ⟨p, _, rfl, SqT.of upd_same, rfl, _, _, rfl, _, _, rfl, rfl, ?_⟩
      have sp := Same.upd (o := HO.tup [kV (Sum.inl fk : Key), ov fv]) hp
      have hs3 := hs2.same sp
      refine ⟨_, rfl, a, _, dx, _, _, rfl, hs3.obj, T.cl_Shelf, T.na_Shelf_makes, rfl, d, rfl, .inl ⟨kvs2, .inl hs3.dict⟩, _, rfl, (by show 0 ≤ sizeLine; decide), fun l0 hl0 => ?_⟩
      have s4 := sp.trans (Same.upd (o := HO.lst []) hl0)
      have hs4 := hs2.same s4
      have kl : kvs2.length < sizeLine := by rw [hs2.ent.len]; exact Nat.lt_trans hs2.few (by decide)
      refine ⟨kvs2, Sum.inl fk, hs4.dict, rfl, kl, fun v hv => ?_, fun hv => ?_⟩
      · have hmem : fk ∈ (putAll m st dl (dr.take i)).map (·.1) := Classical.byContradiction fun z => by rw [hs4.ent.none_at z] at hv; cases hv
        obtain ⟨l, us, v1, v2, v3⟩ := hs4.ent.at_ hmem
        rw [hv] at v1
        cases v1
        refine ⟨.inl ⟨rfl, _, SqL.of v2⟩, _, rfl, _, rfl, _, rfl, (by show 3 ≤ sizeLine; decide), fun t ht => ?_⟩
        have s5 := s4.trans (Same.upd (o := HO.tup [.int st, .int dl, ov fv]) ht)
        have hs5 := hs2.same s5
        have ul : us.length < sizeLine := by rw [v3.len]; exact Nat.lt_trans (hk_short hs2.short fk) (by decide)
        have lt : t ≠ l := fun z => by rw [z, v2] at ht; cases ht
        refine ⟨l, us, .ref t, rfl, rfl, (by rw [upd_ne (Ne.symm lt)]; exact v2), ul, kvs2, _, _, rfl, ?_, ?_, nw, ?_, ?_⟩
        · rw [pk]
          exact hs5.push hmem hv (by rw [upd_ne (Ne.symm lt)]; exact v2) upd_same (by rw [upd_ne lt, upd_same]) (fun b u n e => by rw [upd_ne n]; exact e) (fun q hq => by have := b2 q hq; omega)
        · intro b o e n n2
          by_cases bl : b = l
          · rcases nw l (hs2.ent.val_mem hv) with z | z
            · exact absurd (bl ▸ z) n2
            · rw [← bl, e] at z; cases z
          · rw [upd_ne bl]
            exact s5 _ _ (kp b o e n n2)
        · rw [pk]
          have := addH_len (m := putAll m st dl (dr.take i)) (k := fk) (r := (st, dl, fv))
          omega
        · rw [pk]
          exact addH_short b2
      · have hmem : fk ∉ (putAll m st dl (dr.take i)).map (·.1) := fun z => by
          obtain ⟨l, us, v1, _, _⟩ := hs4.ent.at_ z
          rw [v1] at hv
          cases hv
        have l2 : H2 l0 = none := same_none sp hl0
        have nd0 : l0 ≠ d := fun z => by rw [z, hs2.dict] at l2; cases l2
        refine ⟨.inl ⟨rfl, [], SqL.of (by rw [upd_ne nd0, upd_same])⟩, _, rfl, _, rfl, _, rfl, (by show 3 ≤ sizeLine; decide), fun t ht => ?_⟩
        have tl : t ≠ l0 := fun z => by rw [z, upd_ne nd0, upd_same] at ht; cases ht
        have td : t ≠ d := fun z => by rw [z, upd_same] at ht; cases ht
        have t2 : H2 t = none := by rw [upd_ne td, upd_ne tl] at ht; exact same_none sp ht
        have keep : ∀ b u, b ≠ d → H2 b = some u → upd (upd (upd (upd (upd H2 p (.tup [kV (Sum.inl fk : Key), ov fv])) l0 (.lst [])) d (.dK (putK kvs2 (Sum.inl fk : Key) (.ref l0)))) t (.tup [.int st, .int dl, ov fv])) l0 (.lst ([] ++ [.ref t])) b = some u := fun b u n e => by
          have c1 : b ≠ l0 := fun z => by rw [z, l2] at e; cases e
          have c2 : b ≠ t := fun z => by rw [z, t2] at e; cases e
          rw [upd_ne c1, upd_ne c2, upd_ne n, upd_ne c1]
          exact sp _ _ e
        refine ⟨l0, [], .ref t, rfl, rfl, (by rw [upd_ne (Ne.symm tl), upd_ne nd0, upd_same]), (by decide), putK kvs2 (Sum.inl fk : Key) (.ref l0), _, _, rfl, ?_, (fun b o e n n2 => keep _ _ n (kp b o e n n2)), ?_, ?_, ?_⟩
        · rw [pk]
          have e := hs2.snoc (x := st) (y := dl) (o := fv) (t := t) hmem l2 (by rw [upd_ne (Ne.symm nd0), upd_ne (Ne.symm td), upd_same]) upd_same (by rw [upd_ne tl, upd_same]) keep (by omega)
          rw [← putK_new (hs2.ent.none_at hmem)] at e
          exact e
        · intro l1 z
          rw [putK_new hv, List.map_append] at z
          rcases List.mem_append.mp z with z | z
          · exact nw l1 z
          · have e1 : l1 = l0 := by simpa using z
            rw [e1]
            by_cases z2 : V.ref l0 ∈ kvs.map (·.2)
            · exact .inl z2
            · refine .inr ?_
              cases e : H1 l0 with
              | none => rfl
              | some o => rw [kp l0 o e nd0 z2] at l2; cases l2
        · rw [pk]
          have := addH_len (m := putAll m st dl (dr.take i)) (k := fk) (r := (st, dl, fv))
          omega
        · rw [pk]
          exact addH_short b2
    · rintro σ H2 ⟨kvs2, x2, x3, rfl, hs2, kp, nw, _, _⟩
      have el : (dkv dr).length = dr.length := List.length_map _
      rw [el, List.take_length] at hs2
      exact k H2 kvs2 ob hs2 (fun b o e n n2 n3 => kp _ _ (k1 b o n2 e) n n3) (fun l z => (nw l z).imp_right (fr1 l)) (kp _ _ h1 rd rl)
theorem ok_Shelfmake (T : Tx K mg) : FnOk P w K mg base CX0 1 T.f_Shelfmake T.d_Shelfmake ["self", "key", "stamp"] (spMake K T.c_Shelf) := by
  refine T.F_Shelfmake.ok sc_Shelfmake (fun vs H Q E h => ?_) (fun cdv A outer s H vs Q E hr h => ?_)
  · obtain ⟨a, dx, d, kvs, m, k, st, rfl, _⟩ := h
    rfl
  · obtain ⟨a, dx, d, kvs, m, key, st, rfl, hs, k⟩ := h
    have hu := hu_of hr
    refine ⟨_, (pss_cons (ps_for PassesOwn.never rfl (pi_rev rfl T.z_reversed (pa_cons (pe_dget2 hu (pe_fldK (K := K) rfl (pv 0) rfl) (pv 1) (pe_lst pa_nil) ⟨rfl, rfl, rfl, rfl⟩) pa_nil)) (pg_name (i := 3) sc_Shelfmake.nd rfl (Or.inl rfl))
      (pss_one (ps_if (pt_cmpR op_le (pe_ix ix_tup (pv 3) pe_int (fun _ _ => rfl)) (pv 2) (nomark _))
      (pss_one (ps_ret (pv 3)))
      pss_nil)))
      (pss_one (ps_ret (pe_glob (v := V.ref T.a_NO_MAKE) rfl T.m_NO_MAKE rfl)))), ?_⟩
    refine ⟨_, rfl, a, _, dx, _, _, rfl, hs.obj, T.cl_Shelf, T.na_Shelf_makes, rfl, d, rfl, .inl ⟨kvs, .inl hs.dict⟩, _, rfl, (by show 0 ≤ sizeLine; decide), fun l0 hl0 => ?_⟩
    have s1 := Same.upd (o := HO.lst []) hl0
    have hs1 := hs.same s1
    refine ⟨_, DGet.k (k := Sum.inl key) hs1.dict, ?_⟩
    have got : ∃ l us, (valV kvs (Sum.inl key : Key)).getD (.ref l0) = .ref l ∧ upd H l0 (.lst []) l = some (.lst us) ∧ Rws (upd H l0 (.lst [])) us (hk m key) := by
      by_cases hm : key ∈ m.map (·.1)
      · obtain ⟨l, us, v1, v2, v3⟩ := hs1.ent.at_ hm
        exact ⟨l, us, by rw [v1]; rfl, v2, v3⟩
      · rw [hs1.ent.none_at hm, hk_none hm]
        exact ⟨l0, [], rfl, upd_same, .nil⟩
    obtain ⟨l, us, e1, e2, e3⟩ := got
    rw [e1]
    generalize hrs : hk m key = rs at e3 k
    refine ⟨l, us, rfl, e2, for_rev (K := K) (a := l) (xs := us) (fun i σ H2 => ∃ x3, σ = [some (.ref a), some (.int key), some (.int st), x3] ∧ H2 = upd H l0 (.lst []) ∧ (rs.reverse.take i).find? (fun q => decide (q.1 ≤ st)) = none) ⟨none, rfl, rfl, rfl⟩ (fun i σ H2 ⟨_, _, e, _⟩ => by rw [e]; exact SqL.of e2) ?_ ?_⟩
    · rintro i y σ H2 hy hi ⟨x3, rfl, rfl, hn⟩
      have hi' : us.length - 1 - i < rs.length := by rw [← e3.len]; omega
      obtain ⟨t, x, z, o, g1, g2, g3⟩ := e3.get hi'
      rw [g1] at hy
      cases hy
      have gr : rs.reverse[i]? = some (x, z, o) := by
        rw [List.getElem?_reverse (by rw [← e3.len]; exact hi), ← e3.len]
        exact g2
      refine ⟨_, rfl, t, _, _, _, rfl, rfl, SqT.of g3, atI_nat (j := 0) rfl, _, rfl, _, _, rfl, rfl, _, rfl, ite2 (fun e => ?_) (fun e => ?_)⟩
      · refine ⟨_, rfl, k t _ s1 ?_⟩
        have hm : makeAt rs st = (x, z, o) := by
          unfold makeAt
          have es : rs.reverse = rs.reverse.take i ++ (x, z, o) :: rs.reverse.drop (i + 1) := by
            have h2 := (List.getElem?_eq_some_iff.mp gr)
            conv => lhs; rw [← List.take_append_drop i rs.reverse]
            rw [List.drop_eq_getElem_cons h2.1, h2.2]
          rw [es, List.find?_append, hn, List.find?_cons]
          have e' : decide ((x, z, o).1 ≤ st) = true := e
          rw [e']
          rfl
        rw [hm]
        exact SqT.of g3
      · refine ⟨_, rfl, rfl, ?_⟩
        rw [List.take_add_one, gr, List.find?_append, hn]
        have e' : decide ((x, z, o).1 ≤ st) = false := (Bool.not_eq_true _).mp e
        simp [e']
    · rintro σ H2 ⟨x3, rfl, rfl, hn⟩
      rw [e3.len, ← List.length_reverse, List.take_length] at hn
      have hm : makeAt rs st = noM := by unfold makeAt; rw [hn]; rfl
      rw [hm] at k
      exact k _ _ s1 (T.q_NO_MAKE _)
theorem ok_Shelfknown (T : Tx K mg) : FnOk P w K mg base CX0 2 T.f_Shelfknown T.d_Shelfknown ["self", "low", "high"] (spKnownB K T.c_Shelf) := by
  refine T.F_Shelfknown.ok sc_Shelfknown (fun vs H Q E h => ?_) (fun cdv A outer s H vs Q E hr h => ?_)
  · obtain ⟨a, dx, d, kvs, m, lo, hi, rfl, _⟩ := h
    rfl
  · obtain ⟨a, dx, d, kvs, m, lo, hi, rfl, hs, h64, k⟩ := h
    have hu := hu_of hr
    refine ⟨_, (pss_one (ps_ret (pe_compF ["key"] rfl (CompSc.mk (fv := ["low", "high"]) (js := [1, 2]) rfl (by decide +kernel) (by decide +kernel) (by decide +kernel) (allc_cons (Or.inl rfl) (allc_cons (Or.inl rfl) allc_nil)) rfl (by decide +kernel)) (pi_list (pe_callB (call_sortedB rfl) (by rfl) T.z_sorted boot_sorted (pa_cons (pe_fldK (K := K) rfl (pv 0) rfl) pa_nil))) (fun _ _ _ _ _ => (pg_name (i := 0) (show (["key", "low", "high"] : List Str).Nodup by decide +kernel) rfl (Or.inl rfl))) (fun _ _ _ _ _ => (pf_one (pt_val (pe_call ((ok_inside T).mono (by decide)) hr rfl T.m_inside T.F_inside.kp T.b_inside .nil pass0 (pa_cons (pv 0) (pa_cons (pv 1) (pa_cons (pv 2) pa_nil))))))) (fun _ _ _ _ _ => (pv 0))))), ?_⟩
    refine ⟨_, rfl, a, _, dx, _, _, rfl, hs.obj, T.cl_Shelf, T.na_Shelf_makes, rfl, d, kvs, m.map (·.1), rfl, hs.dict, hs.ent.keys, (by rw [List.length_map]; exact h64), fun l hl => ⟨l, rfl, ⟨_, SqL.of upd_same⟩, ?_⟩⟩
    have s1 := Same.upd (o := HO.lst ((risen (m.map (·.1))).map V.int)) hl
    have hsl : (risen (m.map (·.1))).length < 128 := by rw [(risen_perm _).length_eq, List.length_map]; exact h64
    generalize risen (m.map (·.1)) = sk at s1 hsl k ⊢
    refine compQF_map (k := 1) (fs := [some (.int lo), some (.int hi)]) sk.length (fun i => (fun k => if insB lo hi k = true then some (V.int k) else none) (sk.getD i 0)) rfl (Nat.le_trans (Nat.le_of_lt hsl) (by decide)) (fun i H7 s7 hlt => ⟨sk.map V.int, _, SqL.of (s7 _ _ upd_same), List.getElem?_eq_getElem (by rw [List.length_map]; exact hlt)⟩) (fun H7 s7 => ⟨sk.map V.int, SqL.of (s7 _ _ upd_same), by rw [List.length_map]; exact Nat.le_refl _⟩) ?_ ?_
    · rintro i H7 ts v H' R s7 hlt ht ⟨rfl, hv⟩ cb
      have ev := hv (sk.map V.int) (SqL.of (s7 _ _ upd_same))
      rw [List.getElem?_map] at ev
      obtain ⟨k', ek, rfl⟩ := Option.map_eq_some_iff.mp ev
      have egd : sk.getD i 0 = k' := by rw [List.getD_eq_getElem?_getD, ek]; rfl
      rw [egd] at cb
      match ts, ht with
      | [t0], _ =>
        have c2 := cb [some (.int k')] _ rfl (Same.refl _)
        refine ⟨_, rfl, _, rfl, _, rfl, k', lo, hi, rfl, _, rfl, ?_⟩
        show if insB lo hi k' = true then _ else _
        dsimp only at c2
        by_cases e : insB lo hi k' = true
        · rw [if_pos e] at c2 ⊢
          exact ⟨_, rfl, c2⟩
        · rw [if_neg e] at c2 ⊢
          exact c2
    · intro D H2 hD s2 h2
      have eg := range_gather sk 0 (fun k => if insB lo hi k = true then some (V.int k) else none)
      rw [eg, gather_filter] at h2
      exact k D H2 (same_none s1 hD) (s1.trans s2) h2
theorem ok_Shelfrowsof (T : Tx K mg) : FnOk P w K mg base CX0 2 T.f_Shelfrowsof T.d_Shelfrowsof ["self", "keys", "stamp"] (spRowsOfB K T.c_Shelf) := by
  refine T.F_Shelfrowsof.ok sc_Shelfrowsof (fun vs H Q E h => ?_) (fun cdv A outer s H vs Q E hr h => ?_)
  · obtain ⟨a, dx, d, kvs, m, l, sk, st, rfl, _⟩ := h
    rfl
  · obtain ⟨a, dx, d, kvs, m, l, sk, st, rfl, hs, hl, h64, k⟩ := h
    have hu := hu_of hr
    refine ⟨_, (pss_cons (ps_compF (i := 3) ["key"] rfl sc_Shelfrowsof.nd rfl rfl (CompSc.mk (fv := ["self", "stamp"]) (js := [0, 2]) rfl (by decide +kernel) (by decide +kernel) (by decide +kernel) (allc_cons (Or.inl rfl) (allc_cons (Or.inl rfl) allc_nil)) rfl (by decide +kernel)) (pi_list (pv 1)) rfl (fun _ _ _ _ _ => (pg_name (i := 0) (show (["key", "self", "stamp"] : List Str).Nodup by decide +kernel) rfl (Or.inl rfl))) (fun _ _ _ _ _ => pf_nil) (fun _ _ _ _ _ => (pe_tup (pa_cons (pv 0) (pa_cons (pe_ix (ix_tupK (K := K) rfl) (pe_meth (pv 1) T.cl_Shelf T.me_Shelfmake ((ok_Shelfmake T).mono (by decide)) hr T.b_Shelfmake .nil pass0 (pa_cons (pv 0) (pa_cons (pv 2) pa_nil))) pe_int (fun _ _ => rfl)) pa_nil)))))
      (pss_one (ps_ret (pe_compF ["row"] rfl (CompSc.mk (fv := []) (js := []) rfl (by decide +kernel) (by decide +kernel) (by decide +kernel) allc_nil rfl (by decide +kernel)) (pi_list (pv 3)) (fun _ _ _ _ _ => (pg_name (i := 0) (show (["row"] : List Str).Nodup by decide +kernel) rfl (Or.inl rfl))) (fun _ _ _ _ _ => (pf_one (pt_cmpR op_notN (pe_ix (ix_tupK (K := K) rfl) (pv 0) pe_int (fun _ _ => rfl)) pe_non (nomark _)))) (fun _ _ _ _ _ => (pv 0)))))), ?_⟩
    refine ⟨_, rfl, l, rfl, ⟨_, SqL.of hl⟩, ?_⟩
    have hz : sk.length ≤ sizeLine := Nat.le_trans (Nat.le_of_lt h64) (by decide)
    refine compQF_rows (k := 1) (fs := [some (.ref a), some (.int st)]) sk.length (fun i => (fun k => some (k, (makeAt (hk m k) st).2.2)) (sk.getD i 0)) rfl hz (fun i H7 s7 hlt => ⟨sk.map V.int, _, SqL.of (s7 _ _ hl), List.getElem?_eq_getElem (by rw [List.length_map]; exact hlt)⟩) (fun H7 s7 => ⟨sk.map V.int, SqL.of (s7 _ _ hl), by rw [List.length_map]; exact Nat.le_refl _⟩) ?_ ?_
    · rintro i H7 ts v H' R s7 hlt ht ⟨rfl, hv⟩ cn cs
      have ev := hv (sk.map V.int) (SqL.of (s7 _ _ hl))
      rw [List.getElem?_map] at ev
      obtain ⟨k', ek, rfl⟩ := Option.map_eq_some_iff.mp ev
      have egd : sk.getD i 0 = k' := by rw [List.getD_eq_getElem?_getD, ek]; rfl
      rw [egd] at cs
      have hs7 := hs.same s7
      match ts, ht with
      | [t0], _ =>
        refine iteT (B := False) ?_
        refine ⟨_, rfl, _, rfl, a, dx, _, rfl, hs7.obj, rfl, _, rfl, _, rfl, a, dx, d, kvs, m, k', st, rfl, hs7, fun t H3 s3 ht3 => ⟨t, _, _, _, rfl, rfl, ht3, atI_nat (j := 2) rfl, (by show 2 ≤ sizeLine; decide), fun t4 ht4 => ?_⟩⟩
        exact cs k' _ rfl t4 [some (.int k')] _ upd_same rfl (s3.trans (Same.upd ht4))
    · intro D H1 ys hD s1 h1 hP1
      have eg := range_gather sk 0 (fun k => some (k, (makeAt (hk m k) st).2.2))
      rw [eg, List.filterMap_eq_map'] at hP1
      refine ⟨_, rfl, D, rfl, ⟨_, SqL.of h1⟩, ?_⟩
      have hlen := hP1.len
      have hl2 : (sk.map fun k => (k, (makeAt (hk m k) st).2.2)).length ≤ sizeLine := by rw [List.length_map]; exact hz
      have ef := rowsF_of sk fun k => (makeAt (hk m k) st).2.2
      generalize (sk.map fun k => (k, (makeAt (hk m k) st).2.2)) = rs at hP1 hlen hl2 ef
      refine compQF_rows (k := 1) (fs := []) rs.length (fun i => (fun q : Int × Option Int => if q.2.isSome = true then some q else none) (rs.getD i (0, none))) rfl hl2 (fun i H7 s7 hlt => ⟨ys, _, SqL.of (s7 _ _ h1), List.getElem?_eq_getElem (by omega)⟩) (fun H7 s7 => ⟨ys, SqL.of (s7 _ _ h1), by omega⟩) ?_ ?_
      · rintro i H7 ts v H' R s7 hlt ht ⟨rfl, hv⟩ cn cs
        have ev := hv ys (SqL.of (s7 _ _ h1))
        obtain ⟨t, k', o, rfl, e2, e3⟩ := hP1.get ev
        have egd : rs.getD i (0, none) = (k', o) := by rw [List.getD_eq_getElem?_getD, e2]; rfl
        rw [egd] at cn cs
        dsimp only at cn cs
        match ts, ht with
        | [t0], _ =>
          refine ⟨_, rfl, t, _, _, _, rfl, rfl, SqT.of (s7 _ _ e3), atI_nat (j := 1) rfl, rfl, _, rfl, ?_⟩
          cases o with
          | none =>
            show if (!decide (ov none = V.non)) = true then _ else _
            rw [if_neg (by simp [ov])]
            exact cn rfl [some (.ref t)] _ rfl (Same.refl _)
          | some x =>
            show if (!decide (ov (some x) = V.non)) = true then _ else _
            rw [if_pos (by simp [ov])]
            exact ⟨_, rfl, cs k' (some x) rfl t [some (.ref t)] _ (s7 _ _ e3) rfl (Same.refl _)⟩
      · intro D2 H2 ys2 hD2 s2 h2 hP2
        have eg2 := range_gather rs (0, none) (fun q : Int × Option Int => if q.2.isSome = true then some q else none)
        rw [eg2, show rs.filterMap (fun q : Int × Option Int => if q.2.isSome = true then some q else none) = rs.filter fun q => q.2.isSome from by rw [← List.filterMap_eq_filter]; rfl, ef] at hP2
        exact k D2 H2 ys2 (same_none s1 hD2) (s1.trans s2) h2 hP2
theorem ok_Shelfthere (T : Tx K mg) : FnOk P w K mg base CX0 3 T.f_Shelfthere T.d_Shelfthere ["self", "stamp"] (spThereB K T.c_Shelf) := by
  refine T.F_Shelfthere.ok sc_Shelfthere (fun vs H Q E h => ?_) (fun cdv A outer s H vs Q E hr h => ?_)
  · obtain ⟨a, dx, d, kvs, m, st, rfl, _⟩ := h
    rfl
  · obtain ⟨a, dx, d, kvs, m, st, rfl, hs, h64, k⟩ := h
    have hu := hu_of hr
    refine ⟨_, (pss_one (ps_ret (pe_meth (pv 0) T.cl_Shelf T.me_Shelfrowsof ((ok_Shelfrowsof T).mono (by decide)) hr T.b_Shelfrowsof .nil pass0 (pa_cons (pe_callB (call_sortedB rfl) (by rfl) T.z_sorted boot_sorted (pa_cons (pe_fldK (K := K) rfl (pv 0) rfl) pa_nil)) (pa_cons (pv 1) pa_nil))))), ?_⟩
    refine ⟨_, rfl, a, dx, _, rfl, hs.obj, rfl, _, rfl, a, _, dx, _, _, rfl, hs.obj, T.cl_Shelf, T.na_Shelf_makes, rfl, d, kvs, m.map (·.1), rfl, hs.dict, hs.ent.keys, (by rw [List.length_map]; exact h64), fun l hl => ?_⟩
    have s1 := Same.upd (o := HO.lst ((risen (m.map (·.1))).map V.int)) hl
    exact ⟨_, rfl, a, dx, d, kvs, m, l, _, st, rfl, hs.same s1, upd_same, (by rw [(risen_perm _).length_eq, List.length_map]; exact h64), fun p H' ys hp s2 h2 hP => k p H' ys (same_none s1 hp) (s1.trans s2) h2 hP⟩
theorem ok_Shelfrows (T : Tx K mg) : FnOk P w K mg base CX0 3 T.f_Shelfrows T.d_Shelfrows ["self", "low", "high", "stamp"] (spRowsSB K T.c_Shelf) := by
  refine T.F_Shelfrows.ok sc_Shelfrows (fun vs H Q E h => ?_) (fun cdv A outer s H vs Q E hr h => ?_)
  · obtain ⟨a, dx, d, kvs, m, lo, hi, st, rfl, _⟩ := h
    rfl
  · obtain ⟨a, dx, d, kvs, m, lo, hi, st, rfl, hs, h64, k⟩ := h
    have hu := hu_of hr
    refine ⟨_, (pss_one (ps_ret (pe_meth (pv 0) T.cl_Shelf T.me_Shelfrowsof ((ok_Shelfrowsof T).mono (by decide)) hr T.b_Shelfrowsof .nil pass0 (pa_cons (pe_meth (pv 0) T.cl_Shelf T.me_Shelfknown ((ok_Shelfknown T).mono (by decide)) hr T.b_Shelfknown .nil pass0 (pa_cons (pv 1) (pa_cons (pv 2) pa_nil))) (pa_cons (pv 3) pa_nil))))), ?_⟩
    refine ⟨_, rfl, a, dx, _, rfl, hs.obj, rfl, _, rfl, a, dx, _, rfl, hs.obj, rfl, _, rfl, _, rfl, a, dx, d, kvs, m, lo, hi, rfl, hs, h64, fun l H1 hl s1 h1 => ?_⟩
    exact ⟨_, rfl, a, dx, d, kvs, m, l, _, st, rfl, hs.same s1, h1, Nat.lt_of_le_of_lt (List.length_filter_le _ _) (by rw [(risen_perm _).length_eq, List.length_map]; exact h64), fun p H' ys hp s2 h2 hP => k p H' ys (same_none s1 hp) (s1.trans s2) h2 hP⟩
theorem ok_Lcellat (T : Tx K mg) : FnOk P w K mg base CX0 1 T.f_Lcellat T.d_Lcellat ["_law_script", "_law_k"] (spCellAt K) := by
  refine T.F_Lcellat.ok sc_Lcellat (fun vs H Q E h => ?_) (fun cdv A outer s H vs Q E hr h => ?_)
  · obtain ⟨a, ns, k, rfl, _⟩ := h
    rfl
  · obtain ⟨a, ns, k, rfl, hS, h0, q⟩ := h
    refine ⟨_, (pss_cons (ps_if (pt_cmpR op_lt (pv 1) (pe_callB call_len (by rfl) T.z_len boot_len (pa_cons (pv 0) pa_nil)) (nomark _))
      (pss_one (ps_ret (pe_ix ix_list (pv 0) (pv 1) (fun _ _ => rfl))))
      pss_nil)
      (pss_one (ps_ret pe_int))), ?_⟩
    refine ⟨_, rfl, _, rfl, _, _, rfl, .inl ⟨_, hS, rfl⟩, _, _, rfl, rfl, _, rfl, ite2 (fun e => ?_) (fun e => ?_)⟩
    · have e1 : k < ((ns.map V.int).length : Int) := of_decide_eq_true e
      obtain ⟨v, hv⟩ : ∃ v, atI (ns.map V.int) k = some v := atI_lt h0 e1
      obtain ⟨z, hz, rfl⟩ := List.mem_map.mp (atI_mem hv)
      exact ⟨_, rfl, _, rfl, a, _, _, _, rfl, rfl, hS, hv, q z⟩
    · exact q 0
theorem ok_Lstream (T : Tx K mg) : FnOk P w K mg base CX0 1 T.f_Lstream T.d_Lstream ["_law_cell", "_law_many"] spStream := by
  refine T.F_Lstream.ok sc_Lstream (fun vs H Q E h => ?_) (fun cdv A outer s H vs Q E hr h => ?_)
  · obtain ⟨c, n, rfl, _⟩ := h
    rfl
  · obtain ⟨c, n, rfl, hn, k⟩ := h
    refine ⟨_, (pss_cons (ps_set (i := 2) sc_Lstream.nd rfl (Or.inl rfl) (pe_lst pa_nil))
      (pss_cons (ps_set (i := 3) sc_Lstream.nd rfl (Or.inl rfl) (pe_op op_mod (pv 0) pe_int))
      (pss_cons (ps_for PassesOwn.never rfl (pi_range1 rfl T.z_range (pa_cons (pv 1) pa_nil)) (pg_name (i := 4) sc_Lstream.nd rfl (Or.inl rfl))
      (pss_cons (ps_set (i := 3) sc_Lstream.nd rfl (Or.inl rfl) (pe_op op_mod (pe_op op_add (pe_op op_add (pe_op op_mul (pv 3) pe_int) pe_int) (pv 4)) pe_int))
      (pss_one (ps_expr (pe_bm PySem.F.plainAttrs_list PySem.F.slot_list_append PySem.F.type_list_append mt_appendA (pv 2) (pa_cons (pv 3) pa_nil))))))
      (pss_one (ps_ret (pv 2)))))), ?_⟩
    refine ⟨(by show 0 ≤ sizeLine; decide), fun p hp => ?_⟩
    refine ⟨_, rfl, _, _, rfl, rfl, (by show (0 : Int) < 2147483647; decide), ?_⟩
    refine ⟨_, rfl, _, rfl, (by omega), (by omega), for_range (lo := 0) (n := n) (fun i σ H2 => ∃ (x4 : Option V) (z : Int) (xs : List Int), σ = [some (.int c), some (.int n), some (.ref p), some (.int z), x4] ∧ (0 ≤ z ∧ z < 2147483647) ∧ Same H H2 ∧ H2 p = some (.lst (xs.map V.int)) ∧ xs.length = i ∧ ∀ x ∈ xs, 0 ≤ x ∧ x < 2147483647)
      ⟨none, _, [], rfl, ⟨Int.emod_nonneg _ (by decide), Int.emod_lt_of_pos _ (by decide)⟩, Same.upd hp, upd_same, rfl, fun x hx => by cases hx⟩ ?_ ?_⟩
    · rintro i σ H2 hi ⟨x4, z, xs, rfl, hz, s2, h2, hl, hx⟩
      refine ⟨_, rfl, _, _, rfl, rfl, .inr ⟨by decide, by decide⟩, _, _, rfl, rfl, _, rfl, _, _, rfl, rfl, _, _, rfl, rfl, (by show (0 : Int) < 2147483647; decide), ?_⟩
      refine ⟨_, rfl, .inl ⟨rfl, _, SqL.of h2⟩, _, rfl, p, _, _, rfl, rfl, h2, (by rw [List.length_map, hl]; exact Nat.lt_of_lt_of_le hi (Nat.le_trans hn (by decide))), fun H3 h3 k3 => ?_⟩
      refine ⟨_, _, xs ++ [(z * 48271 + 11 + (0 + (i : Int))) % 2147483647], rfl, ⟨Int.emod_nonneg _ (by decide), Int.emod_lt_of_pos _ (by decide)⟩, (fun b o e => k3 _ _ (fun y => by rw [y, hp] at e; cases e) (s2 _ _ e)), ?_, ?_, ?_⟩
      · rw [List.map_append]; exact h3
      · rw [List.length_append, hl]; rfl
      · intro x hm
        rcases List.mem_append.mp hm with y | y
        · exact hx x y
        · rw [List.mem_singleton.mp y]; exact ⟨Int.emod_nonneg _ (by decide), Int.emod_lt_of_pos _ (by decide)⟩
    · rintro σ H2 ⟨x4, z, xs, rfl, hz, s2, h2, hl, hx⟩
      exact ⟨_, rfl, k p xs H2 hp s2 h2 hl hx⟩
theorem ok_Lgreat (T : Tx K mg) : FnOk P w K mg base CX0 1 T.f_Lgreat T.d_Lgreat ["_law_number"] spGreat2 := by
  refine T.F_Lgreat.ok sc_Lgreat (fun vs H Q E h => ?_) (fun cdv A outer s H vs Q E hr h => ?_)
  · obtain ⟨n, rfl, _⟩ := h
    rfl
  · obtain ⟨n, rfl, h0, h1, q⟩ := h
    refine ⟨_, (pss_one (ps_ret (pe_op op_sub (pe_op op_mod (pe_op op_mul (pe_op op_pow (pv 0) pe_int) pe_int) (pe_op op_sub (pe_op op_mul pe_int (pe_op op_pow pe_int pe_int)) pe_int)) (pe_op op_sub (pe_op op_pow pe_int pe_int) pe_int)))), ?_⟩
    exact ⟨_, rfl, _, _, rfl, rfl, ⟨by decide, by decide, by omega⟩, _, _, rfl, rfl, .inr ⟨by decide, by decide⟩, _, _, rfl, rfl, ⟨by decide, by decide, by decide⟩, _, _, rfl, rfl, .inl ⟨by decide, by decide⟩, _, _, rfl, rfl, _, _, rfl, rfl, (by show (0 : Int) < 2 * 10 ^ 30 - 1; decide), _, _, rfl, rfl, ⟨by decide, by decide, by decide⟩, _, _, rfl, rfl, _, _, rfl, rfl, q⟩
theorem ok_Lkey (T : Tx K mg) : FnOk P w K mg base CX0 2 T.f_Lkey T.d_Lkey ["_law_number", "_law_base"] spKey2 := by
  refine T.F_Lkey.ok sc_Lkey (fun vs H Q E h => ?_) (fun cdv A outer s H vs Q E hr h => ?_)
  · obtain ⟨n, b, rfl, _⟩ := h
    rfl
  · obtain ⟨n, b, rfl, h0, h1, h2, h3, q⟩ := h
    refine ⟨_, (pss_cons (ps_if (pt_cmpR op_eq (pe_op op_mod (pv 0) pe_int) pe_int (nomark _))
      (pss_one (ps_ret (pe_call ((ok_Lgreat T).mono (by decide)) hr rfl T.m_Lgreat T.F_Lgreat.kp T.b_Lgreat .nil pass0 (pa_cons (pe_op op_add (pv 1) (pe_op op_mod (pe_op op_fdiv (pv 0) pe_int) pe_int)) pa_nil))))
      pss_nil)
      (pss_one (ps_ret (pe_op op_sub (pe_op op_mod (pe_op op_fdiv (pv 0) pe_int) pe_int) pe_int)))), ?_⟩
    refine ⟨_, rfl, _, _, rfl, rfl, (by show (0 : Int) < 4; decide), rfl, _, rfl, ite2 (fun e => ?_) (fun e => ?_)⟩
    · refine ⟨_, rfl, _, rfl, _, _, rfl, rfl, ⟨by decide, by decide⟩, _, _, rfl, rfl, (by show (0 : Int) < 3; decide), _, _, rfl, rfl, _, rfl, by omega, by omega, q _ ?_⟩
      have c : n / 4 % 3 = 0 ∨ n / 4 % 3 = 1 ∨ n / 4 % 3 = 2 := by omega
      unfold univ
      rcases c with c | c | c <;> (rw [c]; simp)
    · refine ⟨_, rfl, _, _, rfl, rfl, ⟨by decide, by decide⟩, _, _, rfl, rfl, (by show (0 : Int) < 7; decide), _, _, rfl, rfl, q _ ?_⟩
      have c : n / 4 % 7 - 3 = -3 ∨ n / 4 % 7 - 3 = -2 ∨ n / 4 % 7 - 3 = -1 ∨ n / 4 % 7 - 3 = 0 ∨ n / 4 % 7 - 3 = 1 ∨ n / 4 % 7 - 3 = 2 ∨ n / 4 % 7 - 3 = 3 := by omega
      unfold univ
      rcases c with c | c | c | c | c | c | c <;> (rw [c]; simp)
theorem ok_Lvalue (T : Tx K mg) : FnOk P w K mg base CX0 2 T.f_Lvalue T.d_Lvalue ["_law_number"] spValue := by
  refine T.F_Lvalue.ok sc_Lvalue (fun vs H Q E h => ?_) (fun cdv A outer s H vs Q E hr h => ?_)
  · obtain ⟨n, rfl, _⟩ := h
    rfl
  · obtain ⟨n, rfl, h0, h1, q⟩ := h
    refine ⟨_, (pss_cons (ps_if (pt_cmpR op_eq (pe_op op_mod (pv 0) pe_int) pe_int (nomark _))
      (pss_one (ps_ret (pe_call ((ok_Lgreat T).mono (by decide)) hr rfl T.m_Lgreat T.F_Lgreat.kp T.b_Lgreat .nil pass0 (pa_cons (pv 0) pa_nil))))
      pss_nil)
      (pss_cons (ps_if (pt_cmpR op_eq (pe_op op_mod (pv 0) pe_int) pe_int (nomark _))
      (pss_one (ps_ret (pe_op op_sub (pe_op op_mod (pe_op op_fdiv (pv 0) pe_int) pe_int) pe_int)))
      pss_nil)
      (pss_one (ps_ret (pe_op op_sub (pe_op op_mod (pe_op op_fdiv (pv 0) pe_int) pe_int) pe_int))))), ?_⟩
    refine ⟨_, rfl, _, _, rfl, rfl, (by show (0 : Int) < 3; decide), rfl, _, rfl, ite2 (fun e => ?_) (fun e => ?_)⟩
    · exact ⟨_, rfl, _, rfl, h0, by omega, q _⟩
    · refine ⟨_, rfl, _, _, rfl, rfl, (by show (0 : Int) < 3; decide), rfl, _, rfl, ite2 (fun e => ?_) (fun e => ?_)⟩
      · exact ⟨_, rfl, _, _, rfl, rfl, ⟨by decide, by decide⟩, _, _, rfl, rfl, (by show (0 : Int) < 5; decide), _, _, rfl, rfl, q _⟩
      · exact ⟨_, rfl, _, _, rfl, rfl, ⟨by decide, by decide⟩, _, _, rfl, rfl, (by show (0 : Int) < 2001; decide), _, _, rfl, rfl, q _⟩
theorem ok_Ldraft (T : Tx K mg) : FnOk P w K mg base CX0 3 T.f_Ldraft T.d_Ldraft ["_law_number"] spDraft := by
  refine T.F_Ldraft.ok sc_Ldraft (fun vs H Q E h => ?_) (fun cdv A outer s H vs Q E hr h => ?_)
  · obtain ⟨n, rfl, _⟩ := h
    rfl
  · obtain ⟨n, rfl, h0, h1, q⟩ := h
    refine ⟨_, (pss_cons (ps_if (pt_cmpR op_eq (pe_op op_mod (pv 0) pe_int) pe_int (nomark _))
      (pss_one (ps_ret pe_non))
      pss_nil)
      (pss_one (ps_ret (pe_call ((ok_Lvalue T).mono (by decide)) hr rfl T.m_Lvalue T.F_Lvalue.kp T.b_Lvalue .nil pass0 (pa_cons (pe_op op_fdiv (pv 0) pe_int) pa_nil))))), ?_⟩
    refine ⟨_, rfl, _, _, rfl, rfl, (by show (0 : Int) < 4; decide), rfl, _, rfl, ite2 (fun e => ?_) (fun e => ?_)⟩
    · exact q none
    · exact ⟨_, rfl, _, _, rfl, rfl, ⟨by decide, by decide⟩, _, rfl, by omega, by omega, fun z => q (some z)⟩
theorem ok_Lfirst (T : Tx K mg) : FnOk P w K mg base CX0 3 T.f_Lfirst T.d_Lfirst ["_law_cell", "_law_base"] spFirst2 := by
  refine T.F_Lfirst.ok sc_Lfirst (fun vs H Q E h => ?_) (fun cdv A outer s H vs Q E hr h => ?_)
  · obtain ⟨c, b, rfl, _⟩ := h
    rfl
  · obtain ⟨c, b, rfl, h0, h1', k⟩ := h
    have hu := hu_of hr
    refine ⟨_, (pss_cons (ps_set (i := 2) sc_Lfirst.nd rfl (Or.inl rfl) (pe_call ((ok_Lstream T).mono (by decide)) hr rfl T.m_Lstream T.F_Lstream.kp T.b_Lstream .nil pass0 (pa_cons (pv 0) (pa_cons pe_int pa_nil))))
      (pss_cons (ps_set (i := 3) sc_Lfirst.nd rfl (Or.inl rfl) pe_dnewK)
      (pss_cons (ps_for PassesOwn.never rfl (pi_range1 rfl T.z_range (pa_cons (pe_op op_mod (pe_ix ix_list (pv 2) pe_int (fun _ _ => rfl)) pe_int) pa_nil)) (pg_name (i := 4) sc_Lfirst.nd rfl (Or.inl rfl))
      (pss_one (ps_dput hu (pv 3) (pe_call ((ok_Lkey T).mono (by decide)) hr rfl T.m_Lkey T.F_Lkey.kp T.b_Lkey .nil pass0 (pa_cons (pe_ix ix_list (pv 2) (pe_op op_add pe_int (pv 4)) (fun _ _ => rfl)) (pa_cons (pv 1) pa_nil))) (pe_call ((ok_Lvalue T).mono (by decide)) hr rfl T.m_Lvalue T.F_Lvalue.kp T.b_Lvalue .nil pass0 (pa_cons (pe_ix ix_list (pv 2) (pe_op op_add pe_int (pv 4)) (fun _ _ => rfl)) pa_nil)) rfl)))
      (pss_one (ps_ret (pv 3)))))), ?_⟩
    refine ⟨_, rfl, c, 9, rfl, (by decide), fun p xs H1 hp s1 h1 hl hx => ?_⟩
    intro d hd
    have s2 := Same.upd (o := HO.dK []) hd
    obtain ⟨z0, g0, _, _⟩ := ints_at hx (j := 0) (by decide) (by rw [hl]; decide)
    have e5 := Int.emod_nonneg z0 (show (5 : Int) ≠ 0 by decide)
    have e5' := Int.emod_lt_of_pos z0 (show (0 : Int) < 5 by decide)
    refine ⟨_, rfl, p, _, _, _, rfl, rfl, SqL.of (s2 _ _ h1), g0, _, _, rfl, rfl, (by show (0 : Int) < 5; decide), _, rfl, (by omega), (by omega), for_range (lo := 0) (n := (z0 % 5).toNat) (fun i σ H2 => ∃ (x4 : Option V) (fs : Dr), σ = [some (.int c), some (.int b), some (.ref p), some (.ref d), x4] ∧ Same H1 H2 ∧ H2 d = some (.dK (dkv fs)) ∧ (fs.map (·.1)).Nodup ∧ fs.length ≤ i ∧ ∀ x ∈ fs.map (·.1), x ∈ univ b)
      ⟨none, [], rfl, s2, upd_same, .nil, Nat.le_refl _, fun x hx => by cases hx⟩ ?_ ?_⟩
    · rintro i σ H2 hi ⟨x4, fs, rfl, s3, h2, nd, hlen, hu2⟩
      have i4 : i < 4 := by omega
      obtain ⟨z5, g5, a1, a2⟩ := ints_at hx (j := 5 + (0 + (i : Int))) (by omega) (by rw [hl]; omega)
      obtain ⟨z1, g1, b1, b2⟩ := ints_at hx (j := 1 + (0 + (i : Int))) (by omega) (by rw [hl]; omega)
      refine ⟨_, rfl, _, rfl, _, _, rfl, rfl, p, _, _, _, rfl, rfl, SqL.of (s3 _ _ h1), g5, z5, rfl, a1, a2, fun v => ?_⟩
      refine ⟨_, rfl, _, rfl, _, rfl, _, _, rfl, rfl, p, _, _, _, rfl, rfl, SqL.of (s3 _ _ h1), g1, _, rfl, z1, b, rfl, b1, b2, h0, h1', fun kk hkk => ?_⟩
      refine ⟨d, _, rfl, DPut.k (k := Sum.inl kk) (v := ov (some v)) h2 (by unfold dkv; rw [List.length_map]; exact Nat.lt_of_le_of_lt hlen (Nat.lt_trans i4 (by decide))), _, putO fs kk (some v), rfl, s3.again hd, ?_, putO_nd _ _ nd, ?_, fun x hx => ?_⟩
      · rw [dkv_put]; exact upd_same
      · have := putO_len fs kk (some v)
        omega
      · rcases putO_keys hx with e | e
        · rw [e]; exact hkk
        · exact hu2 x e
    · rintro σ H2 ⟨x4, fs, rfl, s3, h2, nd, hlen, hu2⟩
      exact ⟨_, rfl, k d fs H2 (same_none s1 hd) (s1.trans s3) h2 nd (by omega) hu2⟩
theorem ok_Lputs (T : Tx K mg) : FnOk P w K mg base CX0 4 T.f_Lputs T.d_Lputs ["_law_cells", "_law_base"] (spPuts4 K) := by
  refine T.F_Lputs.ok sc_Lputs (fun vs H Q E h => ?_) (fun cdv A outer s H vs Q E hr h => ?_)
  · obtain ⟨c, ns, b, rfl, _⟩ := h
    rfl
  · obtain ⟨c, ns, b, rfl, hS, hlen, h0, h1', k⟩ := h
    have hu := hu_of hr
    refine ⟨_, (pss_cons (ps_set (i := 2) sc_Lputs.nd rfl (Or.inl rfl) (pe_lst pa_nil))
      (pss_cons (ps_set (i := 3) sc_Lputs.nd rfl (Or.inl rfl) pe_int)
      (pss_cons (ps_for PassesOwn.never rfl (pi_list (pv 0)) (pg_name (i := 4) sc_Lputs.nd rfl (Or.inl rfl))
      (pss_cons (ps_set (i := 5) sc_Lputs.nd rfl (Or.inl rfl) (pe_call ((ok_Lstream T).mono (by decide)) hr rfl T.m_Lstream T.F_Lstream.kp T.b_Lstream .nil pass0 (pa_cons (pv 4) (pa_cons pe_int pa_nil))))
      (pss_cons (ps_set (i := 3) sc_Lputs.nd rfl (Or.inl rfl) (pe_op op_add (pe_op op_add (pv 3) pe_int) (pe_op op_mod (pe_ix ix_list (pv 5) pe_int (fun _ _ => rfl)) pe_int)))
      (pss_cons (ps_if (pt_cmpR op_eq (pe_op op_mod (pe_ix ix_list (pv 5) pe_int (fun _ _ => rfl)) pe_int) pe_int (nomark _))
      (pss_one (ps_set (i := 3) sc_Lputs.nd rfl (Or.inl rfl) (pe_op op_add (pv 3) (pe_op op_pow pe_int pe_int))))
      pss_nil)
      (pss_cons (ps_set (i := 6) sc_Lputs.nd rfl (Or.inl rfl) pe_dnewK)
      (pss_cons (ps_for PassesOwn.never rfl (pi_range1 rfl T.z_range (pa_cons (pe_op op_mod (pe_ix ix_list (pv 5) pe_int (fun _ _ => rfl)) pe_int) pa_nil)) (pg_name (i := 7) sc_Lputs.nd rfl (Or.inl rfl))
      (pss_one (ps_dput hu (pv 6) (pe_call ((ok_Lkey T).mono (by decide)) hr rfl T.m_Lkey T.F_Lkey.kp T.b_Lkey .nil pass0 (pa_cons (pe_ix ix_list (pv 5) (pe_op op_add pe_int (pv 7)) (fun _ _ => rfl)) (pa_cons (pv 1) pa_nil))) (pe_call ((ok_Ldraft T).mono (by decide)) hr rfl T.m_Ldraft T.F_Ldraft.kp T.b_Ldraft .nil pass0 (pa_cons (pe_ix ix_list (pv 5) (pe_op op_add pe_int (pv 7)) (fun _ _ => rfl)) pa_nil)) rfl)))
      (pss_one (ps_expr (pe_bm PySem.F.plainAttrs_list PySem.F.slot_list_append PySem.F.type_list_append mt_appendA (pv 2) (pa_cons (pe_tup (pa_cons (pv 3) (pa_cons (pe_op op_add pe_int (pe_op op_mod (pe_ix ix_list (pv 5) pe_int (fun _ _ => rfl)) pe_int)) (pa_cons (pv 6) pa_nil)))) pa_nil))))))))))
      (pss_one (ps_ret (pv 2)))))), ?_⟩
    refine ⟨(by show 0 ≤ sizeLine; decide), fun p hp => ?_⟩
    have sp := Same.upd (o := HO.lst []) hp
    refine ⟨_, rfl, c, rfl, ⟨_, sp.seq hS⟩, for_list (K := K) (a := c) (xs := ns.map V.int) (fun i σ H2 => ∃ (x4 x5 x6 x7 : Option V) (z : Int) (ws : List V) (ps : List Pt), σ = [some (.ref c), some (.int b), some (.ref p), some (.int z), x4, x5, x6, x7] ∧ Same H H2 ∧ H2 p = some (.lst ws) ∧ Pts (rst H H2) ws ps ∧ ps.length = i ∧ Gd b ps ∧ Old ps ∧ 0 ≤ z ∧ (ps.Pairwise (fun u v => u.1 < v.1) ∧ ∀ u ∈ ps, u.1 ≤ z))
      ⟨none, none, none, none, 0, [], [], rfl, sp, upd_same, .nil, rfl, (fun p hp => by cases hp), (fun p hp => by cases hp), Int.le_refl _, .nil, fun u hu => by cases hu⟩ (fun i σ H2 _ ⟨_, _, _, _, _, _, _, _, s2, _⟩ => s2.seq hS) ?_ ?_⟩
    · rintro i y σ H2 hy ⟨x4, x5, x6, x7, z, ws, ps, rfl, s2, h2, hP, hpl, G, O, z0, Z⟩
      have i40 : i < 40 := by
        have := (List.getElem?_eq_some_iff.mp hy).1
        rw [List.length_map] at this
        omega
      obtain ⟨cl, rfl, _⟩ := int_of_map hy
      refine ⟨_, rfl, cl, 9, rfl, (by decide), fun q xs H3 hq s3 h3 hl hx => ?_⟩
      obtain ⟨v0, g0, a0, b0⟩ := ints_at hx (j := 0) (by decide) (by rw [hl]; decide)
      have m3 := Int.emod_nonneg v0 (show (3 : Int) ≠ 0 by decide)
      refine ⟨_, rfl, _, _, rfl, rfl, _, rfl, q, _, _, _, rfl, rfl, SqL.of h3, g0, _, _, rfl, rfl, (by show (0 : Int) < 3; decide), _, _, rfl, rfl, ?_⟩
      refine ⟨_, rfl, q, _, _, _, rfl, rfl, SqL.of h3, g0, _, _, rfl, rfl, (by show (0 : Int) < 11; decide), rfl, _, rfl, ite2 (fun _ => ⟨_, rfl, _, _, rfl, rfl, ⟨by decide, by decide, by decide⟩, _, _, rfl, rfl, ?_⟩) (fun _ => ?_)⟩
      · skip
        intro d hd
        have s4 := Same.upd (o := HO.dK []) hd
        obtain ⟨v1, g1, a1, b1⟩ := ints_at hx (j := 1) (by decide) (by rw [hl]; decide)
        obtain ⟨v2, g2, a2, b2⟩ := ints_at hx (j := 2) (by decide) (by rw [hl]; decide)
        have e4 := Int.emod_nonneg v1 (show (4 : Int) ≠ 0 by decide)
        have e4' := Int.emod_lt_of_pos v1 (show (0 : Int) < 4 by decide)
        refine ⟨_, rfl, q, _, _, _, rfl, rfl, SqL.of (s4 _ _ h3), g1, _, _, rfl, rfl, (by show (0 : Int) < 4; decide), _, rfl, (by omega), (by omega), for_range (lo := 0) (n := (v1 % 4).toNat) (fun j τ H5 => ∃ (y7 : Option V) (z' : Int) (fs : Dr), τ = [some (.ref c), some (.int b), some (.ref p), some (.int z'), some (.int cl), some (.ref q), some (.ref d), y7] ∧ (1 ≤ z' ∧ z < z') ∧ Same H3 H5 ∧ H5 d = some (.dK (dkv fs)) ∧ fs.length ≤ j ∧ (fs.map (·.1)).Nodup ∧ ∀ x ∈ fs.map (·.1), x ∈ univ b)
          ⟨_, _, [], rfl, ⟨by have e12 : (10 : Int) ^ (12 : Int).toNat = 10 ^ 12 := by decide
                              omega, by have e12 : (10 : Int) ^ (12 : Int).toNat = 10 ^ 12 := by decide
                                        omega⟩, s4, upd_same, Nat.le_refl _, .nil, fun x hx => by cases hx⟩ ?_ ?_⟩
        · rintro j τ H5 hj ⟨y7, z', fs, rfl, zz, s5, h5, hfl, fnd, fu⟩
          have j3 : j < 3 := by omega
          obtain ⟨v6, g6, a6, b6⟩ := ints_at hx (j := 6 + (0 + (j : Int))) (by omega) (by rw [hl]; omega)
          obtain ⟨v3, g3, a3, b3⟩ := ints_at hx (j := 3 + (0 + (j : Int))) (by omega) (by rw [hl]; omega)
          refine ⟨_, rfl, _, rfl, _, _, rfl, rfl, q, _, _, _, rfl, rfl, SqL.of (s5 _ _ h3), g6, v6, rfl, a6, b6, fun o => ?_⟩
          refine ⟨_, rfl, _, rfl, _, rfl, _, _, rfl, rfl, q, _, _, _, rfl, rfl, SqL.of (s5 _ _ h3), g3, _, rfl, v3, b, rfl, a3, b3, h0, h1', fun kk hkk => ?_⟩
          refine ⟨d, _, rfl, DPut.k (k := Sum.inl kk) (v := ov o) h5 (by unfold dkv; rw [List.length_map]; exact Nat.lt_of_le_of_lt hfl (Nat.lt_trans j3 (by decide))), _, z', putO fs kk o, rfl, zz, s5.again hd, ?_, ?_, putO_nd _ _ fnd, fun x hx => ?_⟩
          · rw [dkv_put]; exact upd_same
          · have := putO_len fs kk o
            omega
          · rcases putO_keys hx with e | e
            · rw [e]; exact hkk
            · exact fu x e
        · rintro τ H5 ⟨y7, z', fs, rfl, zz, s5, h5, hfl, fnd, fu⟩
          have h25 := s5 _ _ (s3 _ _ h2)
          refine ⟨_, rfl, .inl ⟨rfl, _, SqL.of h25⟩, _, rfl, _, rfl, q, _, _, _, rfl, rfl, SqL.of (s5 _ _ h3), g2, _, _, rfl, rfl, (by show (0 : Int) < 8; decide), _, _, rfl, rfl, _, rfl, (by show 3 ≤ sizeLine; decide), fun t ht => ?_⟩
          have s6 := Same.upd (o := HO.tup [.int z', .int (1 + v2 % 8), .ref d]) ht
          have tp : t ≠ p := fun y => by rw [y, h25] at ht; cases ht
          refine ⟨p, ws, _, rfl, rfl, s6 _ _ h25, (by rw [hP.len, hpl]; exact Nat.lt_trans i40 (by decide)), fun H7 h7 k7 => ?_⟩
          have k8 : ∀ b o, b ≠ p → H2 b = some o → H7 b = some o := fun b o n e => k7 _ _ n (s6 _ _ (s5 _ _ (s3 _ _ e)))
          have dp : d ≠ p := fun y => by rw [y, h25] at h5; cases h5
          refine ⟨_, _, _, _, z', _, ps ++ [(z', 1 + v2 % 8, fs)], rfl, (fun b o e => k8 b o (fun y => by rw [y, hp] at e; cases e) (s2 _ _ e)), h7, ?_, (by rw [List.length_append, hpl]; rfl), ?_, ?_, by omega, ?_⟩
          · refine (hP.keep fun b o e ho => ?_).snoc (rst_of (same_none (s2.trans (s3.trans s5)) ht) (k7 _ _ tp upd_same)) (rst_of (same_none (s2.trans s3) hd) (k7 _ _ dp (s6 _ _ h5)))
            obtain ⟨e1, e2⟩ := rst_some e
            exact rst_of e1 (k8 b o (fun y => by rw [y, h2] at e2; cases e2; rcases ho with ⟨_, y⟩ | ⟨_, y⟩ <;> cases y) e2)
          · intro w hw
            rcases List.mem_append.mp hw with e | e
            · exact G w e
            · rw [List.mem_singleton.mp e]
              exact ⟨by show 1 ≤ 1 + v2 % 8; omega, by show fs.length ≤ 3; omega, fnd, fu⟩
          · intro w hw
            rcases List.mem_append.mp hw with e | e
            · exact O w e
            · rw [List.mem_singleton.mp e]
              exact zz.1
          · refine ⟨List.pairwise_append.mpr ⟨Z.1, List.pairwise_singleton _ _, fun u hu v hv => ?_⟩, fun u hu => ?_⟩
            · rw [List.mem_singleton.mp hv]
              exact Int.lt_of_le_of_lt (Z.2 u hu) zz.2
            · rcases List.mem_append.mp hu with e | e
              · exact Int.le_of_lt (Int.lt_of_le_of_lt (Z.2 u e) zz.2)
              · rw [List.mem_singleton.mp e]
                exact Int.le_refl _
      · skip
        intro d hd
        have s4 := Same.upd (o := HO.dK []) hd
        obtain ⟨v1, g1, a1, b1⟩ := ints_at hx (j := 1) (by decide) (by rw [hl]; decide)
        obtain ⟨v2, g2, a2, b2⟩ := ints_at hx (j := 2) (by decide) (by rw [hl]; decide)
        have e4 := Int.emod_nonneg v1 (show (4 : Int) ≠ 0 by decide)
        have e4' := Int.emod_lt_of_pos v1 (show (0 : Int) < 4 by decide)
        refine ⟨_, rfl, q, _, _, _, rfl, rfl, SqL.of (s4 _ _ h3), g1, _, _, rfl, rfl, (by show (0 : Int) < 4; decide), _, rfl, (by omega), (by omega), for_range (lo := 0) (n := (v1 % 4).toNat) (fun j τ H5 => ∃ (y7 : Option V) (z' : Int) (fs : Dr), τ = [some (.ref c), some (.int b), some (.ref p), some (.int z'), some (.int cl), some (.ref q), some (.ref d), y7] ∧ (1 ≤ z' ∧ z < z') ∧ Same H3 H5 ∧ H5 d = some (.dK (dkv fs)) ∧ fs.length ≤ j ∧ (fs.map (·.1)).Nodup ∧ ∀ x ∈ fs.map (·.1), x ∈ univ b)
          ⟨_, _, [], rfl, ⟨by have e12 : (10 : Int) ^ (12 : Int).toNat = 10 ^ 12 := by decide
                              omega, by have e12 : (10 : Int) ^ (12 : Int).toNat = 10 ^ 12 := by decide
                                        omega⟩, s4, upd_same, Nat.le_refl _, .nil, fun x hx => by cases hx⟩ ?_ ?_⟩
        · rintro j τ H5 hj ⟨y7, z', fs, rfl, zz, s5, h5, hfl, fnd, fu⟩
          have j3 : j < 3 := by omega
          obtain ⟨v6, g6, a6, b6⟩ := ints_at hx (j := 6 + (0 + (j : Int))) (by omega) (by rw [hl]; omega)
          obtain ⟨v3, g3, a3, b3⟩ := ints_at hx (j := 3 + (0 + (j : Int))) (by omega) (by rw [hl]; omega)
          refine ⟨_, rfl, _, rfl, _, _, rfl, rfl, q, _, _, _, rfl, rfl, SqL.of (s5 _ _ h3), g6, v6, rfl, a6, b6, fun o => ?_⟩
          refine ⟨_, rfl, _, rfl, _, rfl, _, _, rfl, rfl, q, _, _, _, rfl, rfl, SqL.of (s5 _ _ h3), g3, _, rfl, v3, b, rfl, a3, b3, h0, h1', fun kk hkk => ?_⟩
          refine ⟨d, _, rfl, DPut.k (k := Sum.inl kk) (v := ov o) h5 (by unfold dkv; rw [List.length_map]; exact Nat.lt_of_le_of_lt hfl (Nat.lt_trans j3 (by decide))), _, z', putO fs kk o, rfl, zz, s5.again hd, ?_, ?_, putO_nd _ _ fnd, fun x hx => ?_⟩
          · rw [dkv_put]; exact upd_same
          · have := putO_len fs kk o
            omega
          · rcases putO_keys hx with e | e
            · rw [e]; exact hkk
            · exact fu x e
        · rintro τ H5 ⟨y7, z', fs, rfl, zz, s5, h5, hfl, fnd, fu⟩
          have h25 := s5 _ _ (s3 _ _ h2)
          refine ⟨_, rfl, .inl ⟨rfl, _, SqL.of h25⟩, _, rfl, _, rfl, q, _, _, _, rfl, rfl, SqL.of (s5 _ _ h3), g2, _, _, rfl, rfl, (by show (0 : Int) < 8; decide), _, _, rfl, rfl, _, rfl, (by show 3 ≤ sizeLine; decide), fun t ht => ?_⟩
          have s6 := Same.upd (o := HO.tup [.int z', .int (1 + v2 % 8), .ref d]) ht
          have tp : t ≠ p := fun y => by rw [y, h25] at ht; cases ht
          refine ⟨p, ws, _, rfl, rfl, s6 _ _ h25, (by rw [hP.len, hpl]; exact Nat.lt_trans i40 (by decide)), fun H7 h7 k7 => ?_⟩
          have k8 : ∀ b o, b ≠ p → H2 b = some o → H7 b = some o := fun b o n e => k7 _ _ n (s6 _ _ (s5 _ _ (s3 _ _ e)))
          have dp : d ≠ p := fun y => by rw [y, h25] at h5; cases h5
          refine ⟨_, _, _, _, z', _, ps ++ [(z', 1 + v2 % 8, fs)], rfl, (fun b o e => k8 b o (fun y => by rw [y, hp] at e; cases e) (s2 _ _ e)), h7, ?_, (by rw [List.length_append, hpl]; rfl), ?_, ?_, by omega, ?_⟩
          · refine (hP.keep fun b o e ho => ?_).snoc (rst_of (same_none (s2.trans (s3.trans s5)) ht) (k7 _ _ tp upd_same)) (rst_of (same_none (s2.trans s3) hd) (k7 _ _ dp (s6 _ _ h5)))
            obtain ⟨e1, e2⟩ := rst_some e
            exact rst_of e1 (k8 b o (fun y => by rw [y, h2] at e2; cases e2; rcases ho with ⟨_, y⟩ | ⟨_, y⟩ <;> cases y) e2)
          · intro w hw
            rcases List.mem_append.mp hw with e | e
            · exact G w e
            · rw [List.mem_singleton.mp e]
              exact ⟨by show 1 ≤ 1 + v2 % 8; omega, by show fs.length ≤ 3; omega, fnd, fu⟩
          · intro w hw
            rcases List.mem_append.mp hw with e | e
            · exact O w e
            · rw [List.mem_singleton.mp e]
              exact zz.1
          · refine ⟨List.pairwise_append.mpr ⟨Z.1, List.pairwise_singleton _ _, fun u hu v hv => ?_⟩, fun u hu => ?_⟩
            · rw [List.mem_singleton.mp hv]
              exact Int.lt_of_le_of_lt (Z.2 u hu) zz.2
            · rcases List.mem_append.mp hu with e | e
              · exact Int.le_of_lt (Int.lt_of_le_of_lt (Z.2 u e) zz.2)
              · rw [List.mem_singleton.mp e]
                exact Int.le_refl _
    · rintro σ H2 ⟨x4, x5, x6, x7, z, ws, ps, rfl, s2, h2, hP, hpl, G, O, z0, Z⟩
      rw [List.length_map] at hpl
      exact ⟨_, rfl, k p ws ps H2 hp s2 h2 hP hpl G O Z.1⟩
theorem ok_Lends (T : Tx K mg) : FnOk P w K mg base CX0 3 T.f_Lends T.d_Lends ["_law_number", "_law_base"] spEnds15 := by
  refine T.F_Lends.ok sc_Lends (fun vs H Q E h => ?_) (fun cdv A outer s H vs Q E hr h => ?_)
  · obtain ⟨c, b, rfl, _⟩ := h
    rfl
  · obtain ⟨c, b, rfl, c0, c1, h0, h1, k⟩ := h
    refine ⟨_, (pss_cons (ps_set (i := 2) sc_Lends.nd rfl (Or.inl rfl) (pe_op op_mod (pv 0) pe_int))
      (pss_cons (ps_if (pt_cmpR op_eq (pv 2) pe_int (nomark _))
      (pss_one (ps_ret (pe_tup (pa_cons (pe_op op_sub pe_int (pe_op op_pow pe_int pe_int)) (pa_cons (pe_op op_sub (pe_op op_pow pe_int pe_int) pe_int) pa_nil)))))
      pss_nil)
      (pss_cons (ps_if (pt_cmpR op_eq (pv 2) pe_int (nomark _))
      (pss_one (ps_ret (pe_tup (pa_cons (pe_call ((ok_Lkey T).mono (by decide)) hr rfl T.m_Lkey T.F_Lkey.kp T.b_Lkey .nil pass0 (pa_cons (pe_op op_fdiv (pv 0) pe_int) (pa_cons (pv 1) pa_nil))) (pa_cons (pe_call ((ok_Lkey T).mono (by decide)) hr rfl T.m_Lkey T.F_Lkey.kp T.b_Lkey .nil pass0 (pa_cons (pe_op op_fdiv (pv 0) pe_int) (pa_cons (pv 1) pa_nil))) pa_nil)))))
      pss_nil)
      (pss_cons (ps_if (pt_cmpR op_eq (pv 2) pe_int (nomark _))
      (pss_cons (ps_set (i := 3) sc_Lends.nd rfl (Or.inl rfl) (pe_call ((ok_Lkey T).mono (by decide)) hr rfl T.m_Lkey T.F_Lkey.kp T.b_Lkey .nil pass0 (pa_cons (pe_op op_fdiv (pv 0) pe_int) (pa_cons (pv 1) pa_nil))))
      (pss_one (ps_ret (pe_tup (pa_cons (pv 3) (pa_cons (pv 3) pa_nil))))))
      pss_nil)
      (pss_cons (ps_set (i := 4) sc_Lends.nd rfl (Or.inl rfl) (pe_op op_sub (pe_op op_mod (pe_op op_fdiv (pv 0) pe_int) pe_int) pe_int))
      (pss_one (ps_ret (pe_tup (pa_cons (pv 4) (pa_cons (pe_op op_add (pv 4) (pe_op op_mod (pe_op op_fdiv (pv 0) pe_int) pe_int)) pa_nil)))))))))), ?_⟩
    have fin : ∀ t lo hi, H t = none → Q (.ref t) (upd H t (.tup [.int lo, .int hi])) := fun t lo hi ht => k t lo hi _ ht (Same.upd ht) upd_same
    have sl : (2 : Nat) ≤ sizeLine := by decide
    refine ⟨_, rfl, _, _, rfl, rfl, (by show (0 : Int) < 4; decide), ?_⟩
    refine ⟨_, rfl, rfl, _, rfl, ite2 (fun _ => ?_) (fun _ => ?_)⟩
    · exact ⟨_, _, rfl, rfl, ⟨by decide, by decide, by decide⟩, _, _, rfl, rfl, _, _, rfl, rfl, ⟨by decide, by decide, by decide⟩, _, _, rfl, rfl, sl, fun t ht => fin t _ _ ht⟩
    refine ⟨_, rfl, rfl, _, rfl, ite2 (fun _ => ?_) (fun _ => ?_)⟩
    · exact ⟨_, rfl, _, _, rfl, rfl, ⟨by decide, by decide⟩, _, rfl, c / 4, b, rfl, by omega, by omega, h0, h1, fun z1 _ => ⟨_, rfl, _, _, rfl, rfl, ⟨by decide, by decide⟩, _, rfl, c / 212, b, rfl, by omega, by omega, h0, h1, fun z2 _ => ⟨sl, fun t ht => fin t _ _ ht⟩⟩⟩
    refine ⟨_, rfl, rfl, _, rfl, ite2 (fun _ => ?_) (fun _ => ?_)⟩
    · exact ⟨_, rfl, _, _, rfl, rfl, ⟨by decide, by decide⟩, _, rfl, c / 4, b, rfl, by omega, by omega, h0, h1, fun z1 _ => ⟨_, rfl, _, rfl, sl, fun t ht => fin t _ _ ht⟩⟩
    refine ⟨_, rfl, _, _, rfl, rfl, ⟨by decide, by decide⟩, _, _, rfl, rfl, (by show (0 : Int) < 9; decide), _, _, rfl, rfl, ?_⟩
    exact ⟨_, rfl, _, rfl, _, rfl, _, _, rfl, rfl, ⟨by decide, by decide⟩, _, _, rfl, rfl, (by show (0 : Int) < 6; decide), _, _, rfl, rfl, sl, fun t ht => fin t _ _ ht⟩
theorem ok_Lwhole (T : Tx K mg) : FnOk P w K mg base CX0 1 T.f_Lwhole T.d_Lwhole ["_law_found"] spWhole := by
  refine T.F_Lwhole.ok sc_Lwhole (fun vs H Q E h => ?_) (fun cdv A outer s H vs Q E hr h => ?_)
  · obtain ⟨z, rfl, _⟩ := h
    rfl
  · obtain ⟨z, rfl, q⟩ := h
    refine ⟨_, (pss_one (ps_ret (pe_and (pe_callB call_isi (by rfl) T.z_isinstance boot_isinstance (pa_cons (pv 0) (pa_cons (pe_bltn (v := V.ty "int") rfl T.z_int boot_int rfl) pa_nil))) (pe_one (pe_not (pe_callB call_isi (by rfl) T.z_isinstance boot_isinstance (pa_cons (pv 0) (pa_cons (pe_bltn (v := V.ty "bool") rfl T.z_bool boot_bool rfl) pa_nil)))))))), ?_⟩
    refine ⟨_, rfl, _, _, _, _, rfl, TyOf.int _, kit_ii, _, rfl, iteT ?_⟩
    exact ⟨_, rfl, _, _, _, _, rfl, TyOf.int _, kit_ib, _, rfl, q⟩
theorem ok_Lisrows (T : Tx K mg) : FnOk P w K mg base CX0 2 T.f_Lisrows T.d_Lisrows ["_law_found"] spIsRows := by
  refine T.F_Lisrows.ok sc_Lisrows (fun vs H Q E h => ?_) (fun cdv A outer s H vs Q E hr h => ?_)
  · obtain ⟨p, ys, L, rfl, _⟩ := h
    rfl
  · obtain ⟨p, ys, L, rfl, hp, hP, hsm, q⟩ := h
    have hu := hu_of hr
    refine ⟨_, (pss_cons (ps_if (pt_not (pt_val (pe_callB call_isi (by rfl) T.z_isinstance boot_isinstance (pa_cons (pv 0) (pa_cons (pe_bltn (v := V.ty "list") rfl T.z_list boot_list rfl) pa_nil)))))
      (pss_one (ps_ret pe_bl))
      pss_nil)
      (pss_cons (ps_for PassesOwn.never rfl (pi_list (pv 0)) (pg_name (i := 1) sc_Lisrows.nd rfl (Or.inl rfl))
      (pss_one (ps_if (PW.pt (pw_or (pt_not (pt_val (pe_callB call_isi (by rfl) T.z_isinstance boot_isinstance (pa_cons (pv 1) (pa_cons (pe_bltn (v := V.ty "tuple") rfl T.z_tuple boot_tuple rfl) pa_nil))))) (pw_or (pt_cmpR op_ne (pe_callB call_len (by rfl) T.z_len boot_len (pa_cons (pv 1) pa_nil)) pe_int (nomark _)) (pw_or (pt_not (pt_val (pe_call ((ok_Lwhole T).mono (by decide)) hr rfl T.m_Lwhole T.F_Lwhole.kp T.b_Lwhole .nil pass0 (pa_cons (pe_ix ix_tup (pv 1) pe_int (fun _ _ => rfl)) pa_nil)))) (pw_or1 (pt_not (pt_val (pe_call ((ok_Lwhole T).mono (by decide)) hr rfl T.m_Lwhole T.F_Lwhole.kp T.b_Lwhole .nil pass0 (pa_cons (pe_ix ix_tup (pv 1) pe_int (fun _ _ => rfl)) pa_nil)))))))))
      (pss_one (ps_ret pe_bl))
      pss_nil)))
      (pss_one (ps_ret pe_bl)))), ?_⟩
    refine ⟨_, rfl, _, _, _, _, rfl, TyOf.lst hp, kit_ll, _, rfl, iteF ?_⟩
    refine ⟨_, rfl, p, rfl, ⟨_, SqL.of hp⟩, for_list (K := K) (a := p) (xs := ys) (fun i σ H2 => H2 = H ∧ ∃ x1 : Option V, σ = [some (.ref p), x1]) ⟨rfl, none, rfl⟩ (fun i σ H2 _ ⟨z, _⟩ => z ▸ SqL.of hp) ?_ ?_⟩
    · rintro i y σ H2 hy ⟨z2, x1, rfl⟩
      subst z2
      obtain ⟨t, kk, o, rfl, e2, e3⟩ := hP.get hy
      have hso := hsm _ (List.mem_of_getElem? e2)
      cases o with
      | none => cases hso
      | some v =>
        refine ⟨_, rfl, _, _, _, _, rfl, TyOf.tup e3, kit_tt, _, rfl, iteF ⟨_, rfl, _, 2, rfl, .inr ⟨_, SqT.of e3, rfl⟩, rfl, _, rfl, iteF ?_⟩⟩
        refine ⟨_, rfl, t, _, _, _, rfl, rfl, SqT.of e3, atI_nat (j := 0) rfl, kk, rfl, true, rfl, iteF ?_⟩
        exact ⟨_, rfl, t, _, _, _, rfl, rfl, SqT.of e3, atI_nat (j := 1) rfl, v, rfl, true, rfl, rfl, _, rfl⟩
    · rintro σ H2 ⟨z2, x1, rfl⟩
      subst z2
      exact q
theorem ok_Llarge (T : Tx K mg) : FnOk P w K mg base CX0 1 T.f_Llarge T.d_Llarge ["_law_first_here", "_law_puts_here", "_law_cell"] spLarge := by
  refine T.F_Llarge.ok sc_Llarge (fun vs H Q E h => ?_) (fun cdv A outer s H vs Q E hr h => ?_)
  · obtain ⟨f, pl, fs, ws, ps, b, c, rfl, _⟩ := h
    rfl
  · obtain ⟨f, pl, fs, ws, ps, b, c, rfl, hf, nd, f4, fU, hpl, hP, p40, G, O, pw, k⟩ := h
    have hu := hu_of hr
    refine ⟨_, (pss_cons (ps_set (i := 3) sc_Llarge.nd rfl (Or.inl rfl) (pe_callTy call_dictR (by rfl) T.z_dict boot_dict (pa_cons (pv 0) pa_nil)))
      (pss_cons (ps_for PassesOwn.never rfl (pi_range1 rfl T.z_range (pa_cons (pe_op op_add pe_int (pe_op op_mod (pv 2) pe_int)) pa_nil)) (pg_name (i := 4) sc_Llarge.nd rfl (Or.inl rfl))
      (pss_one (ps_dput hu (pv 3) (pe_op op_add (pe_op op_sub (pe_op op_mul pe_int (pv 4)) pe_int) (pe_op op_mod (pv 2) pe_int)) (pe_op op_sub (pv 4) pe_int) rfl)))
      (pss_cons (ps_set (i := 5) sc_Llarge.nd rfl (Or.inl rfl) (pe_slice sl_list (pv 1) po_none (po_some pe_int)))
      (pss_cons (ps_if (pt_cmpR (op_neNil hr.units) (pv 5) (pe_lst pa_nil) (nomark _))
      (pss_cons (ps_set (i := 6) sc_Llarge.nd rfl (Or.inl rfl) (pe_op op_mod (pe_op op_fdiv (pv 2) pe_int) (pe_callB call_len (by rfl) T.z_len boot_len (pa_cons (pv 5) pa_nil))))
      (pss_cons (ps_asg (pe_ix ix_list (pv 5) (pv 6) (fun _ _ => rfl)) (pg_tup rfl (pgs_cons (pg_name (i := 7) sc_Llarge.nd rfl (Or.inl rfl)) (pgs_cons (pg_name (i := 8) sc_Llarge.nd rfl (Or.inl rfl)) (pgs_cons (pg_name (i := 9) sc_Llarge.nd rfl (Or.inl rfl)) pgs_nil)))))
      (pss_cons (ps_set (i := 10) sc_Llarge.nd rfl (Or.inl rfl) (pe_callTy call_dictR (by rfl) T.z_dict boot_dict (pa_cons (pv 9) pa_nil)))
      (pss_cons (ps_for PassesOwn.never rfl (pi_range1 rfl T.z_range (pa_cons (pe_op op_mod (pe_op op_fdiv (pv 2) pe_int) pe_int) pa_nil)) (pg_name (i := 4) sc_Llarge.nd rfl (Or.inl rfl))
      (pss_one (ps_dput hu (pv 10) (pe_op op_add (pe_op op_sub (pe_op op_mul pe_int (pv 4)) pe_int) (pe_op op_mod (pv 2) pe_int)) (pe_ix ix_list (pe_lst (pa_cons (pv 4) (pa_cons pe_non pa_nil))) (pe_op op_mod (pv 4) pe_int) (fun _ _ => rfl)) rfl)))
      (pss_one (ps_asg (pe_tup (pa_cons (pv 7) (pa_cons (pv 8) (pa_cons (pv 10) pa_nil)))) (pg_sub (pv 5) (pv 6) set_listA)))))))
      pss_nil)
      (pss_one (ps_ret (pe_lst (pa_cons (pv 3) (pa_cons (pv 5) pa_nil))))))))), ?_⟩
    have c7 := Int.emod_nonneg c (show (7 : Int) ≠ 0 by decide)
    have c7' := Int.emod_lt_of_pos c (show (0 : Int) < 7 by decide)
    have c50 := Int.emod_nonneg c (show (50 : Int) ≠ 0 by decide)
    have c50' := Int.emod_lt_of_pos c (show (0 : Int) < 50 by decide)
    refine ⟨_, rfl, f, _, rfl, .inl hf, fun f2 hf2 => ?_⟩
    have s1 := Same.upd (o := HO.dK (dkv fs)) hf2
    refine ⟨_, rfl, _, _, rfl, rfl, (by show (0 : Int) < 50; decide), _, _, rfl, rfl, _, rfl, (by omega), (by omega), for_range (lo := 0) (n := (20 + c % 50).toNat) (fun i σ H2 => ∃ (x4 : Option V) (fr : Dr), σ = [some (.ref f), some (.ref pl), some (.int c), some (.ref f2), x4, none, none, none, none, none, none] ∧ Same H H2 ∧ H2 f2 = some (.dK (dkv fr)) ∧ (fr.map (·.1)).Nodup ∧ fr.length ≤ 4 + i ∧ ∀ x ∈ fr.map (·.1), x ∈ univL b (c % 7))
      ⟨none, fs, rfl, s1, upd_same, nd, by omega, fun x hx => univL_of (fU x hx)⟩ ?_ ?_⟩
    · rintro i σ H2 hi ⟨x4, fr, rfl, s2, h2, nd2, l2, u2⟩
      have i69 : i < 69 := by omega
      refine ⟨_, rfl, _, _, rfl, rfl, _, rfl, _, rfl, _, _, rfl, rfl, .inl ⟨by decide, by decide⟩, _, _, rfl, rfl, _, rfl, _, _, rfl, rfl, (by show (0 : Int) < 7; decide), _, _, rfl, rfl, f2, _, rfl, DPut.k (k := Sum.inl (5 * (0 + (i : Int)) - 90 + c % 7)) (v := ov (some (0 + (i : Int) - 9))) h2 (by unfold dkv; rw [List.length_map]; exact Nat.lt_of_le_of_lt l2 (Nat.lt_of_lt_of_le (show 4 + i < 100 by omega) (by decide))), ?_⟩
      refine ⟨_, putO fr (5 * (0 + (i : Int)) - 90 + c % 7) (some (0 + (i : Int) - 9)), rfl, s2.again hf2, ?_, putO_nd _ _ nd2, ?_, fun x hx => ?_⟩
      · rw [dkv_put]; exact upd_same
      · have := putO_len fr (5 * (0 + (i : Int)) - 90 + c % 7) (some (0 + (i : Int) - 9))
        omega
      · rcases putO_keys hx with e | e
        · rw [e]; exact univL_row i69
        · exact u2 x e
    · rintro σ H2 ⟨x4, fr, rfl, s2, h2, nd2, l2, u2⟩
      refine ⟨_, rfl, _, rfl, pl, _, rfl, SqL.of (s2 _ _ hpl), fun sl hsl => ?_⟩
      have ec : cutV ws none (some 8) = ws.take 8 := cut_take ws 8
      rw [ec]
      have s3 := Same.upd (o := HO.lst (ws.take 8)) hsl
      have s23 := s2.trans s3
      have hP8 := (hP.take 8)
      have l8 : (ps.take 8).length ≤ 8 := by rw [List.length_take]; omega
      have fl : fr.length ≤ 100 := by omega
      have base : Dw (univL b (c % 7)) fr (ps.take 8) := ⟨nd2, u2, (Gw.of G).take 8, fun p hp => O p (List.mem_of_mem_take hp), pw.sublist (List.take_sublist _ _), by omega, univL_len _ _, fun x hx => univL_in c7 c7' hx⟩
      have toD : ∀ H9, Same H H9 → Same H (del H9 f2) := fun H9 s9 b o e => by
        rw [del_ne fun z => by rw [z, hf2] at e; cases e]
        exact s9 b o e
      have hsl3 := upd_same (H := H2) (a := sl) (o := HO.lst (ws.take 8))
      have h23 := s3 _ _ h2
      generalize upd H2 sl (HO.lst (ws.take 8)) = H3 at s3 s23 hsl3 h23 ⊢
      refine ⟨_, rfl, (by show 0 ≤ sizeLine; decide), fun e0 he0 => ?_⟩
      have s4 := Same.upd (o := HO.lst []) he0
      have s24 := s23.trans s4
      refine ⟨sl, e0, _, rfl, rfl, SqL.of (s4 _ _ hsl3), SqL.of upd_same, _, rfl, ite2 (fun e => ?_) (fun e => ?_)⟩
      · have nz : 0 < (ws.take 8).length := by
          cases hw : ws.take 8 with
          | nil => rw [hw] at e; cases e
          | cons _ _ => exact Nat.succ_pos _
        have m0 := Int.emod_nonneg (c / 50) (show ((ws.take 8).length : Int) ≠ 0 by omega)
        have m1 := Int.emod_lt_of_pos (c / 50) (show (0 : Int) < (ws.take 8).length by omega)
        have lw := hP8.len
        obtain ⟨t, d, st, dl, dr, g1, g2, g3, g4⟩ := hP8.get (i := (c / 50 % ((ws.take 8).length : Int)).toNat) (by omega)
        have at1 : atI (ws.take 8) (c / 50 % ((ws.take 8).length : Int)) = some (.ref t) := by
          rw [← Int.toNat_of_nonneg m0]
          exact atI_nat g1
        have gq := G _ (List.mem_of_mem_take (List.mem_of_getElem? g2))
        refine ⟨_, rfl, _, _, rfl, rfl, ⟨by decide, by decide⟩, _, rfl, _, _, rfl, .inl ⟨_, SqL.of (s4 _ _ hsl3), rfl⟩, _, _, rfl, rfl, (by show (0 : Int) < ((ws.take 8).length : Int); omega), ?_⟩
        refine ⟨_, rfl, _, rfl, sl, _, _, _, rfl, rfl, SqL.of (s4 _ _ hsl3), at1, t, _, rfl, SqT.of (s24 _ _ g3), rfl, _, _, rfl, _, _, rfl, _, _, rfl, rfl, ?_⟩
        refine ⟨_, rfl, d, _, rfl, .inl (s24 _ _ g4), fun w hw => ?_⟩
        have s5 := Same.upd (o := HO.dK (dkv dr)) hw
        have hsl5 := s5 _ _ (s4 _ _ hsl3)
        have h25 := s5 _ _ (s4 _ _ h23)
        have s25 := s24.trans s5
        have w4 : H w = none := same_none s24 hw
        have wf2 : w ≠ f2 := fun z => by rw [z, s4 _ _ h23] at hw; cases hw
        have wsl : w ≠ sl := fun z => by rw [z, s4 _ _ hsl3] at hw; cases hw
        have e41 := Int.emod_nonneg (c / 7) (show (41 : Int) ≠ 0 by decide)
        have e41' := Int.emod_lt_of_pos (c / 7) (show (0 : Int) < 41 by decide)
        have hw5 := upd_same (H := upd H3 e0 (HO.lst [])) (a := w) (o := HO.dK (dkv dr))
        generalize upd (upd H3 e0 (HO.lst [])) w (HO.dK (dkv dr)) = H5 at s5 hsl5 h25 s25 hw5 ⊢
        refine ⟨_, rfl, _, _, rfl, rfl, ⟨by decide, by decide⟩, _, _, rfl, rfl, (by show (0 : Int) < 41; decide), _, rfl, (by omega), (by omega), for_range (lo := 0) (n := (c / 7 % 41).toNat) (fun i σ H6 => ∃ (x4 : Option V) (wr : Dr), σ = [some (.ref f), some (.ref pl), some (.int c), some (.ref f2), x4, some (.ref sl), some (.int (c / 50 % ((ws.take 8).length : Int))), some (.int st), some (.int dl), some (.ref d), some (.ref w)] ∧ Same H H6 ∧ H6 sl = some (.lst (ws.take 8)) ∧ H6 f2 = some (.dK (dkv fr)) ∧ H6 w = some (.dK (dkv wr)) ∧ (wr.map (·.1)).Nodup ∧ wr.length ≤ 3 + i ∧ ∀ x ∈ wr.map (·.1), x ∈ univL b (c % 7))
          ⟨_, dr, rfl, s25, hsl5, h25, hw5, gq.2.2.1, (by have := gq.2.1; omega), fun x hx => univL_of (gq.2.2.2 x hx)⟩ ?_ ?_⟩
        · rintro i σ H6 hi ⟨x4, wr, rfl, s6, hsl6, h26, hw6, nd6, l6, u6⟩
          have i41 : i < 41 := by omega
          refine ⟨_, rfl, (by show 2 ≤ sizeLine; decide), fun q hq => ?_⟩
          have s7 := Same.upd (o := HO.lst [V.int (0 + (i : Int)), .non]) hq
          obtain ⟨o, ho⟩ : ∃ o, atI [V.int (0 + (i : Int)), .non] ((0 + (i : Int)) % 2) = some (ov o) := by
            rcases Nat.mod_two_eq_zero_or_one i with z | z
            · exact ⟨some (0 + (i : Int)), by rw [show (0 + (i : Int)) % 2 = ((0 : Nat) : Int) by omega]; exact atI_nat rfl⟩
            · exact ⟨none, by rw [show (0 + (i : Int)) % 2 = ((1 : Nat) : Int) by omega]; exact atI_nat rfl⟩
          refine ⟨_, rfl, _, _, rfl, rfl, (by show (0 : Int) < 2; decide), q, _, _, _, rfl, rfl, SqL.of upd_same, ho, ?_⟩
          refine ⟨_, rfl, _, rfl, _, _, rfl, rfl, .inl ⟨by decide, by decide⟩, _, _, rfl, rfl, _, rfl, _, _, rfl, rfl, (by show (0 : Int) < 7; decide), _, _, rfl, rfl, w, _, rfl, DPut.k (k := Sum.inl (5 * (0 + (i : Int)) - 60 + c % 7)) (v := ov o) (s7 _ _ hw6) (by unfold dkv; rw [List.length_map]; exact Nat.lt_of_le_of_lt l6 (Nat.lt_of_lt_of_le (show 3 + i < 100 by omega) (by decide))), ?_⟩
          refine ⟨_, putO wr (5 * (0 + (i : Int)) - 60 + c % 7) o, rfl, (s6.trans s7).again w4, (by rw [upd_ne wsl.symm]; exact s7 _ _ hsl6), (by rw [upd_ne wf2.symm]; exact s7 _ _ h26), ?_, putO_nd _ _ nd6, ?_, fun x hx => ?_⟩
          · rw [dkv_put]; exact upd_same
          · have := putO_len wr (5 * (0 + (i : Int)) - 60 + c % 7) o
            omega
          · rcases putO_keys hx with e | e
            · rw [e]; exact univL_wide i41
            · exact u6 x e
        · rintro σ H6 ⟨x4, wr, rfl, s6, hsl6, h26, hw6, nd6, l6, u6⟩
          refine ⟨_, rfl, _, rfl, _, rfl, (by show 3 ≤ sizeLine; decide), fun tt htt => ?_⟩
          have s7 := Same.upd (o := HO.tup [.int st, .int dl, .ref w]) htt
          have ixj : ixN (ws.take 8).length (c / 50 % ((ws.take 8).length : Int)) = some (c / 50 % ((ws.take 8).length : Int)).toNat := by
            unfold ixN
            rw [if_pos m0, if_pos m1]
          refine ⟨_, rfl, _, rfl, sl, _, _, _, rfl, rfl, s7 _ _ hsl6, ixj, fun H8 h8 k8 => ?_⟩
          have nsl : H sl = none := same_none s2 hsl
          have sF : Same H H8 := fun b o e => k8 b o (fun z => by rw [z, nsl] at e; cases e) (s7 _ _ (s6 _ _ e))
          have ttsl : tt ≠ sl := fun z => by rw [z, hsl6] at htt; cases htt
          have ttf2 : tt ≠ f2 := fun z => by rw [z, h26] at htt; cases htt
          have f2sl : f2 ≠ sl := fun z => by rw [← z, h2] at hsl; cases hsl
          refine ⟨_, rfl, _, rfl, (by show 2 ≤ sizeLine; decide), fun rp hrp => ?_⟩
          have s9 := Same.upd (o := HO.lst [V.ref f2, .ref sl]) hrp
          have pt : Pts (del (upd H8 rp (HO.lst [V.ref f2, .ref sl])) f2) ((ws.take 8).set (c / 50 % ((ws.take 8).length : Int)).toNat (.ref tt)) ((ps.take 8).set (c / 50 % ((ws.take 8).length : Int)).toNat (st, dl, wr)) := by
            refine (hP8.same (toD _ (sF.trans s9))).set (d := w) ?_ ?_ _
            · rw [del_ne ttf2]
              exact s9 _ _ (k8 _ _ ttsl upd_same)
            · rw [del_ne wf2]
              exact s9 _ _ (k8 _ _ wsl (s7 _ _ hw6))
          have mem : ∀ p ∈ (ps.take 8).set (c / 50 % ((ws.take 8).length : Int)).toNat (st, dl, wr), p ∈ ps.take 8 ∨ p = (st, dl, wr) := fun p hp => set_mem hp
          have pws : ((ps.take 8).set (c / 50 % ((ws.take 8).length : Int)).toNat (st, dl, wr)).Pairwise fun u v => u.1 < v.1 := by
            have q : (((ps.take 8).set (c / 50 % ((ws.take 8).length : Int)).toNat (st, dl, wr)).map (fun p : Pt => p.1)).Pairwise (· < ·) := by
              rw [set_fst (q := (st, dl, wr)) g2 rfl]
              exact List.pairwise_map.mpr base.pw
            exact List.pairwise_map.mp q
          refine k rp f2 sl fr _ _ _ hf2 (sF.trans s9) upd_same (s9 _ _ (k8 _ _ f2sl (s7 _ _ h26))) (s9 _ _ h8) pt ⟨nd2, u2, ⟨fun p hp => ?_, fun p hp => ?_, fun p hp => ?_⟩, fun p hp => ?_, pws, by rw [List.length_set]; omega, univL_len _ _, base.inn⟩ fl
          · rcases mem p hp with z | z
            · exact base.gw.few p z
            · rw [z]
              show wr.length ≤ 44
              omega
          · rcases mem p hp with z | z
            · exact base.gw.nd p z
            · rw [z]
              exact nd6
          · rcases mem p hp with z | z
            · exact base.gw.inU p z
            · rw [z]
              exact u6
          · rcases mem p hp with z | z
            · exact base.old p z
            · rw [z]
              exact base.old (st, dl, dr) (List.mem_of_getElem? g2)
      · have ze : ws.take 8 = [] := by
          cases hw : ws.take 8 with
          | nil => rfl
          | cons _ _ => rw [hw] at e; exact absurd rfl e
        refine ⟨_, rfl, _, rfl, (by show 2 ≤ sizeLine; decide), fun rp hrp => ?_⟩
        have s9 := Same.upd (o := HO.lst [V.ref f2, .ref sl]) hrp
        exact k rp f2 sl fr _ _ _ hf2 (s24.trans s9) upd_same (s9 _ _ (s4 _ _ h23)) (s9 _ _ (s4 _ _ hsl3)) (hP8.same (toD _ (s24.trans s9))) base fl
theorem ok_Lrows (T : Tx K mg) : FnOk P w K mg base CX0 1 T.f_Lrows T.d_Lrows ["_law_held"] spRowsL := by
  refine T.F_Lrows.ok sc_Lrows (fun vs H Q E h => ?_) (fun cdv A outer s H vs Q E hr h => ?_)
  · obtain ⟨h, M, rfl, _⟩ := h
    rfl
  · obtain ⟨h, M, rfl, hh, few, k⟩ := h
    have hu := hu_of hr
    refine ⟨_, (pss_one (ps_ret (pe_compF ["_law_key_here"] rfl (CompSc.mk (fv := ["_law_held"]) (js := [0]) rfl (by decide +kernel) (by decide +kernel) (by decide +kernel) (allc_cons (Or.inl rfl) allc_nil) rfl (by decide +kernel)) (pi_list (pe_callB (call_sortedB rfl) (by rfl) T.z_sorted boot_sorted (pa_cons (pv 0) pa_nil))) (fun _ _ _ _ _ => (pg_name (i := 0) (show (["_law_key_here", "_law_held"] : List Str).Nodup by decide +kernel) rfl (Or.inl rfl))) (fun _ _ _ _ _ => (pf_one (pt_cmpR op_notN (pe_dget hu (pv 1) (pv 0) (fun _ _ => rfl)) pe_non (nomark _)))) (fun _ _ _ _ _ => (pe_tup (pa_cons (pv 0) (pa_cons (pe_dget hu (pv 1) (pv 0) (fun _ _ => rfl)) pa_nil))))))), ?_⟩
    refine ⟨_, rfl, h, _, M.map (·.1), rfl, hh, dkv_keys M, (by rw [List.length_map]; exact few), fun q hq => ⟨q, rfl, ⟨_, SqL.of upd_same⟩, ?_⟩⟩
    have s3 := Same.upd (o := HO.lst ((risen (M.map (·.1))).map V.int)) hq
    have hsl : (risen (M.map (·.1))).length ≤ 128 := by rw [(risen_perm _).length_eq, List.length_map]; omega
    have hin : ∀ k ∈ risen (M.map (·.1)), k ∈ M.map (·.1) := fun k hk' => (risen_perm _).mem_iff.mp hk'
    unfold rowsM at k
    generalize risen (M.map (·.1)) = sk at s3 hsl k hin ⊢
    refine compQF_rows (k := 1) (fs := [some (.ref h)]) sk.length (fun i => (fun k => if ((fk M k).getD none).isSome = true then some (k, (fk M k).getD none) else none) (sk.getD i 0)) rfl (Nat.le_trans hsl (by decide)) (fun i H7 s7 hlt => ⟨sk.map V.int, _, SqL.of (s7 _ _ upd_same), List.getElem?_eq_getElem (by rw [List.length_map]; exact hlt)⟩) (fun H7 s7 => ⟨sk.map V.int, SqL.of (s7 _ _ upd_same), by rw [List.length_map]; exact Nat.le_refl _⟩) ?_ ?_
    · rintro i H7 ts v H' R s7 hlt ht ⟨rfl, hv⟩ c0 c1
      have ev := hv (sk.map V.int) (SqL.of (s7 _ _ upd_same))
      rw [List.getElem?_map] at ev
      obtain ⟨kk, ek, rfl⟩ := Option.map_eq_some_iff.mp ev
      have egd : sk.getD i 0 = kk := by rw [List.getD_eq_getElem?_getD, ek]; rfl
      rw [egd] at c0 c1
      dsimp only at c0 c1
      have hM7 := s7 _ _ (s3 _ _ hh)
      obtain ⟨o, eo⟩ : ∃ o, fk M kk = some o := by
        cases e : fk M kk with
        | some o => exact ⟨o, rfl⟩
        | none => exact absurd (hin kk (List.mem_of_getElem? ek)) (fk_none.mp e)
      have hg : valV (dkv M) (Sum.inl kk : Key) = some (ov o) := by rw [fk_val, eo]; rfl
      rw [eo] at c0 c1
      match ts, ht with
      | [t0], _ =>
        refine ⟨_, rfl, _, rfl, h, _, rfl, dget_of hM7 hg, rfl, _, rfl, ?_⟩
        cases o with
        | none =>
          show if (!decide (ov none = V.non)) = true then _ else _
          rw [if_neg (by simp [ov])]
          exact c0 rfl [some (.int kk)] _ rfl (Same.refl _)
        | some x =>
          show if (!decide (ov (some x) = V.non)) = true then _ else _
          rw [if_pos (by simp [ov])]
          refine ⟨_, rfl, _, rfl, _, rfl, h, _, rfl, dget_of hM7 hg, (by show 2 ≤ sizeLine; decide), fun t ht => ?_⟩
          exact c1 kk (some x) rfl t [some (.int kk)] _ upd_same rfl (Same.upd ht)
    · intro D H8 ys hD s8 h8 hP8
      have eg := range_gather sk 0 (fun k => if ((fk M k).getD none).isSome = true then some (k, (fk M k).getD none) else none)
      rw [eg, rowsF_gather sk fun k => (fk M k).getD none] at hP8
      exact k D H8 ys (same_none s3 hD) (s3.trans s8) h8 hP8
theorem ok_Lover (T : Tx K mg) : FnOk P w K mg base CX0 2 T.f_Lover T.d_Lover ["_law_rows_here", "_law_drafts"] spOver := by
  refine T.F_Lover.ok sc_Lover (fun vs H Q E h => ?_) (fun cdv A outer s H vs Q E hr h => ?_)
  · obtain ⟨l, d, ys, L, dr, rfl, _⟩ := h
    rfl
  · obtain ⟨l, d, ys, L, dr, rfl, hl, hP, nd, l120, d44, hd, few, k⟩ := h
    have hu := hu_of hr
    refine ⟨_, (pss_cons (ps_set (i := 2) sc_Lover.nd rfl (Or.inl rfl) (pe_callTy (call_dictP (K := K) rfl rfl) (by rfl) T.z_dict boot_dict (pa_cons (pv 0) pa_nil)))
      (pss_cons (ps_expr (pe_dupd (pv 2) (pv 1) ⟨rfl, rfl, rfl, rfl⟩))
      (pss_one (ps_ret (pe_call ((ok_Lrows T).mono (by decide)) hr rfl T.m_Lrows T.F_Lrows.kp T.b_Lrows .nil pass0 (pa_cons (pv 2) pa_nil)))))), ?_⟩
    have ll : (dkv L).length = L.length := List.length_map _
    have ld : (dkv dr).length = dr.length := List.length_map _
    refine ⟨_, rfl, l, ys, dkv L, rfl, hl, hP.prs, (by omega), fun h hh => ?_⟩
    have e0 : putAllK [] (dkv L) = dkv L := putAll_dkv _ [] nd
    rw [e0]
    have s1 := Same.upd (o := HO.dK (dkv L)) hh
    have hd' : h ≠ d := fun z => by rcases hd with e | ⟨o, e⟩ <;> (rw [← z, hh] at e; cases e)
    refine ⟨_, rfl, h, rfl, .inl ⟨_, .inl upd_same⟩, _, rfl, d, _, _, rfl, hd', upd_same, rd_same s1 hd, (by rw [ll, ld]; exact Nat.le_trans (show L.length + dr.length ≤ 200 by omega) (by decide)), ?_⟩
    rw [dkv_putsO]
    have s2 := s1.again (o := HO.dK (dkv (putsO L dr))) hh
    exact ⟨_, rfl, h, _, rfl, upd_same, few, fun p H' ys' hp s3 h3 hP3 => k p H' ys' (same_none s2 hp) (s2.trans s3) h3 hP3⟩
theorem ok_Lgrown (T : Tx K mg) : FnOk P w K mg base CX0 4 T.f_Lgrown T.d_Lgrown ["_law_shelf", "_law_first_here", "_law_puts_here"] (spGrown K T.c_Shelf) := by
  refine T.F_Lgrown.ok sc_Lgrown (fun vs H Q E h => ?_) (fun cdv A outer s H vs Q E hr h => ?_)
  · obtain ⟨x, dx, d, kvs, f, pl, fs, ws, ps, U, W, rfl, _⟩ := h
    rfl
  · obtain ⟨x, dx, d, kvs, f, pl, fs, ws, ps, U, W, rfl, hs, sU, Ud, nw, hf, hpl, hP, D, q⟩ := h
    have hu := hu_of hr
    refine ⟨_, (pss_cons (ps_set (i := 3) sc_Lgrown.nd rfl (Or.inl rfl) (pe_meth (pv 0) T.cl_Shelf T.me_Shelfthere ((ok_Shelfthere T).mono (by decide)) hr T.b_Shelfthere .nil pass0 (pa_cons pe_int pa_nil)))
      (pss_cons (ps_if (PW.pt (pw_or (pt_not (pt_val (pe_call ((ok_Lisrows T).mono (by decide)) hr rfl T.m_Lisrows T.F_Lisrows.kp T.b_Lisrows .nil pass0 (pa_cons (pv 3) pa_nil)))) (pw_or1 (pt_cmpR (op_neS hr.units) (pv 3) (pe_call ((ok_Lrows T).mono (by decide)) hr rfl T.m_Lrows T.F_Lrows.kp T.b_Lrows .nil pass0 (pa_cons (pv 1) pa_nil)) (nomark _)))))
      (pss_one (ps_ret pe_non))
      pss_nil)
      (pss_cons (ps_set (i := 4) sc_Lgrown.nd rfl (Or.inl rfl) (pe_lst (pa_cons (pe_tup (pa_cons pe_int (pa_cons (pe_callTy call_list_of (by rfl) T.z_list boot_list (pa_cons (pv 3) pa_nil)) pa_nil))) pa_nil)))
      (pss_cons (ps_for PassesOwn.never rfl (pi_list (pv 2)) (pg_tup rfl (pgs_cons (pg_name (i := 5) sc_Lgrown.nd rfl (Or.inl rfl)) (pgs_cons (pg_name (i := 6) sc_Lgrown.nd rfl (Or.inl rfl)) (pgs_cons (pg_name (i := 7) sc_Lgrown.nd rfl (Or.inl rfl)) pgs_nil))))
      (pss_cons (ps_set (i := 3) sc_Lgrown.nd rfl (Or.inl rfl) (pe_ix ix_tup (pe_ix ix_list (pv 4) (pe_un un_neg pe_int) (fun _ _ => rfl)) pe_int (fun _ _ => rfl)))
      (pss_cons (ps_if (pt_cmpR (op_neS hr.units) (pe_meth (pv 0) T.cl_Shelf T.me_Shelfthere ((ok_Shelfthere T).mono (by decide)) hr T.b_Shelfthere .nil pass0 (pa_cons (pv 5) pa_nil)) (pv 3) (nomark _))
      (pss_one (ps_ret pe_non))
      pss_nil)
      (pss_cons (ps_expr (pe_meth (pv 0) T.cl_Shelf T.me_Shelfput ((ok_Shelfput T).mono (by decide)) hr T.b_Shelfput .nil pass0 (pa_cons (pv 5) (pa_cons (pv 6) (pa_cons (pe_callTy call_dictR (by rfl) T.z_dict boot_dict (pa_cons (pv 7) pa_nil)) pa_nil)))))
      (pss_cons (ps_set (i := 8) sc_Lgrown.nd rfl (Or.inl rfl) (pe_meth (pv 0) T.cl_Shelf T.me_Shelfthere ((ok_Shelfthere T).mono (by decide)) hr T.b_Shelfthere .nil pass0 (pa_cons (pv 5) pa_nil)))
      (pss_cons (ps_if (PW.pt (pw_or (pt_not (pt_val (pe_call ((ok_Lisrows T).mono (by decide)) hr rfl T.m_Lisrows T.F_Lisrows.kp T.b_Lisrows .nil pass0 (pa_cons (pv 8) pa_nil)))) (pw_or (pt_cmpR (op_neS hr.units) (pv 8) (pe_call ((ok_Lover T).mono (by decide)) hr rfl T.m_Lover T.F_Lover.kp T.b_Lover .nil pass0 (pa_cons (pv 3) (pa_cons (pv 7) pa_nil))) (nomark _)) (pw_or1 (pt_cmpR (op_neS hr.units) (pe_meth (pv 0) T.cl_Shelf T.me_Shelfthere ((ok_Shelfthere T).mono (by decide)) hr T.b_Shelfthere .nil pass0 (pa_cons (pe_op op_sub (pv 5) pe_int) pa_nil)) (pv 3) (nomark _))))))
      (pss_one (ps_ret pe_non))
      pss_nil)
      (pss_one (ps_expr (pe_bm PySem.F.plainAttrs_list PySem.F.slot_list_append PySem.F.type_list_append mt_appendA (pv 4) (pa_cons (pe_tup (pa_cons (pv 5) (pa_cons (pe_callTy call_list_of (by rfl) T.z_list boot_list (pa_cons (pv 8) pa_nil)) pa_nil))) pa_nil))))))))))
      (pss_one (ps_ret (pv 4))))))), ?_⟩
    have ln := D.len
    have few0 : (mOf fs []).length < 128 := by
      have := keysW_few (fs := fs) (ps := []) hs ⟨(fun p hp => by cases hp), (fun p hp => by cases hp), (fun p hp => by cases hp)⟩ D.fin
      omega
    have ffew : fs.length < 128 := by
      have := nodup_len D.nd D.fin
      rw [List.length_map] at this
      omega
    refine ⟨_, rfl, x, dx, _, rfl, hs.obj, rfl, x, dx, d, kvs, m0 fs, 0, rfl, hs, few0, fun p1 H1 ys hp1 s1 h1 hP1 => ?_⟩
    have hP1' : Prt H1 ys (rowsM fs) := by
      have e := thereM (s := 0) (fs := fs) (ps := []) hs (fun p hp => by cases hp) D.nd (Int.le_refl _)
      rw [show rowsF (risen ((m0 fs).map (·.1))) (fun k => (makeAt (hk (m0 fs) k) 0).2.2) = rowsM fs from e] at hP1
      exact hP1
    refine ⟨_, rfl, p1, ys, _, rfl, h1, hP1, rowsF_some, true, rfl, iteF ?_⟩
    refine ⟨_, rfl, _, rfl, f, fs, rfl, s1 _ _ (sU _ _ hf), ffew, fun p2 H2 ys2 hp2 s2 h2 hP2 => ?_⟩
    refine ⟨_, _, .lst (SqL.of (s2 _ _ h1)) (hP1'.same s2).dts, .lst (SqL.of h2) hP2.dts, shaped_R _, shaped_R _, _, rfl, ?_⟩
    rw [eqv_R]
    refine iteF ?_
    have s12 := s1.trans s2
    refine ⟨_, rfl, p1, ys, rfl, .inl (SqL.of (s2 _ _ h1)), fun l0 hl0 => ⟨(by show 2 ≤ sizeLine; decide), fun t0 ht0 => ⟨(by show 1 ≤ sizeLine; decide), fun L hL => ?_⟩⟩⟩
    have s3 := Same.upd (o := HO.lst ys) hl0
    have s4 := Same.upd (o := HO.tup [.int 0, .ref l0]) ht0
    have s5 := Same.upd (o := HO.lst [V.ref t0]) hL
    have s35 := s3.trans (s4.trans s5)
    have s15 := s12.trans s35
    have Ll0 : L ≠ l0 := fun z => by rw [z, s4 _ _ upd_same] at hL; cases hL
    have LH : H L = none := same_none s12 (same_none s3 (same_none s4 hL))
    have l0H : H l0 = none := same_none s12 hl0
    have X0 : Rx (upd (upd (upd H2 l0 (HO.lst ys)) t0 (HO.tup [.int 0, .ref l0])) L (HO.lst [V.ref t0])) [.ref t0] fs ps 0 [l0] := by
      refine ⟨rfl, fun j hj => ?_⟩
      cases Nat.le_zero.mp hj
      exact ⟨t0, l0, ys, rfl, List.mem_cons_self, s5 _ _ upd_same, s5 _ _ (s4 _ _ upd_same), (hP1'.same s2).same s35⟩
    have hL5 := upd_same (H := upd (upd H2 l0 (HO.lst ys)) t0 (HO.tup [.int 0, .ref l0])) (a := L) (o := HO.lst [V.ref t0])
    have l05 := s5 _ _ (s4 _ _ (upd_same (H := H2) (a := l0) (o := HO.lst ys)))
    have UL : U L = none := same_none sU LH
    generalize upd (upd (upd H2 l0 (HO.lst ys)) t0 (HO.tup [.int 0, .ref l0])) L (HO.lst [V.ref t0]) = H5 at s5 s35 s15 X0 hL5 l05 ⊢
    have lw := hP.len
    have l40 := D.forty
    refine ⟨_, rfl, pl, rfl, ⟨_, SqL.of (s15 _ _ (sU _ _ hpl))⟩, for_list (K := K) (a := pl) (xs := ws) (fun i σ H7 => ∃ (x3 x5 x6 x7 x8 : Option V) (kvs : List (Key × V)) (us : List V) (Ls : List Addr), σ = [some (.ref x), some (.ref f), some (.ref pl), x3, some (.ref L), x5, x6, x7, x8] ∧ Hs K T.c_Shelf H7 x dx d kvs (mOf fs (ps.take i)) ∧ Same U H7 ∧ H7 L = some (.lst us) ∧ Rx H7 us fs ps i Ls ∧ (∀ l, V.ref l ∈ kvs.map (·.2) → U l = none ∧ l ≠ L ∧ l ∉ Ls) ∧ L ∉ Ls ∧ ∀ l ∈ Ls, ∃ ys, H7 l = some (.lst ys))
      ⟨_, none, none, none, none, kvs, _, _, rfl, hs.same s15, sU.trans s15, hL5, X0, fun l z => ⟨nw l z, ?_, ?_⟩, (by rw [List.mem_singleton]; exact Ll0), fun l hl => ⟨ys, by rw [List.mem_singleton.mp hl]; exact l05⟩⟩ (fun i σ H7 _ ⟨_, _, _, _, _, _, _, _, _, _, z, _⟩ => SqL.of (z _ _ hpl)) ?_ ?_⟩
    · intro y
      obtain ⟨us, e0⟩ := hs.ent.tracked z
      rw [y, LH] at e0
      cases e0
    · rw [List.mem_singleton]
      intro y
      obtain ⟨us, e0⟩ := hs.ent.tracked z
      rw [y, l0H] at e0
      cases e0
    · rintro i y σ H7 hy ⟨x3, x5, x6, x7, x8, kvs, us, Ls, rfl, hs7, sU7, hL7, X7, nw7, nL, lsT⟩
      have hiq : i < ps.length := by rw [← lw]; exact (List.getElem?_eq_some_iff.mp hy).1
      obtain ⟨t, dd, q1, q2, dr, e1, e2, e3, e4⟩ := hP.get hiq
      rw [e1] at hy
      cases hy
      have mp := List.mem_of_getElem? e2
      have q10 : 0 ≤ q1 - 1 := by have := D.old _ mp; simp only at this; omega
      have ndr := D.gw.nd _ mp
      refine ⟨t, _, rfl, SqT.of (sU7 _ _ e3), rfl, _, _, rfl, _, _, rfl, _, _, rfl, rfl, ?_⟩
      obtain ⟨tj, lj, yj, u1, u2, u3, u4, u5⟩ := X7.at_ i (Nat.le_refl _)
      refine ⟨_, rfl, _, rfl, L, _, _, _, rfl, rfl, SqL.of hL7, atI_end X7.len u1, tj, _, _, _, rfl, rfl, SqT.of u3, atI_nat (j := 1) rfl, ?_⟩
      have gwi := D.gw.take i
      have few7 : (mOf fs (ps.take i)).length < 128 := by
        have := keysW_few hs7 gwi D.fin
        omega
      have eA : heldF q1 fs (ps.take i) = heldA fs (ps.take i) := heldF_all fun p hp => Int.le_of_lt (early_lt D.pw e2 p hp)
      refine ⟨_, rfl, x, dx, _, rfl, hs7.obj, rfl, _, rfl, x, dx, d, kvs, _, q1, rfl, hs7, few7, fun p3 H3 y3 hp3 s3 h3 hP3 => ?_⟩
      rw [thereM hs7 gwi.nd D.nd (by omega), eA] at hP3
      refine ⟨_, rfl, _, _, .lst (SqL.of h3) hP3.dts, .lst (SqL.of (s3 _ _ u4)) (u5.same s3).dts, shaped_R _, shaped_R _, _, rfl, ?_⟩
      rw [eqv_R]
      refine iteF ?_
      have hs3 := hs7.same s3
      have sU3 := sU7.trans s3
      have X3 := X7.same s3
      have hL3 := s3 _ _ hL7
      refine ⟨_, rfl, x, dx, _, rfl, hs3.obj, rfl, _, rfl, _, rfl, _, rfl, dd, _, rfl, .inl (sU3 _ _ e4), fun r hr' => ?_⟩
      have sr := Same.upd (o := HO.dK (dkv dr)) hr'
      have hsr := hs3.same sr
      have rd : r ≠ d := fun z => by have e := hs3.dict; rw [← z, hr'] at e; cases e
      have few3 := D.gw.few _ mp
      refine ⟨x, dx, d, r, kvs, _, q1, q2, dr, rfl, hsr, .inl upd_same, rd, Nat.le_trans few3 (by decide), (by omega), shortW hs7 gwi (by rw [List.length_take]; omega), fun H8 kvs8 ob8 hs8 lf gr hfr8 => ?_⟩
      have keep8 : ∀ b o, H3 b = some o → b ≠ d → V.ref b ∉ kvs.map (·.2) → H8 b = some o := fun b o e n1 n2 => lf b o (sr _ _ e) n1 (fun z => by rw [z, hr'] at e; cases e) n2
      have notl : ∀ b o, H3 b = some o → (∀ vs, o ≠ .lst vs) → V.ref b ∉ kvs.map (·.2) := fun b o e n z => by
        obtain ⟨vs, e0⟩ := hs3.ent.tracked z
        rw [e0] at e
        cases e
        exact n _ rfl
      have nd8 : ∀ b o, H3 b = some o → (∀ ks, o ≠ .dK ks) → b ≠ d := fun b o e n z => by
        have e' := hs3.dict
        rw [← z, e] at e'
        cases e'
        exact n _ rfl
      have hL8 := keep8 _ _ hL3 (nd8 _ _ hL3 fun _ z => by cases z) fun z => (nw7 L z).2.1 rfl
      have X8 : Rx H8 us fs ps i Ls := X3.keep (fun b xs e => keep8 b _ e (nd8 _ _ e fun _ z => by cases z) (notl _ _ e fun _ z => by cases z)) fun b ks hb e => keep8 b _ e (nd8 _ _ e fun _ z => by cases z) fun z => (nw7 b z).2.2 hb
      have sU8 : Same U H8 := fun b o e => keep8 b o (sU3 _ _ e) (fun z => by rw [z, Ud] at e; cases e) fun z => by rw [(nw7 _ z).1] at e; cases e
      have em : mOf fs (ps.take (i + 1)) = putAll (mOf fs (ps.take i)) q1 q2 dr := by rw [List.take_add_one, e2]; exact mOf_snoc _ _ _
      rw [← em] at hs8
      have eh : heldA fs (ps.take (i + 1)) = putsO (heldA fs (ps.take i)) dr := by rw [List.take_add_one, e2]; exact heldA_snoc _ _ _
      have gw1 := D.gw.take (i + 1)
      have few8 : (mOf fs (ps.take (i + 1))).length < 128 := by
        have := keysW_few hs8 gw1 D.fin
        omega
      have eB : heldF q1 fs (ps.take (i + 1)) = heldA fs (ps.take (i + 1)) := heldF_all (when_le D.pw e2)
      have eC : heldF (q1 - 1) fs (ps.take (i + 1)) = heldA fs (ps.take i) := by
        have z := heldF_cut (s := q1 - 1) (fs := fs) (ps := ps.take (i + 1)) i (fun p hp => by
          rw [List.take_take, Nat.min_eq_left (Nat.le_succ i)] at hp
          have := early_lt D.pw e2 p hp
          simp only at this
          omega) (fun p hp => by
          rw [List.take_add_one, e2, List.drop_append_of_le_length (by rw [List.length_take]; omega), List.drop_of_length_le (by rw [List.length_take]; omega)] at hp
          have e : p = (q1, q2, dr) := by simpa using hp
          rw [e]
          show ¬ q1 ≤ q1 - 1
          omega)
        rw [List.take_take, Nat.min_eq_left (Nat.le_succ i)] at z
        exact z
      have mnd : ((heldA fs (ps.take i)).map (·.1)).Nodup := by rw [← eA]; exact held_nd _ _ _ D.nd
      have mk : ∀ y ∈ (heldA fs (ps.take i)).map (·.1), y ∈ W := by rw [← eA]; exact heldF_keys _ gwi D.fin
      have rnd := lt_nd (rowsM_nd mnd)
      have rk : ∀ y ∈ (rowsM (heldA fs (ps.take i))).map (·.1), y ∈ W := fun y hy => mk y (rowsM_keys y hy)
      have r120 : (rowsM (heldA fs (ps.take i))).length ≤ 120 := by
        have := nodup_len rnd rk
        rw [List.length_map] at this
        omega
      have o128 : (putsO (rowsM (heldA fs (ps.take i))) dr).length < 128 := by
        have := nodup_len (putsO_nd dr _ rnd) (U := W) fun y hy => (putsO_keys dr _ hy).elim (rk y) (D.gw.inU _ mp y)
        rw [List.length_map] at this
        omega
      refine ⟨_, rfl, x, dx, _, rfl, hs8.obj, rfl, _, rfl, x, dx, d, kvs8, _, q1, rfl, hs8, few8, fun p9 H9 y9 hp9 s9 h9 hP9 => ?_⟩
      rw [thereM hs8 gw1.nd D.nd (by omega), eB] at hP9
      refine ⟨_, rfl, p9, y9, _, rfl, h9, hP9, rowsF_some, true, rfl, iteF ?_⟩
      obtain ⟨tj', lj', yj', w1, w2, w3, w4, w5⟩ := X8.at_ i (Nat.le_refl _)
      rw [u1] at w1
      cases w1
      have e3' : lj' = lj := by
        have z := keep8 _ _ (s3 _ _ u3) (nd8 _ _ (s3 _ _ u3) fun _ z => by cases z) (notl _ _ (s3 _ _ u3) fun _ z => by cases z)
        rw [w3] at z
        cases z
        rfl
      subst e3'
      refine ⟨_, rfl, _, rfl, _, rfl, lj', dd, yj', _, dr, rfl, s9 _ _ w4, w5.same s9, rnd, r120, few3, .inl (s9 _ _ (sU8 _ _ e4)), o128, fun pa Ha ya hpa sa ha hPa => ?_⟩
      rw [rowsM_over mnd ndr, ← eh] at hPa
      refine ⟨_, _, .lst (SqL.of (sa _ _ h9)) (hP9.same sa).dts, .lst (SqL.of ha) hPa.dts, shaped_R _, shaped_R _, _, rfl, ?_⟩
      rw [eqv_R]
      refine iteF ?_
      have s9a := s9.trans sa
      refine ⟨_, rfl, x, dx, _, rfl, (hs8.same s9a).obj, rfl, _, rfl, _, _, rfl, rfl, x, dx, d, kvs8, _, q1 - 1, rfl, hs8.same s9a, few8, fun pb Hb yb hpb sb hb' hPb => ?_⟩
      rw [thereM hs8 gw1.nd D.nd q10, eC] at hPb
      have s9b := s9a.trans sb
      refine ⟨_, rfl, _, _, .lst (SqL.of hb') hPb.dts, .lst (SqL.of (s9b _ _ w4)) (w5.same s9b).dts, shaped_R _, shaped_R _, _, rfl, ?_⟩
      rw [eqv_R]
      refine iteF ?_
      have hLb := s9b _ _ hL8
      have h9b := sb _ _ (sa _ _ h9)
      refine ⟨_, rfl, .inl ⟨rfl, _, SqL.of hLb⟩, _, rfl, _, rfl, p9, y9, rfl, .inl (SqL.of h9b), fun ln hln => ⟨(by show 2 ≤ sizeLine; decide), fun tn htn => ?_⟩⟩
      have sc := Same.upd (o := HO.lst y9) hln
      have sd := Same.upd (o := HO.tup [.int q1, .ref ln]) htn
      have scd := sc.trans sd
      have hLc := scd _ _ hLb
      refine ⟨L, us, _, rfl, rfl, hLc, (by rw [X8.len]; exact Nat.lt_of_lt_of_le (show i + 1 < 100 by omega) (by decide)), fun H12 h12 k12 => ?_⟩
      have s9c := s9b.trans scd
      have lnL : ln ≠ L := fun z => by rw [z, hLb] at hln; cases hln
      have nwL : ∀ l, V.ref l ∈ kvs8.map (·.2) → l ≠ L := fun l z y => (gr l z).elim (fun q => (nw7 l q).2.1 y) fun q => by rw [y, sr _ _ hL3] at q; cases q
      have hs12 := (hs8.same s9c).butL hLc (fun z => nwL L z rfl) k12
      have ln12 := k12 _ _ lnL (sd _ _ (upd_same (H := Hb) (a := ln) (o := HO.lst y9)))
      have tn12 := k12 _ _ (fun z => by rw [z, sc _ _ hLb] at htn; cases htn) (upd_same (H := upd Hb ln (HO.lst y9)) (a := tn) (o := HO.tup [.int q1, .ref ln]))
      have kt : ∀ b xs, upd (upd Hb ln (HO.lst y9)) tn (HO.tup [.int q1, .ref ln]) b = some (.tup xs) → H12 b = some (.tup xs) := fun b xs e => k12 b _ (fun z => by rw [z, hLc] at e; cases e) e
      have X12 : Rx H12 us fs ps i Ls := (X8.same s9c).keep kt fun b ys hb e => k12 b _ (fun z => nL (z ▸ hb)) e
      have ew : whenP ps (i + 1) = q1 := by show ((ps[i]?).map (·.1)).getD 0 = q1; rw [e2]; rfl
      have X13 := X12.snoc (t := tn) (l := ln) (by rw [ew]; exact tn12) ln12 ((((hP9.same sa).same sb).same scd).keep kt)
      have sU12 : Same U H12 := fun b o e => k12 b o (fun z => by rw [z, UL] at e; cases e) (s9c _ _ (sU8 _ _ e))
      refine ⟨_, _, _, _, _, kvs8, _, _, rfl, hs12, sU12, h12, X13, fun l z => ⟨?_, nwL l z, fun y => ?_⟩, fun y => ?_, fun l y => ?_⟩
      · exact (gr l z).elim (fun q => (nw7 l q).1) fun q => same_none sU3 (same_none sr q)
      · rcases List.mem_cons.mp y with y | y
        · obtain ⟨vs, e0⟩ := hs8.ent.tracked z
          rw [y, same_none s9b hln] at e0
          cases e0
        · rcases gr l z with q | q
          · exact (nw7 l q).2.2 y
          · obtain ⟨ys', e⟩ := lsT l y
            rw [same_none s3 (same_none sr q)] at e
            cases e
      · rcases List.mem_cons.mp y with y | y
        · exact lnL y.symm
        · exact nL y
      · rcases List.mem_cons.mp y with y | y
        · exact ⟨_, by rw [y]; exact ln12⟩
        · obtain ⟨ys', e⟩ := lsT l y
          have h3' := s3 _ _ e
          exact ⟨_, k12 _ _ (fun q => nL (q ▸ y)) (s9c _ _ (keep8 _ _ h3' (nd8 _ _ h3' fun _ z => by cases z) fun q => (nw7 l q).2.2 y))⟩
    · rintro σ H7 ⟨x3, x5, x6, x7, x8, kvs, us, Ls, rfl, hs7, sU7, hL7, X7, nw7, nL, lsT⟩
      rw [lw] at X7 hs7
      rw [List.take_length] at hs7
      exact ⟨_, rfl, q L H7 kvs us Ls hs7 sU7 hL7 X7⟩
theorem ok_Lmakes (T : Tx K mg) : FnOk P w K mg base CX0 2 T.f_Lmakes T.d_Lmakes ["_law_shelf", "_law_rows_here", "_law_stamp", "_law_dealing", "_law_drafts"] (spMakesL K T.c_Shelf) := by
  refine T.F_Lmakes.ok sc_Lmakes (fun vs H Q E h => ?_) (fun cdv A outer s H vs Q E hr h => ?_)
  · obtain ⟨x, dx, d, kvs, m, l, d2, ys, L, dr, st, dl, rfl, _⟩ := h
    rfl
  · obtain ⟨x, dx, d, kvs, m, l, d2, ys, L, dr, st, dl, rfl, hs, hl, hP, hL, s0, hd2, nd2, ndd, hdr, q⟩ := h
    have hu := hu_of hr
    refine ⟨_, (pss_cons (ps_for PassesOwn.never rfl (pi_list (pv 1)) (pg_tup rfl (pgs_cons (pg_name (i := 5) sc_Lmakes.nd rfl (Or.inl rfl)) (pgs_cons (pg_name (i := 6) sc_Lmakes.nd rfl (Or.inl rfl)) pgs_nil)))
      (pss_cons (ps_set (i := 7) sc_Lmakes.nd rfl (Or.inl rfl) (pe_meth (pv 0) T.cl_Shelf T.me_Shelfmake ((ok_Shelfmake T).mono (by decide)) hr T.b_Shelfmake .nil pass0 (pa_cons (pv 5) (pa_cons (pv 2) pa_nil))))
      (pss_one (ps_if (PW.pt (pw_or (pt_not (pt_val (pe_callB (call_ist (K := K) rfl) (by rfl) T.z_isinstance boot_isinstance (pa_cons (pv 7) (pa_cons (pe_bltn (v := V.ty "tuple") rfl T.z_tuple boot_tuple rfl) pa_nil))))) (pw_or (pt_cmpR op_ne (pe_callB call_len (by rfl) T.z_len boot_len (pa_cons (pv 7) pa_nil)) pe_int (nomark _)) (pw_or (pt_cmpR op_gt (pe_ix ix_tup (pv 7) pe_int (fun _ _ => rfl)) (pv 2) (nomark _)) (pw_or1 (pt_cmpR op_ne (pe_ix ix_tup (pv 7) pe_int (fun _ _ => rfl)) (pv 6) (nomark _)))))))
      (pss_one (ps_ret pe_bl))
      pss_nil))))
      (pss_cons (ps_for PassesOwn.never rfl (pi_keys (pv 4)) (pg_name (i := 5) sc_Lmakes.nd rfl (Or.inl rfl))
      (pss_one (ps_if (pt_cmpR (op_neS hr.units) (pe_meth (pv 0) T.cl_Shelf T.me_Shelfmake ((ok_Shelfmake T).mono (by decide)) hr T.b_Shelfmake .nil pass0 (pa_cons (pv 5) (pa_cons (pv 2) pa_nil))) (pe_tup (pa_cons (pv 2) (pa_cons (pv 3) (pa_cons (pe_dget hu (pv 4) (pv 5) (fun _ _ => rfl)) pa_nil)))) (nomark _))
      (pss_one (ps_ret pe_bl))
      pss_nil)))
      (pss_one (ps_ret pe_bl)))), ?_⟩
    refine ⟨_, rfl, l, rfl, ⟨_, SqL.of hl⟩, for_list (K := K) (a := l) (xs := ys) (fun i σ H2 => ∃ (x5 x6 x7 : Option V), σ = [some (.ref x), some (.ref l), some (.int st), some (.int dl), some (.ref d2), x5, x6, x7] ∧ Same H H2) ⟨none, none, none, rfl, Same.refl _⟩ (fun i σ H2 _ ⟨_, _, _, _, s2⟩ => SqL.of (s2 _ _ hl)) ?_ ?_⟩
    · rintro i y σ H2 hy ⟨x5, x6, x7, rfl, s2⟩
      obtain ⟨t, kk, o, rfl, e2, e3⟩ := hP.get hy
      obtain ⟨so, mo⟩ := hL _ (List.mem_of_getElem? e2)
      cases o with
      | none => cases so
      | some v =>
        refine ⟨t, _, rfl, SqT.of (s2 _ _ e3), rfl, _, _, rfl, _, _, rfl, rfl, ?_⟩
        refine ⟨_, rfl, x, dx, _, rfl, (hs.same s2).obj, rfl, _, rfl, _, rfl, x, dx, d, kvs, m, kk, st, rfl, hs.same s2, fun tm H3 s3 ht3 => ?_⟩
        have le := makeAt_le (rs := hk m kk) s0
        obtain ⟨mk, emk⟩ : ∃ mk, mk = makeAt (hk m kk) st := ⟨_, rfl⟩
        replace mo : (makeAt (hk m kk) st).2.2 = some v := mo
        rw [← emk] at ht3 le mo
        obtain ⟨a0, b0, o0⟩ := mk
        cases (show o0 = some v from mo)
        refine ⟨_, rfl, tm, _, _, _, rfl, ht3, kit_tt, _, rfl, iteF ⟨_, rfl, _, 3, rfl, .inr ⟨_, ht3, rfl⟩, rfl, _, rfl, iteF ?_⟩⟩
        refine ⟨_, rfl, tm, _, _, _, rfl, rfl, ht3, atI_nat (j := 0) rfl, _, rfl, _, _, rfl, rfl, _, rfl, ite2 (fun e => ?_) (fun _ => ?_)⟩
        · have : st < a0 := of_decide_eq_true e
          replace le : a0 ≤ st := le
          omega
        · refine ⟨_, rfl, tm, _, _, _, rfl, rfl, ht3, atI_nat (j := 2) rfl, _, rfl, rfl, _, rfl, ite2 (fun e => ?_) (fun _ => ⟨_, _, _, rfl, s2.trans s3⟩)⟩
          replace e : (!decide (V.int v = V.int v)) = true := e
          rw [decide_eq_true rfl] at e
          cases e
    · rintro σ H2 ⟨x5, x6, x7, rfl, s2⟩
      refine ⟨_, rfl, d2, dkv dr, rfl, rd_same s2 hd2, fun ob H3 h3 k3 n3 => ?_⟩
      have k03 : ∀ b o, b ≠ d2 → H b = some o → H3 b = some o := fun b o n e => k3 b o n (s2 _ _ e)
      refine for_keys (d := d2) (ob := ob) (kvs := dkv dr) (fun i σ H4 => ∃ (x5 x6 x7 : Option V), σ = [some (.ref x), some (.ref l), some (.int st), some (.int dl), some (.ref d2), x5, x6, x7] ∧ Same H3 H4) ⟨_, _, _, rfl, Same.refl _⟩ (fun i σ H4 ⟨_, _, _, _, s4⟩ => s4 _ _ h3) ?_ ?_
      · rintro i kk xv σ H4 hx ⟨x5, x6, x7, rfl, s4⟩
        have hlt : i < dr.length := by
          have := (List.getElem?_eq_some_iff.mp hx).1
          unfold dkv at this
          rwa [List.length_map] at this
        obtain ⟨⟨fk0, fv⟩, hf'⟩ : ∃ q, dr[i]? = some q := ⟨_, List.getElem?_eq_getElem hlt⟩
        have ex : (dkv dr)[i]? = some (Sum.inl fk0, ov fv) := by unfold dkv; rw [List.getElem?_map, hf']; rfl
        rw [ex] at hx
        cases hx
        have md := List.mem_of_getElem? hf'
        have hs4 := (hs.butD ⟨_, hd2⟩ nd2 k03).same s4
        refine ⟨_, rfl, x, dx, _, rfl, hs4.obj, rfl, _, rfl, _, rfl, x, dx, d, kvs, m, fk0, st, rfl, hs4, fun tm H5 s5 ht5 => ?_⟩
        rw [hdr _ md] at ht5
        have hv : valV (dkv dr) (Sum.inl fk0 : Key) = some (ov fv) := by rw [fk_val, (fk_mem ndd).mpr md]; rfl
        refine ⟨_, rfl, _, rfl, _, rfl, _, rfl, d2, _, rfl, .inl ⟨dkv dr, Sum.inl fk0, .inr ⟨ob, s5 _ _ (s4 _ _ h3)⟩, rfl, hv.symm⟩, (by show 3 ≤ sizeLine; decide), fun tt htt => ?_⟩
        have s6 := Same.upd (o := HO.tup [.int st, .int dl, ov fv]) htt
        refine ⟨_, _, .tup (same_seqT s6 ht5) (dts_M _), .tup (SqT.of upd_same) (dts_M (st, dl, fv)), shaped_M _, shaped_M _, _, rfl, ?_⟩
        rw [eqv_M]
        exact iteF ⟨_, _, _, rfl, s4.trans (s5.trans s6)⟩
      · rintro σ H4 ⟨x5, x6, x7, rfl, s4⟩
        exact q H4 ob (fun b o n e => s4 _ _ (k03 b o n e)) (s4 _ _ h3)
theorem ok_law (T : Tx K mg) : FnOk P w K mg base CX0 6 T.f_law T.d_law ["_law_script"] (spLaw K) := by
  refine T.F_law.ok sc_law (fun vs H Q E h => ?_) (fun cdv A outer s H vs Q E hr h => ?_)
  · obtain ⟨a, ns, rfl, _⟩ := h
    rfl
  · obtain ⟨a, ns, rfl, hS, hlen, hb, k⟩ := h
    have hu := hu_of hr
    refine ⟨_, (pss_cons (ps_set (i := 1) sc_law.nd rfl (Or.inl rfl) (pe_op op_mod (pe_call ((ok_Lcellat T).mono (by decide)) hr rfl T.m_Lcellat T.F_Lcellat.kp T.b_Lcellat .nil pass0 (pa_cons (pv 0) (pa_cons pe_int pa_nil))) pe_int))
      (pss_cons (ps_set (i := 2) sc_law.nd rfl (Or.inl rfl) (pe_call ((ok_Lfirst T).mono (by decide)) hr rfl T.m_Lfirst T.F_Lfirst.kp T.b_Lfirst .nil pass0 (pa_cons (pe_call ((ok_Lcellat T).mono (by decide)) hr rfl T.m_Lcellat T.F_Lcellat.kp T.b_Lcellat .nil pass0 (pa_cons (pv 0) (pa_cons pe_int pa_nil))) (pa_cons (pv 1) pa_nil))))
      (pss_cons (ps_set (i := 3) sc_law.nd rfl (Or.inl rfl) (pe_call ((ok_Lputs T).mono (by decide)) hr rfl T.m_Lputs T.F_Lputs.kp T.b_Lputs .nil pass0 (pa_cons (pe_slice sl_list (pv 0) (po_some pe_int) (po_some pe_int)) (pa_cons (pv 1) pa_nil))))
      (pss_cons (ps_if (pt_cmpR op_eq (pe_op op_mod (pe_call ((ok_Lcellat T).mono (by decide)) hr rfl T.m_Lcellat T.F_Lcellat.kp T.b_Lcellat .nil pass0 (pa_cons (pv 0) (pa_cons pe_int pa_nil))) pe_int) pe_int (nomark _))
      (pss_one (ps_asg (pe_call ((ok_Llarge T).mono (by decide)) hr rfl T.m_Llarge T.F_Llarge.kp T.b_Llarge .nil pass0 (pa_cons (pv 2) (pa_cons (pv 3) (pa_cons (pe_op op_fdiv (pe_call ((ok_Lcellat T).mono (by decide)) hr rfl T.m_Lcellat T.F_Lcellat.kp T.b_Lcellat .nil pass0 (pa_cons (pv 0) (pa_cons pe_int pa_nil))) pe_int) pa_nil)))) (pg_lst rfl (pgs_cons (pg_name (i := 2) sc_law.nd rfl (Or.inl rfl)) (pgs_cons (pg_name (i := 3) sc_law.nd rfl (Or.inl rfl)) pgs_nil)))))
      pss_nil)
      (pss_cons (ps_set (i := 4) sc_law.nd rfl (Or.inl rfl) (pe_make T.mk_Shelf ((ok_Shelfinit T).mono (by decide)) hr rfl T.m_Shelf T.b_Shelfinit .nil pass0 (pa_cons (pe_callTy call_dictR (by rfl) T.z_dict boot_dict (pa_cons (pv 2) pa_nil)) pa_nil)))
      (pss_cons (ps_set (i := 5) sc_law.nd rfl (Or.inl rfl) (pe_call ((ok_Lgrown T).mono (by decide)) hr rfl T.m_Lgrown T.F_Lgrown.kp T.b_Lgrown .nil pass0 (pa_cons (pv 4) (pa_cons (pv 2) (pa_cons (pv 3) pa_nil)))))
      (pss_cons (ps_if (PW.pt (pw_or (pt_cmpR op_isN (pv 5) pe_non (nomark _)) (pw_or1 (pt_not (pt_val (pe_call ((ok_Lmakes T).mono (by decide)) hr rfl T.m_Lmakes T.F_Lmakes.kp T.b_Lmakes .nil pass0 (pa_cons (pv 4) (pa_cons (pe_ix ix_tup (pe_ix ix_list (pv 5) pe_int (fun _ _ => rfl)) pe_int (fun _ _ => rfl)) (pa_cons pe_int (pa_cons pe_int (pa_cons (pv 2) pa_nil)))))))))))
      (pss_one (ps_ret pe_bl))
      pss_nil)
      (pss_cons (ps_for PassesOwn.never rfl (pi_range1 rfl T.z_range (pa_cons (pe_callB call_len (by rfl) T.z_len boot_len (pa_cons (pv 3) pa_nil)) pa_nil)) (pg_name (i := 6) sc_law.nd rfl (Or.inl rfl))
      (pss_cons (ps_asg (pe_ix ix_list (pv 3) (pv 6) (fun _ _ => rfl)) (pg_tup rfl (pgs_cons (pg_name (i := 7) sc_law.nd rfl (Or.inl rfl)) (pgs_cons (pg_name (i := 8) sc_law.nd rfl (Or.inl rfl)) (pgs_cons (pg_name (i := 9) sc_law.nd rfl (Or.inl rfl)) pgs_nil)))))
      (pss_cons (ps_set (i := 10) sc_law.nd rfl (Or.inl rfl) (pe_ix ix_tup (pe_ix ix_list (pv 5) (pv 6) (fun _ _ => rfl)) pe_int (fun _ _ => rfl)))
      (pss_cons (ps_set (i := 11) sc_law.nd rfl (Or.inl rfl) (pe_ix ix_tup (pe_ix ix_list (pv 5) (pe_op op_add (pv 6) pe_int) (fun _ _ => rfl)) pe_int (fun _ _ => rfl)))
      (pss_cons (ps_asg (pe_call ((ok_Lends T).mono (by decide)) hr rfl T.m_Lends T.F_Lends.kp T.b_Lends .nil pass0 (pa_cons (pe_ix ix_list (pe_call ((ok_Lstream T).mono (by decide)) hr rfl T.m_Lstream T.F_Lstream.kp T.b_Lstream .nil pass0 (pa_cons (pe_op op_add (pe_op op_fdiv (pe_call ((ok_Lcellat T).mono (by decide)) hr rfl T.m_Lcellat T.F_Lcellat.kp T.b_Lcellat .nil pass0 (pa_cons (pv 0) (pa_cons (pe_op op_add pe_int (pv 6)) pa_nil))) pe_int) (pv 6)) (pa_cons pe_int pa_nil))) pe_int (fun _ _ => rfl)) (pa_cons (pv 1) pa_nil))) (pg_tup rfl (pgs_cons (pg_name (i := 12) sc_law.nd rfl (Or.inr rfl)) (pgs_cons (pg_name (i := 13) sc_law.nd rfl (Or.inr rfl)) pgs_nil))))
      (pss_cons (ps_compF (i := 14) ["_law_row"] rfl sc_law.nd rfl rfl (CompSc.mk (fv := ["_law_low", "_law_high"]) (js := [12, 13]) rfl (by decide +kernel) (by decide +kernel) (by decide +kernel) (allc_cons (Or.inl rfl) (allc_cons (Or.inl rfl) allc_nil)) rfl (by decide +kernel)) (pi_list (pv 11)) rfl (fun _ _ _ _ _ => (pg_name (i := 0) (show (["_law_row", "_law_low", "_law_high"] : List Str).Nodup by decide +kernel) rfl (Or.inl rfl))) (fun _ _ _ _ _ => (pf_one (pt_chain op_le op_le (pv 1) (pe_ix (ix_tupK (K := K) rfl) (pv 0) pe_int (fun _ _ => rfl)) (pv 2)))) (fun _ _ _ _ _ => (pv 0)))
      (pss_cons (ps_if (PW.pt (pw_or (pt_cmpR (op_neS hr.units) (pe_meth (pv 4) T.cl_Shelf T.me_Shelfthere ((ok_Shelfthere T).mono (by decide)) hr T.b_Shelfthere .nil pass0 (pa_cons (pv 7) pa_nil)) (pv 11) (nomark _)) (pw_or1 (pt_cmpR (op_neS hr.units) (pe_meth (pv 4) T.cl_Shelf T.me_Shelfrows ((ok_Shelfrows T).mono (by decide)) hr T.b_Shelfrows .nil pass0 (pa_cons (pv 12) (pa_cons (pv 13) (pa_cons (pv 7) pa_nil)))) (pv 14) (nomark _)))))
      (pss_one (ps_ret pe_bl))
      pss_nil)
      (pss_cons (ps_if (pt_cmpR (op_neS hr.units) (pe_call ((ok_laid T).mono (by decide)) hr rfl T.m_laid T.F_laid.kp T.b_laid .nil pass0 (pa_cons (pe_callTy call_list_of (by rfl) T.z_list boot_list (pa_cons (pv 10) pa_nil)) (pa_cons (pe_callTy call_dictR (by rfl) T.z_dict boot_dict (pa_cons (pv 9) pa_nil)) (pa_cons (pv 12) (pa_cons (pv 13) pa_nil))))) (pv 14) (nomark _))
      (pss_one (ps_ret pe_bl))
      pss_nil)
      (pss_one (ps_if (pt_not (pt_val (pe_call ((ok_Lmakes T).mono (by decide)) hr rfl T.m_Lmakes T.F_Lmakes.kp T.b_Lmakes .nil pass0 (pa_cons (pv 4) (pa_cons (pv 11) (pa_cons (pv 7) (pa_cons (pv 8) (pa_cons (pv 9) pa_nil))))))))
      (pss_one (ps_ret pe_bl))
      pss_nil))))))))))
      (pss_one (ps_ret (pe_cmpR (op_eqS hr.units) (pe_meth (pv 4) T.cl_Shelf T.me_Shelfthere ((ok_Shelfthere T).mono (by decide)) hr T.b_Shelfthere .nil pass0 (pa_cons pe_int pa_nil)) (pe_ix ix_tup (pe_ix ix_list (pv 5) pe_int (fun _ _ => rfl)) pe_int (fun _ _ => rfl)) (nomark _)))))))))))), ?_⟩
    refine ⟨_, rfl, a, ns, 0, rfl, hS, (by decide), fun c0 => ⟨_, _, rfl, rfl, (by show (0 : Int) < 2147483647; decide), ?_⟩⟩
    have b0 := Int.emod_nonneg c0 (show (2147483647 : Int) ≠ 0 by decide)
    have b1 := Int.emod_lt_of_pos c0 (show (0 : Int) < 2147483647 by decide)
    refine ⟨_, rfl, a, ns, 1, rfl, hS, (by decide), fun c1 => ⟨_, rfl, c1, c0 % 2147483647, rfl, b0, b1, fun f fs H1 hf s1 h1 nd hl hfu => ?_⟩⟩
    refine ⟨_, rfl, _, rfl, _, rfl, a, _, rfl, s1.seq hS, fun cc hcc => ?_⟩
    obtain ⟨ms, ems, hms⟩ := cut_mid ns
    rw [ems]
    have s2 := Same.upd (o := HO.lst (ms.map V.int)) hcc
    refine ⟨_, rfl, cc, ms, c0 % 2147483647, rfl, SqL.of upd_same, hms, b0, b1, fun pl ws ps H3 hpl s3 h3 hP hpn G O pw => ?_⟩
    have p40 : ps.length ≤ 40 := by rw [hpn]; exact hms
    have s13 := s1.trans (s2.trans s3)
    have h13 := s3 _ _ (s2 _ _ h1)
    have hP3 : Pts H3 ws ps := hP.keep fun b o e _ => (rst_some e).2
    have hPd : Pts (del H3 f) ws ps := hP.keep fun b o e _ => by
      rw [del_ne fun z => by have q := (rst_some e).1; rw [z, s2 _ _ h1] at q; cases q]
      exact (rst_some e).2
    have D0 : Dw (univL (c0 % 2147483647) 0) fs ps := ⟨nd, fun x hx => univL_of (hfu x hx), Gw.of G, O, pw, p40, univL_len _ _, fun x hx => univL_in (by decide) (by decide) hx⟩
    have sd3 : Same H (del H3 f) := fun b o e => by
      rw [del_ne fun z => by rw [z, hf] at e; cases e]
      exact s13 b o e
    refine ⟨_, rfl, a, ns, 1, rfl, s13.seq hS, (by decide), fun c2 => ⟨_, _, rfl, rfl, (by show (0 : Int) < 6; decide), rfl, _, rfl, ite2 (fun _ => ?_) (fun _ => ?_)⟩⟩
    · refine ⟨_, rfl, _, rfl, _, rfl, a, ns, 1, rfl, s13.seq hS, (by decide), fun c3 => ⟨_, _, rfl, rfl, ⟨by decide, by decide⟩, f, pl, fs, ws, ps, c0 % 2147483647, c3 / 6, rfl, h13, nd, hl, hfu, h3, hP3, p40, G, O, pw, fun p f2 pl2 fs2 ws2 ps2 H4 hf2 s4 hp4 h4f h4pl hP4 D fl => ?_⟩⟩
      refine ⟨p, _, rfl, SqL.of hp4, rfl, _, _, rfl, _, _, rfl, rfl, ?_⟩
      have sd4 : Same H (del H4 f2) := fun b o e => by
        rw [del_ne fun z => by have q := s13 _ _ e; rw [z, hf2] at q; cases q]
        exact s4 b o (s13 b o e)
      have DD := D
      have ln := DD.len
      have hP : Pts H4 ws2 ps2 := (hP4).keep fun b o e _ => by
        by_cases z : b = f2
        · rw [z, del_same] at e; cases e
        · rw [del_ne z] at e; exact e
      obtain ⟨Ds, hR, hDs⟩ := (hP4).ptr
      have zD : f2 ∉ Ds := fun z => hDs _ z del_same
      have hDn : ∀ y ∈ Ds, H4 y ≠ none := fun y hy z => hDs y hy (by
        have n : y ≠ f2 := fun q => zD (q ▸ hy)
        rw [del_ne n]
        exact z)
      have hSH := ((s13.trans s4)).seq hS
      refine ⟨_, rfl, f2, _, rfl, .inl h4f, fun r0 hr0 => ?_⟩
      have s2 := Same.upd (o := HO.dK (dkv fs2)) hr0
      intro x dx hx hdx _
      have sX : Same (upd H4 r0 (.dK (dkv fs2))) (upd (upd (upd H4 r0 (.dK (dkv fs2))) dx (.own x)) x (.ins T.c_Shelf dx [])) := fun b o e => by
        rw [upd_ne (fun z => by rw [z, hx] at e; cases e), upd_ne (fun z => by rw [z, hdx] at e; cases e)]
        exact e
      refine ⟨x, dx, r0, fs2, rfl, upd_same, .inl (sX _ _ upd_same), DD.nd, fl, fun Hs0 d kvs0 ob hs2 kp fr dn hfr => ⟨rfl, ?_⟩⟩
      have s12 : Same H4 Hs0 := fun b o e => kp b o (sX _ _ (s2 _ _ e)) (fun z => by rw [z] at e; rw [s2 _ _ e] at hx; cases hx) (fun z => by rw [z, hr0] at e; cases e)
      have ud : H4 d = none := same_none s2 (same_none sX dn)
      have nw0 : ∀ l, V.ref l ∈ kvs0.map (·.2) → H4 l = none := fun l z => same_none s2 (same_none sX (fr l z))
      clear sX hx hdx kp fr dn hr0 s2 hfr
      refine ⟨_, rfl, _, rfl, _, rfl, x, dx, d, kvs0, f2, pl2, fs2, ws2, ps2, H4, _, rfl, hs2, s12, ud, nw0, h4f, h4pl, hP, DD, fun L H5 kvs us Ls hs5 sU5 hL5 X5 => ?_⟩
      have dZ : d ≠ f2 := fun z => by have e := h4f; rw [← z, ud] at e; cases e
      have dD : d ∉ Ds := fun z => hDn d z ud
      clear hs2 s12 nw0
      have few5 : (mOf fs2 ps2).length < 128 := by
        have := keysW_few hs5 DD.gw DD.fin
        omega
      obtain ⟨t0, l0, y0, u1, u2, u3, u4, u5⟩ := X5.at_ 0 (Nat.zero_le _)
      refine ⟨_, rfl, rfl, _, rfl, ite2 (fun e => by cases of_decide_eq_true e) (fun _ => ?_)⟩
      refine ⟨_, rfl, _, rfl, L, _, _, _, rfl, rfl, SqL.of hL5, atI_nat (j := 0) u1, t0, _, _, _, rfl, rfl, SqT.of u3, atI_nat (j := 1) rfl, _, rfl, x, dx, d, kvs, _, l0, f2, y0, _, fs2, 0, 0, rfl, hs5, u4, u5, rows_make (j := 0) DD (Nat.zero_le _), Int.le_refl _, .inl (sU5 _ _ h4f), dZ, DD.nd, (fun q hq => make_first DD.gw.nd DD.old ((fk_mem DD.nd).mpr hq)), fun H6 ob6 k6 h6 => ⟨_, rfl, iteF ?_⟩⟩
      have k6t : ∀ b xs, H5 b = some (.tup xs) → H6 b = some (.tup xs) := fun b xs e => k6 b _ (fun z => by rw [z, sU5 _ _ h4f] at e; cases e) e
      have k6l : ∀ b xs, H5 b = some (.lst xs) → H6 b = some (.lst xs) := fun b xs e => k6 b _ (fun z => by rw [z, sU5 _ _ h4f] at e; cases e) e
      have hs6 := hs5.butD ⟨_, .inl (sU5 _ _ h4f)⟩ dZ k6
      have X6 := X5.keep k6t fun b ys _ e => k6l b ys e
      have hL6 := k6l _ _ hL5
      have hPL6 := k6l _ _ (sU5 _ _ h4pl)
      have kd6 : ∀ b o, del H4 f2 b = some o → H6 b = some o := fun b o e => by
        have n : b ≠ f2 := fun z => by rw [z, del_same] at e; cases e
        rw [del_ne n] at e
        exact k6 b o n (sU5 _ _ e)
      have hR6 : PtR H6 ws2 ps2 Ds := hR.keep (fun b xs e => kd6 _ _ e) fun b ks _ r => r.imp (kd6 _ _) fun ⟨o, e⟩ => ⟨o, kd6 _ _ e⟩
      have hS6 : SqL K H6 a (ns.map V.int) := hSH.imp (fun r => r.imp (fun e => k6l _ _ (sU5 _ _ e)) fun ⟨o, e⟩ => ⟨o, k6 _ _ (fun z => by have q := h4f; rw [z, q] at e; cases e) (sU5 _ _ e)⟩) id
      clear hs5 X5 hL5 u1 u2 u3 u4 u5 hR
      have lw := hP.len
      have l40 := DD.forty
      refine ⟨_, rfl, _, _, rfl, .inl ⟨_, SqL.of hPL6, rfl⟩, _, rfl, (by omega), (by omega), for_range (lo := 0) (n := (ws2).length) (fun i σ H7 => ∃ (x6 x7 x8 x9 x10 x11 x12 x13 x14 : Option V), σ = [some (.ref a), some (.int (c0 % 2147483647)), some (.ref f2), some (.ref pl2), some (.ref x), some (.ref L), x6, x7, x8, x9, x10, x11, x12, x13, x14] ∧ SmX Ds H6 H7 ∧ PtR H7 ws2 ps2 Ds)
        ⟨none, none, none, none, none, none, none, none, none, rfl, fun _ _ _ e => e, hR6⟩ ?_ ?_⟩
      · rintro i σ H7 hi ⟨x6, x7, x8, x9, x10, x11, x12, x13, x14, rfl, m7, hR7⟩
        have hiq : i < (ps2).length := by rw [← lw]; exact hi
        obtain ⟨t, dd, q1, q2, dr, e1, e2, e2', e3, e4⟩ := hR7.get hiq
        have at1 : atI (ws2) (0 + (i : Int)) = some (.ref t) := by rw [Int.zero_add]; exact atI_nat e1
        have mp := List.mem_of_getElem? e2
        have ddD := List.mem_of_getElem? e2'
        have ndr := DD.gw.nd _ mp
        have q10 : 0 ≤ q1 := by have := DD.old _ mp; simp only at this; omega
        have hs7 := hs6.smx hR6 dD m7
        have m7l : ∀ b ys, H6 b = some (.lst ys) → H7 b = some (.lst ys) := fun b ys e => m7 b _ (hR6.out e (fun _ z => by cases z) fun _ _ z => by cases z) e
        have m7t : ∀ b ys, H6 b = some (.tup ys) → H7 b = some (.tup ys) := fun b ys e => m7 b _ (hR6.out e (fun _ z => by cases z) fun _ _ z => by cases z) e
        have X7 := X6.keep m7t fun b ys _ e => m7l b ys e
        have hL7 := m7l _ _ hL6
        have hPL7 := m7l _ _ hPL6
        have hS7 : SqL K H7 a (ns.map V.int) := hS6.imp (fun r => r.imp (fun e => m7l _ _ e) fun ⟨o, e⟩ => ⟨o, m7 _ _ (fun z => by obtain ⟨_, q⟩ := hR6.rd z; rcases q with q | ⟨_, q⟩ <;> (rw [e] at q; cases q)) e⟩) id
        refine ⟨_, rfl, _, rfl, pl2, _, _, _, rfl, rfl, SqL.of hPL7, at1, t, _, rfl, SqT.of e3, rfl, _, _, rfl, _, _, rfl, _, _, rfl, rfl, ?_⟩
        obtain ⟨tb, lb, yb, v1, v2, v3, v4, v5⟩ := X7.at_ i (by omega)
        obtain ⟨ta, la, ya, w1, w2, w3, w4, w5⟩ := X7.at_ (i + 1) (by omega)
        have atb : atI us (0 + (i : Int)) = some (.ref tb) := by rw [Int.zero_add]; exact atI_nat v1
        have ata : atI us (0 + (i : Int) + 1) = some (.ref ta) := by rw [show (0 + (i : Int) + 1) = ((i + 1 : Nat) : Int) by omega]; exact atI_nat w1
        refine ⟨_, rfl, _, rfl, L, _, _, _, rfl, rfl, SqL.of hL7, atb, tb, _, _, _, rfl, rfl, SqT.of v3, atI_nat (j := 1) rfl, ?_⟩
        refine ⟨_, rfl, _, rfl, _, _, rfl, rfl, L, _, _, _, rfl, rfl, SqL.of hL7, ata, ta, _, _, _, rfl, rfl, SqT.of w3, atI_nat (j := 1) rfl, ?_⟩
        refine ⟨_, rfl, _, rfl, _, _, rfl, rfl, a, ns, _, rfl, hS7, (by omega), fun cz => ⟨_, _, rfl, rfl, ⟨by decide, by decide⟩, _, rfl, _, _, rfl, rfl, _, 1, rfl, (by decide), fun px xs H8 hpx s8 h8 hlx hxs => ?_⟩⟩
        obtain ⟨v0, g0, p0, p1⟩ := ints_at hxs (j := 0) (by decide) (by rw [hlx]; decide)
        refine ⟨px, _, _, _, rfl, rfl, SqL.of h8, g0, _, rfl, v0, c0 % 2147483647, rfl, p0, p1, b0, b1, fun te lo hi H9 hte s9 h9 => ?_⟩
        refine ⟨te, _, rfl, SqT.of h9, rfl, _, _, rfl, _, _, rfl, rfl, ?_⟩
        have s79 := s8.trans s9
        have eh : heldA fs2 ((ps2).take (i + 1)) = putsO (heldA fs2 ((ps2).take i)) dr := by rw [List.take_add_one, e2]; exact heldA_snoc _ _ _
        have hw := held_when DD (i + 1) hiq
        have ew : whenP ps2 (i + 1) = q1 := by show (((ps2)[i]?).map (·.1)).getD 0 = q1; rw [e2]; rfl
        rw [ew] at hw
        have hya := w5.len
        have hzl : (ya.zip (rowsM (heldA fs2 ((ps2).take (i + 1))))).length = ya.length := by rw [List.length_zip, hya, Nat.min_self]
        obtain ⟨sA, eA⟩ := heldA_is fs2 ((ps2).take i)
        have mnd : ((heldA fs2 ((ps2).take i)).map (·.1)).Nodup := by rw [eA]; exact held_nd _ _ _ DD.nd
        have mk := heldF_keys sA (DD.gw.take i) DD.fin
        rw [← eA] at mk
        have mnd1 : ((heldA fs2 ((ps2).take (i + 1))).map (·.1)).Nodup := by rw [eh]; exact putsO_nd _ _ mnd
        have y128 : ya.length ≤ 120 := by
          rw [hya]
          have := nodup_len (lt_nd (rowsM_nd mnd1)) (U := _) fun y hy => by
            have z := rowsM_keys y hy
            rw [eh] at z
            exact (putsO_keys dr _ z).elim (mk y) (DD.gw.inU _ mp y)
          rw [List.length_map] at this
          omega
        refine ⟨_, rfl, la, rfl, ⟨_, SqL.of (s79 _ _ w4)⟩, ?_⟩
        refine compQF_map (k := 1) (fs := [some (.int lo), some (.int hi)]) (ya.zip (rowsM (heldA fs2 ((ps2).take (i + 1))))).length (fun j => (fun z : V × Int × Option Int => if insB lo hi z.2.1 = true then some z.1 else none) ((ya.zip (rowsM (heldA fs2 ((ps2).take (i + 1))))).getD j (.non, (0, none)))) rfl (by rw [hzl]; exact Nat.le_trans y128 (by decide)) (fun j Ha sa hlt => ⟨ya, _, SqL.of (sa _ _ (s79 _ _ w4)), List.getElem?_eq_getElem (by omega)⟩) (fun Ha sa => ⟨ya, SqL.of (sa _ _ (s79 _ _ w4)), by omega⟩) ?_ ?_
        · rintro j Ha ts v H' R sa hlt ht ⟨rfl, hv⟩ cb
          have ev := hv ya (SqL.of (sa _ _ (s79 _ _ w4)))
          obtain ⟨tt, kk, o, rfl, eL, hT⟩ := w5.get ev
          have ez : (ya.zip (rowsM (heldA fs2 ((ps2).take (i + 1))))).getD j (.non, (0, none)) = (.ref tt, (kk, o)) := by
            rw [List.getD_eq_getElem?_getD, List.getElem?_zip_eq_some (z := (V.ref tt, (kk, o))) |>.mpr ⟨ev, eL⟩]
            rfl
          match ts, ht with
          | [tz], _ =>
            have c2 := cb [some (.ref tt)] _ rfl (Same.refl _)
            rw [ez] at c2
            dsimp only at c2
            have hTa := sa _ _ (s79 _ _ hT)
            refine ⟨_, rfl, _, rfl, tt, _, _, _, rfl, rfl, SqT.of hTa, atI_nat (j := 0) rfl, _, _, rfl, rfl, _, rfl, ite2 (fun f1 => ⟨_, rfl, _, _, rfl, rfl, _, rfl, ite2 (fun f2 => ?_) (fun f2 => ?_)⟩) (fun f1 => ⟨_, rfl, iteF ?_⟩)⟩
            · rw [if_pos (show insB lo hi kk = true from decide_eq_true ⟨of_decide_eq_true f1, of_decide_eq_true f2⟩)] at c2
              exact ⟨_, rfl, c2⟩
            · rw [if_neg (show ¬ insB lo hi kk = true from fun z => f2 (decide_eq_true (of_decide_eq_true z).2))] at c2
              exact c2
            · rw [if_neg (show ¬ insB lo hi kk = true from fun z => f1 (decide_eq_true (of_decide_eq_true z).1))] at c2
              exact c2
        · intro pt Hp hpt sp hp2
          have eg := range_gather (ya.zip (rowsM (heldA fs2 ((ps2).take (i + 1))))) (V.non, ((0 : Int), (none : Option Int))) (fun x : V × Int × Option Int => if insB lo hi x.2.1 = true then some x.1 else none)
          rw [show _ = _ from congrArg (fun z => some (HO.lst z)) eg] at hp2
          have s7p := s79.trans sp
          have hPp : Prt Hp _ ((rowsM (heldA fs2 ((ps2).take (i + 1)))).filter fun q => insB lo hi q.1) := (w5.same s7p).sel (insB lo hi)
          generalize ((ya.zip (rowsM (heldA fs2 ((ps2).take (i + 1))))).filterMap fun x => if insB lo hi x.2.1 = true then some x.1 else none) = yp at hp2 hPp
          have hsp := hs7.same s7p
          refine ⟨_, rfl, x, dx, _, rfl, hsp.obj, rfl, _, rfl, x, dx, d, kvs, _, q1, rfl, hsp, few5, fun pa Ha za hpa sa ha hPa => ?_⟩
          rw [thereM hs7 DD.gw.nd DD.nd q10, hw] at hPa
          have s7a := s7p.trans sa
          refine ⟨_, rfl, _, _, .lst (SqL.of ha) hPa.dts, .lst (SqL.of (s7a _ _ w4)) (w5.same s7a).dts, shaped_R _, shaped_R _, _, rfl, ?_⟩
          rw [eqv_R]
          refine iteF ?_
          refine ⟨_, rfl, x, dx, _, rfl, (hs7.same s7a).obj, rfl, _, rfl, _, rfl, _, rfl, x, dx, d, kvs, _, lo, hi, q1, rfl, hs7.same s7a, few5, fun pb Hb zb hpb sb hb' hPb => ?_⟩
          rw [rowsW (insB lo hi) hs7 DD.gw.nd DD.nd q10, hw, ← rowsM_sel] at hPb
          have s7b := s7a.trans sb
          refine ⟨_, rfl, _, _, .lst (SqL.of hb') hPb.dts, .lst (SqL.of (sb _ _ (sa _ _ hp2))) ((hPp.same sa).same sb).dts, shaped_R _, shaped_R _, _, rfl, ?_⟩
          rw [eqv_R]
          refine iteF ?_
          refine ⟨_, rfl, lb, yb, rfl, .inl (SqL.of (s7b _ _ v4)), fun lc hlc => ?_⟩
          have sc := Same.upd (o := HO.lst yb) hlc
          have s7c := s7b.trans sc
          refine ⟨_, rfl, dd, _, rfl, rd_same s7c e4, fun dc hdc => ?_⟩
          have sd := Same.upd (o := HO.dK (dkv dr)) hdc
          have s7d := s7c.trans sd
          refine ⟨_, rfl, _, rfl, lc, dc, yb, _, dr, lo, hi, _, rfl, sd _ _ upd_same, v5.same s7d, lt_nd (rowsM_nd mnd), .inl upd_same, ndr, Nat.le_of_eq ln, (fun y hy => mk y (rowsM_keys y hy)), DD.gw.inU _ mp, fun pl' wl LL HL hpl' kL rdL hLl hPLL isL => ?_⟩
          have sL : Same H7 HL := fun b o e => kL b o (fun z => by rw [z] at e; rw [s7c _ _ e] at hdc; cases hdc) (s7d _ _ e)
          have eLL := laid_one isL (part_laid mnd ndr)
          rw [← eh] at eLL
          rw [eLL] at hPLL
          have ptL : HL pt = some (.lst yp) := kL _ _ (fun z => by
            have e := sc _ _ (sb _ _ (sa _ _ hp2))
            rw [z, hdc] at e
            cases e) (sd _ _ (sc _ _ (sb _ _ (sa _ _ hp2))))
          have hPpL : Prt HL yp _ := (((hPp.same sa).same sb).same (sc.trans sd)).keep fun b xs e => kL b _ (fun z => by rw [z, upd_same] at e; cases e) e
          refine ⟨_, rfl, _, _, .lst (SqL.of hLl) hPLL.dts, .lst (SqL.of ptL) hPpL.dts, shaped_R _, shaped_R _, _, rfl, ?_⟩
          rw [eqv_R]
          refine iteF ?_
          have e4L := rd_same sL e4
          refine ⟨_, rfl, _, rfl, _, rfl, _, rfl, _, rfl, x, dx, d, kvs, _, la, dd, ya, _, dr, q1, q2, rfl, hs7.same sL, sL _ _ w4, w5.same sL, ?_, q10, e4L, (fun z => dD (z ▸ ddD)), ndr, (fun q hq => make_own DD.pw DD.gw.nd e2 q10 ((fk_mem ndr).mpr hq)), fun Hm obm km hm => ⟨_, rfl, iteF ?_⟩⟩
          · have z := rows_make (j := i + 1) DD hiq
            rw [ew] at z
            exact z
          · refine ⟨_, _, _, _, _, _, _, _, _, rfl, fun b o n e => km b o (fun z => n (z ▸ ddD)) (sL _ _ (m7 b o n e)), (hR7.same sL).keep (fun b xs e => km b _ (fun z => ?_) e) fun b ks hb r => ?_⟩
            · rcases e4L with q | ⟨_, q⟩ <;> (rw [z, q] at e; cases e)
            · by_cases z : b = dd
              · subst z
                have e := rd_one r e4L
                cases e
                exact .inr ⟨obm, hm⟩
              · exact r.imp (fun e => km _ _ z e) fun ⟨o, e⟩ => ⟨o, km _ _ z e⟩
      · rintro σ H7 ⟨x6, x7, x8, x9, x10, x11, x12, x13, x14, rfl, m7, hR7⟩
        have hs7 := hs6.smx hR6 dD m7
        have m7l : ∀ b ys, H6 b = some (.lst ys) → H7 b = some (.lst ys) := fun b ys e => m7 b _ (hR6.out e (fun _ z => by cases z) fun _ _ z => by cases z) e
        have m7t : ∀ b ys, H6 b = some (.tup ys) → H7 b = some (.tup ys) := fun b ys e => m7 b _ (hR6.out e (fun _ z => by cases z) fun _ _ z => by cases z) e
        obtain ⟨t0, l0, y0, u1, u2, u3, u4, u5⟩ := (X6.keep m7t fun b ys _ e => m7l b ys e).at_ 0 (Nat.zero_le _)
        refine ⟨_, rfl, x, dx, _, rfl, hs7.obj, rfl, x, dx, d, kvs, _, 0, rfl, hs7, few5, fun pa Ha za hpa sa ha hPa => ?_⟩
        have hw := held_when DD 0 (Nat.zero_le _)
        rw [show whenP ps2 0 = 0 from rfl] at hw
        rw [thereM hs7 DD.gw.nd DD.nd (Int.le_refl _), hw] at hPa
        refine ⟨_, rfl, L, _, _, _, rfl, rfl, SqL.of (sa _ _ (m7l _ _ hL6)), atI_nat (j := 0) u1, t0, _, _, _, rfl, rfl, SqT.of (sa _ _ u3), atI_nat (j := 1) rfl, _, _, .lst (SqL.of ha) hPa.dts, .lst (SqL.of (sa _ _ u4)) (u5.same sa).dts, shaped_R _, shaped_R _, ?_⟩
        rw [eqv_R]
        exact k _
    · skip
      have DD := D0
      have ln := DD.len
      have hP : Pts H3 ws ps := (hPd).keep fun b o e _ => by
        by_cases z : b = f
        · rw [z, del_same] at e; cases e
        · rw [del_ne z] at e; exact e
      obtain ⟨Ds, hR, hDs⟩ := (hPd).ptr
      have zD : f ∉ Ds := fun z => hDs _ z del_same
      have hDn : ∀ y ∈ Ds, H3 y ≠ none := fun y hy z => hDs y hy (by
        have n : y ≠ f := fun q => zD (q ▸ hy)
        rw [del_ne n]
        exact z)
      have hSH := (s13).seq hS
      refine ⟨_, rfl, f, _, rfl, .inl h13, fun r0 hr0 => ?_⟩
      have s2 := Same.upd (o := HO.dK (dkv fs)) hr0
      intro x dx hx hdx _
      have sX : Same (upd H3 r0 (.dK (dkv fs))) (upd (upd (upd H3 r0 (.dK (dkv fs))) dx (.own x)) x (.ins T.c_Shelf dx [])) := fun b o e => by
        rw [upd_ne (fun z => by rw [z, hx] at e; cases e), upd_ne (fun z => by rw [z, hdx] at e; cases e)]
        exact e
      refine ⟨x, dx, r0, fs, rfl, upd_same, .inl (sX _ _ upd_same), DD.nd, (by omega), fun Hs0 d kvs0 ob hs2 kp fr dn hfr => ⟨rfl, ?_⟩⟩
      have s12 : Same H3 Hs0 := fun b o e => kp b o (sX _ _ (s2 _ _ e)) (fun z => by rw [z] at e; rw [s2 _ _ e] at hx; cases hx) (fun z => by rw [z, hr0] at e; cases e)
      have ud : H3 d = none := same_none s2 (same_none sX dn)
      have nw0 : ∀ l, V.ref l ∈ kvs0.map (·.2) → H3 l = none := fun l z => same_none s2 (same_none sX (fr l z))
      clear sX hx hdx kp fr dn hr0 s2 hfr
      refine ⟨_, rfl, _, rfl, _, rfl, x, dx, d, kvs0, f, pl, fs, ws, ps, H3, _, rfl, hs2, s12, ud, nw0, h13, h3, hP, DD, fun L H5 kvs us Ls hs5 sU5 hL5 X5 => ?_⟩
      have dZ : d ≠ f := fun z => by have e := h13; rw [← z, ud] at e; cases e
      have dD : d ∉ Ds := fun z => hDn d z ud
      clear hs2 s12 nw0
      have few5 : (mOf fs ps).length < 128 := by
        have := keysW_few hs5 DD.gw DD.fin
        omega
      obtain ⟨t0, l0, y0, u1, u2, u3, u4, u5⟩ := X5.at_ 0 (Nat.zero_le _)
      refine ⟨_, rfl, rfl, _, rfl, ite2 (fun e => by cases of_decide_eq_true e) (fun _ => ?_)⟩
      refine ⟨_, rfl, _, rfl, L, _, _, _, rfl, rfl, SqL.of hL5, atI_nat (j := 0) u1, t0, _, _, _, rfl, rfl, SqT.of u3, atI_nat (j := 1) rfl, _, rfl, x, dx, d, kvs, _, l0, f, y0, _, fs, 0, 0, rfl, hs5, u4, u5, rows_make (j := 0) DD (Nat.zero_le _), Int.le_refl _, .inl (sU5 _ _ h13), dZ, DD.nd, (fun q hq => make_first DD.gw.nd DD.old ((fk_mem DD.nd).mpr hq)), fun H6 ob6 k6 h6 => ⟨_, rfl, iteF ?_⟩⟩
      have k6t : ∀ b xs, H5 b = some (.tup xs) → H6 b = some (.tup xs) := fun b xs e => k6 b _ (fun z => by rw [z, sU5 _ _ h13] at e; cases e) e
      have k6l : ∀ b xs, H5 b = some (.lst xs) → H6 b = some (.lst xs) := fun b xs e => k6 b _ (fun z => by rw [z, sU5 _ _ h13] at e; cases e) e
      have hs6 := hs5.butD ⟨_, .inl (sU5 _ _ h13)⟩ dZ k6
      have X6 := X5.keep k6t fun b ys _ e => k6l b ys e
      have hL6 := k6l _ _ hL5
      have hPL6 := k6l _ _ (sU5 _ _ h3)
      have kd6 : ∀ b o, del H3 f b = some o → H6 b = some o := fun b o e => by
        have n : b ≠ f := fun z => by rw [z, del_same] at e; cases e
        rw [del_ne n] at e
        exact k6 b o n (sU5 _ _ e)
      have hR6 : PtR H6 ws ps Ds := hR.keep (fun b xs e => kd6 _ _ e) fun b ks _ r => r.imp (kd6 _ _) fun ⟨o, e⟩ => ⟨o, kd6 _ _ e⟩
      have hS6 : SqL K H6 a (ns.map V.int) := hSH.imp (fun r => r.imp (fun e => k6l _ _ (sU5 _ _ e)) fun ⟨o, e⟩ => ⟨o, k6 _ _ (fun z => by have q := h13; rw [z, q] at e; cases e) (sU5 _ _ e)⟩) id
      clear hs5 X5 hL5 u1 u2 u3 u4 u5 hR
      have lw := hP.len
      have l40 := DD.forty
      refine ⟨_, rfl, _, _, rfl, .inl ⟨_, SqL.of hPL6, rfl⟩, _, rfl, (by omega), (by omega), for_range (lo := 0) (n := (ws).length) (fun i σ H7 => ∃ (x6 x7 x8 x9 x10 x11 x12 x13 x14 : Option V), σ = [some (.ref a), some (.int (c0 % 2147483647)), some (.ref f), some (.ref pl), some (.ref x), some (.ref L), x6, x7, x8, x9, x10, x11, x12, x13, x14] ∧ SmX Ds H6 H7 ∧ PtR H7 ws ps Ds)
        ⟨none, none, none, none, none, none, none, none, none, rfl, fun _ _ _ e => e, hR6⟩ ?_ ?_⟩
      · rintro i σ H7 hi ⟨x6, x7, x8, x9, x10, x11, x12, x13, x14, rfl, m7, hR7⟩
        have hiq : i < (ps).length := by rw [← lw]; exact hi
        obtain ⟨t, dd, q1, q2, dr, e1, e2, e2', e3, e4⟩ := hR7.get hiq
        have at1 : atI (ws) (0 + (i : Int)) = some (.ref t) := by rw [Int.zero_add]; exact atI_nat e1
        have mp := List.mem_of_getElem? e2
        have ddD := List.mem_of_getElem? e2'
        have ndr := DD.gw.nd _ mp
        have q10 : 0 ≤ q1 := by have := DD.old _ mp; simp only at this; omega
        have hs7 := hs6.smx hR6 dD m7
        have m7l : ∀ b ys, H6 b = some (.lst ys) → H7 b = some (.lst ys) := fun b ys e => m7 b _ (hR6.out e (fun _ z => by cases z) fun _ _ z => by cases z) e
        have m7t : ∀ b ys, H6 b = some (.tup ys) → H7 b = some (.tup ys) := fun b ys e => m7 b _ (hR6.out e (fun _ z => by cases z) fun _ _ z => by cases z) e
        have X7 := X6.keep m7t fun b ys _ e => m7l b ys e
        have hL7 := m7l _ _ hL6
        have hPL7 := m7l _ _ hPL6
        have hS7 : SqL K H7 a (ns.map V.int) := hS6.imp (fun r => r.imp (fun e => m7l _ _ e) fun ⟨o, e⟩ => ⟨o, m7 _ _ (fun z => by obtain ⟨_, q⟩ := hR6.rd z; rcases q with q | ⟨_, q⟩ <;> (rw [e] at q; cases q)) e⟩) id
        refine ⟨_, rfl, _, rfl, pl, _, _, _, rfl, rfl, SqL.of hPL7, at1, t, _, rfl, SqT.of e3, rfl, _, _, rfl, _, _, rfl, _, _, rfl, rfl, ?_⟩
        obtain ⟨tb, lb, yb, v1, v2, v3, v4, v5⟩ := X7.at_ i (by omega)
        obtain ⟨ta, la, ya, w1, w2, w3, w4, w5⟩ := X7.at_ (i + 1) (by omega)
        have atb : atI us (0 + (i : Int)) = some (.ref tb) := by rw [Int.zero_add]; exact atI_nat v1
        have ata : atI us (0 + (i : Int) + 1) = some (.ref ta) := by rw [show (0 + (i : Int) + 1) = ((i + 1 : Nat) : Int) by omega]; exact atI_nat w1
        refine ⟨_, rfl, _, rfl, L, _, _, _, rfl, rfl, SqL.of hL7, atb, tb, _, _, _, rfl, rfl, SqT.of v3, atI_nat (j := 1) rfl, ?_⟩
        refine ⟨_, rfl, _, rfl, _, _, rfl, rfl, L, _, _, _, rfl, rfl, SqL.of hL7, ata, ta, _, _, _, rfl, rfl, SqT.of w3, atI_nat (j := 1) rfl, ?_⟩
        refine ⟨_, rfl, _, rfl, _, _, rfl, rfl, a, ns, _, rfl, hS7, (by omega), fun cz => ⟨_, _, rfl, rfl, ⟨by decide, by decide⟩, _, rfl, _, _, rfl, rfl, _, 1, rfl, (by decide), fun px xs H8 hpx s8 h8 hlx hxs => ?_⟩⟩
        obtain ⟨v0, g0, p0, p1⟩ := ints_at hxs (j := 0) (by decide) (by rw [hlx]; decide)
        refine ⟨px, _, _, _, rfl, rfl, SqL.of h8, g0, _, rfl, v0, c0 % 2147483647, rfl, p0, p1, b0, b1, fun te lo hi H9 hte s9 h9 => ?_⟩
        refine ⟨te, _, rfl, SqT.of h9, rfl, _, _, rfl, _, _, rfl, rfl, ?_⟩
        have s79 := s8.trans s9
        have eh : heldA fs ((ps).take (i + 1)) = putsO (heldA fs ((ps).take i)) dr := by rw [List.take_add_one, e2]; exact heldA_snoc _ _ _
        have hw := held_when DD (i + 1) hiq
        have ew : whenP ps (i + 1) = q1 := by show (((ps)[i]?).map (·.1)).getD 0 = q1; rw [e2]; rfl
        rw [ew] at hw
        have hya := w5.len
        have hzl : (ya.zip (rowsM (heldA fs ((ps).take (i + 1))))).length = ya.length := by rw [List.length_zip, hya, Nat.min_self]
        obtain ⟨sA, eA⟩ := heldA_is fs ((ps).take i)
        have mnd : ((heldA fs ((ps).take i)).map (·.1)).Nodup := by rw [eA]; exact held_nd _ _ _ DD.nd
        have mk := heldF_keys sA (DD.gw.take i) DD.fin
        rw [← eA] at mk
        have mnd1 : ((heldA fs ((ps).take (i + 1))).map (·.1)).Nodup := by rw [eh]; exact putsO_nd _ _ mnd
        have y128 : ya.length ≤ 120 := by
          rw [hya]
          have := nodup_len (lt_nd (rowsM_nd mnd1)) (U := _) fun y hy => by
            have z := rowsM_keys y hy
            rw [eh] at z
            exact (putsO_keys dr _ z).elim (mk y) (DD.gw.inU _ mp y)
          rw [List.length_map] at this
          omega
        refine ⟨_, rfl, la, rfl, ⟨_, SqL.of (s79 _ _ w4)⟩, ?_⟩
        refine compQF_map (k := 1) (fs := [some (.int lo), some (.int hi)]) (ya.zip (rowsM (heldA fs ((ps).take (i + 1))))).length (fun j => (fun z : V × Int × Option Int => if insB lo hi z.2.1 = true then some z.1 else none) ((ya.zip (rowsM (heldA fs ((ps).take (i + 1))))).getD j (.non, (0, none)))) rfl (by rw [hzl]; exact Nat.le_trans y128 (by decide)) (fun j Ha sa hlt => ⟨ya, _, SqL.of (sa _ _ (s79 _ _ w4)), List.getElem?_eq_getElem (by omega)⟩) (fun Ha sa => ⟨ya, SqL.of (sa _ _ (s79 _ _ w4)), by omega⟩) ?_ ?_
        · rintro j Ha ts v H' R sa hlt ht ⟨rfl, hv⟩ cb
          have ev := hv ya (SqL.of (sa _ _ (s79 _ _ w4)))
          obtain ⟨tt, kk, o, rfl, eL, hT⟩ := w5.get ev
          have ez : (ya.zip (rowsM (heldA fs ((ps).take (i + 1))))).getD j (.non, (0, none)) = (.ref tt, (kk, o)) := by
            rw [List.getD_eq_getElem?_getD, List.getElem?_zip_eq_some (z := (V.ref tt, (kk, o))) |>.mpr ⟨ev, eL⟩]
            rfl
          match ts, ht with
          | [tz], _ =>
            have c2 := cb [some (.ref tt)] _ rfl (Same.refl _)
            rw [ez] at c2
            dsimp only at c2
            have hTa := sa _ _ (s79 _ _ hT)
            refine ⟨_, rfl, _, rfl, tt, _, _, _, rfl, rfl, SqT.of hTa, atI_nat (j := 0) rfl, _, _, rfl, rfl, _, rfl, ite2 (fun f1 => ⟨_, rfl, _, _, rfl, rfl, _, rfl, ite2 (fun f2 => ?_) (fun f2 => ?_)⟩) (fun f1 => ⟨_, rfl, iteF ?_⟩)⟩
            · rw [if_pos (show insB lo hi kk = true from decide_eq_true ⟨of_decide_eq_true f1, of_decide_eq_true f2⟩)] at c2
              exact ⟨_, rfl, c2⟩
            · rw [if_neg (show ¬ insB lo hi kk = true from fun z => f2 (decide_eq_true (of_decide_eq_true z).2))] at c2
              exact c2
            · rw [if_neg (show ¬ insB lo hi kk = true from fun z => f1 (decide_eq_true (of_decide_eq_true z).1))] at c2
              exact c2
        · intro pt Hp hpt sp hp2
          have eg := range_gather (ya.zip (rowsM (heldA fs ((ps).take (i + 1))))) (V.non, ((0 : Int), (none : Option Int))) (fun x : V × Int × Option Int => if insB lo hi x.2.1 = true then some x.1 else none)
          rw [show _ = _ from congrArg (fun z => some (HO.lst z)) eg] at hp2
          have s7p := s79.trans sp
          have hPp : Prt Hp _ ((rowsM (heldA fs ((ps).take (i + 1)))).filter fun q => insB lo hi q.1) := (w5.same s7p).sel (insB lo hi)
          generalize ((ya.zip (rowsM (heldA fs ((ps).take (i + 1))))).filterMap fun x => if insB lo hi x.2.1 = true then some x.1 else none) = yp at hp2 hPp
          have hsp := hs7.same s7p
          refine ⟨_, rfl, x, dx, _, rfl, hsp.obj, rfl, _, rfl, x, dx, d, kvs, _, q1, rfl, hsp, few5, fun pa Ha za hpa sa ha hPa => ?_⟩
          rw [thereM hs7 DD.gw.nd DD.nd q10, hw] at hPa
          have s7a := s7p.trans sa
          refine ⟨_, rfl, _, _, .lst (SqL.of ha) hPa.dts, .lst (SqL.of (s7a _ _ w4)) (w5.same s7a).dts, shaped_R _, shaped_R _, _, rfl, ?_⟩
          rw [eqv_R]
          refine iteF ?_
          refine ⟨_, rfl, x, dx, _, rfl, (hs7.same s7a).obj, rfl, _, rfl, _, rfl, _, rfl, x, dx, d, kvs, _, lo, hi, q1, rfl, hs7.same s7a, few5, fun pb Hb zb hpb sb hb' hPb => ?_⟩
          rw [rowsW (insB lo hi) hs7 DD.gw.nd DD.nd q10, hw, ← rowsM_sel] at hPb
          have s7b := s7a.trans sb
          refine ⟨_, rfl, _, _, .lst (SqL.of hb') hPb.dts, .lst (SqL.of (sb _ _ (sa _ _ hp2))) ((hPp.same sa).same sb).dts, shaped_R _, shaped_R _, _, rfl, ?_⟩
          rw [eqv_R]
          refine iteF ?_
          refine ⟨_, rfl, lb, yb, rfl, .inl (SqL.of (s7b _ _ v4)), fun lc hlc => ?_⟩
          have sc := Same.upd (o := HO.lst yb) hlc
          have s7c := s7b.trans sc
          refine ⟨_, rfl, dd, _, rfl, rd_same s7c e4, fun dc hdc => ?_⟩
          have sd := Same.upd (o := HO.dK (dkv dr)) hdc
          have s7d := s7c.trans sd
          refine ⟨_, rfl, _, rfl, lc, dc, yb, _, dr, lo, hi, _, rfl, sd _ _ upd_same, v5.same s7d, lt_nd (rowsM_nd mnd), .inl upd_same, ndr, Nat.le_of_eq ln, (fun y hy => mk y (rowsM_keys y hy)), DD.gw.inU _ mp, fun pl' wl LL HL hpl' kL rdL hLl hPLL isL => ?_⟩
          have sL : Same H7 HL := fun b o e => kL b o (fun z => by rw [z] at e; rw [s7c _ _ e] at hdc; cases hdc) (s7d _ _ e)
          have eLL := laid_one isL (part_laid mnd ndr)
          rw [← eh] at eLL
          rw [eLL] at hPLL
          have ptL : HL pt = some (.lst yp) := kL _ _ (fun z => by
            have e := sc _ _ (sb _ _ (sa _ _ hp2))
            rw [z, hdc] at e
            cases e) (sd _ _ (sc _ _ (sb _ _ (sa _ _ hp2))))
          have hPpL : Prt HL yp _ := (((hPp.same sa).same sb).same (sc.trans sd)).keep fun b xs e => kL b _ (fun z => by rw [z, upd_same] at e; cases e) e
          refine ⟨_, rfl, _, _, .lst (SqL.of hLl) hPLL.dts, .lst (SqL.of ptL) hPpL.dts, shaped_R _, shaped_R _, _, rfl, ?_⟩
          rw [eqv_R]
          refine iteF ?_
          have e4L := rd_same sL e4
          refine ⟨_, rfl, _, rfl, _, rfl, _, rfl, _, rfl, x, dx, d, kvs, _, la, dd, ya, _, dr, q1, q2, rfl, hs7.same sL, sL _ _ w4, w5.same sL, ?_, q10, e4L, (fun z => dD (z ▸ ddD)), ndr, (fun q hq => make_own DD.pw DD.gw.nd e2 q10 ((fk_mem ndr).mpr hq)), fun Hm obm km hm => ⟨_, rfl, iteF ?_⟩⟩
          · have z := rows_make (j := i + 1) DD hiq
            rw [ew] at z
            exact z
          · refine ⟨_, _, _, _, _, _, _, _, _, rfl, fun b o n e => km b o (fun z => n (z ▸ ddD)) (sL _ _ (m7 b o n e)), (hR7.same sL).keep (fun b xs e => km b _ (fun z => ?_) e) fun b ks hb r => ?_⟩
            · rcases e4L with q | ⟨_, q⟩ <;> (rw [z, q] at e; cases e)
            · by_cases z : b = dd
              · subst z
                have e := rd_one r e4L
                cases e
                exact .inr ⟨obm, hm⟩
              · exact r.imp (fun e => km _ _ z e) fun ⟨o, e⟩ => ⟨o, km _ _ z e⟩
      · rintro σ H7 ⟨x6, x7, x8, x9, x10, x11, x12, x13, x14, rfl, m7, hR7⟩
        have hs7 := hs6.smx hR6 dD m7
        have m7l : ∀ b ys, H6 b = some (.lst ys) → H7 b = some (.lst ys) := fun b ys e => m7 b _ (hR6.out e (fun _ z => by cases z) fun _ _ z => by cases z) e
        have m7t : ∀ b ys, H6 b = some (.tup ys) → H7 b = some (.tup ys) := fun b ys e => m7 b _ (hR6.out e (fun _ z => by cases z) fun _ _ z => by cases z) e
        obtain ⟨t0, l0, y0, u1, u2, u3, u4, u5⟩ := (X6.keep m7t fun b ys _ e => m7l b ys e).at_ 0 (Nat.zero_le _)
        refine ⟨_, rfl, x, dx, _, rfl, hs7.obj, rfl, x, dx, d, kvs, _, 0, rfl, hs7, few5, fun pa Ha za hpa sa ha hPa => ?_⟩
        have hw := held_when DD 0 (Nat.zero_le _)
        rw [show whenP ps 0 = 0 from rfl] at hw
        rw [thereM hs7 DD.gw.nd DD.nd (Int.le_refl _), hw] at hPa
        refine ⟨_, rfl, L, _, _, _, rfl, rfl, SqL.of (sa _ _ (m7l _ _ hL6)), atI_nat (j := 0) u1, t0, _, _, _, rfl, rfl, SqT.of (sa _ _ u3), atI_nat (j := 1) rfl, _, _, .lst (SqL.of ha) hPa.dts, .lst (SqL.of (sa _ _ u4)) (u5.same sa).dts, shaped_R _, shaped_R _, ?_⟩
        rw [eqv_R]
        exact k _
end
theorem all_mk {l : PySem.W.OpenLaw} {w : World} {K : PySem.W.Frag} {h : Heap} {mg : Str → Option Value} {fa : Addr} (X : K.In h) (G : h.Ns mainGlobals mg) (hfa : mg "law" = some (.ref fa))
    {ec0 : Addr} (e0 : PySem.W.nsIn K mainGlobals "Shelf" = some (some (.ref ec0)))
    {f0 : Addr} {od0 an0 : Option Addr} {sl0 : Array (Option Value)} {oc0 kV0 dc0 pm0 cd0 ct0 : Value}
    (a0 : PySem.W.nsIn K mainGlobals "inside" = some (some (.ref f0))) (l0 : K.lookup f0 = some ⟨oc0, od0, .func (PySem.W.fnOf "inside" "inside" (defArgs s_inside) (defBody s_inside) (defScope s_inside) .none kV0 dc0 pm0 an0 cd0 ct0), sl0⟩) (c0 : PySem.W.codeIn K cd0 "inside" = true) (k0 : PySem.W.keepIn K (.ref f0) = true)
    {f1 : Addr} {od1 an1 : Option Addr} {sl1 : Array (Option Value)} {oc1 kV1 dc1 pm1 cd1 ct1 : Value}
    (a1 : PySem.W.nsIn K mainGlobals "laid" = some (some (.ref f1))) (l1 : K.lookup f1 = some ⟨oc1, od1, .func (PySem.W.fnOf "laid" "laid" (defArgs s_laid) (defBody s_laid) (defScope s_laid) .none kV1 dc1 pm1 an1 cd1 ct1), sl1⟩) (c1 : PySem.W.codeIn K cd1 "laid" = true) (k1 : PySem.W.keepIn K (.ref f1) = true)
    {f2 : Addr} {od2 an2 : Option Addr} {sl2 : Array (Option Value)} {oc2 kV2 dc2 pm2 cd2 ct2 : Value}
    (a2 : PySem.W.findIn K (.ref ec0) "__init__" = some (some (.ref f2))) (l2 : K.lookup f2 = some ⟨oc2, od2, .func (PySem.W.fnOf "__init__" "Shelf.__init__" (defArgs s_Shelfinit) (defBody s_Shelfinit) (defScope s_Shelfinit) .none kV2 dc2 pm2 an2 cd2 ct2), sl2⟩) (c2 : PySem.W.codeIn K cd2 "Shelf.__init__" = true) (k2 : PySem.W.keepIn K (.ref f2) = true)
    {f3 : Addr} {od3 an3 : Option Addr} {sl3 : Array (Option Value)} {oc3 kV3 dc3 pm3 cd3 ct3 : Value}
    (a3 : PySem.W.findIn K (.ref ec0) "put" = some (some (.ref f3))) (l3 : K.lookup f3 = some ⟨oc3, od3, .func (PySem.W.fnOf "put" "Shelf.put" (defArgs s_Shelfput) (defBody s_Shelfput) (defScope s_Shelfput) .none kV3 dc3 pm3 an3 cd3 ct3), sl3⟩) (c3 : PySem.W.codeIn K cd3 "Shelf.put" = true) (k3 : PySem.W.keepIn K (.ref f3) = true)
    {f4 : Addr} {od4 an4 : Option Addr} {sl4 : Array (Option Value)} {oc4 kV4 dc4 pm4 cd4 ct4 : Value}
    (a4 : PySem.W.findIn K (.ref ec0) "make" = some (some (.ref f4))) (l4 : K.lookup f4 = some ⟨oc4, od4, .func (PySem.W.fnOf "make" "Shelf.make" (defArgs s_Shelfmake) (defBody s_Shelfmake) (defScope s_Shelfmake) .none kV4 dc4 pm4 an4 cd4 ct4), sl4⟩) (c4 : PySem.W.codeIn K cd4 "Shelf.make" = true) (k4 : PySem.W.keepIn K (.ref f4) = true)
    {f5 : Addr} {od5 an5 : Option Addr} {sl5 : Array (Option Value)} {oc5 kV5 dc5 pm5 cd5 ct5 : Value}
    (a5 : PySem.W.findIn K (.ref ec0) "known" = some (some (.ref f5))) (l5 : K.lookup f5 = some ⟨oc5, od5, .func (PySem.W.fnOf "known" "Shelf.known" (defArgs s_Shelfknown) (defBody s_Shelfknown) (defScope s_Shelfknown) .none kV5 dc5 pm5 an5 cd5 ct5), sl5⟩) (c5 : PySem.W.codeIn K cd5 "Shelf.known" = true) (k5 : PySem.W.keepIn K (.ref f5) = true)
    {f6 : Addr} {od6 an6 : Option Addr} {sl6 : Array (Option Value)} {oc6 kV6 dc6 pm6 cd6 ct6 : Value}
    (a6 : PySem.W.findIn K (.ref ec0) "rows_of" = some (some (.ref f6))) (l6 : K.lookup f6 = some ⟨oc6, od6, .func (PySem.W.fnOf "rows_of" "Shelf.rows_of" (defArgs s_Shelfrowsof) (defBody s_Shelfrowsof) (defScope s_Shelfrowsof) .none kV6 dc6 pm6 an6 cd6 ct6), sl6⟩) (c6 : PySem.W.codeIn K cd6 "Shelf.rows_of" = true) (k6 : PySem.W.keepIn K (.ref f6) = true)
    {f7 : Addr} {od7 an7 : Option Addr} {sl7 : Array (Option Value)} {oc7 kV7 dc7 pm7 cd7 ct7 : Value}
    (a7 : PySem.W.findIn K (.ref ec0) "there" = some (some (.ref f7))) (l7 : K.lookup f7 = some ⟨oc7, od7, .func (PySem.W.fnOf "there" "Shelf.there" (defArgs s_Shelfthere) (defBody s_Shelfthere) (defScope s_Shelfthere) .none kV7 dc7 pm7 an7 cd7 ct7), sl7⟩) (c7 : PySem.W.codeIn K cd7 "Shelf.there" = true) (k7 : PySem.W.keepIn K (.ref f7) = true)
    {f8 : Addr} {od8 an8 : Option Addr} {sl8 : Array (Option Value)} {oc8 kV8 dc8 pm8 cd8 ct8 : Value}
    (a8 : PySem.W.findIn K (.ref ec0) "rows" = some (some (.ref f8))) (l8 : K.lookup f8 = some ⟨oc8, od8, .func (PySem.W.fnOf "rows" "Shelf.rows" (defArgs s_Shelfrows) (defBody s_Shelfrows) (defScope s_Shelfrows) .none kV8 dc8 pm8 an8 cd8 ct8), sl8⟩) (c8 : PySem.W.codeIn K cd8 "Shelf.rows" = true) (k8 : PySem.W.keepIn K (.ref f8) = true)
    {f9 : Addr} {od9 an9 : Option Addr} {sl9 : Array (Option Value)} {oc9 kV9 dc9 pm9 cd9 ct9 : Value}
    (a9 : PySem.W.nsIn K mainGlobals "_law_cell_at" = some (some (.ref f9))) (l9 : K.lookup f9 = some ⟨oc9, od9, .func (PySem.W.fnOf "_law_cell_at" "_law_cell_at" (defArgs s_Lcellat) (defBody s_Lcellat) (defScope s_Lcellat) .none kV9 dc9 pm9 an9 cd9 ct9), sl9⟩) (c9 : PySem.W.codeIn K cd9 "_law_cell_at" = true) (k9 : PySem.W.keepIn K (.ref f9) = true)
    {f10 : Addr} {od10 an10 : Option Addr} {sl10 : Array (Option Value)} {oc10 kV10 dc10 pm10 cd10 ct10 : Value}
    (a10 : PySem.W.nsIn K mainGlobals "_law_whole" = some (some (.ref f10))) (l10 : K.lookup f10 = some ⟨oc10, od10, .func (PySem.W.fnOf "_law_whole" "_law_whole" (defArgs s_Lwhole) (defBody s_Lwhole) (defScope s_Lwhole) .none kV10 dc10 pm10 an10 cd10 ct10), sl10⟩) (c10 : PySem.W.codeIn K cd10 "_law_whole" = true) (k10 : PySem.W.keepIn K (.ref f10) = true)
    {f11 : Addr} {od11 an11 : Option Addr} {sl11 : Array (Option Value)} {oc11 kV11 dc11 pm11 cd11 ct11 : Value}
    (a11 : PySem.W.nsIn K mainGlobals "_law_stream" = some (some (.ref f11))) (l11 : K.lookup f11 = some ⟨oc11, od11, .func (PySem.W.fnOf "_law_stream" "_law_stream" (defArgs s_Lstream) (defBody s_Lstream) (defScope s_Lstream) .none kV11 dc11 pm11 an11 cd11 ct11), sl11⟩) (c11 : PySem.W.codeIn K cd11 "_law_stream" = true) (k11 : PySem.W.keepIn K (.ref f11) = true)
    {f12 : Addr} {od12 an12 : Option Addr} {sl12 : Array (Option Value)} {oc12 kV12 dc12 pm12 cd12 ct12 : Value}
    (a12 : PySem.W.nsIn K mainGlobals "_law_great" = some (some (.ref f12))) (l12 : K.lookup f12 = some ⟨oc12, od12, .func (PySem.W.fnOf "_law_great" "_law_great" (defArgs s_Lgreat) (defBody s_Lgreat) (defScope s_Lgreat) .none kV12 dc12 pm12 an12 cd12 ct12), sl12⟩) (c12 : PySem.W.codeIn K cd12 "_law_great" = true) (k12 : PySem.W.keepIn K (.ref f12) = true)
    {f13 : Addr} {od13 an13 : Option Addr} {sl13 : Array (Option Value)} {oc13 kV13 dc13 pm13 cd13 ct13 : Value}
    (a13 : PySem.W.nsIn K mainGlobals "_law_key" = some (some (.ref f13))) (l13 : K.lookup f13 = some ⟨oc13, od13, .func (PySem.W.fnOf "_law_key" "_law_key" (defArgs s_Lkey) (defBody s_Lkey) (defScope s_Lkey) .none kV13 dc13 pm13 an13 cd13 ct13), sl13⟩) (c13 : PySem.W.codeIn K cd13 "_law_key" = true) (k13 : PySem.W.keepIn K (.ref f13) = true)
    {f14 : Addr} {od14 an14 : Option Addr} {sl14 : Array (Option Value)} {oc14 kV14 dc14 pm14 cd14 ct14 : Value}
    (a14 : PySem.W.nsIn K mainGlobals "_law_value" = some (some (.ref f14))) (l14 : K.lookup f14 = some ⟨oc14, od14, .func (PySem.W.fnOf "_law_value" "_law_value" (defArgs s_Lvalue) (defBody s_Lvalue) (defScope s_Lvalue) .none kV14 dc14 pm14 an14 cd14 ct14), sl14⟩) (c14 : PySem.W.codeIn K cd14 "_law_value" = true) (k14 : PySem.W.keepIn K (.ref f14) = true)
    {f15 : Addr} {od15 an15 : Option Addr} {sl15 : Array (Option Value)} {oc15 kV15 dc15 pm15 cd15 ct15 : Value}
    (a15 : PySem.W.nsIn K mainGlobals "_law_draft" = some (some (.ref f15))) (l15 : K.lookup f15 = some ⟨oc15, od15, .func (PySem.W.fnOf "_law_draft" "_law_draft" (defArgs s_Ldraft) (defBody s_Ldraft) (defScope s_Ldraft) .none kV15 dc15 pm15 an15 cd15 ct15), sl15⟩) (c15 : PySem.W.codeIn K cd15 "_law_draft" = true) (k15 : PySem.W.keepIn K (.ref f15) = true)
    {f16 : Addr} {od16 an16 : Option Addr} {sl16 : Array (Option Value)} {oc16 kV16 dc16 pm16 cd16 ct16 : Value}
    (a16 : PySem.W.nsIn K mainGlobals "_law_first" = some (some (.ref f16))) (l16 : K.lookup f16 = some ⟨oc16, od16, .func (PySem.W.fnOf "_law_first" "_law_first" (defArgs s_Lfirst) (defBody s_Lfirst) (defScope s_Lfirst) .none kV16 dc16 pm16 an16 cd16 ct16), sl16⟩) (c16 : PySem.W.codeIn K cd16 "_law_first" = true) (k16 : PySem.W.keepIn K (.ref f16) = true)
    {f17 : Addr} {od17 an17 : Option Addr} {sl17 : Array (Option Value)} {oc17 kV17 dc17 pm17 cd17 ct17 : Value}
    (a17 : PySem.W.nsIn K mainGlobals "_law_puts" = some (some (.ref f17))) (l17 : K.lookup f17 = some ⟨oc17, od17, .func (PySem.W.fnOf "_law_puts" "_law_puts" (defArgs s_Lputs) (defBody s_Lputs) (defScope s_Lputs) .none kV17 dc17 pm17 an17 cd17 ct17), sl17⟩) (c17 : PySem.W.codeIn K cd17 "_law_puts" = true) (k17 : PySem.W.keepIn K (.ref f17) = true)
    {f18 : Addr} {od18 an18 : Option Addr} {sl18 : Array (Option Value)} {oc18 kV18 dc18 pm18 cd18 ct18 : Value}
    (a18 : PySem.W.nsIn K mainGlobals "_law_ends" = some (some (.ref f18))) (l18 : K.lookup f18 = some ⟨oc18, od18, .func (PySem.W.fnOf "_law_ends" "_law_ends" (defArgs s_Lends) (defBody s_Lends) (defScope s_Lends) .none kV18 dc18 pm18 an18 cd18 ct18), sl18⟩) (c18 : PySem.W.codeIn K cd18 "_law_ends" = true) (k18 : PySem.W.keepIn K (.ref f18) = true)
    {f19 : Addr} {od19 an19 : Option Addr} {sl19 : Array (Option Value)} {oc19 kV19 dc19 pm19 cd19 ct19 : Value}
    (a19 : PySem.W.nsIn K mainGlobals "_law_is_rows" = some (some (.ref f19))) (l19 : K.lookup f19 = some ⟨oc19, od19, .func (PySem.W.fnOf "_law_is_rows" "_law_is_rows" (defArgs s_Lisrows) (defBody s_Lisrows) (defScope s_Lisrows) .none kV19 dc19 pm19 an19 cd19 ct19), sl19⟩) (c19 : PySem.W.codeIn K cd19 "_law_is_rows" = true) (k19 : PySem.W.keepIn K (.ref f19) = true)
    {f20 : Addr} {od20 an20 : Option Addr} {sl20 : Array (Option Value)} {oc20 kV20 dc20 pm20 cd20 ct20 : Value}
    (a20 : PySem.W.nsIn K mainGlobals "_law_large" = some (some (.ref f20))) (l20 : K.lookup f20 = some ⟨oc20, od20, .func (PySem.W.fnOf "_law_large" "_law_large" (defArgs s_Llarge) (defBody s_Llarge) (defScope s_Llarge) .none kV20 dc20 pm20 an20 cd20 ct20), sl20⟩) (c20 : PySem.W.codeIn K cd20 "_law_large" = true) (k20 : PySem.W.keepIn K (.ref f20) = true)
    {f21 : Addr} {od21 an21 : Option Addr} {sl21 : Array (Option Value)} {oc21 kV21 dc21 pm21 cd21 ct21 : Value}
    (a21 : PySem.W.nsIn K mainGlobals "_law_rows" = some (some (.ref f21))) (l21 : K.lookup f21 = some ⟨oc21, od21, .func (PySem.W.fnOf "_law_rows" "_law_rows" (defArgs s_Lrows) (defBody s_Lrows) (defScope s_Lrows) .none kV21 dc21 pm21 an21 cd21 ct21), sl21⟩) (c21 : PySem.W.codeIn K cd21 "_law_rows" = true) (k21 : PySem.W.keepIn K (.ref f21) = true)
    {f22 : Addr} {od22 an22 : Option Addr} {sl22 : Array (Option Value)} {oc22 kV22 dc22 pm22 cd22 ct22 : Value}
    (a22 : PySem.W.nsIn K mainGlobals "_law_over" = some (some (.ref f22))) (l22 : K.lookup f22 = some ⟨oc22, od22, .func (PySem.W.fnOf "_law_over" "_law_over" (defArgs s_Lover) (defBody s_Lover) (defScope s_Lover) .none kV22 dc22 pm22 an22 cd22 ct22), sl22⟩) (c22 : PySem.W.codeIn K cd22 "_law_over" = true) (k22 : PySem.W.keepIn K (.ref f22) = true)
    {f23 : Addr} {od23 an23 : Option Addr} {sl23 : Array (Option Value)} {oc23 kV23 dc23 pm23 cd23 ct23 : Value}
    (a23 : PySem.W.nsIn K mainGlobals "_law_grown" = some (some (.ref f23))) (l23 : K.lookup f23 = some ⟨oc23, od23, .func (PySem.W.fnOf "_law_grown" "_law_grown" (defArgs s_Lgrown) (defBody s_Lgrown) (defScope s_Lgrown) .none kV23 dc23 pm23 an23 cd23 ct23), sl23⟩) (c23 : PySem.W.codeIn K cd23 "_law_grown" = true) (k23 : PySem.W.keepIn K (.ref f23) = true)
    {f24 : Addr} {od24 an24 : Option Addr} {sl24 : Array (Option Value)} {oc24 kV24 dc24 pm24 cd24 ct24 : Value}
    (a24 : PySem.W.nsIn K mainGlobals "_law_makes" = some (some (.ref f24))) (l24 : K.lookup f24 = some ⟨oc24, od24, .func (PySem.W.fnOf "_law_makes" "_law_makes" (defArgs s_Lmakes) (defBody s_Lmakes) (defScope s_Lmakes) .none kV24 dc24 pm24 an24 cd24 ct24), sl24⟩) (c24 : PySem.W.codeIn K cd24 "_law_makes" = true) (k24 : PySem.W.keepIn K (.ref f24) = true)
    {f25 : Addr} {od25 an25 : Option Addr} {sl25 : Array (Option Value)} {oc25 kV25 dc25 pm25 cd25 ct25 : Value}
    (a25 : PySem.W.nsIn K mainGlobals "law" = some (some (.ref f25))) (l25 : K.lookup f25 = some ⟨oc25, od25, .func (PySem.W.fnOf "law" "law" (defArgs s_law) (defBody s_law) (defScope s_law) .none kV25 dc25 pm25 an25 cd25 ct25), sl25⟩) (c25 : PySem.W.codeIn K cd25 "law" = true) (k25 : PySem.W.keepIn K (.ref f25) = true)
    (mkShelf_m : PySem.W.makesIn K ec0 = true)
    (mkShelf_f : PySem.W.isFn K (.ref f2) = true)
    (mkShelf_k : PySem.W.keepIn K (.ref ec0) = true)
    (clShelf_pg : PySem.W.plainGet K ec0 Str.empty = true)
    (clShelf_hd : PySem.W.hasDictIn K ec0 = true)
    (clShelf_po : PySem.W.plainOver K ec0 = true)
    (clShelf_sa : PySem.W.findIn K (.ref ec0) "__setattr__" = some (some (.builtin "object.__setattr__")))
    (naShelfmakes : PySem.W.findIn K (.ref ec0) "makes" = some none)
    (me3_f : PySem.W.isFn K (.ref f3) = true)
    (me4_f : PySem.W.isFn K (.ref f4) = true)
    (me5_f : PySem.W.isFn K (.ref f5) = true)
    (me6_f : PySem.W.isFn K (.ref f6) = true)
    (me7_f : PySem.W.isFn K (.ref f7) = true)
    (me8_f : PySem.W.isFn K (.ref f8) = true)
    {ct100 : Tok} (n0 : PySem.W.nsIn K mainGlobals "START" = some (some (.int 0 ct100)))
    {ca1 : Addr} {cd101 : Option Addr} {cs1 : Array (Option Value)} {cn1 : Nat} {cx1_0 cx1_1 : Tok} (n1 : PySem.W.nsIn K mainGlobals "NO_MAKE" = some (some (.ref ca1))) (q1 : K.lookup ca1 = some ⟨.type "tuple", cd101, .seq #[.int 0 cx1_0, .int 0 cx1_1, .none] cn1, cs1⟩)
    (z_bool : PySem.W.nsIn K mainGlobals "bool" = some none)
    (z_dict : PySem.W.nsIn K mainGlobals "dict" = some none)
    (z_int : PySem.W.nsIn K mainGlobals "int" = some none)
    (z_isinstance : PySem.W.nsIn K mainGlobals "isinstance" = some none)
    (z_len : PySem.W.nsIn K mainGlobals "len" = some none)
    (z_list : PySem.W.nsIn K mainGlobals "list" = some none)
    (z_range : PySem.W.nsIn K mainGlobals "range" = some none)
    (z_reversed : PySem.W.nsIn K mainGlobals "reversed" = some none)
    (z_sorted : PySem.W.nsIn K mainGlobals "sorted" = some none)
    (z_tuple : PySem.W.nsIn K mainGlobals "tuple" = some none)
    : ∃ fd : FuncData, (∀ (s : Shared) (v : Value), BindsTo s fd ⟨[v], []⟩ [("_law_script", v)]) ∧ ∀ base : Heap, K.In base → base.Ns mainGlobals mg → FnOk l.prog w K mg base CX0 6 fa fd ["_law_script"] (spLaw K) := by
  have e := hfa.symm.trans (PySem.W.mg_of X G a25)
  cases e
  let T : Tx K mg := {
    f_inside := f0
    d_inside := _
    F_inside := fun_mk (st := s_inside) l0 c0 k0
    b_inside := (fun_mk (st := s_inside) l0 c0 k0).binds (ps := ["key", "low", "high"]) fun _ _ _ _ _ _ us hl => match us, hl with | [_, _, _], _ => rfl
    m_inside := PySem.W.mg_of X G a0
    f_laid := f1
    d_laid := _
    F_laid := fun_mk (st := s_laid) l1 c1 k1
    b_laid := (fun_mk (st := s_laid) l1 c1 k1).binds (ps := ["rows", "drafts", "low", "high"]) fun _ _ _ _ _ _ us hl => match us, hl with | [_, _, _, _], _ => rfl
    m_laid := PySem.W.mg_of X G a1
    f_Shelfinit := f2
    d_Shelfinit := _
    F_Shelfinit := fun_mk (st := s_Shelfinit) l2 c2 k2
    b_Shelfinit := (fun_mk (st := s_Shelfinit) l2 c2 k2).binds (ps := ["self", "rows"]) fun _ _ _ _ _ _ us hl => match us, hl with | [_, _], _ => rfl
    f_Shelfput := f3
    d_Shelfput := _
    F_Shelfput := fun_mk (st := s_Shelfput) l3 c3 k3
    b_Shelfput := (fun_mk (st := s_Shelfput) l3 c3 k3).binds (ps := ["self", "stamp", "dealing", "drafts"]) fun _ _ _ _ _ _ us hl => match us, hl with | [_, _, _, _], _ => rfl
    f_Shelfmake := f4
    d_Shelfmake := _
    F_Shelfmake := fun_mk (st := s_Shelfmake) l4 c4 k4
    b_Shelfmake := (fun_mk (st := s_Shelfmake) l4 c4 k4).binds (ps := ["self", "key", "stamp"]) fun _ _ _ _ _ _ us hl => match us, hl with | [_, _, _], _ => rfl
    f_Shelfknown := f5
    d_Shelfknown := _
    F_Shelfknown := fun_mk (st := s_Shelfknown) l5 c5 k5
    b_Shelfknown := (fun_mk (st := s_Shelfknown) l5 c5 k5).binds (ps := ["self", "low", "high"]) fun _ _ _ _ _ _ us hl => match us, hl with | [_, _, _], _ => rfl
    f_Shelfrowsof := f6
    d_Shelfrowsof := _
    F_Shelfrowsof := fun_mk (st := s_Shelfrowsof) l6 c6 k6
    b_Shelfrowsof := (fun_mk (st := s_Shelfrowsof) l6 c6 k6).binds (ps := ["self", "keys", "stamp"]) fun _ _ _ _ _ _ us hl => match us, hl with | [_, _, _], _ => rfl
    f_Shelfthere := f7
    d_Shelfthere := _
    F_Shelfthere := fun_mk (st := s_Shelfthere) l7 c7 k7
    b_Shelfthere := (fun_mk (st := s_Shelfthere) l7 c7 k7).binds (ps := ["self", "stamp"]) fun _ _ _ _ _ _ us hl => match us, hl with | [_, _], _ => rfl
    f_Shelfrows := f8
    d_Shelfrows := _
    F_Shelfrows := fun_mk (st := s_Shelfrows) l8 c8 k8
    b_Shelfrows := (fun_mk (st := s_Shelfrows) l8 c8 k8).binds (ps := ["self", "low", "high", "stamp"]) fun _ _ _ _ _ _ us hl => match us, hl with | [_, _, _, _], _ => rfl
    f_Lcellat := f9
    d_Lcellat := _
    F_Lcellat := fun_mk (st := s_Lcellat) l9 c9 k9
    b_Lcellat := (fun_mk (st := s_Lcellat) l9 c9 k9).binds (ps := ["_law_script", "_law_k"]) fun _ _ _ _ _ _ us hl => match us, hl with | [_, _], _ => rfl
    m_Lcellat := PySem.W.mg_of X G a9
    f_Lwhole := f10
    d_Lwhole := _
    F_Lwhole := fun_mk (st := s_Lwhole) l10 c10 k10
    b_Lwhole := (fun_mk (st := s_Lwhole) l10 c10 k10).binds (ps := ["_law_found"]) fun _ _ _ _ _ _ us hl => match us, hl with | [_], _ => rfl
    m_Lwhole := PySem.W.mg_of X G a10
    f_Lstream := f11
    d_Lstream := _
    F_Lstream := fun_mk (st := s_Lstream) l11 c11 k11
    b_Lstream := (fun_mk (st := s_Lstream) l11 c11 k11).binds (ps := ["_law_cell", "_law_many"]) fun _ _ _ _ _ _ us hl => match us, hl with | [_, _], _ => rfl
    m_Lstream := PySem.W.mg_of X G a11
    f_Lgreat := f12
    d_Lgreat := _
    F_Lgreat := fun_mk (st := s_Lgreat) l12 c12 k12
    b_Lgreat := (fun_mk (st := s_Lgreat) l12 c12 k12).binds (ps := ["_law_number"]) fun _ _ _ _ _ _ us hl => match us, hl with | [_], _ => rfl
    m_Lgreat := PySem.W.mg_of X G a12
    f_Lkey := f13
    d_Lkey := _
    F_Lkey := fun_mk (st := s_Lkey) l13 c13 k13
    b_Lkey := (fun_mk (st := s_Lkey) l13 c13 k13).binds (ps := ["_law_number", "_law_base"]) fun _ _ _ _ _ _ us hl => match us, hl with | [_, _], _ => rfl
    m_Lkey := PySem.W.mg_of X G a13
    f_Lvalue := f14
    d_Lvalue := _
    F_Lvalue := fun_mk (st := s_Lvalue) l14 c14 k14
    b_Lvalue := (fun_mk (st := s_Lvalue) l14 c14 k14).binds (ps := ["_law_number"]) fun _ _ _ _ _ _ us hl => match us, hl with | [_], _ => rfl
    m_Lvalue := PySem.W.mg_of X G a14
    f_Ldraft := f15
    d_Ldraft := _
    F_Ldraft := fun_mk (st := s_Ldraft) l15 c15 k15
    b_Ldraft := (fun_mk (st := s_Ldraft) l15 c15 k15).binds (ps := ["_law_number"]) fun _ _ _ _ _ _ us hl => match us, hl with | [_], _ => rfl
    m_Ldraft := PySem.W.mg_of X G a15
    f_Lfirst := f16
    d_Lfirst := _
    F_Lfirst := fun_mk (st := s_Lfirst) l16 c16 k16
    b_Lfirst := (fun_mk (st := s_Lfirst) l16 c16 k16).binds (ps := ["_law_cell", "_law_base"]) fun _ _ _ _ _ _ us hl => match us, hl with | [_, _], _ => rfl
    m_Lfirst := PySem.W.mg_of X G a16
    f_Lputs := f17
    d_Lputs := _
    F_Lputs := fun_mk (st := s_Lputs) l17 c17 k17
    b_Lputs := (fun_mk (st := s_Lputs) l17 c17 k17).binds (ps := ["_law_cells", "_law_base"]) fun _ _ _ _ _ _ us hl => match us, hl with | [_, _], _ => rfl
    m_Lputs := PySem.W.mg_of X G a17
    f_Lends := f18
    d_Lends := _
    F_Lends := fun_mk (st := s_Lends) l18 c18 k18
    b_Lends := (fun_mk (st := s_Lends) l18 c18 k18).binds (ps := ["_law_number", "_law_base"]) fun _ _ _ _ _ _ us hl => match us, hl with | [_, _], _ => rfl
    m_Lends := PySem.W.mg_of X G a18
    f_Lisrows := f19
    d_Lisrows := _
    F_Lisrows := fun_mk (st := s_Lisrows) l19 c19 k19
    b_Lisrows := (fun_mk (st := s_Lisrows) l19 c19 k19).binds (ps := ["_law_found"]) fun _ _ _ _ _ _ us hl => match us, hl with | [_], _ => rfl
    m_Lisrows := PySem.W.mg_of X G a19
    f_Llarge := f20
    d_Llarge := _
    F_Llarge := fun_mk (st := s_Llarge) l20 c20 k20
    b_Llarge := (fun_mk (st := s_Llarge) l20 c20 k20).binds (ps := ["_law_first_here", "_law_puts_here", "_law_cell"]) fun _ _ _ _ _ _ us hl => match us, hl with | [_, _, _], _ => rfl
    m_Llarge := PySem.W.mg_of X G a20
    f_Lrows := f21
    d_Lrows := _
    F_Lrows := fun_mk (st := s_Lrows) l21 c21 k21
    b_Lrows := (fun_mk (st := s_Lrows) l21 c21 k21).binds (ps := ["_law_held"]) fun _ _ _ _ _ _ us hl => match us, hl with | [_], _ => rfl
    m_Lrows := PySem.W.mg_of X G a21
    f_Lover := f22
    d_Lover := _
    F_Lover := fun_mk (st := s_Lover) l22 c22 k22
    b_Lover := (fun_mk (st := s_Lover) l22 c22 k22).binds (ps := ["_law_rows_here", "_law_drafts"]) fun _ _ _ _ _ _ us hl => match us, hl with | [_, _], _ => rfl
    m_Lover := PySem.W.mg_of X G a22
    f_Lgrown := f23
    d_Lgrown := _
    F_Lgrown := fun_mk (st := s_Lgrown) l23 c23 k23
    b_Lgrown := (fun_mk (st := s_Lgrown) l23 c23 k23).binds (ps := ["_law_shelf", "_law_first_here", "_law_puts_here"]) fun _ _ _ _ _ _ us hl => match us, hl with | [_, _, _], _ => rfl
    m_Lgrown := PySem.W.mg_of X G a23
    f_Lmakes := f24
    d_Lmakes := _
    F_Lmakes := fun_mk (st := s_Lmakes) l24 c24 k24
    b_Lmakes := (fun_mk (st := s_Lmakes) l24 c24 k24).binds (ps := ["_law_shelf", "_law_rows_here", "_law_stamp", "_law_dealing", "_law_drafts"]) fun _ _ _ _ _ _ us hl => match us, hl with | [_, _, _, _, _], _ => rfl
    m_Lmakes := PySem.W.mg_of X G a24
    f_law := fa
    d_law := _
    F_law := fun_mk (st := s_law) l25 c25 k25
    b_law := (fun_mk (st := s_law) l25 c25 k25).binds (ps := ["_law_script"]) fun _ _ _ _ _ _ us hl => match us, hl with | [_], _ => rfl
    m_law := PySem.W.mg_of X G a25
    c_Shelf := ec0
    m_Shelf := PySem.W.mg_of X G e0
    mk_Shelf := ⟨mkShelf_m, a2, mkShelf_f, mkShelf_k⟩
    cl_Shelf := ⟨clShelf_pg, clShelf_hd, clShelf_po, clShelf_sa⟩
    na_Shelf_makes := naShelfmakes
    me_Shelfput := ⟨a3, me3_f, k3⟩
    me_Shelfmake := ⟨a4, me4_f, k4⟩
    me_Shelfknown := ⟨a5, me5_f, k5⟩
    me_Shelfrowsof := ⟨a6, me6_f, k6⟩
    me_Shelfthere := ⟨a7, me7_f, k7⟩
    me_Shelfrows := ⟨a8, me8_f, k8⟩
    t_START := _
    m_START := PySem.W.mg_of X G n0
    a_NO_MAKE := ca1
    m_NO_MAKE := PySem.W.mg_of X G n1
    q_NO_MAKE := fun _ => .inr ⟨_, _, _, q1, rfl, rfl, (by show 3 ≤ sizeLine; decide), (.cons ⟨_, rfl⟩ (.cons ⟨_, rfl⟩ (.cons rfl .nil)))⟩
    z_bool := PySem.W.mg_none_of X G z_bool
    z_dict := PySem.W.mg_none_of X G z_dict
    z_int := PySem.W.mg_none_of X G z_int
    z_isinstance := PySem.W.mg_none_of X G z_isinstance
    z_len := PySem.W.mg_none_of X G z_len
    z_list := PySem.W.mg_none_of X G z_list
    z_range := PySem.W.mg_none_of X G z_range
    z_reversed := PySem.W.mg_none_of X G z_reversed
    z_sorted := PySem.W.mg_none_of X G z_sorted
    z_tuple := PySem.W.mg_none_of X G z_tuple }
  exact ⟨PySem.W.fnOf "law" "law" (defArgs s_law) (defBody s_law) (defScope s_law) .none kV25 dc25 pm25 an25 cd25 ct25, fun s v => .of_eq rfl, fun base _ _ => ok_law T⟩
theorem walk {l : PySem.W.OpenLaw} {q : Program} {loose : List Str} {XP : (Str → Option Value) → Heap → Prop} {YP : World → Heap → Prop} {d : DefRec} {K : Params → PySem.W.Frag} (hn : l.most = some 63) (hdf : d.params.defaults = [])
    (hY : ∀ (w : World) (h : Heap), YP w h → (K w.params).In h)
    (F : ∀ (w : World) (mg : Str → Option Value) (fa : Addr) (h : Heap), (K w.params).In h → h.Ns mainGlobals mg → mg d.name = some (.ref fa) →
      ∃ fd : FuncData, (∀ (s : Shared) (u : Value), BindsTo s fd ⟨[u], []⟩ [("_law_script", u)]) ∧ ∀ base : Heap, (K w.params).In base → base.Ns mainGlobals mg → FnOk l.prog w (K w.params) mg base CX0 6 fa fd ["_law_script"] (spLaw (K w.params))) :
    PySem.W.WalkO q loose XP YP l.row.toRowW d [] (fun f vs => PySem.call f vs) :=
  My.walk_ofB (n := 63) (k := 6) (x := "_law_script") (CX := fun _ => CX0) (sp := fun w => spLaw (K w.params)) hn (by decide) hdf ⟨rfl, by decide, by decide⟩ hY F (fun _ _ a ns hl hb _ hS => ⟨a, ns, rfl, hS, hl, hb, fun _ => rfl⟩) fun _ _ _ _ _ z => z
end Lw
open PySem PySem.W PyProof.Rows
set_option maxRecDepth 100000 in
set_option maxHeartbeats 0 in
theorem PySem.Challenge.cw_skewhouse_k17_whole_what_was_stays_holds : PySem.Challenge.rw_skewhouse_k17_whole_what_was_stays.Holds := by
  w_on; o_law; k_head; (case hw => w_witness2)
  k_fill
  refine Lw.walk (l := PySem.Challenge.rw_skewhouse_k17_whole_what_was_stays) rfl rfl (fun w h Y => PySem.W.kIn_of Y) ?F
  case F =>
    intro w mg fa h KX G hmg
    refine' Lw.all_mk KX G hmg ?e0 ?a0 ?l0 ?c0 ?k0 ?a1 ?l1 ?c1 ?k1 ?a2 ?l2 ?c2 ?k2 ?a3 ?l3 ?c3 ?k3 ?a4 ?l4 ?c4 ?k4 ?a5 ?l5 ?c5 ?k5 ?a6 ?l6 ?c6 ?k6 ?a7 ?l7 ?c7 ?k7 ?a8 ?l8 ?c8 ?k8 ?a9 ?l9 ?c9 ?k9 ?a10 ?l10 ?c10 ?k10 ?a11 ?l11 ?c11 ?k11 ?a12 ?l12 ?c12 ?k12 ?a13 ?l13 ?c13 ?k13 ?a14 ?l14 ?c14 ?k14 ?a15 ?l15 ?c15 ?k15 ?a16 ?l16 ?c16 ?k16 ?a17 ?l17 ?c17 ?k17 ?a18 ?l18 ?c18 ?k18 ?a19 ?l19 ?c19 ?k19 ?a20 ?l20 ?c20 ?k20 ?a21 ?l21 ?c21 ?k21 ?a22 ?l22 ?c22 ?k22 ?a23 ?l23 ?c23 ?k23 ?a24 ?l24 ?c24 ?k24 ?a25 ?l25 ?c25 ?k25 ?mkShelf_m ?mkShelf_f ?mkShelf_k ?clShelf_pg ?clShelf_hd ?clShelf_po ?clShelf_sa ?naShelfmakes ?me3_f ?me4_f ?me5_f ?me6_f ?me7_f ?me8_f ?n0 ?n1 ?q1 ?z0 ?z1 ?z2 ?z3 ?z4 ?z5 ?z6 ?z7 ?z8 ?z9
    (case e0 => k_is)
    (case a0 => k_is); (case l0 => k_is); (case c0 => k_is); (case k0 => k_is)
    (case a1 => k_is); (case l1 => k_is); (case c1 => k_is); (case k1 => k_is)
    (case a2 => k_is); (case l2 => k_is); (case c2 => k_is); (case k2 => k_is)
    (case a3 => k_is); (case l3 => k_is); (case c3 => k_is); (case k3 => k_is)
    (case a4 => k_is); (case l4 => k_is); (case c4 => k_is); (case k4 => k_is)
    (case a5 => k_is); (case l5 => k_is); (case c5 => k_is); (case k5 => k_is)
    (case a6 => k_is); (case l6 => k_is); (case c6 => k_is); (case k6 => k_is)
    (case a7 => k_is); (case l7 => k_is); (case c7 => k_is); (case k7 => k_is)
    (case a8 => k_is); (case l8 => k_is); (case c8 => k_is); (case k8 => k_is)
    (case a9 => k_is); (case l9 => k_is); (case c9 => k_is); (case k9 => k_is)
    (case a10 => k_is); (case l10 => k_is); (case c10 => k_is); (case k10 => k_is)
    (case a11 => k_is); (case l11 => k_is); (case c11 => k_is); (case k11 => k_is)
    (case a12 => k_is); (case l12 => k_is); (case c12 => k_is); (case k12 => k_is)
    (case a13 => k_is); (case l13 => k_is); (case c13 => k_is); (case k13 => k_is)
    (case a14 => k_is); (case l14 => k_is); (case c14 => k_is); (case k14 => k_is)
    (case a15 => k_is); (case l15 => k_is); (case c15 => k_is); (case k15 => k_is)
    (case a16 => k_is); (case l16 => k_is); (case c16 => k_is); (case k16 => k_is)
    (case a17 => k_is); (case l17 => k_is); (case c17 => k_is); (case k17 => k_is)
    (case a18 => k_is); (case l18 => k_is); (case c18 => k_is); (case k18 => k_is)
    (case a19 => k_is); (case l19 => k_is); (case c19 => k_is); (case k19 => k_is)
    (case a20 => k_is); (case l20 => k_is); (case c20 => k_is); (case k20 => k_is)
    (case a21 => k_is); (case l21 => k_is); (case c21 => k_is); (case k21 => k_is)
    (case a22 => k_is); (case l22 => k_is); (case c22 => k_is); (case k22 => k_is)
    (case a23 => k_is); (case l23 => k_is); (case c23 => k_is); (case k23 => k_is)
    (case a24 => k_is); (case l24 => k_is); (case c24 => k_is); (case k24 => k_is)
    (case a25 => k_is); (case l25 => k_is); (case c25 => k_is); (case k25 => k_is)
    (case mkShelf_m => k_is)
    (case mkShelf_f => k_is)
    (case mkShelf_k => k_is)
    (case clShelf_pg => k_is)
    (case clShelf_hd => k_is)
    (case clShelf_po => k_is)
    (case clShelf_sa => k_is)
    (case naShelfmakes => k_is)
    (case me3_f => k_is)
    (case me4_f => k_is)
    (case me5_f => k_is)
    (case me6_f => k_is)
    (case me7_f => k_is)
    (case me8_f => k_is)
    (case n0 => k_is)
    (case n1 => k_is); (case q1 => k_is)
    (case z0 => k_is)
    (case z1 => k_is)
    (case z2 => k_is)
    (case z3 => k_is)
    (case z4 => k_is)
    (case z5 => k_is)
    (case z6 => k_is)
    (case z7 => k_is)
    (case z8 => k_is)
    (case z9 => k_is)

