import PyProof.Rows.All
import Wide.All
import OpenK.AllK
import Wide.FinOn
import Lean
import PyProof.EqAt
import PyProof.EqKinds
import PyProof.TupleCall
import PySem.Challenge.RW_skewhouse_k37_whole_moments_go_forward
set_option Elab.async false
set_option linter.all false
set_option maxRecDepth 100000
/-! THE HAND LAYER, for ints, bools, texts, own classes, LISTS and tuples (index, slices, in, append, pop ..), calls, loops. Paste it whole ahead of your own text; what your proof does not reach may be deleted. -/
namespace L2
open PySem PySem.Spec PyProof.Rows

/-- a key: an int or a str -/
abbrev Key := Sum Int Str
def keyIs : Key → Value → Bool
  | .inl k, v => Value.isInt k v
  | .inr x, v => Value.isStrOf x v
def keyH (w : World) : Key → Int
  | .inl k => hashInt k
  | .inr x => hashStr w x
theorem keyIs_shape : ∀ {k : Key} {v : Value}, keyIs k v = true → (∃ i t, k = Sum.inl i ∧ v = Value.int i t) ∨ (∃ x t, k = Sum.inr x ∧ v = Value.str x t)
  | .inl i, v, h => by
    obtain ⟨t, e⟩ := Value.isInt_shape (k := i) (v := v) h
    exact .inl ⟨i, t, rfl, e⟩
  | .inr x, v, h => by
    obtain ⟨t, e⟩ := Value.isStrOf_shape (x := x) (v := v) h
    exact .inr ⟨x, t, rfl, e⟩
theorem keyIs_int (i : Int) (t : Tok) : keyIs (.inl i) (.int i t) = true := by simp [keyIs, Value.isInt]
theorem keyIs_str (x : Str) (t : Tok) : keyIs (.inr x) (.str x t) = true := by simp [keyIs, Value.isStrOf]
theorem key_ll (a b : Int) : decide ((Sum.inl a : Key) = Sum.inl b) = (a == b) := by
  by_cases e : a = b
  · subst e; simp
  · have h : ¬ (Sum.inl a : Key) = Sum.inl b := fun q => e (Sum.inl.inj q)
    rw [decide_eq_false h]
    exact (beq_eq_false_iff_ne.mpr e).symm
theorem key_rr (a b : Str) : decide ((Sum.inr a : Key) = Sum.inr b) = decide (a = b) := by
  by_cases e : a = b
  · subst e; simp
  · have h : ¬ (Sum.inr a : Key) = Sum.inr b := fun q => e (Sum.inr.inj q)
    rw [decide_eq_false h, decide_eq_false e]
theorem key_lr (a : Int) (b : Str) : decide ((Sum.inl a : Key) = Sum.inr b) = false := decide_eq_false (fun q => nomatch q)
theorem key_rl (a : Str) (b : Int) : decide ((Sum.inr a : Key) = Sum.inl b) = false := decide_eq_false (fun q => nomatch q)

def mixKind (prog : Program) (w : World) : PySem.KeyKind prog w Key where
  is := keyIs
  hash := keyH w
  inj := fun v a b ha hb => by
    rcases keyIs_shape ha with ⟨i, t, rfl, rfl⟩ | ⟨x, t, rfl, rfl⟩
    · rcases keyIs_shape hb with ⟨j, u, rfl, e⟩ | ⟨y, u, rfl, e⟩
      · injection e with e1 _; rw [e1]
      · exact nomatch e
    · rcases keyIs_shape hb with ⟨j, u, rfl, e⟩ | ⟨y, u, rfl, e⟩
      · exact nomatch e
      · injection e with e1 _; rw [e1]
  byValue := fun k v h => by
    rcases keyIs_shape h with ⟨i, t, rfl, rfl⟩ | ⟨x, t, rfl, rfl⟩ <;> rfl
  pyHash := fun hv h => by
    rcases keyIs_shape hv with ⟨i, t, rfl, rfl⟩ | ⟨x, t, rfl, rfl⟩
    · exact wpAny_pyHash_int h
    · exact wpAny_pyHash_str h
  eqBool := fun hu hv h => by
    rcases keyIs_shape hu with ⟨i, t, rfl, rfl⟩ | ⟨x, t, rfl, rfl⟩
    · rcases keyIs_shape hv with ⟨j, u, rfl, rfl⟩ | ⟨y, u, rfl, rfl⟩
      · rw [key_ll] at h; exact wpAny_eqBool_int h
      · rw [key_lr] at h; exact SeqAt.EqAt.int_str i t y u _ _ _ _ h
    · rcases keyIs_shape hv with ⟨j, u, rfl, rfl⟩ | ⟨y, u, rfl, rfl⟩
      · rw [key_rl] at h; exact SeqAt.EqAt.str_int x t j u _ _ _ _ h
      · rw [key_rr] at h; exact wpAny_eqBool_str h
  «strs» := fun k x t v h => by
    rcases keyIs_shape h with ⟨i, u, rfl, e⟩ | ⟨y, u, rfl, e⟩
    · exact nomatch e
    · injection e with e1 _
      subst e1
      cases v <;> rfl

theorem mixKind_int (prog : Program) (w : World) (i : Int) (t : Tok) : (mixKind prog w).is (.inl i) (.int i t) = true := keyIs_int i t
theorem mixKind_str (prog : Program) (w : World) (x : Str) (t : Tok) : (mixKind prog w).is (.inr x) (.str x t) = true := keyIs_str x t
end L2

namespace L2
open PySem PySem.Spec PyProof.Rows

/-- a value, without the heap -/
inductive V where
  | non | bl (b : Bool) | int (i : Int) | str (x : Str) | byt (b : Array UInt8) | flt (b : UInt64) | ref (a : Addr) | ty (n : String)
  deriving DecidableEq

def RelV : V → Value → Prop
  | .non, u => u = Value.none
  | .bl b, u => u = Value.bool b
  | .int i, u => ∃ t, u = Value.int i t
  | .str x, u => ∃ t, u = Value.str x t
  | .byt b, u => ∃ t, u = Value.bytes b t
  | .flt b, u => ∃ t, u = Value.float b t
  | .ref a, u => u = Value.ref a
  | .ty n, u => u = Value.type n

abbrev Vals : List V → List Value → Prop := Paired RelV
theorem Vals.length {xs : List V} {us : List Value} (r : Vals xs us) : xs.length = us.length := Paired.length r
theorem Vals.get : ∀ {xs : List V} {us : List Value} {i : Nat} {x : V}, Vals xs us → xs[i]? = some x → ∃ u, us[i]? = some u ∧ RelV x u
  | _, _, _, _, .nil, e => by simp at e
  | _, _, 0, _, .cons r _, e => by simp at e; subst e; exact ⟨_, rfl, r⟩
  | _, _, i + 1, x, .cons _ t, e => by
    obtain ⟨u, h1, h2⟩ := Vals.get (i := i) (x := x) t (by simpa using e)
    exact ⟨u, by simpa using h1, h2⟩
theorem Vals.set {x : V} {u : Value} (r : RelV x u) : ∀ {xs : List V} {us : List Value} (i : Nat), Vals xs us → Vals (xs.set i x) (us.set i u)
  | _, _, _, .nil => .nil
  | _, _, 0, .cons _ t => .cons r t
  | _, _, i + 1, .cons q t => .cons q (Vals.set r i t)
theorem Vals.append : ∀ {xs ys : List V} {us ws : List Value}, Vals xs us → Vals ys ws → Vals (xs ++ ys) (us ++ ws)
  | _, _, _, _, .nil, s => s
  | _, _, _, _, .cons r t, s => .cons r (Vals.append t s)
theorem Vals.take : ∀ {xs : List V} {us : List Value} (n : Nat), Vals xs us → Vals (xs.take n) (us.take n)
  | _, _, 0, _ => .nil
  | _, _, _ + 1, .nil => .nil
  | _, _, n + 1, .cons r t => .cons r (Vals.take n t)
theorem Vals.drop : ∀ {xs : List V} {us : List Value} (n : Nat), Vals xs us → Vals (xs.drop n) (us.drop n)
  | _, _, 0, r => r
  | _, _, _ + 1, .nil => .nil
  | _, _, n + 1, .cons _ t => Vals.drop n t
theorem Vals.none_of : ∀ {xs : List V} {us : List Value} {i : Nat}, Vals xs us → xs[i]? = none → us[i]? = none := fun {xs us i} r e => by
  have h1 := r.length
  have h2 : xs.length ≤ i := List.getElem?_eq_none_iff.mp e
  exact List.getElem?_eq_none_iff.mpr (by omega)

def RelO : Option V → Option Value → Prop
  | some v, some u => RelV v u
  | none, none => True
  | _, _ => False
def KV {κ : Type} : List (κ × V) → List (κ × Value) → Prop := Paired fun (p : κ × V) (q : κ × Value) => p.1 = q.1 ∧ RelV p.2 q.2

/-- a key of a dict (00_mix): an int or a text -/
def kV : Key → V
  | .inl i => .int i
  | .inr x => .str x

/-- what stands at a tracked address -/
inductive HO where
  /-- a list -/
  | lst (xs : List V)
  /-- a tuple (never changes) -/
  | tup (xs : List V)
  /-- a dict whose keys are ints and texts; one whose keys are tuples of ints and texts (the empty one is both) -/
  | dK (kvs : List (Key × V)) | dT (kvs : List (List Key × V))
  /-- a set of ints: its members, its size -/
  | set (S : Int → Bool) (n : Nat)
  /-- an instance of the class at C, its dict at dx, its attributes -/
  | ins (C dx : Addr) (fs : List (Str × V))
  /-- the dict of the instance at x -/
  | own (x : Addr)
  /-- the dict of an exception -/
  | xd (fs : List (Str × V))
  /-- a bound method, f of x -/
  | met (f x : Addr)
  /-- a range object lo, lo + 1, .. below hi -/
  | rng (lo hi : Int)
  /-- a thing that is known to the object (the script; a dict while a loop walks it): read, never written while it is so -/
  | frz (o : Obj) (u : HO)
  /-- a code object's table -/
  | tbl (ps : Array Value)
  /-- any other thing, by what is true of its one object (a def of one's own: SetO a S n := HO.ext fun h => ..) -/
  | ext (φ : Heap → Prop)

abbrev Hp := Addr → Option HO
def upd (H : Hp) (a : Addr) (o : HO) : Hp := fun b => if b = a then some o else H b
theorem upd_same {H : Hp} {a : Addr} {o : HO} : upd H a o a = some o := by unfold upd; rw [if_pos rfl]
theorem upd_ne {H : Hp} {a b : Addr} {o : HO} (h : b ≠ a) : upd H a o b = H b := by unfold upd; rw [if_neg h]
/-- two objects of different content stand apart -/
theorem ne_of {H : Hp} {a b : Addr} {o u : HO} (h : H a = some o) (h' : H b = some u) (d : o ≠ u) : a ≠ b := by
  intro e; subst e; rw [h] at h'; exact d (Option.some.inj h')
theorem ne_of_none {H : Hp} {a b : Addr} {o : HO} (h : H a = some o) (h' : H b = none) : a ≠ b := by
  intro e; subst e; rw [h] at h'; cases h'

section
variable (P : Program) (w : World)
def ObjOk (H : Hp) (h : Heap) (a : Addr) : HO → Prop
  | .lst xs => xs.length ≤ sizeLine ∧ ∃ (its : List Value) (n : Nat), Vals xs its ∧ h.get? a = some { cls := .type "list", data := .seq its.toArray n }
  | .tup xs => xs.length ≤ sizeLine ∧ ∃ its : List Value, Vals xs its ∧ IsTup h a its.toArray
  | .dK kvs => kvs.length ≤ sizeLine ∧ (a == sysModules) = false ∧ ∃ vs, KV kvs vs ∧ h.DictOf (mixKind P w) a vs
  | .dT kvs => kvs.length ≤ sizeLine ∧ (a == sysModules) = false ∧ ∃ xs : List (List Key × Addr × Value),
      Paired (fun (p : List Key × V) (q : List Key × Addr × Value) => p.1 = q.1 ∧ H q.2.1 = some (.tup (p.1.map kV)) ∧ RelV p.2 q.2.2) kvs xs ∧
      ∃ o es ep, h.get? a = some o ∧ o.ExactDict ∧ o.data = .dict es ep ∧ es.toList = xs.map (entryOfKey (tupleKind (mixKind P w))) ∧ (xs.map (·.1)).Nodup
  | .set S n => h.SetOf (intKind P w) a S n
  | .ins C dx fs => H dx = some (.own a) ∧ fs.length ≤ 1000 ∧ dx ≠ a ∧ h.get? a = some (PySem.W.instObj C dx) ∧
      ∃ mA, h.Ns1 dx mA ∧ (∀ f, RelO (fs.lookup f) (mA f)) ∧ PySem.Within mA (fs.map (·.1))
  | .own _ => ∃ o, h.get? a = some o
  | .xd fs => ∃ mA, h.Ns1 a mA ∧ ∀ f, RelO (fs.lookup f) (mA f)
  | .rng lo hi => ∃ t u v, h.get? a = some { cls := .type "range", data := .fields #[.int lo t, .int hi u, .int 1 v] }
  | .frz o u => h.get? a = some o ∧ ObjOk H h a u
  | .tbl ps => h.get? a = some { cls := .none, data := .fields ps }
  | .met f x => h.get? a = some (PySem.W.methodObj (.ref f) (.ref x))
  | .ext φ => φ h ∧ (∃ o, h.get? a = some o) ∧ ∀ h1 h2 : Heap, φ h1 → (∀ o, h1.get? a = some o → h2.get? a = some o) → φ h2
/-- the abstract heap is held -/
def HOk (H : Hp) (h : Heap) : Prop := ∀ a o, H a = some o → ObjOk P w H h a o
end

section
variable {P : Program} {w : World} {H H' : Hp} {h h' : Heap} {a : Addr} {o : HO}
theorem ObjOk.lt (x : ObjOk P w H h a o) : a < h.objs.size := by
  cases o with
  | lst xs => obtain ⟨_, _, _, _, e⟩ := x; exact Heap.lt_size e
  | tup xs => obtain ⟨_, _, _, p⟩ := x; exact p.lt
  | dK kvs => obtain ⟨_, _, _, _, o, _, _, e, _⟩ := x; exact Heap.lt_size e
  | dT kvs => obtain ⟨_, _, _, _, o, _, _, e, _⟩ := x; exact Heap.lt_size e
  | set S n => obtain ⟨o, _, _, _, e, _⟩ := x; exact Heap.lt_size e
  | ins C dx fs => obtain ⟨_, _, _, e, _⟩ := x; exact Heap.lt_size e
  | own y => obtain ⟨_, e⟩ := x; exact Heap.lt_size e
  | xd fs => obtain ⟨_, ⟨_, _, _, e, _⟩, _⟩ := x; exact Heap.lt_size e
  | rng lo hi => obtain ⟨_, _, _, e⟩ := x; exact Heap.lt_size e
  | frz ob u => obtain ⟨e, _⟩ := x; exact Heap.lt_size e
  | tbl ps => exact Heap.lt_size (show h.get? a = some _ from x)
  | met f y => exact Heap.lt_size (show h.get? a = some _ from x)
  | ext φ => obtain ⟨_, ⟨_, e⟩, _⟩ := x; exact Heap.lt_size e
theorem Paired.mapP {α β : Type} {F G : α → β → Prop} : ∀ {l₁ : List α} {l₂ : List β}, Paired F l₁ l₂ → (∀ a b, F a b → G a b) → Paired G l₁ l₂
  | _, _, .nil, _ => .nil
  | _, _, .cons r t, f => .cons (f _ _ r) (Paired.mapP t f)
/-- what an object's description leans on: its own object, its own dict, the tuples -/
theorem ObjOk.stay (x : ObjOk P w H h a o) (k : ∀ b u, (b = a ∨ H b = some (.own a)) → h.get? b = some u → h'.get? b = some u)
    (ho : ∀ b, H b = some (.own a) → H' b = some (.own a)) (ht : ∀ b xs, H b = some (.tup xs) → H' b = some (.tup xs)) : ObjOk P w H' h' a o := by
  induction o with
  | lst xs => obtain ⟨z, its, n, r, e⟩ := x; exact ⟨z, its, n, r, k _ _ (.inl rfl) e⟩
  | tup xs => obtain ⟨z, its, r, ob, e, c⟩ := x; exact ⟨z, its, r, ob, k _ _ (.inl rfl) e, c⟩
  | dK kvs => obtain ⟨z, y, vs, r, ob, es, ep, e, c⟩ := x; exact ⟨z, y, vs, r, ob, es, ep, k _ _ (.inl rfl) e, c⟩
  | dT kvs =>
    obtain ⟨z, y, xs, r, ob, es, ep, e, c⟩ := x
    exact ⟨z, y, xs, Paired.mapP r fun p q z => ⟨z.1, ht _ _ z.2.1, z.2.2⟩, ob, es, ep, k _ _ (.inl rfl) e, c⟩
  | set S n => obtain ⟨ob, es, ep, t, e, c⟩ := x; exact ⟨ob, es, ep, t, k _ _ (.inl rfl) e, c⟩
  | ins C dx fs =>
    obtain ⟨d, z, ne, e, mA, ⟨od, es, ep, e2, c⟩, r⟩ := x
    exact ⟨ho _ d, z, ne, k _ _ (.inl rfl) e, mA, ⟨od, es, ep, k _ _ (.inr d) e2, c⟩, r⟩
  | own y => obtain ⟨ob, e⟩ := x; exact ⟨ob, k _ _ (.inl rfl) e⟩
  | xd fs => obtain ⟨mA, ⟨od, es, ep, e, c⟩, r⟩ := x; exact ⟨mA, ⟨od, es, ep, k _ _ (.inl rfl) e, c⟩, r⟩
  | rng lo hi => obtain ⟨t, u, v, e⟩ := x; exact ⟨t, u, v, k _ _ (.inl rfl) e⟩
  | frz ob u ih => obtain ⟨e, q⟩ := x; exact ⟨k _ _ (.inl rfl) e, ih q⟩
  | tbl ps =>
    have e : h.get? a = some { cls := .none, data := .fields ps } := x
    show h'.get? a = some { cls := .none, data := .fields ps }
    exact k a _ (.inl rfl) e
  | met f y =>
    have e : h.get? a = some (PySem.W.methodObj (.ref f) (.ref y)) := x
    show h'.get? a = some (PySem.W.methodObj (.ref f) (.ref y))
    exact k a _ (.inl rfl) e
  | ext φ => obtain ⟨p, ⟨o, e⟩, st⟩ := x; exact ⟨st _ _ p fun o q => k _ _ (.inl rfl) q, ⟨o, k _ _ (.inl rfl) e⟩, st⟩
theorem HOk.lt (x : HOk P w H h) (e : H a = some o) : a < h.objs.size := (x a o e).lt
theorem HOk.fresh (x : HOk P w H h) (e : h.objs.size ≤ a) : H a = none := by
  cases q : H a with
  | none => rfl
  | some u => exact absurd (Nat.lt_of_lt_of_le (x.lt q) e) (Nat.lt_irrefl _)
/-- every object of the heap is kept -/
theorem HOk.kept (x : HOk P w H h) (k : ∀ b u, h.get? b = some u → h'.get? b = some u) : HOk P w H h' := fun a o e =>
  (x a o e).stay (fun b u _ q => k b u q) (fun _ q => q) fun _ _ q => q
/-- a new object is laid and tracked -/
theorem HOk.laid (x : HOk P w H h) (k : ∀ b u, h.get? b = some u → h'.get? b = some u) (hp : h.objs.size ≤ a) (new : ObjOk P w (upd H a o) h' a o) : HOk P w (upd H a o) h' := fun b u e => by
  have hn := x.fresh hp
  by_cases hb : b = a
  · subst hb; rw [upd_same] at e; cases e; exact new
  · rw [upd_ne hb] at e
    exact (x b u e).stay (fun c v _ q => k c v q) (fun c q => by rw [upd_ne (ne_of_none q hn)]; exact q) fun c xs q => by rw [upd_ne (ne_of_none q hn)]; exact q
end

/-- what may be read as u: it is u, or a known u -/
def Rd (H : Hp) (a : Addr) (u : HO) : Prop := H a = some u ∨ ∃ o, H a = some (.frz o u)
theorem Rd.of {H : Hp} {a : Addr} {u : HO} (h : H a = some u) : Rd H a u := .inl h
theorem Rd.ok {P : Program} {w : World} {H : Hp} {h : Heap} {a : Addr} {u : HO} (r : Rd H a u) (x : HOk P w H h) : ObjOk P w H h a u := by
  rcases r with r | ⟨o, r⟩
  · exact x a u r
  · obtain ⟨_, q⟩ := x a _ r
    exact q
/-- what may be written -/
def Mut : Option HO → Prop
  | some (.lst _) => True
  | some (.dK _) => True
  | some (.dT _) => True
  | some (.set _ _) => True
  | some (.ins _ _ _) => True
  | some (.ext _) => True
  | _ => False
section
variable {P : Program} {w : World} {H : Hp} {h h' : Heap} {x e : Addr} {o' : HO}
/-- the object at e is changed: x itself, or the dict of the instance x -/
theorem HOk.write (ok : HOk P w H h) (mu : Mut (H x)) (he : e = x ∨ H e = some (.own x)) (k : ∀ b u, b ≠ e → h.get? b = some u → h'.get? b = some u) (heo : ∃ u, h'.get? e = some u)
    (new : ObjOk P w (upd H x o') h' x o') : HOk P w (upd H x o') h' := fun b u q => by
  have nown : ∀ c y, H c = some (.own y) → c ≠ x := fun c y r z => by subst z; rw [r] at mu; exact mu
  have ntup : ∀ c xs, H c = some (.tup xs) → c ≠ x := fun c xs r z => by subst z; rw [r] at mu; exact mu
  by_cases hb : b = x
  · subst hb; rw [upd_same] at q; cases q; exact new
  · rw [upd_ne hb] at q
    by_cases hbe : b = e
    · have q' : H b = some (.own x) := by
        rcases he with z | z
        · exact absurd (hbe.trans z) hb
        · rw [hbe]; exact z
      rw [q] at q'; cases q'
      obtain ⟨v, hv⟩ := heo
      exact ⟨v, by rw [hbe]; exact hv⟩
    · refine (ok b u q).stay (fun c v hc r => k c v ?_ r) (fun c r => by rw [upd_ne (nown c b r)]; exact r) fun c xs r => by rw [upd_ne (ntup c xs r)]; exact r
      rcases hc with rfl | hc
      · exact hbe
      · rintro rfl
        rcases he with z | z
        · exact nown c b hc z
        · rw [hc] at z; cases z; exact hb rfl
end

/-! ### kept unless tracked; of the frames at fs (the callers') the slots may change (an exception that passes writes there); of the records at ex (iterators) nothing is said -/
structure Un (fs ex : List Addr) (H H' : Hp) (h h' : Heap) : Prop where
  keep : ∀ b o, h.get? b = some o → H b = none → b ∉ fs → b ∉ ex → h'.get? b = some o
  slot : ∀ b o, h.get? b = some o → H b = none → b ∈ fs → b ∉ ex → ∃ sl, h'.get? b = some { o with slots := sl }
  free : ∀ b o, h.get? b = some o → H b = none → b ∉ ex → H' b = none
  there : ∀ b o, h.get? b = some o → b ∉ ex → ∃ o', h'.get? b = some o'
  tups : ∀ b xs, H b = some (.tup xs) → H' b = some (.tup xs)
  frzs : ∀ b o u, H b = some (.frz o u) → H' b = some (.frz o u)
  tbls : ∀ b ps, H b = some (.tbl ps) → ∃ more, H' b = some (.tbl (ps ++ more))
section
variable {fs fs' ex ex' : List Addr} {H H1 H2 : Hp} {h h1 h2 h' : Heap} {a x e : Addr} {o : HO}
theorem Un.any (u : Un fs ex H H1 h h1) {b : Addr} {ob : Obj} (q : h.get? b = some ob) (n : H b = none) (hx : b ∉ ex) : ∃ sl, h1.get? b = some { ob with slots := sl } := by
  by_cases hb : b ∈ fs
  · exact u.slot b ob q n hb hx
  · exact ⟨ob.slots, u.keep b ob q n hb hx⟩
theorem Un.trans (a : Un fs ex H H1 h h1) (b : Un fs ex H1 H2 h1 h2) : Un fs ex H H2 h h2 where
  keep := fun c ob q n hc hx => b.keep c ob (a.keep c ob q n hc hx) (a.free c ob q n hx) hc hx
  slot := fun c ob q n hc hx => by
    obtain ⟨sl, e1⟩ := a.slot c ob q n hc hx
    obtain ⟨sl', e2⟩ := b.slot c _ e1 (a.free c ob q n hx) hc hx
    exact ⟨sl', e2⟩
  free := fun c ob q n hx => by
    obtain ⟨o', e1⟩ := a.there c ob q hx
    exact b.free c o' e1 (a.free c ob q n hx) hx
  there := fun c ob q hx => by
    obtain ⟨o', e1⟩ := a.there c ob q hx
    exact b.there c o' e1 hx
  tups := fun c xs q => b.tups c xs (a.tups c xs q)
  frzs := fun c ob xs q => b.frzs c ob xs (a.frzs c ob xs q)
  tbls := fun c ps q => by
    obtain ⟨m1, e1⟩ := a.tbls c ps q
    obtain ⟨m2, e2⟩ := b.tbls c _ e1
    exact ⟨m1 ++ m2, by rw [e2, Array.append_assoc]⟩
theorem Un.kept (k : ∀ b u, h.get? b = some u → h'.get? b = some u) : Un fs ex H H h h' :=
  ⟨fun b ob q _ _ _ => k b ob q, fun b ob q _ _ _ => ⟨ob.slots, k b ob q⟩, fun _ _ _ n _ => n, fun b ob q _ => ⟨ob, k b ob q⟩, fun _ _ q => q, fun _ _ _ q => q, fun _ ps q => ⟨#[], by rw [q]; simp⟩⟩
theorem Un.refl : Un fs ex H H h h := Un.kept fun _ _ q => q
theorem Un.laid (k : ∀ b u, h.get? b = some u → h'.get? b = some u) (hp : h.objs.size ≤ a) (hn : H a = none) : Un fs ex H (upd H a o) h h' where
  keep := fun b u q _ _ _ => k b u q
  slot := fun b u q _ _ _ => ⟨u.slots, k b u q⟩
  free := fun b u q n _ => by rw [upd_ne (Nat.ne_of_lt (Nat.lt_of_lt_of_le (Heap.lt_size q) hp))]; exact n
  there := fun b u q _ => ⟨u, k b u q⟩
  tups := fun b xs q => by rw [upd_ne (ne_of_none q hn)]; exact q
  frzs := fun b u xs q => by rw [upd_ne (ne_of_none q hn)]; exact q
  tbls := fun b ps q => ⟨#[], by rw [upd_ne (ne_of_none q hn), q]; simp⟩
theorem Un.write (mu : Mut (H x)) (he : e = x ∨ H e = some (.own x)) (k : ∀ b u, b ≠ e → h.get? b = some u → h'.get? b = some u) (heo : ∃ u, h'.get? e = some u) : Un fs ex H (upd H x o) h h' := by
  have hx : ∀ b, H b = none → b ≠ x := fun b n z => by subst z; rw [n] at mu; exact mu
  have hb : ∀ b, H b = none → b ≠ e := fun b n z => by
    subst z
    rcases he with r | r
    · exact hx b n r
    · rw [n] at r; cases r
  have hm : ∀ b u, H b = some u → ¬ Mut (some u) → b ≠ x := fun b u q nm z => by subst z; rw [q] at mu; exact nm mu
  refine ⟨fun b u q n _ _ => k b u (hb b n) q, fun b u q n _ _ => ⟨u.slots, k b u (hb b n) q⟩, fun b u q n _ => by rw [upd_ne (hx b n)]; exact n, fun b u q _ => ?_,
    fun b xs q => by rw [upd_ne (hm b _ q fun z => z)]; exact q, fun b u xs q => by rw [upd_ne (hm b _ q fun z => z)]; exact q, fun b ps q => ⟨#[], by rw [upd_ne (hm b _ q fun z => z), q]; simp⟩⟩
  by_cases hbe : b = e
  · subst hbe; exact heo
  · exact ⟨u, k b u hbe q⟩
theorem Un.mono (u : Un fs ex H H1 h h1) (hs : ∀ b ∈ fs, b ∈ fs') (hx : ∀ b ∈ ex, b ∈ ex') : Un fs' ex' H H1 h h1 :=
  ⟨fun b ob q n hb he => u.keep b ob q n (fun z => hb (hs b z)) fun z => he (hx b z), fun _ _ q n _ he => u.any q n fun z => he (hx _ z), fun b ob q n he => u.free b ob q n fun z => he (hx b z), fun b ob q he => u.there b ob q fun z => he (hx b z), u.tups, u.frzs, u.tbls⟩
end

/-! ### the heap without what is tracked -/
def trk (h : Heap) (H : Hp) : List Addr := (List.range h.objs.size).filter fun a => (H a).isSome
def hidT (h : Heap) (H : Hp) : Heap := PySem.W.hideAll h (trk h H)
theorem hidT_size (h : Heap) (H : Hp) : (hidT h H).objs.size = h.objs.size := PySem.W.hideAll_size _ _
theorem hidT_get {h : Heap} {H : Hp} {b : Addr} {o : Obj} (e : h.get? b = some o) (n : H b = none) : (hidT h H).get? b = some o :=
  PySem.W.hideAll_get _ e fun hm => by
    have q : (H b).isSome = true := (List.mem_filter.mp hm).2
    rw [n] at q; simp at q
theorem of_hidT {h : Heap} {H : Hp} {b : Addr} {o : Obj} (e : (hidT h H).get? b = some o) : h.get? b = some o ∧ H b = none := by
  have e' : h.get? b = some o := PySem.W.of_hideAll (trk h H) e
  refine ⟨e', ?_⟩
  cases q : H b with
  | none => rfl
  | some x =>
    have hm : b ∈ trk h H := List.mem_filter.mpr ⟨List.mem_range.mpr (Heap.lt_size e'), by simp [q]⟩
    have z : (hidT h H).get? b = none := PySem.W.hideAll_none (trk h H) hm
    rw [z] at e; cases e

/-! ### OpenK's ledger, filled with every new object but one -/
def allNews (g h : Heap) (L : Addr) : List (Addr × Obj) := (List.range h.objs.size).filterMap fun a => if a = L ∨ (g.get? a).isSome = true then none else (h.get? a).map fun o => (a, o)
def rest (g h : Heap) (L d : Addr) : List (Addr × Obj) := (allNews g h L).filter fun p => decide (p.1 ≠ d)
end L2

namespace L2
open PySem PySem.Spec PyProof.Rows

/-- the module's facts, over the base: the heap at the law's entry without what is tracked there -/
structure Mod (K : PySem.W.Frag) (mg : Str → Option Value) (base : Heap) : Prop where
  kin : K.In base
  glob : base.Ns mainGlobals mg
  blt : ∃ mb, base.Ns builtinsNs mb ∧ ∀ x : Str, x ≠ "__name__" → mb x = bootBuiltins x
  nolimit : base.NoLimit

/-- the context: a def's body (or a comprehension's block) running. base: fixed through the whole law; s₀, H₀: the entry; outer: the frames whose slots others may change (a def's callers); stack: all frames that run;
   ex: iterators that were made ahead of the entry and are walked here (a comprehension's); fn: the names whose cells were made at the entry (a def: all; a comprehension's block: its own); calm: not within an except suite; pn: pins that every state bears; xe: what is wanted of an exception that leaves the code -/
structure Cx where
  prog : Program
  w : World
  K : PySem.W.Frag
  mg : Str → Option Value
  base : Heap
  A : Around
  N : List Str
  s₀ : Shared
  H₀ : Hp
  env : Env
  outer : List Env
  stack : List Env
  ex : List Addr
  fn : Str → Bool
  calm : Bool
  pn : List (Addr × Obj)
  xe : Value → Shared → Prop
/-- the callers' frames -/
def frs (l : List Env) : List Addr := l.filterMap (·.frame)
abbrev Cx.fs (X : Cx) : List Addr := frs X.outer

def Vis (sc : Scope) (x : Str) : Prop := sc.names.lookup x = some .local ∨ sc.names.lookup x = some .cell ∨ sc.names.lookup x = some .free
def Loc (sc : Scope) (x : Str) : Prop := sc.names.lookup x = some .local ∨ sc.names.lookup x = some .cell
def Look (env : Env) (h : Heap) (m : Str → Option Value) (x : Str) (u : Value) : Prop :=
  (env.kindOf x = some .local ∧ m x = some u) ∨ ((env.kindOf x = some .cell ∨ env.kindOf x = some .free) ∧ ∃ c, env.cells.lookup x = some c ∧ h.IsCell c (some u))

structure Cx.Ok (X : Cx) : Prop where
  mod : Mod X.K X.mg X.base
  kind : X.env.scope.kind = .function
  glob : X.env.globals = mainGlobals
  blt : X.env.builtins = builtinsNs
  above : X.s₀.heap.objs.size ≤ X.env.locals
  inj : ∀ x y c, X.env.cells.lookup x = some c → X.env.cells.lookup y = some c → x = y
  has : ∀ x, (X.env.kindOf x = some .cell ∨ X.env.kindOf x = some .free) → ∃ c, X.env.cells.lookup x = some c
  cab : ∀ x c, X.fn x = true → X.env.cells.lookup x = some c → X.s₀.heap.objs.size ≤ c
  hd : X.calm = true → X.A.handled = none
  frames : X.A.frames = some X.stack
  stk : X.stack = X.outer ∨ (X.stack = X.env :: X.outer ∧ X.env.frame = some X.env.locals)
  exf : ∀ b ∈ X.ex, b ≠ X.env.locals ∧ ∀ x c, X.env.cells.lookup x = some c → c ≠ b
  bs : ∀ b o, X.base.get? b = some o → X.s₀.heap.get? b = some o ∧ X.H₀ b = none
  bsz : X.base.objs.size ≤ X.s₀.heap.objs.size
  noex : ∀ b o, X.base.get? b = some o → b ∉ X.ex
  exfs : ∀ b ∈ X.ex, b ∉ X.fs
  funs : X.s₀.heap.FunFrames X.base X.outer
  frf : ∀ b ∈ X.fs, X.H₀ b = none

structure Inv (X : Cx) (pins : List (Addr × Obj)) (σ : List (Option V)) (H : Hp) (s : Shared) : Prop where
  ok : X.Ok
  os : s.os = X.s₀.os
  bare : AllBare s.gens
  base : Un X.fs X.ex X.H₀ H X.s₀.heap s.heap
  loc : ∃ m, s.heap.Ns X.env.locals m ∧ ∀ (i : Nat) (x : Str) (v : V), X.N[i]? = some x → σ[i]? = some (some v) → Vis X.env.scope x → ∃ u, RelV v u ∧ Look X.env s.heap m x u
  cell : ∀ x c, X.env.cells.lookup x = some c → ∃ v, s.heap.IsCell c v
  free : H X.env.locals = none
  freeC : ∀ x c, X.env.cells.lookup x = some c → H c = none
  pin : ∀ p ∈ X.pn ++ pins, s.heap.get? p.1 = some p.2 ∧ H p.1 = none ∧ p.1 ≠ X.env.locals ∧ p.1 ∉ X.fs ∧ ∀ v, p.2.data ≠ .cell v
  hok : HOk X.prog X.w H s.heap
  len : σ.length = X.N.length

section
variable {X : Cx} {pins : List (Addr × Obj)} {σ : List (Option V)} {H H' : Hp} {s : Shared} {h' : Heap}

theorem Cx.Ok.nofr (ok : X.Ok) {b : Addr} {o : Obj} (e : X.base.get? b = some o) : b ∉ X.fs := fun hb => by
  have := (ok.funs.mem hb).1
  rw [e] at this; cases this
theorem Inv.bs (I : Inv X pins σ H s) : ∀ b o, X.base.get? b = some o → s.heap.get? b = some o ∧ H b = none := fun b o e =>
  ⟨I.base.keep b o (I.ok.bs b o e).1 (I.ok.bs b o e).2 (I.ok.nofr e) (I.ok.noex b o e), I.base.free b o (I.ok.bs b o e).1 (I.ok.bs b o e).2 (I.ok.noex b o e)⟩
theorem Inv.bk (I : Inv X pins σ H s) : ∀ b o, X.base.get? b = some o → s.heap.get? b = some o := fun b o e => (I.bs b o e).1
theorem Inv.mod (I : Inv X pins σ H s) : Mod X.K X.mg X.base := I.ok.mod
theorem Inv.kIn (I : Inv X pins σ H s) : X.K.In s.heap := I.ok.mod.kin.keeps I.bk
theorem Inv.nolimit (I : Inv X pins σ H s) : s.heap.NoLimit := I.ok.mod.nolimit.keeps I.bk
/-- the frame over the base: for OpenK's rules (K.In X.base is I.mod.kin) -/
theorem Inv.fr (I : Inv X pins σ H s) : ∃ m, Fr X.base X.env.locals s.heap m :=
  let ⟨m, hn, _⟩ := I.loc
  ⟨m, hn, I.bk, Nat.le_trans I.ok.bsz I.ok.above⟩
theorem Inv.lt (I : Inv X pins σ H s) : X.env.locals < s.heap.objs.size := let ⟨_, hn, _⟩ := I.loc; hn.lt
theorem Inv.sz (I : Inv X pins σ H s) : X.s₀.heap.objs.size ≤ s.heap.objs.size := Nat.le_trans I.ok.above (Nat.le_of_lt I.lt)
theorem Inv.nofs (I : Inv X pins σ H s) {a : Addr} (h : s.heap.objs.size ≤ a) : a ∉ X.fs := fun hb => by
  obtain ⟨_, o, ho, _⟩ := I.ok.funs.mem hb
  exact absurd (Nat.lt_of_lt_of_le (Heap.lt_size ho) (Nat.le_trans I.sz h)) (Nat.lt_irrefl _)
theorem Inv.cne (I : Inv X pins σ H s) : ∀ x c, X.env.cells.lookup x = some c → c ≠ X.env.locals := fun x c e z => by
  obtain ⟨v, o, ho, hd⟩ := I.cell x c e
  obtain ⟨m, ⟨o', es, ep, ho', hd', _⟩, _⟩ := I.loc
  rw [z, ho'] at ho; cases ho; rw [hd'] at hd; cases hd
theorem Inv.funs (I : Inv X pins σ H s) : s.heap.FunFrames X.base X.outer := by
  have all : ∀ (l : List Env), (∀ b ∈ frs l, b ∈ X.fs) → X.s₀.heap.FunFrames X.base l → s.heap.FunFrames X.base l := by
    intro l
    induction l with
    | nil => intro _ _; trivial
    | cons env r ih =>
      intro hs hl
      obtain ⟨hk, ⟨L, o, hf, hn, ho, hd⟩, hr⟩ := hl
      have hL : L ∈ X.fs := hs L (by unfold frs; rw [List.filterMap_cons, hf]; exact List.mem_cons_self)
      obtain ⟨sl, e⟩ := I.base.slot L o ho (I.ok.frf L hL) hL fun z => I.ok.exfs L z hL
      exact ⟨hk, ⟨L, _, hf, hn, e, hd⟩, ih (fun b hb => hs b (by unfold frs; rw [List.filterMap_cons, hf]; exact List.mem_cons_of_mem _ hb)) hr⟩
  exact all X.outer (fun _ hb => hb) I.ok.funs

/-- the frames that run, for a call -/
theorem Inv.stack (I : Inv X pins σ H s) : s.heap.FunFrames X.base X.stack := by
  rcases I.ok.stk with e | ⟨e, hf⟩
  · rw [e]; exact I.funs
  · rw [e]
    obtain ⟨m, hn, _⟩ := I.loc
    refine .cons (by rw [I.ok.kind]; decide) hf hn ?_ I.funs
    exact Heap.get?_none_of_le (Nat.le_trans I.ok.bsz I.ok.above)
theorem Inv.stkSub (I : Inv X pins σ H s) : ∀ b ∈ frs X.stack, b ∈ X.env.locals :: X.fs := fun b hb => by
  rcases I.ok.stk with e | ⟨e, hf⟩
  · rw [e] at hb; exact List.mem_cons_of_mem _ hb
  · rw [e] at hb
    unfold frs at hb
    rw [List.filterMap_cons, hf] at hb
    exact hb
theorem Inv.stkFree (I : Inv X pins σ H s) : ∀ b ∈ frs X.stack, H b = none := fun b hb => by
  rcases List.mem_cons.mp (I.stkSub b hb) with e | hb
  · rw [e]; exact I.free
  · obtain ⟨_, o, ho, _⟩ := I.ok.funs.mem hb
    exact I.base.free b o ho (I.ok.frf b hb) fun z => I.ok.exfs b z hb

/-- THE STEP: the untracked objects but the frame and the records at ch are kept (the callers' frames up to slots), the frame's map is kept, the new abstract heap is held -/
theorem Inv.step {g' : Array GenState} {t' : Nat} {d' : Drawn} {ch : List Addr} (I : Inv X pins σ H s)
    (hch : ∀ b ∈ ch, (b ∈ X.ex ∨ X.s₀.heap.objs.size ≤ b) ∧ b ≠ X.env.locals ∧ (∀ x c, X.env.cells.lookup x = some c → c ≠ b) ∧ ∀ p ∈ X.pn ++ pins, p.1 ≠ b)
    (keep : ∀ b o, b ≠ X.env.locals → b ∉ X.fs → b ∉ ch → s.heap.get? b = some o → H b = none → h'.get? b = some o)
    (slot : ∀ b o, b ≠ X.env.locals → b ∈ X.fs → b ∉ ch → s.heap.get? b = some o → H b = none → ∃ sl, h'.get? b = some { o with slots := sl }) (free : ∀ b o, b ∉ ch → s.heap.get? b = some o → H b = none → H' b = none)
    (there : ∀ b o, b ∉ ch → s.heap.get? b = some o → ∃ o', h'.get? b = some o')
    (tups : ∀ b xs, H b = some (.tup xs) → H' b = some (.tup xs)) (frzs : ∀ b o u, H b = some (.frz o u) → H' b = some (.frz o u)) (tbls : ∀ b ps, H b = some (.tbl ps) → ∃ more, H' b = some (.tbl (ps ++ more)))
    (ns : ∀ m, s.heap.Ns X.env.locals m → h'.Ns X.env.locals m) (hok : HOk X.prog X.w H' h') (hg : AllBare g') :
    Inv X pins σ H' { s with heap := h', gens := g', drawn := d', toks := t' } := by
  have neL : ∀ b o, X.s₀.heap.get? b = some o → b ≠ X.env.locals := fun b o e => Nat.ne_of_lt (Nat.lt_of_lt_of_le (Heap.lt_size e) I.ok.above)
  have neC : ∀ b o, X.s₀.heap.get? b = some o → b ∉ X.ex → b ∉ ch := fun b o e hx hb => by
    rcases (hch b hb).1 with z | z
    · exact hx z
    · exact absurd (Nat.lt_of_lt_of_le (Heap.lt_size e) z) (Nat.lt_irrefl _)
  have cellK : ∀ x c, X.env.cells.lookup x = some c → ∀ v, s.heap.IsCell c v → h'.IsCell c v := fun x c e v ⟨o, ho, hd⟩ => by
    have nch : c ∉ ch := fun z => (hch c z).2.2.1 x c e rfl
    by_cases hc : c ∈ X.fs
    · obtain ⟨sl, q⟩ := slot c o (I.cne x c e) hc nch ho (I.freeC x c e)
      exact ⟨_, q, hd⟩
    · exact ⟨o, keep c o (I.cne x c e) hc nch ho (I.freeC x c e), hd⟩
  refine ⟨I.ok, I.os, hg, ⟨fun b o e n hb hx => ?_, fun b o e n hb hx => ?_, fun b o e n hx => ?_, fun b o e hx => ?_, fun b xs e => tups b xs (I.base.tups b xs e), fun b o xs e => frzs b o xs (I.base.frzs b o xs e), fun b ps e => ?_⟩, ?_, fun x c e => ?_, ?_, fun x c e => ?_, fun p hp => ?_, hok, I.len⟩
  · exact keep b o (neL b o e) hb (neC b o e hx) (I.base.keep b o e n hb hx) (I.base.free b o e n hx)
  · obtain ⟨sl, e1⟩ := I.base.slot b o e n hb hx
    obtain ⟨sl', e2⟩ := slot b _ (neL b o e) hb (neC b o e hx) e1 (I.base.free b o e n hx)
    exact ⟨sl', e2⟩
  · obtain ⟨o', e1⟩ := I.base.there b o e hx
    exact free b o' (neC b o e hx) e1 (I.base.free b o e n hx)
  · obtain ⟨o', e1⟩ := I.base.there b o e hx
    exact there b o' (neC b o e hx) e1
  · obtain ⟨m1, e1⟩ := I.base.tbls b ps e
    obtain ⟨m2, e2⟩ := tbls b _ e1
    exact ⟨m1 ++ m2, by rw [e2, Array.append_assoc]⟩
  · obtain ⟨m, hn, hl⟩ := I.loc
    refine ⟨m, ns m hn, fun i x v e1 e2 e3 => ?_⟩
    obtain ⟨u, r, l⟩ := hl i x v e1 e2 e3
    refine ⟨u, r, ?_⟩
    rcases l with l | ⟨k, c, e, z⟩
    · exact .inl l
    · exact .inr ⟨k, c, e, cellK x c e _ z⟩
  · obtain ⟨v, z⟩ := I.cell x c e
    exact ⟨v, cellK x c e v z⟩
  · obtain ⟨m, ⟨o, _, _, ho, _⟩, _⟩ := I.loc
    exact free _ o (fun z => (hch _ z).2.1 rfl) ho I.free
  · obtain ⟨v, o, ho, hd⟩ := I.cell x c e
    exact free c o (fun z => (hch c z).2.2.1 x c e rfl) ho (I.freeC x c e)
  · obtain ⟨e, n, ne, nf, d⟩ := I.pin p hp
    have nch : p.1 ∉ ch := fun z => (hch p.1 z).2.2.2 p hp rfl
    exact ⟨keep p.1 p.2 ne nf nch e n, free p.1 p.2 nch e n, ne, nf, d⟩
/-- .. where the frame's own object is kept too -/
theorem Inv.un {t' : Nat} (I : Inv X pins σ H s) (u : Un X.fs [] H H' s.heap h') (hok : HOk X.prog X.w H' h') : Inv X pins σ H' { s with heap := h', toks := t' } := by
  obtain ⟨m, ⟨o, es, ep, ho, r⟩, _⟩ := id I.loc
  obtain ⟨sl, hL⟩ := u.any ho I.free (by simp)
  exact I.step (g' := s.gens) (d' := s.drawn) (ch := []) (fun _ z => nomatch z) (fun b o _ hb _ e n => u.keep b o e n hb (by simp)) (fun b o _ hb _ e n => u.slot b o e n hb (by simp)) (fun b o _ e n => u.free b o e n (by simp)) (fun b o _ e => u.there b o e (by simp)) u.tups u.frzs u.tbls (fun m' hm => by
    obtain ⟨o', es', ep', ho', r'⟩ := hm
    rw [ho] at ho'; cases ho'
    exact ⟨_, es', ep', hL, r'⟩) hok I.bare
/-- behind a call (or a comprehension's block): the slots of this frame may have changed too, the records at ch may have turned -/
theorem Inv.call {g' : Array GenState} {t' : Nat} {d' : Drawn} {ch : List Addr} (I : Inv X pins σ H s) (u : Un (frs X.stack) ch H H' s.heap h') (hok : HOk X.prog X.w H' h') (hg : AllBare g')
    (hch : ∀ b ∈ ch, (b ∈ X.ex ∨ X.s₀.heap.objs.size ≤ b) ∧ b ≠ X.env.locals ∧ (∀ x c, X.env.cells.lookup x = some c → c ≠ b) ∧ ∀ p ∈ X.pn ++ pins, p.1 ≠ b) :
    Inv X pins σ H' { s with heap := h', gens := g', drawn := d', toks := t' } := by
  obtain ⟨m, ⟨o, es, ep, ho, r⟩, _⟩ := id I.loc
  obtain ⟨sl, hL⟩ := u.any ho I.free fun z => (hch _ z).2.1 rfl
  exact I.step (ch := ch) hch (fun b o hL hb hc e n => u.keep b o e n (fun z => (List.mem_cons.mp (I.stkSub b z)).elim hL hb) hc) (fun b o _ _ hc e n => u.any e n hc) (fun b o hc e n => u.free b o e n hc) (fun b o hc e => u.there b o e hc) u.tups u.frzs u.tbls (fun m' hm => by
    obtain ⟨o', es', ep', ho', r'⟩ := hm
    rw [ho] at ho'; cases ho'
    exact ⟨_, es', ep', hL, r'⟩) hok hg
/-- an untracked record of ours (an iterator) has turned -/
theorem Inv.turned {t' : Nat} {it : Addr} (I : Inv X pins σ H s) (k : ∀ b o, b ≠ it → s.heap.get? b = some o → h'.get? b = some o) (hn : H it = none) (hL : it ≠ X.env.locals)
    (h1 : it ∈ X.ex ∨ X.s₀.heap.objs.size ≤ it) (h2 : ∀ x c, X.env.cells.lookup x = some c → c ≠ it) (h3 : ∀ p ∈ X.pn ++ pins, p.1 ≠ it) : Inv X pins σ H { s with heap := h', toks := t' } := by
  have nit : ∀ b u, H b = some u → b ≠ it := fun b u e z => by rw [z, hn] at e; cases e
  refine I.step (g' := s.gens) (d' := s.drawn) (ch := [it]) (fun b hb => ?_) (fun b o _ _ hc e _ => k b o (fun z => hc (by simp [z])) e) (fun b o _ _ hc e _ => ⟨o.slots, k b o (fun z => hc (by simp [z])) e⟩) (fun _ _ _ _ n => n)
    (fun b o hc e => ⟨o, k b o (fun z => hc (by simp [z])) e⟩) (fun _ _ e => e) (fun _ _ _ e => e) (fun b ps e => ⟨#[], by rw [e]; simp⟩) (fun m hm => ?_) (fun b u e => ?_) I.bare
  · have e : b = it := by simpa using hb
    subst e
    exact ⟨h1, hL, h2, h3⟩
  · obtain ⟨o, es, ep, ho, r⟩ := hm
    exact ⟨o, es, ep, k _ o (Ne.symm hL) ho, r⟩
  · refine (I.hok b u e).stay (fun c v hc q => k c v ?_ q) (fun _ q => q) fun _ _ q => q
    rcases hc with z | z
    · rw [z]; exact nit b u e
    · exact nit c _ z
theorem Inv.tok (I : Inv X pins σ H s) (t : Nat) : Inv X pins σ H { s with toks := t } := I.un (h' := s.heap) (t' := t) Un.refl I.hok
/-- all objects kept -/
theorem Inv.kept {t' : Nat} (I : Inv X pins σ H s) (k : ∀ b u, s.heap.get? b = some u → h'.get? b = some u) : Inv X pins σ H { s with heap := h', toks := t' } := I.un (Un.kept k) (I.hok.kept k)
/-- a new object laid and tracked -/
theorem Inv.laid {a : Addr} {o : HO} {t' : Nat} (I : Inv X pins σ H s) (k : ∀ b u, s.heap.get? b = some u → h'.get? b = some u) (hp : s.heap.objs.size ≤ a) (new : ObjOk X.prog X.w (upd H a o) h' a o) :
    Inv X pins σ (upd H a o) { s with heap := h', toks := t' } := I.un (Un.laid k hp (I.hok.fresh hp)) (I.hok.laid k hp new)
/-- an object written -/
theorem Inv.write {x e : Addr} {o : HO} {t' : Nat} (I : Inv X pins σ H s) (mu : Mut (H x)) (he : e = x ∨ H e = some (.own x)) (k : ∀ b u, b ≠ e → s.heap.get? b = some u → h'.get? b = some u) (heo : ∃ u, h'.get? e = some u)
    (new : ObjOk X.prog X.w (upd H x o) h' x o) : Inv X pins σ (upd H x o) { s with heap := h', toks := t' } := I.un (Un.write mu he k heo) (I.hok.write mu he k heo new)
theorem Inv.pins_of {pins' : List (Addr × Obj)} (I : Inv X pins σ H s) (h : ∀ p ∈ pins', s.heap.get? p.1 = some p.2 ∧ H p.1 = none ∧ p.1 ≠ X.env.locals ∧ p.1 ∉ X.fs ∧ ∀ v, p.2.data ≠ .cell v) : Inv X pins' σ H s :=
  ⟨I.ok, I.os, I.bare, I.base, I.loc, I.cell, I.free, I.freeC, fun p hp => (List.mem_append.mp hp).elim (fun z => I.pin p (List.mem_append_left _ z)) (h p), I.hok, I.len⟩

theorem nodup_ix {N : List Str} (hN : N.Nodup) {i j : Nat} {x : Str} (a : N[i]? = some x) (b : N[j]? = some x) : i = j := by
  obtain ⟨h1, e1⟩ := List.getElem?_eq_some_iff.mp a
  obtain ⟨h2, e2⟩ := List.getElem?_eq_some_iff.mp b
  exact (List.getElem_inj hN).mp (e1.trans e2.symm)

/-- a name is stored; what changed -/
theorem store_ok2 {M : Model} {A : Around} {E : Value → Shared → Prop} {i : Nat} {x : Str} {v : V} {u : Value} {Q : Unit → Shared → Prop} (I : Inv X pins σ H s) (hN : X.N.Nodup) (hi : X.N[i]? = some x) (hx : Loc X.env.scope x) (r : RelV v u)
    (h : ∀ s', Inv X pins (σ.set i (some v)) H s' → (∃ a, Heap.SameBut a s.heap s'.heap ∧ (a = X.env.locals ∨ X.env.cells.lookup x = some a)) → Q () s') (hf : X.fn x = true ∨ X.env.scope.names.lookup x = some .local := by first | exact .inl rfl | exact .inr rfl | assumption) : wpAny M A (storeName X.env x u) Q E s := by
  obtain ⟨m, hn, hl⟩ := id I.loc
  have hcls : (X.env.scope.kind == .class || (X.env.scope.kind == .module && X.env.locals != X.env.globals)) = false := by rw [I.ok.kind]; rfl
  have hiσ : i < σ.length := by rw [I.len]; exact (List.getElem?_eq_some_iff.mp hi).1
  have cne := I.cne
  have tracked : ∀ {a : Addr} {h' : Heap}, (∃ o, s.heap.get? a = some o ∧ H a = none) → Heap.SameBut a s.heap h' → HOk X.prog X.w H h' := fun {a h'} ha hs b ob e => by
    obtain ⟨_, _, hfree⟩ := ha
    refine (I.hok b ob e).stay (fun c w' hc q => (hs.2 c ?_).trans q) (fun _ q => q) fun _ _ q => q
    rintro rfl
    rcases hc with rfl | hc
    · rw [hfree] at e; cases e
    · rw [hfree] at hc; cases hc
  rcases hx with hk | hk
  · refine wpAny_storeName_local hk hn (fun h' hn' hs => ?_) hcls
    obtain ⟨oL, _, _, hoL, _⟩ := id hn
    refine h _ ⟨I.ok, I.os, I.bare, ⟨fun b o e n hb hx => ?_, fun b o e n hb hx => ?_, I.base.free, fun b o e hx => ?_, I.base.tups, I.base.frzs, I.base.tbls⟩, ⟨_, hn', fun j y v' e1 e2 e3 => ?_⟩, fun y c e => ?_, I.free, I.freeC, fun p hp => ?_, tracked ⟨oL, hoL, I.free⟩ hs, by simpa using I.len⟩ ⟨_, hs, .inl rfl⟩
    · exact (hs.2 b (Nat.ne_of_lt (Nat.lt_of_lt_of_le (Heap.lt_size e) I.ok.above))).trans (I.base.keep b o e n hb hx)
    · obtain ⟨sl, e1⟩ := I.base.slot b o e n hb hx
      exact ⟨sl, (hs.2 b (Nat.ne_of_lt (Nat.lt_of_lt_of_le (Heap.lt_size e) I.ok.above))).trans e1⟩
    · obtain ⟨o', e1⟩ := I.base.there b o e hx
      exact ⟨o', (hs.2 b (Nat.ne_of_lt (Nat.lt_of_lt_of_le (Heap.lt_size e) I.ok.above))).trans e1⟩
    · by_cases hj : j = i
      · subst hj
        rw [hi] at e1; cases e1
        rw [List.getElem?_set_self hiσ] at e2
        cases e2
        exact ⟨u, r, .inl ⟨hk, by simp⟩⟩
      · rw [List.getElem?_set_ne (Ne.symm hj)] at e2
        obtain ⟨u', r', q⟩ := hl j y v' e1 e2 e3
        refine ⟨u', r', ?_⟩
        rcases q with ⟨k, e⟩ | ⟨k, c, e, z⟩
        · refine .inl ⟨k, ?_⟩
          have : y ≠ x := fun e => hj (nodup_ix hN e1 (e ▸ hi))
          simp [this, e]
        · exact .inr ⟨k, c, e, z.sameBut hs (cne y c e)⟩
    · obtain ⟨w', z⟩ := I.cell y c e
      exact ⟨w', z.sameBut hs (cne y c e)⟩
    · obtain ⟨e, n, ne, nf, d⟩ := I.pin p hp
      exact ⟨(hs.2 p.1 ne).trans e, n, ne, nf, d⟩
  · have hfn : X.fn x = true := by
      rcases hf with z | z
      · exact z
      · rw [z] at hk; cases hk
    obtain ⟨c, hc⟩ := I.ok.has x (.inl hk)
    obtain ⟨w', z⟩ := I.cell x c hc
    refine wpAny_storeName_cell I.ok.kind hk hc z (fun h' hc' hs => ?_)
    obtain ⟨oc, hoc, hocd⟩ := id z
    refine h { s with heap := h' } ⟨I.ok, I.os, I.bare, ⟨fun b o e n hb hx => ?_, fun b o e n hb hx => ?_, I.base.free, fun b o e hx => ?_, I.base.tups, I.base.frzs, I.base.tbls⟩, ⟨m, hn.sameBut hs (Ne.symm (cne x c hc)), fun j y v' e1 e2 e3 => ?_⟩, fun y c' e => ?_, I.free, I.freeC, fun p hp => ?_, tracked ⟨oc, hoc, I.freeC x c hc⟩ hs, by simpa using I.len⟩ ⟨c, hs, .inr hc⟩
    · exact (hs.2 b (Nat.ne_of_lt (Nat.lt_of_lt_of_le (Heap.lt_size e) (I.ok.cab x c hfn hc)))).trans (I.base.keep b o e n hb hx)
    · obtain ⟨sl, e1⟩ := I.base.slot b o e n hb hx
      exact ⟨sl, (hs.2 b (Nat.ne_of_lt (Nat.lt_of_lt_of_le (Heap.lt_size e) (I.ok.cab x c hfn hc)))).trans e1⟩
    · obtain ⟨o', e1⟩ := I.base.there b o e hx
      exact ⟨o', (hs.2 b (Nat.ne_of_lt (Nat.lt_of_lt_of_le (Heap.lt_size e) (I.ok.cab x c hfn hc)))).trans e1⟩
    · by_cases hj : j = i
      · subst hj
        rw [hi] at e1; cases e1
        rw [List.getElem?_set_self hiσ] at e2
        cases e2
        exact ⟨u, r, .inr ⟨.inl hk, c, hc, hc'⟩⟩
      · rw [List.getElem?_set_ne (Ne.symm hj)] at e2
        obtain ⟨u', r', q⟩ := hl j y v' e1 e2 e3
        refine ⟨u', r', ?_⟩
        rcases q with q | ⟨k, c', e, z'⟩
        · exact .inl q
        · refine .inr ⟨k, c', e, z'.sameBut hs ?_⟩
          rintro rfl
          exact hj (nodup_ix hN e1 (I.ok.inj _ _ _ e hc ▸ hi))
    · by_cases hcc : c' = c
      · subst hcc; exact ⟨_, hc'⟩
      · obtain ⟨w2, z2⟩ := I.cell y c' e
        exact ⟨w2, z2.sameBut hs hcc⟩
    · obtain ⟨e, n, ne, nf, d⟩ := I.pin p hp
      refine ⟨(hs.2 p.1 ?_).trans e, n, ne, nf, d⟩
      intro q
      rw [q, hoc] at e
      have q' : oc = p.2 := Option.some.inj e
      exact d w' (by rw [← q']; exact hocd)
theorem store_ok {M : Model} {A : Around} {E : Value → Shared → Prop} {i : Nat} {x : Str} {v : V} {u : Value} {Q : Unit → Shared → Prop} (I : Inv X pins σ H s) (hN : X.N.Nodup) (hi : X.N[i]? = some x) (hx : Loc X.env.scope x) (r : RelV v u)
    (h : ∀ s', Inv X pins (σ.set i (some v)) H s' → Q () s') (hf : X.fn x = true ∨ X.env.scope.names.lookup x = some .local := by first | exact .inl rfl | exact .inr rfl | assumption) : wpAny M A (storeName X.env x u) Q E s :=
  store_ok2 I hN hi hx r (fun s' I' _ => h s' I') hf
/-- behind a call or a block, the state as it is -/
theorem Inv.call' {s' : Shared} {ch : List Addr} (I : Inv X pins σ H s) (ho : s'.os = s.os) (u : Un (frs X.stack) ch H H' s.heap s'.heap) (hok : HOk X.prog X.w H' s'.heap) (hg : AllBare s'.gens)
    (hch : ∀ b ∈ ch, (b ∈ X.ex ∨ X.s₀.heap.objs.size ≤ b) ∧ b ≠ X.env.locals ∧ (∀ x c, X.env.cells.lookup x = some c → c ≠ b) ∧ ∀ p ∈ X.pn ++ pins, p.1 ≠ b) : Inv X pins σ H' s' := by
  obtain ⟨h', g', d', t', o'⟩ := s'
  have e : o' = s.os := ho
  subst e
  exact I.call (g' := g') (t' := t') (d' := d') u hok hg hch
end

/-! ### the judgements -/
/-- an exception: its class, its own dict's address (where it has one), the abstract heap behind it -/
abbrev XK := Value → Option Addr → Hp → Prop
abbrev St := List (Option V)
abbrev VK := V → Hp → Prop
/-- an expression's reading; a test's; an argument list's -/
abbrev TE := St → Hp → VK → Prop
abbrev TT := St → Hp → (Bool → Hp → Prop) → Prop
abbrev TA := St → Hp → (List V → Hp → Prop) → Prop
/-- what is wanted behind a statement -/
structure Ends where
  nx : St → Hp → Prop
  rt : VK
  bk : St → Hp → Prop := fun _ _ => False
  ct : St → Hp → Prop := fun _ _ => False
abbrev TS := Ends → St → Hp → Prop

def EP (X : Cx) (pins : List (Addr × Obj)) (σ : St) (Q : VK) (u : Value) (s' : Shared) : Prop := ∃ v H', Inv X pins σ H' s' ∧ RelV v u ∧ Q v H'
def TP (X : Cx) (pins : List (Addr × Obj)) (σ : St) (Q : Bool → Hp → Prop) (b : Bool) (s' : Shared) : Prop := ∃ H', Inv X pins σ H' s' ∧ Q b H'
def AP (X : Cx) (pins : List (Addr × Obj)) (σ : St) (Q : List V → Hp → Prop) (us : List Value) (s' : Shared) : Prop := ∃ vs H', Inv X pins σ H' s' ∧ Vals vs us ∧ Q vs H'
def SP (X : Cx) (pins : List (Addr × Obj)) (D : Ends) (f : Flow) (s' : Shared) : Prop :=
  match f with
  | .next => ∃ σ' H', Inv X pins σ' H' s' ∧ D.nx σ' H'
  | .brk => ∃ σ' H', Inv X pins σ' H' s' ∧ D.bk σ' H'
  | .cont => ∃ σ' H', Inv X pins σ' H' s' ∧ D.ct σ' H'
  | .ret u => ∃ v σ' H', Inv X pins σ' H' s' ∧ RelV v u ∧ D.rt v H'

structure PE (X : Cx) (e : Expr) (t : TE) : Prop where
  run : ∀ (pins : List (Addr × Obj)) (s : Shared) (σ : St) (H : Hp) (Q : VK), Inv X pins σ H s → t σ H Q → wpAny (model X.prog X.w) X.A (eval e X.env) (EP X pins σ Q) X.xe s
instance {X : Cx} {e : Expr} {t : TE} : CoeFun (PE X e t) fun _ => ∀ (pins : List (Addr × Obj)) (s : Shared) (σ : St) (H : Hp) (Q : VK), Inv X pins σ H s → t σ H Q → wpAny (model X.prog X.w) X.A (eval e X.env) (EP X pins σ Q) X.xe s := ⟨PE.run⟩
structure PT (X : Cx) (e : Expr) (t : TT) : Prop where
  run : ∀ (pins : List (Addr × Obj)) (s : Shared) (σ : St) (H : Hp) (Q : Bool → Hp → Prop), Inv X pins σ H s → t σ H Q → wpAny (model X.prog X.w) X.A (isTrue e X.env (eval e X.env)) (TP X pins σ Q) X.xe s
instance {X : Cx} {e : Expr} {t : TT} : CoeFun (PT X e t) fun _ => ∀ (pins : List (Addr × Obj)) (s : Shared) (σ : St) (H : Hp) (Q : Bool → Hp → Prop), Inv X pins σ H s → t σ H Q → wpAny (model X.prog X.w) X.A (isTrue e X.env (eval e X.env)) (TP X pins σ Q) X.xe s := ⟨PT.run⟩
/-- a test whatever its 'whole' is (and, or) -/
structure PW (X : Cx) (e : Expr) (t : TT) : Prop where
  run : ∀ (whole : Sem Value) (pins : List (Addr × Obj)) (s : Shared) (σ : St) (H : Hp) (Q : Bool → Hp → Prop), Inv X pins σ H s → t σ H Q → wpAny (model X.prog X.w) X.A (isTrue e X.env whole) (TP X pins σ Q) X.xe s
instance {X : Cx} {e : Expr} {t : TT} : CoeFun (PW X e t) fun _ => ∀ (whole : Sem Value) (pins : List (Addr × Obj)) (s : Shared) (σ : St) (H : Hp) (Q : Bool → Hp → Prop), Inv X pins σ H s → t σ H Q → wpAny (model X.prog X.w) X.A (isTrue e X.env whole) (TP X pins σ Q) X.xe s := ⟨PW.run⟩
theorem PW.pt {X : Cx} {e : Expr} {t : TT} (h : PW X e t) : PT X e t := ⟨h.run _⟩
/-- an argument list (no star), from the left -/
structure PA (X : Cx) (es : List Expr) (t : TA) : Prop where
  run : ∀ (pos : Pos) (pins : List (Addr × Obj)) (s : Shared) (σ : St) (H : Hp) (Q : List V → Hp → Prop), Inv X pins σ H s → t σ H Q → wpAny (model X.prog X.w) X.A (spliced (backTo pos (starEach es X.env))) (AP X pins σ Q) X.xe s
instance {X : Cx} {es : List Expr} {t : TA} : CoeFun (PA X es t) fun _ => ∀ (pos : Pos) (pins : List (Addr × Obj)) (s : Shared) (σ : St) (H : Hp) (Q : List V → Hp → Prop), Inv X pins σ H s → t σ H Q → wpAny (model X.prog X.w) X.A (spliced (backTo pos (starEach es X.env))) (AP X pins σ Q) X.xe s := ⟨PA.run⟩
structure PS (X : Cx) (st : Stmt) (t : TS) : Prop where
  run : ∀ (pins : List (Addr × Obj)) (s : Shared) (σ : St) (H : Hp) (D : Ends), Inv X pins σ H s → t D σ H → wpAny (model X.prog X.w) X.A (exec st X.env) (SP X pins D) X.xe s
instance {X : Cx} {st : Stmt} {t : TS} : CoeFun (PS X st t) fun _ => ∀ (pins : List (Addr × Obj)) (s : Shared) (σ : St) (H : Hp) (D : Ends), Inv X pins σ H s → t D σ H → wpAny (model X.prog X.w) X.A (exec st X.env) (SP X pins D) X.xe s := ⟨PS.run⟩
structure PSs (X : Cx) (st : List Stmt) (t : TS) : Prop where
  run : ∀ (pins : List (Addr × Obj)) (s : Shared) (σ : St) (H : Hp) (D : Ends), Inv X pins σ H s → t D σ H → wpAny (model X.prog X.w) X.A (execs st X.env) (SP X pins D) X.xe s
instance {X : Cx} {st : List Stmt} {t : TS} : CoeFun (PSs X st t) fun _ => ∀ (pins : List (Addr × Obj)) (s : Shared) (σ : St) (H : Hp) (D : Ends), Inv X pins σ H s → t D σ H → wpAny (model X.prog X.w) X.A (execs st X.env) (SP X pins D) X.xe s := ⟨PSs.run⟩
/-- weaken the end -/
theorem thn {α : Type} {t : Sem α} {Q Q' : α → Shared → Prop} {M : Model} {A : Around} {E : Value → Shared → Prop} {s : Shared} (h : wpAny M A t Q E s) (hQ : ∀ a s, Q a s → Q' a s) : wpAny M A t Q' E s := wpAny_mono h hQ fun _ _ x => x
end L2

namespace L2
open PySem PySem.Spec PyProof.Rows
section
variable {X : Cx}

/-! ### names and constants -/
def tVar (i : Nat) : TE := fun σ H Q => ∃ v, σ[i]? = some (some v) ∧ Q v H
def tC (v : V) : TE := fun _ H Q => Q v H
theorem pe_var {i : Nat} {x : Str} {pos : Pos} (hN : X.N[i]? = some x) (hv : Vis X.env.scope x) (hd : (x == ("__debug__" : Str)) = false := by decide) (hcd : (x == ("__classdict__" : Str)) = false := by decide) : PE X (.Name x pos) (tVar i) := by
  constructor; intro pins s σ H Q I h
  obtain ⟨v, e, h⟩ := h
  obtain ⟨m, hn, hl⟩ := I.loc
  obtain ⟨u, r, l⟩ := hl i x v hN e hv
  have fin : EP X pins σ Q u s := ⟨v, H, I, r, h⟩
  rcases l with ⟨hk, hm⟩ | ⟨hk, c, hc, hcell⟩
  · exact wpAny_Name (wpAny_loadName_local I.ok.kind hk hn hm fin) hd
  · rcases hk with hk | hk
    · exact wpAny_Name (wpAny_loadName_cell I.ok.kind hk hc hcell fin) hd
    · exact wpAny_Name (wpAny_loadName_free I.ok.kind hk hc hcell fin hcd) hd
theorem pe_int {i j pos} : PE X (.Constant (.int i) j pos) (tC (.int i)) := ⟨fun _ _ _ H _ I h => wpAny_Constant_int ⟨.int i, H, I.tok _, ⟨_, rfl⟩, h⟩⟩
theorem pe_bl {b j pos} : PE X (.Constant (.bool b) j pos) (tC (.bl b)) := ⟨fun _ _ _ H _ I h => Constant_bool ⟨.bl b, H, I, rfl, h⟩⟩
theorem pe_non {j pos} : PE X (.Constant .none j pos) (tC .non) := ⟨fun _ _ _ H _ I h => Constant_none ⟨.non, H, I, rfl, h⟩⟩
theorem pe_str {x j pos} : PE X (.Constant (.str x) j pos) (tC (.str x)) := ⟨fun _ _ _ H _ I h => Calls.Constant_str ⟨.str x, H, I.tok _, ⟨_, rfl⟩, h⟩⟩

/-- a global name of the def -/
def Gl (X : Cx) (x : Str) : Prop := X.env.kindOf x = some .globalImplicit
theorem ld_glob {E : Value → Shared → Prop} {pins : List (Addr × Obj)} {s : Shared} {σ : St} {H : Hp} {x : Str} {u : Value} {pos : Pos} {Q : Value → Shared → Prop} (I : Inv X pins σ H s) (hg : Gl X x) (hm : X.mg x = some u) (h : Q u s)
    (hd : (x == ("__debug__" : Str)) = false := by decide) : wpAny (model X.prog X.w) X.A (eval (.Name x pos) X.env) Q E s :=
  Calls.Name_function_global I.ok.kind hg (Calls.loadGlobal_global (by rw [I.ok.glob]; exact I.mod.glob.keeps I.bk) hm h) hd
theorem ld_blt {E : Value → Shared → Prop} {pins : List (Addr × Obj)} {s : Shared} {σ : St} {H : Hp} {x : Str} {u : Value} {pos : Pos} {Q : Value → Shared → Prop} (I : Inv X pins σ H s) (hg : Gl X x) (hm : X.mg x = none) (hv : bootBuiltins x = some u) (h : Q u s)
    (hn : x ≠ "__name__" := by decide) (hd : (x == ("__debug__" : Str)) = false := by decide) : wpAny (model X.prog X.w) X.A (eval (.Name x pos) X.env) Q E s := by
  obtain ⟨mb, h1, h2⟩ := I.mod.blt
  exact Calls.Name_function_global I.ok.kind hg (Calls.loadGlobal_builtin (by rw [I.ok.glob]; exact I.mod.glob.keeps I.bk) hm (by rw [I.ok.blt]; exact h1.keeps I.bk) ((h2 x hn).trans hv) h) hd
theorem pe_bltn {x : Str} {v : V} {u : Value} {pos : Pos} (hg : Gl X x) (hm : X.mg x = none) (hv : bootBuiltins x = some u) (r : RelV v u) (hn : x ≠ "__name__" := by decide) (hd : (x == ("__debug__" : Str)) = false := by decide) : PE X (.Name x pos) (tC v) :=
  ⟨fun _ _ _ H _ I h => ld_blt I hg hm hv ⟨v, H, I, r, h⟩ hn hd⟩

/-! ### arithmetic -/
variable {a b : Expr} {ta tb : TE} {pos : Pos}
/-! ### comparisons -/
structure PC (X : Cx) (op : CmpOp) (a b : Expr) (t : TE) : Prop where
  run : ∀ (pins : List (Addr × Obj)) (s : Shared) (σ : St) (H : Hp) (Q : VK), Inv X pins σ H s → t σ H Q →
    wpAny (model X.prog X.w) X.A (eval a X.env) (fun v s₁ => wpAny (model X.prog X.w) X.A (eval b X.env) (fun u s₂ => wpAny (model X.prog X.w) X.A (compareOp op v u) (EP X pins σ Q) X.xe s₂) X.xe s₁) X.xe s
instance {X : Cx} {op : CmpOp} {a b : Expr} {t : TE} : CoeFun (PC X op a b t) fun _ => ∀ (pins : List (Addr × Obj)) (s : Shared) (σ : St) (H : Hp) (Q : VK), Inv X pins σ H s → t σ H Q →
    wpAny (model X.prog X.w) X.A (eval a X.env) (fun v s₁ => wpAny (model X.prog X.w) X.A (eval b X.env) (fun u s₂ => wpAny (model X.prog X.w) X.A (compareOp op v u) (EP X pins σ Q) X.xe s₂) X.xe s₁) X.xe s := ⟨PC.run⟩
/-- a comparison as a value, as a test -/
def tB (t : TE) : TT := fun σ H Q => t σ H fun x H1 => ∃ c, x = .bl c ∧ Q c H1
/-- an expression whose value is a bool, as a test -/
theorem pt_val {e : Expr} {t : TE} (h : PE X e t) (he : ∀ whole, isTrue e X.env whole = (do let v ← whole; standAt e.pos; holding [v] (truthy v)) := by intro _; rfl) : PT X e (tB t) := by
  constructor; intro pins s σ H Q I hw
  refine isTrue_plain (thn (h pins s σ H _ I hw) fun v s1 ⟨x, H1, I1, r1, q1⟩ => ?_) (he _)
  obtain ⟨d, rfl, q⟩ := q1
  cases r1
  exact wpAny_truthy_bool ⟨H1, I1, q⟩

/-! ### and, or, not -/
variable {tA tB' : TT} {rest : List Expr}
def tAnd (t u : TT) : TT := fun σ H Q => t σ H fun c H1 => if c = true then u σ H1 Q else Q false H1
def tOr (t u : TT) : TT := fun σ H Q => t σ H fun c H1 => if c = true then Q true H1 else u σ H1 Q
def tNot (t : TT) : TT := fun σ H Q => t σ H fun c H1 => Q (!c) H1
theorem pw_and1 (ha : PT X a tA) : PW X (.BoolOp .And [a] pos) tA := by
  constructor; intro wh pins s σ H Q I h
  refine isTrue_and (thn (ha pins s σ H Q I h) fun c s1 e => ?_)
  cases c with
  | true => exact isTrue_and_nil e
  | false => exact e
theorem pw_or1 (ha : PT X a tA) : PW X (.BoolOp .Or [a] pos) tA := by
  constructor; intro wh pins s σ H Q I h
  refine isTrue_or (thn (ha pins s σ H Q I h) fun c s1 e => ?_)
  cases c with
  | false => exact isTrue_or_nil e
  | true => exact e
theorem pw_and (ha : PT X a tA) (hb : PW X (.BoolOp .And (b :: rest) pos) tB') : PW X (.BoolOp .And (a :: b :: rest) pos) (tAnd tA tB') := by
  constructor; intro wh pins s σ H Q I h
  refine isTrue_and (thn (ha pins s σ H _ I h) fun c s1 ⟨H1, I1, q1⟩ => ?_)
  cases c with
  | true => exact hb wh pins s1 σ H1 Q I1 q1
  | false => exact ⟨H1, I1, q1⟩
theorem pw_or (ha : PT X a tA) (hb : PW X (.BoolOp .Or (b :: rest) pos) tB') : PW X (.BoolOp .Or (a :: b :: rest) pos) (tOr tA tB') := by
  constructor; intro wh pins s σ H Q I h
  refine isTrue_or (thn (ha pins s σ H _ I h) fun c s1 ⟨H1, I1, q1⟩ => ?_)
  cases c with
  | true => exact ⟨H1, I1, q1⟩
  | false => exact hb wh pins s1 σ H1 Q I1 q1
theorem pt_not (ha : PT X a tA) : PT X (.UnaryOp .Not a pos) (tNot tA) := by
  constructor; intro pins s σ H Q I h
  exact isTrue_not (ha pins s σ H (fun c H1 => Q (!c) H1) I h)
/-- .. as values (bools) -/
def tAndV (ta tb : TE) : TE := fun σ H Q => ta σ H fun x H1 => ∃ c, x = .bl c ∧ if c = true then tb σ H1 Q else Q (.bl false) H1
def tNotV (ta : TE) : TE := fun σ H Q => ta σ H fun x H1 => ∃ c, x = .bl c ∧ Q (.bl (!c)) H1
theorem pe_one {op} {t : TE} (h : PE X a t) : PE X (.BoolOp op [a] pos) t := ⟨fun pins s σ H Q I hw => BoolOp_one (h pins s σ H Q I hw)⟩
theorem pe_and (ha : PE X a ta) (hb : PE X (.BoolOp .And (b :: rest) pos) tb) : PE X (.BoolOp .And (a :: b :: rest) pos) (tAndV ta tb) := by
  constructor; intro pins s σ H Q I h
  refine BoolOp_and (thn (ha pins s σ H _ I h) fun v s1 ⟨x, H1, I1, r1, q1⟩ => ?_)
  obtain ⟨c, rfl, q1⟩ := q1
  cases r1
  refine wpAny_truthy_bool ?_
  cases c with
  | true => exact hb pins s1 σ H1 Q I1 q1
  | false => exact ⟨.bl false, H1, I1, rfl, q1⟩
theorem pe_not (ha : PE X a ta) : PE X (.UnaryOp .Not a pos) (tNotV ta) := by
  constructor; intro pins s σ H Q I h
  refine UnaryOp_ (thn (ha pins s σ H _ I h) fun v s1 ⟨x, H1, I1, r1, q1⟩ => ?_)
  obtain ⟨c, rfl, q1⟩ := q1
  cases r1
  exact not_of (wpAny_truthy_bool ⟨.bl (!c), H1, I1, rfl, q1⟩)
/-- a if t else b -/
def tIf (t : TT) (ta tb : TE) : TE := fun σ H Q => t σ H fun c H1 => if c = true then ta σ H1 Q else tb σ H1 Q
theorem pe_ifExp {c : Expr} (hc : PT X c tA) (ha : PE X a ta) (hb : PE X b tb) : PE X (.IfExp c a b pos) (tIf tA ta tb) := by
  constructor; intro pins s σ H Q I h
  refine wpAny_IfExp (thn (hc pins s σ H _ I h) fun d s1 ⟨H1, I1, q1⟩ => ?_)
  cases d with
  | true => exact ha pins s1 σ H1 Q I1 q1
  | false => exact hb pins s1 σ H1 Q I1 q1
end
end L2

namespace L2
open PySem PySem.Spec PyProof.Rows

/-! ### a list, a tuple that is read: tracked, frozen, or an object of the module -/
def SqL (K : PySem.W.Frag) (H : Hp) (a : Addr) (xs : List V) : Prop :=
  Rd H a (.lst xs) ∨
    ∃ (o : Obj) (its : Array Value) (n : Nat), K.lookup a = some o ∧ o.cls = .type "list" ∧ o.dict = none ∧ o.data = .seq its n ∧ its.size ≤ sizeLine ∧ Vals xs its.toList
def SqT (K : PySem.W.Frag) (H : Hp) (a : Addr) (xs : List V) : Prop :=
  Rd H a (.tup xs) ∨
    ∃ (o : Obj) (its : Array Value) (n : Nat), K.lookup a = some o ∧ o.cls = .type "tuple" ∧ o.data = .seq its n ∧ its.size ≤ sizeLine ∧ Vals xs its.toList
def absV : Value → Option V
  | .none => some .non
  | .bool b => some (.bl b)
  | .int i _ => some (.int i)
  | .str x _ => some (.str x)
  | .bytes b _ => some (.byt b)
  | .float b _ => some (.flt b)
  | .ref a => some (.ref a)
  | .type n => some (.ty n)
  | _ => none
theorem RelV.abs {x : V} {u : Value} (r : RelV x u) : absV u = some x := by
  cases x with
  | non => cases r; rfl
  | bl _ => cases r; rfl
  | int _ => obtain ⟨t, rfl⟩ := r; rfl
  | str _ => obtain ⟨t, rfl⟩ := r; rfl
  | byt _ => obtain ⟨t, rfl⟩ := r; rfl
  | flt _ => obtain ⟨t, rfl⟩ := r; rfl
  | ref _ => cases r; rfl
  | ty _ => cases r; rfl
theorem RelV.inj {x y : V} {u : Value} (r : RelV x u) (q : RelV y u) : x = y := Option.some.inj (r.abs.symm.trans q.abs)
theorem Vals.inj : ∀ {xs ys : List V} {us : List Value}, Vals xs us → Vals ys us → xs = ys
  | _, _, _, .nil, .nil => rfl
  | _, _, _, .cons r t, .cons r' t' => by rw [r.inj r', Vals.inj t t']
section
variable {X : Cx} {pins : List (Addr × Obj)} {σ : St} {H : Hp} {s : Shared} {a : Addr} {xs ys : List V}
theorem SqL.of {K : PySem.W.Frag} (h : H a = some (.lst xs)) : SqL K H a xs := .inl (.inl h)
theorem SqT.of {K : PySem.W.Frag} (h : H a = some (.tup xs)) : SqT K H a xs := .inl (.inl h)
theorem Inv.list (I : Inv X pins σ H s) (h : SqL X.K H a xs) : ∃ its : List Value, Vals xs its ∧ PlainL s.heap a its.toArray ∧ xs.length ≤ sizeLine := by
  rcases h with h | ⟨o, its, n, hk, hc, hd, hs, hz, r⟩
  · obtain ⟨z, its, n, r, e⟩ := h.ok I.hok
    exact ⟨its, r, ⟨_, n, e, rfl, rfl, rfl⟩, z⟩
  · refine ⟨its.toList, r, ⟨o, n, I.kIn a o hk, hc, hd, by simpa using hs⟩, ?_⟩
    have e := r.length
    simp only [Array.length_toList] at e
    omega
theorem Inv.tuple (I : Inv X pins σ H s) (h : SqT X.K H a xs) : ∃ its : List Value, Vals xs its ∧ IsTup s.heap a its.toArray ∧ xs.length ≤ sizeLine := by
  rcases h with h | ⟨o, its, n, hk, hc, hs, hz, r⟩
  · obtain ⟨z, its, r, p⟩ := h.ok I.hok
    exact ⟨its, r, p, z⟩
  · refine ⟨its.toList, r, ⟨o, I.kIn a o hk, hc, n, by simpa using hs⟩, ?_⟩
    have e := r.length
    simp only [Array.length_toList] at e
    omega
theorem Inv.list_inj (I : Inv X pins σ H s) (h : SqL X.K H a xs) (h' : SqL X.K H a ys) : xs = ys := by
  obtain ⟨its, r, ⟨o, n, e, _, _, d⟩, _⟩ := I.list h
  obtain ⟨its', r', ⟨o', n', e', _, _, d'⟩, _⟩ := I.list h'
  rw [e] at e'; cases e'
  rw [d] at d'
  injection d' with d1 _
  have : its = its' := by simpa using congrArg Array.toList d1
  subst this
  exact r.inj r'
theorem Inv.tuple_inj (I : Inv X pins σ H s) (h : SqT X.K H a xs) (h' : SqT X.K H a ys) : xs = ys := by
  obtain ⟨its, r, ⟨o, e, _, n, d⟩, _⟩ := I.tuple h
  obtain ⟨its', r', ⟨o', e', _, n', d'⟩, _⟩ := I.tuple h'
  rw [e] at e'; cases e'
  rw [d] at d'
  injection d' with d1 _
  have : its = its' := by simpa using congrArg Array.toList d1
  subst this
  exact r.inj r'
end

/-! ### another wish about exceptions -/
abbrev Cx.wish (X : Cx) (E : Value → Shared → Prop) : Cx := { X with xe := E }
/-- no exception leaves -/
abbrev Cx.nox (X : Cx) : Cx := X.wish fun _ _ => False
theorem Cx.Ok.wish {X : Cx} (ok : X.Ok) (E : Value → Shared → Prop) : (X.wish E).Ok :=
  ⟨ok.mod, ok.kind, ok.glob, ok.blt, ok.above, ok.inj, ok.has, ok.cab, ok.hd, ok.frames, ok.stk, ok.exf, ok.bs, ok.bsz, ok.noex, ok.exfs, ok.funs, ok.frf⟩
theorem Cx.Ok.unwish {X : Cx} {E : Value → Shared → Prop} (ok : (X.wish E).Ok) : X.Ok :=
  ⟨ok.mod, ok.kind, ok.glob, ok.blt, ok.above, ok.inj, ok.has, ok.cab, ok.hd, ok.frames, ok.stk, ok.exf, ok.bs, ok.bsz, ok.noex, ok.exfs, ok.funs, ok.frf⟩
section
variable {X : Cx} {pins : List (Addr × Obj)} {σ : St} {H : Hp} {s : Shared} {E : Value → Shared → Prop}
theorem Inv.wish (I : Inv X pins σ H s) (E : Value → Shared → Prop) : Inv (X.wish E) pins σ H s := ⟨I.ok.wish E, I.os, I.bare, I.base, I.loc, I.cell, I.free, I.freeC, I.pin, I.hok, I.len⟩
theorem Inv.unwish (I : Inv (X.wish E) pins σ H s) : Inv X pins σ H s := ⟨I.ok.unwish, I.os, I.bare, I.base, I.loc, I.cell, I.free, I.freeC, I.pin, I.hok, I.len⟩
theorem SP.unwish {D : Ends} {f : Flow} {s' : Shared} (h : SP (X.wish E) pins D f s') : SP X pins D f s' := by
  cases f with
  | next => obtain ⟨σ', H', I, q⟩ := h; exact ⟨σ', H', I.unwish, q⟩
  | brk => obtain ⟨σ', H', I, q⟩ := h; exact ⟨σ', H', I.unwish, q⟩
  | cont => obtain ⟨σ', H', I, q⟩ := h; exact ⟨σ', H', I.unwish, q⟩
  | ret u => obtain ⟨v, σ', H', I, r, q⟩ := h; exact ⟨v, σ', H', I.unwish, r, q⟩
theorem PE.nox {e : Expr} {t : TE} (h : PE X.nox e t) : PE X e t := ⟨fun pins s σ H Q I hw =>
  wpAny_mono (h pins s σ H Q (I.wish _) hw) (fun _ _ ⟨v, H', I', r, q⟩ => ⟨v, H', I'.unwish, r, q⟩) fun _ _ z => False.elim z⟩
theorem PT.nox {e : Expr} {t : TT} (h : PT X.nox e t) : PT X e t := ⟨fun pins s σ H Q I hw =>
  wpAny_mono (h pins s σ H Q (I.wish _) hw) (fun _ _ ⟨H', I', q⟩ => ⟨H', I'.unwish, q⟩) fun _ _ z => False.elim z⟩
theorem PSs.nox {st : List Stmt} {t : TS} (h : PSs X.nox st t) : PSs X st t := ⟨fun pins s σ H D I hw =>
  wpAny_mono (h pins s σ H D (I.wish _) hw) (fun _ _ q => q.unwish) fun _ _ z => False.elim z⟩
end

/-! ### blocks and small statements -/
section
variable {X : Cx} {st : Stmt} {rest : List Stmt} {t u : TS} {e : Expr} {te : TE} {pos : Pos}
def tNext : TS := fun D σ H => D.nx σ H
def tSeq (t u : TS) : TS := fun D σ H => t { D with nx := u D } σ H
theorem pss_nil : PSs X [] tNext := ⟨fun _ _ σ H _ I h => wpAny_execs_nil ⟨σ, H, I, h⟩⟩
theorem pss_cons (h1 : PS X st t) (h2 : PSs X rest u) : PSs X (st :: rest) (tSeq t u) := by
  constructor; intro pins s σ H D I h
  refine wpAny_execs_cons (thn (h1 pins s σ H { D with nx := u D } I h) fun f s1 q => ?_)
  cases f with
  | next =>
    obtain ⟨σ', H', I', q⟩ := q
    exact h2 pins s1 σ' H' D I' q
  | ret v => exact q
  | brk => exact q
  | cont => exact q
theorem pss_one (h1 : PS X st t) : PSs X [st] t := by
  constructor; intro pins s σ H D I h
  refine wpAny_execs_cons (thn (h1 pins s σ H D I h) fun f s1 q => ?_)
  cases f with
  | next => exact wpAny_execs_nil q
  | ret v => exact q
  | brk => exact q
  | cont => exact q
/-- in a def's body nothing is shown -/
theorem Inv.quiet {pins : List (Addr × Obj)} {σ : St} {H : Hp} {s : Shared} (I : Inv X pins σ H s) : interactive X.env = false := by simp [interactive, I.ok.kind]
/-- an expression whose value is dropped -/
def tDrop (te : TE) : TS := fun D σ H => te σ H fun _ H1 => D.nx σ H1
theorem ps_expr (he : PE X e te) (hs : swapsWith e none pos.line X.env = pure false := by rfl) : PS X (.Expr e pos) (tDrop te) := by
  constructor; intro pins s σ H D I h
  exact wpAny_Expr_any (thn (he pins s σ H _ I h) fun v s1 ⟨x, H1, I1, r1, q1⟩ => ⟨σ, H1, I1, q1⟩) I.quiet hs
def tRet (te : TE) : TS := fun D σ H => te σ H D.rt
theorem ps_ret (he : PE X e te) : PS X (.Return (some e) pos) (tRet te) := by
  constructor; intro pins s σ H D I h
  exact wpAny_Return_some (thn (he pins s σ H _ I h) fun v s1 ⟨x, H1, I1, r1, q1⟩ => ⟨x, σ, H1, I1, r1, q1⟩)
def tIfS (c : TT) (t u : TS) : TS := fun D σ H => c σ H fun b H1 => if b = true then t D σ H1 else u D σ H1
theorem ps_if {c : Expr} {a b : List Stmt} {tc : TT} (hc : PT X c tc) (ha : PSs X a t) (hb : PSs X b u) : PS X (.If c a b pos) (tIfS tc t u) := by
  constructor; intro pins s σ H D I h
  refine wpAny_If (thn (hc pins s σ H _ I h) fun d s1 ⟨H1, I1, q1⟩ => ?_)
  cases d with
  | true => exact ha pins s1 σ H1 D I1 q1
  | false => exact hb pins s1 σ H1 D I1 q1
end

/-! ### targets -/
abbrev TG := V → St → Hp → (St → Hp → Prop) → Prop
abbrev TGs := List V → St → Hp → (St → Hp → Prop) → Prop
structure PG (X : Cx) (target : Expr) (t : TG) : Prop where
  run : ∀ (pins : List (Addr × Obj)) (s : Shared) (σ : St) (H : Hp) (v : V) (u : Value) (Q : St → Hp → Prop), Inv X pins σ H s → RelV v u → t v σ H Q →
    wpAny (model X.prog X.w) X.A (assign target X.env u) (fun _ s' => ∃ σ' H', Inv X pins σ' H' s' ∧ Q σ' H') X.xe s
instance {X : Cx} {target : Expr} {t : TG} : CoeFun (PG X target t) fun _ => ∀ (pins : List (Addr × Obj)) (s : Shared) (σ : St) (H : Hp) (v : V) (u : Value) (Q : St → Hp → Prop), Inv X pins σ H s → RelV v u → t v σ H Q →
    wpAny (model X.prog X.w) X.A (assign target X.env u) (fun _ s' => ∃ σ' H', Inv X pins σ' H' s' ∧ Q σ' H') X.xe s := ⟨PG.run⟩
/-- several targets, one after another -/
structure PGs (X : Cx) (ts : List Expr) (t : TGs) : Prop where
  run : ∀ (pins : List (Addr × Obj)) (s : Shared) (σ : St) (H : Hp) (vs : List V) (us : List Value) (Q : St → Hp → Prop), Inv X pins σ H s → Vals vs us → t vs σ H Q →
    wpAny (model X.prog X.w) X.A (assignInOrder ((assignEach ts X.env).map (·.2)) us) (fun _ s' => ∃ σ' H', Inv X pins σ' H' s' ∧ Q σ' H') X.xe s
instance {X : Cx} {ts : List Expr} {t : TGs} : CoeFun (PGs X ts t) fun _ => ∀ (pins : List (Addr × Obj)) (s : Shared) (σ : St) (H : Hp) (vs : List V) (us : List Value) (Q : St → Hp → Prop), Inv X pins σ H s → Vals vs us → t vs σ H Q →
    wpAny (model X.prog X.w) X.A (assignInOrder ((assignEach ts X.env).map (·.2)) us) (fun _ s' => ∃ σ' H', Inv X pins σ' H' s' ∧ Q σ' H') X.xe s := ⟨PGs.run⟩
section
variable {X : Cx} {pos : Pos}
def gName (i : Nat) : TG := fun v σ H Q => Q (σ.set i (some v)) H
theorem pg_name {i : Nat} {x : Str} (hN : X.N.Nodup) (hi : X.N[i]? = some x) (hx : Loc X.env.scope x) (hf : X.fn x = true ∨ X.env.scope.names.lookup x = some .local := by first | exact .inl rfl | exact .inr rfl | assumption) : PG X (.Name x pos) (gName i) := by
  constructor; intro pins s σ H v u Q I r h
  exact wpAny_assign_Name (store_ok I hN hi hx r (fun s' I' => ⟨_, H, I', h⟩) hf)
def gNil : TGs := fun vs σ H Q => vs = [] ∧ Q σ H
def gCons (t : TG) (u : TGs) : TGs := fun vs σ H Q => ∃ v r, vs = v :: r ∧ t v σ H fun σ' H' => u r σ' H' Q
theorem pgs_nil : PGs X [] gNil := by
  constructor; intro pins s σ H vs us Q I r h
  obtain ⟨e, h⟩ := h
  subst e
  cases r
  exact assignInOrder_nil ⟨σ, H, I, h⟩
theorem pgs_cons {e : Expr} {es : List Expr} {t : TG} {u : TGs} (h1 : PG X e t) (h2 : PGs X es u)
    (hs : (assignEach (e :: es) X.env).map (·.2) = assign e X.env :: (assignEach es X.env).map (·.2) := by rfl) : PGs X (e :: es) (gCons t u) := by
  constructor; intro pins s σ H vs us Q I r h
  obtain ⟨v, vr, e1, h⟩ := h
  subst e1
  cases r with
  | cons r rr =>
    rw [hs]
    refine assignInOrder_cons (thn (h1 pins s σ H _ _ _ I r h) fun _ s1 ⟨σ1, H1, I1, q1⟩ => ?_)
    exact h2 pins s1 σ1 H1 _ _ Q I1 rr q1
/-- (a, b, ..) = a tuple of that length -/
def gTup (K : PySem.W.Frag) (n : Nat) (t : TGs) : TG := fun v σ H Q => ∃ a xs, v = .ref a ∧ SqT K H a xs ∧ xs.length = n ∧ t xs σ H Q
theorem pg_tup {es : List Expr} {k : Nat} {t : TGs} {n : Nat} (hc : X.calm = true) (h : PGs X es t)
    (hn : (assignEach es X.env).length = n := by rfl) (hst : (assignEach es X.env).findIdx? (·.1) = none := by rfl) : PG X (.Tuple es k pos) (gTup X.K n t) := by
  constructor; intro pins s σ H v u Q I r hw
  obtain ⟨a, xs, e1, hq, hl, hw⟩ := hw
  subst e1
  cases r
  obtain ⟨its, rv, ht, hz⟩ := I.tuple hq
  refine assign_Tuple_tuple (I.ok.hd hc) ht (by simp [hn, ← hl, rv.length]) hst fun h' hx => ?_
  have I1 : Inv X pins σ H { s with heap := h' } := I.kept (t' := s.toks) fun b o e => hx b o (Nat.ne_of_lt (Heap.lt_size e)) e
  exact h pins _ σ H xs _ Q I1 (by simpa using rv) hw
/-- target = value -/
def tAsg (te : TE) (g : TG) : TS := fun D σ H => te σ H fun x H1 => g x σ H1 D.nx
/-- name = value -/
theorem ps_set {i : Nat} {x : Str} {e : Expr} {te : TE} {pos' : Pos} (hN : X.N.Nodup) (hi : X.N[i]? = some x) (hx : Loc X.env.scope x) (he : PE X e te) (hs : swapsWith e (some (.Name x pos')) pos.line X.env = pure false := by rfl) (hf : X.fn x = true ∨ X.env.scope.names.lookup x = some .local := by first | exact .inl rfl | exact .inr rfl | assumption) :
    PS X (.Assign [.Name x pos'] e pos) (tAsg te (gName i)) := by
  constructor; intro pins s σ H D I h
  refine wpAny_Assign_Name (thn (he pins s σ H _ I h) fun v s1 ⟨y, H1, I1, r1, q1⟩ => ?_) hs
  exact store_ok I1 hN hi hx r1 (fun s2 I2 => ⟨_, H1, I2, q1⟩) hf
end

/-! ### while -/
section
variable {X : Cx} {pos : Pos}
end

/-! ### what a loop or a comprehension walks -/
/-- at turn i: it yields x (the heap may grow), or it stops -/
structure It where
  go : Nat → Hp → Prop
  yld : Nat → Hp → V → Hp → Prop
  stop : Nat → Hp → Prop
/-- the iterator's own objects may turn: they are not the frame's, not pinned, younger than the entry (or a comprehension's own) -/
def FpOk (X : Cx) (pins : List (Addr × Obj)) (H : Hp) (b : Addr) : Prop :=
  H b = none ∧ b ≠ X.env.locals ∧ b ∉ X.fs ∧ (b ∈ X.ex ∨ X.s₀.heap.objs.size ≤ b) ∧ (∀ x c, X.env.cells.lookup x = some c → c ≠ b) ∧ ∀ p ∈ X.pn ++ pins, p.1 ≠ b
theorem Inv.fpOk {X : Cx} {pins : List (Addr × Obj)} {σ : St} {H H' : Hp} {s : Shared} {b : Addr} (I : Inv X pins σ H s) (hb : s.heap.objs.size ≤ b) (hn : H' b = none) : FpOk X pins H' b := by
  refine ⟨hn, Nat.ne_of_gt (Nat.lt_of_lt_of_le I.lt hb), I.nofs hb, .inr (Nat.le_trans I.sz hb), fun x c e z => ?_, fun p hp z => ?_⟩
  · obtain ⟨v, q⟩ := I.cell x c e
    exact absurd (Nat.lt_of_lt_of_le q.lt (by rw [z]; exact hb)) (Nat.lt_irrefl _)
  · exact absurd (Nat.lt_of_lt_of_le (Heap.lt_size (I.pin p hp).1) (by rw [z]; exact hb)) (Nat.lt_irrefl _)
structure Turn (P : Program) (w : World) (K : PySem.W.Frag) (tg : Expr) (J : It) (fp : List Addr) (it : Addr) (tn : Nat → Heap → Prop) : Prop where
  mem : it ∈ fp
  obj : ∀ i h, tn i h → ∀ b ∈ fp, ∃ o, h.get? b = some o ∧ ∀ v, o.data ≠ .cell v
  keep : ∀ i h h', tn i h → (∀ b ∈ fp, ∀ o, h.get? b = some o → h'.get? b = some o) → tn i h'
  item : ∀ (X : Cx), X.prog = P → X.w = w → X.K = K → X.calm = true → ∀ (i : Nat) (pins : List (Addr × Obj)) (s : Shared) (σ : St) (H : Hp) (E : Value → Shared → Prop), Inv X pins σ H s → (∀ b ∈ fp, FpOk X pins H b) → tn i s.heap → J.go i H →
    wpAny (model P w) X.A (pyNext (.ref it)) (fun r s1 => ∃ u, r = some u ∧
      wpAny (model P w) X.A (letOwnedTupleGo tg (.ref it) u) (fun _ s2 => ∃ x H', Inv X pins σ H' s2 ∧ RelV x u ∧ J.yld i H x H' ∧ tn (i + 1) s2.heap ∧ ∀ b ∈ fp, H' b = none) E s1) E s
  done : ∀ (X : Cx), X.prog = P → X.w = w → X.K = K → X.calm = true → ∀ (i : Nat) (pins : List (Addr × Obj)) (s : Shared) (σ : St) (H : Hp) (E : Value → Shared → Prop), Inv X pins σ H s → (∀ b ∈ fp, FpOk X pins H b) → tn i s.heap → J.stop i H →
    wpAny (model P w) X.A (pyNext (.ref it)) (fun r s1 => r = none ∧ Inv X pins σ H s1) E s
  self : ∀ (A : Around) (i : Nat) (s : Shared) (Q : Value → Shared → Prop) (E : Value → Shared → Prop), tn i s.heap → Q (.ref it) s → wpAny (model P w) A (pyIter (.ref it)) Q E s
abbrev TI := St → Hp → (It → Hp → Prop) → Prop
/-- an iterator has come -/
def PIE (X : Cx) (pins : List (Addr × Obj)) (σ : St) (tg : Expr) (R : It → Hp → Prop) (itv : Value) (s2 : Shared) : Prop :=
  ∃ (it : Addr) (fp : List Addr) (tn : Nat → Heap → Prop) (J : It) (H' : Hp), itv = .ref it ∧ Inv X pins σ H' s2 ∧ Turn X.prog X.w X.K tg J fp it tn ∧ tn 0 s2.heap ∧ (∀ b ∈ fp, FpOk X pins H' b) ∧ R J H'
structure PI (X : Cx) (tg iter : Expr) (wi : TI) : Prop where
  run : ∀ (pins : List (Addr × Obj)) (s : Shared) (σ : St) (H : Hp) (R : It → Hp → Prop), Inv X pins σ H s → wi σ H R →
    wpAny (model X.prog X.w) X.A (eval iter X.env) (fun v s1 => wpAny (model X.prog X.w) X.A (pyIter v) (PIE X pins σ tg R) X.xe s1) X.xe s
instance {X : Cx} {tg iter : Expr} {wi : TI} : CoeFun (PI X tg iter wi) fun _ => ∀ (pins : List (Addr × Obj)) (s : Shared) (σ : St) (H : Hp) (R : It → Hp → Prop), Inv X pins σ H s → wi σ H R →
    wpAny (model X.prog X.w) X.A (eval iter X.env) (fun v s1 => wpAny (model X.prog X.w) X.A (pyIter v) (PIE X pins σ tg R) X.xe s1) X.xe s := ⟨PI.run⟩

/-- the step ahead of the store is nothing for an iterator that keeps no tuple -/
theorem go_of {M : Model} {A : Around} {E : Value → Shared → Prop} {s : Shared} {tg : Expr} {it : Addr} {u : Value} {o : Obj} {n : String} {vs : Array Value} {Q : Unit → Shared → Prop} (ho : s.heap.get? it = some o) (hc : o.cls = .type n) (hd : o.data = .fields vs)
    (hn : ["enumerate", "zip", "dict_itemiterator", "dict_reverseitemiterator", "odict_iterator", "itertools.zip_longest", "itertools.pairwise"].contains n = false) (hQ : Q () s) : wpAny M A (letOwnedTupleGo tg (.ref it) u) Q E s := by
  unfold letOwnedTupleGo
  cases tg <;> first
    | exact wpAny_pure hQ
    | (cases u <;> first
        | exact wpAny_pure hQ
        | (refine wpAny_bind (wpAny_load ho ?_)
           rw [hc, hd]
           show wpAny M A (if (["enumerate", "zip", "dict_itemiterator", "dict_reverseitemiterator", "odict_iterator", "itertools.zip_longest", "itertools.pairwise"].contains n && vs[0]? == some (rawInt _)) = true then _ else _) Q E s
           rw [if_neg (by intro h; rw [hn, Bool.false_and] at h; cases h)]
           exact wpAny_pure hQ))

/-- the list at a, as it stands at each turn (a loop may append to it) -/
def Itl (K : PySem.W.Frag) (a : Addr) : It :=
  ⟨fun i H => ∃ xs x, SqL K H a xs ∧ xs[i]? = some x, fun i H x H' => H' = H ∧ ∀ xs, SqL K H a xs → xs[i]? = some x, fun i H => ∃ xs, SqL K H a xs ∧ xs.length ≤ i⟩
def Itt (K : PySem.W.Frag) (a : Addr) : It :=
  ⟨fun i H => ∃ xs x, SqT K H a xs ∧ xs[i]? = some x, fun i H x H' => H' = H ∧ ∀ xs, SqT K H a xs → xs[i]? = some x, fun i H => ∃ xs, SqT K H a xs ∧ xs.length ≤ i⟩
/-- lo, lo + 1, .. (n of them) -/
def Itr (lo : Int) (n : Nat) : It := ⟨fun i _ => i < n, fun i H x H' => H' = H ∧ x = .int (lo + i), fun i _ => n ≤ i⟩
theorem turn_list {P : Program} {w : World} {K : PySem.W.Frag} {tg : Expr} (a it : Addr) : Turn P w K tg (Itl K a) [it] it (fun i h => h.IsListIter it a i) where
  mem := by simp
  obj := fun i h st b hb => by
    have e : b = it := by simpa using hb
    subst e
    obtain ⟨o, e, c, d⟩ := st
    exact ⟨o, e, fun v z => by rw [d] at z; cases z⟩
  keep := fun i h h' st k => st.at fun o e => k it (by simp) o e
  item := by
    intro X hP hw hK hc i pins s σ H E I hf st hg
    subst hP hw hK
    obtain ⟨xs, x, hq, hx⟩ := hg
    obtain ⟨its, rv, p, hz⟩ := I.list hq
    obtain ⟨u, hu, ru⟩ := rv.get hx
    obtain ⟨f0, f1, f2, f3, f4, f5⟩ := hf it (by simp)
    refine wpAny_pyNext_list_item st p.isList (x := u) (by simpa using hu) fun h' st' sb => ?_
    have I1 : Inv X pins σ H { s with heap := h' } := I.turned (t' := s.toks) (fun b o hb e => (sb.2 b hb).trans e) f0 f1 f3 f4 f5
    obtain ⟨o, e, c, d⟩ := id st'
    exact ⟨u, rfl, go_of (s := { s with heap := h' }) e c d (by decide) ⟨x, H, I1, ru, ⟨rfl, fun ys hy => by rw [I.list_inj hy hq]; exact hx⟩, st', fun b hb => (hf b hb).1⟩⟩
  done := by
    intro X hP hw hK hc i pins s σ H E I hf st hg
    subst hP hw hK
    obtain ⟨xs, hq, hx⟩ := hg
    obtain ⟨its, rv, p, hz⟩ := I.list hq
    obtain ⟨f0, f1, f2, f3, f4, f5⟩ := hf it (by simp)
    have hl := rv.length
    exact wpAny_pyNext_list_end (I.ok.hd hc) st p.isList (by simp; omega) fun h' eb => ⟨rfl, I.turned (t' := s.toks) (fun b o hb e => eb b o hb e) f0 f1 f3 f4 f5⟩
  self := fun _ _ _ _ _ st h => wpAny_pyIter_listiter st h
theorem turn_range {P : Program} {w : World} {K : PySem.W.Frag} {tg : Expr} (it : Addr) (lo : Int) (n : Nat) : Turn P w K tg (Itr lo n) [it] it (fun i h => IsRangeIter h it (lo + (i : Nat) * 1) ((n : Int) - (i : Nat)) 1) where
  mem := by simp
  obj := fun i h st b hb => by
    have e : b = it := by simpa using hb
    subst e
    exact ⟨_, st, fun v z => by
      have z' : Data.fields _ = Data.cell v := z
      cases z'⟩
  keep := fun i h h' st k => k it (by simp) _ st
  item := by
    intro X hP hw hK hc i pins s σ H E I hf st hg
    subst hP hw hK
    obtain ⟨f0, f1, f2, f3, f4, f5⟩ := hf it (by simp)
    have W := Walks.range (prog := X.prog) (w := X.w) (I.ok.hd hc) it lo 1 n
    refine W.item i s _ _ hg st fun v h' tk hv st' kk => ?_
    obtain ⟨t, rfl⟩ := hv
    have I1 : Inv X pins σ H { s with heap := h', toks := tk } := I.turned (fun b o hb e => kk b o (by simpa using hb) e) f0 f1 f3 f4 f5
    refine ⟨_, rfl, go_of (s := { s with heap := h', toks := tk }) (n := "range_iterator") st' rfl rfl (by decide) ⟨.int (lo + i), H, I1, ⟨t, ?_⟩, ⟨rfl, rfl⟩, st', fun b hb => (hf b hb).1⟩⟩
    rw [Int.mul_one]
  done := by
    intro X hP hw hK hc i pins s σ H E I hf st hg
    subst hP hw hK
    obtain ⟨f0, f1, f2, f3, f4, f5⟩ := hf it (by simp)
    exact wpAny_pyNext_range_end (I.ok.hd hc) st (by have : n ≤ i := hg; omega) fun h' eb => ⟨rfl, I.turned (t' := s.toks) (fun b o hb e => eb b o hb e) f0 f1 f3 f4 f5⟩
  self := fun _ _ _ _ _ st h => wpAny_pyIter_rangeiter st h
end L2

namespace L2
open PySem PySem.Spec PyProof.Rows
section
variable {X : Cx} {tg : Expr}
def iList (K : PySem.W.Frag) (tl : TE) : TI := fun σ H R => tl σ H fun x H1 => ∃ a, x = .ref a ∧ (∃ xs, SqL K H1 a xs) ∧ R (Itl K a) H1
theorem pi_list {l : Expr} {tl : TE} (hl : PE X l tl) : PI X tg l (iList X.K tl) := by
  constructor; intro pins s σ H R I h
  refine thn (hl pins s σ H _ I h) fun v s1 ⟨x, H1, I1, r1, q1⟩ => ?_
  obtain ⟨a, e, ⟨xs, hq⟩, q⟩ := q1
  subst e
  cases r1
  obtain ⟨its, rv, p, hz⟩ := I1.list hq
  refine wpAny_pyIter_list p.isList ?_
  refine ⟨s1.heap.objs.size, [s1.heap.objs.size], _, _, H1, rfl, I1.kept (t' := s1.toks) fun b o e => Heap.get?_push_of_some _ e, turn_list a _, ⟨_, Heap.get?_push_size _ rfl, rfl, rfl⟩, fun b hb => ?_, q⟩
  have e : b = s1.heap.objs.size := by simpa using hb
  subst e
  exact I1.fpOk (Nat.le_refl _) (I1.hok.fresh (Nat.le_refl _))
/-- a range object just made, walked -/
theorem range_it {pins : List (Addr × Obj)} {σ : St} {H : Hp} {s : Shared} {R : It → Hp → Prop} {E : Value → Shared → Prop} {lo hi : Int} {t u v : Tok} {tk : Nat} (I : Inv X pins σ H s) (h1 : -(2 ^ 62) ≤ lo) (h2 : lo < 2 ^ 62) (h3 : -(2 ^ 62) ≤ hi) (h4 : hi < 2 ^ 62)
    (q : R (Itr lo (hi - lo).toNat) H) : wpAny (model X.prog X.w) X.A (pyIter (.ref s.heap.objs.size)) (PIE X pins σ tg R) E { s with heap := s.heap.push { cls := .type "range", data := .fields #[.int lo t, .int hi u, .int 1 v] }, toks := tk } := by
  refine wpAny_pyIter_range (IsRange.new ..) (small_one h1 h2 h3 h4) ?_
  have I1 : Inv X pins σ H { s with heap := s.heap.push { cls := .type "range", data := .fields #[.int lo t, .int hi u, .int 1 v] }, toks := tk } := I.kept fun b o e => Heap.get?_push_of_some _ e
  refine ⟨(s.heap.push { cls := .type "range", data := .fields #[.int lo t, .int hi u, .int 1 v] }).objs.size, [(s.heap.push { cls := .type "range", data := .fields #[.int lo t, .int hi u, .int 1 v] }).objs.size], _, _, H, rfl,
    I1.kept (t' := tk) fun b o e => Heap.get?_push_of_some _ e, turn_range _ lo (hi - lo).toNat, ?_, fun b hb => ?_, q⟩
  · have e1 : lo + ((0 : Nat) : Int) * 1 = lo := by simp
    have e2 : (((hi - lo).toNat : Nat) : Int) - ((0 : Nat) : Int) = Builtin.Range.rangeSize lo hi 1 := by rw [rangeSize_one]; split <;> omega
    show IsRangeIter _ _ (lo + ((0 : Nat) : Int) * 1) ((((hi - lo).toNat : Nat) : Int) - ((0 : Nat) : Int)) 1
    rw [e1, e2]
    exact Heap.get?_push_size _ rfl
  · have e : b = (s.heap.push { cls := .type "range", data := .fields #[.int lo t, .int hi u, .int 1 v] }).objs.size := by simpa using hb
    subst e
    exact I1.fpOk (Nat.le_refl _) (I1.hok.fresh (Nat.le_refl _))
def iRng1 (ta : TA) : TI := fun σ H R => ta σ H fun vs H1 => ∃ j : Int, vs = [.int j] ∧ -(2 ^ 62) ≤ j ∧ j < 2 ^ 62 ∧ R (Itr 0 j.toNat) H1
theorem pi_range1 {a : Expr} {ta : TA} {p pos : Pos} (hg : Gl X "range") (hm : X.mg "range" = none) (ha : PA X [a] ta) (hs : starEach [a] X.env = [(false, eval a X.env)] := by rfl) : PI X tg (.Call (.Name "range" p) [a] [] pos) (iRng1 ta) := by
  constructor; intro pins s σ H R I h
  refine Call_ (ld_blt I hg hm boot_range (PyProof.Rows.callWith_type1 (thn (ha pos pins s σ H _ I h) fun us s1 ⟨vs, H1, I1, r1, q1⟩ => ?_) hs rfl))
  obtain ⟨j, e, q1, q2, q⟩ := q1
  subst e
  cases r1 with
  | cons r rr =>
    cases rr
    obtain ⟨t, rfl⟩ := r
    exact call_range_1 (range_it I1 (by omega) (by omega) q1 q2 (by simpa using q))
/-! ### for -/
/-- W: the invariant by the turn and a measure; N: what the body is to reach -/
def tFor (wi : TI) (g : TG) (tb : TS) : TS := fun D σ H => wi σ H fun J H1 => ∃ W : Nat → Nat → St → Hp → Prop, (∃ m, W 0 m σ H1) ∧ ∀ i m σ H, W i m σ H →
  (J.stop i H ∧ D.nx σ H) ∨ (J.go i H ∧ ∃ N : St → Hp → Prop, (∀ σ' H', N σ' H' → ∃ m', m' < m ∧ W (i + 1) m' σ' H') ∧ ∀ x H', J.yld i H x H' → g x σ H' fun σ2 H2 => tb { D with nx := N, ct := N, bk := D.nx } σ2 H2)
/-- the records at fp as they stand -/
def pinsAt (fp : List Addr) (h : Heap) : List (Addr × Obj) := fp.filterMap fun b => (h.get? b).map fun o => (b, o)
theorem mem_pinsAt {fp : List Addr} {h : Heap} {b : Addr} {o : Obj} (hb : b ∈ fp) (e : h.get? b = some o) : (b, o) ∈ pinsAt fp h := List.mem_filterMap.mpr ⟨b, hb, by rw [e]; rfl⟩
theorem of_pinsAt {fp : List Addr} {h : Heap} {p : Addr × Obj} (hp : p ∈ pinsAt fp h) : p.1 ∈ fp ∧ h.get? p.1 = some p.2 := by
  obtain ⟨b, hb, e⟩ := List.mem_filterMap.mp hp
  cases q : h.get? b with
  | none => rw [q] at e; cases e
  | some o =>
    rw [q] at e
    have e' : (b, o) = p := Option.some.inj e
    subst e'
    exact ⟨hb, q⟩
theorem Inv.pinned {pins : List (Addr × Obj)} {σ : St} {H : Hp} {s : Shared} {fp : List Addr} (I : Inv X pins σ H s) (hf : ∀ b ∈ fp, FpOk X pins H b) (ho : ∀ b ∈ fp, ∃ o, s.heap.get? b = some o ∧ ∀ v, o.data ≠ .cell v) : Inv X (pins ++ pinsAt fp s.heap) σ H s :=
  I.pins_of fun p hp => (List.mem_append.mp hp).elim (fun z => I.pin p (List.mem_append_right _ z)) fun z => by
    obtain ⟨hb, e⟩ := of_pinsAt z
    obtain ⟨f0, f1, f2, _⟩ := hf p.1 hb
    obtain ⟨o, e', d⟩ := ho p.1 hb
    rw [e] at e'; cases e'
    exact ⟨e, f0, f1, f2, d⟩
theorem Inv.unpinned {pins pl : List (Addr × Obj)} {σ : St} {H : Hp} {s : Shared} (I : Inv X (pins ++ pl) σ H s) : Inv X pins σ H s := I.pins_of fun p hp => I.pin p (List.mem_append_right _ (List.mem_append_left _ hp))
theorem ps_for {iter : Expr} {body : List Stmt} {wi : TI} {g : TG} {tb : TS} {pos : Pos} (hp : PassesOwn (model X.prog X.w) X.A X.env X.xe) (hc : X.calm = true) (hi : PI X tg iter wi) (hg : PG X tg g) (hb : PSs X body tb)
    (hs : ∀ x, foldedSetIterable iter X.env x = pure x := by intro _; rfl) : PS X (.For tg iter body [] pos) (tFor wi g tb) := by
  constructor; intro pins s σ H D I h
  refine wpAny_For (thn (hi pins s σ H _ I h) fun v s1 h1 => thn h1 fun itv s2 h2 => ?_) hs
  obtain ⟨it, fp, tn, J, H2, e, I2, T, st2, f2, W, ⟨m0, w0⟩, turn⟩ := h2
  subst e
  -- what stays true of the iterator's objects through the loop
  have stat : ∀ {H' : Hp}, (∀ b ∈ fp, H' b = none) → ∀ b ∈ fp, FpOk X pins H' b := fun hn b hb => ⟨hn b hb, (f2 b hb).2⟩
  refine codeAny_forLoop_any (fun n s' => ∃ i σ' H', Inv X pins σ' H' s' ∧ tn i s'.heap ∧ (∀ b ∈ fp, H' b = none) ∧ W i n σ' H') ?_ m0 ⟨0, σ, H2, I2, st2, fun b hb => (f2 b hb).1, w0⟩
  rintro n s3 ⟨i, σ3, H3, I3, st3, fr3, w3⟩
  rcases turn i n σ3 H3 w3 with ⟨stop, qn⟩ | ⟨go, N, hN, step⟩
  · refine wpAny_passesOwn hp (thn (T.done X rfl rfl rfl hc i pins s3 σ3 H3 X.xe I3 (stat fr3) st3 stop) fun r s4 ⟨hr, I4⟩ => ?_)
    subst hr
    exact wpAny_execs_nil ⟨σ3, H3, I4, qn⟩
  · refine wpAny_passesOwn hp (thn (T.item X rfl rfl rfl hc i pins s3 σ3 H3 X.xe I3 (stat fr3) st3 go) fun r s4 ⟨u, hr, h4⟩ => ?_)
    subst hr
    refine wpAny_passesOwn hp (thn h4 fun _ s5 ⟨x, H5, I5, r5, y5, st5, fr5⟩ => ?_)
    have I5' := I5.pinned (stat fr5) (T.obj _ _ st5)
    refine wpAny_passesOwn hp (thn (hg _ s5 σ3 H5 x u _ I5' r5 (step x H5 y5)) fun _ s6 ⟨σ6, H6, I6, q6⟩ => ?_)
    refine wpAny_passesOwn hp (thn (hb _ s6 σ6 H6 _ I6 q6) fun f s7 q7 => ?_)
    have again : ∀ {σ7 : St} {H7 : Hp}, Inv X (pins ++ pinsAt fp s5.heap) σ7 H7 s7 → N σ7 H7 → ∃ m, m < n ∧ ∃ i σ' H', Inv X pins σ' H' s7 ∧ tn i s7.heap ∧ (∀ b ∈ fp, H' b = none) ∧ W i m σ' H' := fun {σ7 H7} I7 n7 => by
      obtain ⟨m', hm, w7⟩ := hN σ7 H7 n7
      refine ⟨m', hm, i + 1, σ7, H7, I7.unpinned, T.keep _ _ _ st5 fun b hb o e => (I7.pin (b, o) (List.mem_append_right _ (List.mem_append_right _ (mem_pinsAt hb e)))).1, fun b hb => ?_, w7⟩
      obtain ⟨o, e, d⟩ := T.obj _ _ st5 b hb
      exact (I7.pin (b, o) (List.mem_append_right _ (List.mem_append_right _ (mem_pinsAt hb e)))).2.1
    cases f with
    | next => obtain ⟨σ7, H7, I7, n7⟩ := q7; exact again I7 n7
    | cont => obtain ⟨σ7, H7, I7, n7⟩ := q7; exact again I7 n7
    | brk => obtain ⟨σ7, H7, I7, q7⟩ := q7; exact ⟨σ7, H7, I7.unpinned, q7⟩
    | ret v => obtain ⟨x7, σ7, H7, I7, r7, q7⟩ := q7; exact ⟨x7, σ7, H7, I7.unpinned, r7, q7⟩
end

/-! ### the forms one uses -/
/-- over a list that the body leaves as it is -/
theorem for_list {K : PySem.W.Frag} {a : Addr} {xs : List V} {g : TG} {tb : TS} {D : Ends} {σ : St} {H : Hp} (Pv : Nat → St → Hp → Prop) (h0 : Pv 0 σ H) (hl : ∀ i σ H, i ≤ xs.length → Pv i σ H → SqL K H a xs)
    (hs : ∀ i x σ H, xs[i]? = some x → Pv i σ H → g x σ H fun σ2 H2 => tb { D with nx := Pv (i + 1), ct := Pv (i + 1), bk := D.nx } σ2 H2) (hd : ∀ σ H, Pv xs.length σ H → D.nx σ H) :
    ∃ W : Nat → Nat → St → Hp → Prop, (∃ m, W 0 m σ H) ∧ ∀ i m σ H, W i m σ H →
      ((Itl K a).stop i H ∧ D.nx σ H) ∨ ((Itl K a).go i H ∧ ∃ N : St → Hp → Prop, (∀ σ' H', N σ' H' → ∃ m', m' < m ∧ W (i + 1) m' σ' H') ∧ ∀ x H', (Itl K a).yld i H x H' → g x σ H' fun σ2 H2 => tb { D with nx := N, ct := N, bk := D.nx } σ2 H2) := by
  refine ⟨fun i m σ H => m = xs.length - i ∧ i ≤ xs.length ∧ Pv i σ H, ⟨xs.length, by simp, Nat.zero_le _, h0⟩, ?_⟩
  rintro i m σ H ⟨rfl, hi, p⟩
  have q := hl i σ H hi p
  by_cases hlt : i < xs.length
  · refine .inr ⟨⟨xs, xs[i], q, by simp [hlt]⟩, Pv (i + 1), fun σ' H' p' => ⟨xs.length - (i + 1), by omega, rfl, hlt, p'⟩, fun x H' y => ?_⟩
    obtain ⟨e, y⟩ := y
    subst e
    exact hs i x σ _ (y xs q) p
  · have e : i = xs.length := by omega
    subst e
    exact .inl ⟨⟨xs, q, Nat.le_refl _⟩, hd σ H p⟩
theorem for_range {lo : Int} {n : Nat} {g : TG} {tb : TS} {D : Ends} {σ : St} {H : Hp} (Pv : Nat → St → Hp → Prop) (h0 : Pv 0 σ H)
    (hs : ∀ i σ H, i < n → Pv i σ H → g (.int (lo + i)) σ H fun σ2 H2 => tb { D with nx := Pv (i + 1), ct := Pv (i + 1), bk := D.nx } σ2 H2) (hd : ∀ σ H, Pv n σ H → D.nx σ H) :
    ∃ W : Nat → Nat → St → Hp → Prop, (∃ m, W 0 m σ H) ∧ ∀ i m σ H, W i m σ H →
      ((Itr lo n).stop i H ∧ D.nx σ H) ∨ ((Itr lo n).go i H ∧ ∃ N : St → Hp → Prop, (∀ σ' H', N σ' H' → ∃ m', m' < m ∧ W (i + 1) m' σ' H') ∧ ∀ x H', (Itr lo n).yld i H x H' → g x σ H' fun σ2 H2 => tb { D with nx := N, ct := N, bk := D.nx } σ2 H2) := by
  refine ⟨fun i m σ H => m = n - i ∧ i ≤ n ∧ Pv i σ H, ⟨n, by simp, Nat.zero_le _, h0⟩, ?_⟩
  rintro i m σ H ⟨rfl, hi, p⟩
  by_cases hlt : i < n
  · refine .inr ⟨hlt, Pv (i + 1), fun σ' H' p' => ⟨n - (i + 1), by omega, rfl, hlt, p'⟩, fun x H' y => ?_⟩
    obtain ⟨e, y⟩ := y
    subst e y
    exact hs i σ _ hlt p
  · have e : i = n := by omega
    subst e
    exact .inl ⟨Nat.le_refl _, hd σ H p⟩
end L2

namespace L2
open PySem PySem.Spec PyProof.Rows

abbrev R2 := V → V → Hp → VK → Prop
/-- a two-place operation on values: f is binaryOp op, inplaceOp op or compareOp op -/
def OpR (X : Cx) (f : Value → Value → Sem Value) (r : R2) : Prop :=
  ∀ (pins : List (Addr × Obj)) (s : Shared) (σ : St) (H : Hp) (x y : V) (v u : Value) (Q : VK), Inv X pins σ H s → RelV x v → RelV y u → r x y H Q →
    wpAny (model X.prog X.w) X.A (f v u) (EP X pins σ Q) X.xe s
/-- a call of a value that is known (a builtin, a type) with values -/
def CallR (X : Cx) (f : Value) (r : List V → Hp → VK → Prop) : Prop :=
  ∀ (pins : List (Addr × Obj)) (s : Shared) (σ : St) (H : Hp) (xs : List V) (us : List Value) (Q : VK), Inv X pins σ H s → Vals xs us → r xs H Q →
    wpAny (model X.prog X.w) X.A (call f us) (EP X pins σ Q) X.xe s
def tOp (r : R2) (ta tb : TE) : TE := fun σ H Q => ta σ H fun x H1 => tb σ H1 fun y H2 => r x y H2 Q
/-- ints in, under C, and a value out -/
def rI (C : Int → Int → Prop) (g : Int → Int → V) : R2 := fun x y H Q => ∃ i j, x = .int i ∧ y = .int j ∧ C i j ∧ Q (g i j) H
def rI0 (g : Int → Int → V) : R2 := fun x y H Q => ∃ i j, x = .int i ∧ y = .int j ∧ Q (g i j) H
section
variable {X : Cx} {a b c : Expr} {ta tb tc : TE} {pos : Pos}

theorem binT (ha : PE X a ta) (hb : PE X b tb) {pins : List (Addr × Obj)} {s : Shared} {σ : St} {H : Hp} {R : V → V → Hp → Prop} (I : Inv X pins σ H s)
    (h : ta σ H fun x H1 => tb σ H1 fun y H2 => R x y H2) {Q : Value → Shared → Prop} {f : Value → Value → Sem Value}
    (hf : ∀ v u s2 x y H2, Inv X pins σ H2 s2 → RelV x v → RelV y u → R x y H2 → wpAny (model X.prog X.w) X.A (f v u) Q X.xe s2) :
    wpAny (model X.prog X.w) X.A (eval a X.env) (fun v s₁ => wpAny (model X.prog X.w) X.A (eval b X.env) (fun u s₂ => wpAny (model X.prog X.w) X.A (f v u) Q X.xe s₂) X.xe s₁) X.xe s := by
  refine thn (ha pins s σ H _ I h) fun v s1 ⟨x, H1, I1, r1, q1⟩ => ?_
  refine thn (hb pins s1 σ H1 _ I1 q1) fun u s2 ⟨y, H2, I2, r2, q2⟩ => ?_
  exact hf v u s2 x y H2 I2 r1 r2 q2

theorem pe_op {op : Operator} {r : R2} (ho : OpR X (binaryOp op) r) (ha : PE X a ta) (hb : PE X b tb) : PE X (.BinOp a op b pos) (tOp r ta tb) := by
  constructor; intro pins s σ H Q I h
  exact wpAny_BinOp (binT ha hb I h fun v u s2 x y H2 I2 rx ry q => ho pins s2 σ H2 x y v u Q I2 rx ry q)
/-! ### ints -/
theorem opI {f : Value → Value → Sem Value} {C : Int → Int → Prop} {g : Int → Int → Int}
    (rule : ∀ (i j : Int) (t u : Tok) (s : Shared) (Q : Value → Shared → Prop) (E : Value → Shared → Prop), C i j → Q (.int (g i j) s.toks) { s with toks := s.toks + 1 } → wpAny (model X.prog X.w) X.A (f (.int i t) (.int j u)) Q E s) :
    OpR X f (rI C fun i j => .int (g i j)) := by
  intro pins s σ H x y v u Q I rx ry h
  obtain ⟨i, j, rfl, rfl, hc, q⟩ := h
  obtain ⟨t, rfl⟩ := rx
  obtain ⟨t', rfl⟩ := ry
  exact rule i j t t' s _ _ hc ⟨.int (g i j), H, I.tok _, ⟨_, rfl⟩, q⟩
theorem opI0 {f : Value → Value → Sem Value} {g : Int → Int → Int}
    (rule : ∀ (i j : Int) (t u : Tok) (s : Shared) (Q : Value → Shared → Prop) (E : Value → Shared → Prop), Q (.int (g i j) s.toks) { s with toks := s.toks + 1 } → wpAny (model X.prog X.w) X.A (f (.int i t) (.int j u)) Q E s) :
    OpR X f (rI0 fun i j => .int (g i j)) := by
  intro pins s σ H x y v u Q I rx ry h
  obtain ⟨i, j, rfl, rfl, q⟩ := h
  obtain ⟨t, rfl⟩ := rx
  obtain ⟨t', rfl⟩ := ry
  exact rule i j t t' s _ _ ⟨.int (g i j), H, I.tok _, ⟨_, rfl⟩, q⟩
theorem opB0 {f : Value → Value → Sem Value} {g : Int → Int → Bool}
    (rule : ∀ (i j : Int) (t u : Tok) (s : Shared) (Q : Value → Shared → Prop) (E : Value → Shared → Prop), Q (.bool (g i j)) s → wpAny (model X.prog X.w) X.A (f (.int i t) (.int j u)) Q E s) :
    OpR X f (rI0 fun i j => .bl (g i j)) := by
  intro pins s σ H x y v u Q I rx ry h
  obtain ⟨i, j, rfl, rfl, q⟩ := h
  obtain ⟨t, rfl⟩ := rx
  obtain ⟨t', rfl⟩ := ry
  exact rule i j t t' s _ _ ⟨.bl (g i j), H, I, rfl, q⟩

def CDiv (i j : Int) : Prop := 0 < j ∧ j < 1073741824
def CPow (i j : Int) : Prop := 0 ≤ j ∧ j ≤ 1000000 ∧ i.natAbs < 2 ^ 64
def CMul (i j : Int) : Prop := (-(2 ^ 64) < i ∧ i < 2 ^ 64) ∨ (-(2 ^ 64) < j ∧ j < 2 ^ 64)
theorem CMul.ok {i j : Int} (h : CMul i j) : IntMulOk i j := by
  rcases h with ⟨h1, h2⟩ | ⟨h1, h2⟩
  · exact .of_left (intBits_le_64 h1 h2)
  · exact .of_right (intBits_le_64 h1 h2)
theorem two_pow_nn (k : Nat) : (0 : Int) ≤ 2 ^ k := by
  rw [two_pow_cast]
  exact Int.natCast_nonneg _

theorem op_add : OpR X (binaryOp .Add) (rI0 fun i j => .int (i + j)) := opI0 fun _ _ _ _ _ _ _ q => add_int q
theorem op_sub : OpR X (binaryOp .Sub) (rI0 fun i j => .int (i - j)) := opI0 fun _ _ _ _ _ _ _ q => sub_int q
theorem op_mul : OpR X (binaryOp .Mult) (rI CMul fun i j => .int (i * j)) := opI fun _ _ _ _ _ _ _ hc q => mul_int q hc.ok
/-- // by a positive divisor -/
theorem op_fdiv : OpR X (binaryOp .FloorDiv) (rI CDiv fun i j => .int (i / j)) := opI fun i j _ _ _ _ _ hc q => by
  have h1 : (0 : Int) < j := hc.1
  have h2 : j < 1073741824 := hc.2
  exact floordiv_int (by omega) (by rw [Int.fdiv_eq_ediv_of_nonneg i (by omega)]; exact q) (.inl (PyProof.noPylong_small (by omega)))
/-- % by a positive divisor of any size -/
theorem op_mod : OpR X (binaryOp .Mod) (rI (fun _ j => 0 < j) fun i j => .int (i % j)) := opI fun i j _ _ _ _ _ hc q => by
  have h1 : (0 : Int) < j := hc
  exact mod_int' (by omega) (by rw [Int.fmod_eq_emod_of_nonneg i (by omega)]; exact q)
theorem op_pow : OpR X (binaryOp .Pow) (rI CPow fun i j => .int (i ^ j.toNat)) := opI fun _ _ _ _ _ _ _ hc q => pow_int_small hc.1 hc.2.1 hc.2.2 q
theorem op_shr : OpR X (binaryOp .RShift) (rI (fun _ j => 0 ≤ j) fun i j => .int (i / 2 ^ j.toNat)) := opI fun i j _ _ _ _ _ hc q =>
  rshift_int hc (by rw [Int.fdiv_eq_ediv_of_nonneg i (two_pow_nn _)]; exact q)
theorem op_and : OpR X (binaryOp .BitAnd) (rI0 fun i j => .int (Builtin.bitAnd i j)) := opI0 fun _ _ _ _ _ _ _ q => and_int q
/-! ### bools among ints: n += (a < b) -/
end

/-! ### comparisons -/
/-- the scalars that == tells apart as data does -/
def scal : V → V → Bool
  | .non, .non => true | .non, .int _ => true | .int _, .non => true | .non, .bl _ => true | .bl _, .non => true | .non, .str _ => true | .str _, .non => true
  | .int _, .int _ => true | .bl _, .bl _ => true | .str _, .str _ => true | .byt _, .byt _ => true
  | .int _, .str _ => true | .str _, .int _ => true | .bl _, .str _ => true | .str _, .bl _ => true
  | _, _ => false
def rEq : R2 := fun x y H Q => scal x y = true ∧ Q (.bl (decide (x = y))) H
def rNe : R2 := fun x y H Q => scal x y = true ∧ Q (.bl (!decide (x = y))) H

theorem dec_int {i j : Int} : decide (V.int i = V.int j) = (i == j) := by
  rw [Bool.eq_iff_iff]
  simp
theorem dec_bl {i j : Bool} : decide (V.bl i = V.bl j) = (i == j) := by
  rw [Bool.eq_iff_iff]
  simp
theorem dec_str {i j : Str} : decide (V.str i = V.str j) = (i == j) := by
  rw [Bool.eq_iff_iff]
  simp
theorem dec_byt {i j : Array UInt8} : decide (V.byt i = V.byt j) = (i.toList == j.toList) := by
  rw [Bool.eq_iff_iff]
  cases i
  cases j
  simp

section
variable {X : Cx} {a b c : Expr} {ta tb tc : TE} {pos : Pos}
theorem fin_bl {pins : List (Addr × Obj)} {σ : St} {H : Hp} {s : Shared} {Q : VK} {k k' : Bool} (I : Inv X pins σ H s) (q : Q (.bl k) H) (e : k = k') : EP X pins σ Q (.bool k') s := by
  subst e
  exact ⟨.bl k, H, I, rfl, q⟩
theorem op_eq : OpR X (compareOp .Eq) rEq := by
  intro pins s σ H x y v u Q I rx ry h
  obtain ⟨hs, q⟩ := h
  cases x with
  | non =>
    cases rx
    cases y with
    | non => cases ry; exact PySem.EqNone.eq_none_none (fin_bl I q (by simp))
    | bl j => cases ry; exact PySem.EqNone.eq_none_bool (fin_bl I q (by simp))
    | int j => obtain ⟨t', rfl⟩ := ry; exact PySem.EqNone.eq_none_int (fin_bl I q (by simp))
    | str j => obtain ⟨t', rfl⟩ := ry; exact PySem.EqNone.eq_none_str (fin_bl I q (by simp))
    | _ => exact absurd (show false = true from hs) Bool.false_ne_true
  | bl i =>
    cases rx
    cases y with
    | non => cases ry; exact PySem.EqNone.eq_bool_none (fin_bl I q (by simp))
    | bl j => cases ry; exact eq_bool (fin_bl I q dec_bl)
    | str j => obtain ⟨t', rfl⟩ := ry; exact PySem.EqMixed.eq_bool_str (fin_bl I q (by simp))
    | _ => exact absurd (show false = true from hs) Bool.false_ne_true
  | int i =>
    obtain ⟨t, rfl⟩ := rx
    cases y with
    | non => cases ry; exact PySem.EqNone.eq_int_none (fin_bl I q (by simp))
    | int j => obtain ⟨t', rfl⟩ := ry; exact eq_int (fin_bl I q dec_int)
    | str j => obtain ⟨t', rfl⟩ := ry; exact PySem.EqMixed.eq_int_str (fin_bl I q (by simp))
    | _ => exact absurd (show false = true from hs) Bool.false_ne_true
  | str i =>
    obtain ⟨t, rfl⟩ := rx
    cases y with
    | non => cases ry; exact PySem.EqNone.eq_str_none (fin_bl I q (by simp))
    | bl j => cases ry; exact PySem.EqMixed.eq_str_bool (fin_bl I q (by simp))
    | int j => obtain ⟨t', rfl⟩ := ry; exact PySem.EqMixed.eq_str_int (fin_bl I q (by simp))
    | str j => obtain ⟨t', rfl⟩ := ry; exact eq_str (fin_bl I q dec_str)
    | _ => exact absurd (show false = true from hs) Bool.false_ne_true
  | byt i =>
    obtain ⟨t, rfl⟩ := rx
    cases y with
    | byt j => obtain ⟨t', rfl⟩ := ry; exact PySem.W.eq_bytes (fin_bl I q dec_byt)
    | _ => exact absurd (show false = true from hs) Bool.false_ne_true
  | _ => cases y <;> exact absurd (show false = true from hs) Bool.false_ne_true
theorem op_ne : OpR X (compareOp .NotEq) rNe := by
  intro pins s σ H x y v u Q I rx ry h
  obtain ⟨hs, q⟩ := h
  cases x with
  | non =>
    cases rx
    cases y with
    | non => cases ry; exact PySem.EqNone.ne_none_none (fin_bl I q (by simp))
    | bl j => cases ry; exact PySem.EqNone.ne_none_bool (fin_bl I q (by simp))
    | int j => obtain ⟨t', rfl⟩ := ry; exact PySem.EqNone.ne_none_int (fin_bl I q (by simp))
    | str j => obtain ⟨t', rfl⟩ := ry; exact PySem.EqNone.ne_none_str (fin_bl I q (by simp))
    | _ => exact absurd (show false = true from hs) Bool.false_ne_true
  | bl i =>
    cases rx
    cases y with
    | non => cases ry; exact PySem.EqNone.ne_bool_none (fin_bl I q (by simp))
    | bl j => cases ry; exact ne_bool (fin_bl I q (congrArg not dec_bl))
    | str j => obtain ⟨t', rfl⟩ := ry; exact PySem.EqMixed.ne_bool_str (fin_bl I q (by simp))
    | _ => exact absurd (show false = true from hs) Bool.false_ne_true
  | int i =>
    obtain ⟨t, rfl⟩ := rx
    cases y with
    | non => cases ry; exact PySem.EqNone.ne_int_none (fin_bl I q (by simp))
    | int j => obtain ⟨t', rfl⟩ := ry; exact ne_int (fin_bl I q (congrArg not dec_int))
    | str j => obtain ⟨t', rfl⟩ := ry; exact PySem.EqMixed.ne_int_str (fin_bl I q (by simp))
    | _ => exact absurd (show false = true from hs) Bool.false_ne_true
  | str i =>
    obtain ⟨t, rfl⟩ := rx
    cases y with
    | non => cases ry; exact PySem.EqNone.ne_str_none (fin_bl I q (by simp))
    | bl j => cases ry; exact PySem.EqMixed.ne_str_bool (fin_bl I q (by simp))
    | int j => obtain ⟨t', rfl⟩ := ry; exact PySem.EqMixed.ne_str_int (fin_bl I q (by simp))
    | str j => obtain ⟨t', rfl⟩ := ry; exact ne_str (fin_bl I q (congrArg not dec_str))
    | _ => exact absurd (show false = true from hs) Bool.false_ne_true
  | byt i =>
    obtain ⟨t, rfl⟩ := rx
    cases y with
    | byt j => obtain ⟨t', rfl⟩ := ry; exact PySem.W.ne_bytes (fin_bl I q (congrArg not dec_byt))
    | _ => exact absurd (show false = true from hs) Bool.false_ne_true
  | _ => cases y <;> exact absurd (show false = true from hs) Bool.false_ne_true

theorem op_lt : OpR X (compareOp .Lt) (rI0 fun i j => .bl (decide (i < j))) := opB0 fun _ _ _ _ _ _ _ q => lt_int q
theorem op_le : OpR X (compareOp .LtE) (rI0 fun i j => .bl (decide (i ≤ j))) := opB0 fun _ _ _ _ _ _ _ q => le_int q
theorem op_gt : OpR X (compareOp .Gt) (rI0 fun i j => .bl (decide (j < i))) := opB0 fun _ _ _ _ _ _ _ q => gt_int q
theorem op_ge : OpR X (compareOp .GtE) (rI0 fun i j => .bl (decide (j ≤ i))) := opB0 fun _ _ _ _ _ _ _ q => ge_int q
/-- is None, is not None: the right side a value none -/
theorem op_isN : OpR X (compareOp .Is) (fun x y H Q => y = .non ∧ Q (.bl (decide (x = .non))) H) := by
  intro pins s σ H x y v u Q I rx ry h
  obtain ⟨rfl, q⟩ := h
  cases ry
  refine is_none_gen (fin_bl I q ?_)
  cases x <;> first
    | (cases rx; rfl)
    | (obtain ⟨t, rfl⟩ := rx; rfl)
theorem op_notN : OpR X (compareOp .IsNot) (fun x y H Q => y = .non ∧ Q (.bl (!decide (x = .non))) H) := by
  intro pins s σ H x y v u Q I rx ry h
  obtain ⟨rfl, q⟩ := h
  cases ry
  refine isnot_none_gen (fin_bl I q ?_)
  cases x <;> first
    | (cases rx; rfl)
    | (obtain ⟨t, rfl⟩ := rx; rfl)

/-- two rules for one operation: by cases -/
theorem OpR.or {f : Value → Value → Sem Value} {r r' : R2} (h : OpR X f r) (h' : OpR X f r') : OpR X f (fun x y H Q => r x y H Q ∨ r' x y H Q) := by
  intro pins s σ H x y v u Q I rx ry q
  rcases q with q | q
  · exact h pins s σ H x y v u Q I rx ry q
  · exact h' pins s σ H x y v u Q I rx ry q

theorem nomark (b : Expr) {op : CmpOp} (h : op ≠ .In := by decide) (h2 : op ≠ .NotIn := by decide) : behindInMarks op b = false := by
  have e1 : (op == CmpOp.In) = false := by cases op <;> first | rfl | exact absurd rfl h
  have e2 : (op == CmpOp.NotIn) = false := by cases op <;> first | rfl | exact absurd rfl h2
  cases b <;> simp [behindInMarks, e1, e2]
/-- a comparison as a value; hm: nomark b, or (for in, not in) by with_unfolding_all rfl -/
theorem pe_cmpR {op : CmpOp} {r : R2} (ho : OpR X (compareOp op) r) (ha : PE X a ta) (hb : PE X b tb) (hm : behindInMarks op b = false) : PE X (.Compare a [op] [b] pos) (tOp r ta tb) := by
  constructor; intro pins s σ H Q I h
  exact wpAny_Compare1 (binT ha hb I h fun v u s2 x y H2 I2 rx ry q => ho pins s2 σ H2 x y v u Q I2 rx ry q) hm
/-- a reading of a value as a test -/
def tTest (t : TE) : TT := fun σ H Q => t σ H fun x H' => ∃ k, x = .bl k ∧ Q k H'
theorem pt_cmpR {op : CmpOp} {r : R2} (ho : OpR X (compareOp op) r) (ha : PE X a ta) (hb : PE X b tb) (hm : behindInMarks op b = false) : PT X (.Compare a [op] [b] pos) (tTest (tOp r ta tb)) := by
  constructor; intro pins s σ H Q I h
  refine wpAny_isTrue_Compare1 (thn (ha pins s σ H _ I h) fun v s1 ⟨x, H1, I1, r1, q1⟩ => thn (hb pins s1 σ H1 _ I1 q1) fun u s2 ⟨y, H2, I2, r2, q2⟩ =>
    thn (ho pins s2 σ H2 x y v u _ I2 r1 r2 q2) fun c s3 ⟨z, H3, I3, r3, k, e, q3⟩ => ?_) hm
  subst e
  cases r3
  exact wpAny_truthy_bool ⟨H3, I3, q3⟩
/-- a op1 b op2 c -/
def tChain (r r' : R2) (ta tb tc : TE) : TE := fun σ H Q => ta σ H fun x H1 => tb σ H1 fun y H2 => r x y H2 fun z H3 => ∃ k, z = .bl k ∧
  (if k = true then tc σ H3 fun w' H4 => r' y w' H4 Q else Q (.bl false) H3)
theorem pe_chain {op op' : CmpOp} {r r' : R2} (ho : OpR X (compareOp op) r) (ho' : OpR X (compareOp op') r') (ha : PE X a ta) (hb : PE X b tb) (hc : PE X c tc)
    (hm : lastMarks [op, op'] [b, c] = false := by with_unfolding_all rfl) : PE X (.Compare a [op, op'] [b, c] pos) (tChain r r' ta tb tc) := by
  constructor; intro pins s σ H Q I h
  refine Compare_chain (thn (ha pins s σ H _ I h) fun v s1 ⟨x, H1, I1, r1, q1⟩ => chain_link (thn (hb pins s1 σ H1 _ I1 q1) fun u s2 ⟨y, H2, I2, r2, q2⟩ =>
    thn (ho pins s2 σ H2 x y v u _ I2 r1 r2 q2) fun d s3 ⟨z, H3, I3, r3, k, e, q3⟩ => ?_)) hm
  subst e
  cases r3
  refine wpAny_truthy_bool ?_
  cases k with
  | false => exact ite_ff ⟨.bl false, H3, I3, rfl, q3⟩
  | true => exact ite_tt (chain_last (thn (hc pins s3 σ H3 _ I3 q3) fun w' s4 ⟨z', H4, I4, r4, q4⟩ => ho' pins s4 σ H4 y z' u w' Q I4 r2 r4 q4))
theorem pt_chain {op op' : CmpOp} {r r' : R2} (ho : OpR X (compareOp op) r) (ho' : OpR X (compareOp op') r') (ha : PE X a ta) (hb : PE X b tb) (hc : PE X c tc)
    (hm : lastMarks [op, op'] [b, c] = false := by with_unfolding_all rfl) : PT X (.Compare a [op, op'] [b, c] pos) (tTest (tChain r r' ta tb tc)) := by
  constructor; intro pins s σ H Q I h
  refine isTrue_chain (thn (ha pins s σ H _ I h) fun v s1 ⟨x, H1, I1, r1, q1⟩ => test_link (thn (hb pins s1 σ H1 _ I1 q1) fun u s2 ⟨y, H2, I2, r2, q2⟩ =>
    thn (ho pins s2 σ H2 x y v u _ I2 r1 r2 q2) fun d s3 ⟨z, H3, I3, r3, k, e, q3⟩ => ?_)) hm
  subst e
  cases r3
  refine wpAny_truthy_bool ?_
  cases k with
  | false =>
    obtain ⟨k', e', q'⟩ := q3
    cases e'
    exact ite_ff ⟨H3, I3, q'⟩
  | true =>
    refine ite_tt (test_last (thn (hc pins s3 σ H3 _ I3 q3) fun w' s4 ⟨z', H4, I4, r4, q4⟩ => thn (ho' pins s4 σ H4 y z' u w' _ I4 r2 r4 q4) fun d' s5 ⟨z2, H5, I5, r5, k2, e2, q5⟩ => ?_))
    subst e2
    cases r5
    exact wpAny_truthy_bool ⟨H5, I5, q5⟩

/-! ### truth -/
theorem line63 : (sizeLine : Nat) < 2 ^ 63 := by rw [sizeLine_eq]; decide
/-! ### strs and bytes -/
/-! ### scalar builtins, by CallR -/
theorem vals1 {x : V} {us : List Value} (r : Vals [x] us) : ∃ u, us = [u] ∧ RelV x u := by
  cases r with
  | cons r1 r2 => cases r2; exact ⟨_, rfl, r1⟩
theorem vals2 {x y : V} {us : List Value} (r : Vals [x, y] us) : ∃ u w', us = [u, w'] ∧ RelV x u ∧ RelV y w' := by
  cases r with
  | cons r1 r2 =>
    cases r2 with
    | cons r3 r4 => cases r4; exact ⟨_, _, rfl, r1, r3⟩
theorem call_max2 (hc : X.calm = true) : CallR X (.builtin "max") (fun xs H Q => ∃ i j, xs = [.int i, .int j] ∧ Q (.int (if j > i then j else i)) H) := by
  intro pins s σ H xs us Q I r h
  obtain ⟨i, j, rfl, q⟩ := h
  obtain ⟨u, w', rfl, ⟨t, rfl⟩, ⟨t', rfl⟩⟩ := vals2 r
  refine max_two_ints (I.ok.hd hc) fun h' tk k => ⟨_, H, I.kept k, ?_, q⟩
  by_cases hj : j > i
  · rw [if_pos hj, if_pos hj]; exact ⟨_, rfl⟩
  · rw [if_neg hj, if_neg hj]; exact ⟨_, rfl⟩
theorem call_min2 (hc : X.calm = true) : CallR X (.builtin "min") (fun xs H Q => ∃ i j, xs = [.int i, .int j] ∧ Q (.int (if j < i then j else i)) H) := by
  intro pins s σ H xs us Q I r h
  obtain ⟨i, j, rfl, q⟩ := h
  obtain ⟨u, w', rfl, ⟨t, rfl⟩, ⟨t', rfl⟩⟩ := vals2 r
  refine min_two_ints (I.ok.hd hc) fun h' tk k => ⟨_, H, I.kept k, ?_, q⟩
  by_cases hj : j < i
  · rw [if_pos hj, if_pos hj]; exact ⟨_, rfl⟩
  · rw [if_neg hj, if_neg hj]; exact ⟨_, rfl⟩
/-- len of a str, a bytes, a list, a tuple -/
def LenV (K : PySem.W.Frag) (x : V) (H : Hp) (n : Nat) : Prop :=
  match x with
  | .str y => y.length ≤ sizeLine ∧ n = y.length
  | .byt y => y.size ≤ sizeLine ∧ n = y.size
  | .ref p => (∃ xs, SqL K H p xs ∧ n = xs.length) ∨ ∃ xs, SqT K H p xs ∧ n = xs.length
  | _ => False
theorem call_len : CallR X (.builtin "len") (fun xs H Q => ∃ x n, xs = [x] ∧ LenV X.K x H n ∧ Q (.int n) H) := by
  intro pins s σ H xs us Q I r h
  obtain ⟨x, n, rfl, e, q⟩ := h
  obtain ⟨u, rfl, rx⟩ := vals1 r
  have hl := line63
  have hs : sizeLine = 16777216 := sizeLine_eq
  cases x with
  | str y =>
    obtain ⟨t, rfl⟩ := rx
    obtain ⟨hy, e'⟩ : y.length ≤ sizeLine ∧ n = y.length := e
    subst e'
    exact len_str (by omega) ⟨.int _, H, I.tok _, ⟨_, rfl⟩, q⟩
  | byt y =>
    obtain ⟨t, rfl⟩ := rx
    obtain ⟨hy, e'⟩ : y.size ≤ sizeLine ∧ n = y.size := e
    subst e'
    exact PySem.W.len_bytes (by omega) ⟨.int _, H, I.tok _, ⟨_, rfl⟩, q⟩
  | ref p =>
    cases rx
    have e' : (∃ xs, SqL X.K H p xs ∧ n = xs.length) ∨ ∃ xs, SqT X.K H p xs ∧ n = xs.length := e
    rcases e' with ⟨xs, hx, e'⟩ | ⟨xs, hx, e'⟩
    · subst e'
      obtain ⟨its, r', pl, hz⟩ := I.list hx
      have hlen := r'.length
      exact Calls.call_len_list pl.isList (by simp only [List.size_toArray]; omega) ⟨.int xs.length, H, I.tok _, ⟨_, by simp only [List.size_toArray]; rw [hlen]⟩, q⟩
    · subst e'
      obtain ⟨its, r', pl, hz⟩ := I.tuple hx
      have hlen := r'.length
      exact len_tuple pl (by simp only [List.size_toArray]; omega) ⟨.int xs.length, H, I.tok _, ⟨_, by simp only [List.size_toArray]; rw [hlen]⟩, q⟩
  | _ => exact (show False from e).elim
end
end L2

namespace L2
open PySem PySem.Spec PyProof.Rows

/-! ### an instance, its attributes a map -/
structure ObjM (h : Heap) (x dx C : Addr) (mA : Str → Option Value) : Prop where
  obj : h.get? x = some (PySem.W.instObj C dx)
  ns : h.Ns1 dx mA
  ne : dx ≠ x

theorem lookIn_ns {h : Heap} {dx : Addr} {mA : Str → Option Value} (n : h.Ns1 dx mA) : ∃ od, h.get? dx = some od ∧ ∀ name, PySem.W.lookIn name od = some (mA name) := by
  obtain ⟨o, es, ep, ho, hd, hk, _, hm⟩ := n
  refine ⟨o, ho, fun name => ?_⟩
  have e := hm name
  unfold nsFind findBy at e
  rw [← Array.find?_toList] at e
  unfold PySem.W.lookIn
  rw [hd]
  dsimp only
  split
  · rename_i y q
    rw [q] at e
    exact congrArg some e
  · rename_i q
    rw [q] at e
    have a : es.toList.any (·.refKey) = false := by
      rw [List.any_eq_false]
      intro y hy
      obtain ⟨z, t, hkey⟩ := hk y (Array.mem_toList_iff.mp hy)
      simp [DictEntry.refKey, hkey]
    have a' : ¬ es.toList.any (·.refKey) = true := by rw [a]; exact Bool.false_ne_true
    rw [if_neg a']
    exact congrArg some e

theorem ObjM.look {h : Heap} {x dx C : Addr} {mA : Str → Option Value} (I : ObjM h x dx C mA) : ∃ od, PySem.W.InstAt h x (PySem.W.instObj C dx) C (some od) ∧ ∀ name, PySem.W.lookIn name od = some (mA name) :=
  let ⟨od, ho, hl⟩ := lookIn_ns I.ns
  ⟨od, ⟨I.obj, rfl, rfl, ho⟩, hl⟩

section
variable {prog : Program} {w : World} {A : Around} {E : Value → Shared → Prop} {s : Shared} {K : PySem.W.Frag} {x dx C f : Addr} {mA : Str → Option Value} {name : Str} {v : Value}

theorem get_map {expr : Bool} {Q : Value → Shared → Prop} (X : K.In s.heap) (I : ObjM s.heap x dx C mA) (hg : PySem.W.plainGet K C name = true) (hh : PySem.W.hasDictIn K C = true)
    (ha : PySem.W.findIn K (.ref C) name = some none) (hv : mA name = some v) (hv' : PySem.W.handedIn v = true) (h : Q v { s with toks := s.toks + 1 }) :
    wpAny (model prog w) A (getAttr (.ref x) name expr) Q E s := by
  obtain ⟨od, J, hl⟩ := I.look
  exact PySem.W.get_value X J (PySem.W.plainGet_of hg).1 (PySem.W.findObj_own hh ha rfl (by rw [hl, hv])) hv' h

theorem set_map {ns : List Str} {Q : Unit → Shared → Prop} (X : K.In s.heap) (I : ObjM s.heap x dx C mA)
    (hs : PySem.W.findIn K (.ref C) "__setattr__" = some (some (.builtin "object.__setattr__"))) (hp : PySem.W.plainOver K C = true) (ht : PySem.W.takerIn K C name = some none) (hh : PySem.W.hasDictIn K C = true)
    (hw : PySem.Within mA ns) (hsz : ns.length ≤ sizeLine)
    (h : ∀ h', ObjM h' x dx C (fun y => if y = name then some v else mA y) → Heap.SameBut dx s.heap h' → Q () { s with heap := h', toks := s.toks + 2 }) :
    wpAny (model prog w) A (setAttr (.ref x) name v) Q E s := by
  obtain ⟨od, J, hl⟩ := I.look
  refine PySem.W.set_plain X J hs (PySem.W.osa_open (s := { s with toks := s.toks + 1 }) (r := none) X J hp ht fun b => ?_)
  obtain ⟨cd, hc, hd'⟩ := PySem.W.any_some hh
  have hx : s.heap.get? x = some ⟨.ref C, some dx, .plain, #[]⟩ := I.obj
  refine wpAny_bind (wpAny_pure (wpAny_bind (wpAny_bind (wpAny_loadPart hx (wpAny_bind (PySem.W.Looks.here (s := { s with toks := s.toks + 1 }) (PySem.W.looks_clsIn X hc) ?_))))))
  rw [hd']
  refine wpAny_pure (a := some dx) (wpAny_bind (wpAny_pure (wpAny_bind ?_)))
  refine wpAny_nsSet1 (s := { s with toks := s.toks + 1 }) I.ns fun h' hn2 hs2 => ?_
  obtain ⟨oD, esD, epD, hoD, hdD, hcD⟩ := hn2.count (PySem.Within.cons name v hw)
  refine wpAny_bind (wpAny_lookBehind hoD (by rw [hdD]; exact pastItsLine_dict (Nat.le_trans hcD (by rw [List.length_cons]; omega))) ?_)
  exact wpAny_pure (h _ ⟨(hs2.2 _ (Ne.symm I.ne)).trans I.obj, hn2, I.ne⟩ hs2)

/-- C(..): the dict at the heap's end, the instance behind it; then its __init__ -/
theorem make_map {R : Result → Shared → Prop} {vs : List Value} {kw : List (Str × Value)} (X : K.In s.heap) (hm : PySem.W.makesIn K C = true)
    (hi : PySem.W.findIn K (.ref C) "__init__" = some (some (.ref f))) (hf : PySem.W.typeIn K (.ref f) = some (.type "function"))
    (h : codeAny (model prog w) (A.under (.builtin "type.__call__" ⟨.ref C :: vs, kw⟩)) (.call (.ref f) ⟨.ref (s.heap.objs.size + 1) :: vs, kw⟩) (PySem.W.InitBack (s.heap.objs.size + 1) R)
      { s with heap := (s.heap.push PySem.W.emptyDict).push (PySem.W.instObj C s.heap.objs.size) }) :
    codeAny (model prog w) A (.call (.ref C) ⟨vs, kw⟩) R s := by
  obtain ⟨hh, g, d, t, os⟩ := s
  exact PySem.W.make_core (PySem.W.makes_of X hm) (PySem.W.looks_findIn X hi) (fun self => PySem.W.bind_fn X self hf) (.inl rfl) h
end

/-! ### the attributes as a list of pairs -/
def putF (f : Str) (v : V) : List (Str × V) → List (Str × V)
  | [] => [(f, v)]
  | (g, x) :: r => if g = f then (g, v) :: r else (g, x) :: putF f v r
theorem lookup_putF (f g : Str) (v : V) : ∀ fs : List (Str × V), (putF f v fs).lookup g = if g = f then some v else fs.lookup g
  | [] => by
    show List.lookup g [(f, v)] = _
    by_cases h : g = f
    · have hb : (g == f) = true := beq_iff_eq.mpr h
      simp only [List.lookup, hb, if_pos h]
    · have hb : (g == f) = false := beq_eq_false_iff_ne.mpr h
      simp only [List.lookup, hb, if_neg h]
  | (k, x) :: r => by
    have ih := lookup_putF f g v r
    rw [show putF f v ((k, x) :: r) = (if k = f then (k, v) :: r else (k, x) :: putF f v r) from rfl]
    by_cases hk : k = f
    · rw [if_pos hk]
      by_cases h : g = k
      · have hb : (g == k) = true := beq_iff_eq.mpr h
        simp only [List.lookup, hb, if_pos (h.trans hk)]
      · have hb : (g == k) = false := beq_eq_false_iff_ne.mpr h
        simp only [List.lookup, hb, if_neg (fun e : g = f => h (e.trans hk.symm))]
    · rw [if_neg hk]
      by_cases h : g = k
      · have hb : (g == k) = true := beq_iff_eq.mpr h
        simp only [List.lookup, hb, if_neg (fun e : g = f => hk (h.symm.trans e))]
      · have hb : (g == k) = false := beq_eq_false_iff_ne.mpr h
        simp only [List.lookup, hb]
        exact ih
theorem keys_putF (f : Str) (v : V) : ∀ fs : List (Str × V), f ∈ (putF f v fs).map (·.1) ∧ ∀ g, g ∈ fs.map (·.1) → g ∈ (putF f v fs).map (·.1)
  | [] => ⟨by simp [putF], fun g h => by simp at h⟩
  | (k, x) :: r => by
    obtain ⟨i1, i2⟩ := keys_putF f v r
    rw [show putF f v ((k, x) :: r) = (if k = f then (k, v) :: r else (k, x) :: putF f v r) from rfl]
    by_cases hk : k = f
    · rw [if_pos hk]
      subst hk
      exact ⟨by simp, fun g h => by simpa using h⟩
    · rw [if_neg hk]
      refine ⟨?_, fun g h => ?_⟩
      · rw [List.map_cons]
        exact List.mem_cons_of_mem _ i1
      · rw [List.map_cons] at h ⊢
        rcases List.mem_cons.mp h with e | e
        · exact List.mem_cons.mpr (.inl e)
        · exact List.mem_cons_of_mem _ (i2 g e)
theorem length_putF (f : Str) (v : V) : ∀ fs : List (Str × V), (putF f v fs).length ≤ fs.length + 1
  | [] => by simp [putF]
  | (k, x) :: r => by
    have ih := length_putF f v r
    rw [show putF f v ((k, x) :: r) = (if k = f then (k, v) :: r else (k, x) :: putF f v r) from rfl]
    by_cases hk : k = f
    · rw [if_pos hk, List.length_cons, List.length_cons]; omega
    · rw [if_neg hk, List.length_cons, List.length_cons]; omega

theorem RelO.some_of {v : V} {o : Option Value} (r : RelO (some v) o) : ∃ u, o = some u ∧ RelV v u := by
  cases o with
  | none => exact (show False from r).elim
  | some u => exact ⟨u, rfl, r⟩
theorem RelO.none_of {o : Option Value} (r : RelO none o) : o = none := by
  cases o with
  | none => rfl
  | some u => exact (show False from r).elim
theorem handed_of {v : V} {u : Value} (r : RelV v u) : PySem.W.handedIn u = true := by
  cases v with
  | non => cases (show u = Value.none from r); rfl
  | bl b => cases (show u = Value.bool b from r); rfl
  | int i => obtain ⟨t, e⟩ := (show ∃ t, u = Value.int i t from r); cases e; rfl
  | str x => obtain ⟨t, e⟩ := (show ∃ t, u = Value.str x t from r); cases e; rfl
  | byt b => obtain ⟨t, e⟩ := (show ∃ t, u = Value.bytes b t from r); cases e; rfl
  | flt b => obtain ⟨t, e⟩ := (show ∃ t, u = Value.float b t from r); cases e; rfl
  | ref a => cases (show u = Value.ref a from r); rfl
  | ty n => cases (show u = Value.type n from r); rfl

section
variable {P : Program} {w : World} {H H' : Hp} {h h' : Heap} {a C dx : Addr} {fs fs' : List (Str × V)}
theorem ins_get (hok : HOk P w H h) (e : H a = some (.ins C dx fs)) : ∃ mA, ObjM h a dx C mA ∧ (∀ f, RelO (fs.lookup f) (mA f)) ∧ PySem.Within mA (fs.map (·.1)) ∧ fs.length ≤ 1000 ∧ H dx = some (.own a) := by
  obtain ⟨d, z, ne, ob, mA, n, r, q⟩ := (show ObjOk P w H h a (.ins C dx fs) from hok a _ e)
  exact ⟨mA, ⟨ob, n, ne⟩, r, q, z, d⟩
end

/-! ### what of the text a class must have -/
structure Cls (K : PySem.W.Frag) (C : Addr) : Prop where
  pg : PySem.W.plainGet K C Str.empty = true
  hd : PySem.W.hasDictIn K C = true
  po : PySem.W.plainOver K C = true
  sa : PySem.W.findIn K (.ref C) "__setattr__" = some (some (.builtin "object.__setattr__"))
theorem Cls.get {K : PySem.W.Frag} {C : Addr} (c : Cls K C) (f : Str) : PySem.W.plainGet K C f = true := c.pg
/-- no class of it has the name -/
def NoAttr (K : PySem.W.Frag) (C : Addr) (f : Str) : Prop := PySem.W.findIn K (.ref C) f = some none
theorem NoAttr.taker {K : PySem.W.Frag} {C : Addr} {f : Str} (n : NoAttr K C f) : PySem.W.takerIn K C f = some none := by
  unfold PySem.W.takerIn
  rw [show PySem.W.findIn K (.ref C) f = some none from n]
  rfl
/-- a constant of the class -/
structure Con (K : PySem.W.Frag) (C : Addr) (f : Str) (v : V) (u : Value) : Prop where
  at_ : PySem.W.findIn K (.ref C) f = some (some u)
  rel : RelV v u
  get : PySem.W.specialIn K u "__get__" = some none
  cp : PySem.W.copiedNames.contains f = false
/-- a method: a plain def of the class or of one above it -/
structure Meth (K : PySem.W.Frag) (C : Addr) (m : Str) (f : Addr) : Prop where
  at_ : PySem.W.findIn K (.ref C) m = some (some (.ref f))
  fn : PySem.W.isFn K (.ref f) = true
  kp : PySem.W.keepIn K (.ref f) = true

section
variable {X : Cx} {pins : List (Addr × Obj)} {σ : St} {H : Hp} {s : Shared} {a C dx : Addr} {fs : List (Str × V)} {f : Str} {v : V} {A : Around} {E : Value → Shared → Prop}

theorem getattr_ok {b : Bool} {Q : Value → Shared → Prop} (I : Inv X pins σ H s) (e : H a = some (.ins C dx fs)) (c : Cls X.K C) (n : NoAttr X.K C f) (l : fs.lookup f = some v)
    (h : ∀ u s', Inv X pins σ H s' → RelV v u → Q u s') : wpAny (model X.prog X.w) A (getAttr (.ref a) f b) Q E s := by
  obtain ⟨mA, O, r, _, _, _⟩ := ins_get I.hok e
  obtain ⟨u, hu, ru⟩ := RelO.some_of (v := v) (o := mA f) (by rw [← l]; exact r f)
  exact get_map I.kIn O (c.get f) c.hd n hu (handed_of ru) (h u _ (I.tok _) ru)

theorem setattr_ok {y : V} {u : Value} {Q : Unit → Shared → Prop} (I : Inv X pins σ H s) (e : H a = some (.ins C dx fs)) (c : Cls X.K C) (n : NoAttr X.K C f) (hl : fs.length < 1000) (ry : RelV y u)
    (h : ∀ s', Inv X pins σ (upd H a (.ins C dx (putF f y fs))) s' → Q () s') : wpAny (model X.prog X.w) A (setAttr (.ref a) f u) Q E s := by
  obtain ⟨mA, O, r, wi, _, ho⟩ := ins_get I.hok e
  have hz : (fs.map (·.1)).length ≤ sizeLine := by rw [List.length_map, sizeLine_eq]; omega
  refine set_map I.kIn O c.sa c.po n.taker c.hd wi hz fun h' O' sb => h _ ?_
  have hd : ∃ o, h'.get? dx = some o := let ⟨o, _, _, e', _⟩ := O'.ns; ⟨o, e'⟩
  refine I.write (x := a) (e := dx) (by rw [e]; exact True.intro) (.inr ho) (fun b q hb z => (sb.2 b hb).trans z) hd ?_
  refine ⟨by rw [upd_ne O.ne]; exact ho, ?_, O.ne, O'.obj, _, O'.ns, fun g => ?_, fun g hg => ?_⟩
  · have := length_putF f y fs; omega
  · show RelO ((putF f y fs).lookup g) (if g = f then some u else mA g)
    rw [lookup_putF]
    by_cases q : g = f
    · rw [if_pos q, if_pos q]; exact ry
    · rw [if_neg q, if_neg q]; exact r g
  · by_cases q : g = f
    · rw [q]; exact (keys_putF f y fs).1
    · refine (keys_putF f y fs).2 g (wi g fun z => hg ?_)
      show (if g = f then some u else mA g) = none
      rw [if_neg q]; exact z

/-- a new instance, tracked, without attributes -/
theorem Inv.made (I : Inv X pins σ H s) : Inv X pins σ (upd (upd H s.heap.objs.size (.own (s.heap.objs.size + 1))) (s.heap.objs.size + 1) (.ins C s.heap.objs.size []))
    { s with heap := (s.heap.push PySem.W.emptyDict).push (PySem.W.instObj C s.heap.objs.size) } := by
  have e1 : (s.heap.push PySem.W.emptyDict).get? s.heap.objs.size = some PySem.W.emptyDict := Heap.get?_push_size s.heap rfl
  have e2 : ((s.heap.push PySem.W.emptyDict).push (PySem.W.instObj C s.heap.objs.size)).get? (s.heap.objs.size + 1) = some (PySem.W.instObj C s.heap.objs.size) := by
    have := Heap.get?_push_size (s.heap.push PySem.W.emptyDict) (o := PySem.W.instObj C s.heap.objs.size) rfl
    rwa [Heap.size_push] at this
  have e3 : (s.heap.push PySem.W.emptyDict).Ns s.heap.objs.size (fun _ => none) := ⟨PySem.W.emptyDict, #[], _, e1, rfl, (fun e he => absurd he (by simp)), fun _ => rfl⟩
  have I1 := I.laid (a := s.heap.objs.size) (o := .own (s.heap.objs.size + 1)) (h' := s.heap.push PySem.W.emptyDict) (t' := s.toks) (fun b u q => Heap.get?_push_of_some _ q) (Nat.le_refl _) ⟨_, e1⟩
  refine I1.laid (a := s.heap.objs.size + 1) (o := .ins C s.heap.objs.size []) (t' := s.toks) (fun b u q => Heap.get?_push_of_some _ q) (Nat.le_of_eq (Heap.size_push _ _)) ?_
  have ne : s.heap.objs.size ≠ s.heap.objs.size + 1 := Nat.ne_of_lt (Nat.lt_succ_self _)
  refine ⟨by rw [upd_ne ne, upd_same], Nat.zero_le _, ne, e2, fun _ => none, (Heap.Ns1.of_empty e3).at fun o q => Heap.get?_push_of_some _ q, fun _ => True.intro, fun y hy => absurd rfl hy⟩

/-- e.f where nothing but the object is asked: through attributeBase (super) and the last hold -/
theorem attr_of {prog : Program} {w : World} {env : Env} {e : Expr} {f : Str} {pos : Pos} {s : Shared} {Q : Value → Shared → Prop} (hb : attributeBase e f env (eval e env) = eval e env)
    (h : wpAny (model prog w) A (eval e env) (fun o s₁ => wpAny (model prog w) A (getAttr o f true) Q E s₁) E s) : wpAny (model prog w) A (eval (.Attribute e f pos) env) Q E s :=
  Attribute_any_ h (by rw [arm_eval_Attribute, hb])
end

/-! ### readings and rules -/
/-- e.f, an attribute of the instance -/
def tFld (K : PySem.W.Frag) (ta : TE) (f : Str) : TE := fun σ H Q => ta σ H fun x H1 => ∃ a C dx fs v, x = .ref a ∧ H1 a = some (.ins C dx fs) ∧ Cls K C ∧ NoAttr K C f ∧ fs.lookup f = some v ∧ Q v H1
/-- e.f = value -/
def sFld (K : PySem.W.Frag) (ta tv : TE) (f : Str) : TS := fun D σ H => tv σ H fun y H1 => ta σ H1 fun x H2 => ∃ a C dx fs, x = .ref a ∧ H2 a = some (.ins C dx fs) ∧ Cls K C ∧ NoAttr K C f ∧ fs.length < 1000 ∧
  D.nx σ (upd H2 a (.ins C dx (putF f y fs)))
section
variable {X : Cx} {o e value : Expr} {f : Str} {pos pos' tpos : Pos} {ta tv : TE}
theorem pe_fld (he : PE X e ta) (hb : attributeBase e f X.env (eval e X.env) = eval e X.env) : PE X (.Attribute e f pos) (tFld X.K ta f) := by
  constructor; intro pins s σ H Q I h
  refine attr_of hb (thn (he pins s σ H _ I h) fun u s1 ⟨x, H1, I1, rx, a, C, dx, fs, v, ex, ea, c, n, l, q⟩ => ?_)
  subst ex
  obtain rfl : u = Value.ref a := rx
  exact getattr_ok I1 ea c n l fun u' s2 I2 ru => ⟨v, H1, I2, ru, q⟩
theorem ps_fld (ha : PE X o ta) (hv : PE X value tv) (hs : swapsWith value (some (.Attribute o f pos')) pos.line X.env = pure false) : PS X (.Assign [.Attribute o f pos'] value pos) (sFld X.K ta tv f) := by
  constructor; intro pins s σ H D I h
  refine plainObj_wpAny_Assign_Attribute (thn (hv pins s σ H _ I h) fun u s1 ⟨y, H1, I1, ry, q⟩ => thn (ha pins s1 σ H1 _ I1 q) fun ov s2 ⟨x, H2, I2, rx, a, C, dx, fs, ex, ea, c, n, l, q2⟩ => ?_) hs
  subst ex
  obtain rfl : ov = Value.ref a := rx
  exact setattr_ok I2 ea c n l ry fun s3 I3 => ⟨σ, _, I3, q2⟩
end

/-! ### isinstance -/
section
variable {X : Cx} {pins : List (Addr × Obj)} {σ : St} {H : Hp} {s : Shared} {A : Around} {E : Value → Shared → Prop} {Q : Value → Shared → Prop} {c : Value} {b : Bool}
/-- the type of a value, as the fragment's deciders take it; for an instance its class -/
inductive TyOf (K : PySem.W.Frag) (H : Hp) : V → Value → Prop where
  | non : TyOf K H .non (.type "NoneType")
  | bl (x : Bool) : TyOf K H (.bl x) (.type "bool")
  | int (i : Int) : TyOf K H (.int i) (.type "int")
  | str (x : Str) : TyOf K H (.str x) (.type "str")
  | flt (x : UInt64) : TyOf K H (.flt x) (.type "float")
  | lst {a : Addr} {xs : List V} (e : H a = some (.lst xs)) : TyOf K H (.ref a) (.type "list")
  | frz {a : Addr} {o : Obj} {xs : List V} (e : H a = some (.frz o (.lst xs))) : TyOf K H (.ref a) (.type "list")
  | tup {a : Addr} {xs : List V} (e : H a = some (.tup xs)) : TyOf K H (.ref a) (.type "tuple")
  | dK {a : Addr} {kvs : List (Key × V)} (e : H a = some (.dK kvs)) : TyOf K H (.ref a) (.type "dict")
  | dT {a : Addr} {kvs : List (List Key × V)} (e : H a = some (.dT kvs)) : TyOf K H (.ref a) (.type "dict")
  | ins {a C dx : Addr} {fs : List (Str × V)} (e : H a = some (.ins C dx fs)) (cl : Cls K C) (ha : PySem.W.findIn K (.ref C) "__class__" = some (some (.builtin "object.__class__")))
      (hn : PySem.W.specialIn K (.builtin "object.__class__") "__get__" = some (some (.builtin "getset_descriptor.__get__"))) (htk : PySem.W.takesIn K (.builtin "object.__class__") = some true)
      (hm : PySem.W.mroIn K C (.type "object") = some true) : TyOf K H (.ref a) (.ref C)
/-- isinstance(x, c) for one class c, a built-in or an own one: kitOne's answer -/
theorem isinst_ok {x : V} {u t : Value} (I : Inv X pins σ H s) (rx : RelV x u) (ty : TyOf X.K H x t) (e : PySem.W.kitOne X.K t c = some b) (h : ∀ tk, Q (.bool b) { s with toks := tk }) :
    wpAny (model X.prog X.w) A (call (.builtin "isinstance") [u, c]) Q E s := by
  cases ty with
  | non => cases (show u = Value.none from rx); exact PySem.W.kia_one PySem.W.kitx_none I.kIn True.intro e (fun z => nomatch z) h
  | bl y => cases (show u = Value.bool y from rx); exact PySem.W.kia_one PySem.W.kitx_bool I.kIn True.intro e (fun z => nomatch z) h
  | int i => obtain ⟨t, q⟩ := (show ∃ t, u = Value.int i t from rx); cases q; exact PySem.W.kia_one PySem.W.kitx_int I.kIn True.intro e (fun z => nomatch z) h
  | str y => obtain ⟨t, q⟩ := (show ∃ t, u = Value.str y t from rx); cases q; exact PySem.W.kia_one PySem.W.kitx_str I.kIn True.intro e (fun z => nomatch z) h
  | flt y => obtain ⟨t, q⟩ := (show ∃ t, u = Value.float y t from rx); cases q; exact PySem.W.kia_one PySem.W.kitx_float I.kIn True.intro e (fun z => nomatch z) h
  | @lst a xs ea =>
    cases (show u = Value.ref a from rx)
    obtain ⟨_, _, n, _, h1⟩ := (show ObjOk X.prog X.w H s.heap a (.lst xs) from I.hok a _ ea)
    exact PySem.W.kia_one PySem.W.kitx_list I.kIn ⟨_, h1, rfl⟩ e (fun z => nomatch z) h
  | @frz a ob xs ea =>
    cases (show u = Value.ref a from rx)
    obtain ⟨_, _, _, n, _, h1⟩ := (show ObjOk X.prog X.w H s.heap a (.frz ob (.lst xs)) from I.hok a _ ea)
    exact PySem.W.kia_one PySem.W.kitx_list I.kIn ⟨_, h1, rfl⟩ e (fun z => nomatch z) h
  | @tup a xs ea =>
    cases (show u = Value.ref a from rx)
    obtain ⟨_, _, _, p⟩ := (show ObjOk X.prog X.w H s.heap a (.tup xs) from I.hok a _ ea)
    obtain ⟨o, h1, h2, _⟩ := p
    exact PySem.W.kia_one PySem.W.kitx_tuple I.kIn ⟨o, h1, h2⟩ e (fun z => nomatch z) h
  | @dK a kvs ea =>
    cases (show u = Value.ref a from rx)
    obtain ⟨_, _, vs, _, p⟩ := (show ObjOk X.prog X.w H s.heap a (.dK kvs) from I.hok a _ ea)
    obtain ⟨o, es, ep, h1, h2, _⟩ := p
    exact PySem.W.kia_one PySem.W.kitx_dict I.kIn ⟨o, h1, h2.1⟩ e (fun z => nomatch z) h
  | @dT a kvs ea =>
    cases (show u = Value.ref a from rx)
    obtain ⟨_, _, xs, _, o, es, ep, h1, h2, _⟩ := (show ObjOk X.prog X.w H s.heap a (.dT kvs) from I.hok a _ ea)
    exact PySem.W.kia_one PySem.W.kitx_dict I.kIn ⟨o, h1, h2.1⟩ e (fun z => nomatch z) h
  | @ins a C dx fs ea cl ha hn htk hm =>
    cases (show u = Value.ref a from rx)
    obtain ⟨mA, O, _⟩ := ins_get I.hok ea
    obtain ⟨od, J, _⟩ := O.look
    exact PySem.W.kia_one (PySem.W.kitx_own (cl.get _) cl.hd ha hn htk hm) I.kIn J e (fun z => nomatch z) h
end
end L2

namespace L2
open PySem PySem.Spec PyProof.Rows

/-! ### room -/
structure Room (k : Nat) (A : Around) : Prop where
  hd : A.handled = none
  dp : A.depth + 3 * k + 5 < recursionLimit
  un : A.units + 16 * k + 200 < cLine
theorem Room.mono {j k : Nat} {A : Around} (r : Room k A) (h : j ≤ k) : Room j A := ⟨r.hd, by have := r.dp; omega, by have := r.un; omega⟩
theorem Room.deeper {k : Nat} {A : Around} (r : Room (k + 1) A) (env : Env) : Room k (A.deeper env) :=
  ⟨r.hd, by have := r.dp; show A.depth + 1 + 3 * k + 5 < _; omega, by have := r.un; show A.units + 3 + 16 * k + 200 < _; omega⟩
theorem Room.in1 {k : Nat} {A : Around} (r : Room (k + 1) A) : Room k A.in1 :=
  ⟨r.hd, by have := r.dp; show A.depth + 3 * k + 5 < _; omega, by have := r.un; show A.units + 1 + 16 * k + 200 < _; omega⟩
theorem make_depth {A : Around} {C : Addr} {us : List Value} {kw : List (Str × Value)} : (A.under (.builtin "type.__call__" ⟨.ref C :: us, kw⟩)).depth = A.depth + 1 := by
  first | rfl | simp [Around.under, Code.weight, Code.isCreation, Code.isGuard, Code.isCaller, Code.frames, Code.isFrame, guardIds]
theorem make_units {A : Around} {C : Addr} {us : List Value} {kw : List (Str × Value)} : (A.under (.builtin "type.__call__" ⟨.ref C :: us, kw⟩)).units = A.units + 1 := by
  first | rfl | simp [Around.under, Code.cUnits, Code.frames, Code.isFrame]
theorem Room.make {k : Nat} {A : Around} (r : Room (k + 1) A) (C : Addr) (us : List Value) (kw : List (Str × Value)) : Room k (A.under (.builtin "type.__call__" ⟨.ref C :: us, kw⟩)) :=
  ⟨r.hd, by have := r.dp; rw [make_depth]; omega, by have := r.un; rw [make_units]; omega⟩
theorem Room.depth {k : Nat} {A : Around} (r : Room k A) : A.depth < recursionLimit := by have := r.dp; omega
theorem Room.units {k : Nat} {A : Around} (r : Room k A) : A.units + 64 < cLine := by have := r.un; omega
/-! ### argument lists and displays -/
def tNil : TA := fun _ H Q => Q [] H
def tCons (ta : TE) (tr : TA) : TA := fun σ H Q => ta σ H fun x H1 => tr σ H1 fun xs H2 => Q (x :: xs) H2
section
variable {X : Cx} {e : Expr} {es : List Expr} {te : TE} {t : TA} {pos : Pos}
theorem pa_nil : PA X [] tNil := ⟨fun _ _ _ _ H Q I h => Calls.spliced_nil ⟨[], H, I, .nil, h⟩⟩
theorem pa_cons (ha : PE X e te) (hr : PA X es t) (hs : starEach (e :: es) X.env = (false, eval e X.env) :: starEach es X.env := by rfl) : PA X (e :: es) (tCons te t) := by
  constructor; intro pos pins s σ H Q I h
  rw [hs]
  show wpAny _ _ (spliced ((false, eval e X.env) :: backTo pos (starEach es X.env))) _ _ s
  refine Calls.spliced_cons (thn (ha pins s σ H _ I h) fun u s1 ⟨x, H1, I1, r1, q1⟩ => ?_)
  exact thn (hr pos pins s1 σ H1 _ I1 q1) fun us s2 ⟨xs, H2, I2, r2, q2⟩ => ⟨x :: xs, H2, I2, .cons r1 r2, q2⟩

/-- a tuple, a list of written items -/
def tTup (t : TA) : TE := fun σ H Q => t σ H fun xs H1 => xs.length ≤ sizeLine ∧ ∀ p, H1 p = none → Q (.ref p) (upd H1 p (.tup xs))
def tLst (t : TA) : TE := fun σ H Q => t σ H fun xs H1 => xs.length ≤ sizeLine ∧ ∀ p, H1 p = none → Q (.ref p) (upd H1 p (.lst xs))
theorem pe_tup {x1} (h : PA X es t) : PE X (.Tuple es x1 pos) (tTup t) := by
  constructor; intro pins s σ H Q I hq
  refine wpAny_Tuple_spliced (thn (h pos pins s σ H _ I hq) fun us s1 ⟨xs, H1, I1, r, z, q⟩ => ⟨by rw [← r.length]; exact z, ?_⟩)
  have hf : H1 s1.heap.objs.size = none := I1.hok.fresh (Nat.le_refl _)
  refine ⟨.ref s1.heap.objs.size, upd H1 s1.heap.objs.size (.tup xs), I1.laid (t' := s1.toks) (fun b u e => Heap.get?_push_of_some _ e) (Nat.le_refl _) ?_, rfl, q _ hf⟩
  exact ⟨z, us, r, ⟨_, Heap.get?_push_size _ rfl, rfl, _, rfl⟩⟩
theorem pe_lst (h : PA X es t) : PE X (.List es pos) (tLst t) := by
  constructor; intro pins s σ H Q I hq
  refine wpAny_List_spliced (thn (h pos pins s σ H _ I hq) fun us s1 ⟨xs, H1, I1, r, z, q⟩ => ⟨by rw [← r.length]; exact z, ?_⟩)
  have hf : H1 s1.heap.objs.size = none := I1.hok.fresh (Nat.le_refl _)
  refine ⟨.ref s1.heap.objs.size, upd H1 s1.heap.objs.size (.lst xs), I1.laid (t' := s1.toks) (fun b u e => Heap.get?_push_of_some _ e) (Nat.le_refl _) ?_, rfl, q _ hf⟩
  exact ⟨z, us, 0, r, Heap.get?_push_size _ rfl⟩
end

/-! ### what a def promises -/
/-- a def's promise: the bound arguments in the parameters' order, the heap, the wanted end, the wanted exception -/
abbrev Sp := List V → Hp → VK → XK → Prop
/-- how an exception lies behind a call (file 08 gives it): the callers' frames, abstract heap and state ahead of the call, the wish, the exception, the state -/
abbrev CXT := List Env → Hp → Shared → XK → Value → Shared → Prop

/-- the state at a call -/
structure Env0 (P : Program) (w : World) (K : PySem.W.Frag) (mg : Str → Option Value) (base : Heap) (A : Around) (outer : List Env) (s : Shared) (H : Hp) : Prop where
  frames : A.frames = some outer
  mod : Mod K mg base
  bs : ∀ b o, base.get? b = some o → s.heap.get? b = some o ∧ H b = none
  bsz : base.objs.size ≤ s.heap.objs.size
  funs : s.heap.FunFrames base outer
  frf : ∀ b ∈ frs outer, H b = none
  hok : HOk P w H s.heap
  bare : AllBare s.gens
/-- a call's end -/
def CE (outer : List Env) (P : Program) (w : World) (H : Hp) (s : Shared) (Q : VK) (u : Value) (s' : Shared) : Prop :=
  ∃ v H', s'.os = s.os ∧ AllBare s'.gens ∧ Un (frs outer) [] H H' s.heap s'.heap ∧ HOk P w H' s'.heap ∧ RelV v u ∧ Q v H'
def CR (CX : CXT) (outer : List Env) (P : Program) (w : World) (H : Hp) (s : Shared) (Q : VK) (E : XK) (r : Result) (s' : Shared) : Prop :=
  match r with
  | .ok (.ret u) => CE outer P w H s Q u s'
  | .ok _ => False
  | .error e => CX outer H s E e s'
structure FnOk (P : Program) (w : World) (K : PySem.W.Frag) (mg : Str → Option Value) (base : Heap) (CX : CXT) (k : Nat) (f : Addr) (fd : FuncData) (ps : List Str) (sp : Sp) : Prop where
  len : ∀ vs H Q E, sp vs H Q E → vs.length = ps.length
  run : ∀ (A : Around) (outer : List Env) (s : Shared) (H : Hp) (args : Args) (us : List Value) (vs : List V) (Q : VK) (E : XK), Room k A → Env0 P w K mg base A outer s H → BindsTo s fd args (ps.zip us) → Vals vs us → sp vs H Q E →
    codeAny (model P w) A (.call (.ref f) args) (CR CX outer P w H s Q E) s
theorem FnOk.mono {P : Program} {w : World} {K : PySem.W.Frag} {mg : Str → Option Value} {base : Heap} {CX : CXT} {j k : Nat} {f : Addr} {fd : FuncData} {ps : List Str} {sp : Sp} (F : FnOk P w K mg base CX j f fd ps sp) (h : j ≤ k) :
    FnOk P w K mg base CX k f fd ps sp := ⟨F.len, fun A outer s H args us vs Q E hr => F.run A outer s H args us vs Q E (hr.mono h)⟩
/-- a weaker promise -/
theorem FnOk.imp {P : Program} {w : World} {K : PySem.W.Frag} {mg : Str → Option Value} {base : Heap} {CX : CXT} {k : Nat} {f : Addr} {fd : FuncData} {ps : List Str} {sp sp' : Sp} (F : FnOk P w K mg base CX k f fd ps sp)
    (h : ∀ vs H Q E, sp' vs H Q E → sp vs H Q E) : FnOk P w K mg base CX k f fd ps sp' :=
  ⟨fun vs H Q E q => F.len vs H Q E (h _ _ _ _ q), fun A outer s H args us vs Q E hr he hb hv hs => F.run A outer s H args us vs Q E hr he hb hv (h _ _ _ _ hs)⟩

theorem Env0.make {P : Program} {w : World} {K : PySem.W.Frag} {mg : Str → Option Value} {base : Heap} {A : Around} {outer : List Env} {s : Shared} {H : Hp} (e : Env0 P w K mg base A outer s H) (C : Addr) (us : List Value) (kw : List (Str × Value)) :
    Env0 P w K mg base (A.under (.builtin "type.__call__" ⟨.ref C :: us, kw⟩)) outer s H := ⟨by first | exact e.frames | (simpa [Around.under, Code.envs, Code.isFrame, pushEnvs] using e.frames), e.mod, e.bs, e.bsz, e.funs, e.frf, e.hok, e.bare⟩
theorem Env0.in1 {P : Program} {w : World} {K : PySem.W.Frag} {mg : Str → Option Value} {base : Heap} {A : Around} {outer : List Env} {s : Shared} {H : Hp} (e : Env0 P w K mg base A outer s H) :
    Env0 P w K mg base A.in1 outer s H := ⟨e.frames, e.mod, e.bs, e.bsz, e.funs, e.frf, e.hok, e.bare⟩

section
variable {X : Cx} {pins : List (Addr × Obj)} {σ : St} {H : Hp} {s s' : Shared}
/-- from a body: what a callee wants -/
theorem Inv.env0 (I : Inv X pins σ H s) : Env0 X.prog X.w X.K X.mg X.base X.A X.stack s H :=
  ⟨I.ok.frames, I.ok.mod, I.bs, Nat.le_trans I.ok.bsz I.sz, I.stack, I.stkFree, I.hok, I.bare⟩
/-- behind a call -/
theorem Inv.after {Q : VK} {u : Value} (I : Inv X pins σ H s) (h : CE X.stack X.prog X.w H s Q u s') : EP X pins σ Q u s' := by
  obtain ⟨v, H', os, bare, un, hok, r, q⟩ := h
  obtain ⟨hh, g, d, t, os'⟩ := s'
  obtain rfl : os' = s.os := os
  exact ⟨v, H', I.call (h' := hh) (g' := g) (d' := d) (t' := t) (ch := []) un hok bare (fun b z => absurd z (by simp)), r, q⟩
end

/-! ### calls -/
/-- f(..): the written arguments, then the defaults dvs; E: what is wanted of an exception -/
def tCall (sp : Sp) (dvs : List V) (E : XK) (t : TA) : TE := fun σ H Q => t σ H fun vs H1 => sp (vs ++ dvs) H1 Q E
/-- C(..): a new instance and its dict, then __init__ -/
def tMake (C : Addr) (sp : Sp) (dvs : List V) (E : XK) (t : TA) : TE := fun σ H Q => t σ H fun vs H1 => ∀ x dx, H1 x = none → H1 dx = none → dx ≠ x →
  sp (.ref x :: (vs ++ dvs)) (upd (upd H1 dx (.own x)) x (.ins C dx [])) (fun v H2 => v = .non ∧ Q (.ref x) H2) E

/-- how the parameters are bound: us the positional arguments, kw the keywords' values by name, ds the defaults that fill up -/
def Binds (K : PySem.W.Frag) (fd : FuncData) (ps : List Str) (ds : List Value) : Prop :=
  ∀ (s : Shared) (us : List Value), K.In s.heap → (us ++ ds).length = ps.length → BindsTo s fd ⟨us, []⟩ (ps.zip (us ++ ds))
/-- every parameter is given -/
theorem Binds.all {K : PySem.W.Frag} {fd : FuncData} {ps : List Str} (h : ∀ us : List Value, us.length = ps.length → bindArgs fd ⟨us, []⟩ = pure (ps.zip us)) : Binds K fd ps [] := fun s us _ hl => by
  rw [List.append_nil] at hl ⊢
  exact .of_eq (h us hl)

/-- an exception of a callee reaches what this body wants of exceptions -/
def Passes (CX : CXT) (X : Cx) (E : XK) : Prop := ∀ (pins : List (Addr × Obj)) (σ : St) (H : Hp) (s : Shared) (e : Value) (s' : Shared), Inv X pins σ H s → CX X.stack H s E e s' → X.xe e s'

section
variable {X : Cx} {CX : CXT} {k : Nat} {f C : Addr} {fd : FuncData} {ps : List Str} {sp : Sp} {dvs : List V} {ds : List Value} {E : XK} {x m : Str} {p pos apos : Pos} {e o : Expr} {es : List Expr} {ta : TE} {t : TA}

/-- the callee runs -/
theorem run_fn {pins : List (Addr × Obj)} {σ : St} {H : Hp} {s : Shared} {Q : VK} {us : List Value} {vs : List V} (F : FnOk X.prog X.w X.K X.mg X.base CX k f fd ps sp) (hr : Room k X.A) (hb : Binds X.K fd ps ds) (hd : Vals dvs ds) (hx : Passes CX X E)
    (I : Inv X pins σ H s) (r : Vals vs us) (h : sp (vs ++ dvs) H Q E) : wpAny (model X.prog X.w) X.A (call (.ref f) us) (EP X pins σ Q) X.xe s := by
  have r2 : Vals (vs ++ dvs) (us ++ ds) := r.append hd
  have hl : (us ++ ds).length = ps.length := by rw [← r2.length]; exact F.len _ _ _ _ h
  refine wpAny_call (codeAny_mono (F.run X.A X.stack s H ⟨us, []⟩ (us ++ ds) (vs ++ dvs) Q E hr I.env0 (hb s us I.kIn hl) r2 h) fun r s' hq => ?_)
  cases r with
  | error e => exact hx pins σ H s e s' I hq
  | ok fl =>
    cases fl with
    | ret u => exact I.after hq
    | next => exact False.elim hq
    | brk => exact False.elim hq
    | cont => exact False.elim hq

theorem pe_call (F : FnOk X.prog X.w X.K X.mg X.base CX k f fd ps sp) (hr : Room k X.A) (hg : Gl X x) (hm : X.mg x = some (.ref f)) (hk : PySem.W.keepIn X.K (.ref f) = true) (hb : Binds X.K fd ps ds) (hd : Vals dvs ds) (hx : Passes CX X E)
    (ha : PA X (e :: es) t) (hdb : (x == ("__debug__" : Str)) = false := by decide) (he : starEach (e :: es) X.env = (false, eval e X.env) :: starEach es X.env := by rfl) (hpl : (backTo pos (starEach es X.env)).any (·.1) = false := by rfl) :
    PE X (.Call (.Name x p) (e :: es) [] pos) (tCall sp dvs E t) := by
  constructor; intro pins s σ H Q I h
  refine wpAny_Call_Name_kw (ld_glob I hg hm ?_ hdb)
  refine PySem.W.callWith_K (h₀ := X.base) I.ok.mod.kin hk (thn (ha pos pins s σ H _ I h) fun us s1 ⟨vs, H1, I1, r, q⟩ => ⟨I1.kIn, ?_⟩) he hpl
  exact run_fn F hr hb hd hx I1 r q
/-- what a class must have to be made -/
structure Mk (K : PySem.W.Frag) (C f : Addr) : Prop where
  makes : PySem.W.makesIn K C = true
  init : PySem.W.findIn K (.ref C) "__init__" = some (some (.ref f))
  fn : PySem.W.isFn K (.ref f) = true
  kp : PySem.W.keepIn K (.ref C) = true

theorem run_make {pins : List (Addr × Obj)} {σ : St} {H : Hp} {s : Shared} {Q : VK} {us : List Value} {vs : List V} (M : Mk X.K C f) (F : FnOk X.prog X.w X.K X.mg X.base CX k f fd ps sp) (hr : Room (k + 1) X.A) (hb : Binds X.K fd ps ds) (hd : Vals dvs ds)
    (hx : Passes CX X E) (I : Inv X pins σ H s) (r : Vals vs us)
    (h : ∀ x dx, H x = none → H dx = none → dx ≠ x → sp (.ref x :: (vs ++ dvs)) (upd (upd H dx (.own x)) x (.ins C dx [])) (fun v H2 => v = .non ∧ Q (.ref x) H2) E) :
    wpAny (model X.prog X.w) X.A (call (.ref C) us) (EP X pins σ Q) X.xe s := by
  have hq := h (s.heap.objs.size + 1) s.heap.objs.size (I.hok.fresh (Nat.le_succ _)) (I.hok.fresh (Nat.le_refl _)) (Nat.ne_of_lt (Nat.lt_succ_self _))
  have I2 := Inv.made (C := C) I
  have r2 : Vals (V.ref (s.heap.objs.size + 1) :: (vs ++ dvs)) (Value.ref (s.heap.objs.size + 1) :: (us ++ ds)) := .cons rfl (r.append hd)
  have hl : (Value.ref (s.heap.objs.size + 1) :: us ++ ds).length = ps.length := by
    have e := r2.length
    rw [F.len _ _ _ _ hq] at e
    exact e.symm
  refine wpAny_call (make_map (f := f) I.kIn M.makes M.init (beq_iff_eq.mp M.fn) (codeAny_mono (F.run _ X.stack _ _ ⟨Value.ref (s.heap.objs.size + 1) :: us, []⟩ (Value.ref (s.heap.objs.size + 1) :: (us ++ ds)) _ _ E (hr.make C us [])
    (I2.env0.make C us []) (hb _ (Value.ref (s.heap.objs.size + 1) :: us) I2.kIn hl) r2 hq) fun r s' hq' => ?_))
  cases r with
  | error e => exact hx pins σ _ _ e s' I2 hq'
  | ok fl =>
    cases fl with
    | ret u =>
      obtain ⟨v, H', I3, rv, ev, q3⟩ := I2.after hq'
      subst ev
      exact ⟨rv, ⟨V.ref (s.heap.objs.size + 1), H', I3, rfl, q3⟩⟩
    | next => exact False.elim hq'
    | brk => exact False.elim hq'
    | cont => exact False.elim hq'
theorem pe_make (M : Mk X.K C f) (F : FnOk X.prog X.w X.K X.mg X.base CX k f fd ps sp) (hr : Room (k + 1) X.A) (hg : Gl X x) (hm : X.mg x = some (.ref C)) (hb : Binds X.K fd ps ds) (hd : Vals dvs ds) (hx : Passes CX X E)
    (ha : PA X (e :: es) t) (hdb : (x == ("__debug__" : Str)) = false := by decide) (he : starEach (e :: es) X.env = (false, eval e X.env) :: starEach es X.env := by rfl) (hpl : (backTo pos (starEach es X.env)).any (·.1) = false := by rfl) :
    PE X (.Call (.Name x p) (e :: es) [] pos) (tMake C sp dvs E t) := by
  constructor; intro pins s σ H Q I h
  refine wpAny_Call_Name_kw (ld_glob I hg hm ?_ hdb)
  refine PySem.W.callWith_K (h₀ := X.base) I.ok.mod.kin M.kp (thn (ha pos pins s σ H _ I h) fun us s1 ⟨vs, H1, I1, r, q⟩ => ⟨I1.kIn, ?_⟩) he hpl
  exact run_make M F hr hb hd hx I1 r q
end

/-! ### keywords -/
/-- the values of the keywords, from the left -/
structure PK (X : Cx) (kws : List Keyword) (t : TA) : Prop where
  run : ∀ (pos : Pos) (pins : List (Addr × Obj)) (s : Shared) (σ : St) (H : Hp) (Q : List V → Hp → Prop), Inv X pins σ H s → t σ H Q → wpAny (model X.prog X.w) X.A (evalAll ((backToKw pos (keywordEach kws X.env)).map (·.2))) (AP X pins σ Q) X.xe s
instance {X : Cx} {kws : List Keyword} {t : TA} : CoeFun (PK X kws t) fun _ => ∀ (pos : Pos) (pins : List (Addr × Obj)) (s : Shared) (σ : St) (H : Hp) (Q : List V → Hp → Prop), Inv X pins σ H s → t σ H Q → wpAny (model X.prog X.w) X.A (evalAll ((backToKw pos (keywordEach kws X.env)).map (·.2))) (AP X pins σ Q) X.xe s := ⟨PK.run⟩
section
variable {X : Cx} {CX : CXT} {k : Nat} {f C : Addr} {fd : FuncData} {ps ks : List Str} {sp : Sp} {E : XK} {x m : Str} {p pos apos kpos : Pos} {e o : Expr} {es : List Expr} {kws : List Keyword} {te ta : TE} {t tk : TA} {nm : Option Str}
/-- how a call with keywords binds: g puts the positional values us and the keywords' values ws (names ks) in the parameters' order, defaults among them -/
structure KBinds (K : PySem.W.Frag) (fd : FuncData) (ps ks : List Str) (g : List Value → List Value → List Value) (gV : List V → List V → List V) : Prop where
  to : ∀ (s : Shared) (us ws : List Value), K.In s.heap → (g us ws).length = ps.length → BindsTo s fd ⟨us, ks.zip ws⟩ (ps.zip (g us ws))
  rel : ∀ {vs : List V} {us : List Value} {zs : List V} {ws : List Value}, Vals vs us → Vals zs ws → Vals (gV vs zs) (g us ws)
variable {g : List Value → List Value → List Value} {gV : List V → List V → List V}
end

/-! ### a def's body keeps its promise -/
/-- names: the parameters first -/
structure FnScope (N P : List Str) (sc : Scope) : Prop where
  kind : sc.kind = .function
  co : sc.isCoroutine = false
  gen : sc.isGenerator = false
  nd : N.Nodup
  pre : N.take P.length = P
  par : ∀ x ∈ P, sc.names.lookup x = some .local ∨ sc.names.lookup x = some .cell
  nofree : ∀ y ∈ sc.names, y.2 ≠ .free

theorem bindL_out {kindOf : Str → Option NameKind} {x : Str} : ∀ {binds : List (Str × Value)} {m : Str → Option Value}, (∀ v, (x, v) ∉ binds) → bindL kindOf binds m x = m x
  | [], _, _ => rfl
  | (n, v) :: r, m, h => by
    unfold bindL
    rw [bindL_out fun w hw => h w (List.mem_cons_of_mem _ hw)]
    split
    · have : x ≠ n := by rintro rfl; exact h v List.mem_cons_self
      simp [this]
    · rfl
theorem bindC_out {kindOf : Str → Option NameKind} {x : Str} : ∀ {binds : List (Str × Value)} {m : Str → Option Value}, (∀ v, (x, v) ∉ binds) → bindC kindOf binds m x = m x
  | [], _, _ => rfl
  | (n, v) :: r, m, h => by
    unfold bindC
    rw [bindC_out fun w hw => h w (List.mem_cons_of_mem _ hw)]
    split
    · rfl
    · have : x ≠ n := by rintro rfl; exact h v List.mem_cons_self
      simp [this]
theorem bindL_get {kindOf : Str → Option NameKind} {x : Str} {v : Value} : ∀ {P : List Str} {vs : List Value} {i : Nat} {m : Str → Option Value}, P.Nodup → P[i]? = some x → vs[i]? = some v → kindOf x = some .local →
    bindL kindOf (P.zip vs) m x = some v
  | [], _, _, _, _, h, _, _ => by simp at h
  | _ :: _, [], _, _, _, _, h, _ => by simp at h
  | p :: P, w :: vs, 0, m, nd, h1, h2, hk => by
    simp at h1 h2; subst h1; subst h2
    show bindL kindOf ((p, w) :: P.zip vs) m p = _
    unfold bindL
    rw [bindL_out fun v hv => (List.nodup_cons.mp nd).1 (List.of_mem_zip hv).1, if_pos hk]
    simp
  | p :: P, w :: vs, i + 1, m, nd, h1, h2, hk => by
    show bindL kindOf ((p, w) :: P.zip vs) m x = _
    unfold bindL
    exact bindL_get (i := i) (List.nodup_cons.mp nd).2 (by simpa using h1) (by simpa using h2) hk
theorem bindC_get {kindOf : Str → Option NameKind} {x : Str} {v : Value} : ∀ {P : List Str} {vs : List Value} {i : Nat} {m : Str → Option Value}, P.Nodup → P[i]? = some x → vs[i]? = some v → kindOf x ≠ some .local →
    bindC kindOf (P.zip vs) m x = some v
  | [], _, _, _, _, h, _, _ => by simp at h
  | _ :: _, [], _, _, _, _, h, _ => by simp at h
  | p :: P, w :: vs, 0, m, nd, h1, h2, hk => by
    simp at h1 h2; subst h1; subst h2
    show bindC kindOf ((p, w) :: P.zip vs) m p = _
    unfold bindC
    rw [bindC_out fun v hv => (List.nodup_cons.mp nd).1 (List.of_mem_zip hv).1, if_neg hk]
    simp
  | p :: P, w :: vs, i + 1, m, nd, h1, h2, hk => by
    show bindC kindOf ((p, w) :: P.zip vs) m x = _
    unfold bindC
    exact bindC_get (i := i) (List.nodup_cons.mp nd).2 (by simpa using h1) (by simpa using h2) hk

/-- the names' values at the entry -/
def start (N : List Str) (vs : List V) : St := vs.map some ++ List.replicate (N.length - vs.length) none

/-- the context of a def's body, at its entry; an exception leaves the frame, then lies as CX says -/
def cxOf (CX : CXT) (P : Program) (w : World) (K : PySem.W.Frag) (mg : Str → Option Value) (base : Heap) (N : List Str) (qual : Str) (scope : Scope) (f : Addr) (cd : Value) (A : Around) (outer : List Env) (s : Shared) (H : Hp) (E : XK) : Cx where
  prog := P
  w := w
  K := K
  mg := mg
  base := base
  A := A.deeper (envOfC qual scope s.heap.objs.size f cd)
  N := N
  s₀ := s
  H₀ := H
  env := envOfC qual scope s.heap.objs.size f cd
  outer := outer
  stack := envOfC qual scope s.heap.objs.size f cd :: outer
  ex := []
  calm := true
  fn := fun _ => true
  pn := []
  xe := fun e s' => wpAny (model P w) (A.deeper (envOfC qual scope s.heap.objs.size f cd)) (leaving (envOfC qual scope s.heap.objs.size f cd) e) (fun _ s'' => CX outer H s E e s'') (fun e' s'' => CX outer H s E e' s'') s'

theorem cell_has {sc : Scope} {n : Nat} {x : Str} (h : sc.names.lookup x = some .cell) : ∃ c, (cellsFrom n sc.names []).lookup x = some c := by
  have q := PySem.W.cellsFrom_some sc.names n [] (.inl h)
  exact Option.isSome_iff_exists.mp q

theorem inv_start {CX : CXT} {P : Program} {w : World} {K : PySem.W.Frag} {mg : Str → Option Value} {base : Heap} {N ps : List Str} {qual : Str} {scope : Scope} {f : Addr} {cd : Value} {A : Around} {outer : List Env} {s s1 : Shared} {H : Hp} {E : XK} {us : List Value} {vs : List V}
    (S : FnScope N ps scope) (hd : A.handled = none) (e0 : Env0 P w K mg base A outer s H) (hl : vs.length = ps.length) (r : Vals vs us)
    (x : InCallC s s.heap.objs.size (bindL (envOfC qual scope s.heap.objs.size f cd).kindOf (ps.zip us) fun _ => none) (cellsFrom (s.heap.objs.size + 1) scope.names []) (bindC (envOfC qual scope s.heap.objs.size f cd).kindOf (ps.zip us) fun _ => none) s1) :
    Inv (cxOf CX P w K mg base N qual scope f cd A outer s H E) [] (start N vs) H s1 := by
  have hpl : ps.length ≤ N.length := by have := congrArg List.length S.pre; rw [List.length_take] at this; omega
  obtain ⟨h1, tk, rfl, hk⟩ := x.done
  have noA : ∀ b : Addr, b ∉ (cxOf CX P w K mg base N qual scope f cd A outer s H E).ex := fun b z => absurd (show b ∈ ([] : List Addr) from z) (by simp)
  refine ⟨⟨e0.mod, S.kind, rfl, rfl, Nat.le_refl _, fun y z c h1 h2 => ?_, fun y hy => ?_, fun y c _ h => ?_, fun _ => hd, Around.frames_deeper e0.frames, .inr ⟨rfl, rfl⟩, fun b z => absurd z (noA b), e0.bs, e0.bsz, fun b _ _ => noA b, fun b z => absurd z (noA b), e0.funs, e0.frf⟩,
    rfl, e0.bare, Un.kept hk, ⟨_, x.toInCall.ns, fun i y v h1 h2 h3 => ?_⟩, fun y c h => ⟨_, x.cell y c h⟩, e0.hok.fresh (Nat.le_refl _), fun y c h => ?_, fun p hp => absurd (show p ∈ ([] : List (Addr × Obj)) from hp) (by simp), e0.hok.kept hk, ?_⟩
  · exact name_of_addr x.apart (PySem.mem_of_lookup h1) (PySem.mem_of_lookup h2)
  · have hy : scope.names.lookup y = some .cell ∨ scope.names.lookup y = some .free := hy
    rcases hy with hy | hy
    · exact cell_has hy
    · exact absurd rfl (S.nofree _ (PySem.mem_of_lookup hy))
  · exact Nat.le_of_lt (x.above y c (PySem.mem_of_lookup h))
  · have hi : i < vs.length := by
      unfold start at h2
      by_cases hi : i < vs.length
      · exact hi
      · rw [List.getElem?_append_right (by simpa using hi)] at h2
        rw [List.getElem?_replicate] at h2
        split at h2 <;> cases h2
    have ha : vs[i]? = some v := by
      unfold start at h2
      rw [List.getElem?_append_left (by simpa using hi), List.getElem?_map] at h2
      cases e : vs[i]? with
      | none => rw [e] at h2; cases h2
      | some a => rw [e] at h2; cases h2; rfl
    obtain ⟨u, hu, rv⟩ := r.get ha
    have hp : ps[i]? = some y := by
      rw [← S.pre, List.getElem?_take_of_lt (by omega)]; exact h1
    have ndP : ps.Nodup := by rw [← S.pre]; exact S.nd.sublist (List.take_sublist _ _)
    refine ⟨u, rv, ?_⟩
    rcases S.par y (List.mem_of_getElem? hp) with k | k
    · exact .inl ⟨k, bindL_get ndP hp hu k⟩
    · obtain ⟨c, e⟩ := cell_has (n := s.heap.objs.size + 1) k
      refine .inr ⟨.inl k, c, e, ?_⟩
      have q := x.cell y c e
      rw [bindC_get ndP hp hu (by show scope.names.lookup y ≠ _; rw [k]; decide)] at q
      exact q
  · exact e0.hok.fresh (Nat.le_of_lt (x.above y c (PySem.mem_of_lookup h)))
  · unfold start
    show _ = N.length
    rw [List.length_append, List.length_map, List.length_replicate]
    omega

/-- THE RULE: a def (or a method) of the text, by its body. The body's reading t is chosen for each entry; it is run at the parameters' values -/
theorem fn_of {CX : CXT} {P : Program} {w : World} {K : PySem.W.Frag} {mg : Str → Option Value} {base : Heap} {k : Nat} {f : Addr} {name qual : Str} {params : Arguments} {body : List Stmt} {scope : Scope} {dV kV doc pm cdv ct oc : Value} {an od : Option Addr}
    {osl : Array (Option Value)} {N ps : List Str} {sp : Sp} (lk : K.lookup f = some ⟨oc, od, .func (PySem.W.fnOf name qual params body scope dV kV doc pm an cdv ct), osl⟩) (hcd : PySem.W.codeIn K cdv qual = true) (S : FnScope N ps scope)
    (len : ∀ vs H Q E, sp vs H Q E → vs.length = ps.length)
    (hbody : ∀ (A : Around) (outer : List Env) (s : Shared) (H : Hp) (vs : List V) (Q : VK) (E : XK), Room k (A.deeper (envOfC qual scope s.heap.objs.size f cdv)) → sp vs H Q E →
      ∃ t, PSs (cxOf CX P w K mg base N qual scope f cdv A outer s H E) body t ∧ t { nx := fun _ H' => Q .non H', rt := Q } (start N vs) H) :
    FnOk P w K mg base CX (k + 1) f (PySem.W.fnOf name qual params body scope dV kV doc pm an cdv ct) ps sp := by
  refine ⟨len, fun A outer s H args us vs Q E hr e0 hb r hsp => ?_⟩
  have hl := len _ _ _ _ hsp
  have KX : K.In s.heap := e0.mod.kin.keeps fun b o e => (e0.bs b o e).1
  have lim : s.heap.NoLimit := e0.mod.nolimit.keeps fun b o e => (e0.bs b o e).1
  have hkind : ∀ y ∈ ps.zip us, scope.names.lookup y.1 = some .local ∨ (scope.names.lookup y.1 = some .cell ∧ ((cellsFrom (s.heap.objs.size + 1) scope.names []).lookup y.1).isSome = true) := fun ⟨n, v⟩ hy => by
    rcases S.par n (List.of_mem_zip hy).1 with q | q
    · exact .inl q
    · exact .inr ⟨q, PySem.W.cellsFrom_some _ _ _ (.inl q)⟩
  refine codeAny_call_function hr.depth (KX _ _ lk) rfl S.co S.gen rfl (PySem.W.codeRec_of KX hcd) (hb _ _ _ _ ?_)
  refine wpAny_newFunctionEnv_cells S.kind hkind fun env he s1 x => ?_
  subst he
  refine ⟨lim.keeps x.toInCall.keep, codeAny_func ?_⟩
  obtain ⟨t, ht, hq⟩ := hbody A outer s H vs Q E (hr.deeper _) hsp
  have I : Inv (cxOf CX P w K mg base N qual scope f cdv A outer s H E) [] (start N vs) H s1 := inv_start S hr.hd e0 hl r x
  refine wpAny_mono (ht [] s1 (start N vs) H _ I hq) (fun fl s' hs => ?_) fun e s' hs => hs
  have fin : ∀ {σ' : St} {H' : Hp} {v : V} {u : Value}, Inv (cxOf CX P w K mg base N qual scope f cdv A outer s H E) [] σ' H' s' → RelV v u → Q v H' → CE outer P w H s Q u s' :=
    fun {σ' H' v u} J rv q => ⟨v, H', J.os, J.bare, J.base, J.hok, rv, q⟩
  cases fl with
  | ret u =>
    obtain ⟨v, σ', H', J, rv, q⟩ := hs
    exact fin J rv q
  | next =>
    obtain ⟨σ', H', J, q⟩ := hs
    exact fin (v := V.non) (u := Value.none) J rfl q
  | brk =>
    obtain ⟨_, _, _, q⟩ := hs
    exact False.elim q
  | cont =>
    obtain ⟨_, _, _, q⟩ := hs
    exact False.elim q
end L2

namespace L2
open PySem PySem.Spec PyProof.Rows
section
variable {X : Cx} {x : Str} {p pos : Pos} {e : Expr} {es : List Expr} {t : TA} {id T : String} {r : List V → Hp → VK → Prop}

def tCB (r : List V → Hp → VK → Prop) (t : TA) : TE := fun σ H Q => t σ H fun vs H1 => r vs H1 Q
/-- f(e, ..), f a built-in function -/
theorem pe_callB (hc : CallR X (.builtin id) r) (hg : Gl X x) (hm : X.mg x = none) (hv : bootBuiltins x = some (.builtin id)) (ha : PA X (e :: es) t) (hn : x ≠ "__name__" := by decide) (hdb : (x == ("__debug__" : Str)) = false := by decide)
    (he : starEach (e :: es) X.env = (false, eval e X.env) :: starEach es X.env := by rfl) (hpl : (backTo pos (starEach es X.env)).any (·.1) = false := by rfl) : PE X (.Call (.Name x p) (e :: es) [] pos) (tCB r t) := by
  constructor; intro pins s σ H Q I h
  refine wpAny_Call_Name_kw (ld_blt I hg hm hv ?_ hn hdb)
  exact PyProof.Rows.callWith_builtin1 (thn (ha pos pins s σ H _ I h) fun us s1 ⟨vs, H1, I1, r1, q1⟩ => hc pins s1 σ H1 vs us Q I1 r1 q1) he hpl
/-- T(e, ..), T a built-in type -/
theorem pe_callTy (hc : CallR X (.type T) r) (hg : Gl X x) (hm : X.mg x = none) (hv : bootBuiltins x = some (.type T)) (ha : PA X (e :: es) t) (hn : x ≠ "__name__" := by decide) (hdb : (x == ("__debug__" : Str)) = false := by decide)
    (he : starEach (e :: es) X.env = (false, eval e X.env) :: starEach es X.env := by rfl) (hpl : (backTo pos (starEach es X.env)).any (·.1) = false := by rfl) : PE X (.Call (.Name x p) (e :: es) [] pos) (tCB r t) := by
  constructor; intro pins s σ H Q I h
  refine wpAny_Call_Name_kw (ld_blt I hg hm hv ?_ hn hdb)
  exact PyProof.Rows.callWith_type1 (thn (ha pos pins s σ H _ I h) fun us s1 ⟨vs, H1, I1, r1, q1⟩ => hc pins s1 σ H1 vs us Q I1 r1 q1) he hpl
end
end L2

namespace HT
open PySem PyProof.Rows

section
open PySem.SeqAt
open PySem.AutoSeq1 (wpAny_loadPart')
open PySem.MeetsSeq PySem.MeetsSeq2 PySem.MeetsSeq3

end

section
variable {prog : Program} {w : World} {A : Around} {E : Value → Shared → Prop} {s : Shared}

/-- t + u, t not empty -/
theorem cat_tup {t b : Addr} {vs ws : List Value} {Q : Value → Shared → Prop} (ht : IsTup s.heap t vs.toArray) (hb : IsTup s.heap b ws.toArray) (hv : vs ≠ [])
    (h1 : ws = [] → Q (.ref t) s) (h2 : ws ≠ [] → Q (.ref s.heap.objs.size) { s with heap := s.heap.push { cls := .type "tuple", data := .seq (vs ++ ws).toArray } })
    (hsz : vs.length + ws.length ≤ sizeLine) : wpAny (model prog w) A (binaryOp .Add (.ref t) (.ref b)) Q E s := by
  obtain ⟨⟨cls, dd, data, sl⟩, ho, hc, n, hd⟩ := id ht
  obtain ⟨⟨cls2, dd2, data2, sl2⟩, ho2, hc2, n2, hd2⟩ := id hb
  simp only at hc hd hc2 hd2
  subst hc hd hc2 hd2
  have e : vs.toArray ++ ws.toArray = (vs ++ ws).toArray := by simp
  by_cases hw : ws = []
  · exact concat_meets ⟨_, ho, rfl⟩ ⟨_, ho2, rfl⟩ noFill_tuple_add seq_tuple_add PySem.F.slot_tuple_add PySem.F.entry_tuple_add (PySem.F.args_tuple_add_2 _ _)
      (tuple_addW1 t b vs.toArray ws.toArray n n2 dd dd2 sl sl2 (by simpa using hv) (by simp [hw])) ⟨ho, ho2, h1 hw⟩
  · refine concat_meets ⟨_, ho, rfl⟩ ⟨_, ho2, rfl⟩ noFill_tuple_add seq_tuple_add PySem.F.slot_tuple_add PySem.F.entry_tuple_add (PySem.F.args_tuple_add_2 _ _)
      (tuple_addW2 t b vs.toArray ws.toArray n n2 dd dd2 sl sl2 (by simpa using hv) (by simpa using hw) (by rw [List.size_toArray, List.size_toArray]; exact hsz)) ⟨ho, ho2, ?_⟩
    rw [e]
    exact h2 hw

/-! ### t[a:b], not the whole -/
/-- a slice's bound as a place among n (d where it is left out) -/
def sIx (n d : Nat) : Option Int → Nat
  | none => d
  | some v => if v < 0 then (v + (n : Int)).toNat else min v.toNat n
theorem sIx_le (n d : Nat) (hd : d ≤ n) (o : Option Int) : sIx n d o ≤ n := by
  cases o with
  | none => exact hd
  | some v =>
    show (if v < 0 then (v + (n : Int)).toNat else min v.toNat n) ≤ n
    by_cases hv : v < 0
    · rw [if_pos hv]; omega
    · rw [if_neg hv]; exact Nat.min_le_right _ _
theorem clip_eq (v : Int) (n d : Nat) : (if v < 0 then max (v + (n : Int)) 0 else min v (n : Int)) = ((sIx n d (some v) : Nat) : Int) := by
  show (if v < 0 then max (v + (n : Int)) 0 else min v (n : Int)) = (((if v < 0 then (v + (n : Int)).toNat else min v.toNat n) : Nat) : Int)
  by_cases hv : v < 0
  · simp only [if_pos hv]; omega
  · simp only [if_neg hv]; omega
theorem adjust_gen (lo hi : Option Int) (n : Nat) : Builtin.Slice.sliceAdjust lo hi 1 (n : Int) = (((sIx n 0 lo : Nat) : Int), ((sIx n n hi : Nat) : Int)) := by
  have h1 : ¬ ((1 : Int) < 0) := by omega
  unfold Builtin.Slice.sliceAdjust
  simp only [h1, if_false]
  refine Prod.ext ?_ ?_
  · cases lo with
    | none => rfl
    | some v => exact clip_eq v n 0
  · cases hi with
    | none => rfl
    | some v => exact clip_eq v n n
theorem places_gen (i j : Nat) : Builtin.Slice.slicePlaces (i : Int) (j : Int) 1 = j - i := by
  unfold Builtin.Slice.slicePlaces
  have h1 : (1 : Int) > 0 := by omega
  simp only [h1, if_true, Int.ediv_one]
  split <;> omega
theorem slicePart_ {v : Value} {o : Option Int} {Q : Option Int → Shared → Prop} (p : IsPart v o) (h : Q o s) : wpAny (model prog w) A (Builtin.Slice.slicePartIndex v) Q E s := by
  cases p with
  | none => exact slicePart_none h
  | int i t => exact slicePart_int h
theorem sliceApplied_gen {sl : Addr} {vl vu : Value} {lo hi : Option Int} {n : Nat} {Q : Int × Int × Nat → Shared → Prop} (hs : s.heap.IsSliceOf sl vl vu .none) (pl : IsPart vl lo) (pu : IsPart vu hi)
    (h : Q (((sIx n 0 lo : Nat) : Int), 1, sIx n n hi - sIx n 0 lo) s) : wpAny (model prog w) A (Builtin.Slice.sliceApplied (.ref sl) (pure (n : Int))) Q E s := by
  obtain ⟨os, hos, hcs, hds⟩ := id hs
  unfold Builtin.Slice.sliceApplied Builtin.Slice.sliceFields
  refine wpAny_bind (wpAny_bind (wpAny_field hos hds (x := vl) rfl (wpAny_bind (wpAny_field hos hds (x := vu) rfl (wpAny_bind (wpAny_field hos hds (x := .none) rfl (wpAny_pure ?_)))))))
  refine wpAny_bind (slicePart_none ?_)
  show wpAny _ _ (if ((1 : Int) == 0) = true then _ else _) _ _ s
  rw [if_neg (by decide)]
  refine wpAny_bind (slicePart_ pl (wpAny_bind (slicePart_ pu (wpAny_bind (wpAny_pure ?_)))))
  show wpAny _ _ (match Builtin.Slice.sliceAdjust lo hi 1 (n : Int) with | (lo, hi) => pure (lo, (1 : Int), Builtin.Slice.slicePlaces lo hi 1)) _ _ s
  rw [adjust_gen lo hi n]
  show wpAny _ _ (pure (((sIx n 0 lo : Nat) : Int), (1 : Int), Builtin.Slice.slicePlaces ((sIx n 0 lo : Nat) : Int) ((sIx n n hi : Nat) : Int) 1)) _ _ s
  rw [places_gen]
  exact wpAny_pure h
theorem pick_gen (xs : Array Value) (i k : Nat) : ((List.range k).filterMap fun (m : Nat) => xs[((i : Int) + (m : Int) * 1).toNat]?).toArray = ((xs.toList.drop i).take k).toArray := by
  have e : (fun (m : Nat) => xs[((i : Int) + (m : Int) * 1).toNat]?) = fun m => xs[i + m]? := by
    funext m
    have : ((i : Int) + (m : Int) * 1).toNat = i + m := by omega
    rw [this]
  rw [e]
  have := pick_run xs i k
  rw [List.filterMap_map] at this
  have e2 : ((fun x => xs[x]?) ∘ fun x => i + x) = fun m => xs[i + m]? := rfl
  rw [e2] at this
  rw [this]

theorem getItem_tuple_cut {t sl : Addr} {items : Array Value} {vl vu : Value} {lo hi : Option Int} {Q : Value → Shared → Prop} (ht : IsTup s.heap t items) (hs : s.heap.IsSliceOf sl vl vu .none) (pl : IsPart vl lo) (pu : IsPart vu hi)
    (hw : ¬ (sIx items.size 0 lo = 0 ∧ sIx items.size items.size hi = items.size))
    (h : Q (.ref s.heap.objs.size) { s with heap := s.heap.push { cls := .type "tuple", data := .seq ((items.toList.drop (sIx items.size 0 lo)).take (sIx items.size items.size hi - sIx items.size 0 lo)).toArray } })
    (hsz : items.size ≤ sizeLine) : wpAny (model prog w) A (getItem (.ref t) (.ref sl)) Q E s := by
  have htake : sizeOk (.seq ((items.toList.drop (sIx items.size 0 lo)).take (sIx items.size items.size hi - sIx items.size 0 lo)).toArray) := by
    show ((items.toList.drop (sIx items.size 0 lo)).take (sIx items.size items.size hi - sIx items.size 0 lo)).toArray.size ≤ sizeLine
    rw [List.size_toArray, List.length_take, List.length_drop, Array.length_toList]
    omega
  have hj : sIx items.size items.size hi ≤ items.size := sIx_le _ _ (Nat.le_refl _) hi
  obtain ⟨os, hos, hcs, hds⟩ := id hs
  have hTs : s.TypeIs (.ref sl) "slice" := ⟨os, hos, hcs⟩
  unfold getItem
  try with_reducible refine wpAny_holding ?_
  first | refine wpAny_bind (wpAny_pure ?_) | skip
  refine wpAny_bind (wpAny_sequenceKey ht.typeIs (by decide) ?_)
  refine wpAny_bind (wpAny_callSpecial?_slot (name := Str.ofString "__getitem__") ht.typeIs PyProof.Rows.slot_tuple_getitem
    (wpAny_call_entry PyProof.Rows.slot_tuple_getitem ht.typeIs entry_tuple_getitem ?_ (args_tuple_getitem _ _)))
  show wpAny _ _ (Builtin.Tuple.tupleItemsOf (.ref t) >>= _) _ _ s
  refine wpAny_bind (tupleItemsOf_ ht ?_)
  refine wpAny_bind (wpAny_typeOf hTs ?_)
  rw [if_pos (by decide)]
  refine wpAny_bind (sliceApplied_gen hs pl pu ?_)
  have hno : ¬ ((((sIx items.size 0 lo : Nat) : Int) == 0 && (1 : Int) == 1 && (sIx items.size items.size hi - sIx items.size 0 lo) == items.size) = true) := by
    intro q
    rw [Bool.and_eq_true, Bool.and_eq_true] at q
    have q1 : ((sIx items.size 0 lo : Nat) : Int) = 0 := eq_of_beq q.1.1
    have q2 : sIx items.size items.size hi - sIx items.size 0 lo = items.size := eq_of_beq q.2
    exact hw ⟨by omega, by omega⟩
  show wpAny _ _ (if (((sIx items.size 0 lo : Nat) : Int) == 0 && (1 : Int) == 1 && (sIx items.size items.size hi - sIx items.size 0 lo) == items.size) = true then _ else _) _ _ s
  rw [if_neg hno, pick_gen]
  first
    | exact wpAny_bind (m := Builtin.Tuple.tupleExact _) (wpAny_newObj_type (wpAny_pure ⟨_, rfl, wpAny_pure h⟩) htake)
    | exact wpAny_bind (m := Builtin.Tuple.tupleExact _) (wpAny_newObj_type (wpAny_bind (wpAny_pure (wpAny_pure ⟨_, rfl, wpAny_pure h⟩))) htake)
    | exact wpAny_bind (wpAny_bind (m := Builtin.Tuple.tupleExact _) (wpAny_newObj_type (wpAny_pure (wpAny_pure ⟨_, rfl, wpAny_pure h⟩)) htake))
    | exact wpAny_bind (wpAny_bind (m := Builtin.Tuple.tupleExact _) (wpAny_newObj_type (wpAny_pure ⟨_, rfl, wpAny_pure h⟩) htake))
end
end HT

namespace L2
open PySem PySem.Spec PyProof.Rows

/-! ### the parts of a slice -/
abbrev TO := St → Hp → (Option Int → Hp → Prop) → Prop
/-- a slice's part (left out, or an int) -/
structure PO (X : Cx) (e : Option Expr) (t : TO) : Prop where
  run : ∀ (pins : List (Addr × Obj)) (s : Shared) (σ : St) (H : Hp) (Q : Option Int → Hp → Prop), Inv X pins σ H s → t σ H Q →
    wpAny (model X.prog X.w) X.A (evalPart e X.env) (fun u s' => ∃ o H', Inv X pins σ H' s' ∧ IsPart u o ∧ Q o H') X.xe s
instance {X : Cx} {e : Option Expr} {t : TO} : CoeFun (PO X e t) fun _ => ∀ (pins : List (Addr × Obj)) (s : Shared) (σ : St) (H : Hp) (Q : Option Int → Hp → Prop), Inv X pins σ H s → t σ H Q →
    wpAny (model X.prog X.w) X.A (evalPart e X.env) (fun u s' => ∃ o H', Inv X pins σ H' s' ∧ IsPart u o ∧ Q o H') X.xe s := ⟨PO.run⟩
def tPart (t : TE) : TO := fun σ H Q => t σ H fun x H1 => ∃ i, x = .int i ∧ Q (some i) H1

section
variable {X : Cx} {e : Expr} {te : TE} {lo hi : Option Expr} {tl th : TO} {pos p2 : Pos}

theorem po_some (h : PE X e te) : PO X (some e) (tPart te) := by
  constructor; intro pins s σ H Q I hw
  rw [evalPart_some]
  refine thn (h pins s σ H _ I hw) fun u s1 ⟨x, H1, I1, r1, q1⟩ => ?_
  obtain ⟨i, rfl, q⟩ := q1
  obtain ⟨t, rfl⟩ := r1
  exact ⟨some i, H1, I1, .int i t, q⟩

/-- what a slice of a value is, by values: the slice object stands at sl -/
def SlR (X : Cx) (r : V → Option Int → Option Int → Hp → VK → Prop) : Prop :=
  ∀ (pins : List (Addr × Obj)) (s : Shared) (σ : St) (H : Hp) (x : V) (v vl vu : Value) (lo hi : Option Int) (sl : Addr) (Q : VK), Inv X pins σ H s → RelV x v → s.heap.IsSliceOf sl vl vu .none → IsPart vl lo → IsPart vu hi → r x lo hi H Q →
    ∃ T id, typeLookup (.type T) "__getitem__" = pure (some (.builtin id)) ∧ s.TypeIs v T ∧ wpAny (model X.prog X.w) X.A (getItem v (.ref sl)) (EP X pins σ Q) X.xe s
theorem SlR.or {r r' : V → Option Int → Option Int → Hp → VK → Prop} (h : SlR X r) (h' : SlR X r') : SlR X (fun x lo hi H Q => r x lo hi H Q ∨ r' x lo hi H Q) := by
  intro pins s σ H x v vl vu lo hi sl Q I rx hs pl pu q
  rcases q with q | q
  · exact h pins s σ H x v vl vu lo hi sl Q I rx hs pl pu q
  · exact h' pins s σ H x v vl vu lo hi sl Q I rx hs pl pu q
def tSl (r : V → Option Int → Option Int → Hp → VK → Prop) (te : TE) (tl th : TO) : TE := fun σ H Q => te σ H fun x H1 => tl σ H1 fun l H2 => th σ H2 fun u H3 => r x l u H3 Q
/-- a[lo:hi], any a -/
theorem pe_slice {r : V → Option Int → Option Int → Hp → VK → Prop} (hr : SlR X r) (he : PE X e te) (hl : PO X lo tl) (hu : PO X hi th) : PE X (.Subscript e (.Slice lo hi none p2) pos) (tSl r te tl th) := by
  constructor; intro pins s σ H Q I h
  refine Subscript_ (thn (he pins s σ H _ I h) fun v s1 ⟨x, H1, I1, r1, q1⟩ => ?_)
  refine wpAny_Slice (thn (hl pins s1 σ H1 _ I1 q1) fun vl s2 ⟨l, H2, I2, pl, q2⟩ => thn (hu pins s2 σ H2 _ I2 q2) fun vu s3 ⟨u, H3, I3, pu, q3⟩ => ?_)
  rw [evalPart_none]
  refine wpAny_pure ?_
  have I4 : Inv X pins σ H3 { s3 with heap := s3.heap.push { cls := .type "slice", data := .fields #[vl, vu, .none] } } := I3.kept (t' := s3.toks) fun b ob q => Heap.get?_push_of_some _ q
  obtain ⟨T, id, hT, ht, hg⟩ := hr pins { s3 with heap := s3.heap.push { cls := .type "slice", data := .fields #[vl, vu, .none] } } σ H3 x v vl vu l u s3.heap.objs.size Q I4 r1 (Heap.IsSliceOf.new ..) pl pu q3
  show wpAny (model X.prog X.w) X.A (subscriptTail e (.Slice lo hi none p2) v (.ref s3.heap.objs.size)) (EP X pins σ Q) X.xe { s3 with heap := s3.heap.push { cls := .type "slice", data := .fields #[vl, vu, .none] } }
  exact tail_any (ops := [.ref s3.heap.objs.size, v]) ht hT hg (by with_unfolding_all rfl)

/-- the items of xs[lo:hi] -/
def cutV (xs : List V) (lo hi : Option Int) : List V := (xs.drop (HT.sIx xs.length 0 lo)).take (HT.sIx xs.length xs.length hi - HT.sIx xs.length 0 lo)
theorem cutV_length (xs : List V) (lo hi : Option Int) : (cutV xs lo hi).length ≤ xs.length := by
  unfold cutV
  rw [List.length_take, List.length_drop]
  omega
/-- t[lo:hi], not the whole of it (the whole would be t itself) -/
def rSlT (K : PySem.W.Frag) : V → Option Int → Option Int → Hp → VK → Prop := fun x lo hi H Q => ∃ a xs, x = .ref a ∧ SqT K H a xs ∧
  ¬ (HT.sIx xs.length 0 lo = 0 ∧ HT.sIx xs.length xs.length hi = xs.length) ∧ ∀ p, H p = none → Q (.ref p) (upd H p (.tup (cutV xs lo hi)))
theorem sl_tup : SlR X (rSlT X.K) := by
  intro pins s σ H x v vl vu lo hi sl Q I rx hs pl pu h
  obtain ⟨a, xs, rfl, hx, hw, q⟩ := h
  cases rx
  obtain ⟨its, r, ht, hz⟩ := I.tuple hx
  have hlen : its.toArray.size = xs.length := by rw [List.size_toArray]; exact r.length.symm
  refine ⟨"tuple", _, PyProof.Rows.slot_tuple_getitem.lookup, ht.typeIs, ?_⟩
  refine HT.getItem_tuple_cut ht hs pl pu (by rw [hlen]; exact hw) ?_ (by rw [hlen]; exact hz)
  rw [hlen]
  refine ⟨.ref s.heap.objs.size, _, I.laid (t' := s.toks) (o := .tup (cutV xs lo hi)) (fun b ob q => Heap.get?_push_of_some _ q) (Nat.le_refl _) ?_, rfl, q _ (I.hok.fresh (Nat.le_refl _))⟩
  exact ⟨Nat.le_trans (cutV_length xs lo hi) hz, _, (r.drop (HT.sIx xs.length 0 lo)).take (HT.sIx xs.length xs.length hi - HT.sIx xs.length 0 lo), IsTup.new _ _⟩

/-! ### t < u, t + u -/
/-- t + u, t not empty: u empty gives t itself -/
def rCatT (K : PySem.W.Frag) : R2 := fun x y H Q => ∃ a b xs ys, x = .ref a ∧ y = .ref b ∧ SqT K H a xs ∧ SqT K H b ys ∧ xs ≠ [] ∧ xs.length + ys.length ≤ sizeLine ∧
  (ys = [] → Q (.ref a) H) ∧ (ys ≠ [] → ∀ p, H p = none → Q (.ref p) (upd H p (.tup (xs ++ ys))))
theorem Vals.nil_iff {xs : List V} {us : List Value} (r : Vals xs us) : us = [] ↔ xs = [] := by
  cases r with
  | nil => simp
  | cons _ _ => simp
theorem op_catT : OpR X (binaryOp .Add) (rCatT X.K) := by
  intro pins s σ H x y v u Q I rx ry h
  obtain ⟨a, b, xs, ys, rfl, rfl, ha, hb, hx, hz, q1, q2⟩ := h
  cases rx
  cases ry
  obtain ⟨its, r1, p1, _⟩ := I.tuple ha
  obtain ⟨its2, r2, p2, _⟩ := I.tuple hb
  refine HT.cat_tup p1 p2 (fun z => hx (r1.nil_iff.mp z)) (fun z => ⟨.ref a, H, I, rfl, q1 (r2.nil_iff.mp z)⟩) (fun z => ?_) (by rw [← r1.length, ← r2.length]; exact hz)
  refine ⟨.ref s.heap.objs.size, _, I.laid (t' := s.toks) (o := .tup (xs ++ ys)) (fun b ob q => Heap.get?_push_of_some _ q) (Nat.le_refl _) ?_, rfl, q2 (fun w => z (r2.nil_iff.mpr w)) _ (I.hok.fresh (Nat.le_refl _))⟩
  exact ⟨by rw [List.length_append]; exact hz, _, r1.append r2, IsTup.new _ _⟩
end
end L2

namespace L2
open PySem PySem.Spec PyProof.Rows

/-! ### places -/
/-- the place that an index of any sign means -/
def ixN (n : Nat) (i : Int) : Option Nat := if 0 ≤ i then (if i < n then some i.toNat else none) else if -(n : Int) ≤ i then some (i + n).toNat else none
def atI {α : Type} (xs : List α) (i : Int) : Option α := (ixN xs.length i).bind fun j => xs[j]?
theorem ixN_seq {n : Nat} {i : Int} {j : Nat} (h : ixN n i = some j) : seqIndex? i n = some j ∧ j < n ∧ -(n : Int) ≤ i ∧ i < n := by
  unfold ixN at h
  by_cases h0 : 0 ≤ i
  · rw [if_pos h0] at h
    by_cases h1 : i < n
    · rw [if_pos h1] at h
      have e : i.toNat = j := Option.some.inj h
      exact ⟨by rw [seqIndex_of h0 h1, e], by omega, by omega, h1⟩
    · rw [if_neg h1] at h; cases h
  · rw [if_neg h0] at h
    by_cases h1 : -(n : Int) ≤ i
    · rw [if_pos h1] at h
      have e : (i + n).toNat = j := Option.some.inj h
      exact ⟨by rw [seqIndex_neg (by omega) h1, e], by omega, h1, by omega⟩
    · rw [if_neg h1] at h; cases h
theorem atI_get {α : Type} {xs : List α} {i : Int} {v : α} (h : atI xs i = some v) : ∃ j, seqIndex? i xs.length = some j ∧ xs[j]? = some v ∧ j < xs.length ∧ -(xs.length : Int) ≤ i ∧ i < xs.length := by
  unfold atI at h
  cases e : ixN xs.length i with
  | none => rw [e] at h; cases h
  | some j =>
    rw [e] at h
    obtain ⟨h1, h2, h3, h4⟩ := ixN_seq e
    exact ⟨j, h1, h, h2, h3, h4⟩
theorem atI_nat {α : Type} {xs : List α} {j : Nat} {v : α} (h : xs[j]? = some v) : atI xs (j : Int) = some v := by
  have hj : j < xs.length := (List.getElem?_eq_some_iff.mp h).1
  have e : ixN xs.length (j : Int) = some j := by
    unfold ixN
    rw [if_pos (by omega), if_pos (by omega)]; simp
  unfold atI; rw [e]; exact h
/-! ### what may be subscripted -/
/-- what stands as an index of a plain subscript -/
def PlainIx (b : Expr) : Prop := ∀ o i, subscripted b false o i = operate [o, i] (getItem o i)
/-- a subscript by values -/
def IxR (X : Cx) (r : R2) : Prop :=
  ∀ (value slice : Expr) (pins : List (Addr × Obj)) (s : Shared) (σ : St) (H : Hp) (x y : V) (v u : Value) (Q : VK), Inv X pins σ H s → RelV x v → RelV y u → r x y H Q →
    subscripted slice false v u = operate [v, u] (getItem v u) → wpAny (model X.prog X.w) X.A (subscriptTail value slice v u) (EP X pins σ Q) X.xe s
/-- a call of a builtin's method by values: the receiver, the arguments -/
def MtR (X : Cx) (id : String) (r : V → List V → Hp → VK → Prop) : Prop :=
  ∀ (pins : List (Addr × Obj)) (s : Shared) (σ : St) (H : Hp) (x : V) (xs : List V) (v : Value) (us : List Value) (Q : VK), Inv X pins σ H s → RelV x v → Vals xs us → r x xs H Q →
    wpAny (model X.prog X.w) X.A (call (.builtin id) (v :: us)) (EP X pins σ Q) X.xe s
section
variable {X : Cx} {a b : Expr} {ta tb : TE} {pos : Pos}
theorem IxR.or {r r' : R2} (h : IxR X r) (h' : IxR X r') : IxR X (fun x y H Q => r x y H Q ∨ r' x y H Q) := by
  intro value slice pins s σ H x y v u Q I rx ry q hs
  rcases q with q | q
  · exact h value slice pins s σ H x y v u Q I rx ry q hs
  · exact h' value slice pins s σ H x y v u Q I rx ry q hs
theorem MtR.or {id : String} {r r' : V → List V → Hp → VK → Prop} (h : MtR X id r) (h' : MtR X id r') : MtR X id (fun x xs H Q => r x xs H Q ∨ r' x xs H Q) := by
  intro pins s σ H x xs v us Q I rx rs q
  rcases q with q | q
  · exact h pins s σ H x xs v us Q I rx rs q
  · exact h' pins s σ H x xs v us Q I rx rs q
/-- a[b] -/
theorem pe_ix {r : R2} (hr : IxR X r) (ha : PE X a ta) (hb : PE X b tb) (hs : PlainIx b) : PE X (.Subscript a b pos) (tOp r ta tb) := by
  constructor; intro pins s σ H Q I h
  exact Subscript_ (binT ha hb I h fun v u s2 x y H2 I2 rx ry q => hr a b pins s2 σ H2 x y v u Q I2 rx ry q (hs _ _))

def rIxL (K : PySem.W.Frag) : R2 := fun x y H Q => ∃ p xs i v, x = .ref p ∧ y = .int i ∧ SqL K H p xs ∧ atI xs i = some v ∧ Q v H
def rIxT (K : PySem.W.Frag) : R2 := fun x y H Q => ∃ p xs i v, x = .ref p ∧ y = .int i ∧ SqT K H p xs ∧ atI xs i = some v ∧ Q v H
theorem ix_list : IxR X (rIxL X.K) := by
  intro value slice pins s σ H x y v u Q I rx ry h hs
  obtain ⟨p, xs, i, z, rfl, rfl, hq, he, q⟩ := h
  cases rx
  obtain ⟨t, rfl⟩ := ry
  obtain ⟨its, r, pl, hz⟩ := I.list hq
  obtain ⟨j, h1, h2, h3, h4, h5⟩ := atI_get he
  obtain ⟨w, ew, rw'⟩ := r.get h2
  have hl := r.length
  have hn := line63
  have fin : EP X pins σ Q w s := ⟨z, H, I, rw', q⟩
  by_cases h0 : 0 ≤ i
  · have hj : i.toNat = j := by
      rw [seqIndex_of h0 h5] at h1
      exact Option.some.inj h1
    exact item_listR pl.isList h0 (by omega) (by rw [hj]; simpa using ew) fin hs
  · have hj : (i + (its.toArray.size : Int)).toNat = j := by
      rw [seqIndex_neg (by omega) h4] at h1
      rw [List.size_toArray, ← hl]
      exact Option.some.inj h1
    exact subscriptTail_builtinR (x := w) pl.isList.typeIs slot_list_getitem.lookup
      (wpAny_getItem_list_neg (Q := fun r s' => r = w ∧ EP X pins σ Q r s') pl.isList (by omega) (by rw [List.size_toArray] <;> omega) (by omega) (by rw [hj]; simpa using ew) ⟨rfl, fin⟩) hs
theorem ix_tup : IxR X (rIxT X.K) := by
  intro value slice pins s σ H x y v u Q I rx ry h hs
  obtain ⟨p, xs, i, z, rfl, rfl, hq, he, q⟩ := h
  cases rx
  obtain ⟨t, rfl⟩ := ry
  obtain ⟨its, r, pl, hz⟩ := I.tuple hq
  obtain ⟨j, h1, h2, h3, h4, h5⟩ := atI_get he
  obtain ⟨w, ew, rw'⟩ := r.get h2
  have hl := r.length
  have hn := line63
  have fin : EP X pins σ Q w s := ⟨z, H, I, rw', q⟩
  exact subscriptTail_builtinR (x := w) pl.typeIs slot_tuple_getitem.lookup
    (getItem_tuple (j := j) (Q := fun r s' => r = w ∧ EP X pins σ Q r s') pl (by omega) (by omega) (by rw [List.size_toArray, ← hl]; exact h1) (by simpa using ew) ⟨rfl, fin⟩) hs
/-! ### xs[i] = v, any sign -/
theorem Inv.lst {pins : List (Addr × Obj)} {σ : St} {H : Hp} {s : Shared} {p : Addr} {xs : List V} (I : Inv X pins σ H s) (h : H p = some (.lst xs)) :
    ∃ (its : List Value) (n : Nat), Vals xs its ∧ s.heap.get? p = some { cls := .type "list", data := .seq its.toArray n } ∧ xs.length ≤ sizeLine := by
  obtain ⟨z, its, n, r, e⟩ := I.hok p _ h
  exact ⟨its, n, r, e, z⟩
/-! ### slices -/
theorem slice_bounds (lo hi : Option Int) (n : Nat) : (sliceBounds lo hi none n).1 = ((HT.sIx n 0 lo : Nat) : Int) ∧ (sliceBounds lo hi none n).2.1 = ((HT.sIx n n hi : Nat) : Int) ∧ (sliceBounds lo hi none n).2.2 = 1 := by
  refine ⟨?_, ?_, rfl⟩
  · cases lo with
    | none => simp [sliceBounds, HT.sIx]
    | some i =>
      simp only [sliceBounds, HT.sIx, Option.getD_none, show (1 : Int) > 0 by decide, if_true]
      by_cases h : i < 0
      · simp only [h, if_true] <;> omega
      · simp only [h, if_false] <;> omega
  · cases hi with
    | none => simp [sliceBounds, HT.sIx]
    | some i =>
      simp only [sliceBounds, HT.sIx, Option.getD_none, show (1 : Int) > 0 by decide, if_true]
      by_cases h : i < 0
      · simp only [h, if_true] <;> omega
      · simp only [h, if_false] <;> omega
theorem slicePick_cut (its : List Value) (lo hi : Option Int) : slicePick its.toArray lo hi none = ((its.drop (HT.sIx its.length 0 lo)).take (HT.sIx its.length its.length hi - HT.sIx its.length 0 lo)).toArray := by
  obtain ⟨h1, h2, h3⟩ := slice_bounds lo hi its.toArray.size
  unfold slicePick
  rw [h1, h2, h3]
  simp only [sliceRange_one, pick_run, List.size_toArray] <;> rfl
/-- xs[lo:hi] of a list: a new list -/
def rSlL (K : PySem.W.Frag) : V → Option Int → Option Int → Hp → VK → Prop := fun x lo hi H Q => ∃ a xs, x = .ref a ∧ SqL K H a xs ∧ ∀ p, H p = none → Q (.ref p) (upd H p (.lst (cutV xs lo hi)))
theorem sl_list : SlR X (rSlL X.K) := by
  intro pins s σ H x v vl vu lo hi sl Q I rx hs pl pu h
  obtain ⟨a, xs, rfl, hx, q⟩ := h
  cases rx
  obtain ⟨its, r, ht, hz⟩ := I.list hx
  have hlen := r.length
  refine ⟨"list", _, slot_list_getitem.lookup, ht.isList.typeIs, ?_⟩
  refine wpAny_getItem_list_slice ht.isList hs pl pu .none (by simp) ?_ (by rw [List.size_toArray] <;> omega)
  rw [slicePick_cut, ← hlen]
  refine ⟨.ref s.heap.objs.size, _, I.laid (t' := s.toks) (o := .lst (cutV xs lo hi)) (fun b ob q => Heap.get?_push_of_some _ q) (Nat.le_refl _) ?_, rfl, q _ (I.hok.fresh (Nat.le_refl _))⟩
  exact ⟨Nat.le_trans (cutV_length xs lo hi) hz, _, 0, (r.drop (HT.sIx xs.length 0 lo)).take (HT.sIx xs.length xs.length hi - HT.sIx xs.length 0 lo), Heap.get?_push_size _ rfl⟩

/-! ### in, not in: flat items -/
def flatV : V → Bool
  | .non => true
  | .bl _ => true
  | .int _ => true
  | .str _ => true
  | _ => false
/-- == of flat values -/
def eqV : V → V → Bool
  | .non, .non => true
  | .bl a, .bl b => a == b
  | .bl a, .int b => (if a then 1 else 0) == b
  | .int a, .bl b => a == (if b then 1 else 0)
  | .int a, .int b => a == b
  | .str a, .str b => a == b
  | _, _ => false
theorem eqAt_V {A : Around} {s : Shared} {y x : V} {u v : Value} (ry : RelV y u) (rx : RelV x v) (fy : flatV y = true) (fx : flatV x = true) : SeqAt.EqAt A s u v (eqV y x) := by
  cases y with
  | non =>
    cases ry
    cases x with
    | non => cases rx; exact SeqAt.EqAt.same _
    | bl b => cases rx; exact SeqAt.EqAt.none_bool b
    | int b => obtain ⟨t, rfl⟩ := rx; exact SeqAt.EqAt.none_int b t
    | str b => obtain ⟨t, rfl⟩ := rx; exact SeqAt.EqAt.none_str b t
    | _ => exact absurd (show false = true from fx) Bool.false_ne_true
  | bl a =>
    cases ry
    cases x with
    | non => cases rx; exact SeqAt.EqAt.bool_none a
    | bl b => cases rx; exact SeqAt.EqAt.bool_bool a b
    | int b => obtain ⟨t, rfl⟩ := rx; exact SeqAt.EqAt.bool_int a b t
    | str b => obtain ⟨t, rfl⟩ := rx; exact SeqAt.EqAt.bool_str a b t
    | _ => exact absurd (show false = true from fx) Bool.false_ne_true
  | int a =>
    obtain ⟨t', rfl⟩ := ry
    cases x with
    | non => cases rx; exact SeqAt.EqAt.int_none a t'
    | bl b => cases rx; exact SeqAt.EqAt.int_bool a t' b
    | int b => obtain ⟨t, rfl⟩ := rx; exact SeqAt.EqAt.int_int a t' b t
    | str b => obtain ⟨t, rfl⟩ := rx; exact SeqAt.EqAt.int_str a t' b t
    | _ => exact absurd (show false = true from fx) Bool.false_ne_true
  | str a =>
    obtain ⟨t', rfl⟩ := ry
    cases x with
    | non => cases rx; exact SeqAt.EqAt.str_none a t'
    | bl b => cases rx; exact SeqAt.EqAt.str_bool a t' b
    | int b => obtain ⟨t, rfl⟩ := rx; exact SeqAt.EqAt.str_int a t' b t
    | str b => obtain ⟨t, rfl⟩ := rx; exact SeqAt.EqAt.str_str a t' b t
    | _ => exact absurd (show false = true from fx) Bool.false_ne_true
  | _ => exact absurd (show false = true from fy) Bool.false_ne_true
/-- the items' answers, read off the values (a value's own answer does not lean on its token) -/
def eqU (x : V) (u : Value) : Bool := match u with
  | .none => eqV .non x
  | .bool b => eqV (.bl b) x
  | .int i _ => eqV (.int i) x
  | .str z _ => eqV (.str z) x
  | _ => false
theorem eqU_of {x y : V} {u : Value} (r : RelV y u) (f : flatV y = true) : eqU x u = eqV y x := by
  cases y with
  | non => cases r; rfl
  | bl b => cases r; rfl
  | int i => obtain ⟨t, rfl⟩ := r; rfl
  | str z => obtain ⟨t, rfl⟩ := r; rfl
  | _ => exact absurd (show false = true from f) Bool.false_ne_true
theorem any_eqU {x : V} : ∀ {xs : List V} {us : List Value}, Vals xs us → xs.all flatV = true → us.any (eqU x) = xs.any fun y => eqV y x
  | _, _, .nil, _ => rfl
  | y :: xs, u :: us, .cons r t, f => by
    rw [List.all_cons, Bool.and_eq_true] at f
    rw [List.any_cons, List.any_cons, eqU_of r f.1, any_eqU t f.2]
theorem mem_eqAt {A : Around} {s : Shared} {x : V} {v : Value} (rx : RelV x v) (fx : flatV x = true) : ∀ {xs : List V} {us : List Value}, Vals xs us → xs.all flatV = true → ∀ u ∈ us, SeqAt.EqAt A s u v (eqU x u)
  | _, _, .nil, _ => fun u hu => by cases hu
  | y :: xs, u :: us, .cons r t, f => fun u' hu => by
    rw [List.all_cons, Bool.and_eq_true] at f
    rcases List.mem_cons.mp hu with rfl | hu
    · rw [eqU_of r f.1]; exact eqAt_V r rx f.1 fx
    · exact mem_eqAt rx fx t f.2 u' hu
def inV (x : V) (xs : List V) : Bool := xs.any fun y => eqV y x
/-- x in a list or tuple of flat items -/
def rIn (K : PySem.W.Frag) (neg : Bool) : R2 := fun x y H Q => ∃ p xs, y = .ref p ∧ (SqL K H p xs ∨ SqT K H p xs) ∧ flatV x = true ∧ xs.all flatV = true ∧ Q (.bl (if neg then !inV x xs else inV x xs)) H
theorem op_notIn_seq : OpR X (compareOp .NotIn) (rIn X.K true) := by
  intro pins s σ H x y v u Q I rx ry h
  obtain ⟨p, xs, rfl, hq, fx, fs, q⟩ := h
  cases ry
  rcases hq with hq | hq
  · obtain ⟨its, r, pl, hz⟩ := I.list hq
    refine SeqAt.notIn_listAt (eqU x) pl.isList (fun w hw => mem_eqAt rx fx r fs w (by simpa using hw)) ⟨.bl _, H, I, rfl, ?_⟩
    rw [show its.toArray.any (eqU x) = its.any (eqU x) by simp, any_eqU r fs]
    exact q
  · obtain ⟨its, r, pl, hz⟩ := I.tuple hq
    refine SeqAt.notIn_tupleAt (eqU x) pl (fun w hw => mem_eqAt rx fx r fs w (by simpa using hw)) ⟨.bl _, H, I, rfl, ?_⟩
    rw [show its.toArray.any (eqU x) = its.any (eqU x) by simp, any_eqU r fs]
    exact q
/-! ### len, list(x), tuple(x) of any list or tuple that is read -/
theorem CallR.or {f : Value} {r r' : List V → Hp → VK → Prop} (h : CallR X f r) (h' : CallR X f r') : CallR X f (fun xs H Q => r xs H Q ∨ r' xs H Q) := by
  intro pins s σ H xs us Q I rs q
  rcases q with q | q
  · exact h pins s σ H xs us Q I rs q
  · exact h' pins s σ H xs us Q I rs q
theorem call_list_of : CallR X (.type "list") (fun xs H Q => ∃ p ys, xs = [.ref p] ∧ (SqL X.K H p ys ∨ SqT X.K H p ys) ∧ ∀ l, H l = none → Q (.ref l) (upd H l (.lst ys))) := by
  intro pins s σ H xs us Q I r h
  obtain ⟨p, ys, rfl, hq, q⟩ := h
  obtain ⟨u, rfl, rx⟩ := vals1 r
  cases rx
  have fin : ∀ (its : List Value), Vals ys its → ys.length ≤ sizeLine → ∀ (h' : Heap) (c' : Nat), (∀ b o', s.heap.get? b = some o' → h'.get? b = some o') →
      h'.get? s.heap.objs.size = some { cls := .type "list", dict := none, data := .seq its.toArray c', slots := #[] } → EP X pins σ Q (.ref s.heap.objs.size) { s with heap := h' } := fun its r' hz h' c' kp e =>
    ⟨.ref s.heap.objs.size, _, I.laid (t' := s.toks) kp (Nat.le_refl _) (show ObjOk X.prog X.w _ h' _ (.lst ys) from ⟨hz, its, c', r', e⟩), rfl, q _ (I.hok.fresh (Nat.le_refl _))⟩
  rcases hq with hq | hq
  · obtain ⟨its, r', pl, hz⟩ := I.list hq
    have hlen := r'.length
    obtain ⟨o, ho, hc, n, hd⟩ := pl.isList
    exact call_list_seq p (.inl rfl) ho hc hd (fun h' c' kp e => fin its r' hz h' c' kp e) (by simp only [List.size_toArray] <;> omega)
  · obtain ⟨its, r', pl, hz⟩ := I.tuple hq
    have hlen := r'.length
    obtain ⟨o, ho, hc, n, hd⟩ := pl
    exact call_list_seq p (.inr rfl) ho hc hd (fun h' c' kp e => fin its r' hz h' c' kp e) (by simp only [List.size_toArray] <;> omega)
/-! ### the call of a builtin's method: o.m(..) -/
/-- the value is of that builtin type -/
def tyV (K : PySem.W.Frag) (T : String) (x : V) (H : Hp) : Prop := match x with
  | .str _ => T = "str"
  | .int _ => T = "int"
  | .ref p => (T = "list" ∧ ∃ xs, SqL K H p xs) ∨ (T = "tuple" ∧ ∃ o, K.lookup p = some o ∧ o.cls = .type "tuple" ∧ o.dict = none) ∨
      (T = "dict" ∧ ((∃ kvs, H p = some (.dK kvs)) ∨ ∃ kvs, H p = some (.dT kvs))) ∨ (T = "set" ∧ ∃ S n, H p = some (.set S n))
  | _ => False
theorem tyV_is {pins : List (Addr × Obj)} {σ : St} {H : Hp} {s : Shared} {T : String} {x : V} {v : Value} (I : Inv X pins σ H s) (r : RelV x v) (ty : tyV X.K T x H) :
    s.TypeIs v T ∧ ∀ a, v = .ref a → ∃ ob, s.heap.get? a = some ob ∧ ob.dict = none := by
  cases x with
  | str z =>
    obtain ⟨t, rfl⟩ := r
    cases (show T = "str" from ty)
    exact ⟨typeIs_str s z t, fun _ e => nomatch e⟩
  | int i =>
    obtain ⟨t, rfl⟩ := r
    cases (show T = "int" from ty)
    exact ⟨typeIs_int s i t, fun _ e => nomatch e⟩
  | ref p =>
    cases r
    rcases ty with ⟨rfl, xs, hq⟩ | ⟨rfl, o, hk, hc, hd⟩ | ⟨rfl, hk⟩ | ⟨rfl, S, n, hk⟩
    · obtain ⟨its, _, pl, _⟩ := I.list hq
      refine ⟨pl.isList.typeIs, fun a e => ?_⟩
      cases e
      obtain ⟨o, n, e, c, hd, _⟩ := pl
      exact ⟨o, e, hd⟩
    · refine ⟨⟨o, I.kIn p o hk, hc⟩, fun a e => ?_⟩
      cases e
      exact ⟨o, I.kIn _ o hk, hd⟩
    · have z : ∃ o, s.heap.get? p = some o ∧ o.ExactDict := by
        rcases hk with ⟨kvs, hk⟩ | ⟨kvs, hk⟩
        · obtain ⟨_, _, _, _, o, _, _, e, ex, _⟩ := I.hok p _ hk
          exact ⟨o, e, ex⟩
        · obtain ⟨_, _, _, _, o, _, _, e, ex, _⟩ := I.hok p _ hk
          exact ⟨o, e, ex⟩
      obtain ⟨o, e, ex⟩ := z
      refine ⟨⟨o, e, ex.1⟩, fun a e2 => ?_⟩
      cases e2
      exact ⟨o, e, ex.2.1⟩
    · obtain ⟨o, _, _, _, e, ex, _⟩ := I.hok p _ hk
      refine ⟨⟨o, e, ex.1⟩, fun a e2 => ?_⟩
      cases e2
      exact ⟨o, e, ex.2.1⟩
  | _ => exact False.elim ty
def tBM (K : PySem.W.Frag) (T : String) (r : V → List V → Hp → VK → Prop) (to : TE) (t : TA) : TE := fun σ H Q => to σ H fun x H1 => tyV K T x H1 ∧ t σ H1 fun xs H2 => r x xs H2 Q
variable {o e : Expr} {es : List Expr} {to : TE} {t : TA} {name : Str} {apos cpos : Pos} {T id : String} {r : V → List V → Hp → VK → Prop}
theorem pe_bm (pa : PlainAttrs T) (slot : Slot T name id) (hty : typeOf (.builtin id) = pure (.type "method_descriptor")) (hm : MtR X id r) (ho : PE X o to) (ha : PA X (e :: es) t)
    (hbase : attributeBase o name X.env (eval o X.env) = eval o X.env := by rfl)
    (hfew : ((backTo cpos (starEach (e :: es) X.env)).all (fun x => !x.1) && (backToKw cpos (keywordEach [] X.env)).all (fun x => x.1.isSome)
      && decide ((e :: es).length + ([] : List Keyword).length + (if ([] : List Keyword).isEmpty then 0 else 1) < 30)) = true := by rfl)
    (hline : (apos.endLine == cpos.line) = true := by rfl) (hs : starEach (e :: es) X.env = (false, eval e X.env) :: starEach es X.env := by rfl) (hplain : (backTo cpos (starEach es X.env)).any (·.1) = false := by rfl) :
    PE X (.Call (.Attribute o name apos) (e :: es) [] cpos) (tBM X.K T r to t) := by
  constructor; intro pins s σ H Q I h
  refine wpAny_Call_method_late hbase hfew hline rfl (thn (ho pins s σ H _ I h) fun v s1 ⟨x, H1, I1, r1, ty, q1⟩ => ?_)
  obtain ⟨h1, h2⟩ := tyV_is I1 r1 ty
  refine ⟨T, id, pa, slot, hty, h1, h2, ?_⟩
  have hA := ha cpos pins s1 σ H1 _ I1 q1
  rw [hs] at hA ⊢
  refine Calls.callWith_builtin (by show (false || (backTo cpos (starEach es X.env)).any (·.1)) = false; rw [hplain] <;> rfl) (Calls.evalArgs_plain ?_)
  exact thn hA fun us s2 ⟨vs, H2, I2, r2, q2⟩ => hm pins s2 σ H2 x vs v us Q I2 r1 r2 q2
/- xs.append(e), list.index on a module's tuple .. are MtR facts of 06m -/
end
end L2

namespace L2
open PySem PySem.Spec PyProof.Rows

def MtM (X : Cx) (id : String) (r : V → List V → Hp → VK → Prop) : Prop :=
  ∀ (pins : List (Addr × Obj)) (s : Shared) (σ : St) (H : Hp) (x : V) (xs : List V) (v : Value) (us : List Value) (Q : VK), Inv X pins σ H s → RelV x v → Vals xs us → r x xs H Q →
    wpAny (model X.prog X.w) X.A (call (.builtin id) (v :: us)) (EP X pins σ Q) X.xe s

/-! ### lists of values -/
theorem Vals.one : ∀ {x : V} {us : List Value}, Vals [x] us → ∃ u, us = [u] ∧ RelV x u
  | _, _, .cons r .nil => ⟨_, rfl, r⟩
theorem Vals.two : ∀ {x y : V} {us : List Value}, Vals [x, y] us → ∃ u v, us = [u, v] ∧ RelV x u ∧ RelV y v
  | _, _, _, .cons r (.cons q .nil) => ⟨_, _, rfl, r, q⟩
theorem Vals.zero : ∀ {us : List Value}, Vals [] us → us = []
  | _, .nil => rfl
section
variable {X : Cx} {pins : List (Addr × Obj)} {σ : St} {H : Hp} {s : Shared} {l b : Addr} {xs ys zs : List V}

/-! ### the two steps: a tracked list is rewritten, a new list is laid -/
theorem Inv.lset {its its' : List Value} {n : Nat} {f : Array Value → Array Value} {t' : Nat} (I : Inv X pins σ H s) (hH : H l = some (.lst xs))
    (e : s.heap.get? l = some { cls := .type "list", data := .seq its.toArray n }) (hf : f its.toArray = its'.toArray) (hv : Vals ys its') (hz : ys.length ≤ sizeLine) :
    Inv X pins σ (upd H l (.lst ys)) { s with heap := s.heap.update l (Obj.mapSeq f), toks := t' } := by
  have q := PySem.IsL.update e f
  rw [hf] at q
  refine I.write (x := l) (e := l) (by rw [hH]; exact trivial) (.inl rfl) (fun b' u hb hu => (Heap.get?_update_other s.heap (Obj.mapSeq f) (Ne.symm hb)).trans hu) ⟨_, q⟩ ?_
  exact ⟨hz, its', _, hv, q⟩
theorem Inv.lnew {its : List Value} {t' : Nat} (I : Inv X pins σ H s) (hv : Vals ys its) (hz : ys.length ≤ sizeLine) :
    Inv X pins σ (upd H s.heap.objs.size (.lst ys)) { s with heap := s.heap.push { cls := .type "list", data := .seq its.toArray }, toks := t' } :=
  I.laid (fun _ _ q => Heap.get?_push_of_some _ q) (Nat.le_refl _) ⟨hz, its, 0, hv, Heap.get?_push_size _ rfl⟩
theorem Inv.fresh (I : Inv X pins σ H s) : H s.heap.objs.size = none := I.hok.fresh (Nat.le_refl _)
theorem Inv.lstM (I : Inv X pins σ H s) (hH : H l = some (.lst xs)) : xs.length ≤ sizeLine ∧ ∃ (its : List Value) (n : Nat), Vals xs its ∧ xs.length = its.length ∧ s.heap.get? l = some { cls := .type "list", data := .seq its.toArray n } := by
  obtain ⟨z, its, n, r, e⟩ := I.hok l _ hH
  exact ⟨z, its, n, r, r.length, e⟩

end

section
variable {X : Cx}

/-! ### methods -/
def rAppend : V → List V → Hp → VK → Prop := fun x vs H Q => ∃ l xs y, x = .ref l ∧ vs = [y] ∧ H l = some (.lst xs) ∧ xs.length < sizeLine ∧ Q .non (upd H l (.lst (xs ++ [y])))
theorem mt_append : MtM X "list.append" rAppend := by
  intro pins s σ H x vs v us Q I rx rv h
  obtain ⟨l, xs, y, rfl, rfl, hH, hz, q⟩ := h
  cases rx
  obtain ⟨u, rfl, ru⟩ := rv.one
  obtain ⟨z, its, n, r, hl, e⟩ := I.lstM hH
  refine call_meets F.slot_list_append ⟨_, e, rfl⟩ F.entry_list_append (F.args_list_append_2 _ _) (PySem.list_append l its.toArray n u (by rw [List.size_toArray]; omega)) ⟨e, ?_⟩
  refine ⟨.non, _, I.lset (its' := its ++ [u]) hH e (by simp) (r.append (.cons ru .nil)) ?_, rfl, q⟩
  rw [List.length_append, List.length_singleton]
  omega

/-! ### list + list, list += list, list * int -/
def rCat : R2 := fun x y H Q => ∃ l b xs zs, x = .ref l ∧ y = .ref b ∧ H l = some (.lst xs) ∧ H b = some (.lst zs) ∧ xs.length + zs.length ≤ sizeLine ∧ ∀ p, H p = none → Q (.ref p) (upd H p (.lst (xs ++ zs)))
theorem op_cat : OpR X (binaryOp .Add) rCat := by
  intro pins s σ H x y v u Q I rx ry h
  obtain ⟨l, b, xs, zs, rfl, rfl, hH, hB, hz, q⟩ := h
  cases rx
  cases ry
  obtain ⟨z, its, n, r, hl, e⟩ := I.lstM hH
  obtain ⟨z2, its2, n2, r2, hl2, e2⟩ := I.lstM hB
  refine PySem.P.add_list e e2 ?_ (by rw [List.size_toArray, List.size_toArray]; omega)
  have ea : its.toArray ++ its2.toArray = (its ++ its2).toArray := by simp
  rw [ea]
  exact ⟨.ref _, _, I.lnew (t' := s.toks) (r.append r2) (by rw [List.length_append]; omega), rfl, q _ I.fresh⟩
/-! ### del xs[i] -/
end

/-! ### xs[a:b] = ys -/
section
variable {prog : Program} {w : World} {A : Around} {E : Value → Shared → Prop} {s : Shared}
end

section
variable {X : Cx}
end
end L2

namespace L2
open PySem PySem.Spec PyProof.Rows

/-! ### lists of pairs as tables -/
section
variable {κ : Type} [DecidableEq κ]
def valV (kvs : List (κ × V)) (k : κ) : Option V := (kvs.find? fun kv => decide (kv.1 = k)).map (·.2)
/-- in its place, or at the end -/
def putK (kvs : List (κ × V)) (k : κ) (v : V) : List (κ × V) :=
  if (kvs.any fun kv => decide (kv.1 = k)) = true then kvs.map (fun kv => if kv.1 = k then (kv.1, v) else kv) else kvs ++ [(k, v)]
def dropK (kvs : List (κ × V)) (k : κ) : List (κ × V) := kvs.filter fun kv => decide (kv.1 ≠ k)

theorem valV_pos {p : κ × V} {r : List (κ × V)} {k : κ} (e : p.1 = k) : valV (p :: r) k = some p.2 := by simp [valV, List.find?_cons, e]
theorem valV_neg {p : κ × V} {r : List (κ × V)} {k : κ} (e : ¬ p.1 = k) : valV (p :: r) k = valV r k := by simp [valV, List.find?_cons, e]
theorem valV_any (k : κ) : ∀ kvs : List (κ × V), (kvs.any fun kv => decide (kv.1 = k)) = (valV kvs k).isSome
  | [] => rfl
  | p :: r => by
    rw [List.any_cons]
    by_cases e : p.1 = k
    · simp only [valV_pos e, decide_eq_true e, Bool.true_or, Option.isSome_some]
    · rw [valV_neg e, decide_eq_false e, Bool.false_or]; exact valV_any k r
theorem valV_map (k j : κ) (y : V) : ∀ kvs : List (κ × V), valV (kvs.map fun kv => if kv.1 = k then (kv.1, y) else kv) j = (valV kvs j).map fun x => if j = k then y else x
  | [] => rfl
  | p :: r => by
    have ih := valV_map k j y r
    rw [List.map_cons]
    by_cases h : p.1 = k
    · rw [if_pos h]
      by_cases e : p.1 = j
      · rw [valV_pos (p := (p.1, y)) e, valV_pos e, Option.map_some, if_pos (e.symm.trans h)]
      · rw [valV_neg (p := (p.1, y)) e, valV_neg e, ih]
    · rw [if_neg h]
      by_cases e : p.1 = j
      · rw [valV_pos (p := p) e, valV_pos e, Option.map_some, if_neg (fun z => h (e.trans z))]
      · rw [valV_neg (p := p) e, valV_neg e, ih]
theorem valV_snoc (k j : κ) (y : V) : ∀ kvs : List (κ × V), valV kvs k = none → valV (kvs ++ [(k, y)]) j = if j = k then some y else valV kvs j
  | [], _ => by
    by_cases e : k = j
    · rw [if_pos e.symm]; exact valV_pos (p := (k, y)) e
    · rw [if_neg (fun z => e z.symm)]; exact valV_neg (p := (k, y)) e
  | p :: r, hn => by
    rw [List.cons_append]
    have hk : ¬ p.1 = k := fun z => by rw [valV_pos z] at hn; cases hn
    rw [valV_neg hk] at hn
    have ih := valV_snoc k j y r hn
    by_cases e : p.1 = j
    · rw [valV_pos e, valV_pos e, if_neg (fun z => hk (e.trans z))]
    · rw [valV_neg e, valV_neg e, ih]
theorem valV_put (kvs : List (κ × V)) (k j : κ) (y : V) : valV (putK kvs k y) j = if j = k then some y else valV kvs j := by
  unfold putK
  by_cases a : (kvs.any fun kv => decide (kv.1 = k)) = true
  · rw [if_pos a, valV_map]
    rw [valV_any] at a
    by_cases e : j = k
    · obtain ⟨x, hx⟩ := Option.isSome_iff_exists.mp a
      rw [if_pos e, e, hx, Option.map_some, if_pos rfl]
    · rw [if_neg e]
      cases valV kvs j with
      | none => rfl
      | some x => rw [Option.map_some, if_neg e]
  · rw [if_neg a]
    refine valV_snoc k j y kvs ?_
    rw [valV_any] at a
    cases q : valV kvs k with
    | none => rfl
    | some x => rw [q] at a; exact (a rfl).elim
theorem length_putK (kvs : List (κ × V)) (k : κ) (v : V) : (putK kvs k v).length ≤ kvs.length + 1 := by
  unfold putK
  split
  · rw [List.length_map]; omega
  · rw [List.length_append, List.length_cons, List.length_nil]; omega
theorem RelO.isSome_eq {o : Option V} {u : Option Value} (r : RelO o u) : o.isSome = u.isSome := by
  cases o with
  | none => cases u with
    | none => rfl
    | some _ => exact (show False from r).elim
  | some _ => cases u with
    | none => exact (show False from r).elim
    | some _ => rfl
theorem RelO.getD {o : Option V} {u : Option Value} {d : V} {d' : Value} (r : RelO o u) (rd : RelV d d') : RelV (o.getD d) (u.getD d') := by
  cases o with
  | none => cases u with
    | none => exact rd
    | some _ => exact (show False from r).elim
  | some _ => cases u with
    | none => exact (show False from r).elim
    | some _ => exact r

/-- raw tables of the same keys -/
theorem KV.val {kvs : List (κ × V)} {vs : List (κ × Value)} (r : KV kvs vs) (k : κ) : RelO (valV kvs k) (valueAt vs k) := by
  unfold KV at r
  induction r with
  | nil => exact True.intro
  | @cons p q ps qs h t ih =>
    obtain ⟨h1, h2⟩ := h
    by_cases e : p.1 = k
    · have e' : q.1 = k := h1.symm.trans e
      have b : valueAt (q :: qs) k = some q.2 := by simp [valueAt, List.find?_cons, e']
      rw [valV_pos e, b]; exact h2
    · have e' : ¬ q.1 = k := fun z => e (h1.trans z)
      have b : valueAt (q :: qs) k = valueAt qs k := by simp [valueAt, List.find?_cons, e']
      rw [valV_neg e, b]; exact ih
theorem KV.any {kvs : List (κ × V)} {vs : List (κ × Value)} (r : KV kvs vs) (k : κ) : (kvs.any fun kv => decide (kv.1 = k)) = vs.any fun kv => decide (kv.1 = k) := by
  unfold KV at r
  induction r with
  | nil => rfl
  | cons h t ih => rw [List.any_cons, List.any_cons, ih, h.1]
theorem KV.repl {kvs : List (κ × V)} {vs : List (κ × Value)} (r : KV kvs vs) (k : κ) {y : V} {u : Value} (ry : RelV y u) :
    KV (kvs.map fun kv => if kv.1 = k then (kv.1, y) else kv) (vs.map fun kv => if kv.1 = k then (kv.1, u) else kv) := by
  unfold KV at r ⊢
  induction r with
  | nil => exact .nil
  | @cons p q ps qs h t ih =>
    rw [List.map_cons, List.map_cons]
    refine .cons ?_ ih
    obtain ⟨h1, h2⟩ := h
    by_cases e : p.1 = k
    · rw [if_pos e, if_pos (h1.symm.trans e)]; exact ⟨h1, ry⟩
    · rw [if_neg e, if_neg (fun z => e (h1.trans z))]; exact ⟨h1, h2⟩
theorem KV.put {kvs : List (κ × V)} {vs : List (κ × Value)} (r : KV kvs vs) (k : κ) {y : V} {u : Value} (ry : RelV y u) : KV (putK kvs k y) (stored vs k u) := by
  unfold putK stored
  rw [r.any k]
  by_cases e : (vs.any fun kv => decide (kv.1 = k)) = true
  · rw [if_pos e, if_pos e]; exact r.repl k ry
  · rw [if_neg e, if_neg e]; exact Paired.snoc r ⟨rfl, ry⟩
theorem KV.drop {kvs : List (κ × V)} {vs : List (κ × Value)} (r : KV kvs vs) (k : κ) : KV (dropK kvs k) (without vs k) := by
  unfold KV at r ⊢
  unfold dropK without
  induction r with
  | nil => exact .nil
  | @cons p q ps qs h t ih =>
    obtain ⟨h1, h2⟩ := h
    rw [List.filter_cons, List.filter_cons]
    by_cases e : p.1 = k
    · have a : ¬ decide (p.1 ≠ k) = true := by simp [e]
      have b : ¬ decide (q.1 ≠ k) = true := by simp [h1.symm.trans e]
      rw [if_neg a, if_neg b]; exact ih
    · have e' : ¬ q.1 = k := fun z => e (h1.trans z)
      have a : decide (p.1 ≠ k) = true := by simp [e]
      have b : decide (q.1 ≠ k) = true := by simp [e']
      rw [if_pos a, if_pos b]; exact .cons ⟨h1, h2⟩ ih
theorem KV.keys {kvs : List (κ × V)} {vs : List (κ × Value)} (r : KV kvs vs) : kvs.map (·.1) = vs.map (·.1) := by
  unfold KV at r
  induction r with
  | nil => rfl
  | cons h t ih => rw [List.map_cons, List.map_cons, ih, h.1]
theorem KV.length {kvs : List (κ × V)} {vs : List (κ × Value)} (r : KV kvs vs) : kvs.length = vs.length := Paired.length r
end


/-! ### a tracked dict, its keys ints and texts or tuples of these -/
theorem kV_is {P : Program} {w : World} {k : Key} {u : Value} (r : RelV (kV k) u) : (mixKind P w).is k u = true := by
  cases k with
  | inl i => obtain ⟨t, e⟩ := (show ∃ t, u = Value.int i t from r); subst e; exact mixKind_int P w i t
  | inr x => obtain ⟨t, e⟩ := (show ∃ t, u = Value.str x t from r); subst e; exact mixKind_str P w x t
theorem items_are {P : Program} {w : World} : ∀ {ks : List Key} {us : List Value}, Vals (ks.map kV) us → ItemsAre (mixKind P w) ks us
  | [], _, r => by rw [List.map_nil] at r; cases r; exact .nil
  | k :: ks, _, r => by
    rw [List.map_cons] at r
    cases r with
    | cons h t => exact .cons (kV_is h) (items_are t)

/-- raw entries of a dict with tuple keys -/
abbrev KT (H : Hp) : List (List Key × V) → List (List Key × Addr × Value) → Prop := Paired fun p q => p.1 = q.1 ∧ H q.2.1 = some (.tup (p.1.map kV)) ∧ RelV p.2 q.2.2
theorem KT.val {H : Hp} {kvs : List (List Key × V)} {xs : List (List Key × Addr × Value)} (r : KT H kvs xs) (k : List Key) : RelO (valV kvs k) ((atKey xs k).map (·.2)) := by
  induction r with
  | nil => exact True.intro
  | @cons p q ps qs h t ih =>
    obtain ⟨h1, _, h2⟩ := h
    by_cases e : p.1 = k
    · have e' : q.1 = k := h1.symm.trans e
      have b : atKey (q :: qs) k = some q.2 := by simp [atKey, List.find?_cons, e']
      rw [valV_pos e, b]; exact h2
    · have e' : ¬ q.1 = k := fun z => e (h1.trans z)
      have b : atKey (q :: qs) k = atKey qs k := by simp [atKey, List.find?_cons, e']
      rw [valV_neg e, b]; exact ih
theorem KT.repl {H : Hp} {kvs : List (List Key × V)} {xs : List (List Key × Addr × Value)} (r : KT H kvs xs) (k : List Key) {y : V} {u : Value} (ry : RelV y u) :
    KT H (kvs.map fun kv => if kv.1 = k then (kv.1, y) else kv) (xs.map (putAt k u)) := by
  induction r with
  | nil => exact .nil
  | @cons p q ps qs h t ih =>
    rw [List.map_cons, List.map_cons]
    refine .cons ?_ ih
    obtain ⟨h1, h2, h3⟩ := h
    unfold putAt
    by_cases e : p.1 = k
    · rw [if_pos e, if_pos (h1.symm.trans e)]; exact ⟨h1, h2, ry⟩
    · rw [if_neg e, if_neg (fun z => e (h1.trans z))]; exact ⟨h1, h2, h3⟩
theorem KT.put {H : Hp} {kvs : List (List Key × V)} {xs : List (List Key × Addr × Value)} (r : KT H kvs xs) (k : List Key) {b : Addr} {y : V} {u : Value} (hb : H b = some (.tup (k.map kV))) (ry : RelV y u) :
    KT H (putK kvs k y) (storedH xs k b u) := by
  have e : (kvs.any fun kv => decide (kv.1 = k)) = (atKey xs k).isSome := by
    rw [valV_any, (r.val k).isSome_eq, Option.isSome_map]
  unfold putK storedH
  rw [e]
  by_cases q : (atKey xs k).isSome = true
  · rw [if_pos q, if_pos q]; exact r.repl k ry
  · rw [if_neg q, if_neg q]; exact Paired.snoc r ⟨rfl, hb, ry⟩
theorem KT.keeps {H H' : Hp} {kvs : List (List Key × V)} {xs : List (List Key × Addr × Value)} (r : KT H kvs xs) (ht : ∀ b ys, H b = some (.tup ys) → H' b = some (.tup ys)) : KT H' kvs xs :=
  Paired.mapP r fun _ _ z => ⟨z.1, ht _ _ z.2.1, z.2.2⟩

section
variable {P : Program} {w : World} {H : Hp} {h : Heap} {a : Addr}
theorem rd_of {u : HO} (ok : HOk P w H h) (e : Rd H a u) : ObjOk P w H h a u := e.ok ok
theorem dk_rd {kvs : List (Key × V)} (ok : HOk P w H h) (e : Rd H a (.dK kvs)) : kvs.length ≤ sizeLine ∧ (a == sysModules) = false ∧ ∃ vs, KV kvs vs ∧ h.DictOf (mixKind P w) a vs :=
  show ObjOk P w H h a (.dK kvs) from rd_of ok e
theorem dk_of {kvs : List (Key × V)} (ok : HOk P w H h) (e : H a = some (.dK kvs)) : kvs.length ≤ sizeLine ∧ (a == sysModules) = false ∧ ∃ vs, KV kvs vs ∧ h.DictOf (mixKind P w) a vs := dk_rd ok (.inl e)
/-- a tracked tuple of ints and texts is a key -/
theorem key_of {ks : List Key} (ok : HOk P w H h) (e : H a = some (.tup (ks.map kV))) : (tupleKind (mixKind P w)).is h ks a := by
  obtain ⟨_, its, r, o, h1, h2, n, h3⟩ := (show ObjOk P w H h a (.tup (ks.map kV)) from ok a _ e)
  exact ⟨o, its.toArray, n, h1, h2, h3, by simpa using items_are r⟩
theorem dt_rd {kvs : List (List Key × V)} (ok : HOk P w H h) (e : Rd H a (.dT kvs)) : kvs.length ≤ sizeLine ∧ (a == sysModules) = false ∧
    ∃ xs, KT H kvs xs ∧ h.DictOfH (tupleKind (mixKind P w)) a xs := by
  obtain ⟨z, y, xs, r, o, es, ep, h1, h2, h3, h4, h5⟩ := (show ObjOk P w H h a (.dT kvs) from rd_of ok e)
  refine ⟨z, y, xs, r, o, es, ep, h1, h2, h3, h4, fun x hx => ?_, h5⟩
  have all : ∀ {l : List (List Key × V)} {m : List (List Key × Addr × Value)}, KT H l m → ∀ x ∈ m, (tupleKind (mixKind P w)).is h x.1 x.2.1 := by
    intro l m q
    induction q with
    | nil => intro x hx; exact nomatch hx
    | @cons p q ps qs hq t ih =>
      intro x hx
      rcases List.mem_cons.mp hx with e | hx
      · subst e
        exact key_of ok (by rw [← hq.1]; exact hq.2.1)
      · exact ih x hx
  exact all r x hx
theorem dt_of {kvs : List (List Key × V)} (ok : HOk P w H h) (e : H a = some (.dT kvs)) : kvs.length ≤ sizeLine ∧ (a == sysModules) = false ∧
    ∃ xs, KT H kvs xs ∧ h.DictOfH (tupleKind (mixKind P w)) a xs := dt_rd ok (.inl e)
end

/-- what the dict at a holds at the key y -/
def DGet (H : Hp) (a : Addr) (y : V) (r : Option V) : Prop :=
  (∃ kvs k, Rd H a (.dK kvs) ∧ y = kV k ∧ r = valV kvs k) ∨ ∃ kvs k b, Rd H a (.dT kvs) ∧ y = .ref b ∧ H b = some (.tup (k.map kV)) ∧ r = valV kvs k
/-- the heap behind a[y] = v -/
def DPut (H : Hp) (a : Addr) (y v : V) (H' : Hp) : Prop :=
  (∃ kvs k, H a = some (.dK kvs) ∧ y = kV k ∧ kvs.length < sizeLine ∧ H' = upd H a (.dK (putK kvs k v))) ∨
  ∃ kvs k b, H a = some (.dT kvs) ∧ y = .ref b ∧ H b = some (.tup (k.map kV)) ∧ kvs.length < sizeLine ∧ H' = upd H a (.dT (putK kvs k v))
theorem DGet.k {H : Hp} {a : Addr} {kvs : List (Key × V)} {k : Key} (e : H a = some (.dK kvs)) : DGet H a (kV k) (valV kvs k) := .inl ⟨kvs, k, .inl e, rfl, rfl⟩
theorem DGet.t {H : Hp} {a b : Addr} {kvs : List (List Key × V)} {k : List Key} (e : H a = some (.dT kvs)) (eb : H b = some (.tup (k.map kV))) : DGet H a (.ref b) (valV kvs k) := .inr ⟨kvs, k, b, .inl e, rfl, eb, rfl⟩
theorem DPut.k {H : Hp} {a : Addr} {kvs : List (Key × V)} {k : Key} {v : V} (e : H a = some (.dK kvs)) (hl : kvs.length < sizeLine) : DPut H a (kV k) v (upd H a (.dK (putK kvs k v))) := .inl ⟨kvs, k, e, rfl, hl, rfl⟩
theorem DPut.t {H : Hp} {a b : Addr} {kvs : List (List Key × V)} {k : List Key} {v : V} (e : H a = some (.dT kvs)) (eb : H b = some (.tup (k.map kV))) (hl : kvs.length < sizeLine) :
    DPut H a (.ref b) v (upd H a (.dT (putK kvs k v))) := .inr ⟨kvs, k, b, e, rfl, eb, hl, rfl⟩


section
variable {X : Cx} {pins : List (Addr × Obj)} {σ : St} {H : Hp} {s : Shared} {a : Addr} {y v : V} {u r : Value} {o : Option V} {A : Around} {E : Value → Shared → Prop}

theorem Inv.big (I : Inv X pins σ H s) : sysModules < s.heap.objs.size := by
  have h : mainGlobals < s.heap.objs.size := (I.mod.glob.keeps I.bk).lt
  exact Nat.lt_trans (by decide) h

/-- d[y], there -/
theorem d_getItem {Q : Value → Shared → Prop} (hu : A.units + 1 < cLine) (I : Inv X pins σ H s) (g : DGet H a y (some v)) (ry : RelV y u) (h : ∀ w' s', Inv X pins σ H s' → RelV v w' → Q w' s') :
    wpAny (model X.prog X.w) A (getItem (.ref a) u) Q E s := by
  rcases g with ⟨kvs, k, e, ey, l⟩ | ⟨kvs, k, b, e, ey, eb, l⟩
  · subst ey
    obtain ⟨z, hd, vs, rel, dd⟩ := dk_rd I.hok e
    obtain ⟨w', hw, rw'⟩ := RelO.some_of (v := v) (o := valueAt vs k) (by rw [l]; exact rel.val k)
    exact wpAny_getItem_of (kV_is ry) dd.mapOf hw (h w' _ (I.tok _) rw')
  · subst ey
    cases (show u = Value.ref b from ry)
    obtain ⟨z, hd, xs, rel, dd⟩ := dt_rd I.hok e
    obtain ⟨w', hw, rw'⟩ := RelO.some_of (v := v) (o := (atKey xs k).map (·.2)) (by rw [l]; exact rel.val k)
    obtain ⟨p, hp, hp2⟩ := Option.map_eq_some_iff.mp hw
    refine wpAny_getItem_heap (tupleKind_room_in1 hu) (key_of I.hok eb) dd hp ?_
    rw [hp2]
    exact h w' _ (I.tok _) rw'
/-- a dict's object is replaced -/
theorem d_write {h' : Heap} {t' : Nat} {ob : HO} (I : Inv X pins σ H s) (mu : Mut (H a)) (hs : Heap.SameBut a s.heap h') (he : ∃ q, h'.get? a = some q) (new : ObjOk X.prog X.w (upd H a ob) h' a ob) :
    Inv X pins σ (upd H a ob) { s with heap := h', toks := t' } :=
  I.write (x := a) (e := a) mu (.inl rfl) (fun b q hb z => (hs.2 b hb).trans z) he new
theorem dk_new {P : Program} {w : World} {H' : Hp} {h' : Heap} {kvs : List (Key × V)} {vs : List (Key × Value)} (z : kvs.length ≤ sizeLine) (hd : (a == sysModules) = false) (rel : KV kvs vs) (dd : h'.DictOf (mixKind P w) a vs) :
    ObjOk P w H' h' a (.dK kvs) := ⟨z, hd, vs, rel, dd⟩
/-- d[y] = v -/
theorem d_setItem {H' : Hp} {Q : Unit → Shared → Prop} (hu : A.units + 1 < cLine) (I : Inv X pins σ H s) (g : DPut H a y v H') (ry : RelV y u) (rv : RelV v r) (h : ∀ s', Inv X pins σ H' s' → Q () s') :
    wpAny (model X.prog X.w) A (setItem (.ref a) u r) Q E s := by
  rcases g with ⟨kvs, k, e, ey, l, eH⟩ | ⟨kvs, k, b, e, ey, eb, l, eH⟩
  · subst ey eH
    obtain ⟨z, hd, vs, rel, dd⟩ := dk_of I.hok e
    have hz : vs.length ≤ sizeLine := by rw [← rel.length]; exact z
    have hl : (putK kvs k v).length ≤ sizeLine := by have := length_putK kvs k v; omega
    refine wpAny_setItem_pairs (hsz := hz) (kV_is ry) dd fun h' dd' hs => h _ ?_
    have he : ∃ q, h'.get? a = some q := let ⟨q, _, _, hq, _⟩ := dd'; ⟨q, hq⟩
    exact d_write I (by rw [e]; exact True.intro) hs he (dk_new hl hd (rel.put k rv) dd')
  · subst ey eH
    cases (show u = Value.ref b from ry)
    obtain ⟨z, hd, xs, rel, dd⟩ := dt_of I.hok e
    have hz : xs.length ≤ sizeLine := by rw [← Paired.length rel]; exact z
    have hl : (putK kvs k v).length ≤ sizeLine := by have := length_putK kvs k v; omega
    refine wpAny_setItem_heap (hsz := hz) (tupleKind_room_in1 hu) (key_of I.hok eb) dd fun h' dd' hs => h _ ?_
    obtain ⟨q, es, ep, hq, h2, h3, h4, _, h5⟩ := dd'
    refine d_write I (by rw [e]; exact True.intro) hs ⟨q, hq⟩ ⟨hl, hd, _, (rel.put k eb rv).keeps fun c ys ec => ?_, q, es, ep, hq, h2, h3, h4, h5⟩
    rw [upd_ne (ne_of ec e (fun z => nomatch z))]
    exact ec
end

section
variable {X : Cx} {pins : List (Addr × Obj)} {σ : St} {H : Hp} {s : Shared} {a : Addr} {kvs : List (Key × V)} {k : Key} {u : Value} {A : Around} {E : Value → Shared → Prop}
end


/-! ### readings and rules -/
/-- the element of a subscription, not a slice -/
def NoSl (i : Expr) : Prop := ∀ ov iv, subscripted i false ov iv = operate [ov, iv] (getItem ov iv)
theorem subD_of {prog : Program} {w : World} {A : Around} {E : Value → Shared → Prop} {s : Shared} {env : Env} {value slice : Expr} {pos : Pos} {T id : String} {Q : Value → Shared → Prop}
    (hl : typeLookup (.type T) "__getitem__" = pure (some (.builtin id))) (hs : NoSl slice)
    (h : wpAny (model prog w) A (eval value env) (fun o s₁ => wpAny (model prog w) A (eval slice env) (fun i s₂ => s₂.TypeIs o T ∧ wpAny (model prog w) A (getItem o i) Q E s₂) E s₁) E s) :
    wpAny (model prog w) A (eval (.Subscript value slice pos) env) Q E s := by
  refine Subscript_ (wpAny_mono h (fun o s₁ h₁ => wpAny_mono h₁ (fun i s₂ h₂ => ?_) fun _ _ x => x) fun _ _ x => x)
  obtain ⟨hT, h₂⟩ := h₂
  unfold subscriptTail
  refine wpAny_bind ?_
  rw [getitemInPython_of_ne hT.not_modules]
  refine wpAny_bind (wpAny_specialOf hT hl ?_)
  have fin : wpAny (model prog w) A (subscripted slice false o i) (fun r s₃ => wpAny (model prog w) A (letTemporaryGo value o r >>= fun _ => pure r) Q E s₃) E s₂ := by
    rw [hs o i]
    exact wpAny_operating (wpAny_mono h₂ (fun r s₃ h₃ => wpAny_bind (wpAny_letTemporaryGo (wpAny_pure h₃))) fun _ _ x => x)
  first
    | exact wpAny_pure (wpAny_bind fin)
    | exact wpAny_bind (wpAny_pure (wpAny_bind fin))
    | exact wpAny_bind fin

theorem dict_typeIs {X : Cx} {pins : List (Addr × Obj)} {σ : St} {H : Hp} {s : Shared} {a : Addr} {y : V} {o : Option V} (I : Inv X pins σ H s) (g : DGet H a y o) : s.TypeIs (.ref a) "dict" := by
  rcases g with ⟨kvs, k, e, _, _⟩ | ⟨kvs, k, b, e, _, _, _⟩
  · obtain ⟨_, _, vs, _, dd⟩ := dk_rd I.hok e
    exact dd.typeIs
  · obtain ⟨_, _, xs, _, dd⟩ := dt_rd I.hok e
    exact dd.typeIs
/-- d[y] -/
def tDGet (td ty : TE) : TE := fun σ H Q => td σ H fun x H1 => ty σ H1 fun y H2 => ∃ a v, x = .ref a ∧ DGet H2 a y (some v) ∧ Q v H2
/-- d[y] = v -/
def sDPut (td ty tv : TE) : TS := fun D σ H => tv σ H fun v H1 => td σ H1 fun x H2 => ty σ H2 fun y H3 => ∃ a H4, x = .ref a ∧ DPut H3 a y v H4 ∧ D.nx σ H4
section
variable {X : Cx} {o i e value : Expr} {pos pos' tpos : Pos} {td ty tv : TE}
theorem pe_dget (hu : X.A.units + 1 < cLine) (ho : PE X o td) (hi : PE X i ty) (hs : NoSl i) : PE X (.Subscript o i pos) (tDGet td ty) := by
  constructor; intro pins s σ H Q I h
  refine subD_of PySem.F.slot_dict_getitem.lookup hs (thn (ho pins s σ H _ I h) fun u s1 ⟨x, H1, I1, rx, q1⟩ => thn (hi pins s1 σ H1 _ I1 q1) fun iv s2 ⟨y, H2, I2, ry, a, v, ex, g, q2⟩ => ?_)
  subst ex
  obtain rfl : u = Value.ref a := rx
  exact ⟨dict_typeIs I2 g, d_getItem hu I2 g ry fun w' s3 I3 rw' => ⟨v, H2, I3, rw', q2⟩⟩
theorem ps_dput (hu : X.A.units + 1 < cLine) (ho : PE X o td) (hi : PE X i ty) (hv : PE X value tv) (hs : swapsWith value (some (.Subscript o i pos')) pos.line X.env = pure false) :
    PS X (.Assign [.Subscript o i pos'] value pos) (sDPut td ty tv) := by
  constructor; intro pins s σ H D I h
  refine wpAny_Assign_Subscript (thn (hv pins s σ H _ I h) fun r s1 ⟨v, H1, I1, rv, q1⟩ => thn (ho pins s1 σ H1 _ I1 q1) fun u s2 ⟨x, H2, I2, rx, q2⟩ => thn (hi pins s2 σ H2 _ I2 q2) fun iv s3 ⟨y, H3, I3, ry, a, H4, ex, g, q3⟩ => ?_) hs
  subst ex
  obtain rfl : u = Value.ref a := rx
  exact d_setItem hu I3 g ry rv fun s4 I4 => ⟨σ, H4, I4, q3⟩
end


/-! ### displays -/
theorem dk_empty {P : Program} {w : World} {H : Hp} (h : Heap) (hb : sysModules < h.objs.size) : ObjOk P w H (h.push { cls := .type "dict", data := .dict #[] }) h.objs.size (.dK []) :=
  ⟨Nat.zero_le _, beq_eq_false_iff_ne.mpr (Ne.symm (Nat.ne_of_lt hb)), [], .nil, Heap.DictOf.new h⟩
/-- {}, to be a dict of the kind that is wanted -/
def tDNewK : TE := fun _ H Q => ∀ p, H p = none → Q (.ref p) (upd H p (.dK []))
section
variable {X : Cx} {pos : Pos}
theorem pe_dnewK : PE X (.Dict [] [] pos) tDNewK := ⟨fun pins s σ H Q I h =>
  wpAny_Dict_empty ⟨.ref s.heap.objs.size, _, I.laid (a := s.heap.objs.size) (o := .dK []) (t' := s.toks) (fun _ _ q => Heap.get?_push_of_some _ q) (Nat.le_refl _) (dk_empty s.heap I.big), rfl, h _ (I.hok.fresh (Nat.le_refl _))⟩⟩
end

/-! ### methods -/
/-- a method call o.m(e) of a built-in, with one argument: what must be seen of the text -/
structure M1 (X : Cx) (o : Expr) (m : Str) (apos : Pos) (e : Expr) (cpos : Pos) : Prop where
  base : attributeBase o m X.env (eval o X.env) = eval o X.env
  few : ((backTo cpos (starEach [e] X.env)).all (fun x => !x.1) && (backToKw cpos (keywordEach [] X.env)).all (fun x => x.1.isSome)
    && decide (([e] : List Expr).length + ([] : List Keyword).length + (if ([] : List Keyword).isEmpty then 0 else 1) < 30)) = true
  line : (apos.endLine == cpos.line) = true
  trees : backTo cpos (starEach [e] X.env) = [(false, eval e X.env)]
structure M2 (X : Cx) (o : Expr) (m : Str) (apos : Pos) (e f : Expr) (cpos : Pos) : Prop where
  base : attributeBase o m X.env (eval o X.env) = eval o X.env
  few : ((backTo cpos (starEach [e, f] X.env)).all (fun x => !x.1) && (backToKw cpos (keywordEach [] X.env)).all (fun x => x.1.isSome)
    && decide (([e, f] : List Expr).length + ([] : List Keyword).length + (if ([] : List Keyword).isEmpty then 0 else 1) < 30)) = true
  line : (apos.endLine == cpos.line) = true
  trees : backTo cpos (starEach [e, f] X.env) = [(false, eval e X.env), (false, eval f X.env)]

section
variable {X : Cx} {pins : List (Addr × Obj)} {σ : St} {H : Hp} {s : Shared} {a : Addr} {y d : V} {u r : Value} {o : Option V} {A : Around} {E : Value → Shared → Prop}
end

section
variable {X : Cx} {o e f : Expr} {apos cpos : Pos} {td ty tx : TE}
end

/-! ### dict(d): a copy -/
section
variable {X : Cx} {pins : List (Addr × Obj)} {σ : St} {H : Hp} {s : Shared} {a : Addr} {kvs : List (Key × V)} {A : Around} {E : Value → Shared → Prop}
end


section
variable {X : Cx} {pins : List (Addr × Obj)} {σ : St} {H : Hp} {s : Shared} {a : Addr} {y : V} {u : Value} {A : Around} {E : Value → Shared → Prop}
end
end L2

namespace Att
open PySem PySem.W PySem.Calls PyProof.Rows

/-! ### the script -/
theorem ints_of_wellAll {P : Params} {h : Heap} : ∀ (ns : List Int) (vs : List Value), WellAll P h vs (ns.map WData.int) → IntsAre vs ns := by
  intro ns
  induction ns with
  | nil =>
    intro vs w
    rw [List.map_nil] at w
    cases w
    exact .nil
  | cons n ns ih =>
    intro vs w
    rw [List.map_cons] at w
    cases w with
    | cons a b =>
      cases a
      exact .cons _ _ (ih _ b)

theorem script_of {l : OpenLaw} {n : Nat} (hn : l.most = some n) {P : Params} {h : Heap} {args : List WData} {vals : List Value}
    (hpre : l.row.toRowW.claim.pre args = true) (hwl : WellAll P h vals args) :
    ∃ a vs ns, vals = [Value.ref a] ∧ args = [WData.list (ns.map WData.int)] ∧ h.get? a = some { cls := .type "list", data := .seq vs.toArray } ∧ IntsAre vs ns ∧ ns.length ≤ n := by
  have hsh : WShape.hasAll [] args [.list .int] = true := (pre_splitW hpre).1
  have hc : l.pre.holds [] { args := args } = true := (pre_splitW hpre).2
  obtain ⟨d, r, rfl, h1, h2⟩ := hasAllW_cons hsh
  obtain rfl := hasAllW_nil h2
  obtain ⟨xs, rfl, h3⟩ := hasW_list h1
  obtain ⟨ns, rfl⟩ := items_int h3
  have hlen : ns.length ≤ n := by
    unfold OpenLaw.pre at hc
    have h4 : (WTm.not (.lt (.lit (.int (n : Int))) (.len (.arg 0)))).holds [] { args := [.list (ns.map .int)] } = true := by
      have h4 := (holds_andW hc).1
      rw [hn] at h4
      exact h4
    have h5 := condW_of h4 (w_not (w_lt w_lit (w_len_list (w_arg rfl))))
    rw [List.length_map] at h5
    refine Nat.le_of_not_lt fun q => ?_
    have q' : (n : Int) < ((ns.length : Nat) : Int) := by omega
    first
      | (rw [decide_eq_true q'] at h5; exact absurd h5 (by decide))
      | (simp at h5; omega)
  cases hwl with
  | cons w1 w2 =>
    cases w2
    cases w1 with
    | list ho hall => exact ⟨_, _, ns, rfl, rfl, ho, ints_of_wellAll ns _ hall, hlen⟩

theorem post_true (l : OpenLaw) (args : List WData) : l.row.toRowW.claim.post args (.bool true) args = true :=
  postW_of (r := l.row.toRowW) (X := (true == true))
    (show WShape.has [] (.bool true) .bool = true by first | rfl | decide | simp [WShape.has, WShape.arms, WShape.armsAll])
    (show (WTm.eq .res (.lit (.bool true))).value [] { args := args, res := some (.bool true), after := args } = some (.bool (true == true)) from w_eq_bool (w_res rfl) w_lit) rfl

/-! ### the attachment: holds_open's last premise (the goal 'hc' behind k_head) from a wpAny of the law's body -/
/-- the same from a codeAny of the CALL (for a layer whose function contracts speak of calls) -/
theorem attach_call {l : OpenLaw} {n : Nat} {q : Program} {loose : List Str} {XP : (Str → Option Value) → Heap → Prop} {YP : World → Heap → Prop} {d : DefRec}
    (hn : l.most = some n) (hdf : d.params.defaults = [])
    (call : ∀ (w : World) (s₀ s₁ : Shared) (mg mb : Str → Option Value) (fa : Addr) (o : Obj) (pm cd doc : Value) (a : Addr) (vs : List Value) (ns : List Int),
      Ground q loose [] XP w s₀ mg mb s₁.heap → YP w s₁.heap →
      s₁.heap.get? fa = some o → o.data = .func (docDef d.name d.params d.body d.scope pm cd doc) → s₁.heap.CodeRec cd d.name → mg d.name = some (.ref fa) →
      s₁.heap.get? a = some { cls := .type "list", data := .seq vs.toArray } → IntsAre vs ns → ns.length ≤ n → s₁.gens = #[] →
      codeAny (model l.prog w) callerA (.call (.ref fa) ⟨[.ref a], []⟩) (fun r s' => r = .ok (.ret (.bool true)) ∧ OldK s₁.heap s'.heap ∧ s'.os = s₁.os ∧ AllBare s'.gens) s₁) :
    WalkO q loose XP YP l.row.toRowW d [] (fun f vs => PySem.call f vs) := by
  intro w s₀ s₁ mg mb G Y fa o pm cd doc dV kV ho hd hcd hD hmg hg args vals as hpre hlay hrd hwl hlo
  obtain rfl : dV = .none := Dflts.none hD hdf
  obtain rfl : kV = .none := Dflts.noKw hD
  obtain ⟨a, vs, ns, rfl, rfl, hobj, hints, hlen⟩ := script_of hn hpre hwl
  refine enter_call (codeAny_mono (call w s₀ s₁ mg mb fa o pm cd doc a vs ns G Y ho (fd_plain hd) hcd hmg hobj hints hlen hg) fun r s' hq => ?_)
  obtain ⟨rfl, h2, h3, h4⟩ := hq
  exact ⟨.inl ⟨.bool true, .bool true, [], rfl, fun _ => rfl, .bool true, post_true l _, fun _ => ⟨List.Pairwise.nil, fun _ hm => (nomatch hm)⟩⟩, h2, h3, h4⟩

/-! ### rules over ANY heap (no ledger) from facts about the written part K: the library's own take a ledger (News) for what they write -/
section
variable {prog : Program} {w : World} {A : Around} {E : Value → Shared → Prop} {s : Shared} {K : Frag}

/-! the whole heap as the ledger: makes every rule that writes through a ledger a rule over any heap -/
def ledger (h : Heap) (L d : Addr) : List (Addr × Obj) := (List.range h.objs.size).filterMap fun a => if a = L ∨ a = d then none else (h.get? a).map fun o => (a, o)
end
end Att

namespace L2
open PySem PySem.Spec PyProof.Rows

theorem vals_ints : ∀ {vs : List Value} {ns : List Int}, IntsAre vs ns → Vals (ns.map V.int) vs
  | _, _, .nil => .nil
  | _, _, .cons n t h => .cons ⟨t, rfl⟩ (vals_ints h)

/-- nothing is tracked but the script, known to the object (or it is an object of the module) -/
def Only (H : Hp) : Prop := ∀ b, H b = none ∨ ∃ o xs, H b = some (.frz o (.lst xs))

/-- THE HEAD: the law's promise, at the heap behind the top. F, the promise of the law's def, may use that base is part of the heap (so K.In base, base.Ns mainGlobals mg stand in Mod) -/
theorem law_call {P : Program} {w : World} {K : PySem.W.Frag} {mg mb : Str → Option Value} {CX : CXT} {k : Nat} {fa a : Addr} {fd : FuncData} {x : Str} {sp : Sp} {s₁ : Shared} {vs : List Value} {ns : List Int}
    (KX : K.In s₁.heap) (hns : s₁.heap.Ns mainGlobals mg) (hb : s₁.heap.Ns builtinsNs mb) (hbb : ∀ x : Str, x ≠ "__name__" → mb x = bootBuiltins x) (hlim : s₁.heap.NoLimit) (hg : s₁.gens = #[])
    (ha : s₁.heap.get? a = some { cls := .type "list", data := .seq vs.toArray }) (hi : IntsAre vs ns) (hl : ns.length ≤ sizeLine) (hr : Room k callerA)
    (F : ∀ base : Heap, K.In base → base.Ns mainGlobals mg → FnOk P w K mg base CX k fa fd [x] sp) (hbind : ∀ (s : Shared) (u : Value), BindsTo s fd ⟨[u], []⟩ [(x, u)])
    (hsp : ∀ H : Hp, Only H → SqL K H a (ns.map V.int) → sp [.ref a] H (fun v _ => v = .bl true) fun _ _ _ => False)
    (hCX : ∀ H e s', CX [] H s₁ (fun _ _ _ => False) e s' → False) :
    codeAny (model P w) callerA (.call (.ref fa) ⟨[.ref a], []⟩) (fun r s' => r = .ok (.ret (.bool true)) ∧ OldK s₁.heap s'.heap ∧ s'.os = s₁.os ∧ AllBare s'.gens) s₁ := by
  have rv := vals_ints hi
  have lenV := hi.length
  -- from an abstract heap in which nothing but the script may be tracked
  have core : ∀ H : Hp, Only H → SqL K H a (ns.map V.int) → HOk P w H s₁.heap → (∀ b, H b ≠ none → b = a) → (H a ≠ none → K.lookup a = none) →
      codeAny (model P w) callerA (.call (.ref fa) ⟨[.ref a], []⟩) (fun r s' => r = .ok (.ret (.bool true)) ∧ OldK s₁.heap s'.heap ∧ s'.os = s₁.os ∧ AllBare s'.gens) s₁ := by
    intro H hO hS hok hA hK
    have base_of : ∀ {b : Addr} {o : Obj}, s₁.heap.get? b = some o → H b = none → (hidT s₁.heap H).get? b = some o := fun e n => hidT_get e n
    have noA : ∀ {b : Addr} {o : Obj} {es : Array DictEntry} {ep : Nat}, s₁.heap.get? b = some o → o.data = .dict es ep → H b = none := fun {b o es ep} e d => by
      cases q : H b with
      | none => rfl
      | some u =>
        have e' : b = a := hA b (by rw [q]; simp)
        subst e'
        rw [ha] at e; cases e
        have d' : Data.seq vs.toArray _ = Data.dict es ep := d
        cases d'
    have nsK : ∀ {b : Addr} {m : Str → Option Value}, s₁.heap.Ns b m → (hidT s₁.heap H).Ns b m := fun {b m} ⟨o, es, ep, e, d, r⟩ => ⟨o, es, ep, base_of e (noA e d), d, r⟩
    have hKb : K.In (hidT s₁.heap H) := fun b o e => base_of (KX b o e) (by
      cases q : H b with
      | none => rfl
      | some u =>
        have e' : b = a := hA b (by rw [q]; simp)
        subst e'
        rw [hK (by rw [q]; simp)] at e; cases e)
    have hM : Mod K mg (hidT s₁.heap H) := ⟨hKb, nsK hns, ⟨mb, nsK hb, hbb⟩, let ⟨mc, h1, h2⟩ := hlim; ⟨mc, nsK h1, h2⟩⟩
    have e0 : Env0 P w K mg (hidT s₁.heap H) callerA [] s₁ H := ⟨rfl, hM, fun b o e => of_hidT e, Nat.le_of_eq (hidT_size _ _), trivial, fun b hb => absurd (show b ∈ ([] : List Addr) from hb) (by simp), hok, .of_eq hg⟩
    refine codeAny_mono ((F _ hKb (nsK hns)).run callerA [] s₁ H ⟨[.ref a], []⟩ [.ref a] [.ref a] _ _ hr e0 (hbind s₁ (.ref a)) (.cons rfl .nil) (hsp H hO hS)) fun r s' h => ?_
    cases r with
    | error e => exact (hCX H e s' h).elim
    | ok fl =>
      cases fl with
      | next => exact False.elim h
      | brk => exact False.elim h
      | cont => exact False.elim h
      | ret u =>
        obtain ⟨v, H', os, bare, un, hok', r', q⟩ := h
        have q' : v = .bl true := q
        subst q'
        obtain rfl : u = Value.bool true := r'
        refine ⟨rfl, OldK.of_keep fun b o e => ?_, os, bare⟩
        cases q : H b with
        | none => exact un.keep b o e q (by intro z; exact absurd (show b ∈ ([] : List Addr) from z) (by simp)) (by simp)
        | some u =>
          rcases hO b with z | ⟨ob, xs, z⟩
          · rw [q] at z; cases z
          · have z2 := un.frzs b ob _ z
            obtain ⟨e1, _⟩ := hok b _ z
            obtain ⟨e2, _⟩ := hok' b _ z2
            rw [e] at e1; cases e1
            exact e2
  cases hk : K.lookup a with
  | some o =>
    -- the script is one of the module's own objects
    have e := KX a o hk
    rw [ha] at e
    cases e
    refine core (fun _ => none) (fun _ => .inl rfl) (.inr ⟨_, vs.toArray, _, hk, rfl, rfl, rfl, by rw [List.size_toArray, lenV]; exact hl, by simpa using rv⟩) (fun b u z => by have z' : (none : Option HO) = some u := z; cases z') (fun b z => absurd rfl z) fun z => absurd rfl z
  | none =>
    refine core (fun b => if b = a then some (.frz { cls := .type "list", data := .seq vs.toArray } (.lst (ns.map V.int))) else none) (fun b => ?_) (.inl (.inr ⟨{ cls := .type "list", data := .seq vs.toArray }, if_pos rfl⟩)) (fun b u z => ?_) (fun b z => ?_) fun _ => hk
    · by_cases hb : b = a
      · exact .inr ⟨_, _, if_pos hb⟩
      · exact .inl (if_neg hb)
    · by_cases hb : b = a
      · have z' := (if_pos hb).symm.trans z
        cases z'
        subst hb
        exact ⟨ha, by rw [List.length_map]; exact hl, vs, _, rv, ha⟩
      · have z' := (if_neg hb).symm.trans z
        cases z'
    · by_cases hb : b = a
      · exact hb
      · exact absurd (if_neg hb) z
end L2

namespace L2
open PySem PySem.Spec PyProof.Rows

abbrev KOf {K : PySem.W.Frag} {h : Heap} (_ : K.In h) : PySem.W.Frag := K

/-- the goal that k_head leaves (case hc), from the law's promise. F gives the function object fd (K's own) once, then the promise over every base -/
theorem walk_of {l : PySem.W.OpenLaw} {n k : Nat} {q : Program} {loose : List Str} {XP : (Str → Option Value) → Heap → Prop} {YP : World → Heap → Prop} {d : DefRec} {K : Params → PySem.W.Frag} {CX : World → CXT} {sp : World → Sp} {x : Str}
    (hn : l.most = some n) (hn2 : n ≤ sizeLine) (hdf : d.params.defaults = []) (hr : Room k callerA)
    (hY : ∀ (w : World) (h : Heap), YP w h → (K w.params).In h)
    (F : ∀ (w : World) (mg : Str → Option Value) (fa : Addr) (h : Heap), (K w.params).In h → h.Ns mainGlobals mg → mg d.name = some (.ref fa) →
      ∃ fd : FuncData, (∀ (s : Shared) (u : Value), BindsTo s fd ⟨[u], []⟩ [(x, u)]) ∧
        ∀ base : Heap, (K w.params).In base → base.Ns mainGlobals mg → FnOk l.prog w (K w.params) mg base (CX w) k fa fd [x] (sp w))
    (hsp : ∀ (w : World) (H : Hp) (a : Addr) (ns : List Int), ns.length ≤ n → Only H → SqL (K w.params) H a (ns.map V.int) → sp w [.ref a] H (fun v _ => v = .bl true) fun _ _ _ => False)
    (hCX : ∀ (w : World) (H : Hp) (s : Shared) (e : Value) (s' : Shared), CX w [] H s (fun _ _ _ => False) e s' → False) :
    PySem.W.WalkO q loose XP YP l.row.toRowW d [] (fun f vs => PySem.call f vs) := by
  refine Att.attach_call hn hdf fun w s₀ s₁ mg mb fa o pm cd doc a vs ns G Y ho hd hcd hmg hobj hints hlen hg => ?_
  have KX := hY w _ Y
  obtain ⟨fd, hb, hF⟩ := F w mg fa _ KX G.T.g hmg
  exact law_call KX G.T.g G.T.b G.T.builtins G.T.nolimit hg hobj hints (Nat.le_trans hlen hn2) hr hF hb (fun H hO hS => hsp w H a ns hlen hO hS) fun H e s' => hCX w H s₁ e s'
end L2

/- THE LAST THEOREM (shape; LID, My.* are yours):
   My.Adr: a structure of the addresses that your layer names (classes, functions); My.Txt K t: a structure (Prop) of the equations over K;
   My.txt_mk : {K} {implicit addresses ..} (e1 : nsIn K mainGlobals "law" = some (some (.ref f))) (e2 : K.lookup f = some ⟨oc, od, .func (fnOf "law" "law" params body scope dV kV doc pm an cdv ct), sl⟩) (e3 : codeIn K cdv "law" = true) .. : ∃ t, My.Txt K t

set_option maxRecDepth 100000 in
set_option maxHeartbeats 0 in
theorem PySem.Challenge.cw_LID_holds : PySem.Challenge.rw_LID.Holds := by
  w_on; o_law; k_head; (case hw => w_witness2)
  k_fill
  refine L2.walk_of (l := PySem.Challenge.rw_LID) (n := 63) (k := 40) (x := "script") (CX := fun w => ..) (sp := fun _ => My.sp_law) rfl (by decide) rfl ⟨rfl, by decide, by decide⟩ (fun w h Y => PySem.W.kIn_of Y) ?F ?S ?C
  case F =>
    intro w mg fa h KX G hmg
    have T : ∃ t, My.Txt (L2.KOf KX) t := by
      dsimp only [L2.KOf]                          -- K must stand as «<heap const> w.params» for k_is
      refine' My.txt_mk ?e1 ?e2 ?e3 ..
      (case e1 => PySem.W.k_is)                    -- in the order: a name -> its address -> its object -> its parts
      (case e2 => PySem.W.k_is)
      ..
    obtain ⟨t, T⟩ := T
    have e0 := hmg.symm.trans (PySem.W.mg_of KX G T.law)
    cases e0                                       -- fa is the law's own address
    exact ⟨_, fun s u => .of_eq rfl, fun base kb nb => My.law_fn T kb nb⟩     -- if «.of_eq rfl» comes too early: refine' ⟨_, ?b, fun base kb nb => My.law_fn T kb nb⟩; exact fun s u => .of_eq rfl
  case S => exact fun w H a ns hl hO hS => ..
  case C => exact ..
(the tactic k_is has no namespace: write k_is) -/

/-! SHORT WORDS over the layer: a def of the text, its body, what a loop and a test want. -/
namespace L2
open PySem PySem.Spec PyProof.Rows

/-! ### the text by places -/
def defArgs (s : Stmt) : Arguments := match s with
  | .FunctionDef _ a _ _ _ _ _ _ _ _ => a
  | _ => { posonlyargs := [], args := [], vararg := none, kwonlyargs := [], kw_defaults := [], kwarg := none, defaults := [] }
def defBody (s : Stmt) : List Stmt := match s with
  | .FunctionDef _ _ b _ _ _ _ _ _ _ => b
  | _ => []
def defScope (s : Stmt) : Scope := match s with
  | .FunctionDef _ _ _ _ _ _ sc _ _ _ => sc
  | _ => { kind := .function, names := [], isGenerator := false, isCoroutine := false }

/-! ### no exception leaves a def -/
abbrev CX0 : CXT := fun _ _ _ _ _ _ => False
abbrev E0 : XK := fun _ _ _ => False
theorem pass0 {X : Cx} : Passes CX0 X E0 := fun _ _ _ _ _ _ _ h => h.elim

/-! ### a def (or method) of the text as it stands behind the top -/
structure Fun (K : PySem.W.Frag) (x qual : Str) (st : Stmt) (f : Addr) (fd : FuncData) : Prop where
  ex : ∃ (oc : Value) (od : Option Addr) (kV doc pm : Value) (an : Option Addr) (cdv ct : Value) (osl : Array (Option Value)),
    fd = PySem.W.fnOf x qual (defArgs st) (defBody st) (defScope st) .none kV doc pm an cdv ct ∧ K.lookup f = some ⟨oc, od, .func fd, osl⟩ ∧ PySem.W.codeIn K cdv qual = true
  kp : PySem.W.keepIn K (.ref f) = true
section
variable {P : Program} {w : World} {K : PySem.W.Frag} {mg : Str → Option Value} {base : Heap}
/-- THE RULE for a def: its body as a term of rules, and the reading of that term -/
theorem Fun.ok {x qual : Str} {st : Stmt} {f : Addr} {fd : FuncData} {N ps : List Str} {k : Nat} {sp : Sp} (F : Fun K x qual st f fd) (S : FnScope N ps (defScope st)) (len : ∀ vs H Q E, sp vs H Q E → vs.length = ps.length)
    (hbody : ∀ (cdv : Value) (A : Around) (outer : List Env) (s : Shared) (H : Hp) (vs : List V) (Q : VK) (E : XK), Room k (A.deeper (envOfC qual (defScope st) s.heap.objs.size f cdv)) → sp vs H Q E →
      ∃ t, PSs (cxOf CX0 P w K mg base N qual (defScope st) f cdv A outer s H E).nox (defBody st) t ∧ t { nx := fun _ H' => Q .non H', rt := Q } (start N vs) H) : FnOk P w K mg base CX0 (k + 1) f fd ps sp := by
  obtain ⟨oc, od, kV, doc, pm, an, cdv, ct, osl, rfl, lk, hcd⟩ := F.ex
  refine fn_of lk hcd S len fun A outer s H vs Q E hr hsp => ?_
  obtain ⟨t, h, q⟩ := hbody cdv A outer s H vs Q E hr hsp
  exact ⟨t, h.nox, q⟩
/-- how its arguments bind (no defaults): h is «fun _ _ _ _ _ _ us hl => match us, hl with | [_, _], _ => rfl», one _ a parameter -/
theorem Fun.binds {x qual : Str} {st : Stmt} {f : Addr} {fd : FuncData} {ps : List Str} (F : Fun K x qual st f fd)
    (h : ∀ (kV doc pm : Value) (an : Option Addr) (cdv ct : Value) (us : List Value), us.length = ps.length → bindArgs (PySem.W.fnOf x qual (defArgs st) (defBody st) (defScope st) .none kV doc pm an cdv ct) ⟨us, []⟩ = pure (ps.zip us)) : Binds K fd ps [] := by
  obtain ⟨oc, od, kV, doc, pm, an, cdv, ct, osl, rfl, lk, hcd⟩ := F.ex
  exact .all (h kV doc pm an cdv ct)
theorem fun_mk {x qual : Str} {st : Stmt} {f : Addr} {oc : Value} {od an : Option Addr} {osl : Array (Option Value)} {kV doc pm cdv ct : Value} (l : K.lookup f = some ⟨oc, od, .func (PySem.W.fnOf x qual (defArgs st) (defBody st) (defScope st) .none kV doc pm an cdv ct), osl⟩)
    (c : PySem.W.codeIn K cdv qual = true) (k : PySem.W.keepIn K (.ref f) = true) : Fun K x qual st f (PySem.W.fnOf x qual (defArgs st) (defBody st) (defScope st) .none kV doc pm an cdv ct) := ⟨⟨oc, od, kV, doc, pm, an, cdv, ct, osl, rfl, l, c⟩, k⟩
end
theorem hu_of {A : Around} {k : Nat} (hr : Room k A) : A.units + 1 < cLine := Nat.lt_of_le_of_lt (Nat.add_le_add_left (by decide : 1 ≤ 64) _) hr.units
/-! ### expressions in short: the name that stands in the i-th slot -/
section
variable {X : Cx}
theorem pv (i : Nat) {x : Str} {pos : Pos} (hN : X.N[i]? = some x := by rfl) (hv : Vis X.env.scope x := by first | exact Or.inl rfl | exact Or.inr (Or.inl rfl) | exact Or.inr (Or.inr rfl)) (hd : (x == ("__debug__" : Str)) = false := by decide)
    (hcd : (x == ("__classdict__" : Str)) = false := by decide) : PE X (.Name x pos) (tVar i) := pe_var hN hv hd hcd
end

/-! ### tests -/
theorem iteF {A B : Prop} (h : B) : if false = true then A else B := by
  rw [if_neg Bool.false_ne_true]
  exact h
theorem iteT {A B : Prop} (h : A) : if true = true then A else B := by
  rw [if_pos rfl]
  exact h
theorem ite2 {c A B : Prop} [Decidable c] (h1 : c → A) (h2 : ¬ c → B) : if c then A else B := by
  by_cases h : c
  · rw [if_pos h]
    exact h1 h
  · rw [if_neg h]
    exact h2 h
/-! ### heaps -/
/-- all that was tracked is as it was -/
def Same (H H' : Hp) : Prop := ∀ b o, H b = some o → H' b = some o
theorem Same.refl (H : Hp) : Same H H := fun _ _ h => h
theorem Same.trans {H H1 H2 : Hp} (a : Same H H1) (b : Same H1 H2) : Same H H2 := fun c o h => b c o (a c o h)
theorem Same.free {H H' : Hp} (e : Same H H') {l : Addr} (h : H' l = Option.none) : H l = Option.none := by
  cases q : H l with
  | none => rfl
  | some o =>
    rw [e l o q] at h
    cases h
theorem Same.seq {K : PySem.W.Frag} {H H' : Hp} {a : Addr} {xs : List V} (e : Same H H') (h : SqL K H a xs) : SqL K H' a xs := by
  rcases h with (h | ⟨o, h⟩) | h
  · exact .inl (.inl (e _ _ h))
  · exact .inl (.inr ⟨o, e _ _ h⟩)
  · exact .inr h

end L2

namespace L2
open PySem PySem.Spec PyProof.Rows
section
variable {X : Cx}
end
/-! ### a dict's pairs: keys that differ -/
section
variable {κ : Type} [DecidableEq κ]
end
end L2

/-! ### own rules above the hand layer (namespace My): products of great ints, isinstance, dict(d), d == e of equal dicts, the head with the script's bits -/
namespace My
open PySem PySem.Spec PyProof.Rows L2
section
variable {X : Cx}
theorem call_isi : CallR X (.builtin "isinstance") (fun xs H Q => ∃ x t c b, xs = [x, V.ty c] ∧ TyOf X.K H x t ∧ PySem.W.kitOne X.K t (.type c) = some b ∧ Q (.bl b) H) := by
  intro pins s σ H xs us Q I r h
  obtain ⟨x, t, c, b, rfl, ty, e, q⟩ := h
  obtain ⟨u, w', rfl, ru, rw'⟩ := vals2 r
  cases rw'
  exact isinst_ok I ru ty e fun tk => ⟨.bl b, H, I.tok tk, rfl, q⟩
end
section
variable {K : PySem.W.Frag}
theorem kit_ii : PySem.W.kitOne K (.type "int") (.type "int") = some true := by
  show (if (Value.type "int" == Value.type "int") = true then some true else if PySem.W.kitMeta "int" = true then (fastBuiltinMro "int").map (·.contains (Value.type "int")) else none) = some true
  decide +kernel
theorem kit_ib : PySem.W.kitOne K (.type "int") (.type "bool") = some false := by
  show (if (Value.type "int" == Value.type "bool") = true then some true else if PySem.W.kitMeta "bool" = true then (fastBuiltinMro "int").map (·.contains (Value.type "bool")) else none) = some false
  decide +kernel
end
/-! ### d == e -/
def AllInt (kvs : List (Key × V)) : Prop := ∀ kv ∈ kvs, ∃ n, kv.2 = V.int n
theorem AllInt.nil : AllInt [] := fun _ h => nomatch h
theorem AllInt.put {kvs : List (Key × V)} (h : AllInt kvs) (k : Key) (n : Int) : AllInt (putK kvs k (.int n)) := by
  intro kv m
  unfold putK at m
  split at m
  · obtain ⟨p, hp, e⟩ := List.mem_map.mp m
    split at e
    · subst e; exact ⟨n, rfl⟩
    · subst e; exact h p hp
  · rcases List.mem_append.mp m with q | q
    · exact h kv q
    · rw [List.mem_singleton.mp q]; exact ⟨n, rfl⟩
/-! ### items -/
theorem atI_lt {α : Type} {xs : List α} {i : Int} (h0 : 0 ≤ i) (h1 : i < xs.length) : ∃ v, atI xs i = some v := by
  have e : ixN xs.length i = some i.toNat := by
    unfold ixN
    rw [if_pos h0, if_pos h1]
  have hl : i.toNat < xs.length := by omega
  refine ⟨xs[i.toNat], ?_⟩
  unfold atI
  rw [e]
  exact List.getElem?_eq_getElem hl
theorem atI_mem {α : Type} {xs : List α} {i : Int} {v : α} (h : atI xs i = some v) : v ∈ xs := by
  obtain ⟨j, _, e, _⟩ := atI_get h
  exact List.mem_of_getElem? e
theorem int_of_map {ns : List Int} {i : Nat} {y : V} (h : (ns.map V.int)[i]? = some y) : ∃ z, y = V.int z ∧ z ∈ ns := by
  rw [List.getElem?_map] at h
  cases e : ns[i]? with
  | none => rw [e] at h; cases h
  | some z => rw [e] at h; exact ⟨z, (Option.some.inj h).symm, List.mem_of_getElem? e⟩
theorem _root_.L2.Same.upd {H : Hp} {p : Addr} {o : HO} (h : H p = none) : Same H (upd H p o) := fun b u e => by
  rw [upd_ne (ne_of_none e h)]
  exact e
theorem _root_.L2.Same.again {H H' : Hp} {p : Addr} {o : HO} (s : Same H H') (h : H p = none) : Same H (L2.upd H' p o) := fun b u e => by
  rw [upd_ne (ne_of_none e h)]
  exact s b u e
/-! ### bits -/
open Builtin.Int (intBits)
theorem bits_item : ∀ {ns : List Int} {m : Int}, m ∈ ns → intBits m ≤ PySem.W.WData.weightAll (ns.map PySem.W.WData.int)
  | n :: r, m, h => by
    rcases List.mem_cons.mp h with e | e
    · subst e
      simp only [List.map_cons, PySem.W.WData.weightAll, PySem.W.WData.weight, Builtin.Int.intBits]
      omega
    · have z := bits_item e
      simp only [List.map_cons, PySem.W.WData.weightAll]
      omega
theorem bits_of {ns : List Int} (h : PySem.W.WData.layableAll [PySem.W.WData.list (ns.map .int)] = true) : ∀ m ∈ ns, intBits m ≤ 1048576 := fun m hm => by
  have h1 := (PySem.W.layW_cons h).1
  have h2 : PySem.W.WData.weight (.list (ns.map .int)) ≤ 2 ^ 20 := of_decide_eq_true (Bool.and_eq_true_iff.mp h1).2
  have h3 := bits_item hm
  have h4 : PySem.W.WData.weight (.list (ns.map .int)) = PySem.W.WData.weightAll (ns.map .int) := by simp only [PySem.W.WData.weight]
  have e : (2 : Nat) ^ 20 = 1048576 := by decide
  omega
end My
namespace My
open PySem PySem.W PySem.Calls PyProof.Rows L2
end My
/-! ### data of the abstract heap, compared whatever its depth; sum of a list of ints -/
namespace My
open PySem PySem.Spec PyProof.Rows L2
mutual
inductive Dt (K : PySem.W.Frag) (H : Hp) : V → PyData → Prop where
  | non : Dt K H .non .none
  | bl (b : Bool) : Dt K H (.bl b) (.bool b)
  | int (i : Int) : Dt K H (.int i) (.int i)
  | str (x : Str) : Dt K H (.str x) (.str x)
  | lst {a : Addr} {xs : List V} {ds : List PyData} (h : SqL K H a xs) (r : Dts K H xs ds) : Dt K H (.ref a) (.list ds)
  | tup {a : Addr} {xs : List V} {ds : List PyData} (h : SqT K H a xs) (r : Dts K H xs ds) : Dt K H (.ref a) (.tuple ds)
inductive Dts (K : PySem.W.Frag) (H : Hp) : List V → List PyData → Prop where
  | nil : Dts K H [] []
  | cons {x : V} {d : PyData} {xs : List V} {ds : List PyData} (h : Dt K H x d) (r : Dts K H xs ds) : Dts K H (x :: xs) (d :: ds)
end
section
variable {X : Cx} {pins : List (Addr × Obj)} {σ : L2.St} {H : Hp} {s : Shared}
end
section
variable {X : Cx}
end
end My
/-! ### y = [elt for x in rows], elt quiet: the rule, and elt = x[1] over a list of tuples -/
namespace My
open PySem PySem.Spec PyProof.Rows L2
theorem obj_some {P : Program} {w : World} {H : Hp} {h : Heap} {a : Addr} {o : HO} (x : ObjOk P w H h a o) : ∃ ob, h.get? a = some ob := by
  cases o with
  | lst xs => obtain ⟨_, _, _, _, e⟩ := x; exact ⟨_, e⟩
  | tup xs => obtain ⟨_, _, _, ob, e, _⟩ := x; exact ⟨_, e⟩
  | dK kvs => obtain ⟨_, _, _, _, o, _, _, e, _⟩ := x; exact ⟨_, e⟩
  | dT kvs => obtain ⟨_, _, _, _, o, _, _, e, _⟩ := x; exact ⟨_, e⟩
  | set S n => obtain ⟨o, _, _, _, e, _⟩ := x; exact ⟨_, e⟩
  | ins C dx fs => obtain ⟨_, _, _, e, _⟩ := x; exact ⟨_, e⟩
  | own y => exact x
  | xd fs => obtain ⟨_, ⟨_, _, _, e, _⟩, _⟩ := x; exact ⟨_, e⟩
  | rng lo hi => obtain ⟨_, _, _, e⟩ := x; exact ⟨_, e⟩
  | frz ob u => obtain ⟨e, _⟩ := x; exact ⟨_, e⟩
  | tbl ps => exact ⟨_, (show h.get? a = some _ from x)⟩
  | met f y => exact ⟨_, (show h.get? a = some _ from x)⟩
  | ext φ => obtain ⟨_, e, _⟩ := x; exact e
section
variable {X : Cx} {pins : List (Addr × Obj)} {σ : L2.St} {H : Hp} {s : Shared}
theorem inv_none (I : Inv X pins σ H s) {D : Addr} (h : s.heap.get? D = none) : H D = none := by
  cases q : H D with
  | none => rfl
  | some u =>
    obtain ⟨ob, e⟩ := obj_some (I.hok D u q)
    rw [h] at e
    cases e
end
theorem vals_get' : ∀ {xs : List V} {us : List Value} {i : Nat} {u : Value}, Vals xs us → us[i]? = some u → ∃ x, xs[i]? = some x ∧ RelV x u
  | _, _, _, _, .nil, e => by simp at e
  | _, _, 0, _, .cons r _, e => by simp at e; subst e; exact ⟨_, rfl, r⟩
  | _, _, i + 1, u, .cons _ t, e => by
    obtain ⟨x, h1, h2⟩ := vals_get' (i := i) (u := u) t (by simpa using e)
    exact ⟨x, by simpa using h1, h2⟩
end My
/-! ### what noting a frame leaves as it is: the objects' dicts -/
namespace My
open PySem PySem.Spec PyProof.Rows L2
/-- trees that leave every object's dict as it is, and run no code -/
inductive Calm {α : Type} : Sem α → Prop
  | pure (a : α) : Calm (.pure a)
  | raise (e : Value) : Calm (.raise e)
  | stop (x : String) : Calm (.unsupported x)
  | rule {t k} : (∀ u, Calm (k u)) → Calm (.rule t k)
  | at {p k} : (∀ u, Calm (k u)) → Calm (.at p k)
  | load {a p k} : (∀ o, Calm (k o)) → Calm (.load a p k)
  | update {a p f k} : (∀ o : Obj, (f o).dict = o.dict ∧ (o.isFreed = false → (f o).isFreed = false)) → (∀ u, Calm (k u)) → Calm (.update a p f k)
  | alloc {o k} : (∀ a, Calm (k a)) → Calm (.alloc o k)
  | point {l k} : (∀ u, Calm (k u)) → Calm (.point l k)
  | fresh {k} : (∀ u, Calm (k u)) → Calm (.fresh k)
  | stack {k} : (∀ u, Calm (k u)) → Calm (.stack k)
theorem Calm.bind {α β : Type} {t : Sem α} {f : α → Sem β} (h : Calm t) (hf : ∀ a, Calm (f a)) : Calm (t >>= f) := by
  induction h with
  | pure a => exact hf a
  | raise e => exact .raise e
  | stop x => exact .stop x
  | rule _ ih => exact .rule ih
  | «at» _ ih => exact .at ih
  | load _ ih => exact .load ih
  | update h _ ih => exact .update h ih
  | alloc _ ih => exact .alloc ih
  | point _ ih => exact .point ih
  | fresh _ ih => exact .fresh ih
  | stack _ ih => exact .stack ih
/-- the objects' dicts are as they were -/
def DK (h h' : Heap) : Prop := ∀ b o, h.get? b = some o → ∃ o', h'.get? b = some o' ∧ o'.dict = o.dict
theorem DK.refl (h : Heap) : DK h h := fun _ o e => ⟨o, e, rfl⟩
theorem DK.trans {h1 h2 h3 : Heap} (x : DK h1 h2) (y : DK h2 h3) : DK h1 h3 := fun b o e => let ⟨o1, e1, d1⟩ := x b o e; let ⟨o2, e2, d2⟩ := y b o1 e1; ⟨o2, e2, d2.trans d1⟩
theorem DK.upd {h : Heap} {a : Addr} {f : Obj → Obj} (hf : ∀ o : Obj, (f o).dict = o.dict ∧ (o.isFreed = false → (f o).isFreed = false)) : DK h (h.update a f) := fun b o e => by
  by_cases q : b = a
  · subst q
    exact ⟨f o, Heap.get?_update_self _ e ((hf o).2 (Heap.get?_some_iff.mp e).2), (hf o).1⟩
  · exact ⟨o, (Heap.get?_update_ne _ _ _ _ q).trans e, rfl⟩
theorem wp_calm {α : Type} {M : Model} {Γ : PySem.Ctx} {t : Sem α} (c : Calm t) : ∀ {Q : α → Pos → Shared → Prop} {E : Value → Pos → Shared → Prop} {p : Pos} {s : Shared},
    Sem.wp M Γ t Q E p s → Sem.wp M Γ t (fun a p' s' => Q a p' s' ∧ DK s.heap s'.heap) (fun e p' s' => E e p' s' ∧ DK s.heap s'.heap) p s := by
  induction c with
  | pure a => intro Q E p s h; exact ⟨h, .refl _⟩
  | raise e => intro Q E p s h; exact ⟨h, .refl _⟩
  | stop x => intro Q E p s h; exact h
  | rule _ ih => intro Q E p s h; exact ih () h
  | «at» _ ih => intro Q E p s h; exact ih () h
  | load _ ih => intro Q E p s h; obtain ⟨o, e, h⟩ := h; exact ⟨o, e, ih o h⟩
  | update hf _ ih =>
    intro Q E p s h
    obtain ⟨e, h⟩ := h
    refine ⟨e, ?_⟩
    exact Sem.wp_mono M Γ _ (fun a p' s' ⟨q, d⟩ => ⟨q, DK.trans (DK.upd hf) d⟩) (fun e p' s' ⟨q, d⟩ => ⟨q, DK.trans (DK.upd hf) d⟩) _ _ (ih () h)
  | alloc _ ih => intro Q E p s h; exact Sem.wp_mono M Γ _ (fun a p' s' ⟨q, d⟩ => ⟨q, DK.trans (fun b o e => ⟨o, Heap.get?_push_of_some _ e, rfl⟩) d⟩) (fun e p' s' ⟨q, d⟩ => ⟨q, DK.trans (fun b o e => ⟨o, Heap.get?_push_of_some _ e, rfl⟩) d⟩) _ _ (ih _ h)
  | point _ ih => intro Q E p s h; exact ih () h
  | fresh _ ih => intro Q E p s h; exact ih _ h
  | stack _ ih => intro Q E p s h; exact ih _ h
theorem wpAny_calm {α : Type} {M : Model} {A : Around} {t : Sem α} {Q : α → Shared → Prop} {E : Value → Shared → Prop} {s : Shared} (c : Calm t) (h : wpAny M A t Q E s) :
    wpAny M A t (fun a s' => Q a s' ∧ DK s.heap s'.heap) (fun e s' => E e s' ∧ DK s.heap s'.heap) s := fun Γ p hΓ => wp_calm c (h Γ p hΓ)

theorem calm_load (a : Addr) : Calm (load a) := .load fun _ => .pure _
theorem calm_fieldsOf (v : Value) : Calm (fieldsOf v) := by
  unfold fieldsOf
  cases v <;> first | exact .stop _ | skip
  refine Calm.bind (calm_load _) fun o => ?_
  split <;> first | exact .stop _ | exact .pure _
theorem calm_field (v : Value) (i : Nat) : Calm (field v i) := by
  unfold field
  refine Calm.bind (calm_fieldsOf _) fun vs => ?_
  split <;> first | exact .stop _ | exact .pure _
theorem mapFields_calm (f : Array Value → Array Value) (o : Obj) : (Obj.mapFields f o).dict = o.dict ∧ (o.isFreed = false → (Obj.mapFields f o).isFreed = false) := by
  obtain ⟨c, d, da, sl⟩ := o
  cases da <;> exact ⟨rfl, fun h => h⟩
theorem calm_setField (v : Value) (i : Nat) (x : Value) : Calm (setField v i x) := by
  unfold setField
  cases v <;> first | exact .stop _ | skip
  show Calm (updateField _ _ _)
  unfold updateField
  refine Calm.bind (calm_load _) fun o => ?_
  split
  · split
    · exact .update (mapFields_calm _) fun _ => .pure _
    · exact .stop _
  · exact .stop _
theorem calm_setFlight (e : Value) (f : Option Addr) : Calm (setFlight e f) := by
  unfold setFlight
  refine Calm.bind (calm_field _ _) fun tb => ?_
  split
  · exact calm_setField _ _ _
  · exact .pure _
theorem calm_under : Calm underTheClaimsCaller := .stack fun _ => .pure _
theorem calm_ready : ∀ l : List Env, Calm (readyFrames l)
  | [] => .pure _
  | env :: outer => by
    unfold readyFrames
    split
    · refine Calm.bind (calm_load _) fun o => ?_
      split
      · exact .pure _
      · refine Calm.bind ?_ fun imp => Calm.bind ?_ fun back => Calm.bind ?_ fun _ => calm_ready outer
        · unfold behindIsImport
          split
          · exact .pure _
          · split
            · exact .pure _
            · exact Calm.bind (calm_field _ _) fun _ => .pure _
        · unfold keptBack
          split
          · split
            · exact .pure _
            · exact Calm.bind calm_under fun _ => .pure _
          · exact .pure _
        · refine .update (fun o => ⟨rfl, fun h => ?_⟩) fun _ => .pure _
          obtain ⟨c, d, da, sl⟩ := o
          cases da <;> exact h
    · exact .stop _
theorem calm_frameOf (env : Env) : Calm (PySem.frameOf env) := by
  unfold PySem.frameOf
  refine Calm.bind (.stack fun _ => .pure _) fun l => Calm.bind ?_ fun r => ?_
  · unfold frameObject
    split
    · exact .pure _
    · exact Calm.bind (calm_ready _) fun _ => .pure _
  · split
    · exact .pure _
    · exact .stop _
theorem calm_asIs (ty : String) (da : Data) : Calm (newObjAsIs (.type ty) da) := .alloc fun _ => .pure _
theorem calm_newFields (ty : String) (vs : List Value) : Calm (newFields ty vs) := by
  unfold newFields newObj
  dsimp only
  split
  · exact Calm.bind (.stop _) fun _ => calm_asIs _ _
  · exact calm_asIs _ _
theorem calm_newEntry (a b c d e : Value) (pl : List Value) : Calm (EntryCells.newEntry a b c d e pl) := calm_newFields _ _
theorem calm_place (f : Addr) (b : Bool) : Calm (entryPlaceOf f b) := by
  unfold entryPlaceOf
  refine Calm.bind (.stack fun _ => .pure _) fun acts => ?_
  split <;> exact .pure _
theorem calm_noteFrame (e : Value) (env : Env) : Calm (noteFrame e env) := by
  unfold noteFrame
  have last : ∀ (f : Addr) (head : Value), Calm (do setField e 1 (← EntryCells.newEntry head (← PySem.frameOf env) .none (rawInt f) .none (← entryPlaceOf f (head != .none)))) := fun f head =>
    Calm.bind (calm_frameOf _) fun a => Calm.bind (calm_place _ _) fun pl => Calm.bind (calm_newEntry _ _ _ _ _ _) fun b => calm_setField _ _ _
  split
  · refine Calm.bind (calm_field _ _) fun head => ?_
    split
    · refine Calm.bind (calm_field _ _) fun x => ?_
      split
      · exact .pure _
      · exact Calm.bind (calm_setField _ _ _) fun _ => last _ _
    · exact last _ _
  · exact .stop _
theorem calm_leaving (e : Value) (env : Env) : Calm (leaving env e) := Calm.bind (calm_noteFrame _ _) fun _ => calm_setFlight _ _
end My
/-! ### exceptions: raised in a def, passed on by a def, caught by a try around one call -/
namespace My
open PySem PySem.Spec PyProof.Rows L2
/-- how an exception lies behind a call: in flight over B, the objects that B has stay as they are -/
def CXW (P : Program) (w : World) : CXT := fun outer H s E e s' =>
  ∃ (ea : Addr) (cls a0 : Value) (B : Heap) (H' : Hp) (d : Option Addr), e = .ref ea ∧ s'.os = s.os ∧ AllBare s'.gens ∧ Un (frs outer) [] H H' s.heap s'.heap ∧ HOk P w H' s'.heap ∧ Heap.FlyingW B outer ea cls a0 s'.heap ∧
    (∀ b o, s'.heap.get? b = some o → (s.heap.get? b ≠ none ∨ H' b ≠ none) → b ∉ frs outer → B.get? b = some o) ∧ H' ea = none ∧ s.heap.get? ea = none ∧ (∃ o, s'.heap.get? ea = some o ∧ o.dict = d) ∧ E cls d H'
section
variable {X : Cx} {pins : List (Addr × Obj)} {σ : L2.St} {H H' : Hp} {s : Shared} {h1 h2 B : Heap}
theorem frs_obj (I : Inv X pins σ H s) : ∀ b ∈ frs X.stack, ∃ o, s.heap.get? b = some o := fun b hb => let ⟨_, o, e, _⟩ := I.stack.mem hb; ⟨o, e⟩
/-- behind a call that raised: what the state keeps while the exception is noted -/
theorem carry (I : Inv X pins σ H s) (un : Un (frs X.stack) [] H H' s.heap h1) (hok : HOk X.prog X.w H' h1) (bk : ∀ b o, h1.get? b = some o → (s.heap.get? b ≠ none ∨ H' b ≠ none) → b ∉ frs X.stack → B.get? b = some o)
    (hst : ∀ b o, B.get? b = some o → h2.get? b = some o) (hsm : h1.UpToSlots h2) (hfn : ∀ b ∈ frs X.stack, ∃ o, h1.get? b = some o ∧ ∀ vs, o.data ≠ .fields vs) :
    Un (frs X.stack) [] H H' s.heap h2 ∧ HOk X.prog X.w H' h2 ∧ (∀ b o, h2.get? b = some o → (s.heap.get? b ≠ none ∨ H' b ≠ none) → b ∉ frs X.stack → B.get? b = some o) ∧ ∀ b ∈ frs X.stack, H' b = none := by
  have nf : ∀ b ∈ frs X.stack, H' b = none := fun b hb => by
    obtain ⟨o, e⟩ := frs_obj I b hb
    exact un.free b o e (I.stkFree b hb) (by simp)
  have keep : ∀ b o, h1.get? b = some o → (s.heap.get? b ≠ none ∨ H' b ≠ none) → b ∉ frs X.stack → h2.get? b = some o := fun b o e k n => hst b o (bk b o e k n)
  refine ⟨⟨fun b o e n hb _ => ?_, fun b o e n hb _ => ?_, un.free, fun b o e _ => ?_, un.tups, un.frzs, un.tbls⟩, fun a o e => ?_, fun b o e k n => ?_, nf⟩
  · exact keep b o (un.keep b o e n hb (by simp)) (.inl (by rw [e]; simp)) hb
  · obtain ⟨sl, e1⟩ := un.slot b o e n hb (by simp)
    obtain ⟨o', e2, hd⟩ := hfn b hb
    rw [e1] at e2
    cases e2
    obtain ⟨sl', e3⟩ := hsm b _ e1 hd
    exact ⟨sl', e3⟩
  · obtain ⟨o', e1⟩ := un.there b o e (by simp)
    by_cases hb : b ∈ frs X.stack
    · obtain ⟨o2, e2, hd⟩ := hfn b hb
      obtain ⟨sl', e3⟩ := hsm b _ e2 hd
      exact ⟨_, e3⟩
    · exact ⟨o', keep b o' e1 (.inl (by rw [e]; simp)) hb⟩
  · refine (hok a o e).stay (fun b u hb q => keep b u q (.inr ?_) (fun z => ?_)) (fun _ q => q) fun _ _ q => q
    · rcases hb with z | z
      · rw [z, e]; simp
      · rw [z]; simp
    · have q' := nf b z
      rcases hb with z | z
      · rw [z, e] at q'; cases q'
      · rw [z] at q'; cases q'
  · have there1 : ∃ o', h1.get? b = some o' := by
      rcases k with k | k
      · cases q : s.heap.get? b with
        | none => exact (k q).elim
        | some o0 => exact un.there b o0 q (by simp)
      · cases q : H' b with
        | none => exact (k q).elim
        | some u => exact obj_some (hok b u q)
    obtain ⟨o', e1⟩ := there1
    have e2 := bk b o' e1 k n
    have e3 := hst b o' e2
    rw [e] at e3
    cases e3
    exact e2
end
section
variable {P : Program} {w : World} {K : PySem.W.Frag} {mg : Str → Option Value} {base : Heap} {N : List Str} {qual : Str} {scope : Scope} {f : Addr} {cd : Value} {A : Around} {outer : List Env} {s₀ : Shared} {H₀ : Hp} {E : XK}
  {pins : List (Addr × Obj)} {σ : L2.St} {H H' : Hp} {s : Shared}
/-- the frame is left -/
theorem leave_fin {ea : Addr} {d : Option Addr} {cls a0 : Value} {B h1 h2 : Heap} {s1 : Shared} (I : Inv (cxOf (CXW P w) P w K mg base N qual scope f cd A outer s₀ H₀ E) pins σ H s) (hos : s1.os = s.os) (hb : AllBare s1.gens)
    (un : Un (frs (envOfC qual scope s₀.heap.objs.size f cd :: outer)) [] H H' s.heap h1) (hok : HOk P w H' h1)
    (bk : ∀ b o, h1.get? b = some o → (s.heap.get? b ≠ none ∨ H' b ≠ none) → b ∉ frs (envOfC qual scope s₀.heap.objs.size f cd :: outer) → B.get? b = some o)
    (fl : Heap.FlyingW B outer ea cls a0 h2) (hsm : h1.UpToSlots h2) (hfn : ∀ b ∈ frs (envOfC qual scope s₀.heap.objs.size f cd :: outer), ∃ o, h1.get? b = some o ∧ ∀ vs, o.data ≠ .fields vs)
    (n1 : H' ea = none) (n2 : s.heap.get? ea = none) (dd : ∃ o, h2.get? ea = some o ∧ o.dict = d) (hE : E cls d H') : CXW P w outer H₀ s₀ E (.ref ea) { s1 with heap := h2 } := by
  obtain ⟨un2, hok2, bk2, nf⟩ := carry I un hok bk fl.1 hsm hfn
  have sub : ∀ b ∈ frs outer, b ∈ frs (envOfC qual scope s₀.heap.objs.size f cd :: outer) := fun b hb => by
    obtain ⟨env, he, hf⟩ := List.mem_filterMap.mp hb
    exact List.mem_filterMap.mpr ⟨env, List.mem_cons_of_mem _ he, hf⟩
  have notin : ∀ b o, s₀.heap.get? b = some o → b ∉ frs outer → b ∉ frs (envOfC qual scope s₀.heap.objs.size f cd :: outer) := fun b o e hb hm => by
    rcases List.mem_cons.mp (I.stkSub b hm) with z | z
    · exact absurd (Nat.lt_of_lt_of_le (Heap.lt_size e) (z ▸ I.ok.above)) (Nat.lt_irrefl _)
    · exact hb z
  refine ⟨ea, cls, a0, B, H', d, rfl, hos.trans I.os, hb, ⟨fun b o e n hb _ => ?_, fun b o e n hb _ => ?_, fun b o e n _ => ?_, fun b o e _ => ?_, fun b xs e => un2.tups b xs (I.base.tups b xs e), fun b o u e => un2.frzs b o u (I.base.frzs b o u e), fun b ps e => ?_⟩, hok2, fl, fun b o e k hb => ?_, n1, ?_, dd, hE⟩
  · exact un2.keep b o (I.base.keep b o e n hb (by simp [cxOf])) (I.base.free b o e n (by simp [cxOf])) (notin b o e hb) (by simp)
  · obtain ⟨sl, e1⟩ := I.base.slot b o e n hb (by simp [cxOf])
    obtain ⟨sl', e2⟩ := un2.slot b _ e1 (I.base.free b o e n (by simp [cxOf])) (sub b hb) (by simp)
    exact ⟨sl', e2⟩
  · obtain ⟨o', e1⟩ := I.base.there b o e (by simp [cxOf])
    exact un2.free b o' e1 (I.base.free b o e n (by simp [cxOf])) (by simp)
  · obtain ⟨o', e1⟩ := I.base.there b o e (by simp [cxOf])
    exact un2.there b o' e1 (by simp)
  · obtain ⟨m1, e1⟩ := I.base.tbls b ps e
    obtain ⟨m2, e2⟩ := un2.tbls b _ e1
    exact ⟨m1 ++ m2, by rw [e2, Array.append_assoc]⟩
  · rcases k with k | k
    · cases q : s₀.heap.get? b with
      | none => exact (k q).elim
      | some o0 =>
        obtain ⟨o', e1⟩ := I.base.there b o0 q (by simp [cxOf])
        exact bk2 b o e (.inl (by rw [e1]; simp)) (notin b o0 q hb)
    · exact bk2 b o e (.inr k) fun z => k (nf b z)
  · cases q : s₀.heap.get? ea with
    | none => rfl
    | some o0 =>
      obtain ⟨o', e1⟩ := I.base.there ea o0 q (by simp [cxOf])
      rw [n2] at e1
      cases e1
/-- THE RULE for a def that may raise -/
theorem fun_okW {x qual : Str} {st : Stmt} {f : Addr} {fd : FuncData} {N ps : List Str} {k : Nat} {sp : Sp} (F : Fun K x qual st f fd) (S : FnScope N ps (defScope st)) (len : ∀ vs H Q E, sp vs H Q E → vs.length = ps.length)
    (hbody : ∀ (cdv : Value) (A : Around) (outer : List Env) (s : Shared) (H : Hp) (vs : List V) (Q : VK) (E : XK), Room k (A.deeper (envOfC qual (defScope st) s.heap.objs.size f cdv)) → sp vs H Q E →
      ∃ t, PSs (cxOf (CXW P w) P w K mg base N qual (defScope st) f cdv A outer s H E) (defBody st) t ∧ t { nx := fun _ H' => Q .non H', rt := Q } (start N vs) H) : FnOk P w K mg base (CXW P w) (k + 1) f fd ps sp := by
  obtain ⟨oc, od, kV, doc, pm, an, cdv, ct, osl, rfl, lk, hcd⟩ := F.ex
  exact fn_of lk hcd S len fun A outer s H vs Q E hr hsp => hbody cdv A outer s H vs Q E hr hsp
/-- an own class of exceptions of the text, right or further under ValueError, without an __init__ -/
structure ExcC (K : PySem.W.Frag) (mg : Str → Option Value) (x : Str) (C : Addr) : Prop where
  bound : mg x = some (.ref C)
  ok : PySem.W.excIn K C [.type "ValueError", .type "Exception", .type "BaseException", .type "object"] "ValueError.__new__" = true
end
end My
/-! ### raise, f"{x!r} ..", try around one call: the rules -/
namespace My
open PySem PySem.Spec PyProof.Rows L2
/-- what excIn tells of the class, over a heap that has the written part -/
theorem exc_obj {K : PySem.W.Frag} {h : Heap} {C : Addr} {bmB : List Value} {nid : String} (X : K.In h) (q : PySem.W.excIn K C bmB nid = true) :
    ∃ bm N nm qn bs hd sn sub ab col dd k0 k1 k2 k3 k5, ∃ mN : Str → Option Value, h.get? C = some (excClassObj nm qn C N bs bm hd sn sub ab col dd k0 k1 k2 k3 k5 nid) ∧ h.Ns N mN ∧ mN "__init__" = none ∧ OwnTail h bmB bm := by
  unfold PySem.W.excIn at q
  split at q
  · next dd cdat slots lk =>
    split at q
    · next C2 rest a0 a1 a2 a3 n a5 em es =>
      simp only [Bool.and_eq_true, beq_iff_eq, Bool.not_eq_true'] at q
      obtain ⟨⟨⟨⟨⟨e1, e2⟩, e3⟩, e4⟩, e5⟩, e6⟩ := q
      subst e1 e2
      obtain ⟨c1, c2, c3, c4, c5, c6, c7, c8, c9, c10, c11⟩ := cdat
      dsimp only at em e3 e5 e6
      subst em e3
      obtain ⟨lst⟩ := slots
      have el : lst = [a0, a1, a2, a3, some (.builtin n), a5] := es
      subst el
      refine ⟨rest, _, _, _, _, _, _, _, _, _, dd, a0, a1, a2, a3, a5, h.nsMap c4, X _ _ lk, ?_, ?_, PySem.W.tail_of_in X e4⟩
      · exact .of_isNs (PySem.W.isNs_of_in X e5)
      · exact PySem.W.nsMap_none_of_in X e5 e6
    · cases q
  · cases q
section
variable {P : Program} {w : World} {K : PySem.W.Frag} {mg : Str → Option Value} {base : Heap} {N : List Str} {qual : Str} {scope : Scope} {f : Addr} {cd : Value} {A : Around} {outer : List Env} {s₀ : Shared} {H₀ : Hp} {E : XK}
end
section
variable {X : Cx}
/-- the context within an except suite -/
abbrev markX (X : Cx) (ea : Addr) : Cx := { X with A := X.A.mark (some (.ref ea)), calm := false, xe := fun _ _ => False }
theorem inv_mark {pins : List (Addr × Obj)} {σ : L2.St} {H : Hp} {s : Shared} (I : Inv X pins σ H s) (ea : Addr) : Inv (markX X ea) pins σ H s :=
  ⟨⟨I.ok.mod, I.ok.kind, I.ok.glob, I.ok.blt, I.ok.above, I.ok.inj, I.ok.has, I.ok.cab, (fun z => nomatch z), I.ok.frames, I.ok.stk, I.ok.exf, I.ok.bs, I.ok.bsz, I.ok.noex, I.ok.exfs, I.ok.funs, I.ok.frf⟩, I.os, I.bare, I.base, I.loc, I.cell, I.free, I.freeC, I.pin, I.hok, I.len⟩
theorem inv_unmark {pins : List (Addr × Obj)} {σ : L2.St} {H : Hp} {s : Shared} {ea : Addr} (ok : X.Ok) (I : Inv (markX X ea) pins σ H s) : Inv X pins σ H s :=
  ⟨ok, I.os, I.bare, I.base, I.loc, I.cell, I.free, I.freeC, I.pin, I.hok, I.len⟩
theorem sp_unmark {pins : List (Addr × Obj)} {D : Ends} {fl : Flow} {s : Shared} {ea : Addr} (ok : X.Ok) (h : SP (markX X ea) pins D fl s) : SP X pins D fl s := by
  cases fl with
  | next => obtain ⟨σ', H', I, q⟩ := h; exact ⟨σ', H', inv_unmark ok I, q⟩
  | brk => obtain ⟨σ', H', I, q⟩ := h; exact ⟨σ', H', inv_unmark ok I, q⟩
  | cont => obtain ⟨σ', H', I, q⟩ := h; exact ⟨σ', H', inv_unmark ok I, q⟩
  | ret u => obtain ⟨v, σ', H', I, r, q⟩ := h; exact ⟨v, σ', H', inv_unmark ok I, r, q⟩
end
end My
/-! ### texts: slices, startswith, upper, * n, <=, int(text), [elt for c in text], all(list) -/
namespace My
open PySem PySem.Spec PyProof.Rows L2
section
variable {X : Cx}
/-- a new object where nothing stood; all else is kept -/
theorem inv_new {pins : List (Addr × Obj)} {σ : L2.St} {H : Hp} {s : Shared} {D : Addr} {h' : Heap} {o : HO} {t' : Nat} (I : Inv X pins σ H s) (k : ∀ b u, s.heap.get? b = some u → h'.get? b = some u) (hD : s.heap.get? D = none)
    (new : ObjOk X.prog X.w (upd H D o) h' D o) : Inv X pins σ (upd H D o) { s with heap := h', toks := t' } := by
  have nD := inv_none I hD
  have neD : ∀ b u, s.heap.get? b = some u → b ≠ D := fun b u e z => by rw [z, hD] at e; cases e
  refine I.un ⟨fun b u q _ _ _ => k b u q, fun b u q _ _ _ => ⟨u.slots, k b u q⟩, fun b u q n _ => by rw [upd_ne (neD b u q)]; exact n, fun b u q _ => ⟨u, k b u q⟩, fun b xs q => by rw [upd_ne (ne_of_none q nD)]; exact q,
    fun b u xs q => by rw [upd_ne (ne_of_none q nD)]; exact q, fun b ps q => ⟨#[], by rw [upd_ne (ne_of_none q nD), q]; simp⟩⟩ fun b u e => ?_
  by_cases hb : b = D
  · subst hb
    rw [upd_same] at e
    cases e
    exact new
  · rw [upd_ne hb] at e
    exact (I.hok b u e).stay (fun c v _ q => k c v q) (fun c q => by rw [upd_ne (ne_of_none q nD)]; exact q) fun c xs q => by rw [upd_ne (ne_of_none q nD)]; exact q
end
end My
namespace My
open PySem PySem.Spec PyProof.Rows L2
section
variable {X : Cx}
end
end My
/-! ### written numbers and letters, over the signs of a text -/
namespace My
open PySem PySem.Spec PyProof.Rows L2 PySem.NumText
def dig (c : Nat) : Bool := decide (48 ≤ c ∧ c ≤ 57)
def figsL : List Nat → List Nat
  | [] => []
  | c :: r => if c = 45 then r else c :: r
def isFigs : List Nat → Bool
  | [] => false
  | c :: r => !decide (c = 48) && (decide ((c :: r).length ≤ 30) && (c :: r).all dig)
def isNumL (cs : List Nat) : Bool := decide (cs = [48]) || isFigs (figsL cs)
def isLetL : List Nat → Bool
  | [c] => decide (97 ≤ c ∧ c ≤ 122)
  | _ => false
def numVal : List Nat → Int
  | [] => 0
  | c :: r => if c = 45 then -((digitsVal r : Nat) : Int) else ((digitsVal (c :: r) : Nat) : Int)
theorem all_dig {cs : List Nat} (h : cs.all dig = true) : AllDigits cs := fun c hc => of_decide_eq_true (List.all_eq_true.mp h c hc)
theorem dig_all {cs : List Nat} (h : AllDigits cs) : cs.all dig = true := List.all_eq_true.mpr fun c hc => decide_eq_true (h c hc)
theorem len_codes (x : Str) : x.length = x.cps.toList.length := by simp [Str.length]
theorem val_lt : ∀ (cs : List Nat) (a : Nat), AllDigits cs → cs.foldl (fun acc c => acc * 10 + (c - 48)) a < (a + 1) * 10 ^ cs.length
  | [], a, _ => by simp
  | c :: r, a, h => by
    have h1 := val_lt r (a * 10 + (c - 48)) h.tail
    have h2 := h.head
    rw [List.foldl_cons, List.length_cons, Nat.pow_succ]
    have h3 : (a * 10 + (c - 48) + 1) * 10 ^ r.length ≤ ((a + 1) * 10) * 10 ^ r.length := Nat.mul_le_mul_right _ (by omega)
    have h4 : (a + 1) * 10 * 10 ^ r.length = (a + 1) * (10 ^ r.length * 10) := by rw [Nat.mul_assoc, Nat.mul_comm 10]
    omega
theorem digits_all (m : Nat) : AllDigits ((Nat.toDigits 10 m).map Char.toNat) := by
  intro c hc
  obtain ⟨ch, hch, e⟩ := List.mem_map.mp hc
  rw [← e]
  have r := Nat.isDigit_of_mem_toDigits (by decide) (by decide) hch
  simp only [Char.isDigit, Bool.and_eq_true, decide_eq_true_eq, ge_iff_le] at r
  obtain ⟨r1, r2⟩ := r
  have a1 : (48 : UInt32).toNat ≤ ch.val.toNat := UInt32.le_iff_toNat_le.mp r1
  have a2 : ch.val.toNat ≤ (57 : UInt32).toNat := UInt32.le_iff_toNat_le.mp r2
  exact ⟨a1, a2⟩
/-- the figures of a number above nought -/
theorem digits_figs {m : Nat} (h0 : 0 < m) (h1 : m < 10 ^ 30) : isFigs ((Nat.toDigits 10 m).map Char.toNat) = true := by
  have hd := digits_all m
  have hv := PySem.W.KIN.val_back m
  have hl := digits10_le (k := 30) (by decide) h1
  have hl' : ((Nat.toDigits 10 m).map Char.toNat).length ≤ 30 := by rw [List.length_map]; exact hl
  have hlm : ((Nat.toDigits 10 m).map Char.toNat).length = (Nat.toDigits 10 m).length := List.length_map ..
  cases e : (Nat.toDigits 10 m).map Char.toNat with
  | nil =>
    have := tDigits_len_ge 10 m
    rw [e] at hlm
    simp at hlm
    omega
  | cons c r =>
    rw [e] at hd hv hl' hlm
    unfold isFigs
    have hc : ¬ c = 48 := by
      intro hc
      subst hc
      have hv2 : digitsVal r = m := by rw [← hv]; rfl
      cases r with
      | nil =>
        have : digitsVal ([] : List Nat) = 0 := rfl
        omega
      | cons d q =>
        have h3 := val_lt (d :: q) 0 hd.tail
        have h4 : m < 10 ^ (d :: q).length := by
          have h5 : digitsVal (d :: q) < (0 + 1) * 10 ^ (d :: q).length := h3
          rw [hv2] at h5
          omega
        have h6 := digits10_le (k := (d :: q).length) (by simp) h4
        simp only [List.length_cons] at hlm h6
        omega
    simp only [decide_eq_false hc, decide_eq_true hl', dig_all hd, Bool.not_false, Bool.and_self]
/-- str(n): a written number, and which -/
theorem num_text {n : Int} (h1 : -(10 ^ 30) < n) (h2 : n < 10 ^ 30) : isNumL (Str.ofString (toString n)).cps.toList = true ∧ numVal (Str.ofString (toString n)).cps.toList = n ∧ (Str.ofString (toString n)).length ≤ 31 ∧ isLetL (Str.ofString (toString n)).cps.toList = false := by
  have hp : ((10 : Int) ^ 30) = ((10 ^ 30 : Nat) : Int) := by decide
  rcases Int.lt_or_le n 0 with hn | hn
  · obtain ⟨m, rfl⟩ : ∃ m : Nat, n = -((m : Nat) : Int) := ⟨n.natAbs, by omega⟩
    have m0 : 0 < m := by omega
    have m1 : m < 10 ^ 30 := by omega
    have e : (Str.ofString (toString (-((m : Nat) : Int)))).cps.toList = 45 :: (Nat.toDigits 10 m).map Char.toNat := by
      obtain ⟨k, rfl⟩ : ∃ k, m = k + 1 := ⟨m - 1, by omega⟩
      have e0 : toString (-(((k + 1 : Nat) : Nat) : Int)) = "-" ++ Nat.repr (k + 1) := rfl
      rw [e0, signs_ofString, String.toList_append, List.map_append, Nat.toList_repr]
      rfl
    have hf := digits_figs m0 m1
    have hl := digits10_le (k := 30) (by decide) m1
    refine ⟨?_, ?_, ?_, ?_⟩
    · rw [e]
      unfold isNumL
      have : figsL (45 :: (Nat.toDigits 10 m).map Char.toNat) = (Nat.toDigits 10 m).map Char.toNat := rfl
      rw [this, hf, Bool.or_true]
    · rw [e]
      show -((digitsVal ((Nat.toDigits 10 m).map Char.toNat) : Nat) : Int) = _
      rw [PySem.W.KIN.val_back]
    · rw [len_codes, e, List.length_cons, List.length_map]
      omega
    · rw [e]
      cases (Nat.toDigits 10 m).map Char.toNat <;> rfl
  · obtain ⟨m, rfl⟩ := Int.eq_ofNat_of_zero_le hn
    have m1 : m < 10 ^ 30 := by omega
    have e := PySem.W.KIN.signs_num m
    have hl := digits10_le (k := 30) (by decide) m1
    have hd := digits_all m
    have hv := PySem.W.KIN.val_back m
    refine ⟨?_, ?_, ?_, ?_⟩
    · rw [e]
      unfold isNumL
      by_cases m0 : m = 0
      · subst m0
        rfl
      · have hf := digits_figs (Nat.pos_of_ne_zero m0) m1
        cases q : (Nat.toDigits 10 m).map Char.toNat with
        | nil => rw [q] at hf; cases hf
        | cons c r =>
          rw [q] at hf hd
          have hc : ¬ c = 45 := by have := hd.head; omega
          have : figsL (c :: r) = c :: r := if_neg hc
          rw [this, hf, Bool.or_true]
    · rw [e]
      cases q : (Nat.toDigits 10 m).map Char.toNat with
      | nil =>
        rw [q] at hv
        show (0 : Int) = _
        have : digitsVal ([] : List Nat) = 0 := rfl
        omega
      | cons c r =>
        rw [q] at hv hd
        have hc : ¬ c = 45 := by have := hd.head; omega
        show (if c = 45 then _ else ((digitsVal (c :: r) : Nat) : Int)) = _
        rw [if_neg hc, hv]
    · rw [len_codes, e, List.length_map]
      omega
    · rw [e]
      cases q : (Nat.toDigits 10 m).map Char.toNat with
      | nil => rfl
      | cons c r =>
        rw [q] at hd
        cases r with
        | nil =>
          have := hd.head
          exact decide_eq_false (by omega)
        | cons _ _ => rfl
end My
namespace My
open PySem PySem.Spec PyProof.Rows L2 PySem.NumText
theorem num_bad {cs : List Nat} {d : Nat} (hd : d ∈ figsL cs) (hn : dig d = false) (hne : ¬ cs = [48]) : isNumL cs = false := by
  unfold isNumL
  rw [decide_eq_false hne, Bool.false_or]
  cases e : figsL cs with
  | nil => rw [e] at hd; cases hd
  | cons c r =>
    rw [e] at hd
    have ha : (c :: r).all dig = false := by
      cases q : (c :: r).all dig with
      | false => rfl
      | true => rw [List.all_eq_true.mp q d hd] at hn; cases hn
    show (!decide (c = 48) && (decide ((c :: r).length ≤ 30) && (c :: r).all dig)) = false
    rw [ha, Bool.and_false, Bool.and_false]
def Bad (tx : Str) : Prop := isNumL tx.cps.toList = false ∧ isLetL tx.cps.toList = false ∧ tx.length ≤ 100 ∧ ∀ c ∈ tx.cps.toList, c < 16 ^ 8
theorem Bad.two {tx : Str} {a b : Nat} (h : tx.cps.toList = [a, b]) (ha : a < 128) (hb : b < 128) (hd : (a ≠ 45 ∧ dig a = false) ∨ dig b = false) : Bad tx := by
  refine ⟨?_, by rw [h]; rfl, by rw [len_codes, h]; show 2 ≤ 100; decide, fun c hc => ?_⟩
  · rw [h]
    rcases hd with ⟨h1, h2⟩ | h2
    · refine num_bad (d := a) ?_ h2 (by simp)
      have e : figsL [a, b] = [a, b] := if_neg h1
      rw [e]; simp
    · refine num_bad (d := b) ?_ h2 (by simp)
      by_cases h1 : a = 45
      · have e : figsL [a, b] = [b] := if_pos h1
        rw [e]; simp
      · have e : figsL [a, b] = [a, b] := if_neg h1
        rw [e]; simp
  · rw [h] at hc
    have : c = a ∨ c = b := by simpa using hc
    omega
theorem num_codes {n : Int} (h1 : -(10 ^ 30) < n) (h2 : n < 10 ^ 30) : ∀ c ∈ (Str.ofString (toString n)).cps.toList, c < 16 ^ 8 := by
  obtain ⟨t1, _, _, _⟩ := num_text h1 h2
  intro c hc
  unfold isNumL at t1
  rcases Bool.or_eq_true_iff.mp t1 with z | z
  · rw [of_decide_eq_true z] at hc
    have : c = 48 := by simpa using hc
    omega
  · cases q : (Str.ofString (toString n)).cps.toList with
    | nil => rw [q] at hc; cases hc
    | cons a r =>
      rw [q] at hc z
      have key : ∀ l : List Nat, isFigs l = true → ∀ d ∈ l, d < 16 ^ 8 := fun l hl d hd => by
        cases l with
        | nil => cases hd
        | cons b s =>
          have hl' : (!decide (b = 48) && (decide ((b :: s).length ≤ 30) && (b :: s).all dig)) = true := hl
          simp only [Bool.and_eq_true] at hl'
          have := all_dig hl'.2.2 d hd
          omega
      by_cases ha : a = 45
      · have e : figsL (a :: r) = r := if_pos ha
        rw [e] at z
        rcases List.mem_cons.mp hc with y | y
        · omega
        · exact key r z c y
      · have e : figsL (a :: r) = a :: r := if_neg ha
        rw [e] at z
        exact key _ z c hc
end My
/-! ### isinstance(e, C) of an own exception e -/
namespace My
open PySem PySem.Spec PyProof.Rows L2 Builtin Builtin.ObjectAttr Builtin.Getset_descriptor
/-- what the lookups tell along an own class of exceptions -/
structure ExcK (K : PySem.W.Frag) (C : Addr) : Prop where
  it : PySem.W.isClsIn K C = true
  ga : PySem.W.findIn K (.ref C) "__getattribute__" = some (some (.builtin "BaseException.__getattribute__"))
  gt : PySem.W.findIn K (.ref C) "__getattr__" = some none
  cl : PySem.W.findIn K (.ref C) "__class__" = some (some (.builtin "object.__class__"))
  mB : PySem.W.mroIn K C (.type "BaseException") = some true
  mO : PySem.W.mroIn K C (.type "object") = some true
/-- the object at a is of the class at C -/
def IsExc (a C : Addr) (h : Heap) : Prop := ∃ o, h.get? a = some o ∧ o.cls = .ref C
section
variable {prog : Program} {w : World} {A : Around} {E : Value → Shared → Prop} {h : Heap} {g : Array GenState} {d : Drawn} {t : Nat} {os : OsState} {a C : Addr} {o : Obj} {K : PySem.W.Frag}
end
end My
/-! ### try: y = f(..) / except S as e: .., S a class above the one that was raised; isinstance of e -/
namespace My
open PySem PySem.Spec PyProof.Rows L2
section
variable {X : Cx}
/-- how two own classes stand: D's object, whether C is under D -/
structure KitP (K : PySem.W.Frag) (C D : Addr) (b : Bool) : Prop where
  it : PySem.W.isClsIn K D = true
  ty : PySem.W.typeIn K (.ref D) = some (.type "type")
  self : PySem.W.subIn K (.ref C) (.ref C) = some true
  sub : PySem.W.subIn K (.ref C) (.ref D) = some b
theorem KitP.one {K : PySem.W.Frag} {C D : Addr} {b : Bool} (p : KitP K C D b) : PySem.W.kitOne K (.ref C) (.ref D) = some b := by
  unfold PySem.W.kitOne
  by_cases e : (Value.ref C == Value.ref D) = true
  · rw [if_pos e]
    have e1 : C = D := Value.ref.inj (beq_iff_eq.mp e)
    have h1 := p.self
    have h2 := p.sub
    rw [← e1, h1] at h2
    exact h2
  · rw [if_neg e]
    show (if ((PySem.W.clsIn K D).isSome && PySem.W.typeIn K (.ref D) == some (.type "type")) = true then PySem.W.subIn K (.ref C) (.ref D) else none) = some b
    have h1 : (PySem.W.clsIn K D).isSome = true := p.it
    rw [h1, p.ty, if_pos (by simp), p.sub]
/-- the clause's test -/
theorem exc_matches {M : Model} {A : Around} {E : Value → Shared → Prop} {K : PySem.W.Frag} {h : Heap} {g : Array GenState} {d : Drawn} {t : Nat} {os : OsState} {e C S : Addr} {oe : Obj} {b : Bool} {Q : Bool → Shared → Prop} (X : K.In h) (he : h.get? e = some oe) (hcls : oe.cls = .ref C)
    (hty : PySem.W.typeIn K (.ref S) = some (.type "type")) (hit : PySem.W.isClsIn K S = true) (hB : PySem.W.mroIn K S (.type "BaseException") = some true) (hs : PySem.W.subIn K (.ref C) (.ref S) = some b) (hq : Q b ⟨h, g, d, t, os⟩) : wpAny M A (excMatches (.ref e) (.ref S)) Q E ⟨h, g, d, t, os⟩ := by
  have f := tc_notTuple
  have L0 := PySem.W.looks_typeIn (M := M) X hty
  have L1 := PySem.W.looks_mroIn (M := M) X hB
  have L2 := PySem.W.looks_subIn (M := M) X hs
  have L3 : PySem.W.Looks M h (isType (.ref S)) true := by
    unfold PySem.W.isClsIn PySem.W.clsIn at hit
    split at hit
    · rename_i c' d' cd' sl' ho
      intro A' Q' E' s' k q
      unfold isType loadHead
      exact wpAny_bind (wpAny_loadPart (k _ _ (X _ _ ho)) (wpAny_pure q))
    · cases hit
  unfold excMatches isInstance
  repeat (first | (with_reducible refine wpAny_loadPart_at he ?_; rw [hcls]) | with_reducible refine PySem.W.Looks.at L0 ?_ | with_reducible refine PySem.W.Looks.at L1 ?_ | with_reducible refine PySem.W.Looks.at L2 ?_ | with_reducible refine PySem.W.Looks.at L3 ?_ | wp_step)
  cases b <;> (wp_walk; exact hq)
end
end My
/-! ### try: y = f(..) / except S as n: .. -/
namespace My
open PySem PySem.Spec PyProof.Rows L2
section
variable {X : Cx} {pins : List (Addr × Obj)} {σ : L2.St} {H : Hp} {s : Shared}
theorem name_goes {M : Model} {A : Around} {E : Value → Shared → Prop} {j : Nat} {n : Str} {pos : Pos} {Q : Unit → Shared → Prop} (I : Inv X pins σ H s) (hN : X.N.Nodup) (hj : X.N[j]? = some n) (hk : X.env.scope.names.lookup n = some .local)
    (h : ∀ s', Inv X pins (σ.set j none) H s' → Q () s') : wpAny M A (do bindName X.env n .none; unbindBehindTheSuite X.env n pos) Q E s := by
  obtain ⟨m, hn, hl⟩ := id I.loc
  have hcls : (X.env.scope.kind == .class || (X.env.scope.kind == .module && X.env.locals != X.env.globals)) = false := by rw [I.ok.kind]; rfl
  have hjσ : j < σ.length := by rw [I.len]; exact (List.getElem?_eq_some_iff.mp hj).1
  have cne := I.cne
  refine wpAny_nameGoes_keeps hk hn hcls fun h' v hn' hs => ?_
  obtain ⟨oL, _, _, hoL, _⟩ := id hn
  refine h _ ⟨I.ok, I.os, I.bare, ⟨fun b o e n hb hx => ?_, fun b o e n hb hx => ?_, I.base.free, fun b o e hx => ?_, I.base.tups, I.base.frzs, I.base.tbls⟩, ⟨_, hn', fun i y v' e1 e2 e3 => ?_⟩, fun y c e => ?_, I.free, I.freeC, fun p hp => ?_, fun b ob e => ?_, by simpa using I.len⟩
  · exact (hs.2 b (Nat.ne_of_lt (Nat.lt_of_lt_of_le (Heap.lt_size e) I.ok.above))).trans (I.base.keep b o e n hb hx)
  · obtain ⟨sl, e1⟩ := I.base.slot b o e n hb hx
    exact ⟨sl, (hs.2 b (Nat.ne_of_lt (Nat.lt_of_lt_of_le (Heap.lt_size e) I.ok.above))).trans e1⟩
  · obtain ⟨o', e1⟩ := I.base.there b o e hx
    exact ⟨o', (hs.2 b (Nat.ne_of_lt (Nat.lt_of_lt_of_le (Heap.lt_size e) I.ok.above))).trans e1⟩
  · by_cases hi : i = j
    · subst hi
      rw [List.getElem?_set_self hjσ] at e2
      cases e2
    · rw [List.getElem?_set_ne (Ne.symm hi)] at e2
      obtain ⟨u', r', q⟩ := hl i y v' e1 e2 e3
      refine ⟨u', r', ?_⟩
      rcases q with ⟨k, e⟩ | ⟨k, c, e, z⟩
      · refine .inl ⟨k, ?_⟩
        have : y ≠ n := fun e => hi (nodup_ix hN e1 (e ▸ hj))
        simp [this, e]
      · exact .inr ⟨k, c, e, z.sameBut hs (cne y c e)⟩
  · obtain ⟨w', z⟩ := I.cell y c e
    exact ⟨w', z.sameBut hs (cne y c e)⟩
  · obtain ⟨e, n, ne, nf, d⟩ := I.pin p hp
    exact ⟨(hs.2 p.1 ne).trans e, n, ne, nf, d⟩
  · refine (I.hok b ob e).stay (fun c w' hc q => (hs.2 c ?_).trans q) (fun _ q => q) fun _ _ q => q
    rintro rfl
    rcases hc with rfl | hc
    · rw [I.free] at e; cases e
    · rw [I.free] at hc; cases hc
/-- an object that was made since is tracked -/
theorem inv_track {s1 : Shared} {H1 : Hp} {a : Addr} {o : HO} (I1 : Inv X pins σ H1 s1) (I : Inv X pins σ H s) (hn : s1.heap.get? a = none) (ha : H a = none) (ok : ObjOk X.prog X.w (upd H a o) s.heap a o) : Inv X pins σ (upd H a o) s := by
  have ne : ∀ b u, s1.heap.get? b = some u → b ≠ a := fun b u e z => by rw [z, hn] at e; cases e
  refine ⟨I.ok, I.os, I.bare, ⟨I.base.keep, I.base.slot, fun b u e n hx => ?_, I.base.there, fun b xs e => ?_, fun b u v e => ?_, fun b ps e => ?_⟩, I.loc, I.cell, ?_, fun x c e => ?_, fun p hp => ?_, fun b u e => ?_, I.len⟩
  · obtain ⟨u', e1⟩ := I1.base.there b u e hx
    rw [upd_ne (ne b u' e1)]
    exact I.base.free b u e n hx
  · have q := I.base.tups b xs e
    rw [upd_ne (ne_of_none q ha)]
    exact q
  · have q := I.base.frzs b u v e
    rw [upd_ne (ne_of_none q ha)]
    exact q
  · obtain ⟨more, q⟩ := I.base.tbls b ps e
    exact ⟨more, by rw [upd_ne (ne_of_none q ha)]; exact q⟩
  · obtain ⟨m0, ⟨u, _, _, hu, _⟩, _⟩ := I1.loc
    rw [upd_ne (ne _ u hu)]
    exact I.free
  · obtain ⟨v, u, hu, _⟩ := I1.cell x c e
    rw [upd_ne (ne c u hu)]
    exact I.freeC x c e
  · obtain ⟨e, n, n2, nf, d⟩ := I.pin p hp
    obtain ⟨e1, _⟩ := I1.pin p hp
    exact ⟨e, by rw [upd_ne (ne _ _ e1)]; exact n, n2, nf, d⟩
  · by_cases hb : b = a
    · subst hb
      rw [upd_same] at e
      cases e
      exact ok
    · rw [upd_ne hb] at e
      refine (I.hok b u e).stay (fun c v hc q => q) (fun c q => ?_) fun c xs q => ?_
      · rw [upd_ne (ne_of_none q ha)]; exact q
      · rw [upd_ne (ne_of_none q ha)]; exact q
/-- a class of exceptions, as an except clause's -/
structure ExcS (K : PySem.W.Frag) (mg : Str → Option Value) (x : Str) (S : Addr) : Prop where
  bound : mg x = some (.ref S)
  ty : PySem.W.typeIn K (.ref S) = some (.type "type")
  it : PySem.W.isClsIn K S = true
  mB : PySem.W.mroIn K S (.type "BaseException") = some true
/-- what is wanted behind the suite: the name is gone -/
def gone (j : Nat) (D : Ends) : Ends := { nx := fun σ H => D.nx (σ.set j none) H, rt := D.rt, bk := fun σ H => D.bk (σ.set j none) H, ct := fun σ H => D.ct (σ.set j none) H }
/-- an exception of the class at C stands at a, its dict is d -/
def IsExcK (a C : Addr) (d : Option Addr) (h : Heap) : Prop := ∃ o, h.get? a = some o ∧ o.cls = .ref C ∧ PySem.W.notCls o = true ∧ o.dict = d
end
end My
/-! ### for c in text; for a, b in zip(xs, ys) over lists, tuples and texts -/
namespace My
open PySem PySem.Spec PyProof.Rows L2
/-- a fixed row of values -/
def Itf (ys : List V) : It := ⟨fun i _ => i < ys.length, fun i H x H' => H' = H ∧ ys[i]? = some x, fun i _ => ys.length ≤ i⟩
abbrev vsigns (y : Str) : List V := y.cps.toList.map fun c => V.str ⟨#[c]⟩
theorem vsigns_len (y : Str) : (vsigns y).length = y.length := by simp [vsigns, Str.length]
theorem vsigns_get {y : Str} {i : Nat} : (vsigns y)[i]? = (y.cps[i]?).map fun c => V.str ⟨#[c]⟩ := by
  rw [List.getElem?_map, Array.getElem?_toList]
abbrev strIt (y : Str) : String := if y.cps.all (· < 128) then "str_ascii_iterator" else "str_iterator"
abbrev strItO (y : Str) (t : Tok) : Obj := { cls := .type (strIt y), data := .fields #[.str y t, .int 0 0] }
theorem pyIter_str' {prog : Program} {w : World} {A : Around} {E : Value → Shared → Prop} {s : Shared} {x : Str} {t : Tok} {Q : Value → Shared → Prop} (hQ : Q (.ref s.heap.objs.size) { s with heap := s.heap.push (strItO x t) }) : wpAny (model prog w) A (pyIter (.str x t)) Q E s := by
  cases ha : x.cps.all (· < 128) with
  | true =>
    have e : strIt x = "str_ascii_iterator" := if_pos ha
    unfold strItO at hQ
    rw [e] at hQ
    exact wpAny_pyIter_ascii ha hQ
  | false =>
    have e : strIt x = "str_iterator" := if_neg (by rw [ha]; decide)
    unfold strItO at hQ
    rw [e] at hQ
    exact wpAny_pyIter_wide ha hQ
section
variable {X : Cx} {tg : Expr}
end
/-! the sources of a zip -/
structure Src (P : Program) (w : World) (K : PySem.W.Frag) (J : It) (it : Addr) (st : Nat → Heap → Prop) : Prop where
  obj : ∀ i h, st i h → ∃ o, h.get? it = some o ∧ ∀ v, o.data ≠ .cell v
  keep : ∀ i h h', st i h → (∀ o, h.get? it = some o → h'.get? it = some o) → st i h'
  item : ∀ (X : Cx), X.prog = P → X.w = w → X.K = K → ∀ (A : Around) (i : Nat) (pins : List (Addr × Obj)) (s : Shared) (σ : L2.St) (H : Hp) (Q : Value → Shared → Prop) (E : Value → Shared → Prop), Inv X pins σ H s → st i s.heap → J.go i H →
    (∀ x u h' tk, RelV x u → J.yld i H x H → st (i + 1) h' → Heap.SameBut it s.heap h' → Q u { s with heap := h', toks := tk }) → wpAny (model P w) A (Builtin.SmallTypes.nextOf (.ref it)) Q E s
  done : ∀ (X : Cx), X.prog = P → X.w = w → X.K = K → ∀ (A : Around), A.handled = none → ∀ (i : Nat) (pins : List (Addr × Obj)) (s : Shared) (σ : L2.St) (H : Hp) (Q : Value → Shared → Prop) (E : Value → Shared → Prop), Inv X pins σ H s → st i s.heap → J.stop i H →
    (∀ h' e, Heap.ExtBut it s.heap h' → (∃ o, h'.get? e = some o ∧ o.cls = .type "StopIteration") → E (.ref e) { s with heap := h' }) → wpAny (model P w) A (Builtin.SmallTypes.nextOf (.ref it)) Q E s
section
variable {P : Program} {w : World} {K : PySem.W.Frag}
theorem src_list (a it : Addr) : Src P w K (Itl K a) it (fun i h => h.IsListIter it a i) where
  obj := fun i h st => by
    obtain ⟨o, e, c, d⟩ := st
    exact ⟨o, e, fun v z => by rw [d] at z; cases z⟩
  keep := fun i h h' st k => st.at fun o e => k o e
  item := by
    intro X hP hw hK A i pins s σ H Q E I st hg hQ
    subst hP hw hK
    obtain ⟨xs, x, hq, hx⟩ := hg
    obtain ⟨its, rv, p, hz⟩ := I.list hq
    obtain ⟨u, hu, ru⟩ := rv.get hx
    exact wpAny_nextOf_list_item st p.isList (x := u) (by simpa using hu) fun h' st' sb => hQ x u h' s.toks ru ⟨rfl, fun ys hy => by rw [I.list_inj hy hq]; exact hx⟩ st' sb
  done := by
    intro X hP hw hK A hA i pins s σ H Q E I st hg hE
    subst hP hw hK
    obtain ⟨xs, hq, hx⟩ := hg
    obtain ⟨its, rv, p, hz⟩ := I.list hq
    have hl := rv.length
    exact wpAny_nextOf_list_end hA st p.isList (by simp; omega) hE
theorem src_str (y : Str) (t : Tok) (it : Addr) : Src P w K (Itf (vsigns y)) it (fun i h => h.IsStrIter it (strIt y) y t i) where
  obj := fun i h st => by
    obtain ⟨o, e, c, d⟩ := st
    exact ⟨o, e, fun v z => by rw [d] at z; cases z⟩
  keep := fun i h h' st k => let ⟨o, ho, r⟩ := st; ⟨o, k o ho, r⟩
  item := by
    intro X hP hw hK A i pins s σ H Q E I st hg hQ
    subst hP hw hK
    have hi : i < y.cps.size := by have : i < (vsigns y).length := hg; rw [vsigns_len] at this; exact this
    have yl : (Itf (vsigns y)).yld i H (.str ⟨#[y.cps[i]]⟩) H := ⟨rfl, by rw [vsigns_get, Array.getElem?_eq_getElem hi]; rfl⟩
    cases ha : y.cps.all (· < 128) with
    | true =>
      have e : strIt y = "str_ascii_iterator" := if_pos ha
      rw [e] at st hQ
      exact wpAny_nextOf_ascii_item st (c := y.cps[i]) (by simp [hi]) fun h' st' sb => hQ (.str ⟨#[y.cps[i]]⟩) _ h' _ ⟨_, rfl⟩ yl st' sb
    | false =>
      have e : strIt y = "str_iterator" := if_neg (by rw [ha]; decide)
      rw [e] at st hQ
      exact wpAny_nextOf_wide_item st (c := y.cps[i]) (by simp [hi]) fun h' st' sb => hQ (.str ⟨#[y.cps[i]]⟩) _ h' _ ⟨_, rfl⟩ yl st' sb
  done := by
    intro X hP hw hK A hA i pins s σ H Q E I st hg hE
    subst hP hw hK
    have hi : y.cps[i]? = none := by have : (vsigns y).length ≤ i := hg; rw [vsigns_len] at this; exact Array.getElem?_eq_none this
    cases ha : y.cps.all (· < 128) with
    | true =>
      have e : strIt y = "str_ascii_iterator" := if_pos ha
      rw [e] at st
      exact wpAny_nextOf_ascii_end hA st hi hE
    | false =>
      have e : strIt y = "str_iterator" := if_neg (by rw [ha]; decide)
      rw [e] at st
      exact wpAny_nextOf_wide_end hA st hi hE

/-- a draw from a tuple's iterator -/
theorem nextOf_tuple {A : Around} {s : Shared} {E : Value → Shared → Prop} {it l : Addr} {i : Nat} {its : Array Value} {Q : Value → Shared → Prop} (st : s.heap.IsTupleIter it l i) (tp : s.heap.IsTuple l its)
    (hs : ∀ x g, its[i]? = some x → g.IsTupleIter it l (i + 1) → Heap.SameBut it s.heap g → Q x { s with heap := g })
    (hn : its[i]? = none → A.handled = none ∧ ∀ g e, Heap.ExtBut it s.heap g → (∃ o, g.get? e = some o ∧ o.cls = .type "StopIteration") → E (.ref e) { s with heap := g }) :
    wpAny (model P w) A (Builtin.SmallTypes.nextOf (.ref it)) Q E s := by
  obtain ⟨oi, ei, ci, di⟩ := id st
  obtain ⟨ot, et, _, nt, dt⟩ := id tp
  have new : ∀ k v, Heap.SameBut it s.heap (s.heap.update it (Obj.mapFields (·.setIfInBounds k v))) := fun _ _ => Heap.SameBut.update ..
  refine wpAny_bind (wpAny_callSpecial?_slot (name := Str.ofString "__next__") st.typeIs F.slot_tuple_iterator_next (wpAny_call_entry F.slot_tuple_iterator_next st.typeIs F.entry_tuple_iterator_next ?_ (F.args_tuple_iterator_next_1 _)))
  refine wpAny_bind (wpAny_of_eq (a := (Value.ref it, [])) rfl (wpAny_bind (wpAny_field ei di (x := .ref l) rfl ?_)))
  have nn : (Value.ref l == Value.none) = false := rfl
  dsimp only
  rw [nn, if_neg Bool.false_ne_true]
  refine wpAny_bind (wpAny_field ei di (x := .int i 0) rfl (wpAny_bind (wpAny_seqItems et dt ?_)))
  dsimp only
  rw [Int.toNat_natCast]
  cases q : its[i]? with
  | some x =>
    refine wpAny_bind (wpAny_setField ei di (by simp) (wpAny_pure ⟨x, rfl, wpAny_pure (hs x _ q ?_ (new 1 _))⟩))
    refine ⟨_, Heap.get?_update_self _ ei (Obj.isFreed_of_fields (Obj.data_mapFields di _)), ?_, ?_⟩
    · rw [Obj.cls_mapFields]; exact ci
    · rw [Obj.data_mapFields di]
      simp [rawInt]
  | none =>
    obtain ⟨hA, f⟩ := hn q
    refine wpAny_bind (wpAny_rule (wpAny_bind (wpAny_setField ei di (by simp) (wpAny_bind (m := newExc _ _) ?_))))
    unfold newExc newTuple
    refine wpAny_bind (wpAny_newObj_type (wpAny_bind (m := firstArgMember _ _) (wpAny_of_eq (a := Value.none) rfl (wpAny_newObj_type (wpAny_raiseNew_none hA (f _ _ (((new 0 _).extBut.push _).push _) ⟨_, Heap.get?_push_size _ rfl, rfl⟩)) (by size_fits)))) (by size_fits))
theorem src_tuple (a it : Addr) : Src P w K (Itt K a) it (fun i h => h.IsTupleIter it a i) where
  obj := fun i h st => by
    obtain ⟨o, e, c, d⟩ := st
    exact ⟨o, e, fun v z => by rw [d] at z; cases z⟩
  keep := fun i h h' st k => st.at fun o e => k o e
  item := by
    intro X hP hw hK A i pins s σ H Q E I st hg hQ
    subst hP hw hK
    obtain ⟨xs, x, hq, hx⟩ := hg
    obtain ⟨its, rv, p, hz⟩ := I.tuple hq
    obtain ⟨u, hu, ru⟩ := rv.get hx
    have hu' : its.toArray[i]? = some u := by simpa using hu
    refine nextOf_tuple st (show s.heap.IsTuple a its.toArray from p) (fun y g hy st' sb => ?_) (fun z => by rw [hu'] at z; cases z)
    have e : u = y := Option.some.inj (hu'.symm.trans hy)
    subst e
    exact hQ x u g s.toks ru ⟨rfl, fun ys hy => by rw [I.tuple_inj hy hq]; exact hx⟩ st' sb
  done := by
    intro X hP hw hK A hA i pins s σ H Q E I st hg hE
    subst hP hw hK
    obtain ⟨xs, hq, hx⟩ := hg
    obtain ⟨its, rv, p, hz⟩ := I.tuple hq
    have hl := rv.length
    have hn : its.toArray[i]? = none := by simp; omega
    exact nextOf_tuple st (show s.heap.IsTuple a its.toArray from p) (fun y g hy _ _ => by rw [hn] at hy; cases hy) fun _ => ⟨hA, hE⟩
/-- one turn of a zip, whatever it walks: the two draws are handed in -/
theorem zip_draws {A : Around} {E : Value → Shared → Prop} {s : Shared} {z TI TO i1 i2 : Addr} {Q : Fin → Shared → Prop} (hz : IsZip s.heap z TI TO .none) (hTI : IsPair s.heap TI (.ref i1) (.ref i2))
    (h : ∀ g1, IsZip g1 z TI TO .ellipsis → Heap.SameBut z s.heap g1 →
      wpAny (model P w) A (Builtin.SmallTypes.nextOf (.ref i1)) (fun x s2 => ∃ a b, IsPair s2.heap TO a b ∧ ∀ g3, IsPair g3 TO x b → Heap.SameBut TO s2.heap g3 →
        wpAny (model P w) A (Builtin.SmallTypes.nextOf (.ref i2)) (fun y s4 => IsPair s4.heap TO x b ∧ ∀ g5, IsPair g5 TO x y → Heap.SameBut TO s4.heap g5 → IsZip g5 z TI TO .ellipsis ∧
            ∀ g7 g8, Heap.SameBut z (g5.push { cls := .type "tuple", data := .seq #[x, y] }) g7 → Heap.SameBut z g7 g8 → IsZip g8 z TI TO (rawInt g5.objs.size) → Q (.done (.ret (.ref g5.objs.size))) { s4 with heap := g8 })
          (fun e s4 => IsZip s4.heap z TI TO .ellipsis ∧ ∀ g5, Heap.SameBut z s4.heap g5 → E e { s4 with heap := g5 }) { s2 with heap := g3 })
        (fun e s2 => IsZip s2.heap z TI TO .ellipsis ∧ ∀ g3, Heap.SameBut z s2.heap g3 → E e { s2 with heap := g3 }) { s with heap := g1 }) :
    wpAny (model P w) A (Builtin.«zip.__next__» ⟨[.ref z], []⟩) Q E s := by
  have free : wpAny (model P w) A (Builtin.SmallTypes.ownedTupleIsFree (.ref z)) (fun b s' => b = true ∧ s' = s) E s := by
    unfold Builtin.SmallTypes.ownedTupleIsFree
    exact wpAny_bind (wpAny_field hz rfl rfl (wpAny_pure ⟨rfl, rfl⟩))
  refine wpAny_bind (wpAny_of_eq (a := (Value.ref z, [])) rfl ?_)
  refine wpAny_bind (wpAny_field hz rfl (x := .bool false) rfl (wpAny_bind (wpAny_field hz rfl (x := .ref TI) rfl (wpAny_bind (wpAny_seqItems hTI rfl (wpAny_bind (thn free fun b s' hb => ?_)))))))
  obtain ⟨rfl, rfl⟩ := hb
  refine wpAny_bind (wpAny_rule (wpAny_bind (wpAny_field hz rfl (x := .ref TO) rfl (wpAny_bind (wpAny_setField_rec hz (by simp) fun g1 q1 k1 => wpAny_bind ?_)))))
  simp only [List.zipIdx_cons, List.zipIdx_nil, List.forIn_cons, List.forIn_nil]
  refine wpAny_bind (wpAny_bind (wpAny_onRaise (wpAny_bind (wpAny_mono (h g1 q1 k1) (fun x s2 d1 => ?_) fun e s2 ⟨q2, f2⟩ => wpAny_setField_rec q2 (by simp) fun g3 _ k3 => f2 g3 k3))))
  obtain ⟨a, b, t2, d1⟩ := d1
  refine wpAny_pure (wpAny_bind (wpAny_seqItems t2 rfl (wpAny_bind (wpAny_updateSeq_pair t2 fun g3 t3 k3 => wpAny_bind (wpAny_letGo (wpAny_pure (wpAny_bind (wpAny_bind (wpAny_onRaise ?_)))))))))
  refine wpAny_bind (wpAny_mono (d1 g3 t3 k3) (fun y s4 d2 => ?_) fun e s4 ⟨q4, f4⟩ => wpAny_setField_rec q4 (by simp) fun g5 _ k5 => f4 g5 k5)
  obtain ⟨t4, d2⟩ := d2
  refine wpAny_pure (wpAny_bind (wpAny_seqItems t4 rfl (wpAny_bind (wpAny_updateSeq_pair t4 fun g5 t5 k5 => wpAny_bind (wpAny_letGo (wpAny_pure (wpAny_pure (wpAny_bind (wpAny_seqItems t5 rfl (wpAny_bind (wpAny_newTuple ?_ (by show 2 ≤ sizeLine; decide))))))))))))
  obtain ⟨q5, d2⟩ := d2 g5 t5 k5
  have out : wpAny (model P w) A (Builtin.SmallTypes.ownedTupleHandOut (.ref z) (.ref g5.objs.size)) (fun _ s' => Q (.done (.ret (.ref g5.objs.size))) s') E { s4 with heap := g5.push { cls := .type "tuple", data := .seq #[x, y] } } := by
    unfold Builtin.SmallTypes.ownedTupleHandOut
    refine wpAny_bind (wpAny_setField_rec (Heap.get?_push_of_some _ q5) (by simp) fun g7 q7 k7 => wpAny_setField_rec q7 (by simp) fun g8 q8 k8 => d2 g7 g8 k7 k8 ?_)
    exact q8
  exact wpAny_bind (thn out fun _ s' q => wpAny_pure q)
/-- a zip of two -/
def ItZ (J1 J2 : It) : It := ⟨fun i H => J1.go i H ∧ J2.go i H, fun i H v H' => ∃ p x y, J1.yld i H x H ∧ J2.yld i H y H ∧ v = .ref p ∧ H p = none ∧ H' = upd H p (.tup [x, y]), fun i H => J1.stop i H ∨ (J1.go i H ∧ J2.stop i H)⟩
/-- the five objects of a zip -/
structure ZipAp (z TI TO i1 i2 : Addr) : Prop where
  TIz : TI ≠ z
  TOz : TO ≠ z
  i1z : i1 ≠ z
  i2z : i2 ≠ z
  TITO : TI ≠ TO
  TIi1 : TI ≠ i1
  TIi2 : TI ≠ i2
  TOi1 : TO ≠ i1
  TOi2 : TO ≠ i2
  i12 : i1 ≠ i2
theorem zipAp_of (n : Nat) : ZipAp (n + 4) (n + 2) (n + 3) n (n + 1) := by
  constructor <;> (intro h; first | exact absurd (show n + 2 = n + 4 from h) (by omega) | exact absurd (show n + 3 = n + 4 from h) (by omega) | exact absurd (show n = n + 4 from h) (by omega) | exact absurd (show n + 1 = n + 4 from h) (by omega) | exact absurd (show n + 2 = n + 3 from h) (by omega) | exact absurd (show n + 2 = n from h) (by omega) | exact absurd (show n + 2 = n + 1 from h) (by omega) | exact absurd (show n + 3 = n from h) (by omega) | exact absurd (show n + 3 = n + 1 from h) (by omega) | exact absurd (show n = n + 1 from h) (by omega))
theorem turn_zip {J1 J2 : It} {z TI TO i1 i2 : Addr} {st1 st2 : Nat → Heap → Prop} (D : ZipAp z TI TO i1 i2) (S1 : Src P w K J1 i1 st1) (S2 : Src P w K J2 i2 st2) {elts : List Expr} {kk : Nat} {tpos : Pos} :
    Turn P w K (.Tuple elts kk tpos) (ItZ J1 J2) [z, TI, TO, i1, i2] z (fun i h => IsZip h z TI TO .none ∧ IsPair h TI (.ref i1) (.ref i2) ∧ (∃ a b, IsPair h TO a b) ∧ st1 i h ∧ st2 i h) where
  mem := by simp
  obj := fun i h ⟨hz, hTI, ⟨a, b, hTO⟩, h1, h2⟩ c hc => by
    simp only [List.mem_cons, List.not_mem_nil, or_false] at hc
    rcases hc with e | e | e | e | e
    · rw [e]; exact ⟨_, hz, fun v z => by simp at z⟩
    · rw [e]; exact ⟨_, hTI, fun v z => by simp at z⟩
    · rw [e]; exact ⟨_, hTO, fun v z => by simp at z⟩
    · rw [e]; exact S1.obj i h h1
    · rw [e]; exact S2.obj i h h2
  keep := fun i h h' ⟨hz, hTI, ⟨a, b, hTO⟩, h1, h2⟩ k => ⟨k z (by simp) _ hz, k TI (by simp) _ hTI, ⟨a, b, k TO (by simp) _ hTO⟩, S1.keep i h h' h1 (k i1 (by simp)), S2.keep i h h' h2 (k i2 (by simp))⟩
  item := by
    intro X hP hw hK hc i pins s σ H E I hf st hg
    subst hP hw hK
    obtain ⟨hz, hTI, ⟨a, b, hTO⟩, h1, h2⟩ := st
    have ty : s.TypeIs (.ref z) "zip" := ⟨_, hz, rfl⟩
    have tz : ∀ {s' : Shared} {H' : Hp} {h' : Heap} {t' : Nat} {it : Addr}, it ∈ [z, TI, TO, i1, i2] → H' it = none → Inv X pins σ H' s' → Heap.SameBut it s'.heap h' → Inv X pins σ H' { s' with heap := h', toks := t' } := fun {s' H' h' t' it} hm hn I' sb => by
      obtain ⟨f0, f1, f2, f3, f4, f5⟩ := hf it hm
      exact I'.turned (fun b o hb e => (sb.2 b hb).trans e) hn f1 f3 f4 f5
    have fz := (hf z (by simp)).1
    refine wpAny_bind (wpAny_attempt (wpAny_callSpecial?_slot (name := Str.ofString "__next__") ty F.slot_zip_next (wpAny_call_entry F.slot_zip_next ty F.entry_zip_next (zip_draws hz hTI fun u1 q1 k1 => ?_) (F.args_zip_next_1 _))))
    have I1 : Inv X pins σ H { s with heap := u1 } := tz (t' := s.toks) (by simp) fz I k1
    refine S1.item X rfl rfl rfl _ i pins { s with heap := u1 } σ H _ _ I1 (S1.keep i _ _ h1 fun o e => k1.extBut _ _ D.i1z e) hg.1 fun x ux u2 t2 rx y1 st1' k2 => ⟨a, b, k2.extBut _ _ D.TOi1 (k1.extBut _ _ D.TOz hTO), fun u3 p3 k3 => ?_⟩
    have I2 : Inv X pins σ H { s with heap := u2, toks := t2 } := tz (it := i1) (s' := { s with heap := u1 }) (by simp) (hf i1 (by simp)).1 I1 k2
    have I3 : Inv X pins σ H { s with heap := u3, toks := t2 } := tz (it := TO) (s' := { s with heap := u2, toks := t2 }) (by simp) (hf TO (by simp)).1 I2 k3
    refine S2.item X rfl rfl rfl _ i pins { s with heap := u3, toks := t2 } σ H _ _ I3 (S2.keep i _ _ h2 fun o e => k3.extBut _ _ D.TOi2.symm (k2.extBut _ _ D.i12.symm (k1.extBut _ _ D.i2z e))) hg.2 fun y uy u4 t4 ry y2 st2' k4 => ⟨k4.extBut _ _ D.TOi2 p3, fun u5 p5 k5 => ?_⟩
    have I4 : Inv X pins σ H { s with heap := u4, toks := t4 } := tz (it := i2) (s' := { s with heap := u3, toks := t2 }) (by simp) (hf i2 (by simp)).1 I3 k4
    have I5 : Inv X pins σ H { s with heap := u5, toks := t4 } := tz (it := TO) (s' := { s with heap := u4, toks := t4 }) (by simp) (hf TO (by simp)).1 I4 k5
    have all : ∀ c o, c ≠ z → c ≠ TO → c ≠ i1 → c ≠ i2 → s.heap.get? c = some o → u5.get? c = some o := fun c o n1 n2 n3 n4 e => k5.extBut _ _ n2 (k4.extBut _ _ n4 (k3.extBut _ _ n2 (k2.extBut _ _ n3 (k1.extBut _ _ n1 e))))
    have q5 : IsZip u5 z TI TO .ellipsis := k5.extBut _ _ D.TOz.symm (k4.extBut _ _ D.i2z.symm (k3.extBut _ _ D.TOz.symm (k2.extBut _ _ D.i1z.symm q1)))
    refine ⟨q5, fun u7 u8 k7 k8 q8 => ⟨_, rfl, wpAny_pure ⟨_, rfl, wpAny_letOwnedTupleGo_zip q8 fun u9 q9 k9 => ?_⟩⟩⟩
    have lt : ∀ c ∈ [z, TI, TO, i1, i2], c < u5.objs.size := fun c hc => by
      simp only [List.mem_cons, List.not_mem_nil, or_false] at hc
      rcases hc with e | e | e | e | e
      · rw [e]; exact Heap.lt_size q5
      · rw [e]; exact Heap.lt_size (all _ _ D.TIz D.TITO D.TIi1 D.TIi2 hTI)
      · rw [e]; exact Heap.lt_size p5
      · rw [e]; obtain ⟨o, eo, _⟩ := S1.obj _ _ st1'; exact Heap.lt_size (k5.extBut _ _ D.TOi1.symm (k4.extBut _ _ D.i12 (k3.extBut _ _ D.TOi1.symm eo)))
      · rw [e]; obtain ⟨o, eo, _⟩ := S2.obj _ _ st2'; exact Heap.lt_size (k5.extBut _ _ D.TOi2.symm eo)
    have nT : u5.get? u5.objs.size = none := Heap.get?_none_of_le (Nat.le_refl _)
    have I6 : Inv X pins σ (upd H u5.objs.size (.tup [x, y])) { s with heap := u5.push { cls := .type "tuple", data := .seq #[ux, uy] }, toks := t4 } :=
      inv_new (s := { s with heap := u5, toks := t4 }) I5 (fun b u e => Heap.get?_push_of_some _ e) nT ⟨by show 2 ≤ sizeLine; decide, [ux, uy], .cons rx (.cons ry .nil), _, Heap.get?_push_size _ rfl, rfl, _, rfl⟩
    have nz : (upd H u5.objs.size (.tup [x, y])) z = none := by rw [upd_ne (Nat.ne_of_lt (lt z (by simp)))]; exact fz
    have I7 : Inv X pins σ (upd H u5.objs.size (.tup [x, y])) { s with heap := u7, toks := t4 } := tz (it := z) (s' := { s with heap := u5.push { cls := .type "tuple", data := .seq #[ux, uy] }, toks := t4 }) (by simp) nz I6 k7
    have I8 : Inv X pins σ (upd H u5.objs.size (.tup [x, y])) { s with heap := u8, toks := t4 } := tz (it := z) (s' := { s with heap := u7, toks := t4 }) (by simp) nz I7 k8
    have I9 : Inv X pins σ (upd H u5.objs.size (.tup [x, y])) { s with heap := u9, toks := t4 } := tz (it := z) (s' := { s with heap := u8, toks := t4 }) (by simp) nz I8 k9
    have up : ∀ c o, c ≠ z → u5.get? c = some o → u9.get? c = some o := fun c o n e => k9.extBut _ _ n (k8.extBut _ _ n (k7.extBut _ _ n (Heap.get?_push_of_some _ e)))
    refine ⟨.ref u5.objs.size, _, I9, rfl, ⟨u5.objs.size, x, y, y1, y2, rfl, inv_none I5 nT, rfl⟩, ⟨q9, up _ _ D.TIz (all _ _ D.TIz D.TITO D.TIi1 D.TIi2 hTI), ⟨_, _, up _ _ D.TOz p5⟩,
      S1.keep _ _ _ st1' fun o e => up _ o D.i1z (k5.extBut _ _ D.TOi1.symm (k4.extBut _ _ D.i12 (k3.extBut _ _ D.TOi1.symm e))), S2.keep _ _ _ st2' fun o e => up _ o D.i2z (k5.extBut _ _ D.TOi2.symm e)⟩, fun c hc => ?_⟩
    rw [upd_ne (Nat.ne_of_lt (lt c hc))]
    exact (hf c hc).1
  done := by
    intro X hP hw hK hc i pins s σ H E I hf st hg
    subst hP hw hK
    obtain ⟨hz, hTI, ⟨a, b, hTO⟩, h1, h2⟩ := st
    have hh : X.A.in1.handled = none := I.ok.hd hc
    have ty : s.TypeIs (.ref z) "zip" := ⟨_, hz, rfl⟩
    have tz : ∀ {s' : Shared} {h' : Heap} {t' : Nat} {it : Addr}, it ∈ [z, TI, TO, i1, i2] → Inv X pins σ H s' → (∀ b o, b ≠ it → s'.heap.get? b = some o → h'.get? b = some o) → Inv X pins σ H { s' with heap := h', toks := t' } := fun {s' h' t' it} hm I' sb => by
      obtain ⟨f0, f1, f2, f3, f4, f5⟩ := hf it hm
      exact I'.turned sb f0 f1 f3 f4 f5
    have same : ∀ {it : Addr} {g h : Heap}, Heap.SameBut it g h → ∀ b o, b ≠ it → g.get? b = some o → h.get? b = some o := fun sb b o hb e => (sb.2 b hb).trans e
    refine wpAny_bind (wpAny_attempt (wpAny_callSpecial?_slot (name := Str.ofString "__next__") ty F.slot_zip_next (wpAny_call_entry F.slot_zip_next ty F.entry_zip_next (zip_draws hz hTI fun u1 q1 k1 => ?_) (F.args_zip_next_1 _))))
    have I1 : Inv X pins σ H { s with heap := u1 } := tz (it := z) (t' := s.toks) (by simp) I (same k1)
    have st1 := S1.keep i _ _ h1 fun o e => k1.extBut _ _ D.i1z e
    have ended : ∀ {g : Heap} {tk : Nat} {e : Addr}, Inv X pins σ H { s with heap := g, toks := tk } → IsZip g z TI TO .ellipsis → (∃ o, g.get? e = some o ∧ o.cls = .type "StopIteration") → IsZip g z TI TO .ellipsis ∧ ∀ g5, Heap.SameBut z g g5 →
        wpAny (model X.prog X.w) X.A ((do if ← isInstance (.ref e) (.type "StopIteration") then return none else throw (.ref e)) : Sem (Option Value)) (fun r s1 => r = none ∧ Inv X pins σ H s1) E { s with heap := g5, toks := tk } := fun {g tk e} I' q ⟨o, eo, co⟩ => ⟨q, fun g5 k5 => by
      have ne : e ≠ z := fun y => by rw [y, q] at eo; cases eo; simp at co
      exact wpAny_bind (wpAny_isInstance (T := "StopIteration") (b := true) ⟨o, k5.extBut _ _ ne eo, co⟩ isSubtype_stop (wpAny_pure ⟨rfl, tz (it := z) (s' := { s with heap := g, toks := tk }) (by simp) I' (same k5)⟩))⟩
    rcases hg with e1 | ⟨g1, e2⟩
    · exact S1.done X rfl rfl rfl _ hh i pins { s with heap := u1 } σ H _ _ I1 st1 e1 fun u2 e k2 he => ended (tk := s.toks) (tz (it := i1) (s' := { s with heap := u1 }) (by simp) I1 k2) (k2 _ _ D.i1z.symm q1) he
    · refine S1.item X rfl rfl rfl _ i pins { s with heap := u1 } σ H _ _ I1 st1 g1 fun x ux u2 t2 rx y1 st1' k2 => ⟨a, b, k2.extBut _ _ D.TOi1 (k1.extBut _ _ D.TOz hTO), fun u3 p3 k3 => ?_⟩
      have I2 : Inv X pins σ H { s with heap := u2, toks := t2 } := tz (it := i1) (s' := { s with heap := u1 }) (by simp) I1 (same k2)
      have I3 : Inv X pins σ H { s with heap := u3, toks := t2 } := tz (it := TO) (s' := { s with heap := u2, toks := t2 }) (by simp) I2 (same k3)
      refine S2.done X rfl rfl rfl _ hh i pins { s with heap := u3, toks := t2 } σ H _ _ I3 (S2.keep i _ _ h2 fun o e => k3.extBut _ _ D.TOi2.symm (k2.extBut _ _ D.i12.symm (k1.extBut _ _ D.i2z e))) e2 fun u4 e k4 he => ?_
      exact ended (tk := t2) (tz (it := i2) (s' := { s with heap := u3, toks := t2 }) (by simp) I3 k4) (k4 _ _ D.i2z.symm (k3.extBut _ _ D.TOz.symm (k2.extBut _ _ D.i1z.symm q1))) he
  self := fun _ _ _ _ _ st h => wpAny_pyIter_zip st.1 h

/-! the call of zip -/
inductive SrcV (h : Heap) : Value → Obj → Prop where
  | list {l : Addr} {xs : Array Value} (e : h.IsList l xs) : SrcV h (.ref l) { cls := .type "list_iterator", data := .fields #[.ref l, .int 0 0] }
  | tup {l : Addr} {xs : Array Value} (e : h.IsTuple l xs) : SrcV h (.ref l) { cls := .type "tuple_iterator", data := .fields #[.ref l, .int 0 0] }
  | str (y : Str) (t : Tok) : SrcV h (.str y t) (strItO y t)
theorem SrcV.keep {h h' : Heap} {u : Value} {o : Obj} (x : SrcV h u o) (k : ∀ b o, h.get? b = some o → h'.get? b = some o) : SrcV h' u o := by
  cases x with
  | list e => exact .list (e.at fun o q => k _ o q)
  | tup e => obtain ⟨o, e, r⟩ := e; exact .tup ⟨o, k _ _ e, r⟩
  | str y t => exact .str y t
theorem pyIter_src {A : Around} {E : Value → Shared → Prop} {s : Shared} {u : Value} {o : Obj} {Q : Value → Shared → Prop} (x : SrcV s.heap u o) (h : Q (.ref s.heap.objs.size) { s with heap := s.heap.push o }) : wpAny (model P w) A (pyIter u) Q E s := by
  cases x with
  | list e => exact wpAny_pyIter_list e h
  | tup e => exact wpAny_pyIter_tuple e h
  | str y t => exact pyIter_str' h
abbrev zA (h : Heap) (o1 : Obj) : Heap := h.push o1
abbrev zB (h : Heap) (o1 o2 : Obj) : Heap := (zA h o1).push o2
abbrev zC (h : Heap) (o1 o2 : Obj) : Heap := (zB h o1 o2).push { cls := .type "tuple", data := .seq #[.ref h.objs.size, .ref (zA h o1).objs.size] }
abbrev zD (h : Heap) (o1 o2 : Obj) : Heap := (zC h o1 o2).push { cls := .type "tuple", data := .seq #[.none, .none] }
abbrev zE (h : Heap) (o1 o2 : Obj) : Heap := (zD h o1 o2).push { cls := .type "zip", data := .fields #[.none, .bool false, .bool false, .ref (zB h o1 o2).objs.size, .ref (zC h o1 o2).objs.size] }
/-- a zip has been made over h: its five objects in g -/
structure Zipped (h g : Heap) (o1 o2 : Obj) (z TI TO i1 i2 : Addr) : Prop where
  zip : IsZip g z TI TO .none
  ins : IsPair g TI (.ref i1) (.ref i2)
  outs : IsPair g TO .none .none
  one : g.get? i1 = some o1
  two : g.get? i2 = some o2
  keep : ∀ c o, h.get? c = some o → g.get? c = some o
  young : ∀ c ∈ [z, TI, TO, i1, i2], h.objs.size ≤ c
  ap : ZipAp z TI TO i1 i2
theorem zipped (h : Heap) {o1 o2 : Obj} (n1 : o1.isFreed = false) (n2 : o2.isFreed = false) : Zipped h (zE h o1 o2) o1 o2 (zD h o1 o2).objs.size (zB h o1 o2).objs.size (zC h o1 o2).objs.size h.objs.size (zA h o1).objs.size := by
  have up : ∀ {g : Heap} {a : Addr} {o u : Obj}, g.get? a = some o → (g.push u).get? a = some o := fun e => Heap.get?_push_of_some _ e
  have at_ : ∀ {g : Heap} {o : Obj}, o.isFreed = false → (g.push o).get? g.objs.size = some o := fun e => Heap.get?_push_size _ e
  have sA : (zA h o1).objs.size = h.objs.size + 1 := Heap.size_push ..
  have sB : (zB h o1 o2).objs.size = h.objs.size + 2 := by rw [Heap.size_push, sA]
  have sC : (zC h o1 o2).objs.size = h.objs.size + 3 := by rw [Heap.size_push, sB]
  have sD : (zD h o1 o2).objs.size = h.objs.size + 4 := by rw [Heap.size_push, sC]
  refine ⟨at_ rfl, up (up (at_ rfl)), up (at_ rfl), up (up (up (up (at_ n1)))), up (up (up (at_ n2))), fun c o e => up (up (up (up (up e)))), fun c hc => ?_, ?_⟩
  · rw [sA, sB, sC, sD] at hc
    simp only [List.mem_cons, List.not_mem_nil, or_false] at hc
    rcases hc with e | e | e | e | e <;> (rw [e]; first | exact Nat.le_add_right _ _ | exact Nat.le_refl _)
  · rw [sA, sB, sC, sD]
    exact zipAp_of _
theorem meets_zip_src (u1 u2 : Value) (o1 o2 : Obj) :
    Meets (Builtin.«zip.__new__» ⟨[.type "zip", u1, u2], []⟩) (fun _ R s => SrcV s.heap u1 o1 ∧ SrcV s.heap u2 o2 ∧ R (.ok (.ret (.ref (zD s.heap o1 o2).objs.size))) { s with heap := zE s.heap o1 o2 }) :=
  .of_wp fun prog w A R s ⟨x1, x2, r⟩ => by
    obtain ⟨hp, g, d, tk, os⟩ := s
    have hsub := sub_zip
    have L1 : SrcV (Shared.heap ⟨hp, g, d, tk, os⟩) u1 o1 := x1
    have L2 : SrcV (Shared.heap ⟨hp.push o1, g, d, tk, os⟩) u2 o2 := x2.keep fun b o e => Heap.get?_push_of_some _ e
    wp_walk using pyIter_src L1, pyIter_src L2
    exact ⟨_, rfl, r⟩
theorem call_zip_src {A : Around} {E : Value → Shared → Prop} {s : Shared} {u1 u2 : Value} {o1 o2 : Obj} {Q : Value → Shared → Prop} (x1 : SrcV s.heap u1 o1) (x2 : SrcV s.heap u2 o2) (n1 : o1.isFreed = false) (n2 : o2.isFreed = false)
    (k : ∀ g z TI TO i1 i2, Zipped s.heap g o1 o2 z TI TO i1 i2 → Q (.ref z) { s with heap := g }) : wpAny (model P w) A (call (.type "zip") [u1, u2]) Q E s :=
  callType_new F.called_zip (by decide) (F.typeCall_zip_2 u1 u2) (F.newCall_zip_2 u1 u2) (fun obj => F.args_object_init_3 obj u1 u2) F.entry_zip_new (meets_zip_src u1 u2 o1 o2) ⟨x1, x2, ⟨_, (zipped s.heap n1 n2).zip, rfl⟩, k _ _ _ _ _ _ (zipped s.heap n1 n2)⟩
end
/-- what a zip may walk, as it stands in the abstract heap -/
inductive SrcOf (K : PySem.W.Frag) (H : Hp) : V → It → Prop where
  | list {a : Addr} {xs : List V} (h : SqL K H a xs) : SrcOf K H (.ref a) (Itl K a)
  | tup {a : Addr} {xs : List V} (h : SqT K H a xs) : SrcOf K H (.ref a) (Itt K a)
  | str (y : Str) : SrcOf K H (.str y) (Itf (vsigns y))
section
variable {X : Cx}
theorem src_of {pins : List (Addr × Obj)} {σ : L2.St} {H : Hp} {s : Shared} {v : V} {J : It} {u : Value} (I : Inv X pins σ H s) (x : SrcOf X.K H v J) (r : RelV v u) : ∃ o, SrcV s.heap u o ∧ o.isFreed = false ∧ ∀ it h', h'.get? it = some o → ∃ st, Src X.prog X.w X.K J it st ∧ st 0 h' := by
  cases x with
  | list h =>
    cases r
    obtain ⟨its, rv, p, hz⟩ := I.list h
    exact ⟨_, .list p.isList, rfl, fun it h' e => ⟨_, src_list _ it, _, e, rfl, rfl⟩⟩
  | tup h =>
    cases r
    obtain ⟨its, rv, p, hz⟩ := I.tuple h
    exact ⟨_, .tup (show s.heap.IsTuple _ its.toArray from p), rfl, fun it h' e => ⟨_, src_tuple _ it, _, e, rfl, rfl⟩⟩
  | str y =>
    obtain ⟨t, rfl⟩ := r
    exact ⟨_, .str y t, rfl, fun it h' e => ⟨_, src_str y t it, _, e, rfl, rfl⟩⟩
def iZip (K : PySem.W.Frag) (ta : TA) : TI := fun σ H R => ta σ H fun vs H1 => ∃ u v J1 J2, vs = [u, v] ∧ SrcOf K H1 u J1 ∧ SrcOf K H1 v J2 ∧ R (ItZ J1 J2) H1
theorem pi_zip {a b : Expr} {ta : TA} {p pos : Pos} {elts : List Expr} {kk : Nat} {tpos : Pos} (hg : Gl X "zip") (hm : X.mg "zip" = none) (ha : PA X [a, b] ta) (hs : starEach [a, b] X.env = [(false, eval a X.env), (false, eval b X.env)] := by rfl) (hs2 : starEach [b] X.env = [(false, eval b X.env)] := by rfl) :
    PI X (.Tuple elts kk tpos) (.Call (.Name "zip" p) [a, b] [] pos) (iZip X.K ta) := by
  constructor; intro pins s σ H R I h
  refine Call_ (ld_blt I hg hm boot_zip (PyProof.Rows.callWith_type1 (thn (ha pos pins s σ H _ I h) fun us s1 ⟨vs, H1, I1, r1, q1⟩ => ?_) (by rw [hs, hs2]) (by rw [hs2]; rfl)))
  obtain ⟨x, y, J1, J2, rfl, x1, x2, q⟩ := q1
  obtain ⟨u, w', rfl, ru, rw'⟩ := vals2 r1
  obtain ⟨o1, v1, n1, k1⟩ := src_of I1 x1 ru
  obtain ⟨o2, v2, n2, k2⟩ := src_of I1 x2 rw'
  refine call_zip_src v1 v2 n1 n2 fun g z TI TO i1 i2 Z => ?_
  obtain ⟨st1, S1, t1⟩ := k1 _ _ Z.one
  obtain ⟨st2, S2, t2⟩ := k2 _ _ Z.two
  have I2 : Inv X pins σ H1 { s1 with heap := g } := I1.kept (t' := s1.toks) Z.keep
  exact wpAny_pyIter_zip (s := { s1 with heap := g }) Z.zip ⟨z, [z, TI, TO, i1, i2], _, ItZ J1 J2, H1, rfl, I2, turn_zip Z.ap S1 S2, ⟨Z.zip, Z.ins, ⟨_, _, Z.outs⟩, t1, t2⟩, fun b hb => I1.fpOk (Z.young b hb) (I1.hok.fresh (Z.young b hb)), q⟩
end
/-- what a source gives -/
structure Gives (J : It) (H : Hp) (xs : List V) : Prop where
  go : ∀ i, i < xs.length → J.go i H
  stop : ∀ i, xs.length ≤ i → J.stop i H
  yld : ∀ i x H', J.yld i H x H' → xs[i]? = some x
theorem gives_list {K : PySem.W.Frag} {H : Hp} {a : Addr} {xs : List V} (h : SqL K H a xs) : Gives (Itl K a) H xs := ⟨fun i hi => ⟨xs, xs[i], h, by simp [hi]⟩, fun i hi => ⟨xs, h, hi⟩, fun i x H' y => y.2 xs h⟩
theorem for_zip {J1 J2 : It} {xs ys : List V} {g : TG} {tb : TS} {D : Ends} {σ : L2.St} {H : Hp} (Pv : Nat → L2.St → Hp → Prop) (h0 : Pv 0 σ H) (hl : ∀ i σ H, Pv i σ H → Gives J1 H xs ∧ Gives J2 H ys)
    (hs : ∀ i x y σ H p, xs[i]? = some x → ys[i]? = some y → Pv i σ H → H p = none → g (.ref p) σ (upd H p (.tup [x, y])) fun σ2 H2 => tb { D with nx := Pv (i + 1), ct := Pv (i + 1), bk := D.nx } σ2 H2) (hd : ∀ σ H, Pv (min xs.length ys.length) σ H → D.nx σ H) :
    ∃ W : Nat → Nat → L2.St → Hp → Prop, (∃ m, W 0 m σ H) ∧ ∀ i m σ H, W i m σ H →
      ((ItZ J1 J2).stop i H ∧ D.nx σ H) ∨ ((ItZ J1 J2).go i H ∧ ∃ N : L2.St → Hp → Prop, (∀ σ' H', N σ' H' → ∃ m', m' < m ∧ W (i + 1) m' σ' H') ∧ ∀ x H', (ItZ J1 J2).yld i H x H' → g x σ H' fun σ2 H2 => tb { D with nx := N, ct := N, bk := D.nx } σ2 H2) := by
  refine ⟨fun i m σ H => m = min xs.length ys.length - i ∧ i ≤ min xs.length ys.length ∧ Pv i σ H, ⟨min xs.length ys.length, by simp, Nat.zero_le _, h0⟩, ?_⟩
  rintro i m σ H ⟨rfl, hi, p⟩
  obtain ⟨G1, G2⟩ := hl i σ H p
  by_cases hlt : i < min xs.length ys.length
  · refine .inr ⟨⟨G1.go i (by omega), G2.go i (by omega)⟩, Pv (i + 1), fun σ' H' p' => ⟨min xs.length ys.length - (i + 1), by omega, rfl, hlt, p'⟩, fun v H' y => ?_⟩
    obtain ⟨q, x, y, y1, y2, rfl, hn, rfl⟩ := y
    exact hs i x y σ H q (G1.yld i x _ y1) (G2.yld i y _ y2) p hn
  · have e : i = min xs.length ys.length := by omega
    subst e
    refine .inl ⟨?_, hd σ H p⟩
    by_cases h : xs.length ≤ ys.length
    · exact .inl (G1.stop _ (by omega))
    · exact .inr ⟨G1.go _ (by omega), G2.stop _ (by omega)⟩
end My
/-! ### figures of a text: in, index; more of isinstance -/
namespace My
open PySem PySem.Spec PyProof.Rows L2 PySem.NumText
section
variable {X : Cx}
end
section
variable {K : PySem.W.Frag}
end
/-- a text that a message may show -/
def Short (n : Nat) (x : Str) : Prop := x.length ≤ n ∧ ∀ c ∈ x.cps.toList, c < 16 ^ 8
theorem Short.mono {n m : Nat} {x : Str} (h : Short n x) (l : n ≤ m) : Short m x := ⟨Nat.le_trans h.1 l, h.2⟩
theorem slice_mem (x : Str) (lo hi : Option Int) : ∀ c ∈ (Txt.slice x lo hi).cps.toList, c ∈ x.cps.toList := by
  intro c hc
  unfold Txt.slice at hc
  split at hc
  · exact hc
  · have hc' : c ∈ (PySem.Builtin.Str.strSliceIndices lo hi 1 x.length).filterMap (x.cps[·]?) := hc
    obtain ⟨i, _, e⟩ := List.mem_filterMap.mp hc'
    rw [← Array.getElem?_toList] at e
    exact List.mem_of_getElem? e
theorem Short.slice {n : Nat} {x : Str} (h : Short n x) (lo hi : Option Int) : Short n (Txt.slice x lo hi) := ⟨Nat.le_trans (Txt.slice_le x _ _) h.1, fun c hc => h.2 c (slice_mem x lo hi c hc)⟩
theorem Short.one {c : Nat} (h : c < 16 ^ 8) : Short 1 ⟨#[c]⟩ := by
  refine ⟨Nat.le_refl _, fun d hd => ?_⟩
  have : d = c := by simpa using hd
  rw [this]
  exact h
theorem Short.num {n : Int} (h1 : -(10 ^ 30) < n) (h2 : n < 10 ^ 30) : Short 31 (Str.ofString (toString n)) := ⟨(num_text h1 h2).2.2.1, num_codes h1 h2⟩
theorem take_snoc {cs : List Nat} {i c : Nat} (h : cs[i]? = some c) : cs.take (i + 1) = cs.take i ++ [c] := by
  rw [List.take_succ, h]
  rfl
section
variable {X : Cx} {K : PySem.W.Frag}
end
end My
/-! ### [elt for target in iter], elt any expression that raises nothing -/
namespace My
open PySem PySem.Spec PyProof.Rows L2
section
variable {X : Cx} {pins : List (Addr × Obj)} {σ : L2.St} {H : Hp} {s : Shared} {scope : Scope} {N : List Str} {C : Addr} {ex : List Addr}
end
section
variable {X : Cx} {pins : List (Addr × Obj)} {σ : L2.St} {H : Hp} {s : Shared} {scope : Scope} {N : List Str} {target iter elt : Expr} {pos : Pos} {g : TG} {te : TE}
/-- behind the block: the caller's state -/
theorem comp_after {s' : Shared} {H' : Hp} {fp : List Addr} {C : Addr} (I : Inv X pins σ H s) (hf : ∀ b ∈ fp, FpOk X pins H b) (os : s'.os = s.os) (bare : AllBare s'.gens) (un : Un (frs X.stack) fp H H' s.heap s'.heap) (hok : HOk X.prog X.w H' s'.heap) (nC : H' C = none) (hC : s.heap.objs.size ≤ C) :
    Inv X pins σ H' s' ∧ FpOk X pins H' C :=
  ⟨I.call' os un hok bare fun b hb => let ⟨_, f1, _, f3, f4, f5⟩ := hf b hb; ⟨f3, f1, f4, f5⟩, I.fpOk hC nC⟩
theorem inv_but {H' : Hp} {C : Addr} {h' : Heap} (I : Inv X pins σ H' s) (f : FpOk X pins H' C) (k : Heap.SameBut C s.heap h') : Inv X pins σ H' { s with heap := h' } :=
  let ⟨f0, f1, _, f3, f4, f5⟩ := f
  I.turned (t' := s.toks) (fun b o hb e => (k.2 b hb).trans e) f0 f1 f3 f4 f5
end
end My
/-! ### texts cut at a sign and put together again: split, join -/
namespace My
open PySem PySem.Spec PyProof.Rows L2 PySem.Builtin.Str
section
variable {X : Cx}
end
/-- a callee that raises nothing here -/
theorem passF {P : Program} {w : World} {X : Cx} : Passes (CXW P w) X (fun _ _ _ => False) := fun _ _ _ _ _ _ _ h => by
  obtain ⟨_, _, _, _, _, _, _, _, _, _, _, _, _, _, _, _, z⟩ := h
  exact z.elim
end My
/-! ### a dict of the module: D.get(e) -/
namespace My
open PySem PySem.Spec PyProof.Rows L2
structure KDict (P : Program) (w : World) (K : PySem.W.Frag) (a : Addr) (kvs : List (Key × V)) : Prop where
  get : ∀ h : Heap, K.In h → ∃ vs, KV kvs vs ∧ h.DictOf (mixKind P w) a vs
  sys : (a == sysModules) = false
inductive KEnts (w : World) : List DictEntry → List (Str × V) → Prop where
  | nil : KEnts w [] []
  | cons {x : Str} {t : Tok} {v : V} {u : Value} {es : List DictEntry} {ps : List (Str × V)} (r : RelV v u) (q : KEnts w es ps) : KEnts w ({ hash := hashStr w x, key := .str x t, val := u } :: es) ((x, v) :: ps)
end My
/-! ### str of an int or a text; a comprehension over what stays -/
namespace My
open PySem PySem.Spec PyProof.Rows L2
end My
namespace My
open PySem PySem.Spec PyProof.Rows L2
end My
/-! ### own exceptions made and kept: C(e) of a class without an __init__ -/
namespace My
open PySem PySem.Spec PyProof.Rows L2
section
variable {X : Cx}
end
end My
/-! ### exceptions with an __init__ and fields: C(..) made, S.__init__(self, ..), self.x = .., e.x -/
namespace My
open PySem
section
variable {prog : Program} {w : World} {A : Around} {E : Value → Shared → Prop} {h : Heap} {g : Array GenState} {d : Drawn} {t : Nat} {os : OsState}
variable {nm q : Str} {C N : Addr} {bs bm bmB : List Value} {hdct : Bool} {sn : List Str} {sub : List Value} {ab : Bool} {col : Option Bool} {dd : Option Addr} {k0 k1 k2 k3 k5 : Option Value} {B newId initId : String}

/-- the bare exception right after __new__: its args and itself -/
def bareT (rest : List Value) : Obj := { cls := .type "tuple", data := .seq rest.toArray }
def bareE (h : Heap) (C : Addr) : Obj := { cls := .ref C, data := .fields #[.ref h.objs.size, .none, .none, .none, .bool false, .none] }
def bareH (h : Heap) (C : Addr) (rest : List Value) : Heap := (h.push (bareT rest)).push (bareE h C)
theorem bare_keeps {rest : List Value} {b : Addr} {o : Obj} (hb : h.get? b = some o) : (bareH h C rest).get? b = some o := Heap.get?_push_of_some _ (Heap.get?_push_of_some _ hb)
theorem bare_at {rest : List Value} : (bareH h C rest).get? (h.objs.size + 1) = some (bareE h C) := by unfold bareH bareE bareT; heap_get
theorem bare_made {rest : List Value} : Heap.MadeExcOf h (bareH h C rest) (h.objs.size + 1) (.ref C) rest :=
  ⟨fun _ _ hb => bare_keeps hb, Heap.get?_none_of_le (Nat.le_succ _), h.objs.size, bare_at, Heap.get?_none_of_le (Nat.le_refl _), Heap.get?_push_of_some _ (Heap.get?_push_at rfl rfl)⟩

theorem call_initT (F : ExcBaseFacts B newId initId bmB) (T : OwnTail h bmB bm) {rest : List Value} {fI : Addr} {Q : Value → Shared → Prop}
    {K : PySem.W.Frag} (X : K.In h) (hC : h.get? C = some (excClassObj nm q C N bs bm hdct sn sub ab col dd k0 k1 k2 k3 k5 newId)) (hi : PySem.W.findIn K (.ref C) "__init__" = some (some (.ref fI))) (hfc : PySem.W.typeIn K (.ref fI) = some (.type "function"))
    (hq : ∀ h' e, Heap.MadeExcOf h h' e (.ref C) rest → wpAny (model prog w) (A.under (.builtin "type.__call__" ⟨.ref C :: rest, []⟩)) (call (.ref fI) (.ref e :: rest)) (fun r s' => r = .none ∧ Q (.ref e) s') E ⟨h', g, d, t, os⟩)
    (hrest : rest.length ≤ sizeLine := by size_fits) : wpAny (model prog w) A (call (.ref C) rest) Q E ⟨h, g, d, t, os⟩ := by
  have l1 := tc_lookup
  have l2 := tc_bind (.ref C)
  have hT : (⟨h, g, d, t, os⟩ : Shared).TypeIs (.ref C) "type" := ⟨_, hC, rfl⟩
  refine wpAny_call (codeAny_of_tree ?_)
  show wpAny _ _ (callAny (.ref C) _) _ _ _
  repeat (any_goals (first | assumption | with_reducible refine wpAny_loadPart_at hC ?_ | wp_step))
  refine ⟨rfl, codeAny_call_builtin_at (Code.quiet_builtin _ (by decide +kernel)) entry_typeCall (wpAny_check_type_call_sub hC ?_)⟩
  repeat (first | with_reducible refine wpAny_loadPart_at hC ?_ | with_reducible refine wpAny_madeBy_exc hC ?_ | wp_step)
  refine codeAny_call_builtin_code (Code.quiet_builtin _ F.quiet) (wpAny_check_new_subT F T hC (codeAny_exc_new_subT F T hC ?_ hrest))
  show wpAny _ _ _ _ _ ⟨bareH h C rest, g, d, t, os⟩
  have hget : (bareH h C rest).get? (h.objs.size + 1) = some { cls := .ref C, data := .fields #[.ref h.objs.size, .none, .none, .none, .bool false, .none] } := bare_at
  have hC₁ := bare_keeps (C := C) (rest := rest) hC
  have hcC : (Value.ref C :: bm).contains (.ref C) = true := by simp
  unfold isInstance
  repeat (first | with_reducible refine wpAny_loadPart_at hget ?_ | (with_reducible refine wpAny_isSubtype_exc hC₁ ?_; rw [hcC]) | wp_step)
  show wpAny _ _ (typeLookup (.ref C) _) _ _ _
  have X₁ : K.In (bareH h C rest) := X.keeps fun _ _ => bare_keeps
  refine (PySem.W.looks_findIn X₁ hi).at ?_
  refine wpAny_holding (wpAny_bind ?_)
  unfold bindSpecial
  refine wpAny_bind ((PySem.W.looks_typeIn X₁ hfc).at ?_)
  rw [if_pos (by decide)]
  refine wpAny_pure (wpAny_bind (wpAny_mono (hq _ _ bare_made) (fun r s' ⟨hr, hQ⟩ => ?_) fun _ _ x => x))
  subst hr
  wp_walk
  exact hQ
end
end My
namespace My
open PySem PySem.Spec PyProof.Rows L2
abbrev mroVE : List Value := [.type "ValueError", .type "Exception", .type "BaseException", .type "object"]
/-- the object at C is a class under ValueError, those between without an __init__ -/
def ExcCl (K : PySem.W.Frag) (C : Addr) : Prop := ∃ bm N nm qn bs hd sn sub ab col dd k0 k1 k2 k3 k5, K.lookup C = some (excClassObj nm qn C N bs bm hd sn sub ab col dd k0 k1 k2 k3 k5 "ValueError.__new__") ∧ ∀ h, K.In h → OwnTail h mroVE bm
theorem excCl_mk {K : PySem.W.Frag} {C S N : Addr} {nm qn : Str} {bs : List Value} {hd : Bool} {sn : List Str} {sub : List Value} {ab : Bool} {col : Option Bool} {dd : Option Addr} {k0 k1 k2 k3 k5 : Option Value}
    (lk : K.lookup C = some (excClassObj nm qn C N bs (.ref S :: mroVE) hd sn sub ab col dd k0 k1 k2 k3 k5 "ValueError.__new__")) (q : PySem.W.excIn K S mroVE "ValueError.__new__" = true) : ExcCl K C :=
  ⟨_, _, _, _, _, _, _, _, _, _, _, _, _, _, _, _, lk, fun _ X => let ⟨_, _, _, _, _, _, _, _, _, _, _, _, _, _, _, _, _, hS, hN, hni, _⟩ := exc_obj X q; .own hS hN hni .base⟩
theorem excCls_obj {K : PySem.W.Frag} {h : Heap} {C : Addr} (X : K.In h) (q : ExcCl K C) :
    ∃ bm N nm qn bs hd sn sub ab col dd k0 k1 k2 k3 k5, h.get? C = some (excClassObj nm qn C N bs bm hd sn sub ab col dd k0 k1 k2 k3 k5 "ValueError.__new__") ∧ OwnTail h mroVE bm := by
  obtain ⟨bm, N, nm, qn, bs, hd, sn, sub, ab, col, dd, k0, k1, k2, k3, k5, lk, tl⟩ := q
  exact ⟨bm, N, nm, qn, bs, hd, sn, sub, ab, col, dd, k0, k1, k2, k3, k5, X _ _ lk, tl h X⟩
section
variable {prog : Program} {w : World} {A : Around} {E : Value → Shared → Prop} {h : Heap} {g : Array GenState} {d : Drawn} {t : Nat} {os : OsState} {a C : Addr} {ox : Obj} {od : Option Obj} {K : PySem.W.Frag} {name : Str} {v : Value}
/-- what a store on an exception of the class at C asks of the class -/
structure ExcW (K : PySem.W.Frag) (C : Addr) : Prop where
  sa : PySem.W.findIn K (.ref C) "__setattr__" = some (some (.builtin "object.__setattr__"))
  hd : PySem.W.hasDictIn K C = true
  mO : PySem.W.mroIn K C (.type "object") = some true
  tl : ExcCl K C
theorem refuse_tail {self : Value} {what : Str} {bmB : List Value} (hp : refuseLoop self what bmB = pure ()) : ∀ {l : List Value}, OwnTail h bmB l → refuseLoop self what l = pure ()
  | _, .base => hp
  | _, .own _ _ _ T => (refuseLoop_ref _ _ _ _).trans (refuse_tail hp T)
theorem xs_open {s : Shared} {R : Result → Shared → Prop} {tk : Tok} (X : K.In s.heap) (T : ExcW K C) (I : PySem.W.InstAt s.heap a ox C od) (ht : PySem.W.findIn K (.ref C) name = some none)
    (hq : wpAny (model prog w) A.in1 (Builtin.ObjectAttr.storeInOwnDict (.ref a) (.ref C) (.str name tk) name v false)
      (fun fin s' => match fin with | .done f => R (.ok f) s' | .again c' => c'.quiet = true ∧ codeAny (model prog w) A c' R s') (fun e s' => R (.error e) s') s) :
    codeAny (model prog w) A (.call (.builtin "object.__setattr__") ⟨[.ref a, .str name tk, v], []⟩) R s := by
  have SF := PySem.F.store_ValueError
  obtain ⟨bm, Nn, nm, qn, bs, hdc, sn, sub', ab, col, dd, k0, k1, k2, k3, k5, lk, tl⟩ := T.tl
  have sub : PySem.W.Looks (model prog w) s.heap (isInstance (.ref a) (.type "object")) true := I.type.andThen (PySem.W.looks_mroIn X T.mO)
  refine codeAny_call_builtin SF.slot.plain SF.entry (@PySem.W.check_slot (model prog w) _ _ s "object.__setattr__" "object" "__setattr__" (.ref a) [.str name tk, v] [] _ SF.kind SF.split sub (SF.args (.ref a) (.str name tk) v) ?_)
  have hm : PySem.W.Looks (model prog w) s.heap (mroOf (.ref C)) (.ref C :: bm) := (PySem.W.looks_clsIn X (by unfold PySem.W.clsIn; rw [lk])).andThen .now
  rw [PySem.W.osa_eq, refuse_eq]
  refine wpAny_bind (wpAny_bind (I.type.here (wpAny_bind (hm.here ?_))))
  rw [refuseLoop_ref, refuse_tail (SF.passes _) (tl _ X)]
  exact wpAny_pure (wpAny_bind (I.type.here (wpAny_bind ((PySem.W.looks_findIn X ht).here (wpAny_bind (wpAny_pure hq))))))
end
end My
namespace My
open PySem PySem.Spec PyProof.Rows L2
def IsExcF (a C : Addr) (d : Option Addr) (h : Heap) : Prop := ∃ o, h.get? a = some o ∧ o.cls = .ref C ∧ o.dict = d ∧ ∃ vs t0, o.data = .fields vs ∧ vs[0]? = some (.ref t0) ∧ vs[1]? = some .none
abbrev IsExcD (a C dx : Addr) (h : Heap) : Prop := IsExcK a C (some dx) h
def IsXD (dx : Addr) (fs : List (Str × V)) (h : Heap) : Prop := fs.length ≤ 1000 ∧ ∃ mA, h.Ns1 dx mA ∧ ∀ f, RelO (fs.lookup f) (mA f)
/-- an exception of the class at C that was not raised yet, its dict d; one with a dict at dx; the dict of one -/
abbrev excF (a C : Addr) (d : Option Addr) : HO := .ext (IsExcF a C d)
abbrev xdO (dx : Addr) (fs : List (Str × V)) : HO := .ext (IsXD dx fs)
section
variable {P : Program} {w : World} {H : Hp} {h : Heap} {a C dx : Addr} {fs : List (Str × V)}
theorem excF_ok {d : Option Addr} (e : IsExcF a C d h) : ObjOk P w H h a (excF a C d) := ⟨e, let ⟨o, q, _⟩ := e; ⟨o, q⟩, fun _ _ ⟨o, q, r⟩ k => ⟨o, k o q, r⟩⟩
theorem IsExcF.any {h : Heap} (e : IsExcF a C (some dx) h) : IsExcD a C dx h := let ⟨o, q, c, d, vs, t0, x, _⟩ := e; ⟨o, q, c, by unfold PySem.W.notCls; rw [x], d⟩
theorem xdO_ok (e : IsXD dx fs h) : ObjOk P w H h dx (xdO dx fs) := ⟨e, let ⟨_, _, ⟨o, _, _, q, _⟩, _⟩ := e; ⟨o, q⟩, fun _ _ ⟨l, m, n, r⟩ k => ⟨l, m, n.at k, r⟩⟩
theorem within_rel {mA : Str → Option Value} (r : ∀ f, RelO (fs.lookup f) (mA f)) : PySem.Within mA (fs.map (·.1)) := by
  intro f hf
  have q := r f
  cases e : fs.lookup f with
  | none => rw [e] at q; exact absurd (RelO.none_of q) hf
  | some v =>
    clear q r hf
    induction fs with
    | nil => cases e
    | cons p l ih =>
      obtain ⟨g, y⟩ := p
      rw [List.lookup_cons] at e
      cases z : (f == g) with
      | true => rw [show f = g from by simpa using z]; exact List.mem_cons_self
      | false => rw [z] at e; exact List.mem_cons_of_mem _ (ih e)
end
section
variable {X : Cx} {pins : List (Addr × Obj)} {σ : L2.St} {H : Hp} {s : Shared} {a C dx : Addr} {fs : List (Str × V)} {A : Around} {E : Value → Shared → Prop} {f : Str} {y v : V} {u : Value}
theorem xset_next {φ : Heap → Prop} {Q : Unit → Shared → Prop} (I : Inv X pins σ H s) (e : H a = some (.ext φ)) (hφ : ∀ h, φ h → IsExcD a C dx h) (e' : H dx = some (xdO dx fs)) (c : ExcW X.K C) (n : PySem.W.findIn X.K (.ref C) f = some none) (hl : fs.length < 1000) (ry : RelV y u)
    (h : ∀ s', Inv X pins σ (upd H dx (xdO dx (putF f y fs))) s' → Q () s') : wpAny (model X.prog X.w) A (setAttr (.ref a) f u) Q E s := by
  obtain ⟨o, ho, hc, hn, hd⟩ := hφ _ (show ObjOk X.prog X.w H s.heap a (.ext φ) from I.hok a _ e).1
  obtain ⟨_, mA, n1, r⟩ := (show ObjOk X.prog X.w H s.heap dx (xdO dx fs) from I.hok dx _ e').1
  obtain ⟨od, hod, _⟩ := lookIn_ns n1
  have J : PySem.W.InstAt s.heap a o C (some od) := ⟨ho, hc, hn, by rw [hd]; exact hod⟩
  refine PySem.W.set_plain I.kIn J c.sa (xs_open (s := { s with toks := s.toks + 1 }) I.kIn c J n ?_)
  obtain ⟨cd, hcd, hdd⟩ := PySem.W.any_some c.hd
  obtain ⟨oc, odi, oda, osl⟩ := o
  dsimp only at hc hd
  subst hc hd
  refine wpAny_bind (wpAny_pure (wpAny_bind (wpAny_bind (wpAny_loadPart ho (wpAny_bind (PySem.W.Looks.here (s := { s with toks := s.toks + 1 }) (PySem.W.looks_clsIn I.kIn hcd) ?_))))))
  rw [hdd]
  refine wpAny_pure (a := some dx) (wpAny_bind (wpAny_pure (wpAny_bind ?_)))
  refine wpAny_nsSet1 (s := { s with toks := s.toks + 1 }) n1 fun h' hn2 hs2 => ?_
  obtain ⟨oD, esD, epD, hoD, hdD, hcD⟩ := hn2.count (PySem.Within.cons f u (within_rel r))
  refine wpAny_bind (wpAny_lookBehind hoD (by rw [hdD]; exact pastItsLine_dict (Nat.le_trans hcD (by rw [List.length_cons, List.length_map, sizeLine_eq]; omega))) ?_)
  refine wpAny_pure (h _ (I.write (x := dx) (e := dx) (by rw [e']; exact True.intro) (.inl rfl) (fun b q hb z => (hs2.2 b hb).trans z) ⟨_, hoD⟩ (xdO_ok ⟨?_, _, hn2, fun g => ?_⟩)))
  · have := length_putF f y fs; omega
  · show RelO ((putF f y fs).lookup g) (if g = f then some u else mA g)
    rw [lookup_putF]
    by_cases q : g = f
    · rw [if_pos q, if_pos q]; exact ry
    · rw [if_neg q, if_neg q]; exact r g
theorem xset_first {Q : Unit → Shared → Prop} (I : Inv X pins σ H s) (e : H a = some (excF a C none)) (c : ExcW X.K C) (n : PySem.W.findIn X.K (.ref C) f = some none) (ry : RelV y u)
    (h : ∀ dx s', H dx = none → Inv X pins σ (upd (upd H a (excF a C (some dx))) dx (xdO dx [(f, y)])) s' → Q () s') : wpAny (model X.prog X.w) A (setAttr (.ref a) f u) Q E s := by
  obtain ⟨o, ho, hc, hd, vs, t0, hdat, h0, h1⟩ := (show ObjOk X.prog X.w H s.heap a (excF a C none) from I.hok a _ e).1
  have hn : PySem.W.notCls o = true := by unfold PySem.W.notCls; rw [hdat]
  have J : PySem.W.InstAt s.heap a o C none := ⟨ho, hc, hn, by rw [hd]; exact True.intro⟩
  refine PySem.W.set_plain I.kIn J c.sa (xs_open (s := { s with toks := s.toks + 1 }) I.kIn c J n ?_)
  obtain ⟨cd, hcd, hdd⟩ := PySem.W.any_some c.hd
  obtain ⟨oc, odi, oda, osl⟩ := o
  dsimp only at hc hd
  subst hc hd
  refine wpAny_bind (wpAny_pure (wpAny_bind (wpAny_bind (wpAny_loadPart ho (wpAny_bind (PySem.W.Looks.here (s := { s with toks := s.toks + 1 }) (PySem.W.looks_clsIn I.kIn hcd) ?_))))))
  rw [hdd]
  generalize hdx : s.heap.objs.size = dx
  have new : H dx = none := inv_none I (Heap.get?_none_of_le (Nat.le_of_eq hdx))
  have ne : a ≠ dx := fun z => by rw [z, new] at e; cases e
  have k1 : ∀ b q, s.heap.get? b = some q → (s.heap.push PySem.W.emptyDict).get? b = some q := fun b q z => Heap.get?_push_of_some _ z
  have d1 : (s.heap.push PySem.W.emptyDict).get? dx = some PySem.W.emptyDict := hdx ▸ Heap.get?_push_size s.heap rfl
  have m1 : (s.heap.push PySem.W.emptyDict).Ns1 dx (fun _ => none) := Heap.Ns1.of_empty ⟨_, #[], _, d1, rfl, fun e he => absurd he (by simp), fun _ => rfl⟩
  have I1 : Inv X pins σ (upd H dx (xdO dx [])) { s with heap := s.heap.push PySem.W.emptyDict, toks := s.toks + 1 } :=
    I.laid (a := dx) k1 (Nat.le_of_eq hdx) (xdO_ok ⟨Nat.zero_le _, _, m1, fun _ => True.intro⟩)
  let fD : Obj → Obj := fun o => { o with dict := some dx }
  have ho1 := k1 _ _ ho
  have a2 : ((s.heap.push PySem.W.emptyDict).update a fD).get? a = some ⟨.ref C, some dx, oda, osl⟩ := by
    refine Heap.get?_update_self _ ho1 ?_
    have hfr := (Heap.get?_some_iff.mp ho).2
    cases oda <;> first | rfl | exact hfr
  have k2 : ∀ b q, b ≠ a → (s.heap.push PySem.W.emptyDict).get? b = some q → ((s.heap.push PySem.W.emptyDict).update a fD).get? b = some q := fun b q hb z => (Heap.get?_update_ne _ _ _ _ hb).trans z
  have I2 : Inv X pins σ (upd (upd H dx (xdO dx [])) a (excF a C (some dx))) { s with heap := (s.heap.push PySem.W.emptyDict).update a fD, toks := s.toks + 1 } :=
    I1.write (x := a) (e := a) (by rw [upd_ne ne, e]; exact True.intro) (.inl rfl) k2 ⟨_, a2⟩ (excF_ok ⟨_, a2, rfl, rfl, vs, t0, hdat, h0, h1⟩)
  have m2 : ((s.heap.push PySem.W.emptyDict).update a fD).Ns1 dx (fun _ => none) := m1.at fun o q => k2 dx o ne.symm q
  have go : wpAny (model X.prog X.w) A.in1 (Builtin.ObjectAttr.storeInDict dx (.str f s.toks) f u) (fun fin s' => match fin with | .done (.ret _) => Q () s' | _ => False) (fun e s' => E e s') { s with heap := (s.heap.push PySem.W.emptyDict).update a fD, toks := s.toks + 1 } := by
    refine wpAny_bind (wpAny_pure (wpAny_bind ?_))
    refine wpAny_nsSet1 (s := { s with heap := (s.heap.push PySem.W.emptyDict).update a fD, toks := s.toks + 1 }) m2 fun h' hn2 hs2 => ?_
    obtain ⟨oD, esD, epD, hoD, hdD, hcD⟩ := hn2.count (PySem.Within.cons f u PySem.Within.nil)
    refine wpAny_bind (wpAny_lookBehind hoD (by rw [hdD]; exact pastItsLine_dict (Nat.le_trans hcD (by rw [List.length_cons, List.length_nil, sizeLine_eq]; omega))) ?_)
    have I3 := I2.write (x := dx) (e := dx) (o := xdO dx [(f, y)]) (t' := s.toks + 2) (by rw [upd_ne ne.symm, upd_same]; exact True.intro) (.inl rfl) (fun b q hb z => (hs2.2 b hb).trans z) ⟨_, hoD⟩ (xdO_ok ⟨Nat.le_of_ble_eq_true rfl, _, hn2, fun g => ?_⟩)
    · refine wpAny_pure (h dx _ new ?_)
      have eH : upd (upd (upd H dx (xdO dx [])) a (excF a C (some dx))) dx (xdO dx [(f, y)]) = upd (upd H a (excF a C (some dx))) dx (xdO dx [(f, y)]) := by
        funext b
        by_cases q : b = dx
        · rw [q, upd_same, upd_same]
        · rw [upd_ne q, upd_ne q]
          by_cases r : b = a
          · rw [r, upd_same, upd_same]
          · rw [upd_ne r, upd_ne r, upd_ne q]
      rw [← eH]
      exact I3
    · show RelO (List.lookup g [(f, y)]) (if g = f then some u else none)
      by_cases q : g = f
      · rw [if_pos q, q, List.lookup_cons, beq_self_eq_true]; exact ry
      · rw [if_neg q, List.lookup_cons, beq_false_of_ne q]; exact True.intro
  rw [if_neg (by decide)]
  dsimp only
  rw [if_neg (by simp [typeHasDict])]
  split
  · cases hn
  · refine wpAny_bind (wpAny_alloc (wpAny_bind (wpAny_update (o := ⟨.ref C, none, oda, osl⟩) ho1 (wpAny_pure ?_))))
    rw [hdx]
    refine wpAny_mono go (fun fin s' z => ?_) fun _ _ z => z
    rcases fin with (_ | _ | _ | _) | _ <;> first | exact z | exact z.elim
end
section
variable {X : Cx} {o e value : Expr} {f : Str} {pos pos' : Pos} {ta tv : TE}
/-- o.f = value, the first field of an exception -/
theorem ps_xf1 (K : PySem.W.Frag) (hK : X.K = K) (ha : PE X o ta) (hv : PE X value tv) (hs : swapsWith value (some (.Attribute o f pos')) pos.line X.env = pure false) : PS X (.Assign [.Attribute o f pos'] value pos)
    (fun D σ H => tv σ H fun y H1 => ta σ H1 fun x H2 => ∃ a C, x = .ref a ∧ H2 a = some (excF a C none) ∧ ExcW K C ∧ PySem.W.findIn K (.ref C) f = some none ∧ ∀ dx, H2 dx = none → D.nx σ (upd (upd H2 a (excF a C (some dx))) dx (xdO dx [(f, y)]))) := by
  constructor; intro pins s σ H D I h
  subst hK
  refine plainObj_wpAny_Assign_Attribute (thn (hv pins s σ H _ I h) fun u s1 ⟨y, H1, I1, ry, q⟩ => thn (ha pins s1 σ H1 _ I1 q) fun ov s2 ⟨x, H2, I2, rx, a, C, ex, ea, c, n, q2⟩ => ?_) hs
  subst ex
  obtain rfl : ov = Value.ref a := rx
  exact xset_first I2 ea c n ry fun dx s3 new I3 => ⟨σ, _, I3, q2 dx new⟩
/-- o.f = value, a later field of an exception -/
theorem ps_xf2 (K : PySem.W.Frag) (hK : X.K = K) (ha : PE X o ta) (hv : PE X value tv) (hs : swapsWith value (some (.Attribute o f pos')) pos.line X.env = pure false) : PS X (.Assign [.Attribute o f pos'] value pos)
    (fun D σ H => tv σ H fun y H1 => ta σ H1 fun x H2 => ∃ a C dx fs φ, x = .ref a ∧ H2 a = some (.ext φ) ∧ (∀ h, φ h → IsExcD a C dx h) ∧ H2 dx = some (xdO dx fs) ∧ ExcW K C ∧ PySem.W.findIn K (.ref C) f = some none ∧ fs.length < 1000 ∧ D.nx σ (upd H2 dx (xdO dx (putF f y fs)))) := by
  constructor; intro pins s σ H D I h
  subst hK
  refine plainObj_wpAny_Assign_Attribute (thn (hv pins s σ H _ I h) fun u s1 ⟨y, H1, I1, ry, q⟩ => thn (ha pins s1 σ H1 _ I1 q) fun ov s2 ⟨x, H2, I2, rx, a, C, dx, fs, φ, ex, ea, hφ, ed, c, n, l, q2⟩ => ?_) hs
  subst ex
  obtain rfl : ov = Value.ref a := rx
  exact xset_next I2 ea hφ ed c n l ry fun s3 I3 => ⟨σ, _, I3, q2⟩
end
end My
namespace My
open PySem PySem.Spec PyProof.Rows L2
/-- what an exception class with an __init__ of its own must have to be made -/
structure MkX (K : PySem.W.Frag) (C f : Addr) : Prop where
  cls : ExcCl K C
  init : PySem.W.findIn K (.ref C) "__init__" = some (some (.ref f))
  fn : PySem.W.isFn K (.ref f) = true
  kp : PySem.W.keepIn K (.ref C) = true
section
variable {X : Cx} {CX : CXT} {k : Nat} {f C : Addr} {fd : FuncData} {ps : List Str} {sp : Sp} {dvs : List V} {ds : List Value} {E : XK} {x m : Str} {p pos apos : Pos} {e o : Expr} {es : List Expr} {ta : TE} {t : TA}
theorem upd_back {H : Hp} {a : Addr} {o : HO} (e : H a = some o) : upd H a o = H := by
  funext b
  by_cases q : b = a
  · rw [q, upd_same, e]
  · rw [upd_ne q]
/-- ValueError.__init__(e, ..): the exception's arguments anew -/
theorem call_xinit (K : PySem.W.Frag) (hK : X.K = K) : CallR X (.builtin "ValueError.__init__") (fun xs H Q => ∃ a C d rest, xs = .ref a :: rest ∧ rest.length ≤ 1000 ∧ H a = some (excF a C d) ∧ ExcCl K C ∧ Q .non H) := by
  intro pins s σ H xs us Q I r ⟨a, C, d, rest, ex, hl, ea, hc, q⟩
  subst hK ex
  cases r with
  | cons r1 r2 =>
    obtain rfl : _ = Value.ref a := r1
    rename_i ws
    obtain ⟨ob, ho, hcls, hd, vs, t0, hdat, h0, h1⟩ := (show ObjOk X.prog X.w H s.heap a (excF a C d) from I.hok a _ ea).1
    obtain ⟨bm, Nn, nm, qn, bs, hdc, sn, sub, ab, col, dd, k0, k1, k2, k3, k5, hC, TL⟩ := excCls_obj I.kIn hc
    have FB := PySem.F.excBase_ValueError
    refine wpAny_call (codeAny_call_builtin FB.init.plain FB.initEntry (wpAny_check_init_subT (h := s.heap) (g := s.gens) (d := s.drawn) (t := s.toks) (os := s.os) FB TL hC ho hcls ?_))
    unfold Builtin.«BaseException.__init__»
    dsimp only
    rw [if_neg (by simp)]
    unfold newTuple Builtin.BaseException.bexcPut
    have hsz : 0 < vs.size := (Array.getElem?_eq_some_iff.mp h0).1
    have he₁ := Heap.get?_push_of_some (h := s.heap) { cls := .type "tuple", data := .seq ws.toArray } ho
    refine wpAny_bind (wpAny_newObj_type (wpAny_bind (wpAny_bind (wpAny_field he₁ hdat h0 (wpAny_bind (wpAny_setField he₁ hdat hsz ?_))))) (by show ws.toArray.size ≤ sizeLine; rw [List.size_toArray, ← r2.length, sizeLine_eq]; omega))
    refine wpAny_letGo (wpAny_pure ⟨.non, H, ?_, rfl, q⟩)
    have I1 : Inv X pins σ H { s with heap := s.heap.push { cls := .type "tuple", data := .seq ws.toArray }, toks := s.toks } := I.kept fun b u z => Heap.get?_push_of_some _ z
    have a2 := Heap.get?_update_self (Obj.mapFields (·.setIfInBounds 0 (.ref s.heap.objs.size))) he₁ (Obj.isFreed_of_fields (Obj.data_mapFields hdat _))
    have I2 := I1.write (x := a) (e := a) (o := excF a C d) (t' := s.toks) (by rw [ea]; exact True.intro) (.inl rfl) (fun b u hb z => (Heap.get?_update_ne _ _ _ _ hb).trans z) ⟨_, a2⟩
      (excF_ok ⟨_, a2, by rw [Obj.cls_mapFields]; exact hcls, by obtain ⟨_, _, _, _⟩ := ob; dsimp only at hdat; subst hdat; exact hd, _, s.heap.objs.size, Obj.data_mapFields hdat _, by simp [hsz], by rw [Array.getElem?_setIfInBounds_ne (by decide)]; exact h1⟩)
    rw [upd_back ea] at I2
    exact I2
/-- what the class at S must have for S.m to be the builtin id -/
structure ClsB (K : PySem.W.Frag) (S : Addr) (m : Str) (id : String) : Prop where
  sp : PySem.W.specialIn K (.ref S) "__getattribute__" = some (some (.builtin "type.__getattribute__"))
  rd : PySem.W.readsIn K S (.type "type") = true
  fd : PySem.W.findCls K (.ref S) (.type "type") m = some (.val (.builtin id))
  ha : PySem.W.handedIn (.builtin id) = true
/-- S.m(e, ..), S a class by its name, m found as a builtin -/
theorem pe_clsB {S : Addr} {id : String} {r : List V → Hp → VK → Prop} {pl : Sem Bool} (hc : CallR X (.builtin id) r) (B : ClsB X.K S m id) (hg : Gl X x) (hm : X.mg x = some (.ref S)) (ha : PA X (e :: es) t) (hdb : (x == ("__debug__" : Str)) = false := by decide)
    (he : starEach (e :: es) X.env = (false, eval e X.env) :: starEach es X.env := by rfl) (hpl : (backTo pos (starEach es X.env)).any (·.1) = false := by rfl)
    (ht : eval (.Call (.Attribute (.Name x p) m apos) (e :: es) [] pos) X.env = (do
      let ov ← eval (.Name x p) X.env
      standAt apos.atName
      let (f, first) ← holding [ov] (getMethod ov m pl)
      callWith pos f first (backTo pos (starEach (e :: es) X.env)) (backToKw pos (keywordEach [] X.env))) := by rfl) :
    PE X (.Call (.Attribute (.Name x p) m apos) (e :: es) [] pos) (tCB r t) := by
  constructor; intro pins s σ H Q I h
  refine PySem.W.methodCall_KW (pl := pl) (ld_glob I hg hm ?_ hdb) ht
  refine PySem.W.method_cls I.kIn B.sp (PySem.W.cls_value I.kIn B.rd B.fd B.ha ?_)
  exact PyProof.Rows.callWith_builtin1 (thn (ha pos pins _ σ H _ (I.tok _) h) fun us s1 ⟨vs, H1, I1, r1, q1⟩ => hc pins s1 σ H1 vs us Q I1 r1 q1) he hpl
end
end My
/-! ### raise C(..), C with an __init__ of its own: what leaves the def keeps its fields -/
namespace My
open PySem PySem.Spec PyProof.Rows L2
section
variable {M : Model} {A : Around} {E : Value → Shared → Prop} {s : Shared} {env : Env} {K : PySem.W.Frag} {C : Addr}
/-- raise x, x an exception at hand that was not raised yet -/
theorem raise_obj {x : Sem Value} {Q : Flow → Shared → Prop} (hh : A.handled = none) (hc : ExcCl K C)
    (h : wpAny M A x (fun v s1 => ∃ ea d, v = .ref ea ∧ K.In s1.heap ∧ IsExcF ea C d s1.heap ∧ E (.ref ea) s1) E s) : wpAny M A (raiseStmt env (some x) none) Q E s := by
  unfold raiseStmt
  refine wpAny_bind (wpAny_mono h (fun v s1 ⟨ea, d, e1, X, ⟨o, ho, hcl, hd, vs, t0, hdat, h0, h1⟩, hE⟩ => ?_) fun _ _ z => z)
  subst e1
  obtain ⟨bm, Nn, nm, qn, bs, hdc, sn, sub, ab, col, dd, k0, k1, k2, k3, k5, hC, TL⟩ := excCls_obj X hc
  have hcB : (Value.ref C :: bm).contains (.type "BaseException") = true := by rw [List.contains_cons, TL.hasType PySem.F.excBase_ValueError.hasBase, Bool.or_true]
  obtain ⟨hp, g, dr, t, os⟩ := s1
  obtain ⟨oc, od, oda, osl⟩ := o
  dsimp only at hcl hdat hd ho hC
  subst hcl hdat
  repeat (first | with_reducible refine wpAny_loadPart_at ho ?_ | with_reducible refine wpAny_loadPart_at hC ?_ | (with_reducible refine wpAny_isSubtype_exc hC ?_; rw [hcB]) | with_reducible refine wpAny_field ho rfl h1 ?_ | wp_step)
  exact wpAny_raiseNew_none hh hE
end

/-- an object goes untracked -/
def del (H : Hp) (a : Addr) : Hp := fun b => if b = a then none else H b
theorem del_same {H : Hp} {a : Addr} : del H a a = none := if_pos rfl
theorem del_ne {H : Hp} {a b : Addr} (h : b ≠ a) : del H a b = H b := if_neg h
section
variable {X : Cx} {CX : CXT} {k : Nat} {f C : Addr} {fd : FuncData} {ps : List Str} {sp : Sp} {dvs : List V} {ds : List Value} {E : XK}
/-- C(..) with all that is known behind its __init__ -/
theorem run_makeU {pins : List (Addr × Obj)} {σ : L2.St} {H : Hp} {s : Shared} {Q : Addr → Hp → Prop} {R : Value → Shared → Prop} {us : List Value} {vs : List V} (M : MkX X.K C f) (F : FnOk X.prog X.w X.K X.mg X.base CX k f fd ps sp) (hr : Room (k + 1) X.A) (hb : Binds X.K fd ps ds) (hd : Vals dvs ds)
    (hx : Passes CX X E) (I : Inv X pins σ H s) (r : Vals vs us) (hl : vs.length ≤ 1000) (h : ∀ x, H x = none → sp (.ref x :: (vs ++ dvs)) (upd H x (excF x C none)) (fun v H2 => v = .non ∧ Q x H2) E)
    (hR : ∀ ea h' H2 s2, s.heap.get? ea = none → H ea = none → (∀ b o, s.heap.get? b = some o → h'.get? b = some o) → s2.os = s.os → AllBare s2.gens → Un (frs X.stack) [] (upd H ea (excF ea C none)) H2 h' s2.heap → HOk X.prog X.w H2 s2.heap → Inv X pins σ H2 s2 → Q ea H2 → R (.ref ea) s2) :
    wpAny (model X.prog X.w) X.A (call (.ref C) us) R X.xe s := by
  obtain ⟨bm, Nn, nm, qn, bs, hdc, sn, sub, ab, col, dd, k0, k1, k2, k3, k5, hC, TL⟩ := excCls_obj I.kIn M.cls
  refine call_initT (h := s.heap) (g := s.gens) (d := s.drawn) (t := s.toks) (os := s.os) PySem.F.excBase_ValueError TL I.kIn hC M.init (beq_iff_eq.mp M.fn) (fun h' ea hm => ?_) (by rw [← r.length, sizeLine_eq]; omega)
  have new : H ea = none := inv_none I hm.new
  obtain ⟨_, he', _⟩ := hm.there
  have I1 : Inv X pins σ H { s with heap := h', toks := s.toks } := I.kept hm.keeps
  have I2 : Inv X pins σ (upd H ea (excF ea C none)) { s with heap := h', toks := s.toks } := inv_track I I1 hm.new new (excF_ok ⟨_, he', rfl, rfl, _, _, rfl, rfl, rfl⟩)
  have r2 : Vals (V.ref ea :: (vs ++ dvs)) (Value.ref ea :: (us ++ ds)) := .cons rfl (r.append hd)
  have hl2 : (Value.ref ea :: us ++ ds).length = ps.length := by
    have e := r2.length
    rw [F.len _ _ _ _ (h ea new)] at e
    exact e.symm
  refine wpAny_call (codeAny_mono (F.run _ X.stack _ _ ⟨Value.ref ea :: us, []⟩ (Value.ref ea :: (us ++ ds)) _ _ E (hr.make C us []) (I2.env0.make C us []) (hb _ (Value.ref ea :: us) I2.kIn hl2) r2 (h ea new)) fun r s' hq' => ?_)
  cases r with
  | error e => exact hx pins σ _ _ e s' I2 hq'
  | ok fl =>
    cases fl with
    | ret u =>
      have hq0 := hq'
      obtain ⟨v, H2, os, bare, un, hok, rv, ev, q⟩ := hq0
      subst ev
      exact ⟨rv, hR ea h' H2 s' hm.new new hm.keeps os bare un hok (I2.call' os un hok bare fun b z => absurd z (by simp)) q⟩
    | next => exact False.elim hq'
    | brk => exact False.elim hq'
    | cont => exact False.elim hq'
end
section
variable {P : Program} {w : World} {H H2 : Hp} {fs : List Addr} {h h' h2 : Heap} {ea : Addr} {o : HO}
theorem un_del (new : h.get? ea = none) (n : H ea = none) (k : ∀ b u, h.get? b = some u → h'.get? b = some u) (u : Un fs [] (upd H ea o) H2 h' h2) : Un fs [] H (del H2 ea) h h2 := by
  have ne : ∀ b v, h.get? b = some v → b ≠ ea := fun b v e z => by rw [z, new] at e; cases e
  have ne' : ∀ b v, H b = some v → b ≠ ea := fun b v e z => by rw [z, n] at e; cases e
  have eq : ∀ b, b ≠ ea → upd H ea o b = H b := fun b z => upd_ne z
  refine ⟨fun b v e q hb hx => u.keep b v (k b v e) (by rw [eq b (ne b v e)]; exact q) hb hx, fun b v e q hb hx => u.slot b v (k b v e) (by rw [eq b (ne b v e)]; exact q) hb hx, fun b v e q hx => ?_, fun b v e hx => u.there b v (k b v e) hx, fun b xs e => ?_, fun b v z e => ?_, fun b ps e => ?_⟩
  · rw [del_ne (ne b v e)]; exact u.free b v (k b v e) (by rw [eq b (ne b v e)]; exact q) hx
  · rw [del_ne (ne' b _ e)]; exact u.tups b xs (by rw [eq b (ne' b _ e)]; exact e)
  · rw [del_ne (ne' b _ e)]; exact u.frzs b v z (by rw [eq b (ne' b _ e)]; exact e)
  · obtain ⟨m, q⟩ := u.tbls b ps (by rw [eq b (ne' b _ e)]; exact e)
    exact ⟨m, by rw [del_ne (ne' b _ e)]; exact q⟩
theorem hok_del {φ : Heap → Prop} (e : H2 ea = some (.ext φ)) (x : HOk P w H2 h2) : HOk P w (del H2 ea) h2 := fun b v q => by
  have ne : b ≠ ea := fun z => by rw [z, del_same] at q; cases q
  rw [del_ne ne] at q
  refine (x b v q).stay (fun c v hc q => q) (fun c z => ?_) fun c xs z => ?_
  · rw [del_ne fun y => by rw [y, e] at z; cases z]; exact z
  · rw [del_ne fun y => by rw [y, e] at z; cases z]; exact z
end

section
variable {P : Program} {w : World} {K : PySem.W.Frag} {mg : Str → Option Value} {base : Heap} {N : List Str} {qual : Str} {scope : Scope} {f : Addr} {cd : Value} {A : Around} {outer : List Env} {s₀ : Shared} {H₀ : Hp} {E : XK}
  {pins : List (Addr × Obj)} {σ : L2.St} {H H2 : Hp} {s s2 : Shared} {h' : Heap} {ea C : Addr} {d : Option Addr}
/-- an exception that was made in the body, with its __init__, leaves it -/
theorem raise_leavesI (I : Inv (cxOf (CXW P w) P w K mg base N qual scope f cd A outer s₀ H₀ E) pins σ H s) (I2 : Inv (cxOf (CXW P w) P w K mg base N qual scope f cd A outer s₀ H₀ E) pins σ H2 s2) (new : s.heap.get? ea = none) (n : H ea = none)
    (k : ∀ b o, s.heap.get? b = some o → h'.get? b = some o) (os : s2.os = s.os) (bare : AllBare s2.gens) (un : Un (frs (envOfC qual scope s₀.heap.objs.size f cd :: outer)) [] (upd H ea (excF ea C none)) H2 h' s2.heap) (e2 : H2 ea = some (excF ea C d)) (hE : E (.ref C) d (del H2 ea)) :
    (cxOf (CXW P w) P w K mg base N qual scope f cd A outer s₀ H₀ E).xe (.ref ea) s2 := by
  obtain ⟨o, ho, hcl, hd, vs, t0, hdat, h0, h1⟩ := (show ObjOk P w H2 s2.heap ea (excF ea C d) from I2.hok ea _ e2).1
  let l := ea :: frs (envOfC qual scope s₀.heap.objs.size f cd :: outer)
  have hin : ∀ env ∈ (envOfC qual scope s₀.heap.objs.size f cd :: outer), ∀ b, env.frame = some b → b ∈ l := fun env he b hb => List.mem_cons_of_mem _ (List.mem_filterMap.mpr ⟨env, he, hb⟩)
  have hl := PySem.W.funFrames_hide I2.stack hin
  have hen : (PySem.W.hideAll s2.heap l).get? ea = none := PySem.W.hideAll_none _ (List.mem_cons_self)
  have hfn : ∀ b ∈ frs (envOfC qual scope s₀.heap.objs.size f cd :: outer), ∃ o, s2.heap.get? b = some o ∧ ∀ vs, o.data ≠ .fields vs := fun b hb => let ⟨_, o, e, hd⟩ := I2.stack.mem hb; ⟨o, e, hd⟩
  refine wpAny_mono (wpAny_calm (calm_leaving _ _) (wpAny_leaving_firstW (Q := fun _ s' => ∃ h3, s' = { s2 with heap := h3 } ∧ Heap.LeftW (PySem.W.hideAll s2.heap l) (envOfC qual scope s₀.heap.objs.size f cd :: outer) ea o.cls (.ref t0) s2.heap h3)
    I2.ok.frames hl rfl ho (fun b o q => PySem.W.of_hideAll _ q) hen hdat h1 h0 fun h3 x => ⟨h3, rfl, x⟩)) (fun _ s' ⟨⟨h3, e3, k1, ⟨_, _, k2⟩, k3, k4⟩, dk⟩ => ?_) fun _ _ z => z.1
  subst e3
  rw [hcl] at k3
  obtain ⟨o3, ho3, hd3⟩ := dk ea o ho
  refine leave_fin (s1 := s2) I os bare (un_del new n k un) (hok_del e2 I2.hok) (fun b u e q nb => ?_) ⟨k1, hen, k2, k3⟩ k4 hfn del_same new ⟨o3, ho3, hd3.trans hd⟩ hE
  refine PySem.W.hideAll_get _ e fun z => ?_
  rcases List.mem_cons.mp z with z | z
  · rcases q with q | q
    · rw [z] at q; exact q new
    · rw [z] at q; exact q del_same
  · exact nb z
end

section
variable {P : Program} {w : World} {K : PySem.W.Frag} {mg : Str → Option Value} {base : Heap} {N : List Str} {qual : Str} {scope : Scope} {f fI : Addr} {cd : Value} {A : Around} {outer : List Env} {s₀ : Shared} {H₀ : Hp} {E : XK}
/-- raise C(..), C with an __init__ of its own -/
theorem ps_raiseI {k : Nat} {C : Addr} {fd : FuncData} {ps : List Str} {sp : Sp} {x : Str} {e : Expr} {es : List Expr} {t : TA} {np cpos pos : Pos} (M : MkX K C fI) (F : FnOk P w K mg base (CXW P w) k fI fd ps sp) (hr : Room (k + 1) (A.deeper (envOfC qual scope s₀.heap.objs.size f cd)))
    (hg : Gl (cxOf (CXW P w) P w K mg base N qual scope f cd A outer s₀ H₀ E) x) (hm : mg x = some (.ref C)) (hb : Binds K fd ps []) (ha : PA (cxOf (CXW P w) P w K mg base N qual scope f cd A outer s₀ H₀ E) (e :: es) t) (hdb : (x == ("__debug__" : Str)) = false := by decide)
    (he : starEach (e :: es) (envOfC qual scope s₀.heap.objs.size f cd) = (false, eval e (envOfC qual scope s₀.heap.objs.size f cd)) :: starEach es (envOfC qual scope s₀.heap.objs.size f cd) := by rfl) (hpl : (backTo cpos (starEach es (envOfC qual scope s₀.heap.objs.size f cd))).any (·.1) = false := by rfl) :
    PS (cxOf (CXW P w) P w K mg base N qual scope f cd A outer s₀ H₀ E) (.Raise (some (.Call (.Name x np) (e :: es) [] cpos)) none pos)
      (fun _ σ H => t σ H fun vs H1 => vs.length ≤ 1000 ∧ ∀ ea, H1 ea = none → sp (.ref ea :: (vs ++ [])) (upd H1 ea (excF ea C none)) (fun v H2 => v = .non ∧ ∃ d, H2 ea = some (excF ea C d) ∧ E (.ref C) d (del H2 ea)) (fun _ _ _ => False)) := by
  constructor; intro pins s σ H D I h
  rw [arm_exec_Raise]
  simp only [evalOpt, Option.map]
  refine wpAny_bind (wpAny_standAt (raise_obj (K := K) (C := C) (I.ok.hd rfl) M.cls (wpAny_bind (wpAny_mono (wpAny_Call_Name_kw (ld_glob I hg hm ?_ hdb)) (fun v s3 h3 => wpAny_bind (wpAny_standAt (wpAny_pure h3))) fun _ _ z => z))))
  refine PySem.W.callWith_K (h₀ := base) I.ok.mod.kin M.kp (thn (ha cpos pins s σ H _ I h) fun us s1 ⟨vs, H1, I1, r, hl, q⟩ => ⟨I1.kIn, ?_⟩) he hpl
  refine run_makeU (Q := fun ea H2 => ∃ d, H2 ea = some (excF ea C d) ∧ E (.ref C) d (del H2 ea)) M F hr hb (ds := []) (dvs := []) .nil passF I1 r hl q fun ea h' H2 s2 new n k os bare un hok I2 ⟨d, e2, hE⟩ => ?_
  exact ⟨ea, d, rfl, I2.kIn, (show ObjOk P w H2 s2.heap ea (excF ea C d) from I2.hok ea _ e2).1, raise_leavesI I1 I2 new n k os bare un e2 hE⟩
end
end My
/-! ### try: raise C(..) / except S as e -/
namespace My
open PySem PySem.Spec PyProof.Rows L2
section
variable {M : Model} {A : Around} {E : Value → Shared → Prop} {s : Shared}
end
section
variable {X : Cx}
end
end My
/-! ### isinstance of any tracked exception, f"..{n}..", count of truths -/
namespace My
open PySem PySem.Spec PyProof.Rows L2
section
variable {X : Cx} {K : PySem.W.Frag}
theorem IsExcK.is {a C : Addr} {d : Option Addr} {h : Heap} (x : IsExcK a C d h) : IsExc a C h := let ⟨o, e, c, _⟩ := x; ⟨o, e, c⟩
theorem IsExcF.is {a C : Addr} {d : Option Addr} {h : Heap} (x : IsExcF a C d h) : IsExc a C h := let ⟨o, e, c, _⟩ := x; ⟨o, e, c⟩
end
end My
/-! ### [elt for target in iter if test], with names of the def around it (cells) -/
namespace My
open PySem PySem.Spec PyProof.Rows L2
/-- what a block closes over -/
def closOf (cells : List (Str × Addr)) : List (Str × NameKind) → List (Str × Addr) → List (Str × Addr)
  | [], acc => acc
  | (n, k) :: r, acc => if (k == NameKind.free) = true then closOf cells r ((n, (cells.lookup n).getD 0) :: acc) else closOf cells r acc
theorem closure_is {scope : Scope} {env : Env} (h : ∀ q ∈ scope.names, q.2 = .free → ∃ c, env.cells.lookup q.1 = some c) : closureFor scope env = pure (closOf env.cells scope.names []) := by
  simp only [closureFor]
  generalize ([] : List (Str × Addr)) = acc
  revert h
  generalize scope.names = names
  intro h
  induction names generalizing acc with
  | nil => rfl
  | cons q r ih =>
    obtain ⟨n, k⟩ := q
    rw [List.forIn_cons]
    by_cases hk : (k == NameKind.free) = true
    · obtain ⟨c, hc⟩ := h (n, k) List.mem_cons_self (by simpa using hk)
      have e : cellOf env n = pure c := by simp only [cellOf, hc]
      simp only [closOf, hk, if_true, e, hc, Option.getD_some, pure_bind]
      exact ih _ fun q hq => h q (List.mem_cons_of_mem _ hq)
    · simp only [closOf, hk, if_false, pure_bind, Bool.false_eq_true]
      exact ih _ fun q hq => h q (List.mem_cons_of_mem _ hq)
theorem closOf_sub {cells : List (Str × Addr)} : ∀ {names : List (Str × NameKind)} {acc : List (Str × Addr)}, (∀ q ∈ names, q.2 = .free → ∃ c, cells.lookup q.1 = some c) → (∀ x c, acc.lookup x = some c → cells.lookup x = some c) → ∀ x c, (closOf cells names acc).lookup x = some c → cells.lookup x = some c
  | [], _, _, ha => ha
  | (n, k) :: r, acc, h, ha => by
    intro x c e
    by_cases hk : (k == NameKind.free) = true
    · obtain ⟨d, hd⟩ := h (n, k) List.mem_cons_self (by simpa using hk)
      rw [closOf, if_pos hk] at e
      refine closOf_sub (fun q hq => h q (List.mem_cons_of_mem _ hq)) (fun y b q => ?_) x c e
      cases hy : y == n with
      | true =>
        rw [List.lookup_cons, hy] at q
        have ey : y = n := by simpa using hy
        subst ey
        have hd' : List.lookup y cells = some d := hd
        rw [hd'] at q ⊢
        simpa using q
      | false =>
        rw [List.lookup_cons, hy] at q
        exact ha y b q
    · rw [closOf, if_neg hk] at e
      exact closOf_sub (fun q hq => h q (List.mem_cons_of_mem _ hq)) ha x c e
theorem closOf_has {cells : List (Str × Addr)} : ∀ {names : List (Str × NameKind)} {acc : List (Str × Addr)} {x : Str}, ((x, NameKind.free) ∈ names ∨ ∃ c, acc.lookup x = some c) → ∃ c, (closOf cells names acc).lookup x = some c
  | [], _, _, h => h.elim (fun z => by cases z) id
  | (n, k) :: r, acc, x, h => by
    by_cases hk : (k == NameKind.free) = true
    · rw [closOf, if_pos hk]
      refine closOf_has ?_
      cases hx : x == n with
      | true => exact .inr ⟨_, by rw [List.lookup_cons, hx]⟩
      | false =>
        rcases h with h | ⟨c, h⟩
        · rcases List.mem_cons.mp h with z | z
          · cases z
            simp at hx
          · exact .inl z
        · exact .inr ⟨c, by rw [List.lookup_cons, hx]; exact h⟩
    · rw [closOf, if_neg hk]
      refine closOf_has ?_
      rcases h with h | h
      · rcases List.mem_cons.mp h with z | z
        · cases z
          exact absurd rfl hk
        · exact .inl z
      · exact .inr h
theorem relabel_kind {env : Env} : ∀ {names : List (Str × NameKind)} {x : Str} {k' : NameKind}, (names.map fun (n, k) => if (k == NameKind.free && env.scope.kind == .function && env.kindOf n == some .cell) then (n, NameKind.cell) else (n, k)).lookup x = some k' →
    ∃ k, names.lookup x = some k ∧ (k' = k ∨ (k = .free ∧ k' = .cell))
  | [], _, _, h => by simp at h
  | (n, k) :: r, x, k', h => by
    have ih := @relabel_kind env r x k'
    have h : List.lookup x ((if (k == NameKind.free && env.scope.kind == .function && env.kindOf n == some .cell) = true then (n, NameKind.cell) else (n, k)) :: _) = some k' := h
    cases hx : x == n with
    | true =>
      by_cases hc : (k == NameKind.free && env.scope.kind == .function && env.kindOf n == some .cell) = true
      · rw [if_pos hc, List.lookup_cons, hx] at h
        cases h
        have hk : k = .free := by
          simp only [Bool.and_eq_true] at hc
          simpa using hc.1.1
        exact ⟨k, by rw [List.lookup_cons, hx], .inr ⟨hk, rfl⟩⟩
      · rw [if_neg hc, List.lookup_cons, hx] at h
        cases h
        exact ⟨k, by rw [List.lookup_cons, hx], .inl rfl⟩
    | false =>
      obtain ⟨k2, e, q⟩ := ih (by
        by_cases hc : (k == NameKind.free && env.scope.kind == .function && env.kindOf n == some .cell) = true
        · rw [if_pos hc, List.lookup_cons, hx] at h; exact h
        · rw [if_neg hc, List.lookup_cons, hx] at h; exact h)
      exact ⟨k2, by rw [List.lookup_cons, hx]; exact e, q⟩
/-- the context of the block -/
def compCxF (X : Cx) (scope : Scope) (N : List Str) (cl : List (Str × Addr)) (C : Addr) (s₀ : Shared) (H₀ : Hp) (ex : List Addr) : Cx :=
  { X with N := N, s₀ := s₀, H₀ := H₀, env := compEnvC scope cl C X.env, outer := X.stack, stack := X.stack, ex := ex, fn := fun _ => false, pn := [], xe := fun _ _ => False }
/-- the names at the block's entry: its own have no value yet, those of the def have theirs -/
def startF (σ : L2.St) (n : Nat) (js : List Nat) : L2.St := List.replicate n none ++ js.map fun j => (σ[j]?).getD none
/-- the tests of a clause -/
def ifsOf (ifs : List Expr) (env : Env) : Sem Bool := forIn ifs true fun c r => if r = true then do let ok ← isTrue c env (eval c env); pure (ForInStep.yield ok) else pure (ForInStep.yield r)
structure PIfs (X : Cx) (ifs : List Expr) (t : TT) : Prop where
  run : ∀ (pins : List (Addr × Obj)) (s : Shared) (σ : L2.St) (H : Hp) (Q : Bool → Hp → Prop), Inv X pins σ H s → t σ H Q → wpAny (model X.prog X.w) X.A (ifsOf ifs X.env) (TP X pins σ Q) X.xe s
theorem pf_one {X : Cx} {c : Expr} {t : TT} (h : PT X c t) : PIfs X [c] t := ⟨fun pins s σ H Q I q => wpAny_tests_one (h pins s σ H Q I q)⟩
/-- scope and names fit: fv are names of the def (its cells), at the places js of its own names -/
structure CompSc (X : Cx) (scope : Scope) (fv : List Str) (js : List Nat) : Prop where
  kind : scope.kind = .function
  cell : ∀ q ∈ scope.names, q.2 ≠ .cell
  names : ∀ q ∈ scope.names, q.2 = .local → scope.names.lookup q.1 = some .local
  free : ∀ q ∈ scope.names, q.2 = .free → q.1 ∈ fv
  out : ∀ x ∈ fv, X.env.kindOf x = some .cell ∨ X.env.kindOf x = some .free
  at' : js.map (fun j => X.N[j]?) = fv.map some
  fr : ∀ x ∈ fv, scope.names.lookup x = some .free
section
variable {X : Cx} {pins : List (Addr × Obj)} {σ : L2.St} {H : Hp} {s : Shared} {scope : Scope} {N : List Str} {C : Addr} {ex : List Addr} {cl : List (Str × Addr)} {fv tg : List Str} {js : List Nat}
theorem CompSc.clos (S : CompSc X scope fv js) (ok : X.Ok) : closureFor scope X.env = pure (closOf X.env.cells scope.names []) := closure_is fun q hq e => ok.has q.1 (S.out q.1 (S.free q hq e))
theorem CompSc.sub (S : CompSc X scope fv js) (ok : X.Ok) : ∀ x c, (closOf X.env.cells scope.names []).lookup x = some c → X.env.cells.lookup x = some c :=
  closOf_sub (fun q hq e => ok.has q.1 (S.out q.1 (S.free q hq e))) (fun x c e => by cases e)
theorem comp_okF (I : Inv X pins σ H s) (S : CompSc X scope fv js) (hC : s.heap.objs.size ≤ C)
    (hf : ∀ b ∈ ex, FpOk X pins H b) (ho : ∀ b ∈ ex, ∃ o, s.heap.get? b = some o) : (compCxF X scope N (closOf X.env.cells scope.names []) C s H ex).Ok := by
  have sub := S.sub I.ok
  refine ⟨I.ok.mod, S.kind, I.ok.glob, I.ok.blt, hC, fun x y c e1 e2 => I.ok.inj x y c (sub x c e1) (sub y c e2), fun x hx => ?_, fun x c z _ => Bool.noConfusion z, I.ok.hd, I.ok.frames, .inl rfl, fun b hb => ⟨?_, fun x c e => ?_⟩, I.bs, Nat.le_trans I.ok.bsz I.sz, fun b o e hb => ?_, fun b hb hm => ?_, I.stack, I.stkFree⟩
  · have e : ∃ k', (relabel scope X.env).names.lookup x = some k' ∧ (k' = .cell ∨ k' = .free) := by
      rcases hx with z | z
      · exact ⟨_, z, .inl rfl⟩
      · exact ⟨_, z, .inr rfl⟩
    obtain ⟨k', e, hk⟩ := e
    obtain ⟨k, e2, q⟩ := relabel_kind e
    have hk2 : k = .free := by
      rcases q with rfl | ⟨rfl, _⟩
      · rcases hk with rfl | rfl
        · exact absurd rfl (S.cell _ (PySem.mem_of_lookup e2))
        · rfl
      · rfl
    subst hk2
    exact closOf_has (.inl (PySem.mem_of_lookup e2))
  · obtain ⟨o, e⟩ := ho b hb
    exact Nat.ne_of_lt (Nat.lt_of_lt_of_le (Heap.lt_size e) hC)
  · obtain ⟨_, _, _, _, q, _⟩ := hf b hb
    exact q x c (sub x c e)
  · obtain ⟨_, _, _, q, _⟩ := hf b hb
    rcases q with q | q
    · exact I.ok.noex b o e q
    · exact absurd (Nat.lt_of_lt_of_le (Heap.lt_size e) (Nat.le_trans I.ok.bsz q)) (Nat.lt_irrefl _)
  · obtain ⟨_, q1, q2, _⟩ := hf b hb
    rcases List.mem_cons.mp (I.stkSub b hm) with z | z
    · exact q1 z
    · exact q2 z
theorem comp_startF {D : Addr} {h' : Heap} {t' : Nat} {m : Str → Option Value} (I : Inv X pins σ H s) (S : CompSc X scope fv js) (ok : (compCxF X scope (tg ++ fv) (closOf X.env.cells scope.names []) C s H ex).Ok) (hk : ∀ b o, s.heap.get? b = some o → h'.get? b = some o) (hD : s.heap.get? D = none) (hC : s.heap.get? C = none) (hDC : D ≠ C)
    (hl : h'.get? D = some { cls := .type "list", data := .seq #[] }) (hn : h'.Ns C m) : Inv (compCxF X scope (tg ++ fv) (closOf X.env.cells scope.names []) C s H ex) [] (startF σ tg.length js) (upd H D (.lst [])) { s with heap := h', toks := t' } := by
  have nD := inv_none I hD
  have neD : ∀ b u, s.heap.get? b = some u → b ≠ D := fun b u e z => by rw [z, hD] at e; cases e
  have sub := S.sub I.ok
  have cellK : ∀ c v, s.heap.IsCell c v → h'.IsCell c v := fun c v ⟨o, ho, hd⟩ => ⟨o, hk c o ho, hd⟩
  have hlen : js.length = fv.length := by have := congrArg List.length S.at'; simpa using this
  refine ⟨ok, rfl, I.bare, ⟨fun b u q _ _ _ => hk b u q, fun b u q _ _ _ => ⟨u.slots, hk b u q⟩, fun b u q n _ => by rw [upd_ne (neD b u q)]; exact n, fun b u q _ => ⟨u, hk b u q⟩, fun b xs q => by rw [upd_ne (ne_of_none q nD)]; exact q,
    fun b u xs q => by rw [upd_ne (ne_of_none q nD)]; exact q, fun b ps (q : H b = _) => ⟨#[], by rw [upd_ne (ne_of_none q nD), q]; simp⟩⟩, ⟨m, hn, fun i x v e1 e2 e3 => ?_⟩, fun x c e => ?_, ?_, fun x c e => ?_, fun p hp => (by cases hp), fun b u e => ?_, by simp [compCxF, startF, hlen]⟩
  · have e1 : (tg ++ fv)[i]? = some x := e1
    rcases Nat.lt_or_ge i tg.length with hi | hi
    · rw [startF, List.getElem?_append_left (by simpa using hi), List.getElem?_replicate, if_pos hi] at e2
      cases e2
    · rw [List.getElem?_append_right hi] at e1
      rw [startF, List.getElem?_append_right (by simpa using hi), List.length_replicate, List.getElem?_map] at e2
      obtain ⟨j, hj, e2⟩ := Option.map_eq_some_iff.mp e2
      have hσ : σ[j]? = some (some v) := by
        cases q : σ[j]? with
        | none => rw [q] at e2; cases e2
        | some z => rw [q] at e2; exact congrArg some e2
      have hN : X.N[j]? = some x := by
        have q := congrArg (fun l => l[i - tg.length]?) S.at'
        simp only [List.getElem?_map, hj, e1, Option.map_some] at q
        exact Option.some.inj q
      have hx : x ∈ fv := List.mem_of_getElem? e1
      have ko := S.out x hx
      obtain ⟨m0, _, hl0⟩ := I.loc
      have vis : Vis X.env.scope x := ko.elim (fun z => .inr (.inl z)) fun z => .inr (.inr z)
      obtain ⟨u, ru, lk⟩ := hl0 j x v hN hσ vis
      obtain ⟨c, hc, hcell⟩ : ∃ c, X.env.cells.lookup x = some c ∧ s.heap.IsCell c (some u) := by
        rcases lk with ⟨z, _⟩ | ⟨_, q⟩
        · rcases ko with y | y <;> (rw [y] at z; cases z)
        · exact q
      obtain ⟨c2, hc2⟩ : ∃ c2, (closOf X.env.cells scope.names []).lookup x = some c2 := closOf_has (.inl (PySem.mem_of_lookup (S.fr x hx)))
      have ec : c2 = c := by have := sub x c2 hc2; rw [hc] at this; exact (Option.some.inj this).symm
      subst ec
      refine ⟨u, ru, .inr ⟨?_, c2, hc2, cellK _ _ hcell⟩⟩
      have e3 : (relabel scope X.env).names.lookup x = some .local ∨ (relabel scope X.env).names.lookup x = some .cell ∨ (relabel scope X.env).names.lookup x = some .free := e3
      rcases e3 with z | z | z
      · obtain ⟨k, ek, q⟩ := relabel_kind z
        rw [S.fr x hx] at ek
        cases ek
        rcases q with q | ⟨_, q⟩ <;> cases q
      · exact .inl z
      · exact .inr z
  · obtain ⟨v, z⟩ := I.cell x c (sub x c e)
    exact ⟨v, cellK c v z⟩
  · show upd H D (.lst []) C = none
    rw [upd_ne (Ne.symm hDC)]
    exact inv_none I hC
  · obtain ⟨v, o, ho, _⟩ := I.cell x c (sub x c e)
    rw [upd_ne (neD c o ho)]
    exact I.freeC x c (sub x c e)
  · by_cases hb : b = D
    · subst hb
      rw [upd_same] at e
      cases e
      exact ⟨Nat.zero_le _, [], _, .nil, hl⟩
    · rw [upd_ne hb] at e
      exact (I.hok b u e).stay (fun c v _ q => hk c v q) (fun c q => by rw [upd_ne (ne_of_none q nD)]; exact q) fun c xs q => by rw [upd_ne (ne_of_none q nD)]; exact q
end
theorem comp_loopF {prog : Program} {w : World} {A : Around} {s : Shared} {R : Result → Shared → Prop} {elt target iter : Expr} {ifs : List Expr} {scope : Scope} {pos : Pos} {it acc : Value} {env : Env} (I : Nat → Shared → Prop)
    (turn : ∀ n s, I n s → wpAny (model prog w) A (pyNext it) (fun r s1 => (r = none ∧ R (.ok .next) s1) ∨ ∃ v, r = some v ∧ wpAny (model prog w) A (letOwnedTupleGo target it v) (fun _ s2 => wpAny (model prog w) A (assign target env v) (fun _ s3 =>
      wpAny (model prog w) A (ifsOf ifs env) (fun ok s4 => if ok = true then wpAny (model prog w) A (eval elt env) (fun x s5 => wpAny (model prog w) A (call (.builtin "list.append") [acc, x]) (fun _ s6 => ∃ m, m < n ∧ I m s6) (fun _ _ => False) s5) (fun _ _ => False) s4
        else ∃ m, m < n ∧ I m s4) (fun _ _ => False) s3) (fun _ _ => False) s2) (fun _ _ => False) s1) (fun _ _ => False) s)
    (n : Nat) (h : I n s) : codeAny (model prog w) A (.compLoop (.ListComp elt [⟨target, iter, ifs, 0⟩] scope pos) 0 it acc env) R s := by
  have no : ∀ {α : Type} {E : Value → Shared → Prop} {t : Sem α} {Q : α → Shared → Prop} {u : Shared}, wpAny (model prog w) A t Q (fun _ _ => False) u → wpAny (model prog w) A t Q E u := fun z => wpAny_mono z (fun _ _ q => q) fun _ _ q => q.elim
  refine codeAny_loop rfl I (fun n s hI => wpAny_noted ?_) n h
  rw [compTurn_list]
  refine wpAny_bind (wpAny_standAt (wpAny_bind (wpAny_mono (turn n s hI) (fun r s1 q => ?_) fun _ _ z => z.elim)))
  rcases q with ⟨rfl, q⟩ | ⟨v, rfl, q⟩
  · exact wpAny_pure q
  · refine wpAny_bind (no (thn q fun _ s2 q2 => wpAny_bind (no (thn q2 fun _ s3 q3 => wpAny_bind (no (thn q3 fun ok s4 q4 => ?_))))))
    cases ok with
    | false => exact wpAny_pure ⟨rfl, q4⟩
    | true => exact wpAny_bind (wpAny_bind (no (thn q4 fun x s5 q5 => wpAny_bind (no (thn q5 fun _ s6 q6 => wpAny_pure (wpAny_pure ⟨rfl, q6⟩))))))
def compQF (σ0 : L2.St) (J : It) (g : TG) (tc : TT) (te : TE) (Q : VK) (H1 : Hp) : Prop := ∀ D, H1 D = none → ∃ W : Nat → Nat → List V → L2.St → Hp → Prop, (∃ m, W 0 m [] σ0 (upd H1 D (.lst []))) ∧ ∀ i m ys τ H, W i m ys τ H → H D = some (.lst ys) ∧
  ((J.stop i H ∧ Q (.ref D) H) ∨ (J.go i H ∧ ys.length < sizeLine ∧ ∀ v H', J.yld i H v H' → g v τ H' fun τ2 H2 => tc τ2 H2 fun ok H3 => if ok = true then te τ2 H3 fun y H4 => H4 D = some (.lst ys) ∧ ∃ m', m' < m ∧ W (i + 1) m' (ys ++ [y]) τ2 (upd H4 D (.lst (ys ++ [y])))
    else ∃ m', m' < m ∧ W (i + 1) m' ys τ2 H3))
section
variable {X : Cx} {pins : List (Addr × Obj)} {σ : L2.St} {H : Hp} {s : Shared} {scope : Scope} {fv : List Str} {js : List Nat} {target iter elt : Expr} {ifs : List Expr} {pos : Pos} {g : TG} {tc : TT} {te : TE}
theorem comp_blockF {E : Value → Shared → Prop} {J : It} {fp : List Addr} {it : Addr} {tn : Nat → Heap → Prop} {Q : VK} {RR : Value → Addr → Result → Shared → Prop} (tg : List Str) (I : Inv X pins σ H s) (hc : X.calm = true)
    (S : CompSc X scope fv js) (T : Turn X.prog X.w X.K target J fp it tn) (st : tn 0 s.heap) (hf : ∀ b ∈ fp, FpOk X pins H b)
    (hg : ∀ cl C s₀ H₀ ex, PG (compCxF X scope (tg ++ fv) cl C s₀ H₀ ex) target g) (hi : ∀ cl C s₀ H₀ ex, PIfs (compCxF X scope (tg ++ fv) cl C s₀ H₀ ex) ifs tc) (he : ∀ cl C s₀ H₀ ex, PE (compCxF X scope (tg ++ fv) cl C s₀ H₀ ex) elt te) (q : compQF (startF σ tg.length js) J g tc te Q H)
    (hRR : ∀ D C H' s' m, s'.os = s.os → AllBare s'.gens → Un (frs X.stack) fp H H' s.heap s'.heap → HOk X.prog X.w H' s'.heap → s'.heap.Ns C m → H' C = none → s.heap.objs.size ≤ C → Q (.ref D) H' → RR (.ref D) C (.ok .next) s') :
    wpAny (model X.prog X.w) X.A (newList []) (fun acc s3 => wpAny (model X.prog X.w) X.A (newFunctionEnv scope X.env.globals (closOf X.env.cells scope.names []) [] X.env.qual none .none (some X.env)) (fun cenv s4 =>
      codeAny (model X.prog X.w) X.A (.compStart (.ListComp elt [⟨target, iter, ifs, 0⟩] scope pos) 0 (.ref it) acc { cenv with scope := relabel scope X.env }) (RR acc cenv.locals) s4) E s3) E s := by
  refine wpAny_newObj_type (wpAny_newFunctionEnv S.cell (by intro y hy; simp at hy) (fun h1 hn k1 => ?_) S.kind)
  dsimp only at hn k1 ⊢
  generalize hg2 : s.heap.push { cls := .type "list", dict := none, data := .seq ([] : List Value).toArray } = g2 at hn k1 ⊢
  have hC : g2.objs.size = s.heap.objs.size + 1 := by rw [← hg2, Heap.size_push]
  have hDC : s.heap.objs.size ≠ g2.objs.size := by rw [hC]; exact Nat.ne_of_lt (Nat.lt_succ_self _)
  have hle : s.heap.objs.size ≤ g2.objs.size := by rw [hC]; exact Nat.le_succ _
  have nD : s.heap.get? s.heap.objs.size = none := Heap.get?_none_of_le (Nat.le_refl _)
  have nC : s.heap.get? g2.objs.size = none := Heap.get?_none_of_le hle
  have old : ∀ b o, s.heap.get? b = some o → h1.get? b = some o := fun b o e => k1.extBut b o (Nat.ne_of_lt (Nat.lt_of_lt_of_le (Heap.lt_size e) hle)) (Heap.get?_push_of_some _ (hg2 ▸ Heap.get?_push_of_some _ e))
  have hl : h1.get? s.heap.objs.size = some { cls := .type "list", data := .seq #[] } := k1.extBut _ _ hDC (Heap.get?_push_of_some _ (hg2 ▸ Heap.get?_push_size _ rfl))
  have ob := T.obj 0 s.heap st
  generalize hcl : closOf X.env.cells scope.names [] = cl
  have ok : (compCxF X scope (tg ++ fv) cl g2.objs.size s H fp).Ok := hcl ▸ comp_okF I S hle hf fun b hb => let ⟨o, e, _⟩ := ob b hb; ⟨o, e⟩
  have I0 : Inv (compCxF X scope (tg ++ fv) cl g2.objs.size s H fp) [] (startF σ tg.length js) (upd H s.heap.objs.size (.lst [])) { s with heap := h1, toks := s.toks + ([] : List (Str × Value)).length } := by
    subst hcl
    exact comp_startF I S ok old nD nC hDC hl hn
  have st1 : tn 0 h1 := T.keep 0 _ _ st fun b _ o e => old b o e
  obtain ⟨W, ⟨m0, w0⟩, turn⟩ := q _ (inv_none I nD)
  have fpok : ∀ {H' : Hp} {ps : List (Addr × Obj)}, (∀ p ∈ ps, p.1 ∉ fp) → (∀ b ∈ fp, H' b = none) → ∀ b ∈ fp, FpOk (compCxF X scope (tg ++ fv) cl g2.objs.size s H fp) ps H' b := fun hps hn b hb => ⟨hn b hb, (ok.exf b hb).1, ok.exfs b hb, .inl hb, (ok.exf b hb).2, fun p hp z => hps p hp (z ▸ hb)⟩
  have loop : codeAny (model X.prog X.w) X.A (.compLoop (.ListComp elt [⟨target, iter, ifs, 0⟩] scope pos) 0 (.ref it) (.ref s.heap.objs.size) (compEnvC scope cl g2.objs.size X.env)) (RR (.ref s.heap.objs.size) g2.objs.size) { s with heap := h1, toks := s.toks + ([] : List (Str × Value)).length } := by
    refine comp_loopF (fun n s' => ∃ i ys τ H', Inv (compCxF X scope (tg ++ fv) cl g2.objs.size s H fp) [] τ H' s' ∧ tn i s'.heap ∧ (∀ b ∈ fp, H' b = none) ∧ W i n ys τ H') (fun n s' hI => ?_) m0 ⟨0, [], _, _, I0, st1, fun b hb => ?_, w0⟩
    · obtain ⟨i, ys, τ, H', I1, t1, f1, w1⟩ := hI
      obtain ⟨hD, w1⟩ := turn i n ys τ H' w1
      rcases w1 with ⟨stop, qn⟩ | ⟨go, hz, step⟩
      · refine thn (T.done (compCxF X scope (tg ++ fv) cl g2.objs.size s H fp) rfl rfl rfl hc i [] s' τ H' _ I1 (fpok (by simp) f1) t1 stop) fun r s2 ⟨hr, I2⟩ => .inl ⟨hr, ?_⟩
        obtain ⟨m, hn2, _⟩ := I2.loc
        exact hRR _ _ H' s2 m I2.os I2.bare I2.base I2.hok hn2 I2.free hle qn
      · refine thn (T.item (compCxF X scope (tg ++ fv) cl g2.objs.size s H fp) rfl rfl rfl hc i [] s' τ H' _ I1 (fpok (by simp) f1) t1 go) fun r s2 ⟨u, hr, h2⟩ => .inr ⟨u, hr, thn h2 fun _ s3 ⟨x, H3, I3, r3, y3, t3, f3⟩ => ?_⟩
        have I3' := I3.pinned (fpok (by simp) f3) (T.obj _ _ t3)
        have back : ∀ {s6 : Shared} {τ4 : L2.St} {H6 : Hp}, Inv (compCxF X scope (tg ++ fv) cl g2.objs.size s H fp) ([] ++ pinsAt fp s3.heap) τ4 H6 s6 → tn (i + 1) s6.heap ∧ ∀ b ∈ fp, H6 b = none := fun I6 =>
          ⟨T.keep _ _ _ t3 fun b hb o e => (I6.pin (b, o) (List.mem_append_right _ (List.mem_append_right _ (mem_pinsAt hb e)))).1, fun b hb => by
            obtain ⟨o, e, _⟩ := T.obj _ _ t3 b hb
            exact (I6.pin (b, o) (List.mem_append_right _ (List.mem_append_right _ (mem_pinsAt hb e)))).2.1⟩
        refine thn ((hg _ _ _ _ _) _ s3 τ H3 x u _ I3' r3 (step x H3 y3)) fun _ s4 ⟨τ4, H4, I4, q4⟩ => ?_
        refine thn ((hi _ _ _ _ _).run _ s4 τ4 H4 _ I4 q4) fun b s5 ⟨H5, I5, q5⟩ => ?_
        cases b with
        | false =>
          obtain ⟨m', hm, w5⟩ := (show ∃ m', m' < n ∧ W (i + 1) m' ys τ4 H5 from q5)
          obtain ⟨b1, b2⟩ := back I5
          exact ⟨m', hm, i + 1, _, τ4, _, I5.unpinned, b1, b2, w5⟩
        | true =>
          refine thn ((he _ _ _ _ _) _ s5 τ4 H5 _ I5 q5) fun z s6 ⟨y, H6, I6, r6, hD6, m', hm, w6⟩ => ?_
          refine thn (mt_append _ s6 τ4 H6 (.ref s.heap.objs.size) [y] (.ref s.heap.objs.size) [z] (fun _ H7 => H7 = upd H6 s.heap.objs.size (.lst (ys ++ [y]))) I6 rfl (.cons r6 .nil) ⟨_, ys, y, rfl, rfl, hD6, hz, rfl⟩) fun _ s7 ⟨v7, H7, I7, _, e7⟩ => ?_
          subst e7
          obtain ⟨b1, b2⟩ := back I7
          exact ⟨m', hm, i + 1, _, τ4, _, I7.unpinned, b1, b2, w6⟩
    · obtain ⟨o, e, _⟩ := ob b hb
      rw [upd_ne (Nat.ne_of_lt (Heap.lt_size e))]
      exact (hf b hb).1
  exact codeAny_compStart_list loop (T.self _ 0 _ _ _ st1 loop)
def tCompF (n : Nat) (js : List Nat) (wi : TI) (g : TG) (tc : TT) (te : TE) : TE := fun σ H Q => wi σ H fun J H1 => compQF (startF σ n js) J g tc te Q H1
theorem pe_compF {wi : TI} (tg : List Str) (hc : X.calm = true) (S : CompSc X scope fv js) (hi : PI X target iter wi)
    (hg : ∀ cl C s₀ H₀ ex, PG (compCxF X scope (tg ++ fv) cl C s₀ H₀ ex) target g) (hf : ∀ cl C s₀ H₀ ex, PIfs (compCxF X scope (tg ++ fv) cl C s₀ H₀ ex) ifs tc) (he : ∀ cl C s₀ H₀ ex, PE (compCxF X scope (tg ++ fv) cl C s₀ H₀ ex) elt te) (hs : ∀ x, foldedSetIterable iter X.env x = pure x := by intro _; rfl) :
    PE X (.ListComp elt [⟨target, iter, ifs, 0⟩] scope pos) (tCompF tg.length js wi g tc te) := by
  constructor; intro pins s σ H Q I h
  rw [eval_ListComp]
  refine wpAny_comprehension_free (use := none) rfl hs (S.clos I.ok) S.kind S.names (thn (hi pins s σ H _ I h) fun v s1 h1 => thn h1 fun itv s2 h2 => ?_)
  obtain ⟨it, fp, tn, J, H2, rfl, I2, T, st2, f2, q⟩ := h2
  refine comp_blockF (RR := fun acc C => compPost (model X.prog X.w) X.A X.xe none (EP X pins σ Q) acc C) tg I2 hc S T st2 f2 hg hf he q fun D C H' s' m os bare un hok hn nC hC qq => ⟨m, hn, fun h' k => ?_⟩
  obtain ⟨IX, fC⟩ := comp_after I2 f2 os bare un hok nC hC
  exact ⟨.ref D, H', inv_but IX fC k, rfl, qq⟩
/-- y = [..] -/
theorem ps_compF {wi : TI} {i : Nat} {y : Str} {py spos : Pos} (tg : List Str) (hc : X.calm = true) (hN : X.N.Nodup) (hy : X.N[i]? = some y) (hk : X.env.scope.names.lookup y = some .local) (S : CompSc X scope fv js) (hi : PI X target iter wi)
    (hsw : swapsWith (.ListComp elt [⟨target, iter, ifs, 0⟩] scope pos) (some (.Name y py)) spos.line X.env = pure true)
    (hg : ∀ cl C s₀ H₀ ex, PG (compCxF X scope (tg ++ fv) cl C s₀ H₀ ex) target g) (hf : ∀ cl C s₀ H₀ ex, PIfs (compCxF X scope (tg ++ fv) cl C s₀ H₀ ex) ifs tc) (he : ∀ cl C s₀ H₀ ex, PE (compCxF X scope (tg ++ fv) cl C s₀ H₀ ex) elt te) (hs : ∀ x, foldedSetIterable iter X.env x = pure x := by intro _; rfl) :
    PS X (.Assign [.Name y py] (.ListComp elt [⟨target, iter, ifs, 0⟩] scope pos) spos) (fun D σ H => tCompF tg.length js wi g tc te σ H fun v H1 => D.nx (σ.set i (some v)) H1) := by
  constructor; intro pins s σ H D I h
  rw [exec_Assign_Name_used _ _ _ _ hsw]
  refine wpAny_bind (wpAny_standAt (wpAny_bind (wpAny_bind (wpAny_mono (Q := fun _ s' => SP X pins D .next s') (E := X.xe) (wpAny_comprehension_free (use := some (assign (.Name y py) X.env)) rfl hs (S.clos I.ok) S.kind S.names
    (thn (hi pins s σ H _ I h) fun v s1 h1 => thn h1 fun itv s2 h2 => ?_)) (fun _ s' q => wpAny_pure (wpAny_pure q)) fun _ _ z => z))))
  obtain ⟨it, fp, tn, J, H2, rfl, I2, T, st2, f2, q⟩ := h2
  refine comp_blockF (RR := fun acc C => compPost (model X.prog X.w) X.A X.xe (some (assign (.Name y py) X.env)) (fun _ s' => SP X pins D .next s') acc C) tg I2 hc S T st2 f2 hg hf he q fun L C H' s' m os bare un hok hn nC hC qq => ?_
  obtain ⟨IX, fC⟩ := comp_after I2 f2 os bare un hok nC hC
  refine wpAny_assign_Name (store_ok2 IX hN hy (.inl hk) (v := .ref L) rfl (fun s3 I3 ⟨a, k3, ha⟩ => ?_) (.inr hk))
  have ne : C ≠ a := by
    rcases ha with z | z
    · rw [z]; exact fC.2.1
    · exact fun w' => fC.2.2.2.2.1 y a z w'.symm
  exact ⟨m, hn.sameBut k3 ne, fun h' k => ⟨_, H', inv_but I3 fC k, qq⟩⟩
end
theorem allc_nil {α : Type} {P : α → Prop} : ∀ x ∈ ([] : List α), P x := fun _ h => by cases h
theorem allc_cons {α : Type} {P : α → Prop} {a : α} {l : List α} (h : P a) (t : ∀ x ∈ l, P x) : ∀ x ∈ a :: l, P x := fun x hx => by
  rcases List.mem_cons.mp hx with e | e
  · exact e ▸ h
  · exact t x e
/-- what is gathered: of each turn one element, or none -/
theorem compQF_map {σ0 fs : L2.St} {k : Nat} {J : It} {g : TG} {tc : TT} {te : TE} {Q : VK} {H1 : Hp} (n : Nat) (f : Nat → Option V) (h0 : σ0 = List.replicate k none ++ fs) (hz : n ≤ sizeLine) (hgo : ∀ i H, Same H1 H → i < n → J.go i H) (hstop : ∀ H, Same H1 H → J.stop n H)
    (step : ∀ i H (ts : L2.St) v H' (R : Option V → L2.St → Hp → Prop), Same H1 H → i < n → ts.length = k → J.yld i H v H' → (∀ (ts2 : L2.St) H3, ts2.length = k → Same H H3 → R (f i) (ts2 ++ fs) H3) →
      g v (ts ++ fs) H' fun τ2 H2 => tc τ2 H2 fun ok H3 => if ok = true then te τ2 H3 fun y H4 => R (some y) τ2 H4 else R none τ2 H3)
    (fin : ∀ D H', H1 D = none → Same H1 H' → H' D = some (.lst ((List.range n).filterMap f)) → Q (.ref D) H') : compQF σ0 J g tc te Q H1 := by
  intro D hD
  refine ⟨fun i m ys τ H => m = n - i ∧ i ≤ n ∧ ys = (List.range i).filterMap f ∧ (∃ ts : L2.St, ts.length = k ∧ τ = ts ++ fs) ∧ Same H1 H ∧ H D = some (.lst ys), ⟨n, rfl, Nat.zero_le _, rfl, ⟨_, List.length_replicate, h0⟩, Same.upd hD, upd_same⟩, ?_⟩
  rintro i m ys τ H ⟨rfl, hi, rfl, ⟨ts, ht, rfl⟩, ss, hd⟩
  refine ⟨hd, ?_⟩
  by_cases hlt : i < n
  · have hl : ((List.range i).filterMap f).length < sizeLine := Nat.lt_of_le_of_lt (List.length_filterMap_le _ _) (by rw [List.length_range]; omega)
    refine .inr ⟨hgo i H ss hlt, hl, fun v H' y => step i H ts v H' (fun o τ2 H3 => match o with
      | some y => H3 D = some (.lst ((List.range i).filterMap f)) ∧ ∃ m', m' < n - i ∧ m' = n - (i + 1) ∧ i + 1 ≤ n ∧ (List.range i).filterMap f ++ [y] = (List.range (i + 1)).filterMap f ∧ (∃ ts : L2.St, ts.length = k ∧ τ2 = ts ++ fs) ∧ Same H1 (upd H3 D (.lst ((List.range i).filterMap f ++ [y]))) ∧ upd H3 D (.lst ((List.range i).filterMap f ++ [y])) D = some (.lst ((List.range i).filterMap f ++ [y]))
      | none => ∃ m', m' < n - i ∧ m' = n - (i + 1) ∧ i + 1 ≤ n ∧ (List.range i).filterMap f = (List.range (i + 1)).filterMap f ∧ (∃ ts : L2.St, ts.length = k ∧ τ2 = ts ++ fs) ∧ Same H1 H3 ∧ H3 D = some (.lst ((List.range i).filterMap f))) ss hlt ht y fun ts2 H3 h2 s3 => ?_⟩
    cases e : f i with
    | none =>
      refine ⟨n - (i + 1), by omega, rfl, hlt, ?_, ⟨ts2, h2, rfl⟩, ss.trans s3, s3 _ _ hd⟩
      rw [List.range_succ, List.filterMap_append]
      simp [e]
    | some y =>
      refine ⟨s3 _ _ hd, n - (i + 1), by omega, rfl, hlt, ?_, ⟨ts2, h2, rfl⟩, (ss.trans s3).again hD, upd_same⟩
      rw [List.range_succ, List.filterMap_append]
      simp [e]
  · have e : i = n := by omega
    subst e
    exact .inl ⟨hstop H ss, fin D H hD ss hd⟩
end My
/-! ### dicts: d.setdefault(k, x), sorted(d); any(xs); forms for a block's context -/
namespace My
open PySem PySem.Spec PyProof.Rows L2
section
variable {X : Cx} {pins : List (Addr × Obj)} {σ : L2.St} {H : Hp} {s : Shared} {a : Addr} {kvs : List (Key × V)} {k : Key} {u r : Value} {d : V} {A : Around} {E : Value → Shared → Prop}
end
section
variable {X : Cx} {o e f : Expr} {td ty tx : TE} {apos cpos : Pos}
/-- o.f and d[k] in a block's context -/
theorem pe_fldK {K : PySem.W.Frag} {e : Expr} {ta : TE} {f : Str} {pos : Pos} (hK : X.K = K) (he : PE X e ta) (hb : attributeBase e f X.env (eval e X.env) = eval e X.env) : PE X (.Attribute e f pos) (tFld K ta f) := by
  subst hK
  exact pe_fld he hb
end
section
variable {K : PySem.W.Frag}
end
/-- xs.append(y): the heap behind it by what it has -/
def rAppendA : V → List V → Hp → VK → Prop := fun x vs H Q => ∃ l xs y, x = .ref l ∧ vs = [y] ∧ H l = some (.lst xs) ∧ xs.length < sizeLine ∧ ∀ H', H' l = some (.lst (xs ++ [y])) → (∀ b o, b ≠ l → H b = some o → H' b = some o) → Q .non H'
theorem mt_appendA {X : Cx} : MtM X "list.append" rAppendA := by
  intro pins s σ H x vs v us Q I rx rv h
  obtain ⟨l, xs, y, ex, ev, hH, hz, q⟩ := h
  exact mt_append pins s σ H x vs v us Q I rx rv ⟨l, xs, y, ex, ev, hH, hz, q _ upd_same fun b o n e => by rw [upd_ne n]; exact e⟩
theorem ifjoin {c : TT} {t u : TS} {D : Ends} {σ : L2.St} {H : Hp} {b : Bool} (h1 : ∀ Q : Bool → Hp → Prop, Q b H → c σ H Q) (h2 : if b = true then t D σ H else u D σ H) : tIfS c t u D σ H := h1 _ h2
end My
/-! ### for i, x in enumerate(xs), xs a list -/
namespace My
open PySem PySem.Spec PyProof.Rows L2
def ItE (K : PySem.W.Frag) (a : Addr) : It :=
  ⟨fun i H => ∃ xs x, SqL K H a xs ∧ xs[i]? = some x, fun i H v H' => ∃ p x, (∀ xs, SqL K H a xs → xs[i]? = some x) ∧ v = .ref p ∧ H p = none ∧ H' = upd H p (.tup [.int i, x]), fun i H => ∃ xs, SqL K H a xs ∧ xs.length = i⟩
section
variable {P : Program} {w : World} {K : PySem.W.Frag}
/-- two objects that nobody tracks were written, others made -/
theorem inv_two {X : Cx} {pins : List (Addr × Obj)} {σ : L2.St} {H : Hp} {s : Shared} {e it : Addr} {h' : Heap} {t' : Nat} (I : Inv X pins σ H s) (fe : FpOk X pins H e) (fi : FpOk X pins H it) (oe : ∃ o, h'.get? e = some o) (oi : ∃ o, h'.get? it = some o)
    (k : ∀ b o, b ≠ e → b ≠ it → s.heap.get? b = some o → h'.get? b = some o) : Inv X pins σ H { s with heap := h', toks := t' } := by
  have nb : ∀ b o, H b = some o → b ≠ e ∧ b ≠ it := fun b o q => ⟨fun z => (by rw [z, fe.1] at q; cases q), fun z => (by rw [z, fi.1] at q; cases q)⟩
  refine I.call' (ch := [e, it]) (s' := { s with heap := h', toks := t' }) rfl ⟨fun b o q _ _ hx => ?_, fun b o q _ _ hx => ?_, fun b o q n _ => n, fun b o q hx => ?_, fun b xs q => q, fun b o u q => q, fun b ps (q : H b = _) => ⟨#[], by rw [q]; simp⟩⟩ (fun b u q => ?_) I.bare fun b hb => ?_
  · simp only [List.mem_cons, List.not_mem_nil, or_false, not_or] at hx
    exact k b o hx.1 hx.2 q
  · simp only [List.mem_cons, List.not_mem_nil, or_false, not_or] at hx
    exact ⟨o.slots, k b o hx.1 hx.2 q⟩
  · by_cases z : b = e
    · rw [z]; exact oe
    · by_cases y : b = it
      · rw [y]; exact oi
      · exact ⟨o, k b o z y q⟩
  · refine (I.hok b u q).stay (fun c v hc z => ?_) (fun c z => z) fun c xs z => z
    rcases hc with y | y
    · subst y
      obtain ⟨n1, n2⟩ := nb _ _ q
      exact k _ v n1 n2 z
    · obtain ⟨n1, n2⟩ := nb _ _ y
      exact k _ v n1 n2 z
  · simp only [List.mem_cons, List.not_mem_nil, or_false] at hb
    rcases hb with rfl | rfl
    · exact ⟨fe.2.2.2.1, fe.2.1, fe.2.2.2.2.1, fe.2.2.2.2.2⟩
    · exact ⟨fi.2.2.2.1, fi.2.1, fi.2.2.2.2.1, fi.2.2.2.2.2⟩
theorem turn_enum (a e it : Addr) (hei : e ≠ it) {elts : List Expr} {kk : Nat} {tpos : Pos} : Turn P w K (.Tuple elts kk tpos) (ItE K a) [e, it] e (fun i h => (∃ old, IsEnum h e it i old) ∧ h.IsListIter it a i) where
  mem := by simp
  obj := fun i h ⟨⟨old, he⟩, hi⟩ c hc => by
    simp only [List.mem_cons, List.not_mem_nil, or_false] at hc
    rcases hc with z | z
    · rw [z]; exact ⟨_, he, fun v z => by simp at z⟩
    · rw [z]
      obtain ⟨o, eo, c, d⟩ := hi
      exact ⟨o, eo, fun v z => by rw [d] at z; cases z⟩
  keep := fun i h h' ⟨⟨old, he⟩, hi⟩ k => ⟨⟨old, k e (by simp) _ he⟩, hi.at fun o eo => k it (by simp) o eo⟩
  item := by
    intro X hP hw hK hc i pins s σ H E I hf st hg
    subst hP hw hK
    obtain ⟨⟨old, he⟩, hi⟩ := st
    obtain ⟨xs, x, hq, hx⟩ := hg
    obtain ⟨its, rv, p, hz⟩ := I.list hq
    obtain ⟨u, hu, ru⟩ := rv.get hx
    have hlt : i < its.toArray.size := by rw [List.size_toArray]; exact (List.getElem?_eq_some_iff.mp hu).1
    have hai : a ≠ it := fun z => by
      obtain ⟨o, e1, c1, _⟩ := p.isList
      obtain ⟨o2, e2, c2, _⟩ := hi
      rw [z, e2] at e1
      cases e1
      rw [c2] at c1
      exact absurd c1 (by decide)
    have hae : e ≠ a := fun z => by
      obtain ⟨o, e1, c1, _⟩ := p.isList
      rw [← z, he] at e1
      cases e1
      exact absurd c1 (show ¬ (Value.type "enumerate" = Value.type "list") from by decide)
    refine wpAny_pyNext_enum_itemD (Draws.list (A := X.A.in1) (I.ok.hd hc) it a hai its.toArray) he ⟨hi, p.isList⟩ hlt hei ?_ fun x' h' tk hx' ho' st' ht' hz' k' => ?_
    · simp only [List.mem_cons, List.not_mem_nil, or_false, not_or]
      exact ⟨hei, hae⟩
    have ex : x' = u := by
      have : its[i]? = some x' := by simpa using hx'
      rw [hu] at this
      exact (Option.some.inj this).symm
    subst ex
    refine ⟨_, rfl, wpAny_letOwnedTupleGo_enum ho' fun h2 he2 hs2 => ?_⟩
    have helt : e < s.heap.objs.size := Heap.lt_size he
    have hilt : it < s.heap.objs.size := let ⟨o, eo, _⟩ := hi; Heap.lt_size eo
    have nT : s.heap.get? s.heap.objs.size = none := Heap.get?_none_of_le (Nat.le_refl _)
    have hT : h2.get? s.heap.objs.size = some { cls := .type "tuple", data := .seq #[.int i tk, x'] } := hs2.extBut _ _ (Nat.ne_of_gt helt) ht'
    have st2 := st'.1.at fun o eo => hs2.extBut _ _ (Ne.symm hei) eo
    have I2 : Inv X pins σ H { s with heap := h2, toks := tk + 1 } := inv_two I (hf e (by simp)) (hf it (by simp)) ⟨_, he2⟩ (let ⟨o, eo, _⟩ := st2; ⟨o, eo⟩) fun b o n1 n2 q => hs2.extBut _ _ n1 (k' b o n1 n2 q)
    have HT : H s.heap.objs.size = none := inv_none I nT
    have I3 : Inv X pins σ (upd H s.heap.objs.size (.tup [.int i, x])) { s with heap := h2, toks := tk + 1 } := inv_track I I2 nT HT ⟨by show 2 ≤ sizeLine; decide, [.int i tk, x'], .cons ⟨_, rfl⟩ (.cons ru .nil), _, hT, rfl, _, rfl⟩
    refine ⟨.ref s.heap.objs.size, _, I3, rfl, ⟨s.heap.objs.size, x, fun ys hy => by rw [I.list_inj hy hq]; exact hx, rfl, HT, rfl⟩, ⟨⟨_, he2⟩, st2⟩, fun c hcm => ?_⟩
    simp only [List.mem_cons, List.not_mem_nil, or_false] at hcm
    rcases hcm with z | z
    · rw [z, upd_ne (Nat.ne_of_lt helt)]; exact (hf e (by simp)).1
    · rw [z, upd_ne (Nat.ne_of_lt hilt)]; exact (hf it (by simp)).1
  done := by
    intro X hP hw hK hc i pins s σ H E I hf st hg
    subst hP hw hK
    obtain ⟨⟨old, he⟩, hi⟩ := st
    obtain ⟨xs, hq, hx⟩ := hg
    obtain ⟨its, rv, p, hz⟩ := I.list hq
    have hai : a ≠ it := fun z => by
      obtain ⟨o, e1, c1, _⟩ := p.isList
      obtain ⟨o2, e2, c2, _⟩ := hi
      rw [z, e2] at e1
      cases e1
      rw [c2] at c1
      exact absurd c1 (by decide)
    have hn : its.toArray.size = i := by rw [List.size_toArray, ← rv.length]; exact hx
    subst hn
    refine wpAny_pyNext_enum_endD (Draws.list (A := X.A.in1) (I.ok.hd hc) it a hai its.toArray) he ⟨hi, p.isList⟩ fun h' k => ⟨rfl, ?_⟩
    obtain ⟨f0, f1, f2, f3, f4, f5⟩ := hf it (by simp)
    exact I.turned (t' := s.toks) (fun b o hb eo => k b o hb eo) f0 f1 f3 f4 f5
  self := fun _ _ _ _ _ st h => let ⟨⟨_, he⟩, _⟩ := st; wpAny_pyIter_enum he h
end
section
variable {X : Cx}
def iEnum (K : PySem.W.Frag) (ta : TA) : TI := fun σ H R => ta σ H fun vs H1 => ∃ a xs, vs = [.ref a] ∧ H1 a = some (.lst xs) ∧ R (ItE K a) H1
theorem pi_enum {a : Expr} {ta : TA} {p pos : Pos} {elts : List Expr} {kk : Nat} {tpos : Pos} (hg : Gl X "enumerate") (hm : X.mg "enumerate" = none) (ha : PA X [a] ta) (hs : starEach [a] X.env = [(false, eval a X.env)] := by rfl) :
    PI X (.Tuple elts kk tpos) (.Call (.Name "enumerate" p) [a] [] pos) (iEnum X.K ta) := by
  constructor; intro pins s σ H R I h
  refine Call_ (ld_blt I hg hm boot_enumerate (PyProof.Rows.callWith_type1 (thn (ha pos pins s σ H _ I h) fun us s1 ⟨vs, H1, I1, r1, q1⟩ => ?_) hs rfl))
  obtain ⟨l, xs, rfl, hl, q⟩ := q1
  obtain ⟨u, rfl, ru⟩ := vals1 r1
  cases ru
  obtain ⟨z, its, n, rv, e⟩ := (show ObjOk X.prog X.w H1 s1.heap l (.lst xs) from I1.hok l _ hl)
  refine call_enumerate_1 e fun h' he hi hz k => ?_
  have I2 : Inv X pins σ H1 { s1 with heap := h' } := I1.kept (t' := s1.toks) k
  refine wpAny_pyIter_enum (s := { s1 with heap := h' }) he ⟨s1.heap.objs.size + 1, [s1.heap.objs.size + 1, s1.heap.objs.size], _, ItE X.K l, H1, rfl, I2, turn_enum l _ _ (Nat.ne_of_gt (Nat.lt_succ_self _)), ⟨⟨_, he⟩, hi⟩, fun b hb => ?_, q⟩
  have hb' : s1.heap.objs.size ≤ b := by
    simp only [List.mem_cons, List.not_mem_nil, or_false] at hb
    rcases hb with z | z <;> (rw [z]; first | exact Nat.le_succ _ | exact Nat.le_refl _)
  exact I1.fpOk hb' (I1.hok.fresh hb')
end
theorem for_enum {K : PySem.W.Frag} {a : Addr} {xs : List V} {g : TG} {tb : TS} {D : Ends} {σ : L2.St} {H : Hp} (Pv : Nat → L2.St → Hp → Prop) (h0 : Pv 0 σ H) (hl : ∀ i σ H, Pv i σ H → SqL K H a xs)
    (hs : ∀ i x σ H p, xs[i]? = some x → Pv i σ H → H p = none → g (.ref p) σ (upd H p (.tup [.int i, x])) fun σ2 H2 => tb { D with nx := Pv (i + 1), ct := Pv (i + 1), bk := D.nx } σ2 H2) (hd : ∀ σ H, Pv xs.length σ H → D.nx σ H) :
    ∃ W : Nat → Nat → L2.St → Hp → Prop, (∃ m, W 0 m σ H) ∧ ∀ i m σ H, W i m σ H →
      ((ItE K a).stop i H ∧ D.nx σ H) ∨ ((ItE K a).go i H ∧ ∃ N : L2.St → Hp → Prop, (∀ σ' H', N σ' H' → ∃ m', m' < m ∧ W (i + 1) m' σ' H') ∧ ∀ x H', (ItE K a).yld i H x H' → g x σ H' fun σ2 H2 => tb { D with nx := N, ct := N, bk := D.nx } σ2 H2) := by
  refine ⟨fun i m σ H => m = xs.length - i ∧ i ≤ xs.length ∧ Pv i σ H, ⟨xs.length, by simp, Nat.zero_le _, h0⟩, ?_⟩
  rintro i m σ H ⟨rfl, hi, p⟩
  by_cases hlt : i < xs.length
  · refine .inr ⟨⟨xs, xs[i], hl i σ H p, by simp [hlt]⟩, Pv (i + 1), fun σ' H' p' => ⟨xs.length - (i + 1), by omega, rfl, hlt, p'⟩, ?_⟩
    rintro x H' ⟨q, y, hy, rfl, hq, rfl⟩
    exact hs i y σ H q (hy xs (hl i σ H p)) p hq
  · have e : i = xs.length := by omega
    subst e
    exact .inl ⟨⟨xs, hl _ σ H p, rfl⟩, hd σ H p⟩
end My
/-! ### try: o.m(..) / except S as n: suite -/
namespace My
open PySem PySem.Spec PyProof.Rows L2
section
variable {X : Cx}
/-- what a call raised is caught -/
theorem caught {ho : Addr → Addr → Option Addr → HO} {S : Addr} {c n : Str} {j : Nat} {b₀ : Stmt} {suite : List Stmt} {th : TS} {np hpos : Pos} {pins : List (Addr × Obj)} {σ : L2.St} {H1 : Hp} {s1 s' : Shared} {D : Ends} {e : Value}
    (I1 : Inv X pins σ H1 s1) (hq : CXW X.prog X.w X.stack H1 s1 (fun cls d H2 => ∃ C, cls = .ref C ∧ PySem.W.subIn X.K (.ref C) (.ref S) = some true ∧ ∀ ea, H2 ea = none → th (gone j D) (σ.set j (some (.ref ea))) (upd H2 ea (ho ea C d))) e s')
    (T : ExcS X.K X.mg c S) (hgc : Gl X c) (hN : X.N.Nodup) (hj : X.N[j]? = some n) (hxn : X.env.scope.names.lookup n = some .local) (hst : X.stack = X.env :: X.outer) (hfr : X.env.frame = some X.env.locals)
    (hs : ∀ ea, PSs (markX X ea) (b₀ :: suite) th) (hho : ∀ (H : Hp) (h : Heap) (ea C : Addr) (d : Option Addr), IsExcK ea C d h → ObjOk X.prog X.w H h ea (ho ea C d)) (hdc : (c == ("__debug__" : Str)) = false) :
    wpAny (model X.prog X.w) X.A (noteFrame e X.env) (fun _ s₂ => wpAny (model X.prog X.w) X.A (setFlight e none) (fun _ s₃ => wpAny (model X.prog X.w) X.A (handleBy e X.env [.ExceptHandler (some (.Name c np)) (some n) (b₀ :: suite) hpos]) (SP X pins D) X.xe s₃) X.xe s₂) X.xe s' := by
  obtain ⟨ea, cls, a0, B, H', d, rfl, os, bare, un, hok, fl, bk, n1, n2, ⟨o0, ho0, hd0⟩, C, hcls, hsub, hth⟩ := hq
  subst hcls
  have fl' := fl
  rw [hst] at fl'
  have hfnn : ∀ b ∈ frs X.stack, ∃ o, s'.heap.get? b = some o ∧ ∀ vs, o.data ≠ .fields vs := fun b hb => (fl.2.2.1.mem hb).2
  refine wpAny_mono (wpAny_calm (calm_noteFrame _ _) (wpAny_looks_onW (Q := fun _ s'' => ∃ h4, s'' = { s' with heap := h4 } ∧ Heap.HeldW B (X.env :: X.outer) ea (.ref C) a0 X.env.locals h4 ∧ s'.heap.UpToSlots h4) (by rw [I1.ok.frames, hst]) hfr fl' fun h4 x1 x2 => ⟨h4, rfl, x1, x2⟩)) (fun _ s'' ⟨⟨h4, e4, held, sm4⟩, dk4⟩ => ?_) fun _ _ z => z.1
  subst e4
  refine wpAny_mono (wpAny_calm (calm_setFlight _ _) (wpAny_landsW (Q := fun _ s'' => ∃ h5, s'' = { s' with heap := h5 } ∧ Heap.FlyingW B (X.env :: X.outer) ea (.ref C) a0 h5 ∧ h4.UpToSlots h5) held fun h5 x1 x2 => ⟨h5, rfl, x1, x2⟩)) (fun _ s'' ⟨⟨h5, e5, fl5, sm5⟩, dk5⟩ => ?_) fun _ _ z => z.1
  subst e5
  obtain ⟨ob, hob, hobc⟩ := fl5.there
  obtain ⟨un5, hok5, _, _⟩ := carry I1 un hok bk fl5.1 (sm4.trans sm5) hfnn
  have I5 : Inv X pins σ H' { s' with heap := h5 } := I1.call' (s' := { s' with heap := h5 }) os un5 hok5 bare (fun b z => absurd z (by simp))
  refine wpAny_handleBy_cons (codeAny_handlers_test (ld_glob (X := markX X ea) (inv_mark I5 ea) hgc T.bound ?_ hdc)) (by intro z; cases z)
  refine exc_matches (K := X.K) I5.kIn hob hobc T.ty T.it T.mB hsub (codeAny_handlers_suite_as ?_)
  refine wpAny_mono (wpAny_calm (calm_setFlight _ _) (lands_againW (Q := fun _ s'' => ∃ h6, s'' = { s' with heap := h6 } ∧ Heap.FlyingW B (X.env :: X.outer) ea (.ref C) a0 h6 ∧ h5.UpToSlots h6) fl5 fun h6 x1 x2 => ⟨h6, rfl, x1, x2⟩)) (fun _ s'' ⟨⟨h6, e6, fl6, sm6⟩, dk6⟩ => ?_) fun _ _ z => z.1
  subst e6
  obtain ⟨ob6, vs6, hob6, hobc6, hdat6, _⟩ := fl6.first
  have isK : IsExcK ea C d h6 := by
    obtain ⟨o4, ho4, hd4⟩ := dk4 ea o0 ho0
    obtain ⟨o5, ho5, hd5⟩ := dk5 ea o4 ho4
    obtain ⟨o6, ho6, hd6⟩ := dk6 ea o5 ho5
    have ho6' : h6.get? ea = some o6 := ho6
    rw [hob6] at ho6'
    cases ho6'
    exact ⟨ob6, hob6, hobc6, by unfold PySem.W.notCls; rw [hdat6], hd6.trans (hd5.trans (hd4.trans hd0))⟩
  obtain ⟨un6, hok6, _, _⟩ := carry I1 un hok bk fl6.1 ((sm4.trans sm5).trans sm6) hfnn
  have I6 : Inv X pins σ H' { s' with heap := h6 } := I1.call' (s' := { s' with heap := h6 }) os un6 hok6 bare (fun b z => absurd z (by simp))
  have I7 : Inv X pins σ (upd H' ea (ho ea C d)) { s' with heap := h6 } := inv_track I1 I6 n2 n1 (hho _ _ _ _ _ isK)
  refine store_ok (X := markX X ea) (i := j) (v := .ref ea) (inv_mark I7 ea) hN hj (.inl hxn) rfl (fun s8 I8 => ?_) (.inr hxn)
  refine wpAny_mono (hs ea pins _ _ _ (gone j D) I8 (hth ea n1)) (fun f2 s2 z => ?_) fun _ _ z => z.elim
  have z' := sp_unmark I6.ok z
  cases f2 with
  | next => obtain ⟨σ', H9, I9, q⟩ := z'; exact name_goes I9 hN hj hxn fun s3 I3 => ⟨_, H9, I3, q⟩
  | brk => obtain ⟨σ', H9, I9, q⟩ := z'; exact name_goes I9 hN hj hxn fun s3 I3 => ⟨_, H9, I3, q⟩
  | cont => obtain ⟨σ', H9, I9, q⟩ := z'; exact name_goes I9 hN hj hxn fun s3 I3 => ⟨_, H9, I3, q⟩
  | ret u => obtain ⟨v, σ', H9, I9, r, q⟩ := z'; exact name_goes I9 hN hj hxn fun s3 I3 => ⟨v, _, H9, I3, r, q⟩
end
end My
/-! ### for k, v in d.items(); for x in reversed(xs) -/
namespace My
open PySem PySem.Spec PyProof.Rows L2
theorem paired_get {α β : Type} {F : α → β → Prop} : ∀ {l : List α} {m : List β} {i : Nat} {a : α}, Paired F l m → l[i]? = some a → ∃ b, m[i]? = some b ∧ F a b
  | _, _, _, _, .nil, e => by simp at e
  | _, _, 0, _, .cons h _, e => by simp at e; subst e; exact ⟨_, rfl, h⟩
  | _, _, i + 1, a, .cons _ t, e => by
    obtain ⟨b, h1, h2⟩ := paired_get (i := i) (a := a) t (by simpa using e)
    exact ⟨b, by simpa using h1, h2⟩
section
variable {P : Program} {w : World} {K : PySem.W.Frag}
end
section
variable {X : Cx}
end
/-! ### reversed(xs) -/
section
variable {X : Cx}
end
end My
/-! ### dicts of numbers and None compared, held ones too; isinstance of any tuple -/
namespace My
open PySem PySem.Spec PyProof.Rows L2
section
variable {X : Cx} {pins : List (Addr × Obj)} {σ : L2.St} {H : Hp} {s : Shared} {a b : Addr} {kvs : List (Key × V)}
end
section
variable {X : Cx}
end
end My
/-! ### xs.insert(0, y) -/
namespace My
open PySem PySem.Spec PyProof.Rows L2
end My
/-! ### text.partition(sep) -/
namespace My
open PySem PySem.Spec PyProof.Rows L2 Builtin.Str
end My
/-! ### texts cut at "; " and put together again -/
namespace My
open PySem PySem.Spec PyProof.Rows L2 Builtin.Str PySem.StrLaws
def pre (d : Nat) : List (List Nat) → List (List Nat)
  | [] => []
  | p :: r => p :: r.map (d :: ·)
end My
/-! ### f"{a}lit", f"{a}lit{b}" of texts -/
namespace My
open PySem PySem.Spec PyProof.Rows L2
section
variable {X : Cx}
end
/-! ### what partition finds -/
section
open Builtin.Str PySem.StrLaws
end
end My
/-! ### min(numbers, default=None); comprehensions whose elements are new objects -/
namespace My
open PySem PySem.Spec PyProof.Rows L2 PyProof
section
variable {prog : Program} {w : World} {A : Around}
end
theorem prs_len {α β : Type} {F : α → β → Prop} {xs : List α} {bs : List β} (p : Paired F xs bs) : xs.length = bs.length := by
  induction p with
  | nil => rfl
  | cons _ _ ih => simp only [List.length_cons, ih]
theorem prs_imp {α β : Type} {F G : α → β → Prop} {xs : List α} {bs : List β} (f : ∀ v a, F v a → G v a) (p : Paired F xs bs) : Paired G xs bs := by
  induction p with
  | nil => exact .nil
  | cons h _ ih => exact .cons (f _ _ h) ih
theorem inV_ints (k : Int) : ∀ ms : List Int, inV (.int k) (ms.map V.int) = ms.contains k
  | [] => rfl
  | m :: r => by
    have ih := inV_ints k r
    unfold inV at ih ⊢
    rw [List.map_cons, List.any_cons, ih, List.contains_cons]
    show ((m == k) || _) = _
    rw [show (m == k) = (k == m) from (Bool.eq_iff_iff.mpr ⟨fun h => beq_iff_eq.mpr (beq_iff_eq.mp h).symm, fun h => beq_iff_eq.mpr (beq_iff_eq.mp h).symm⟩)]
theorem flat_ints (ms : List Int) : (ms.map V.int).all flatV = true := by
  rw [List.all_eq_true]
  intro v hv
  obtain ⟨m, _, rfl⟩ := List.mem_map.mp hv
  rfl
theorem cut_ints (ns : List Int) (lo hi : Option Int) : ∃ ms : List Int, cutV (ns.map V.int) lo hi = ms.map V.int ∧ ms.length ≤ ns.length := by
  refine ⟨(ns.drop (HT.sIx (ns.map V.int).length 0 lo)).take (HT.sIx (ns.map V.int).length (ns.map V.int).length hi - HT.sIx (ns.map V.int).length 0 lo), ?_, ?_⟩
  · unfold cutV
    rw [List.map_take, List.map_drop]
  · rw [List.length_take, List.length_drop]
    omega
theorem find_at {α : Type} {p : α → Bool} : ∀ {xs : List α} {i : Nat} {k : α}, (∀ j x, j < i → xs[j]? = some x → p x = false) → xs[i]? = some k → p k = true → xs.find? p = some k
  | [], _, _, _, h, _ => by simp at h
  | x :: r, 0, k, _, h, hk => by
    have e : x = k := by simpa using h
    subst e
    rw [List.find?_cons, hk]
  | x :: r, i + 1, k, hn, h, hk => by
    rw [List.find?_cons, hn 0 x (Nat.succ_pos i) rfl]
    exact find_at (i := i) (fun j y hj e => hn (j + 1) y (by omega) (by simpa using e)) (by simpa using h) hk
theorem any_none {α : Type} {p : α → Bool} {xs : List α} (h : ∀ j x, j < xs.length → xs[j]? = some x → p x = false) : xs.any p = false := by
  rw [List.any_eq_false]
  intro x hx
  obtain ⟨j, hj, e⟩ := List.getElem_of_mem hx
  rw [h j x hj (by rw [List.getElem?_eq_getElem hj, e])]
  simp
end My
/-! ### list(reversed(xs)) -/
namespace My
open PySem PySem.Spec PyProof.Rows L2 PyProof
section
variable {prog : Program} {w : World} {A : Around} {s : Shared}
end
end My
/-! ### own classes without an __init__, a method by the object's class, isinstance of an own instance, try: f(..), texts -/
namespace My
open PySem PySem.Spec PyProof.Rows L2 PyProof
structure MkO (K : PySem.W.Frag) (C : Addr) : Prop where
  makes : PySem.W.makesIn K C = true
  init : PySem.W.findIn K (.ref C) "__init__" = some (some (.builtin "object.__init__"))
  kp : PySem.W.keepIn K (.ref C) = true
section
variable {X : Cx}
end
end My
/-! ### the table of a set: its places rise -/
namespace My
open PySem PySem.Spec PyProof.Rows L2 PyProof
def Ris (xs : Array Nat) : Prop := xs.toList.Pairwise (· < ·)
theorem Ris.lt {xs : Array Nat} (h : Ris xs) {i j x y : Nat} (hij : i < j) (hi : xs[i]? = some x) (hj : xs[j]? = some y) : x < y := by
  rw [← Array.getElem?_toList] at hi hj
  obtain ⟨i1, e1⟩ := List.getElem?_eq_some_iff.mp hi
  obtain ⟨j1, e2⟩ := List.getElem?_eq_some_iff.mp hj
  have := List.pairwise_iff_getElem.mp h i j i1 j1 hij
  rw [e1, e2] at this
  exact this
theorem below_go {xs : Array Nat} (h : Ris xs) (j : Nat) : ∀ (fuel lo hi : Nat), hi - lo ≤ fuel → lo ≤ hi → hi ≤ xs.size → (∀ k x, xs[k]? = some x → k < lo → x < j) → (∀ k x, xs[k]? = some x → hi ≤ k → j ≤ x) →
    ∀ k x, xs[k]? = some x → (k < SetTable.below.go xs j fuel lo hi → x < j) ∧ (SetTable.below.go xs j fuel lo hi ≤ k → j ≤ x)
  | 0, lo, hi, hf, hle, hs, h1, h2 => fun k x e => by
    unfold SetTable.below.go
    have : lo = hi := by omega
    subst this
    exact ⟨h1 k x e, h2 k x e⟩
  | fuel + 1, lo, hi, hf, hle, hs, h1, h2 => fun k x e => by
    unfold SetTable.below.go
    by_cases hlt : lo < hi
    · rw [if_pos hlt]
      have hm1 : lo ≤ (lo + hi) / 2 := by omega
      have hm2 : (lo + hi) / 2 < hi := by omega
      have hmx : (lo + hi) / 2 < xs.size := by omega
      have em : xs[(lo + hi) / 2]? = some xs[(lo + hi) / 2] := Array.getElem?_eq_getElem hmx
      have eg : xs.getD ((lo + hi) / 2) j = xs[(lo + hi) / 2] := by simp [Array.getD, hmx]
      dsimp only
      rw [eg]
      by_cases hc : xs[(lo + hi) / 2] < j
      · rw [if_pos hc]
        refine below_go h j fuel _ hi (by omega) (by omega) hs (fun k x e hk => ?_) h2 k x e
        by_cases q : k = (lo + hi) / 2
        · subst q
          rw [em] at e
          cases e
          exact hc
        · have := h.lt (show k < (lo + hi) / 2 by omega) e em
          omega
      · rw [if_neg hc]
        refine below_go h j fuel lo _ (by omega) hm1 (by omega) h1 (fun k x e hk => ?_) k x e
        by_cases q : k = (lo + hi) / 2
        · subst q
          rw [em] at e
          cases e
          omega
        · have := h.lt (show (lo + hi) / 2 < k by omega) em e
          omega
    · rw [if_neg hlt]
      have : lo = hi := by omega
      subst this
      exact ⟨h1 k x e, h2 k x e⟩
theorem below_is {xs : Array Nat} (h : Ris xs) (j : Nat) {k x : Nat} (e : xs[k]? = some x) : (k < SetTable.below xs j → x < j) ∧ (SetTable.below xs j ≤ k → j ≤ x) := by
  unfold SetTable.below
  refine below_go h j xs.size 0 xs.size (by omega) (Nat.zero_le _) (Nat.le_refl _) (fun k x _ hk => absurd hk (Nat.not_lt_zero _)) (fun k x e hk => ?_) k x e
  have := (Array.getElem?_eq_some_iff.mp e).1
  omega
/-- the first place not below j, where all before are: the walk's own step -/
theorem below_at {xs : Array Nat} (h : Ris xs) {i x : Nat} (e : xs[i]? = some x) : SetTable.below xs x = i := by
  have hb := below_is h x e
  by_cases q : SetTable.below xs x ≤ i
  · by_cases q2 : SetTable.below xs x = i
    · exact q2
    · have hlt : SetTable.below xs x < i := by omega
      have hi : i < xs.size := (Array.getElem?_eq_some_iff.mp e).1
      have e2 : xs[SetTable.below xs x]? = some xs[SetTable.below xs x] := Array.getElem?_eq_getElem (by omega)
      have h1 := (below_is h x e2).2 (Nat.le_refl _)
      have h2 := h.lt hlt e2 e
      omega
  · have := hb.1 (by omega)
    omega
theorem not_mem_place {xs : Array Nat} (h : Ris xs) {j : Nat} (e : xs[SetTable.below xs j]? ≠ some j) : j ∉ xs.toList := fun hm => by
  obtain ⟨k, hk, ek⟩ := List.getElem_of_mem hm
  have e1 : xs[k]? = some j := by rw [← Array.getElem?_toList, List.getElem?_eq_getElem hk, ek]
  rw [below_at h e1] at e
  exact e e1
theorem Ris.insert {xs : Array Nat} (h : Ris xs) {j : Nat} (hn : j ∉ xs.toList) : Ris (SetTable.insertAt xs (SetTable.below xs j) j) := by
  unfold Ris
  rw [SetTable.toList_insertAt]
  refine List.pairwise_append.mpr ⟨h.sublist (List.take_sublist _ _), List.pairwise_cons.mpr ⟨fun b hb => ?_, h.sublist (List.drop_sublist _ _)⟩, fun a ha b hb => ?_⟩
  · obtain ⟨k, hk, ek⟩ := List.getElem_of_mem hb
    rw [List.getElem_drop] at ek
    have e1 : xs[SetTable.below xs j + k]? = some b := by rw [← Array.getElem?_toList, List.getElem?_eq_getElem (by rw [List.length_drop] at hk; omega), ek]
    have := (below_is h j e1).2 (by omega)
    have ne : b ≠ j := fun z => hn (z ▸ List.mem_of_mem_drop hb)
    omega
  · obtain ⟨k, hk, ek⟩ := List.getElem_of_mem ha
    rw [List.getElem_take] at ek
    rw [List.length_take] at hk
    have e1 : xs[k]? = some a := by rw [← Array.getElem?_toList, List.getElem?_eq_getElem (by omega), ek]
    have h1 := (below_is h j e1).1 (by omega)
    rcases List.mem_cons.mp hb with z | z
    · omega
    · obtain ⟨k2, hk2, ek2⟩ := List.getElem_of_mem z
      rw [List.getElem_drop] at ek2
      have e2 : xs[SetTable.below xs j + k2]? = some b := by rw [← Array.getElem?_toList, List.getElem?_eq_getElem (by rw [List.length_drop] at hk2; omega), ek2]
      have := (below_is h j e2).2 (by omega)
      omega
/-- a set's table that was only added to -/
structure TOk (t : SetTable) : Prop where
  up : Ris t.place
  nd : t.dummies = #[]
theorem TOk.fresh (f m : Nat) (l : Bool) : TOk (.fresh f m l) := ⟨List.Pairwise.nil, rfl⟩
theorem TOk.noDummy {t : SetTable} (h : TOk t) (j : Nat) : SetTable.has t.dummies j = false := by
  rw [h.nd]
  unfold SetTable.has
  simp
theorem TOk.probed {t : SetTable} (h : TOk t) {f : Nat → Int} {z : Int} : ∀ (fuel : Nat) (p : SetTable.Probe) {j : Nat} {d : Option Nat}, p.dummy = none → SetTable.probe.go t f z fuel p = some (.empty j d) → d = none ∧ j ∉ t.place.toList
  | 0, p, j, d, hp, e => by unfold SetTable.probe.go at e; cases e
  | fuel + 1, p, j, d, hp, e => by
    unfold SetTable.probe.go at e
    have adv : ∀ q : SetTable.Probe, (t.advance q).dummy = q.dummy := fun q => by
      unfold SetTable.advance
      split <;> rfl
    cases hs : t.slot p.j with
    | empty =>
      rw [hs] at e
      cases e
      refine ⟨hp, not_mem_place h.up fun z => ?_⟩
      unfold SetTable.slot at hs
      simp only [z, beq_self_eq_true, if_true] at hs
      cases hs
    | dummy =>
      exfalso
      unfold SetTable.slot at hs
      simp only [h.noDummy] at hs
      split at hs <;> cases hs
    | live i =>
      rw [hs] at e
      dsimp only at e
      split at e
      · cases e
      · exact TOk.probed h fuel _ (by rw [adv]; exact hp) e
theorem TOk.free {t : SetTable} (h : TOk t) {z : Int} {j : Nat} {b : Bool} (e : t.freeSlot z = some (j, b)) : j ∉ t.place.toList := by
  unfold SetTable.freeSlot at e
  cases hp : t.probe (fun _ => z + 1) z (t.probeStart z) with
  | none => rw [hp] at e; cases e
  | some m =>
    rw [hp] at e
    cases m with
    | candidate a b c => cases e
    | empty j' d =>
      obtain ⟨hd, hn⟩ := h.probed _ _ rfl hp
      subst hd
      cases e
      exact hn
theorem TOk.put {t : SetTable} (h : TOk t) {j : Nat} (hn : j ∉ t.place.toList) : TOk (t.put j).1 ∧ (t.put j).1.led = t.led := by
  refine ⟨⟨h.up.insert hn, ?_⟩, rfl⟩
  show (if SetTable.has t.dummies j = true then _ else t.dummies) = #[]
  rw [h.noDummy, if_neg (by simp)]
  exact h.nd
theorem ris_range (n : Nat) : Ris (Array.range n) := by
  unfold Ris
  rw [Array.toList_range]
  exact List.pairwise_lt_range
theorem TOk.stand (t : SetTable) (n : Nat) : TOk (t.standIn n) ∧ (t.standIn n).led = t.led := ⟨⟨ris_range n, rfl⟩, rfl⟩
end My
/-! ### set(numbers): what the set holds, and its table -/
namespace My
open PySem PySem.Spec PyProof.Rows L2 PyProof
def keyI (e : Int × Value) : Int := match e.2 with
  | .int n _ => n
  | _ => 0
section
variable {prog : Program} {w : World} {A : Around} {E : Value → Shared → Prop} {s : Shared}
/-- the set at a holds just ks, in some order -/
def SetG (prog : Program) (w : World) (h : Heap) (a : Addr) (ks : List Int) (led : Bool) : Prop :=
  ∃ o es ep t, h.get? a = some o ∧ o.ExactSet ∧ o.data = .set es ep t ∧ ElemsOf (intKind prog w) es.toList ∧ es.size < scanBound ∧ t.fits es.size = true ∧ TOk t ∧ t.led = led ∧ (es.toList.map keyI).Perm ks
end
end My
/-! ### set(numbers), made -/
namespace My
open PySem PySem.Spec PyProof.Rows L2 PyProof
/-- each number once, in the order in which they come -/
def dd (ns : List Int) : List Int := ns.foldl step_dedup []
section
variable {prog : Program} {w : World} {A : Around} {E : Value → Shared → Prop} {s : Shared}
theorem SetG.keep {h h' : Heap} {a : Addr} {ks : List Int} {led : Bool} (x : SetG prog w h a ks led) (k : ∀ o, h.get? a = some o → h'.get? a = some o) : SetG prog w h' a ks led :=
  let ⟨o, es, ep, t, ho, r⟩ := x
  ⟨o, es, ep, t, k o ho, r⟩
end
end My
/-! ### the walk over a set of numbers -/
namespace My
open PySem PySem.Spec PyProof.Rows L2 PyProof
section
variable {M : Model} {A : Around} {E : Value → Shared → Prop}
end
end My
/-! ### the walk over a set of numbers: one step -/
namespace My
open PySem PySem.Spec PyProof.Rows L2 PyProof
/-- the iterator at I of the set at a -/
def ItAt (h : Heap) (I a : Addr) (first : Value) (i n ep : Nat) : Prop := ∃ o, h.get? I = some o ∧ o.cls = .type "set_iterator" ∧ o.data = .fields #[first, .int i 0, .ref a, .int n 0, .int ep 0]
def SetIs (h : Heap) (a : Addr) (es : Array (Int × Value)) (ep : Nat) (t : SetTable) : Prop := ∃ o, h.get? a = some o ∧ o.ExactSet ∧ o.data = .set es ep t
theorem ItAt.keep {h h' : Heap} {I a : Addr} {v : Value} {i n ep : Nat} (x : ItAt h I a v i n ep) (k : ∀ o, h.get? I = some o → h'.get? I = some o) : ItAt h' I a v i n ep := let ⟨o, ho, r⟩ := x; ⟨o, k o ho, r⟩
theorem SetIs.keep {h h' : Heap} {a : Addr} {es : Array (Int × Value)} {ep : Nat} {t : SetTable} (x : SetIs h a es ep t) (k : ∀ o, h.get? a = some o → h'.get? a = some o) : SetIs h' a es ep t := let ⟨o, ho, r⟩ := x; ⟨o, k o ho, r⟩
section
variable {prog : Program} {w : World} {A : Around} {E : Value → Shared → Prop} {s : Shared} {I a : Addr} {es : Array (Int × Value)} {ep : Nat} {t : SetTable}
theorem ItAt.typeIs {v : Value} {i n : Nat} (x : ItAt s.heap I a v i n ep) : s.TypeIs (.ref I) "set_iterator" := let ⟨o, ho, hc, _⟩ := x; ⟨o, ho, hc⟩
end
end My
/-! ### the walk over a set of numbers: its end, and where its order was drawn -/
namespace My
open PySem PySem.Spec PyProof.Rows L2 PyProof
section
variable {prog : Program} {w : World} {A : Around} {E : Value → Shared → Prop} {s : Shared} {I a : Addr} {es : Array (Int × Value)} {ep : Nat} {t : SetTable}
end
end My
/-! ### the walk over a set of numbers: all of it -/
namespace My
open PySem PySem.Spec PyProof.Rows L2 PyProof
section
variable {prog : Program} {w : World} {A : Around} {E : Value → Shared → Prop} {s : Shared} {I a : Addr} {es : Array (Int × Value)} {ep : Nat} {t : SetTable}
end
end My
/-! ### sorted(set(numbers)) -/
namespace My
open PySem PySem.Spec PyProof.Rows L2 PyProof
section
variable {prog : Program} {w : World} {A : Around} {E : Value → Shared → Prop} {s : Shared} {a : Addr} {ks : List Int} {led : Bool}
theorem SetG.typeIs (x : SetG prog w s.heap a ks led) : s.TypeIs (.ref a) "set" := let ⟨o, _, _, _, ho, hex, _⟩ := x; ⟨o, ho, hex.1⟩
end
end My
/-! ### dict(pairs) -/
namespace My
open PySem PySem.Spec PyProof.Rows L2 PyProof
section
variable {prog : Program} {w : World} {A : Around} {E : Value → Shared → Prop} {s : Shared}
end
/-- a list of pairs -/
inductive Prs2 (K : PySem.W.Frag) (H : Hp) : List V → List (Key × V) → Prop where
  | nil : Prs2 K H [] []
  | cons {t : Addr} {q : Key × V} {ws : List V} {ps : List (Key × V)} (h : SqT K H t [kV q.1, q.2]) (r : Prs2 K H ws ps) : Prs2 K H (.ref t :: ws) (q :: ps)
end My
/-! ### a, b = a list; list(d) -/
namespace My
open PySem PySem.Spec PyProof.Rows L2 PyProof
section
variable {prog : Program} {w : World} {A : Around} {E : Value → Shared → Prop}
end
section
variable {X : Cx} {pos : Pos}
end
end My
/-! ### for k in d -/
namespace My
open PySem PySem.Spec PyProof.Rows L2
section
variable {P : Program} {w : World} {K : PySem.W.Frag}
end
section
variable {X : Cx}
end
end My
/-! ### d.clear() of a dict that was held, d.update(d2), xs[lo:hi:st] -/
namespace My
open PySem PySem.Spec PyProof.Rows L2 PyProof
section
variable {X : Cx} {o e : Expr} {td te : TE} {apos cpos : Pos}
end
section
variable {X : Cx} {e : Expr} {te : TE} {lo hi : Option Expr} {st : Expr} {tl th tk : TO} {pos p2 : Pos}
end
end My
/-! ### list(range(n)), list(reversed(range(n))) -/
namespace My
open PySem PySem.Spec PyProof.Rows L2 PyProof
section
variable {prog : Program} {w : World} {A : Around} {E : Value → Shared → Prop} {s : Shared}
end
theorem vals_ints {ms : List Int} {us : List Value} (hl : us.length = ms.length) (h : ∀ (i : Nat) (v : Value), us[i]? = some v → ∃ z t, ms[i]? = some z ∧ v = .int z t) : Vals (ms.map V.int) us := by
  induction ms generalizing us with
  | nil =>
    cases us with
    | nil => exact .nil
    | cons _ _ => simp at hl
  | cons z r ih =>
    cases us with
    | nil => simp at hl
    | cons u q =>
      obtain ⟨z', t, hz, hu⟩ := h 0 u rfl
      cases hz
      exact .cons ⟨t, hu⟩ (ih (by simpa using hl) fun i v e => by simpa using h (i + 1) v (by simpa using e))
end My
/-! ### dicts of data compared -/
namespace My
open PySem PySem.Spec PyProof.Rows L2
section
variable {X : Cx} {pins : List (Addr × Obj)} {σ : L2.St} {H : Hp} {s : Shared} {a b : Addr} {kvs kvs' : List (Key × V)} {ds : List (Key × PyData)}
end
section
variable {X : Cx}
end
end My
/-! ### max(xs, key=lambda n: d[n]) -/
namespace My
open PySem PySem.Spec PyProof.Rows L2 PyProof
section
variable {prog : Program} {w : World} {A : Around}
end
end My
/-! ### the head of a law whose text makes lambdas: the table of code objects is tracked beside the script -/
namespace My
open PySem PySem.Spec PyProof.Rows L2
section
variable {P : Program} {w : World} {K : PySem.W.Frag} {mg : Str → Option Value} {base : Heap}
/-- a def's promise where its own code object matters -/
theorem fun_okC {x qual : Str} {st : Stmt} {f : Addr} {fd : FuncData} {N ps : List Str} {k : Nat} {sp : Sp} (F : Fun K x qual st f fd) (S : FnScope N ps (defScope st)) (len : ∀ vs H Q E, sp vs H Q E → vs.length = ps.length)
    (hbody : ∀ (A : Around) (outer : List Env) (s : Shared) (H : Hp) (vs : List V) (Q : VK) (E : XK), Room k (A.deeper (envOfC qual (defScope st) s.heap.objs.size f fd.code)) → sp vs H Q E →
      ∃ t, PSs (cxOf CX0 P w K mg base N qual (defScope st) f fd.code A outer s H E).nox (defBody st) t ∧ t { nx := fun _ H' => Q .non H', rt := Q } (start N vs) H) : FnOk P w K mg base CX0 (k + 1) f fd ps sp := by
  obtain ⟨_, _, _, _, _, _, _, _, _, e, lk, hcd⟩ := F.ex
  subst e
  exact fn_of lk hcd S len fun A outer s H vs Q E hr hsp => let ⟨t, h, q⟩ := hbody A outer s H vs Q E hr hsp; ⟨t, h.nox, q⟩
end
section
variable {P : Program} {w : World} {K : PySem.W.Frag} {mg mb : Str → Option Value} {CX : CXT} {k : Nat} {fa a c0 P0 : Addr} {fd : FuncData} {x : Str} {sp : Heap → Sp} {s₁ : Shared} {vs : List Value} {ns : List Int}
/-- the script (if it is none of the module's own objects) and the table -/
def begT (K : PySem.W.Frag) (a P0 : Addr) (o : Obj) (u : HO) : Hp := fun b => if b = P0 then some (.tbl #[]) else if b = a then (match K.lookup a with
  | some _ => none
  | none => some (.frz o u)) else none
theorem begT_shape {o : Obj} {u v : HO} {b : Addr} (e : begT K a P0 o u b = some v) : (b = P0 ∧ v = .tbl #[]) ∨ (b ≠ P0 ∧ b = a ∧ v = .frz o u ∧ K.lookup a = none) := by
  unfold begT at e
  by_cases h : b = P0
  · rw [if_pos h] at e
    cases e
    exact .inl ⟨h, rfl⟩
  · rw [if_neg h] at e
    by_cases h2 : b = a
    · rw [if_pos h2] at e
      cases h3 : K.lookup a with
      | some z => rw [h3] at e; cases e
      | none => rw [h3] at e; cases e; exact .inr ⟨h, h2, rfl, rfl⟩
    · rw [if_neg h2] at e
      cases e
theorem law_callT (KX : K.In s₁.heap) (hns : s₁.heap.Ns mainGlobals mg) (hb : s₁.heap.Ns builtinsNs mb) (hbb : ∀ x : Str, x ≠ "__name__" → mb x = bootBuiltins x) (hlim : s₁.heap.NoLimit) (hg : s₁.gens = #[])
    (ha : s₁.heap.get? a = some { cls := .type "list", data := .seq vs.toArray }) (hi : IntsAre vs ns) (hl : ns.length ≤ sizeLine) (hr : Room k callerA)
    (hT : s₁.heap.get? P0 = some (PySem.W.tabObj #[])) (hC : PySem.W.codeHdIn K c0 P0 = true) (hKP : K.lookup P0 = none) (hBu : s₁.heap.BuiltinsAt mg P0)
    (F : ∀ base : Heap, K.In base → base.Ns mainGlobals mg → FnOk P w K mg base CX k fa fd [x] (sp base)) (hbind : ∀ (s : Shared) (u : Value), BindsTo s fd ⟨[u], []⟩ [(x, u)])
    (hsp : ∀ (base : Heap) (H : Hp), base.BuiltinsAt mg P0 → H P0 = some (.tbl #[]) → SqL K H a (ns.map V.int) → sp base [.ref a] H (fun v _ => v = .bl true) fun _ _ _ => False)
    (hCX : ∀ H e s', CX [] H s₁ (fun _ _ _ => False) e s' → False) :
    codeAny (model P w) callerA (.call (.ref fa) ⟨[.ref a], []⟩) (fun r s' => r = .ok (.ret (.bool true)) ∧ OldK s₁.heap s'.heap ∧ s'.os = s₁.os ∧ AllBare s'.gens) s₁ := by
  have rv := L2.vals_ints hi
  have lenV := hi.length
  have aP : a ≠ P0 := fun z => by rw [z, hT] at ha; cases ha
  let o : Obj := { cls := .type "list", data := .seq vs.toArray }
  let H : Hp := begT K a P0 o (.lst (ns.map V.int))
  have hP : H P0 = some (.tbl #[]) := if_pos rfl
  have none_of : ∀ {b : Addr} {ob : Obj}, s₁.heap.get? b = some ob → ob.cls ≠ .none → ob.cls ≠ .type "list" → H b = none := fun {b ob} e n1 n2 => by
    cases q : H b with
    | none => rfl
    | some v =>
      exfalso
      rcases begT_shape q with ⟨z, _⟩ | ⟨_, z, _, _⟩
      · rw [z, hT] at e; cases e; exact n1 rfl
      · rw [z, ha] at e; cases e; exact n2 rfl
  have dict_of : ∀ {b : Addr} {ob : Obj} {es : Array DictEntry} {ep : Nat}, s₁.heap.get? b = some ob → ob.data = .dict es ep → H b = none := fun {b ob es ep} e d => by
    cases q : H b with
    | none => rfl
    | some v =>
      exfalso
      rcases begT_shape q with ⟨z, _⟩ | ⟨_, z, _, _⟩
      · rw [z, hT] at e; cases e; cases d
      · rw [z, ha] at e; cases e; cases d
  have ns_of : ∀ {b : Addr} {m : Str → Option Value}, s₁.heap.Ns b m → (hidT s₁.heap H).Ns b m := fun {b m} ⟨ob, es, ep, e, d, r⟩ => ⟨ob, es, ep, hidT_get e (dict_of e d), d, r⟩
  have hKb : K.In (hidT s₁.heap H) := fun b ob e => hidT_get (KX b ob e) (by
    cases q : H b with
    | none => rfl
    | some v =>
      exfalso
      rcases begT_shape q with ⟨z, _⟩ | ⟨_, z, _, z2⟩
      · rw [z, hKP] at e; cases e
      · rw [z, z2] at e; cases e)
  have hM : Mod K mg (hidT s₁.heap H) := ⟨hKb, ns_of hns, ⟨mb, ns_of hb, hbb⟩, let ⟨mc, h1, h2⟩ := hlim; ⟨mc, ns_of h1, h2⟩⟩
  have hok : HOk P w H s₁.heap := fun b v q => by
    rcases begT_shape q with ⟨z, z2⟩ | ⟨_, z, z2, _⟩
    · rw [z, z2]; exact hT
    · rw [z, z2]; exact ⟨ha, by rw [List.length_map]; exact hl, vs, _, rv, ha⟩
  have hS : SqL K H a (ns.map V.int) := by
    cases hk : K.lookup a with
    | some ob =>
      have e := KX a ob hk
      rw [ha] at e
      cases e
      exact .inr ⟨_, vs.toArray, _, hk, rfl, rfl, rfl, by rw [List.size_toArray, lenV]; exact hl, by simpa using rv⟩
    | none =>
      refine .inl (.inr ⟨o, ?_⟩)
      show begT K a P0 o (.lst (ns.map V.int)) a = _
      unfold begT
      rw [if_neg aP, if_pos rfl, hk]
  have hBB : (hidT s₁.heap H).BuiltinsAt mg P0 := by
    obtain ⟨bm, ob, b1, b2, b3, b4, b5, b6, b7⟩ := hBu
    exact ⟨bm, ob, b1, b2, b3, b4, hidT_get b5 (none_of b5 (by rw [b6]; simp) (by rw [b6]; simp)), b6, b7⟩
  have e0 : Env0 P w K mg (hidT s₁.heap H) callerA [] s₁ H := ⟨rfl, hM, fun b ob e => of_hidT e, Nat.le_of_eq (hidT_size _ _), trivial, fun b hb => absurd (show b ∈ ([] : List Addr) from hb) (by simp), hok, .of_eq hg⟩
  refine codeAny_mono ((F _ hKb (ns_of hns)).run callerA [] s₁ H ⟨[.ref a], []⟩ [.ref a] [.ref a] _ _ hr e0 (hbind s₁ (.ref a)) (.cons rfl .nil) (hsp _ H hBB hP hS)) fun r s' h => ?_
  match r, h with
  | .error e, h => exact (hCX H e s' h).elim
  | .ok (.ret u), h =>
    obtain ⟨v, H', os, bare, un, hok', r', q⟩ := h
    obtain rfl : v = .bl true := q
    obtain rfl : u = Value.bool true := r'
    refine ⟨rfl, ⟨fun b ob e => ?_, fun b ob e => un.there b ob e (by simp)⟩, os, bare⟩
    cases q : H b with
    | none => exact .inl (un.keep b ob e q (fun z => absurd (show b ∈ ([] : List Addr) from z) (by simp)) (by simp))
    | some v =>
      rcases begT_shape q with ⟨z, z2⟩ | ⟨_, z, z2, _⟩
      · subst z
        obtain ⟨more, m2⟩ := un.tbls b #[] hP
        have hg' : s'.heap.get? b = some { cls := .none, data := .fields (#[] ++ more) } := hok' b _ m2
        rw [hT] at e
        cases e
        obtain ⟨oc, cvs, _, _, _, _, _, _, _, c1, c2, c3, c4, _⟩ := PySem.W.codeHd_of_K KX hC
        exact .inr (.inl ⟨⟨c0, oc, cvs, c1, c2, c3, c4⟩, rfl, #[], more, rfl, hg'⟩)
      · subst z2
        have z3 := un.frzs b _ _ q
        obtain ⟨e1, _⟩ := hok b _ q
        obtain ⟨e2, _⟩ := hok' b _ z3
        rw [e] at e1
        cases e1
        exact .inl e2
end
end My
namespace My
open PySem PySem.W PySem.Calls PyProof.Rows L2
/-- the head -/
theorem walk_ofT {l : PySem.W.OpenLaw} {n k : Nat} {q : Program} {loose : List Str} {XP : (Str → Option Value) → Heap → Prop} {YP : World → Heap → Prop} {d : DefRec} {K : Params → PySem.W.Frag} {ts : List Addr} {CX : World → CXT} {sp : World → (Str → Option Value) → Addr → Heap → Sp} {x : Str}
    (hn : l.most = some n) (hn2 : n ≤ sizeLine) (hdf : d.params.defaults = []) (hr : Room k callerA)
    (hY : ∀ (w : World) (h : Heap), YP w h → (K w.params).In h ∧ ∀ P ∈ ts, h.get? P = some (PySem.W.tabObj #[]))
    (F : ∀ (w : World) (mg : Str → Option Value) (fa : Addr) (h : Heap), (K w.params).In h → h.Ns mainGlobals mg → mg d.name = some (.ref fa) →
      ∃ (fd : FuncData) (c0 P0 : Addr), (∀ (s : Shared) (u : Value), BindsTo s fd ⟨[u], []⟩ [(x, u)]) ∧ P0 ∈ ts ∧ (K w.params).lookup P0 = none ∧ PySem.W.codeHdIn (K w.params) c0 P0 = true ∧
        ∀ base : Heap, (K w.params).In base → base.Ns mainGlobals mg → FnOk l.prog w (K w.params) mg base (CX w) k fa fd [x] (sp w mg P0 base))
    (hsp : ∀ (w : World) (mg : Str → Option Value) (P0 : Addr) (base : Heap) (H : Hp) (a : Addr) (ns : List Int), ns.length ≤ n → (∀ m ∈ ns, Builtin.Int.intBits m ≤ 1048576) → base.BuiltinsAt mg P0 → H P0 = some (.tbl #[]) → SqL (K w.params) H a (ns.map V.int) → sp w mg P0 base [.ref a] H (fun v _ => v = .bl true) fun _ _ _ => False)
    (hCX : ∀ (w : World) (H : Hp) (s : Shared) (e : Value) (s' : Shared), CX w [] H s (fun _ _ _ => False) e s' → False) :
    PySem.W.WalkO q loose XP YP l.row.toRowW d [] (fun f vs => PySem.call f vs) := by
  intro w s₀ s₁ mg mb G Y fa o pm cd doc dV kV ho hd hcd hD hmg hg args vals as hpre hlay hrd hwl hlo
  obtain rfl : dV = .none := Dflts.none hD hdf
  obtain rfl : kV = .none := Dflts.noKw hD
  obtain ⟨a, vs, ns, rfl, rfl, hobj, hints, hlen⟩ := Att.script_of hn hpre hwl
  obtain ⟨KX, hT⟩ := hY w _ Y
  obtain ⟨fd, c0, P0, hb, hP, hKP, hC, hF⟩ := F w mg fa _ KX G.T.g hmg
  have hBu : s₁.heap.BuiltinsAt mg P0 := by
    obtain ⟨bm, ob, b1, b2, b3, b4, b5, b6⟩ := G.T.bmain
    refine ⟨bm, ob, b1, b2, fun z => ?_, fun z => ?_, b3, b4, b5, b6⟩
    · obtain ⟨o', es, ep, e, hd', _⟩ := G.T.g
      rw [z, e] at b3; cases b3; rw [hd'] at b6; cases b6
    · rw [z, hT P0 hP] at b3; cases b3; cases b4
  refine enter_call (codeAny_mono (law_callT KX G.T.g G.T.b G.T.builtins G.T.nolimit hg hobj hints (Nat.le_trans hlen hn2) hr (hT P0 hP) hC hKP hBu hF hb (fun base H h1 h2 h3 => hsp w mg P0 base H a ns hlen (bits_of hlay) h1 h2 h3) fun H e s' => hCX w H s₁ e s') fun r s' hq => ?_)
  obtain ⟨rfl, h2, h3, h4⟩ := hq
  exact ⟨.inl ⟨.bool true, .bool true, [], rfl, fun _ => rfl, .bool true, Att.post_true l _, fun _ => ⟨List.Pairwise.nil, fun _ hm => (nomatch hm)⟩⟩, h2, h3, h4⟩
end My
/-! ### sorted(xs, key=lambda z: z.f), fewer than 64 things -/
namespace My
open PySem PySem.Spec PyProof.Rows L2 PyProof
/-- all the objects of a heap but one -/
def allBut (L : Addr) (h : Heap) : List (Addr × Obj) := (List.range h.objs.size).filterMap fun b => if b = L then none else (h.get? b).map fun o => (b, o)
theorem allBut_mem {L b : Addr} {h : Heap} {o : Obj} (n : b ≠ L) (e : h.get? b = some o) : (b, o) ∈ allBut L h :=
  List.mem_filterMap.mpr ⟨b, List.mem_range.mpr (Heap.lt_size e), by rw [if_neg n, e]; rfl⟩
theorem allBut_of {L : Addr} {h : Heap} {p : Addr × Obj} (m : p ∈ allBut L h) : p.1 ≠ L ∧ h.get? p.1 = some p.2 := by
  obtain ⟨b, _, e⟩ := List.mem_filterMap.mp m
  by_cases n : b = L
  · rw [if_pos n] at e; cases e
  · rw [if_neg n] at e
    obtain ⟨o, e1, e2⟩ := Option.map_eq_some_iff.mp e
    subst e2
    exact ⟨n, e1⟩
theorem none_empty (b : Addr) : (Heap.get? ({} : Heap) b) = none := by
  cases e : Heap.get? ({} : Heap) b with
  | none => rfl
  | some o => exact absurd (Heap.lt_size e) (Nat.not_lt_zero _)
/-- all is kept, the frame's own dict but as a table of names -/
theorem inv_names {X : Cx} {pins : List (Addr × Obj)} {σ : L2.St} {H : Hp} {s : Shared} {h' : Heap} {t' : Nat} (I : Inv X pins σ H s) (keep : ∀ b o, b ≠ X.env.locals → s.heap.get? b = some o → h'.get? b = some o)
    (ns : ∀ m, s.heap.Ns X.env.locals m → h'.Ns X.env.locals m) : Inv X pins σ H { s with heap := h', toks := t' } := by
  refine I.step (g' := s.gens) (d' := s.drawn) (ch := []) (fun _ z => nomatch z) (fun b o nL hb _ e n => keep b o nL e) (fun b o nL hb _ e n => ⟨o.slots, keep b o nL e⟩) (fun b o _ e n => n) (fun b o _ e => ?_) (fun _ _ e => e) (fun _ _ _ e => e) (fun b ps e => ⟨#[], by simpa using e⟩) ns (fun b u q => ?_) I.bare
  · by_cases z : b = X.env.locals
    · obtain ⟨m, hn, _⟩ := I.loc
      obtain ⟨o', _, _, e', _⟩ := ns m hn
      exact ⟨o', z ▸ e'⟩
    · exact ⟨o, keep b o z e⟩
  · refine (I.hok b u q).stay (fun c v hc z => keep c v (fun y => ?_) z) (fun _ z => z) fun _ _ z => z
    have fr := I.free
    rcases hc with rfl | hc
    · rw [← y, q] at fr; cases fr
    · rw [← y, hc] at fr; cases fr
theorem ns_one {h : Heap} {a : Addr} {m m' : Str → Option Value} (x : h.Ns a m) (y : h.Ns a m') : m = m' := by
  obtain ⟨o, es, ep, e1, e2, e3⟩ := x
  obtain ⟨o', es', ep', f1, f2, f3⟩ := y
  rw [e1] at f1
  cases f1
  rw [e2] at f2
  cases f2
  exact funext fun x => (e3.2 x).symm.trans (f3.2 x)
/-- the lambda's call: z.f, z its one parameter -/
theorem lam_attr {prog : Program} {w : World} {A : Around} {E : Value → Shared → Prop} {s : Shared} {f : Addr} {cdv : Value} {name qual fld : Str} {params : Arguments} {scope : Scope} {z : Str} {p2 sp : Pos} {pm ctv u : Value} {Q : Value → Shared → Prop} (hroom : A.depth < recursionLimit) (hlim : s.heap.NoLimit)
    (hf : s.heap.get? f = some { cls := .type "function", data := .func (PySem.W.kla_fn name qual params (.Attribute (.Name z p2) fld sp) scope [] pm cdv ctv) }) (hcd : s.heap.CodeRec cdv qual)
    (hco : scope.isCoroutine = false) (hgen : scope.isGenerator = false) (hk : scope.kind = .function) (hnc : ∀ x ∈ scope.names, x.2 ≠ .cell) (hz : scope.names.lookup z = some .local)
    (hbind : bindArgs (PySem.W.kla_fn name qual params (.Attribute (.Name z p2) fld sp) scope [] pm cdv ctv) ⟨[u], []⟩ = pure [(z, u)])
    (d2 : (z == ("__debug__" : Str)) = false) (hb : ∀ env, attributeBase (.Name z p2) fld env (eval (.Name z p2) env) = eval (.Name z p2) env)
    (item : ∀ (h' : Heap) (tk : Nat) (A' : Around) (E' : Value → Shared → Prop) (Q' : Value → Shared → Prop), (∀ b o, s.heap.get? b = some o → h'.get? b = some o) → (∀ v tk', Q v { s with heap := h', toks := tk' } → Q' v { s with heap := h', toks := tk' }) → wpAny (model prog w) A' (getAttr u fld true) Q' E' { s with heap := h', toks := tk }) : wpAny (model prog w) A (call (.ref f) [u]) Q E s := by
  refine wpAny_call (PySem.W.kla_callFunE hroom hf rfl hco hgen rfl hcd ?_)
  rw [hbind]
  refine wpAny_pure (wpAny_newFunctionEnv hnc (fun x hx => by rw [List.mem_singleton.mp hx]; exact hz) (fun h₁ hns hsb => ⟨hlim.fresh _ hsb, ?_⟩) hk)
  have hk1 : ∀ b o, s.heap.get? b = some o → h₁.get? b = some o := fun b o e => hsb.extBut b o (Nat.ne_of_lt (Heap.lt_size e)) (Heap.get?_push_of_some _ e)
  refine PySem.W.kla_codeExpr ?_
  refine attr_of (hb _) ?_
  refine wpAny_Name (wpAny_loadName_local hk hz hns (v := u) (by show List.lookup z [(z, u)] = some u; simp) ?_) d2
  exact item h₁ _ _ _ _ hk1 fun v tk' q => q
/-- what sorted gives: the things by rising keys -/
def ByKeys (ks : List Int) (xs ys : List V) : Prop := ∃ ps : List (Int × V), ps.Perm (ks.zip xs) ∧ ys = ps.map Prod.snd ∧ ps.Pairwise fun p q => p.1 ≤ q.1
theorem perm_pair {α β : Type} {R : α → β → Prop} {l1 l2 : List β} (p : l1.Perm l2) : ∀ {l2' : List α}, Paired R l2' l2 → ∃ l1' : List α, l1'.Perm l2' ∧ Paired R l1' l1 := by
  induction p with
  | nil => exact fun {l} h => ⟨l, .refl _, h⟩
  | cons x _ ih =>
    intro l h
    cases h with
    | cons r t =>
      obtain ⟨l', p', h'⟩ := ih t
      exact ⟨_ :: l', p'.cons _, .cons r h'⟩
  | swap x y l =>
    intro l' h
    cases h with
    | cons r t =>
      cases t with
      | cons r2 t2 => exact ⟨_ :: _ :: _, .swap _ _ _, .cons r2 (.cons r t2)⟩
  | trans _ _ ih1 ih2 =>
    intro l h
    obtain ⟨l2, p2, h2⟩ := ih2 h
    obtain ⟨l1, p1, h1⟩ := ih1 h2
    exact ⟨l1, p1.trans p2, h1⟩
theorem zip_pair : ∀ {ks : List Int} {xs : List V} {us : List Value}, Vals xs us → Paired (fun (p : Int × V) (q : Int × Value) => p.1 = q.1 ∧ RelV p.2 q.2) (ks.zip xs) (ks.zip us)
  | [], _, _, _ => .nil
  | _ :: _, _, _, .nil => .nil
  | _ :: _, _, _, .cons r t => .cons ⟨rfl, r⟩ (zip_pair t)
theorem vals_snd : ∀ {ps : List (Int × V)} {qs : List (Int × Value)}, Paired (fun (p : Int × V) (q : Int × Value) => p.1 = q.1 ∧ RelV p.2 q.2) ps qs → Vals (ps.map Prod.snd) (qs.map Prod.snd) ∧ (qs.Pairwise (fun p q => p.1 ≤ q.1) → ps.Pairwise fun p q => p.1 ≤ q.1)
  | _, _, .nil => ⟨.nil, fun _ => .nil⟩
  | _, _, .cons r t => by
    obtain ⟨a, b⟩ := vals_snd t
    refine ⟨.cons r.2 a, fun h => ?_⟩
    obtain ⟨h1, h2⟩ := List.pairwise_cons.mp h
    refine List.pairwise_cons.mpr ⟨fun q hq => ?_, b h2⟩
    obtain ⟨j, hj, e⟩ := List.getElem_of_mem hq
    obtain ⟨y, ey, ry⟩ := paired_get t (List.getElem?_eq_some_iff.mpr ⟨hj, e⟩)
    have := h1 y (List.mem_of_getElem? ey)
    rw [r.1, ry.1]
    exact this
/-- .. and a new object laid -/
theorem inv_namesD {X : Cx} {pins : List (Addr × Obj)} {σ : L2.St} {H : Hp} {s : Shared} {h' : Heap} {t' : Nat} {D : Addr} {u : HO} (I : Inv X pins σ H s) (keep : ∀ b o, b ≠ X.env.locals → s.heap.get? b = some o → h'.get? b = some o)
    (ns : ∀ m, s.heap.Ns X.env.locals m → h'.Ns X.env.locals m) (hD : s.heap.objs.size ≤ D) (new : ObjOk X.prog X.w (upd H D u) h' D u) : Inv X pins σ (upd H D u) { s with heap := h', toks := t' } := by
  have old : ∀ b o, H b = some o → b ≠ D := fun b o e => Nat.ne_of_lt (Nat.lt_of_lt_of_le (I.hok b o e).lt hD)
  have was : ∀ b o, s.heap.get? b = some o → b ≠ D := fun b o e => Nat.ne_of_lt (Nat.lt_of_lt_of_le (Heap.lt_size e) hD)
  refine I.step (g' := s.gens) (d' := s.drawn) (ch := []) (fun _ z => nomatch z) (fun b o nL hb _ e n => keep b o nL e) (fun b o nL hb _ e n => ⟨o.slots, keep b o nL e⟩) (fun b o _ e n => by rw [upd_ne (was b o e)]; exact n) (fun b o _ e => ?_) (fun b _ e => by rw [upd_ne (old b _ e)]; exact e) (fun b _ _ e => by rw [upd_ne (old b _ e)]; exact e) (fun b ps e => ⟨#[], by rw [upd_ne (old b _ e)]; simpa using e⟩) ns (fun b v q => ?_) I.bare
  · by_cases z : b = X.env.locals
    · obtain ⟨m, hn, _⟩ := I.loc
      obtain ⟨o', _, _, e', _⟩ := ns m hn
      exact ⟨o', z ▸ e'⟩
    · exact ⟨o, keep b o z e⟩
  · by_cases hb : b = D
    · subst hb
      rw [upd_same] at q
      cases q
      exact new
    · rw [upd_ne hb] at q
      refine (I.hok b v q).stay (fun c v hc z => keep c v (fun y => ?_) z) (fun c z => by rw [upd_ne (old c _ z)]; exact z) fun c _ z => by rw [upd_ne (old c _ z)]; exact z
      have fr := I.free
      rcases hc with rfl | hc
      · rw [← y, q] at fr; cases fr
      · rw [← y, hc] at fr; cases fr
/-- an instance whose attribute f is the number k -/
def KeyOf (K : PySem.W.Frag) (H : Hp) (f : Str) (v : V) (k : Int) : Prop := ∃ a C dx fs, v = .ref a ∧ H a = some (.ins C dx fs) ∧ Cls K C ∧ NoAttr K C f ∧ fs.lookup f = some (.int k)
theorem sort_rest {X : Cx} {pins : List (Addr × Obj)} {σ : L2.St} {H : Hp} {s : Shared} {E : Value → Shared → Prop} {Q : Value → Shared → Prop} {l q : Addr} {xs : List V} {ks : List Int} {cdv : Value} {name qual fld : Str} {params : Arguments} {scope : Scope} {z : Str} {p2 sp : Pos} {pm ctv : Value} (I : Inv X pins σ H s)
    (hp : H l = some (.lst xs)) (h64 : xs.length < 64) (hks : Paired (KeyOf X.K H fld) xs ks) (hroom : X.A.in1.in1.depth < recursionLimit)
    (hq : s.heap.get? q = some { cls := .type "function", data := .func (PySem.W.kla_fn name qual params (.Attribute (.Name z p2) fld sp) scope [] pm cdv ctv) }) (hsz : q + 1 = s.heap.objs.size) (hcd : s.heap.CodeRec cdv qual)
    (hco : scope.isCoroutine = false) (hgen : scope.isGenerator = false) (hk : scope.kind = .function) (hnc : ∀ x ∈ scope.names, x.2 ≠ .cell) (hz : scope.names.lookup z = some .local)
    (hbind : ∀ u, bindArgs (PySem.W.kla_fn name qual params (.Attribute (.Name z p2) fld sp) scope [] pm cdv ctv) ⟨[u], []⟩ = pure [(z, u)])
    (d2 : (z == ("__debug__" : Str)) = false) (hb : ∀ env, attributeBase (.Name z p2) fld env (eval (.Name z p2) env) = eval (.Name z p2) env)
    (h : ∀ D ys h' tk, H D = none → ByKeys ks xs ys → Inv X pins σ (upd H D (.lst ys)) { s with heap := h', toks := tk } → Q (.ref D) { s with heap := h', toks := tk }) :
    wpAny (model X.prog X.w) X.A (call (.builtin "sorted") [.ref l] [(Str.ofString "key", .ref q)]) Q E s := by
  obtain ⟨m, hns, _⟩ := id I.loc
  obtain ⟨its, rv, plst, _⟩ := I.list (SqL.of hp)
  have hlen : its.length = xs.length := rv.length.symm
  have hlk : ks.length = xs.length := (prs_len hks).symm
  have hqL : q ≠ X.env.locals := fun y => by
    obtain ⟨o, es, ep, e1, e2, _⟩ := id hns
    rw [← y, hq] at e1
    cases e1
    cases e2
  refine ksk_sorted (h₀ := {}) (L := X.env.locals) (m := m) (news := allBut X.env.locals s.heap) (kz := ks) (b := false) (f := .ref q) ⟨hns, (fun b o e => by rw [none_empty] at e; cases e), Nat.zero_le _⟩ (fun p hp => let ⟨a, b⟩ := allBut_of hp; ⟨b, a, none_empty _⟩) plst.isList (by omega) (by omega) (ksk_s1 _ _) (fun x => ksk_l1 _ _) (fun x => ksk_t1 _ _) ?_ ?_
  · intro i v k hv hk' h tk own F' N'
    have keep' : ∀ b o, b ≠ X.env.locals → s.heap.get? b = some o → h.get? b = some o := fun b o n e => (N' (b, o) (List.mem_append_left _ (allBut_mem n e))).1
    have I4 := inv_names (t' := tk) I keep' (fun m' hm => ns_one hns hm ▸ F'.ns)
    obtain ⟨x, ex, rx⟩ := vals_get' rv hv
    obtain ⟨k2, ek2, a, C, dx, fs, rfl, ea, c, n, lk⟩ := paired_get hks ex
    rw [hk'] at ek2
    cases ek2
    obtain rfl : v = Value.ref a := rx
    have hcd4 : h.CodeRec cdv qual := by
      obtain ⟨cx, oc, cvs, tq, e1, e2, e3, e4⟩ := hcd
      refine ⟨cx, oc, cvs, tq, e1, keep' _ _ (fun y => ?_) e2, e3, e4⟩
      obtain ⟨o, es, ep, f1, f2, _⟩ := id hns
      rw [← y, e2] at f1
      cases f1
      rw [e3] at f2
      cases f2
    refine lam_attr hroom I4.nolimit (keep' q _ hqL hq) hcd4 hco hgen hk hnc hz (hbind _) d2 hb (fun h5 tk5 A5 E5 Q5 k5 f5 => ?_)
    have I5 := I4.kept (h' := h5) (t' := tk5) k5
    obtain ⟨mA, O, r, _, _, _⟩ := ins_get I5.hok ea
    obtain ⟨u, hu, ru⟩ := RelO.some_of (v := .int k) (o := mA fld) (by rw [← lk]; exact r fld)
    refine get_map I5.kIn O (c.get fld) c.hd n hu (handed_of ru) (f5 _ _ ?_)
    obtain ⟨t, rfl⟩ := ru
    exact ⟨h5, _, t, rfl, rfl, ⟨F'.ns.keeps k5, (fun b o e => by rw [none_empty] at e; cases e), Nat.zero_le _⟩, fun p hp => ⟨k5 _ _ (N' p hp).1, (N' p hp).2⟩⟩
  · intro D h' tk out c F' N' hD ko
    have keep' : ∀ b o, b ≠ X.env.locals → s.heap.get? b = some o → h'.get? b = some o := fun b o n e => (N' (b, o) (.tail _ (allBut_mem n e))).1
    have hDs : s.heap.objs.size ≤ D := by
      rw [← hsz]
      exact Nat.succ_le_of_lt (hD _ (allBut_mem hqL hq))
    have hDo := (N' _ (.head _)).1
    have hDn : H D = none := by
      cases e : H D with
      | none => rfl
      | some o => exact absurd (I.hok D o e).lt (Nat.not_lt.mpr hDs)
    obtain ⟨ps, pp, po, pw⟩ := ko
    obtain ⟨qs, qp, qr⟩ := perm_pair pp (zip_pair (ks := ks) rv)
    obtain ⟨v1, v2⟩ := vals_snd qr
    refine h D (qs.map Prod.snd) h' tk hDn ⟨qs, qp, rfl, v2 (by simpa using pw)⟩ (inv_namesD (t' := tk) I keep' (fun m' hm => ns_one hns hm ▸ F'.ns) hDs ⟨?_, out.toList, c, po ▸ v1, ?_⟩)
    · rw [List.length_map, qp.length_eq, List.length_zip, hlk, Nat.min_self, sizeLine_eq]
      omega
    · rw [Array.toArray_toList]
      exact hDo
/-- the table of a def that makes one lambda: it is empty, or has the lambda's code object, which stands -/
def CodeIs (c' : Addr) (qual : Str) : Heap → Prop := fun h => h.CodeRec (.ref c') qual
def Tb (P0 : Addr) (lpos : Pos) (qual : Str) (H : Hp) : Prop := H P0 = some (.tbl #[]) ∨ ∃ c', H P0 = some (.tbl #[rawInt lpos.line, rawInt lpos.col, .ref c']) ∧ H c' = some (.ext (CodeIs c' qual))
theorem codeIs_ok {P : Program} {w : World} {H : Hp} {h : Heap} {c' : Addr} {qual : Str} (x : h.CodeRec (.ref c') qual) : ObjOk P w H h c' (.ext (CodeIs c' qual)) := by
  refine ⟨x, ?_, fun h1 h2 y k => ?_⟩
  · obtain ⟨cx, oc, cvs, tq, e1, e2, e3, e4⟩ := x
    cases e1
    exact ⟨oc, e2⟩
  · obtain ⟨cx, oc, cvs, tq, e1, e2, e3, e4⟩ := y
    cases e1
    exact ⟨c', oc, cvs, tq, rfl, k _ e2, e3, e4⟩
theorem inv_table2 {X : Cx} {pins : List (Addr × Obj)} {σ : L2.St} {H : Hp} {s : Shared} {P c' : Addr} {ps more : Array Value} {h' : Heap} {t' : Nat} {u : HO} (I : Inv X pins σ H s) (e : H P = some (.tbl ps)) (hx : Heap.ExtBut P s.heap h') (htb : h'.get? P = some { cls := .none, data := .fields (ps ++ more) })
    (hc : s.heap.objs.size ≤ c') (new : ObjOk X.prog X.w (upd (upd H P (.tbl (ps ++ more))) c' u) h' c' u) :
    Inv X pins σ (upd (upd H P (.tbl (ps ++ more))) c' u) { s with heap := h', toks := t' } := by
  have ne : ∀ b, H b = none → b ≠ P := fun b q z => by rw [z, e] at q; cases q
  have old : ∀ b o, H b = some o → b ≠ c' := fun b o e => Nat.ne_of_lt (Nat.lt_of_lt_of_le (I.hok b o e).lt hc)
  have was : ∀ b o, s.heap.get? b = some o → b ≠ c' := fun b o e => Nat.ne_of_lt (Nat.lt_of_lt_of_le (Heap.lt_size e) hc)
  refine I.un ⟨fun b o q n _ _ => hx b o (ne b n) q, fun b o q n _ _ => ⟨o.slots, hx b o (ne b n) q⟩, fun b o q n _ => by rw [upd_ne (was b o q), upd_ne (ne b n)]; exact n, fun b o q _ => ?_, fun b xs q => ?_, fun b o u q => ?_, fun b ps' q => ?_⟩ fun b u q => ?_
  · by_cases hb : b = P
    · exact ⟨_, hb ▸ htb⟩
    · exact ⟨o, hx b o hb q⟩
  · rw [upd_ne (old b _ q), upd_ne fun z => by rw [z, e] at q; cases q]; exact q
  · rw [upd_ne (old b _ q), upd_ne fun z => by rw [z, e] at q; cases q]; exact q
  · rw [upd_ne (old b _ q)]
    by_cases hb : b = P
    · subst hb
      rw [e] at q
      cases q
      exact ⟨more, upd_same⟩
    · exact ⟨#[], by rw [upd_ne hb, q]; simp⟩
  · by_cases h1 : b = c'
    · subst h1
      rw [upd_same] at q
      cases q
      exact new
    · rw [upd_ne h1] at q
      by_cases hb : b = P
      · subst hb
        rw [upd_same] at q
        cases q
        exact htb
      · rw [upd_ne hb] at q
        refine (I.hok b u q).stay (fun c v hc z => hx c v (fun y => ?_) z) (fun c z => by rw [upd_ne (old c _ z), upd_ne fun y => by rw [y, e] at z; cases z]; exact z) fun c xs z => by rw [upd_ne (old c _ z), upd_ne fun y => by rw [y, e] at z; cases z]; exact z
        rcases hc with rfl | hc
        · exact hb y
        · rw [y, e] at hc; cases hc
def tSortLam (K : PySem.W.Frag) (P0 : Addr) (lpos : Pos) (qual fld : Str) (t : TA) : TE := fun σ H Q => t σ H fun vs H1 => ∃ (p : Addr) (xs : List V) (ks : List Int), vs = [V.ref p] ∧ H1 p = some (.lst xs) ∧ xs.length < 64 ∧ Paired (KeyOf K H1 fld) xs ks ∧ Tb P0 lpos qual H1 ∧
  ∀ D ys H', H1 D = none → (∀ b o, b ≠ P0 → H1 b = some o → H' b = some o) → Tb P0 lpos qual H' → H' D = some (.lst ys) → ByKeys ks xs ys → Q (.ref D) H'
theorem pe_sortLam {X : Cx} {e : Expr} {t : TA} {params : Arguments} {scope : Scope} {z fld : Str} {c P0 : Addr} {p p2 sp lpos pos kpos : Pos} (hg : Gl X "sorted") (hm : X.mg "sorted" = none) (ha : PA X [e] t)
    (hcode : X.env.code = .ref c) (hC0 : PySem.W.codeHdIn X.K c P0 = true) (hB : X.base.BuiltinsAt X.mg P0) (hroom : X.A.in1.in1.depth < recursionLimit)
    (hcl : closureFor scope X.env = pure []) (hdef : defaultsOf params X.env = ([], []))
    (hco : scope.isCoroutine = false) (hgen : scope.isGenerator = false) (hk : scope.kind = .function) (hnc : ∀ x ∈ scope.names, x.2 ≠ .cell) (hz : scope.names.lookup z = some .local)
    (hbind : ∀ (name qual : Str) (body : Expr) (cl : List (Str × Addr)) (pm cdv ctv u : Value), bindArgs (PySem.W.kla_fn name qual params body scope cl pm cdv ctv) ⟨[u], []⟩ = pure [(z, u)])
    (d2 : (z == ("__debug__" : Str)) = false) (hb : ∀ env, attributeBase (.Name z p2) fld env (eval (.Name z p2) env) = eval (.Name z p2) env)
    (he : backTo pos (starEach [e] X.env) = (false, eval e X.env) :: backTo pos (starEach [] X.env) := by rfl) (hpl : (backTo pos (starEach [e] X.env)).any (·.1) = false := by rfl) :
    PE X (.Call (.Name "sorted" p) [e] [⟨some "key", .Lambda params (.Attribute (.Name z p2) fld sp) scope lpos, kpos⟩] pos) (tSortLam X.K P0 lpos (X.env.qual ++ "<lambda>") fld t) := by
  constructor; intro pins s σ H Q I h
  refine wpAny_Call_Name_kw (ld_blt I hg hm boot_sorted ?_ (by decide) (by decide))
  refine callWith_kw (thn (ha pos pins s σ H _ I h) fun us s1 ⟨vs, H1, I1, r1, q1⟩ => ?_) he hpl
  obtain ⟨pl, xs, ks, rfl, hp, h64, hks, hT, q⟩ := q1
  obtain ⟨u, rfl, ru⟩ := vals1 r1
  cases ru
  show wpAny _ _ (evalAll ((do let v ← eval (.Lambda params (.Attribute (.Name z p2) fld sp) scope lpos) X.env; standAt pos; pure v) :: [])) _ _ s1
  have hC := PySem.W.codeHd_of_K I1.mod.kin hC0
  have hgl := I1.mod.glob.keeps I1.bk
  have hb1 : s1.heap.BuiltinsAt X.mg P0 := by
    obtain ⟨bm, o, b1, b2, b3, b4, b5, b6⟩ := hB
    exact ⟨bm, o, b1, b2, b3, b4, I1.bk _ _ b5, b6⟩
  -- behind the making
  have rest : ∀ (E' : Value → Shared → Prop) (h' : Heap) (tk : Nat) (H3 : Hp) (c' : Addr) (pm ctv : Value), Inv X pins σ H3 { s1 with heap := h', toks := tk } → h'.CodeRec (.ref c') (X.env.qual ++ "<lambda>") → (∀ b o, b ≠ P0 → H1 b = some o → H3 b = some o) → Tb P0 lpos (X.env.qual ++ "<lambda>") H3 →
      wpAny (model X.prog X.w) X.A (call (.builtin "sorted") [.ref pl] [(Str.ofString "key", .ref h'.objs.size)]) (fun v s' => ∃ x H', Inv X pins σ H' s' ∧ RelV x v ∧ Q x H') E' { s1 with heap := h'.push { cls := .type "function", data := .func (PySem.W.kla_fn "<lambda>" (X.env.qual ++ "<lambda>") params (.Attribute (.Name z p2) fld sp) scope [] pm (.ref c') ctv) }, toks := tk } := by
    intro E' h' tk H3 c' pm ctv I2 hrec k3 hT3
    have I3 := I2.kept (t' := tk) (h' := h'.push { cls := .type "function", data := .func (PySem.W.kla_fn "<lambda>" (X.env.qual ++ "<lambda>") params (.Attribute (.Name z p2) fld sp) scope [] pm (.ref c') ctv) }) fun b o q => Heap.get?_push_of_some _ q
    have np : pl ≠ P0 := fun y => by rcases hT with e | ⟨_, e, _⟩ <;> (rw [← y, hp] at e; cases e)
    refine sort_rest (ks := ks) I3 (k3 _ _ np hp) h64 (prs_imp (fun v k ⟨a, C, dx, fs, e1, e2, e3⟩ => ⟨a, C, dx, fs, e1, k3 _ _ (fun y => by rcases hT with e | ⟨_, e, _⟩ <;> (rw [← y, e2] at e; cases e)) e2, e3⟩) hks) hroom (Heap.get?_push_size _ rfl) (by rw [size_push']) ?_ hco hgen hk hnc hz (hbind _ _ _ _ _ _ _) d2 hb fun D ys h5 tk5 hD bk I5 => ?_
    · obtain ⟨cx, oc, cvs, tq, e1, e2, e3, e4⟩ := hrec
      exact ⟨cx, oc, cvs, tq, e1, Heap.get?_push_of_some _ e2, e3, e4⟩
    · have nD : D ≠ P0 := fun y => by rcases hT3 with e | ⟨_, e, _⟩ <;> (rw [← y, hD] at e; cases e)
      have sm : ∀ b o, H3 b = some o → upd H3 D (.lst ys) b = some o := fun b o e => by rw [upd_ne fun y => by rw [y, hD] at e; cases e]; exact e
      refine ⟨.ref D, _, I5, rfl, q D ys _ ?_ (fun b o n e => sm _ _ (k3 _ _ n e)) (hT3.imp (sm _ _) fun ⟨c2, e1, e2⟩ => ⟨c2, sm _ _ e1, sm _ _ e2⟩) upd_same bk⟩
      cases e : H1 D with
      | none => rfl
      | some o => rw [k3 _ _ nD e] at hD; cases hD
  rcases hT with hT | ⟨c', hT, hTc⟩
  · have hT1 : s1.heap.get? P0 = some (PySem.W.tabObj #[]) := I1.hok P0 _ hT
    have hgP : mainGlobals ≠ P0 := fun z => by
      obtain ⟨o, es, ep, e1, e2, _⟩ := hgl
      rw [z, hT1] at e1
      cases e1
      cases e2
    refine wpAny_evalAll_cons (wpAny_bind (PySem.W.kla_eval hdef (PySem.W.kla_makeFunction (mg := X.mg) hcl I1.ok.glob hgl hcode (hC.keeps I1.bk) hT1 trivial rfl hgP hb1 fun c' ctv h' tk hx hge hlt hrec htb => wpAny_bind (wpAny_standAt (wpAny_pure ?_)))))
    refine wpAny_evalAll_nil ?_
    show wpAny _ _ (call (.builtin "sorted") [.ref pl] [(Str.ofString "key", .ref h'.objs.size)]) _ _ _
    have I2 := inv_table2 (t' := tk) I1 hT hx htb hge (codeIs_ok hrec)
    have nP : P0 ≠ c' := Nat.ne_of_lt (Nat.lt_of_lt_of_le (Heap.lt_size hT1) hge)
    refine rest _ h' tk _ c' _ ctv I2 hrec (fun b o n e => ?_) (.inr ⟨c', ?_, upd_same⟩)
    · rw [upd_ne (Nat.ne_of_lt (Nat.lt_of_lt_of_le (I1.hok b o e).lt hge)), upd_ne n]
      exact e
    · rw [upd_ne nP, upd_same]
      simp
  · have hT1 : s1.heap.get? P0 = some (PySem.W.tabObj #[rawInt lpos.line, rawInt lpos.col, .ref c']) := I1.hok P0 _ hT
    have hrec : s1.heap.CodeRec (.ref c') (X.env.qual ++ "<lambda>") := (I1.hok c' _ hTc).1
    refine wpAny_evalAll_cons (wpAny_bind (PySem.W.kla_eval hdef (PySem.W.kla_makeFunctionHit (mg := X.mg) (cv := .ref c') hcl I1.ok.glob hgl hcode (hC.keeps I1.bk) hT1 trivial (by simp [codeAmong, rawInt]) hb1 fun ctv h' tk hx hge => wpAny_bind (wpAny_standAt (wpAny_pure ?_)))))
    refine wpAny_evalAll_nil ?_
    show wpAny _ _ (call (.builtin "sorted") [.ref pl] [(Str.ofString "key", .ref h'.objs.size)]) _ _ _
    refine rest _ h' tk H1 c' _ ctv (I1.kept hx) ?_ (fun _ _ _ e => e) (.inr ⟨c', hT, hTc⟩)
    obtain ⟨cx, oc, cvs, tq, e1, e2, e3, e4⟩ := hrec
    exact ⟨cx, oc, cvs, tq, e1, hx _ _ e2, e3, e4⟩
end My
/-! ### try: y = f(..) / except S: .., no name, S an exception class or one above the one raised -/
namespace My
open PySem PySem.Spec PyProof.Rows L2
section
variable {X : Cx}
theorem ps_tryU {k : Nat} {fa S : Addr} {fd : FuncData} {ps : List Str} {sp : Sp} {fn c y : Str} {i : Nat} {a1 : Expr} {as : List Expr} {b₀ : Stmt} {suite : List Stmt} {t : TA} {th : TS} {py pf cpos apos np hpos pos : Pos}
    (F : FnOk X.prog X.w X.K X.mg X.base (CXW X.prog X.w) k fa fd ps sp) (hr : Room k X.A) (hg : Gl X fn) (hm : X.mg fn = some (.ref fa)) (hk : PySem.W.keepIn X.K (.ref fa) = true) (hb : Binds X.K fd ps [])
    (ha : PA X.nox (a1 :: as) t) (T : ExcS X.K X.mg c S) (hgc : Gl X c) (hN : X.N.Nodup) (hi : X.N[i]? = some y) (hx : Loc X.env.scope y) (hfn : X.fn y = true) (hst : X.stack = X.env :: X.outer) (hfr : X.env.frame = some X.env.locals)
    (hs : ∀ ea, PSs (markX X ea) (b₀ :: suite) th)
    (hdb : (fn == ("__debug__" : Str)) = false := by decide) (hdc : (c == ("__debug__" : Str)) = false := by decide) (he : starEach (a1 :: as) X.env = (false, eval a1 X.env) :: starEach as X.env := by rfl) (hpl : (backTo cpos (starEach as X.env)).any (·.1) = false := by rfl)
    (hsw : swapsWith (.Call (.Name fn pf) (a1 :: as) [] cpos) (some (.Name y py)) apos.line X.env = pure false := by rfl) :
    PS X (.Try [.Assign [.Name y py] (.Call (.Name fn pf) (a1 :: as) [] cpos) apos] [.ExceptHandler (some (.Name c np)) none (b₀ :: suite) hpos] [] [] pos)
      (fun D σ H => t σ H fun vs H1 => sp vs H1 (fun v H2 => D.nx (σ.set i (some v)) H2) (fun cls _ H2 => ∃ C, cls = .ref C ∧ PySem.W.subIn X.K (.ref C) (.ref S) = some true ∧ th D σ H2)) := by
  constructor; intro pins s σ H D I h
  refine wpAny_Try_except (wpAny_execs_cons (wpAny_Assign_Name (wpAny_Call_Name_kw (ld_glob I hg hm ?_ hdb)) hsw))
  refine PySem.W.callWith_K (h₀ := X.base) I.ok.mod.kin hk (wpAny_mono (ha cpos pins s σ H _ (I.wish _) h) (fun us s1 ⟨vs, H1, I1w, r, q⟩ => ⟨I1w.kIn, ?_⟩) fun _ _ z => z.elim) he hpl
  have I1 : Inv X pins σ H1 s1 := I1w.unwish
  have hl : us.length = ps.length := by rw [← r.length]; exact F.len _ _ _ _ q
  have hbb := hb s1 us I1.kIn (by rw [List.append_nil]; exact hl)
  rw [List.append_nil] at hbb
  refine wpAny_call (codeAny_mono (F.run X.A X.stack s1 H1 ⟨us, []⟩ us vs _ _ hr I1.env0 hbb r q) fun res s' hq => ?_)
  cases res with
  | ok fl =>
    cases fl with
    | ret u =>
      obtain ⟨v, H2, I2, r2, q2⟩ := I1.after hq
      exact store_ok I2 hN hi hx r2 (fun s3 I3 => wpAny_execs_nil (wpAny_execs_nil ⟨_, H2, I3, q2⟩)) (.inl hfn)
    | next => exact False.elim hq
    | brk => exact False.elim hq
    | cont => exact False.elim hq
  | error e =>
    obtain ⟨ea, cls, a0, B, H', _, rfl, os, bare, un, hok, fl, bk, n1, n2, _, C, hcls, hsub, hth⟩ := hq
    subst hcls
    have fl' := fl
    rw [hst] at fl'
    have hfnn : ∀ b ∈ frs X.stack, ∃ o, s'.heap.get? b = some o ∧ ∀ vs, o.data ≠ .fields vs := fun b hb => (fl.2.2.1.mem hb).2
    refine wpAny_looks_onW (by rw [I1.ok.frames, hst]) hfr fl' fun h4 held sm4 => ?_
    refine wpAny_landsW held fun h5 fl5 sm5 => ?_
    obtain ⟨ob, hob, hobc⟩ := fl5.there
    obtain ⟨un5, hok5, _, _⟩ := carry I1 un hok bk fl5.1 (sm4.trans sm5) hfnn
    have I5 : Inv X pins σ H' { s' with heap := h5 } := I1.call' (s' := { s' with heap := h5 }) os un5 hok5 bare (fun b z => absurd z (by simp))
    refine wpAny_handleBy_cons (codeAny_handlers_test (ld_glob (X := markX X ea) (inv_mark I5 ea) hgc T.bound ?_ hdc)) (by intro z; cases z)
    refine exc_matches (K := X.K) I5.kIn hob hobc T.ty T.it T.mB hsub (codeAny_handlers_suite ?_)
    refine lands_againW fl5 fun h6 fl6 sm6 => ?_
    obtain ⟨un6, hok6, _, _⟩ := carry I1 un hok bk fl6.1 ((sm4.trans sm5).trans sm6) hfnn
    have I6 : Inv X pins σ H' { s' with heap := h6 } := I1.call' (s' := { s' with heap := h6 }) os un6 hok6 bare (fun b z => absurd z (by simp))
    exact wpAny_mono (hs ea pins _ σ H' D (inv_mark I6 ea) hth) (fun f2 s2 z => sp_unmark I6.ok z) fun _ _ z => z.elim
end
end My

namespace Lw
open PySem PySem.Spec PyProof.Rows L2 My
set_option maxHeartbeats 4000000
def top (i : Nat) : Stmt := PySem.Challenge.pw_skewhouse_k37_whole_moments_go_forward.main.body.getD i (.Pass ⟨0, 0, 0, 0⟩)
def clsBody (s : Stmt) : List Stmt := match s with
  | .ClassDef _ _ _ b _ _ _ _ _ _ _ => b
  | _ => []
abbrev s_Brokeninit : Stmt := (clsBody (top 2)).getD 0 (.Pass ⟨0, 0, 0, 0⟩)
abbrev s_inside : Stmt := top 4
abbrev s_Spaninit : Stmt := (clsBody (top 6)).getD 0 (.Pass ⟨0, 0, 0, 0⟩)
abbrev s_passesby : Stmt := top 7
abbrev s_older : Stmt := top 8
abbrev s_firstone : Stmt := top 9
abbrev s_firstother : Stmt := top 10
abbrev s_closing : Stmt := top 11
abbrev s_letin : Stmt := top 12
abbrev s_early : Stmt := top 13
abbrev s_standof : Stmt := top 14
abbrev s_Lcell : Stmt := top 16
abbrev s_Lstream : Stmt := top 17
abbrev s_Llooks : Stmt := top 18
abbrev s_Lrows : Stmt := top 19
abbrev s_Lspan : Stmt := top 20
abbrev s_Lwhole : Stmt := top 21
abbrev s_Lcome : Stmt := top 22
abbrev s_Ledges : Stmt := top 23
abbrev s_law : Stmt := top 24
set_option genInjectivity false in
set_option genSizeOf false in
structure Tx (K : PySem.W.Frag) (mg : Str → Option Value) where
  f_Brokeninit : Addr
  d_Brokeninit : FuncData
  F_Brokeninit : Fun K "__init__" "Broken.__init__" s_Brokeninit f_Brokeninit d_Brokeninit
  b_Brokeninit : Binds K d_Brokeninit ["self", "dealing", "why"] []
  f_inside : Addr
  d_inside : FuncData
  F_inside : Fun K "inside" "inside" s_inside f_inside d_inside
  b_inside : Binds K d_inside ["key", "low", "high"] []
  m_inside : mg "inside" = some (.ref f_inside)
  f_Spaninit : Addr
  d_Spaninit : FuncData
  F_Spaninit : Fun K "__init__" "Span.__init__" s_Spaninit f_Spaninit d_Spaninit
  b_Spaninit : Binds K d_Spaninit ["self", "number", "watched", "begin", "end", "looks", "puts"] []
  f_passesby : Addr
  d_passesby : FuncData
  F_passesby : Fun K "passes_by" "passes_by" s_passesby f_passesby d_passesby
  b_passesby : Binds K d_passesby ["look", "key", "end"] []
  m_passesby : mg "passes_by" = some (.ref f_passesby)
  f_older : Addr
  d_older : FuncData
  F_older : Fun K "older" "older" s_older f_older d_older
  b_older : Binds K d_older ["one", "other"] []
  m_older : mg "older" = some (.ref f_older)
  f_firstone : Addr
  d_firstone : FuncData
  F_firstone : Fun K "first_one" "first_one" s_firstone f_firstone d_firstone
  b_firstone : Binds K d_firstone ["spans", "mid"] []
  m_firstone : mg "first_one" = some (.ref f_firstone)
  f_firstother : Addr
  d_firstother : FuncData
  F_firstother : Fun K "first_other" "first_other" s_firstother f_firstother d_firstother
  b_firstother : Binds K d_firstother ["spans", "mid"] []
  m_firstother : mg "first_other" = some (.ref f_firstother)
  f_closing : Addr
  d_closing : FuncData
  F_closing : Fun K "closing" "closing" s_closing f_closing d_closing
  b_closing : Binds K d_closing ["kept", "new"] []
  m_closing : mg "closing" = some (.ref f_closing)
  f_letin : Addr
  d_letin : FuncData
  F_letin : Fun K "let_in" "let_in" s_letin f_letin d_letin
  b_letin : Binds K d_letin ["kept", "new"] []
  m_letin : mg "let_in" = some (.ref f_letin)
  f_early : Addr
  d_early : FuncData
  F_early : Fun K "early" "early" s_early f_early d_early
  b_early : Binds K d_early ["span", "kept"] []
  m_early : mg "early" = some (.ref f_early)
  f_standof : Addr
  d_standof : FuncData
  F_standof : Fun K "stand_of" "stand_of" s_standof f_standof d_standof
  b_standof : Binds K d_standof ["span", "kept"] []
  m_standof : mg "stand_of" = some (.ref f_standof)
  f_Lcell : Addr
  d_Lcell : FuncData
  F_Lcell : Fun K "_law_cell" "_law_cell" s_Lcell f_Lcell d_Lcell
  b_Lcell : Binds K d_Lcell ["_law_script", "_law_k"] []
  m_Lcell : mg "_law_cell" = some (.ref f_Lcell)
  f_Lstream : Addr
  d_Lstream : FuncData
  F_Lstream : Fun K "_law_stream" "_law_stream" s_Lstream f_Lstream d_Lstream
  b_Lstream : Binds K d_Lstream ["_law_cell_here", "_law_k"] []
  m_Lstream : mg "_law_stream" = some (.ref f_Lstream)
  f_Llooks : Addr
  d_Llooks : FuncData
  F_Llooks : Fun K "_law_looks" "_law_looks" s_Llooks f_Llooks d_Llooks
  b_Llooks : Binds K d_Llooks ["_law_xs", "_law_watched", "_law_begin", "_law_end", "_law_shift"] []
  m_Llooks : mg "_law_looks" = some (.ref f_Llooks)
  f_Lrows : Addr
  d_Lrows : FuncData
  F_Lrows : Fun K "_law_rows" "_law_rows" s_Lrows f_Lrows d_Lrows
  b_Lrows : Binds K d_Lrows ["_law_script", "_law_most"] []
  m_Lrows : mg "_law_rows" = some (.ref f_Lrows)
  f_Lspan : Addr
  d_Lspan : FuncData
  F_Lspan : Fun K "_law_span" "_law_span" s_Lspan f_Lspan d_Lspan
  b_Lspan : Binds K d_Lspan ["_law_row"] []
  m_Lspan : mg "_law_span" = some (.ref f_Lspan)
  f_Lwhole : Addr
  d_Lwhole : FuncData
  F_Lwhole : Fun K "_law_whole" "_law_whole" s_Lwhole f_Lwhole d_Lwhole
  b_Lwhole : Binds K d_Lwhole ["_law_found"] []
  m_Lwhole : mg "_law_whole" = some (.ref f_Lwhole)
  f_Lcome : Addr
  d_Lcome : FuncData
  F_Lcome : Fun K "_law_come" "_law_come" s_Lcome f_Lcome d_Lcome
  b_Lcome : Binds K d_Lcome ["_law_kept", "_law_new"] []
  m_Lcome : mg "_law_come" = some (.ref f_Lcome)
  f_Ledges : Addr
  d_Ledges : FuncData
  F_Ledges : Fun K "_law_edges" "_law_edges" s_Ledges f_Ledges d_Ledges
  b_Ledges : Binds K d_Ledges ["_law_one", "_law_other", "_law_moments"] []
  m_Ledges : mg "_law_edges" = some (.ref f_Ledges)
  f_law : Addr
  d_law : FuncData
  F_law : Fun K "law" "law" s_law f_law d_law
  b_law : Binds K d_law ["_law_script"] []
  m_law : mg "law" = some (.ref f_law)
  c_SkewError : Addr
  m_SkewError : mg "SkewError" = some (.ref c_SkewError)
  c_Broken : Addr
  m_Broken : mg "Broken" = some (.ref c_Broken)
  c_Span : Addr
  m_Span : mg "Span" = some (.ref c_Span)
  x_SkewError : ExcC K mg "SkewError" c_SkewError
  kx_Broken : ExcK K c_Broken
  mk_Broken : MkX K c_Broken f_Brokeninit
  kw_Broken : ExcW K c_Broken
  mk_Span : Mk K c_Span f_Spaninit
  cl_Span : Cls K c_Span
  na_Span_number : NoAttr K c_Span "number"
  na_Span_watched : NoAttr K c_Span "watched"
  na_Span_begin : NoAttr K c_Span "begin"
  na_Span_end : NoAttr K c_Span "end"
  na_Span_looks : NoAttr K c_Span "looks"
  na_Span_puts : NoAttr K c_Span "puts"
  fl_Broken_dealing : PySem.W.findIn K (.ref c_Broken) "dealing" = some none
  fl_Broken_why : PySem.W.findIn K (.ref c_Broken) "why" = some none
  cb_SkewError : ClsB K c_SkewError "__init__" "ValueError.__init__"
  kit_SkewError_SkewError : PySem.W.kitOne K (.ref c_SkewError) (.ref c_SkewError) = some true
  kit_SkewError_Broken : PySem.W.kitOne K (.ref c_SkewError) (.ref c_Broken) = some false
  kit_Broken_SkewError : PySem.W.kitOne K (.ref c_Broken) (.ref c_SkewError) = some true
  kit_Broken_Broken : PySem.W.kitOne K (.ref c_Broken) (.ref c_Broken) = some true
  su_Broken : PySem.W.subIn K (.ref c_Broken) (.ref c_Broken) = some true
  ks_Broken : ExcS K mg "Broken" c_Broken
  kv_Broken : PySem.W.subIn K (.ref c_Broken) (.type "ValueError") = some true
  z_bool : mg "bool" = none
  z_enumerate : mg "enumerate" = none
  z_int : mg "int" = none
  z_isinstance : mg "isinstance" = none
  z_len : mg "len" = none
  z_list : mg "list" = none
  z_max : mg "max" = none
  z_min : mg "min" = none
  z_range : mg "range" = none
  z_sorted : mg "sorted" = none
  z_zip : mg "zip" = none
  lc : Addr
  lp : Addr
  lcd : d_closing.code = .ref lc
  lch : PySem.W.codeHdIn K lc lp = true
theorem sc_Brokeninit : FnScope ["self", "dealing", "why"] ["self", "dealing", "why"] (defScope s_Brokeninit) := ⟨rfl, rfl, rfl, by decide +kernel, rfl, by decide +kernel, by decide +kernel⟩
theorem sc_inside : FnScope ["key", "low", "high"] ["key", "low", "high"] (defScope s_inside) := ⟨rfl, rfl, rfl, by decide +kernel, rfl, by decide +kernel, by decide +kernel⟩
theorem sc_Spaninit : FnScope ["self", "number", "watched", "begin", "end", "looks", "puts"] ["self", "number", "watched", "begin", "end", "looks", "puts"] (defScope s_Spaninit) := ⟨rfl, rfl, rfl, by decide +kernel, rfl, by decide +kernel, by decide +kernel⟩
theorem sc_passesby : FnScope ["look", "key", "end"] ["look", "key", "end"] (defScope s_passesby) := ⟨rfl, rfl, rfl, by decide +kernel, rfl, by decide +kernel, by decide +kernel⟩
theorem sc_older : FnScope ["one", "other", "key", "look"] ["one", "other"] (defScope s_older) := ⟨rfl, rfl, rfl, by decide +kernel, rfl, by decide +kernel, by decide +kernel⟩
theorem sc_firstone : FnScope ["spans", "mid", "span"] ["spans", "mid"] (defScope s_firstone) := ⟨rfl, rfl, rfl, by decide +kernel, rfl, by decide +kernel, by decide +kernel⟩
theorem sc_firstother : FnScope ["spans", "mid", "span"] ["spans", "mid"] (defScope s_firstother) := ⟨rfl, rfl, rfl, by decide +kernel, rfl, by decide +kernel, by decide +kernel⟩
theorem sc_closing : FnScope ["kept", "new", "spans", "mid", "one", "other"] ["kept", "new"] (defScope s_closing) := ⟨rfl, rfl, rfl, by decide +kernel, rfl, by decide +kernel, by decide +kernel⟩
theorem sc_letin : FnScope ["kept", "new", "three"] ["kept", "new"] (defScope s_letin) := ⟨rfl, rfl, rfl, by decide +kernel, rfl, by decide +kernel, by decide +kernel⟩
theorem sc_early : FnScope ["span", "kept"] ["span", "kept"] (defScope s_early) := ⟨rfl, rfl, rfl, by decide +kernel, rfl, by decide +kernel, by decide +kernel⟩
theorem sc_standof : FnScope ["span", "kept"] ["span", "kept"] (defScope s_standof) := ⟨rfl, rfl, rfl, by decide +kernel, rfl, by decide +kernel, by decide +kernel⟩
theorem sc_Lcell : FnScope ["_law_script", "_law_k"] ["_law_script", "_law_k"] (defScope s_Lcell) := ⟨rfl, rfl, rfl, by decide +kernel, rfl, by decide +kernel, by decide +kernel⟩
theorem sc_Lstream : FnScope ["_law_cell_here", "_law_k", "_law_found", "_law_number", "_law_j"] ["_law_cell_here", "_law_k"] (defScope s_Lstream) := ⟨rfl, rfl, rfl, by decide +kernel, rfl, by decide +kernel, by decide +kernel⟩
theorem sc_Llooks : FnScope ["_law_xs", "_law_watched", "_law_begin", "_law_end", "_law_shift", "_law_looks_here", "_law_j", "_law_number", "_law_low", "_law_high", "_law_stand", "_law_own"] ["_law_xs", "_law_watched", "_law_begin", "_law_end", "_law_shift"] (defScope s_Llooks) := ⟨rfl, rfl, rfl, by decide +kernel, rfl, by decide +kernel, by decide +kernel⟩
theorem sc_Lrows : FnScope ["_law_script", "_law_most", "_law_shift", "_law_unit", "_law_step", "_law_off", "_law_rows_here", "_law_k", "_law_cell_here", "_law_xs", "_law_watched", "_law_begin", "_law_end", "_law_mask", "_law_puts", "_law_looks_here"] ["_law_script", "_law_most"] (defScope s_Lrows) := ⟨rfl, rfl, rfl, by decide +kernel, rfl, by decide +kernel, by decide +kernel⟩
theorem sc_Lspan : FnScope ["_law_row"] ["_law_row"] (defScope s_Lspan) := ⟨rfl, rfl, rfl, by decide +kernel, rfl, by decide +kernel, by decide +kernel⟩
theorem sc_Lwhole : FnScope ["_law_found"] ["_law_found"] (defScope s_Lwhole) := ⟨rfl, rfl, rfl, by decide +kernel, rfl, by decide +kernel, by decide +kernel⟩
theorem sc_Lcome : FnScope ["_law_kept", "_law_new", "_law_found"] ["_law_kept", "_law_new"] (defScope s_Lcome) := ⟨rfl, rfl, rfl, by decide +kernel, rfl, by decide +kernel, by decide +kernel⟩
theorem sc_Ledges : FnScope ["_law_one", "_law_other", "_law_moments", "_law_stand", "_law_low", "_law_high", "_law_own", "_law_moment", "_law_key"] ["_law_one", "_law_other", "_law_moments"] (defScope s_Ledges) := ⟨rfl, rfl, rfl, by decide +kernel, rfl, by decide +kernel, by decide +kernel⟩
theorem sc_law : FnScope ["_law_script", "_law_rows_here", "_law_kept", "_law_let", "_law_row", "_law_found", "_law_moments", "_law_span_here", "_law_moment", "_law_one", "_law_other"] ["_law_script"] (defScope s_law) := ⟨rfl, rfl, rfl, by decide +kernel, rfl, by decide +kernel, by decide +kernel⟩
theorem range_gather {α β : Type} (l : List α) (d : α) (g : α → Option β) : (List.range l.length).filterMap (fun i => g (l.getD i d)) = l.filterMap g := by
  have e : (List.range l.length).map (fun i => l.getD i d) = l := by
    refine List.ext_getElem (by simp) fun i h1 h2 => ?_
    simp only [List.getElem_map, List.getElem_range]
    rw [List.getD_eq_getElem?_getD, List.getElem?_eq_getElem h2]
    rfl
  conv => rhs; rw [← e]
  rw [List.filterMap_map]
  rfl
theorem gather_filter {α : Type} (l : List α) (p : α → Bool) (f : α → V) : l.filterMap (fun x => if p x = true then some (f x) else none) = (l.filter p).map f := by
  induction l with
  | nil => rfl
  | cons x r ih =>
    rw [List.filterMap_cons, List.filter_cons]
    by_cases h : p x = true
    · simp only [h, if_true, List.map_cons, ih]
    · simp only [h, if_false, ih, Bool.false_eq_true]
/-! ### spans -/
structure Look where
  st : Int
  lo : Int
  hi : Int
  own : List Int
structure Row where
  num : Int
  wat : Bool
  beg : Int
  fin : Int
  looks : List Look
  puts : List Int
def sees (k e : Int) (l : Look) : Bool := decide (l.st < e) && (decide (l.lo ≤ k ∧ k ≤ l.hi) && !l.own.contains k)
def optV : Option Int → V
  | none => .non
  | some k => .int k
/-- the least key on which the one is older -/
def olderR (r1 r2 : Row) : Option Int := if r1.num = r2.num then none else r2.puts.find? fun k => r1.looks.any (sees k r2.fin)
def LkAt (H : Hp) (v : V) (l : Look) : Prop := ∃ t o, v = .ref t ∧ H t = some (.tup [.int l.st, .int l.lo, .int l.hi, .ref o]) ∧ H o = some (.tup (l.own.map V.int))
def RowIs (H : Hp) (v : V) (r : Row) (la pa : Addr) : Prop := ∃ t vs, v = .ref t ∧ H t = some (.tup [.int r.num, .bl r.wat, .int r.beg, .int r.fin, .ref la, .ref pa]) ∧ H la = some (.lst vs) ∧ Paired (LkAt H) vs r.looks ∧ H pa = some (.lst (r.puts.map V.int))
def spF (r : Row) (la pa : Addr) : List (Str × V) := [("number", .int r.num), ("watched", .bl r.wat), ("begin", .int r.beg), ("end", .int r.fin), ("looks", .ref la), ("puts", .ref pa)]
def SpanIs (C : Addr) (H : Hp) (v : V) (r : Row) (la pa : Addr) : Prop := ∃ t dx vs, v = .ref t ∧ H t = some (.ins C dx (spF r la pa)) ∧ H la = some (.lst vs) ∧ Paired (LkAt H) vs r.looks ∧ H pa = some (.lst (r.puts.map V.int))
def RowAt (D : Addr) (H : Hp) (v : V) (r : Row) : Prop := ∃ la pa, la ≠ D ∧ pa ≠ D ∧ RowIs H v r la pa
def SpanAt (C D : Addr) (H : Hp) (v : V) (r : Row) : Prop := ∃ la pa, la ≠ D ∧ pa ≠ D ∧ SpanIs C H v r la pa
structure Nice (r : Row) : Prop where
  l3 : r.looks.length ≤ 3
  p6 : r.puts.length ≤ 6
  up : r.puts.Pairwise (· < ·)
section
variable {C D la pa : Addr} {H H' : Hp} {v : V} {r : Row} {l : Look} {ys : List V}
theorem LkAt.keep (h : LkAt H v l) (s : ∀ t xs, H t = some (.tup xs) → H' t = some (.tup xs)) : LkAt H' v l :=
  let ⟨t, o, e, a, b⟩ := h
  ⟨t, o, e, s _ _ a, s _ _ b⟩
theorem RowIs.same (h : RowIs H v r la pa) (s : Same H H') : RowIs H' v r la pa :=
  let ⟨t, vs, e, a, b, c, d⟩ := h
  ⟨t, vs, e, s _ _ a, s _ _ b, prs_imp (fun _ _ x => x.keep fun _ _ z => s _ _ z) c, s _ _ d⟩
theorem SpanIs.same (h : SpanIs C H v r la pa) (s : Same H H') : SpanIs C H' v r la pa :=
  let ⟨t, dx, vs, e, a, b, c, d⟩ := h
  ⟨t, dx, vs, e, s _ _ a, s _ _ b, prs_imp (fun _ _ x => x.keep fun _ _ z => s _ _ z) c, s _ _ d⟩
theorem RowAt.same (h : RowAt D H v r) (s : Same H H') : RowAt D H' v r :=
  let ⟨la, pa, a, b, c⟩ := h
  ⟨la, pa, a, b, c.same s⟩
theorem SpanAt.same (h : SpanAt C D H v r) (s : Same H H') : SpanAt C D H' v r :=
  let ⟨la, pa, a, b, c⟩ := h
  ⟨la, pa, a, b, c.same s⟩
theorem not_lst {H : Hp} {D t : Addr} {o : HO} {ys : List V} (hD : H D = some (.lst ys)) (h : H t = some o) (no : ∀ xs, o ≠ .lst xs) : t ≠ D := fun z => by
  rw [z, hD] at h
  cases h
  exact no _ rfl
theorem RowAt.keep (h : RowAt D H v r) (hD : H D = some (.lst ys)) (k : ∀ b o, b ≠ D → H b = some o → H' b = some o) : RowAt D H' v r := by
  obtain ⟨la, pa, n1, n2, t, vs, e, a, b, c, d⟩ := h
  have tups : ∀ t xs, H t = some (.tup xs) → H' t = some (.tup xs) := fun t xs z => k _ _ (not_lst hD z fun _ y => by cases y) z
  exact ⟨la, pa, n1, n2, t, vs, e, tups _ _ a, k _ _ n1 b, prs_imp (fun _ _ x => x.keep tups) c, k _ _ n2 d⟩
theorem SpanAt.keep (h : SpanAt C D H v r) (hD : H D = some (.lst ys)) (k : ∀ b o, b ≠ D → H b = some o → H' b = some o) : SpanAt C D H' v r := by
  obtain ⟨la, pa, n1, n2, t, dx, vs, e, a, b, c, d⟩ := h
  have tups : ∀ t xs, H t = some (.tup xs) → H' t = some (.tup xs) := fun t xs z => k _ _ (not_lst hD z fun _ y => by cases y) z
  exact ⟨la, pa, n1, n2, t, dx, vs, e, k _ _ (not_lst hD a fun _ y => by cases y) a, k _ _ n1 b, prs_imp (fun _ _ x => x.keep tups) c, k _ _ n2 d⟩
end
theorem older_same {r1 r2 : Row} (e : r1.num = r2.num) : olderR r1 r2 = none := if_pos e
theorem older_at {r1 r2 : Row} {i : Nat} {k : Int} (e : r1.num ≠ r2.num) (hn : ∀ j x, j < i → r2.puts[j]? = some x → r1.looks.any (sees x r2.fin) = false) (h : r2.puts[i]? = some k) (hk : r1.looks.any (sees k r2.fin) = true) : olderR r1 r2 = some k := by
  unfold olderR
  rw [if_neg e]
  exact find_at hn h hk
theorem older_none {r1 r2 : Row} (e : r1.num ≠ r2.num) (hn : ∀ j x, j < r2.puts.length → r2.puts[j]? = some x → r1.looks.any (sees x r2.fin) = false) : olderR r1 r2 = none := by
  unfold olderR
  rw [if_neg e, List.find?_eq_none]
  intro x hx
  obtain ⟨j, hj, e2⟩ := List.getElem_of_mem hx
  rw [hn j x hj (by rw [List.getElem?_eq_getElem hj, e2])]
  simp
def spIn : Sp := fun vs H Q _ => ∃ k l h : Int, vs = [.int k, .int l, .int h] ∧ Q (.bl (decide (l ≤ k ∧ k ≤ h))) H
def spSpan (C : Addr) : Sp := fun vs H Q _ => ∃ (a dx l0 p0 : Addr) (r : Row) (xs us : List V), vs = [.ref a, .int r.num, .bl r.wat, .int r.beg, .int r.fin, .ref l0, .ref p0] ∧ H a = some (.ins C dx []) ∧ H l0 = some (.lst xs) ∧ H p0 = some (.lst us) ∧
  ∀ la pa H', H la = none → H pa = none → (∀ b o, b ≠ a → H b = some o → H' b = some o) → H' a = some (.ins C dx (spF r la pa)) → H' la = some (.lst xs) → H' pa = some (.lst us) → Q .non H'
def spPasses : Sp := fun vs H Q _ => ∃ (t o : Addr) (l : Look) (k e : Int), vs = [.ref t, .int k, .int e] ∧ H t = some (.tup [.int l.st, .int l.lo, .int l.hi, .ref o]) ∧ H o = some (.tup (l.own.map V.int)) ∧ Q (.bl (sees k e l)) H
def spOlder (C : Addr) : Sp := fun vs H Q _ => ∃ (v1 v2 : V) (r1 r2 : Row) (la1 pa1 la2 pa2 : Addr), vs = [v1, v2] ∧ SpanIs C H v1 r1 la1 pa1 ∧ SpanIs C H v2 r2 la2 pa2 ∧ Q (optV (olderR r1 r2)) H
def spCell (K : PySem.W.Frag) : Sp := fun vs H Q _ => ∃ (a : Addr) (ns : List Int) (k : Int), vs = [.ref a, .int k] ∧ SqL K H a (ns.map V.int) ∧ 0 ≤ k ∧ k ≤ 1000 ∧ ∀ z : Int, Q (.int z) H
def spStream : Sp := fun vs H Q _ => ∃ c k : Int, vs = [.int c, .int k] ∧ ∀ p (ns : List Int) H', H p = none → ns.length = 7 → Same H H' → H' p = some (.lst (ns.map V.int)) → Q (.ref p) H'
def spMkSpan (C : Addr) : Sp := fun vs H Q _ => ∃ (v : V) (r : Row) (la pa : Addr), vs = [v] ∧ RowIs H v r la pa ∧ ∀ y la' pa' H', H la' = none → H pa' = none → Same H H' → SpanIs C H' y r la' pa' → Q y H'
/-! ### early ones -/
def RowOf (H : Hp) (v : V) (r : Row) : Prop := ∃ la pa, RowIs H v r la pa
def SpanOf (C : Addr) (H : Hp) (v : V) (r : Row) : Prop := ∃ la pa, SpanIs C H v r la pa
theorem RowOf.same {H H' : Hp} {v : V} {r : Row} (h : RowOf H v r) (s : Same H H') : RowOf H' v r := let ⟨la, pa, x⟩ := h; ⟨la, pa, x.same s⟩
theorem SpanOf.same {C : Addr} {H H' : Hp} {v : V} {r : Row} (h : SpanOf C H v r) (s : Same H H') : SpanOf C H' v r := let ⟨la, pa, x⟩ := h; ⟨la, pa, x.same s⟩
def ahead (r q : Row) : Bool := decide (q.fin < r.fin) && (olderR r q).isSome
def earlyR (r : Row) (rs : List Row) : Bool := r.wat && rs.any (ahead r)
theorem opt_is (o : Option Int) : (!decide (optV o = V.non)) = o.isSome := by cases o <;> rfl
def spEarly (C : Addr) : Sp := fun vs H Q _ => ∃ (l : Addr) (v : V) (us : List V) (rs : List Row) (r : Row), vs = [v, .ref l] ∧ H l = some (.lst us) ∧ Paired (SpanOf C H) us rs ∧ SpanOf C H v r ∧ Q (.bl (earlyR r rs)) H
def spStand (C : Addr) : Sp := fun vs H Q _ => ∃ (l : Addr) (v : V) (us : List V) (rs : List Row) (r : Row), vs = [v, .ref l] ∧ H l = some (.lst us) ∧ Paired (SpanOf C H) us rs ∧ SpanOf C H v r ∧ Q (.int (if earlyR r rs = true then r.beg else r.fin)) H
def spWhole : Sp := fun vs H Q _ => ∃ z : Int, vs = [.int z] ∧ Q (.bl true) H
def lposC : Pos := ⟨44, 37, 44, 61⟩
def qualC : Str := ("closing" : Str) ++ ".<locals>." ++ "<lambda>"
/-! ### what closes a ring about one at watch -/
abbrev Three := Row × Row × Row
def behind (mid q : Row) : Bool := decide (mid.beg < q.fin) && (olderR q mid).isSome
def closeAt (S : List Row) (new mid : Row) : Option Three := ((if mid.num = new.num then S else [new]).find? (behind mid)).bind fun one => (S.find? (ahead mid)).map fun other => (one, mid, other)
def closeR (S : List Row) (new : Row) : Option Three := (S.filter (·.wat)).findSome? (closeAt S new)
theorem fs_at {α β : Type} {f : α → Option β} {l : List α} {i : Nat} {x : α} {b : β} (hn : ∀ j y, j < i → l[j]? = some y → f y = none) (h : l[i]? = some x) (hb : f x = some b) : l.findSome? f = some b := by
  induction l generalizing i with
  | nil => simp at h
  | cons a l ih =>
    rw [List.findSome?_cons]
    cases i with
    | zero =>
      cases (show some a = some x from h)
      rw [hb]
    | succ i =>
      rw [hn 0 a (Nat.succ_pos _) rfl]
      exact ih (fun j y hj e => hn (j + 1) y (Nat.succ_lt_succ hj) (by simpa using e)) (by simpa using h)
theorem fs_none {α β : Type} {f : α → Option β} {l : List α} (hn : ∀ (j : Nat) y, j < l.length → l[j]? = some y → f y = none) : l.findSome? f = none := by
  rw [List.findSome?_eq_none_iff]
  intro x hx
  obtain ⟨j, hj, e⟩ := List.getElem_of_mem hx
  exact hn j x hj (by rw [List.getElem?_eq_getElem hj, e])
/-- what the rows drawn have -/
structure Good (rs : List Row) : Prop where
  nice : ∀ r ∈ rs, Nice r
  nums : ∀ a ∈ rs, ∀ b ∈ rs, a.num = b.num → a = b
  fins : ∀ a ∈ rs, ∀ b ∈ rs, a.fin = b.fin → a = b
  begs : ∀ a ∈ rs, ∀ b ∈ rs, a.beg ≠ b.fin
theorem Good.sub {rs ss : List Row} (g : Good rs) (h : ∀ x ∈ ss, x ∈ rs) : Good ss :=
  ⟨fun r hr => g.nice r (h r hr), fun a ha b hb => g.nums a (h a ha) b (h b hb), fun a ha b hb => g.fins a (h a ha) b (h b hb), fun a ha b hb => g.begs a (h a ha) b (h b hb)⟩
/-- rows by rising numbers -/
def Up (l S : List Row) : Prop := S.Perm l ∧ S.Pairwise fun a b => a.num ≤ b.num
theorem step17 : ∀ d : Nat, d < 17 → ∀ s : Nat, s < 17 → 0 < d → 0 < s → (d * s) % 17 ≠ 0 := by decide
theorem num_lt {sp of : Int} (h2 : 1 ≤ sp) (h3 : sp ≤ 16) {i j : Nat} (hj : j < 17) (h : i < j) : ((i : Int) * sp + of) % 17 ≠ ((j : Int) * sp + of) % 17 := fun e => by
  obtain ⟨s, rfl⟩ : ∃ s : Nat, sp = s := ⟨sp.toNat, by omega⟩
  have z := step17 (j - i) (by omega) s (by omega) (by omega) (by omega)
  rw [Nat.sub_mul] at z
  have m := Nat.mul_le_mul_right s (Nat.le_of_lt h)
  rw [← Int.natCast_mul, ← Int.natCast_mul] at e
  generalize i * s = p at *
  generalize j * s = q at *
  omega
structure Drawn (un sp of : Int) (rs : List Row) : Prop where
  at_ : ∀ (i : Nat) r, rs[i]? = some r → r.num = 1 + ((i : Int) * sp + of) % 17 ∧ r.fin = un * 100 * ((i : Int) + 1) ∧ ∃ b, r.beg = un * b ∧ b % 100 ≠ 0
theorem Drawn.snoc {un sp of : Int} {rs : List Row} (d : Drawn un sp of rs) {r : Row} (h : r.num = 1 + ((rs.length : Int) * sp + of) % 17 ∧ r.fin = un * 100 * ((rs.length : Int) + 1) ∧ ∃ b, r.beg = un * b ∧ b % 100 ≠ 0) : Drawn un sp of (rs ++ [r]) := by
  refine ⟨fun i q e => ?_⟩
  by_cases hi : i < rs.length
  · rw [List.getElem?_append_left hi] at e
    exact d.at_ i q e
  · have hi2 : i = rs.length := by
      have := (List.getElem?_eq_some_iff.mp e).1
      rw [List.length_append] at this
      simp at this
      omega
    subst hi2
    rw [List.getElem?_append_right (Nat.le_refl _), Nat.sub_self] at e
    cases (show some r = some q from e)
    exact h
theorem Drawn.ix {un sp of : Int} {rs : List Row} (d : Drawn un sp of rs) (h2 : 1 ≤ sp) (h3 : sp ≤ 16) (few : rs.length ≤ 16) {i j : Nat} {a b : Row} (ha : rs[i]? = some a) (hb : rs[j]? = some b) (e : a.num = b.num) : i = j := by
  have hi := (List.getElem?_eq_some_iff.mp ha).1
  have hj := (List.getElem?_eq_some_iff.mp hb).1
  have e1 := (d.at_ i a ha).1
  have e2 := (d.at_ j b hb).1
  rcases Nat.lt_trichotomy i j with h | h | h
  · exact absurd (show _ = _ by omega) (num_lt (of := of) h2 h3 (by omega) h)
  · exact h
  · exact absurd (show _ = _ by omega) (num_lt (of := of) h2 h3 (by omega) h)
theorem mem_ix {α : Type} {l : List α} {a : α} (h : a ∈ l) : ∃ i : Nat, l[i]? = some a := by
  obtain ⟨i, hi, e⟩ := List.getElem_of_mem h
  exact ⟨i, List.getElem?_eq_some_iff.mpr ⟨hi, e⟩⟩
theorem Drawn.good {un sp of : Int} {rs : List Row} (d : Drawn un sp of rs) (h1 : 1 ≤ un) (h2 : 1 ≤ sp) (h3 : sp ≤ 16) (few : rs.length ≤ 16) (nice : ∀ r ∈ rs, Nice r) : Good rs ∧ (rs.map Row.num).Nodup := by
  have same : ∀ {i j : Nat} {a b : Row}, rs[i]? = some a → rs[j]? = some b → i = j → a = b := fun ha hb e => by
    subst e
    rw [ha] at hb
    cases hb
    rfl
  refine ⟨⟨nice, fun a ha b hb e => ?_, fun a ha b hb e => ?_, fun a ha b hb e => ?_⟩, ?_⟩
  · obtain ⟨i, hi⟩ := mem_ix ha
    obtain ⟨j, hj⟩ := mem_ix hb
    exact same hi hj (d.ix h2 h3 few hi hj e)
  · obtain ⟨i, hi⟩ := mem_ix ha
    obtain ⟨j, hj⟩ := mem_ix hb
    have e1 := (d.at_ i a hi).2.1
    have e2 := (d.at_ j b hj).2.1
    have e3 := Int.eq_of_mul_eq_mul_left (a := un * 100) (by omega) (e1.symm.trans (e.trans e2))
    exact same hi hj (by omega)
  · obtain ⟨i, hi⟩ := mem_ix ha
    obtain ⟨j, hj⟩ := mem_ix hb
    obtain ⟨_, _, c, e1, e2⟩ := d.at_ i a hi
    have e3 := (d.at_ j b hj).2.1
    rw [Int.mul_assoc] at e3
    have e4 := Int.eq_of_mul_eq_mul_left (a := un) (by omega) (e1.symm.trans (e.trans e3))
    omega
  · rw [List.nodup_iff_pairwise_ne, List.pairwise_map, List.pairwise_iff_getElem]
    intro i j hi hj hij e
    have := d.ix h2 h3 few (List.getElem?_eq_getElem hi) (List.getElem?_eq_getElem hj) e
    omega
/-! what is kept but the table of code objects -/
def Kp (H H' : Hp) : Prop := ∀ b o, (∀ ps, o ≠ HO.tbl ps) → H b = some o → H' b = some o
theorem Kp.of {H H' : Hp} (s : Same H H') : Kp H H' := fun b o _ e => s b o e
theorem Kp.trans {H H' H'' : Hp} (a : Kp H H') (b : Kp H' H'') : Kp H H'' := fun c o n e => b c o n (a c o n e)
theorem Kp.tup {H H' : Hp} (a : Kp H H') {t : Addr} {xs : List V} (e : H t = some (.tup xs)) : H' t = some (.tup xs) := a _ _ (fun _ z => by cases z) e
theorem Kp.lst {H H' : Hp} (a : Kp H H') {t : Addr} {xs : List V} (e : H t = some (.lst xs)) : H' t = some (.lst xs) := a _ _ (fun _ z => by cases z) e
theorem SpanOf.kp {C : Addr} {H H' : Hp} {v : V} {r : Row} (h : SpanOf C H v r) (k : Kp H H') : SpanOf C H' v r := by
  obtain ⟨la, pa, t, dx, vs, e, a, b, c, d⟩ := h
  exact ⟨la, pa, t, dx, vs, e, k _ _ (fun _ z => by cases z) a, k.lst b, prs_imp (fun _ _ x => x.keep fun _ _ z => k.tup z) c, k.lst d⟩
theorem RowOf.kp {H H' : Hp} {v : V} {r : Row} (h : RowOf H v r) (k : Kp H H') : RowOf H' v r := by
  obtain ⟨la, pa, t, vs, e, a, b, c, d⟩ := h
  exact ⟨la, pa, t, vs, e, k.tup a, k.lst b, prs_imp (fun _ _ x => x.keep fun _ _ z => k.tup z) c, k.lst d⟩
theorem tb_same {P0 : Addr} {lp : Pos} {ql : Str} {H H' : Hp} (h : Tb P0 lp ql H) (s : Same H H') : Tb P0 lp ql H' := h.imp (s _ _) fun ⟨c, a, b⟩ => ⟨c, s _ _ a, s _ _ b⟩
theorem tb_kp {P0 : Addr} {lp : Pos} {ql : Str} {H H' : Hp} (h : Tb P0 lp ql H) (k : ∀ b o, b ≠ P0 → H b = some o → H' b = some o) : Kp H H' := fun b o n e => k b o (fun z => by
  rcases h with q | ⟨_, q, _⟩ <;> (rw [z, q] at e; cases e; exact n _ rfl)) e
theorem prs_map {α β γ : Type} {F : α → β → Prop} {G : α → γ → Prop} {f : β → γ} {xs : List α} {bs : List β} (p : Paired F xs bs) (h : ∀ a b, F a b → G a (f b)) : Paired G xs (bs.map f) := by
  induction p with
  | nil => exact .nil
  | cons r _ ih => exact .cons (h _ _ r) ih
theorem prs_filter {α β : Type} {F : α → β → Prop} (p : β → Bool) {xs : List α} {bs : List β} (h : Paired F xs bs) : Paired F (((xs.zip bs).filter fun q => p q.2).map Prod.fst) (bs.filter p) := by
  induction h with
  | nil => exact .nil
  | cons r _ ih =>
    rename_i a b _ _ _
    rw [List.zip_cons_cons, List.filter_cons, List.filter_cons]
    by_cases e : p b = true
    · rw [if_pos e, if_pos e]
      exact .cons r ih
    · rw [if_neg e, if_neg e]
      exact ih
/-- sorted by keys: the rows go along -/
theorem by_rows {F : V → Row → Prop} {xs ys : List V} {bs : List Row} (h : ByKeys (bs.map Row.num) xs ys) (p : Paired F xs bs) : ∃ S, Up bs S ∧ Paired F ys S := by
  obtain ⟨ps, pp, rfl, pw⟩ := h
  have z : Paired (fun (b : Row) (q : Int × V) => q.1 = b.num ∧ F q.2 b) bs ((bs.map Row.num).zip xs) := by
    clear pp pw
    induction p with
    | nil => exact .nil
    | cons r _ ih => exact .cons ⟨rfl, r⟩ ih
  obtain ⟨S, sp, sr⟩ := perm_pair pp z
  refine ⟨S, ⟨sp, ?_⟩, ?_⟩
  · clear sp pp z p
    induction sr with
    | nil => exact .nil
    | cons r t ih =>
      obtain ⟨h1, h2⟩ := List.pairwise_cons.mp pw
      refine List.pairwise_cons.mpr ⟨fun b hb => ?_, ih h2⟩
      obtain ⟨j, hj⟩ := mem_ix hb
      obtain ⟨y, ey, ry⟩ := paired_get t hj
      have := h1 y (List.mem_of_getElem? ey)
      rw [r.1, ry.1] at this
      exact this
  · clear sp pp z p pw
    induction sr with
    | nil => exact .nil
    | cons r _ ih => exact .cons r.2 ih
theorem ifjoinS {c : TT} {t u : TS} {D : Ends} {σ : L2.St} {H : Hp} {b : Bool} (h1 : ∀ Q : Bool → Hp → Prop, (∀ H', Same H H' → Q b H') → c σ H Q) (h2 : ∀ H', Same H H' → if b = true then t D σ H' else u D σ H') : tIfS c t u D σ H := h1 _ h2
def tri (x : Three) : List V := [.int x.1.num, optV (olderR x.1 x.2.1), .int x.2.1.num, optV (olderR x.2.1 x.2.2), .int x.2.2.num]
def ResIs (H : Hp) (v : V) (o : Option Three) : Prop := (o = none ∧ v = .non) ∨ ∃ x t, o = some x ∧ v = .ref t ∧ H t = some (.tup (tri x))
theorem ResIs.kp {H H' : Hp} {v : V} {o : Option Three} (h : ResIs H v o) (k : Kp H H') : ResIs H' v o := h.imp id fun ⟨x, t, a, b, c⟩ => ⟨x, t, a, b, k.tup c⟩
def spFirstG (p : Row → Row → Bool) (C : Addr) : Sp := fun vs H Q _ => ∃ (l : Addr) (v : V) (us : List V) (rs : List Row) (r : Row), vs = [.ref l, v] ∧ H l = some (.lst us) ∧ Paired (SpanOf C H) us rs ∧ SpanOf C H v r ∧ (∀ u q, rs.find? (p r) = some q → SpanOf C H u q → Q u H) ∧ (rs.find? (p r) = none → Q .non H)
def spClosing (C P0 : Addr) (mg : Str → Option Value) (base : Heap) : Sp := fun vs H Q _ => ∃ (l : Addr) (v : V) (us : List V) (rs : List Row) (r : Row), vs = [.ref l, v] ∧ base.BuiltinsAt mg P0 ∧ H l = some (.lst us) ∧ Paired (SpanOf C H) us rs ∧ SpanOf C H v r ∧ rs.length < 63 ∧ Tb P0 lposC qualC H ∧
  ∀ u H' S, Kp H H' → Tb P0 lposC qualC H' → Up (rs ++ [r]) S → ResIs H' u (closeR S r) → Q u H'
def dfR : V × Row := (.non, ⟨0, false, 0, 0, [], []⟩)
theorem take_snoc {α : Type} {l : List α} {i : Nat} {a : α} (h : l[i]? = some a) : l.take (i + 1) = l.take i ++ [a] := by
  rw [List.take_add_one, h]
  rfl
abbrev spBroken (C : Addr) : Sp := fun vs H Q _ => ∃ (a : Addr) (i : Int) (y : V), vs = [.ref a, .int i, y] ∧ H a = some (excF a C none) ∧
  ∀ dx, H dx = none → Q .non (upd (upd (upd H a (excF a C (some dx))) dx (xdO dx [("dealing", .int i)])) dx (xdO dx (putF "why" y [("dealing", .int i)])))
def whyL (x : Three) : List V := V.str "edges" :: tri x
def spLetIn (C CB P0 : Addr) (mg : Str → Option Value) (base : Heap) : Sp := fun vs H Q E => ∃ (l : Addr) (v : V) (us : List V) (rs : List Row) (r : Row), vs = [.ref l, v] ∧ base.BuiltinsAt mg P0 ∧ H l = some (.lst us) ∧ Paired (SpanOf C H) us rs ∧ SpanOf C H v r ∧ rs.length < 62 ∧ Tb P0 lposC qualC H ∧
  (∀ H' S p, Kp H H' → Tb P0 lposC qualC H' → Up (rs ++ [r]) S → closeR S r = none → (∀ b xs, H b = some (.lst xs) → b ≠ p) → H' p = some (.lst (us ++ [v])) → Q (.ref p) H') ∧
  (∀ H' S x ex t, Kp H H' → Tb P0 lposC qualC H' → Up (rs ++ [r]) S → closeR S r = some x → H' ex = some (xdO ex (putF "why" (.ref t) [("dealing", .int r.num)])) → H' t = some (.tup (whyL x)) → E (.ref CB) (some ex) H')
/-- a span whose lists are none of these -/
def SpanA (C : Addr) (B : List Addr) (H : Hp) (v : V) (r : Row) : Prop := ∃ la pa, la ∉ B ∧ pa ∉ B ∧ SpanIs C H v r la pa
theorem SpanA.of {C : Addr} {B : List Addr} {H : Hp} {v : V} {r : Row} (h : SpanA C B H v r) : SpanOf C H v r := let ⟨la, pa, _, _, x⟩ := h; ⟨la, pa, x⟩
theorem SpanA.kp {C : Addr} {B : List Addr} {H H' : Hp} {v : V} {r : Row} (h : SpanA C B H v r) (k : Kp H H') : SpanA C B H' v r := by
  obtain ⟨la, pa, n1, n2, t, dx, vs, e, a, b, c, d⟩ := h
  exact ⟨la, pa, n1, n2, t, dx, vs, e, k _ _ (fun _ z => by cases z) a, k.lst b, prs_imp (fun _ _ x => x.keep fun _ _ z => k.tup z) c, k.lst d⟩
/-- .. where one of these lists changes -/
theorem SpanA.chg {C D : Addr} {B : List Addr} {H H' : Hp} {v : V} {r : Row} {ys : List V} (h : SpanA C B H v r) (hB : D ∈ B) (hD : H D = some (.lst ys)) (k : ∀ b o, b ≠ D → H b = some o → H' b = some o) : SpanA C B H' v r := by
  obtain ⟨la, pa, n1, n2, t, dx, vs, e, a, b, c, d⟩ := h
  have tups : ∀ t xs, H t = some (.tup xs) → H' t = some (.tup xs) := fun t xs z => k _ _ (not_lst hD z fun _ y => by cases y) z
  exact ⟨la, pa, n1, n2, t, dx, vs, e, k _ _ (not_lst hD a fun _ y => by cases y) a, k _ _ (fun z => n1 (z ▸ hB)) b, prs_imp (fun _ _ x => x.keep tups) c, k _ _ (fun z => n2 (z ▸ hB)) d⟩
theorem SpanA.to {C : Addr} {B B' : List Addr} {H : Hp} {v : V} {r : Row} (h : SpanA C B H v r) (k : ∀ b xs, H b = some (.lst xs) → b ∉ B → b ∉ B') : SpanA C B' H v r := by
  obtain ⟨la, pa, n1, n2, x⟩ := h
  obtain ⟨t, dx, vs, e, a, b, c, d⟩ := id x
  exact ⟨la, pa, k _ _ b n1, k _ _ d n2, x⟩
theorem tb_chg {P0 D : Addr} {lp : Pos} {ql : Str} {H H' : Hp} {ys : List V} (h : Tb P0 lp ql H) (hD : H D = some (.lst ys)) (k : ∀ b o, b ≠ D → H b = some o → H' b = some o) : Tb P0 lp ql H' :=
  h.imp (fun e => k _ _ (fun z => by rw [z, hD] at e; cases e) e) fun ⟨c, a, b⟩ => ⟨c, k _ _ (fun z => by rw [z, hD] at a; cases a) a, k _ _ (fun z => by rw [z, hD] at b; cases b) b⟩
/-! ### moments go forward -/
structure Fair (r : Row) : Prop where
  ord : r.beg < r.fin
  wl : r.wat = true → ∀ l ∈ r.looks, l.st = r.beg
  nl : ∀ l ∈ r.looks, l.st ≤ r.fin
theorem Drawn.rise {un sp of : Int} {rs : List Row} (d : Drawn un sp of rs) (h1 : 1 ≤ un) : rs.Pairwise fun a b => a.fin < b.fin := by
  rw [List.pairwise_iff_getElem]
  intro i j hi hj hij
  rw [(d.at_ i _ (List.getElem?_eq_getElem hi)).2.1, (d.at_ j _ (List.getElem?_eq_getElem hj)).2.1]
  exact Int.mul_lt_mul_of_pos_left (by omega) (by omega)
theorem cut_most (xs : List V) : (cutV xs (some 2) (some (2 + 14))).length ≤ 14 := by
  have e1 : HT.sIx xs.length 0 (some 2) = min 2 xs.length := rfl
  have e2 : HT.sIx xs.length xs.length (some (2 + 14)) = min 16 xs.length := rfl
  unfold cutV
  rw [List.length_take, List.length_drop, e1, e2]
  omega
def spLooksE : Sp := fun vs H Q _ => ∃ (xa : Addr) (ns : List Int) (w : Bool) (b e sh : Int), vs = [.ref xa, .bl w, .int b, .int e, .int sh] ∧ H xa = some (.lst (ns.map V.int)) ∧ ns.length = 7 ∧ b < e ∧ ∀ p ls us H', H p = none → Same H H' → H' p = some (.lst us) → Paired (LkAt H') us ls → ls.length ≤ 3 → (∀ l ∈ ls, l.st ≤ e) → (w = true → ∀ l ∈ ls, l.st = b) → Q (.ref p) H'
def spRowsE (K : PySem.W.Frag) : Sp := fun vs H Q _ => ∃ (a : Addr) (ns : List Int) (m : Int), vs = [.ref a, .int m] ∧ m = 14 ∧ SqL K H a (ns.map V.int) ∧ ns.length ≤ 63 ∧ ∀ p rs us H', H p = none → Same H H' → H' p = some (.lst us) → Paired (RowAt p H') us rs → rs.length ≤ 14 → Good rs → (rs.map Row.num).Nodup → (∀ r ∈ rs, Fair r) → rs.Pairwise (fun a b => a.fin < b.fin) → Q (.ref p) H'
def spComeU (C P0 : Addr) (mg : Str → Option Value) (base : Heap) : Sp := fun vs H Q _ => ∃ (l : Addr) (v : V) (us : List V) (rs : List Row) (r : Row), vs = [.ref l, v] ∧ base.BuiltinsAt mg P0 ∧ H l = some (.lst us) ∧ Paired (SpanOf C H) us rs ∧ SpanOf C H v r ∧ rs.length < 62 ∧ Tb P0 lposC qualC H ∧
  (∀ H' S p, Kp H H' → Tb P0 lposC qualC H' → Up (rs ++ [r]) S → closeR S r = none → (∀ b xs, H b = some (.lst xs) → b ≠ p) → H' p = some (.lst (us ++ [v])) → Q (.ref p) H') ∧
  (∀ H' S x, Kp H H' → Tb P0 lposC qualC H' → Up (rs ++ [r]) S → closeR S r = some x → Q .non H')
/-- each was let in -/
def Lets (rin : List Row) : Prop := ∀ (j : Nat) r, rin[j]? = some r → ∃ S, Up (rin.take (j + 1)) S ∧ closeR S r = none
theorem Lets.snoc {rin S : List Row} {r : Row} (h : Lets rin) (up : Up (rin ++ [r]) S) (c : closeR S r = none) : Lets (rin ++ [r]) := by
  intro j q e
  by_cases hj : j < rin.length
  · rw [List.getElem?_append_left hj] at e
    rw [List.take_append_of_le_length (by omega)]
    exact h j q e
  · have hj2 : j = rin.length := by
      have := (List.getElem?_eq_some_iff.mp e).1
      rw [List.length_append] at this
      simp at this
      omega
    subst hj2
    rw [List.getElem?_append_right (Nat.le_refl _), Nat.sub_self] at e
    cases (show some r = some q from e)
    rw [List.take_of_length_le (by simp)]
    exact ⟨S, up, c⟩
def momR (rs : List Row) (r : Row) : Int := if earlyR r rs = true then r.beg else r.fin
theorem close_none {S : List Row} {new mid one other : Row} (h : closeR S new = none) (hm : mid ∈ S) (hw : mid.wat = true) (ho : other ∈ S) (ha : ahead mid other = true) (h1 : if mid.num = new.num then one ∈ S else one = new) : behind mid one = false := by
  unfold closeR at h
  rw [List.findSome?_eq_none_iff] at h
  have z := h mid (List.mem_filter.mpr ⟨hm, hw⟩)
  unfold closeAt at z
  cases hb : behind mid one with
  | false => rfl
  | true =>
    exfalso
    obtain ⟨a, ea⟩ : ∃ a, (if mid.num = new.num then S else [new]).find? (behind mid) = some a := by
      rw [← Option.isSome_iff_exists, List.find?_isSome]
      refine ⟨one, ?_, hb⟩
      by_cases q : mid.num = new.num
      · rw [if_pos q] at h1 ⊢
        exact h1
      · rw [if_neg q] at h1 ⊢
        rw [h1]
        exact List.mem_singleton.mpr rfl
    obtain ⟨b, eb⟩ : ∃ b, S.find? (ahead mid) = some b := by
      rw [← Option.isSome_iff_exists, List.find?_isSome]
      exact ⟨other, ho, ha⟩
    rw [ea, eb] at z
    cases z
theorem close_one {r : Row} {S : List Row} (up : Up ([] ++ [r]) S) : closeR S r = none := by
  have e : S = [r] := List.perm_singleton.mp up.1
  subst e
  have a : ahead r r = false := by
    unfold ahead
    rw [older_same rfl]
    exact Bool.and_false _
  unfold closeR
  rw [List.findSome?_eq_none_iff]
  intro m hm
  cases List.mem_singleton.mp (List.mem_filter.mp hm).1
  unfold closeAt
  have f : [r].find? (ahead r) = none := by
    rw [List.find?_cons, a]
    rfl
  rw [f]
  cases (if r.num = r.num then [r] else [r]).find? (behind r) <;> rfl
theorem pw_get {α : Type} {R : α → α → Prop} {l : List α} (h : l.Pairwise R) {i j : Nat} {a b : α} (ha : l[i]? = some a) (hb : l[j]? = some b) (hij : i < j) : R a b := by
  obtain ⟨hi, rfl⟩ := List.getElem?_eq_some_iff.mp ha
  obtain ⟨hj, rfl⟩ := List.getElem?_eq_some_iff.mp hb
  exact List.pairwise_iff_getElem.mp h i j hi hj hij
theorem take_mem {α : Type} {l : List α} {n j : Nat} {x : α} (hn : n < j) (e : l[n]? = some x) : x ∈ l.take j := by
  have : (l.take j)[n]? = some x := by rw [List.getElem?_take_of_lt hn]; exact e
  exact List.mem_of_getElem? this
/-- the moment of a look comes ahead of the moment of a put that it passes by -/
theorem forward {rin : List Row} (g : Good rin) (fa : ∀ r ∈ rin, Fair r) (up : rin.Pairwise fun a b => a.fin < b.fin) (lt : Lets rin) {one other : Row} (h1 : one ∈ rin) (h2 : other ∈ rin) (ne : one.num ≠ other.num) {l : Look} {k : Int} (hl : l ∈ one.looks) (hk : k ∈ other.puts) (hs : sees k other.fin l = true) : (if one.wat = true then momR rin one else l.st) < momR rin other := by
  have old : (olderR one other).isSome = true := by
    unfold olderR
    rw [if_neg ne, List.find?_isSome]
    exact ⟨k, hk, List.any_eq_true.mpr ⟨l, hl, hs⟩⟩
  have st : l.st < other.fin := by
    unfold sees at hs
    rw [Bool.and_eq_true] at hs
    exact of_decide_eq_true hs.1
  have mle : (if one.wat = true then momR rin one else l.st) ≤ one.fin := by
    split
    · unfold momR
      split
      · exact Int.le_of_lt (fa one h1).ord
      · exact Int.le_refl _
    · exact (fa one h1).nl l hl
  obtain ⟨i, hi⟩ := mem_ix h1
  obtain ⟨j, hj⟩ := mem_ix h2
  by_cases he : earlyR other rin = true
  · rw [show momR rin other = other.beg from if_pos he]
    unfold earlyR at he
    rw [Bool.and_eq_true, List.any_eq_true] at he
    obtain ⟨hw, q, hq, ha⟩ := he
    obtain ⟨m, hm⟩ := mem_ix hq
    have qf : q.fin < other.fin := by
      unfold ahead at ha
      rw [Bool.and_eq_true] at ha
      exact of_decide_eq_true ha.1
    have mj : m < j := by
      rcases Nat.lt_trichotomy m j with h | h | h
      · exact h
      · subst h
        rw [hm] at hj
        cases hj
        omega
      · have := pw_get up hj hm h
        omega
    rcases Nat.lt_trichotomy i j with h | h | h
    · obtain ⟨S, upS, cl⟩ := lt j other hj
      have b := close_none cl (one := one) (upS.1.symm.subset (take_mem (Nat.lt_succ_self j) hj)) hw (upS.1.symm.subset (take_mem (by omega) hm)) ha (by rw [if_pos rfl]; exact upS.1.symm.subset (take_mem (by omega) hi))
      unfold behind at b
      rw [old, Bool.and_true] at b
      have b1 := of_decide_eq_false b
      have b2 := g.begs other h2 one h1
      omega
    · subst h
      rw [hi] at hj
      cases hj
      exact absurd rfl ne
    · obtain ⟨S, upS, cl⟩ := lt i one hi
      have b := close_none cl (one := one) (upS.1.symm.subset (take_mem (by omega) hj)) hw (upS.1.symm.subset (take_mem (by omega) hm)) ha (by rw [if_neg fun z => ne z.symm])
      unfold behind at b
      rw [old, Bool.and_true] at b
      have b1 := of_decide_eq_false b
      have b2 := pw_get up hj hi h
      have b3 := (fa other h2).ord
      omega
  · rw [show momR rin other = other.fin from if_neg he]
    by_cases hw : one.wat = true
    · rw [if_pos hw]
      by_cases h1e : earlyR one rin = true
      · rw [show momR rin one = one.beg from if_pos h1e, ← (fa one h1).wl hw l hl]
        exact st
      · rw [show momR rin one = one.fin from if_neg h1e]
        have nf : ¬ other.fin < one.fin := fun z => h1e (by
          unfold earlyR
          rw [hw, Bool.true_and, List.any_eq_true]
          refine ⟨other, h2, ?_⟩
          unfold ahead
          rw [old, decide_eq_true z]
          rfl)
        have nfe : one.fin ≠ other.fin := fun z => ne (by rw [g.fins one h1 other h2 z])
        omega
    · rw [if_neg hw]
      exact st
def spEdges : Sp := fun vs H Q _ => ∃ (v1 v2 : V) (one other : Row) (d : Addr) (kvs : List (Key × V)) (m1 m2 : Int), vs = [v1, v2, .ref d] ∧ RowOf H v1 one ∧ RowOf H v2 other ∧ H d = some (.dK kvs) ∧ valV kvs (Sum.inl one.num : Key) = some (.int m1) ∧ valV kvs (Sum.inl other.num : Key) = some (.int m2) ∧
  (∀ l ∈ one.looks, ∀ k ∈ other.puts, sees k other.fin l = true → (if one.wat = true then m1 else l.st) < m2) ∧ Q (.bl true) H
theorem dget_of {H : Hp} {a : Addr} {kvs : List (Key × V)} {k : Key} {o : Option V} (e : H a = some (.dK kvs)) (h : valV kvs k = o) : DGet H a (kV k) o := h ▸ DGet.k e
theorem gname_go {i : Nat} {v : V} {σ : L2.St} {H : Hp} {k : L2.St → Hp → Prop} (h : k (σ.set i (some v)) H) : gName i v σ H k := h
theorem nx_if {c : TT} {t u v2 : TS} {D0 : Ends} {r : VK} {b ct : L2.St → Hp → Prop} {σ : L2.St} {H : Hp} (h : tIfS c t u { D0 with nx := v2 D0 } σ H) : ({ nx := tSeq (tIfS c t u) v2 D0, rt := r, bk := b, ct := ct } : Ends).nx σ H := h
def spLaw (K : PySem.W.Frag) (mg : Str → Option Value) (P0 : Addr) (base : Heap) : Sp := fun vs H Q _ => ∃ (a : Addr) (ns : List Int), vs = [.ref a] ∧ SqL K H a (ns.map V.int) ∧ ns.length ≤ 63 ∧ (∀ m ∈ ns, Builtin.Int.intBits m ≤ 1048576) ∧ base.BuiltinsAt mg P0 ∧ H P0 = some (.tbl #[]) ∧ ∀ H', Q (.bl true) H'
section
variable {P : Program} {w : World} {K : PySem.W.Frag} {mg : Str → Option Value} {base : Heap}
theorem ok_inside (T : Tx K mg) : FnOk P w K mg base CX0 1 T.f_inside T.d_inside ["key", "low", "high"] spIn := by
  refine T.F_inside.ok sc_inside (fun vs H Q E h => ?_) (fun cdv A outer s H vs Q E hr h => ?_)
  · obtain ⟨k, l, h, rfl, _⟩ := h
    rfl
  · obtain ⟨k, l, h, rfl, q⟩ := h
    refine ⟨_, (pss_one (ps_ret (pe_chain op_le op_le (pv 1) (pv 0) (pv 2)))), ?_⟩
    refine ⟨_, rfl, _, rfl, _, _, rfl, rfl, _, rfl, ite2 (fun e => ⟨_, rfl, _, _, rfl, rfl, ?_⟩) (fun e => ?_)⟩
    · have e1 : l ≤ k := of_decide_eq_true e
      rw [show decide (l ≤ k ∧ k ≤ h) = decide (k ≤ h) from decide_eq_decide.mpr (by omega)] at q
      exact q
    · have e1 : ¬ l ≤ k := fun z => e (decide_eq_true z)
      rw [show decide (l ≤ k ∧ k ≤ h) = false from decide_eq_false (by omega)] at q
      exact q
theorem ok_Spaninit (T : Tx K mg) : FnOk P w K mg base CX0 1 T.f_Spaninit T.d_Spaninit ["self", "number", "watched", "begin", "end", "looks", "puts"] (spSpan T.c_Span) := by
  refine T.F_Spaninit.ok sc_Spaninit (fun vs H Q E h => ?_) (fun cdv A outer s H vs Q E hr h => ?_)
  · obtain ⟨a, dx, l0, p0, r, xs, us, rfl, _⟩ := h
    rfl
  · obtain ⟨a, dx, l0, p0, r, xs, us, rfl, ha, hl, hp, k⟩ := h
    refine ⟨_, (pss_cons (ps_fld (pv 0) (pv 1) rfl)
      (pss_cons (ps_fld (pv 0) (pv 2) rfl)
      (pss_cons (ps_fld (pv 0) (pv 3) rfl)
      (pss_cons (ps_fld (pv 0) (pv 4) rfl)
      (pss_cons (ps_fld (pv 0) (pe_callTy call_list_of (by rfl) T.z_list boot_list (pa_cons (pv 5) pa_nil)) rfl)
      (pss_one (ps_fld (pv 0) (pe_callTy call_list_of (by rfl) T.z_list boot_list (pa_cons (pv 6) pa_nil)) rfl))))))), ?_⟩
    have nl : l0 ≠ a := fun z => by rw [z, ha] at hl; cases hl
    have np : p0 ≠ a := fun z => by rw [z, ha] at hp; cases hp
    refine ⟨_, rfl, _, rfl, a, _, dx, _, rfl, ha, T.cl_Span, T.na_Span_number, (by show 0 < 1000; decide), ?_⟩
    refine ⟨_, rfl, _, rfl, a, _, dx, _, rfl, upd_same, T.cl_Span, T.na_Span_watched, (by show 1 < 1000; decide), ?_⟩
    refine ⟨_, rfl, _, rfl, a, _, dx, _, rfl, upd_same, T.cl_Span, T.na_Span_begin, (by show 2 < 1000; decide), ?_⟩
    refine ⟨_, rfl, _, rfl, a, _, dx, _, rfl, upd_same, T.cl_Span, T.na_Span_end, (by show 3 < 1000; decide), ?_⟩
    have k4 : ∀ b o, b ≠ a → H b = some o → upd (upd (upd (upd H a (.ins T.c_Span dx [("number", .int r.num)])) a (.ins T.c_Span dx [("number", .int r.num), ("watched", .bl r.wat)])) a (.ins T.c_Span dx [("number", .int r.num), ("watched", .bl r.wat), ("begin", .int r.beg)])) a (.ins T.c_Span dx [("number", .int r.num), ("watched", .bl r.wat), ("begin", .int r.beg), ("end", .int r.fin)]) b = some o := fun b o nb e => by rw [upd_ne nb, upd_ne nb, upd_ne nb, upd_ne nb]; exact e
    have a4 : upd (upd (upd (upd H a (.ins T.c_Span dx [("number", .int r.num)])) a (.ins T.c_Span dx [("number", .int r.num), ("watched", .bl r.wat)])) a (.ins T.c_Span dx [("number", .int r.num), ("watched", .bl r.wat), ("begin", .int r.beg)])) a (.ins T.c_Span dx [("number", .int r.num), ("watched", .bl r.wat), ("begin", .int r.beg), ("end", .int r.fin)]) a = some (.ins T.c_Span dx [("number", .int r.num), ("watched", .bl r.wat), ("begin", .int r.beg), ("end", .int r.fin)]) := upd_same
    refine ⟨_, rfl, l0, xs, rfl, .inl (SqL.of (k4 _ _ nl hl)), fun la hla => ?_⟩
    have na : la ≠ a := fun z => by rw [z] at hla; exact absurd (hla.symm.trans a4) (by simp)
    have hla0 : H la = none := by rw [upd_ne na, upd_ne na, upd_ne na, upd_ne na] at hla; exact hla
    refine ⟨_, rfl, a, _, dx, _, rfl, (by rw [upd_ne na.symm]; exact a4), T.cl_Span, T.na_Span_looks, (by show 4 < 1000; decide), ?_⟩
    have npl : p0 ≠ la := fun z => by rw [z, hla0] at hp; cases hp
    refine ⟨_, rfl, p0, us, rfl, .inl (SqL.of (by rw [upd_ne np, upd_ne npl]; exact k4 _ _ np hp)), fun pa hpa => ?_⟩
    have pna : pa ≠ a := fun z => by rw [z, upd_same] at hpa; cases hpa
    have pnl : pa ≠ la := fun z => by rw [z, upd_ne na, upd_same] at hpa; cases hpa
    have hpa0 : H pa = none := by rw [upd_ne pna, upd_ne pnl, upd_ne pna, upd_ne pna, upd_ne pna, upd_ne pna] at hpa; exact hpa
    refine ⟨_, rfl, a, _, dx, _, rfl, (by rw [upd_ne pna.symm]; exact upd_same), T.cl_Span, T.na_Span_puts, (by show 5 < 1000; decide), ?_⟩
    refine k la pa _ hla0 hpa0 (fun b o nb e => ?_) upd_same ?_ ?_
    · have b1 : b ≠ la := fun z => by rw [z, hla0] at e; cases e
      have b2 : b ≠ pa := fun z => by rw [z, hpa0] at e; cases e
      rw [upd_ne nb, upd_ne b2, upd_ne nb, upd_ne b1]
      exact k4 _ _ nb e
    · rw [upd_ne na, upd_ne pnl.symm, upd_ne na, upd_same]
    · rw [upd_ne pna, upd_same]
theorem ok_passesby (T : Tx K mg) : FnOk P w K mg base CX0 2 T.f_passesby T.d_passesby ["look", "key", "end"] spPasses := by
  refine T.F_passesby.ok sc_passesby (fun vs H Q E h => ?_) (fun cdv A outer s H vs Q E hr h => ?_)
  · obtain ⟨t, o, l, k, e, rfl, _⟩ := h
    rfl
  · obtain ⟨t, o, l, k, e, rfl, ht, ho, q⟩ := h
    refine ⟨_, (pss_one (ps_ret (pe_and (pe_cmpR op_lt (pe_ix ix_tup (pv 0) pe_int (fun _ _ => rfl)) (pv 2) (nomark _)) (pe_and (pe_call ((ok_inside T).mono (by decide)) hr rfl T.m_inside T.F_inside.kp T.b_inside .nil pass0 (pa_cons (pv 1) (pa_cons (pe_ix ix_tup (pv 0) pe_int (fun _ _ => rfl)) (pa_cons (pe_ix ix_tup (pv 0) pe_int (fun _ _ => rfl)) pa_nil)))) (pe_one (pe_cmpR op_notIn_seq (pv 1) (pe_ix ix_tup (pv 0) pe_int (fun _ _ => rfl)) rfl)))))), ?_⟩
    refine ⟨_, rfl, t, _, _, _, rfl, rfl, SqT.of ht, atI_nat (j := 0) rfl, _, rfl, _, _, rfl, rfl, _, rfl, ite2 (fun e1 => ?_) (fun e1 => ?_)⟩
    · refine ⟨_, rfl, _, rfl, t, _, _, _, rfl, rfl, SqT.of ht, atI_nat (j := 1) rfl, _, rfl, t, _, _, _, rfl, rfl, SqT.of ht, atI_nat (j := 2) rfl, k, l.lo, l.hi, rfl, _, rfl, ite2 (fun e2 => ?_) (fun e2 => ?_)⟩
      · refine ⟨_, rfl, _, rfl, t, _, _, _, rfl, rfl, SqT.of ht, atI_nat (j := 3) rfl, o, _, rfl, .inr (SqT.of ho), rfl, flat_ints _, ?_⟩
        have z : sees k e l = !inV (.int k) (l.own.map V.int) := by
          unfold sees
          rw [inV_ints, show decide (l.st < e) = true from e1, e2]
          rfl
        rw [z] at q
        exact q
      · have z : sees k e l = false := by
          unfold sees
          rw [(Bool.not_eq_true _).mp e2, Bool.false_and, Bool.and_false]
        rw [z] at q
        exact q
    · have z : sees k e l = false := by
        unfold sees
        rw [show decide (l.st < e) = false from (Bool.not_eq_true _).mp e1, Bool.false_and]
      rw [z] at q
      exact q
theorem ok_older (T : Tx K mg) : FnOk P w K mg base CX0 3 T.f_older T.d_older ["one", "other"] (spOlder T.c_Span) := by
  refine T.F_older.ok sc_older (fun vs H Q E h => ?_) (fun cdv A outer s H vs Q E hr h => ?_)
  · obtain ⟨v1, v2, r1, r2, la1, pa1, la2, pa2, rfl, _⟩ := h
    rfl
  · obtain ⟨v1, v2, r1, r2, la1, pa1, la2, pa2, rfl, ⟨a, dx, us, rfl, ha, hla, hlk, hpa⟩, ⟨b, dx2, us2, rfl, hb, hlb, hlk2, hpb⟩, q⟩ := h
    refine ⟨_, (pss_cons (ps_if (pt_cmpR op_eq (pe_fldK (K := K) rfl (pv 0) rfl) (pe_fldK (K := K) rfl (pv 1) rfl) (nomark _))
      (pss_one (ps_ret pe_non))
      pss_nil)
      (pss_cons (ps_for PassesOwn.never rfl (pi_list (pe_fldK (K := K) rfl (pv 1) rfl)) (pg_name (i := 2) sc_older.nd rfl (Or.inl rfl))
      (pss_one (ps_for PassesOwn.never rfl (pi_list (pe_fldK (K := K) rfl (pv 0) rfl)) (pg_name (i := 3) sc_older.nd rfl (Or.inl rfl))
      (pss_one (ps_if (pt_val (pe_call ((ok_passesby T).mono (by decide)) hr rfl T.m_passesby T.F_passesby.kp T.b_passesby .nil pass0 (pa_cons (pv 3) (pa_cons (pv 2) (pa_cons (pe_fldK (K := K) rfl (pv 1) rfl) pa_nil)))))
      (pss_one (ps_ret (pv 2)))
      pss_nil)))))
      (pss_one (ps_ret pe_non)))), ?_⟩
    refine ⟨_, rfl, a, _, dx, _, _, rfl, ha, T.cl_Span, T.na_Span_number, rfl, _, rfl, b, _, dx2, _, _, rfl, hb, T.cl_Span, T.na_Span_number, rfl, rfl, _, rfl, ite2 (fun e => ?_) (fun e => ?_)⟩
    · rw [older_same (V.int.inj (of_decide_eq_true e))] at q
      exact q
    · have e0 : r1.num ≠ r2.num := fun z => e (decide_eq_true (congrArg V.int z))
      refine ⟨_, rfl, b, _, dx2, _, _, rfl, hb, T.cl_Span, T.na_Span_puts, rfl, pa2, rfl, ⟨_, SqL.of hpb⟩, for_list (K := K) (a := pa2) (xs := r2.puts.map V.int)
        (fun i σ H2 => H2 = H ∧ ∃ (x2 x3 : Option V), σ = [some (.ref a), some (.ref b), x2, x3] ∧ ∀ j x, j < i → r2.puts[j]? = some x → r1.looks.any (sees x r2.fin) = false)
        ⟨rfl, none, none, rfl, fun j x h => absurd h (Nat.not_lt_zero _)⟩ (fun i σ H2 _ ⟨z, _⟩ => z ▸ SqL.of hpb) ?_ ?_⟩
      · rintro i y σ H2 hy ⟨z2, x2, x3, rfl, hno⟩
        subst z2
        obtain ⟨kk, ek, rfl⟩ : ∃ kk, r2.puts[i]? = some kk ∧ V.int kk = y := by
          rw [List.getElem?_map] at hy
          cases hq : r2.puts[i]? with
          | none => rw [hq] at hy; cases hy
          | some kk => rw [hq] at hy; exact ⟨kk, rfl, Option.some.inj hy⟩
        refine ⟨_, rfl, a, _, dx, _, _, rfl, ha, T.cl_Span, T.na_Span_looks, rfl, la1, rfl, ⟨_, SqL.of hla⟩, for_list (K := K) (a := la1) (xs := us)
          (fun j σ H3 => H3 = H2 ∧ ∃ (x3 : Option V), σ = [some (.ref a), some (.ref b), some (.int kk), x3] ∧ ∀ j' l, j' < j → r1.looks[j']? = some l → sees kk r2.fin l = false)
          ⟨rfl, _, rfl, fun j x h => absurd h (Nat.not_lt_zero _)⟩ (fun j σ H3 _ ⟨z, _⟩ => z ▸ SqL.of hla) ?_ ?_⟩
        · rintro j y σ H3 hy2 ⟨z3, x3, rfl, hno2⟩
          subst z3
          obtain ⟨l, el, t, o, rfl, ht, ho⟩ := paired_get hlk hy2
          refine ⟨_, rfl, _, rfl, _, rfl, b, _, dx2, _, _, rfl, hb, T.cl_Span, T.na_Span_end, rfl, t, o, l, kk, r2.fin, rfl, ht, ho, _, rfl, ite2 (fun e3 => ?_) (fun e3 => ?_)⟩
          · rw [older_at e0 hno ek (List.any_eq_true.mpr ⟨l, List.mem_of_getElem? el, e3⟩)] at q
            exact ⟨_, rfl, q⟩
          · refine ⟨rfl, _, rfl, fun j' l' hj e4 => ?_⟩
            rcases Nat.lt_succ_iff_lt_or_eq.mp hj with h | h
            · exact hno2 j' l' h e4
            · subst h
              rw [el] at e4
              cases e4
              exact (Bool.not_eq_true _).mp e3
        · rintro σ H3 ⟨z3, x3, rfl, hno2⟩
          subst z3
          refine ⟨rfl, _, _, rfl, fun j x hj e4 => ?_⟩
          rcases Nat.lt_succ_iff_lt_or_eq.mp hj with h | h
          · exact hno j x h e4
          · subst h
            rw [ek] at e4
            cases e4
            exact any_none fun j' l hj' el => hno2 j' l (by rw [prs_len hlk]; exact hj') el
      · rintro σ H2 ⟨z2, x2, x3, rfl, hno⟩
        subst z2
        rw [older_none e0 fun j x hj ex => hno j x (by rw [List.length_map]; exact hj) ex] at q
        exact q
theorem ok_Lcell (T : Tx K mg) : FnOk P w K mg base CX0 1 T.f_Lcell T.d_Lcell ["_law_script", "_law_k"] (spCell K) := by
  refine T.F_Lcell.ok sc_Lcell (fun vs H Q E h => ?_) (fun cdv A outer s H vs Q E hr h => ?_)
  · obtain ⟨a, ns, k, rfl, _⟩ := h
    rfl
  · obtain ⟨a, ns, k, rfl, hS, h0, h1, q⟩ := h
    refine ⟨_, (pss_cons (ps_if (pt_cmpR op_lt (pv 1) (pe_callB call_len (by rfl) T.z_len boot_len (pa_cons (pv 0) pa_nil)) (nomark _))
      (pss_one (ps_ret (pe_ix ix_list (pv 0) (pv 1) (fun _ _ => rfl))))
      pss_nil)
      (pss_one (ps_ret (pe_op op_mod (pe_op op_mul (pe_op op_add (pv 1) pe_int) pe_int) pe_int)))), ?_⟩
    refine ⟨_, rfl, _, rfl, _, _, rfl, .inl ⟨_, hS, rfl⟩, _, _, rfl, rfl, _, rfl, ite2 (fun e => ?_) (fun e => ?_)⟩
    · have e1 : k < ((ns.map V.int).length : Int) := of_decide_eq_true e
      obtain ⟨v, hv⟩ : ∃ v, atI (ns.map V.int) k = some v := atI_lt h0 e1
      obtain ⟨z, hz, rfl⟩ := List.mem_map.mp (atI_mem hv)
      exact ⟨_, rfl, _, rfl, a, _, _, _, rfl, rfl, hS, hv, q z⟩
    · exact ⟨_, rfl, _, _, rfl, rfl, _, _, rfl, rfl, .inl ⟨by omega, by omega⟩, _, _, rfl, rfl, (by show (0 : Int) < 65537; decide), q _⟩
theorem ok_Lstream (T : Tx K mg) : FnOk P w K mg base CX0 1 T.f_Lstream T.d_Lstream ["_law_cell_here", "_law_k"] spStream := by
  refine T.F_Lstream.ok sc_Lstream (fun vs H Q E h => ?_) (fun cdv A outer s H vs Q E hr h => ?_)
  · obtain ⟨c, k, rfl, _⟩ := h
    rfl
  · obtain ⟨c, k, rfl, q⟩ := h
    refine ⟨_, (pss_cons (ps_set (i := 2) sc_Lstream.nd rfl (Or.inl rfl) (pe_lst pa_nil))
      (pss_cons (ps_set (i := 3) sc_Lstream.nd rfl (Or.inl rfl) (pe_op op_add (pe_op op_add (pe_op op_mod (pv 0) pe_int) (pe_op op_mul pe_int (pv 1))) pe_int))
      (pss_cons (ps_for PassesOwn.never rfl (pi_range1 rfl T.z_range (pa_cons pe_int pa_nil)) (pg_name (i := 4) sc_Lstream.nd rfl (Or.inl rfl))
      (pss_cons (ps_set (i := 3) sc_Lstream.nd rfl (Or.inl rfl) (pe_op op_mod (pe_op op_add (pe_op op_add (pe_op op_mul (pv 3) pe_int) (pe_op op_mul pe_int (pv 4))) pe_int) pe_int))
      (pss_one (ps_expr (pe_bm PySem.F.plainAttrs_list PySem.F.slot_list_append PySem.F.type_list_append mt_appendA (pv 2) (pa_cons (pv 3) pa_nil))))))
      (pss_one (ps_ret (pv 2)))))), ?_⟩
    refine ⟨(by show 0 ≤ sizeLine; decide), fun p hp => ?_⟩
    refine ⟨_, rfl, _, _, rfl, rfl, (by show (0 : Int) < 2147483647; decide), _, rfl, _, _, rfl, rfl, .inl ⟨by decide, by decide⟩, _, _, rfl, rfl, _, _, rfl, rfl, ?_⟩
    refine ⟨7, rfl, by decide, by decide, for_range (lo := 0) (n := 7) (fun i σ H2 => ∃ (z : Int) (x4 : Option V) (ns : List Int), σ = [some (.int c), some (.int k), some (.ref p), some (.int z), x4] ∧ Same H H2 ∧ ns.length = i ∧ H2 p = some (.lst (ns.map V.int)))
      ⟨_, none, [], rfl, Same.upd hp, rfl, upd_same⟩ ?_ ?_⟩
    · rintro i σ H2 hi ⟨z, x4, ns, rfl, s2, hn, h2⟩
      refine ⟨_, rfl, _, _, rfl, rfl, .inr ⟨by decide, by decide⟩, _, rfl, _, _, rfl, rfl, .inl ⟨by decide, by decide⟩, _, _, rfl, rfl, _, _, rfl, rfl, _, _, rfl, rfl, (by show (0 : Int) < 2147483629; decide), ?_⟩
      refine ⟨_, rfl, .inl ⟨rfl, _, SqL.of h2⟩, _, rfl, p, _, _, rfl, rfl, h2, (by rw [List.length_map, hn]; exact Nat.lt_trans hi (by decide)), fun H4 h4 k4 => ?_⟩
      refine ⟨_, _, ns ++ [(z * 48271 + 11 * (0 + (i : Int)) + 7) % 2147483629], rfl, fun b o e => k4 _ _ (fun y => by rw [y, hp] at e; cases e) (s2 _ _ e), by rw [List.length_append, hn]; rfl, ?_⟩
      rw [List.map_append]
      exact h4
    · rintro σ H2 ⟨z, x4, ns, rfl, s2, hn, h2⟩
      exact ⟨_, rfl, q p ns H2 hp hn s2 h2⟩
theorem ok_Llooks (T : Tx K mg) : FnOk P w K mg base CX0 2 T.f_Llooks T.d_Llooks ["_law_xs", "_law_watched", "_law_begin", "_law_end", "_law_shift"] spLooksE := by
  refine T.F_Llooks.ok sc_Llooks (fun vs H Q E h => ?_) (fun cdv A outer s H vs Q E hr h => ?_)
  · obtain ⟨xa, ns, w, b, e, sh, rfl, _⟩ := h
    rfl
  · obtain ⟨xa, ns, wt, b, e, sh, rfl, hx, h7, hbe, q⟩ := h
    refine ⟨_, (pss_cons (ps_set (i := 5) sc_Llooks.nd rfl (Or.inl rfl) (pe_lst pa_nil))
      (pss_cons (ps_for PassesOwn.never rfl (pi_range1 rfl T.z_range (pa_cons (pe_op op_mod (pe_ix ix_list (pv 0) pe_int (fun _ _ => rfl)) pe_int) pa_nil)) (pg_name (i := 6) sc_Llooks.nd rfl (Or.inl rfl))
      (pss_cons (ps_set (i := 7) sc_Llooks.nd rfl (Or.inl rfl) (pe_ix ix_list (pv 0) (pe_op op_add pe_int (pv 6)) (fun _ _ => rfl)))
      (pss_cons (ps_set (i := 8) sc_Llooks.nd rfl (Or.inl rfl) (pe_op op_add (pv 4) (pe_op op_mod (pv 7) pe_int)))
      (pss_cons (ps_set (i := 9) sc_Llooks.nd rfl (Or.inl rfl) (pe_op op_sub (pe_op op_add (pv 8) (pe_op op_mod (pe_op op_fdiv (pv 7) pe_int) pe_int)) pe_int))
      (pss_cons (ps_set (i := 10) sc_Llooks.nd rfl (Or.inl rfl) (pv 2))
      (pss_cons (ps_if (pt_not (pt_val (pv 1)))
      (pss_one (ps_set (i := 10) sc_Llooks.nd rfl (Or.inl rfl) (pe_op op_add (pv 2) (pe_op op_fdiv (pe_op op_mul (pe_op op_sub (pv 3) (pv 2)) (pe_op op_mod (pe_op op_fdiv (pv 7) pe_int) pe_int)) pe_int))))
      pss_nil)
      (pss_cons (ps_set (i := 11) sc_Llooks.nd rfl (Or.inl rfl) (pe_ix ix_list (pe_lst (pa_cons (pe_tup pa_nil) (pa_cons (pe_tup pa_nil) (pa_cons (pe_tup pa_nil) (pa_cons (pe_tup pa_nil) (pa_cons (pe_tup (pa_cons (pv 8) (pa_cons (pe_op op_add (pv 8) pe_int) pa_nil))) (pa_cons (pe_tup (pa_cons (pv 8) pa_nil)) (pa_cons (pe_tup (pa_cons (pv 9) pa_nil)) (pa_cons (pe_tup (pa_cons (pv 8) (pa_cons (pe_op op_add (pv 8) pe_int) pa_nil))) pa_nil))))))))) (pe_op op_mod (pe_op op_fdiv (pv 7) pe_int) pe_int) (fun _ _ => rfl)))
      (pss_cons (ps_if (pt_cmpR op_eq (pe_op op_mod (pe_op op_fdiv (pv 7) pe_int) pe_int) pe_int (nomark _))
      (pss_cons (ps_set (i := 8) sc_Llooks.nd rfl (Or.inl rfl) (pe_op op_sub (pv 8) (pe_op op_pow pe_int pe_int)))
      (pss_one (ps_set (i := 9) sc_Llooks.nd rfl (Or.inl rfl) (pe_op op_add (pv 9) (pe_op op_pow pe_int pe_int)))))
      pss_nil)
      (pss_one (ps_expr (pe_bm PySem.F.plainAttrs_list PySem.F.slot_list_append PySem.F.type_list_append mt_appendA (pv 5) (pa_cons (pe_tup (pa_cons (pv 10) (pa_cons (pv 8) (pa_cons (pv 9) (pa_cons (pv 11) pa_nil))))) pa_nil))))))))))))
      (pss_one (ps_ret (pv 5))))), ?_⟩
    refine ⟨(by show 0 ≤ sizeLine; decide), fun p hp => ?_⟩
    have s1 := Same.upd (o := HO.lst []) hp
    obtain ⟨z0, hz0⟩ : ∃ z, ns[0]? = some z := ⟨_, List.getElem?_eq_getElem (by omega)⟩
    have m0 := Int.emod_nonneg z0 (show (4 : Int) ≠ 0 by decide)
    have m1 := Int.emod_lt_of_pos z0 (show (0 : Int) < 4 by decide)
    refine ⟨_, rfl, xa, _, _, _, rfl, rfl, SqL.of (s1 _ _ hx), atI_nat (j := 0) (by rw [List.getElem?_map, hz0]; rfl), _, _, rfl, rfl, (by show (0 : Int) < 4; decide), _, rfl, (by omega), (by omega), for_range (lo := 0) (n := (z0 % 4).toNat)
      (fun i σ H2 => ∃ (x6 x7 x8 x9 x10 x11 : Option V) (us : List V) (ls : List Look), σ = [some (.ref xa), some (.bl wt), some (.int b), some (.int e), some (.int sh), some (.ref p), x6, x7, x8, x9, x10, x11] ∧ Same H H2 ∧ H2 p = some (.lst us) ∧ Paired (LkAt H2) us ls ∧ ls.length = i ∧ ∀ l ∈ ls, l.st ≤ e ∧ (wt = true → l.st = b))
      ⟨none, none, none, none, none, none, [], [], rfl, s1, upd_same, .nil, rfl, fun l hl => by cases hl⟩ ?_ ?_⟩
    · rintro i σ H2 hi ⟨x6, x7, x8, x9, x10, x11, us, ls, rfl, s2, h2, hpr, hln, hlo⟩
      have hi3 : i < 3 := by omega
      obtain ⟨v, hv⟩ := atI_lt (xs := ns.map V.int) (i := 1 + (0 + (i : Int))) (by omega) (by rw [List.length_map, h7]; omega)
      obtain ⟨n, _, rfl⟩ := List.mem_map.mp (atI_mem hv)
      refine ⟨_, rfl, _, rfl, _, _, rfl, rfl, xa, _, _, _, rfl, rfl, SqL.of (s2 _ _ hx), hv, ?_⟩
      refine ⟨_, rfl, _, rfl, _, _, rfl, rfl, (by show (0 : Int) < 6; decide), _, _, rfl, rfl, ?_⟩
      refine ⟨_, rfl, _, rfl, _, _, rfl, rfl, ⟨by decide, by decide⟩, _, _, rfl, rfl, (by show (0 : Int) < 4; decide), _, _, rfl, rfl, _, _, rfl, rfl, ?_⟩
      refine ⟨_, rfl, ?_⟩
      have q0 := Int.emod_nonneg (n / 24) (show (5 : Int) ≠ 0 by decide)
      have q1 := Int.emod_lt_of_pos (n / 24) (show (0 : Int) < 5 by decide)
      refine ⟨_, rfl, wt, rfl, ite2 (fun ew => ?_) (fun ew => ?_)⟩
      · refine ⟨_, rfl, _, rfl, _, rfl, _, _, rfl, rfl, _, rfl, _, _, rfl, rfl, ⟨by decide, by decide⟩, _, _, rfl, rfl, (by show (0 : Int) < 5; decide), _, _, rfl, rfl, .inr ⟨by omega, by omega⟩, _, _, rfl, rfl, ⟨by decide, by decide⟩, _, _, rfl, rfl, ?_⟩
        have hst : b + (e - b) * (n / 24 % 5) / 4 ≤ e ∧ (wt = true → b + (e - b) * (n / 24 % 5) / 4 = b) := by
          refine ⟨?_, fun z => by rw [z] at ew; cases ew⟩
          have hm : (e - b) * (n / 24 % 5) ≤ (e - b) * 4 := Int.mul_le_mul_of_nonneg_left (by omega) (by omega)
          generalize (e - b) * (n / 24 % 5) = t at hm ⊢
          omega
        refine ⟨(by show 0 ≤ sizeLine; decide), fun t1 g1 => ⟨(by show 0 ≤ sizeLine; decide), fun t2 g2 => ⟨(by show 0 ≤ sizeLine; decide), fun t3 g3 => ⟨(by show 0 ≤ sizeLine; decide), fun t4 g4 => ?_⟩⟩⟩⟩
        refine ⟨_, rfl, _, rfl, _, _, rfl, rfl, (by show 2 ≤ sizeLine; decide), fun t5 g5 => ⟨_, rfl, (by show 1 ≤ sizeLine; decide), fun t6 g6 => ⟨_, rfl, (by show 1 ≤ sizeLine; decide), fun t7 g7 => ⟨_, rfl, _, rfl, _, _, rfl, rfl, (by show 2 ≤ sizeLine; decide), fun t8 g8 => ⟨(by show 8 ≤ sizeLine; decide), fun lo8 g9 => ?_⟩⟩⟩⟩⟩
        have o0 := Int.emod_nonneg (n / 120) (show (8 : Int) ≠ 0 by decide)
        have o1 := Int.emod_lt_of_pos (n / 120) (show (0 : Int) < 8 by decide)
        obtain ⟨ov, hov⟩ := atI_lt (xs := [V.ref t1, .ref t2, .ref t3, .ref t4, .ref t5, .ref t6, .ref t7, .ref t8]) o0 o1
        refine ⟨_, rfl, _, _, rfl, rfl, ⟨by decide, by decide⟩, _, _, rfl, rfl, (by show (0 : Int) < 8; decide), lo8, _, _, _, rfl, rfl, SqL.of upd_same, hov, ?_⟩
        have u1 := Same.upd (o := HO.tup []) g1
        have u2 := Same.upd (o := HO.tup []) g2
        have u3 := Same.upd (o := HO.tup []) g3
        have u4 := Same.upd (o := HO.tup []) g4
        have u5 := Same.upd (o := HO.tup [.int (sh + n % 6), .int (sh + n % 6 + 2)]) g5
        have u6 := Same.upd (o := HO.tup [.int (sh + n % 6)]) g6
        have u7 := Same.upd (o := HO.tup [.int (sh + n % 6 + n / 6 % 4 - 1)]) g7
        have u8 := Same.upd (o := HO.tup [.int (sh + n % 6), .int (sh + n % 6 + 1)]) g8
        have u9 := Same.upd (o := HO.lst [V.ref t1, .ref t2, .ref t3, .ref t4, .ref t5, .ref t6, .ref t7, .ref t8]) g9
        have s3 := u1.trans (u2.trans (u3.trans (u4.trans (u5.trans (u6.trans (u7.trans (u8.trans u9)))))))
        obtain ⟨o, ms, rfl, ho⟩ : ∃ (o : Addr) (ms : List Int), ov = V.ref o ∧ upd (upd (upd (upd (upd (upd (upd (upd (upd H2 t1 (HO.tup [])) t2 (HO.tup [])) t3 (HO.tup [])) t4 (HO.tup [])) t5 (HO.tup [.int (sh + n % 6), .int (sh + n % 6 + 2)])) t6 (HO.tup [.int (sh + n % 6)])) t7 (HO.tup [.int (sh + n % 6 + n / 6 % 4 - 1)])) t8 (HO.tup [.int (sh + n % 6), .int (sh + n % 6 + 1)])) lo8 (HO.lst [V.ref t1, .ref t2, .ref t3, .ref t4, .ref t5, .ref t6, .ref t7, .ref t8]) o = some (HO.tup (ms.map V.int)) := by
          have hm := atI_mem hov
          simp only [List.mem_cons, List.not_mem_nil, or_false] at hm
          rcases hm with rfl | rfl | rfl | rfl | rfl | rfl | rfl | rfl
          · exact ⟨t1, [], rfl, u9 _ _ (u8 _ _ (u7 _ _ (u6 _ _ (u5 _ _ (u4 _ _ (u3 _ _ (u2 _ _ upd_same)))))))⟩
          · exact ⟨t2, [], rfl, u9 _ _ (u8 _ _ (u7 _ _ (u6 _ _ (u5 _ _ (u4 _ _ (u3 _ _ upd_same))))))⟩
          · exact ⟨t3, [], rfl, u9 _ _ (u8 _ _ (u7 _ _ (u6 _ _ (u5 _ _ (u4 _ _ upd_same)))))⟩
          · exact ⟨t4, [], rfl, u9 _ _ (u8 _ _ (u7 _ _ (u6 _ _ (u5 _ _ upd_same))))⟩
          · exact ⟨t5, [_, _], rfl, u9 _ _ (u8 _ _ (u7 _ _ (u6 _ _ upd_same)))⟩
          · exact ⟨t6, [_], rfl, u9 _ _ (u8 _ _ (u7 _ _ upd_same))⟩
          · exact ⟨t7, [_], rfl, u9 _ _ (u8 _ _ upd_same)⟩
          · exact ⟨t8, [_, _], rfl, u9 _ _ upd_same⟩
        clear hov u1 u2 u3 u4 u5 u6 u7 u8 u9 g1 g2 g3 g4 g5 g6 g7 g8 g9
        generalize upd (upd (upd (upd (upd (upd (upd (upd (upd H2 t1 (HO.tup [])) t2 (HO.tup [])) t3 (HO.tup [])) t4 (HO.tup [])) t5 (HO.tup [.int (sh + n % 6), .int (sh + n % 6 + 2)])) t6 (HO.tup [.int (sh + n % 6)])) t7 (HO.tup [.int (sh + n % 6 + n / 6 % 4 - 1)])) t8 (HO.tup [.int (sh + n % 6), .int (sh + n % 6 + 1)])) lo8 (HO.lst [V.ref t1, .ref t2, .ref t3, .ref t4, .ref t5, .ref t6, .ref t7, .ref t8]) = H3 at s3 ho ⊢
        refine ⟨_, rfl, _, _, rfl, rfl, ⟨by decide, by decide⟩, _, _, rfl, rfl, (by show (0 : Int) < 8; decide), rfl, _, rfl, ite2 (fun e8 => ?_) (fun e8 => ?_)⟩
        · refine ⟨_, rfl, _, _, rfl, rfl, ⟨by decide, by decide, by decide⟩, _, _, rfl, rfl, ?_⟩
          refine ⟨_, rfl, _, _, rfl, rfl, ⟨by decide, by decide, by decide⟩, _, _, rfl, rfl, ?_⟩
          refine ⟨_, rfl, .inl ⟨rfl, _, SqL.of (s3 _ _ h2)⟩, _, rfl, _, rfl, _, rfl, _, rfl, (by show 4 ≤ sizeLine; decide), fun tt htt => ?_⟩
          have s4 := Same.upd (o := HO.tup [.int (b + (e - b) * (n / 24 % 5) / 4), .int (sh + n % 6 - 10 ^ Int.toNat 27), .int (sh + n % 6 + n / 6 % 4 - 1 + 10 ^ Int.toNat 27), .ref o]) htt
          refine ⟨p, us, _, rfl, rfl, s4 _ _ (s3 _ _ h2), (by rw [prs_len hpr, hln]; exact Nat.lt_trans (show i < 4 by omega) (by decide)), fun H5 h5 k5 => ?_⟩
          have tups : ∀ t xs, H2 t = some (.tup xs) → H5 t = some (.tup xs) := fun t xs e => k5 _ _ (not_lst h2 e fun _ y => by cases y) (s4 _ _ (s3 _ _ e))
          have ntt : tt ≠ p := fun y => by rw [y, s3 _ _ h2] at htt; cases htt
          have no : o ≠ p := fun y => by have := s3 _ _ h2; rw [← y, ho] at this; cases this
          exact ⟨_, _, _, _, _, _, _, _, rfl, fun b o e => k5 _ _ (fun y => by rw [y, hp] at e; cases e) (s4 _ _ (s3 _ _ (s2 _ _ e))), h5, (prs_imp (G := LkAt H5) (fun _ _ x => LkAt.keep x tups) hpr).snoc ⟨tt, o, rfl, (show H5 tt = some (.tup [.int (Look.mk (b + (e - b) * (n / 24 % 5) / 4) (sh + n % 6 - 10 ^ Int.toNat 27) (sh + n % 6 + n / 6 % 4 - 1 + 10 ^ Int.toNat 27) ms).st, _, _, _]) from k5 _ _ ntt upd_same), k5 _ _ no (s4 _ _ ho)⟩, by rw [List.length_append, hln]; rfl, fun l hl => (List.mem_append.mp hl).elim (hlo l) fun z => by rw [List.mem_singleton.mp z]; exact hst⟩
        · skip
          refine ⟨_, rfl, .inl ⟨rfl, _, SqL.of (s3 _ _ h2)⟩, _, rfl, _, rfl, _, rfl, _, rfl, (by show 4 ≤ sizeLine; decide), fun tt htt => ?_⟩
          have s4 := Same.upd (o := HO.tup [.int (b + (e - b) * (n / 24 % 5) / 4), .int (sh + n % 6), .int (sh + n % 6 + n / 6 % 4 - 1), .ref o]) htt
          refine ⟨p, us, _, rfl, rfl, s4 _ _ (s3 _ _ h2), (by rw [prs_len hpr, hln]; exact Nat.lt_trans (show i < 4 by omega) (by decide)), fun H5 h5 k5 => ?_⟩
          have tups : ∀ t xs, H2 t = some (.tup xs) → H5 t = some (.tup xs) := fun t xs e => k5 _ _ (not_lst h2 e fun _ y => by cases y) (s4 _ _ (s3 _ _ e))
          have ntt : tt ≠ p := fun y => by rw [y, s3 _ _ h2] at htt; cases htt
          have no : o ≠ p := fun y => by have := s3 _ _ h2; rw [← y, ho] at this; cases this
          exact ⟨_, _, _, _, _, _, _, _, rfl, fun b o e => k5 _ _ (fun y => by rw [y, hp] at e; cases e) (s4 _ _ (s3 _ _ (s2 _ _ e))), h5, (prs_imp (G := LkAt H5) (fun _ _ x => LkAt.keep x tups) hpr).snoc ⟨tt, o, rfl, (show H5 tt = some (.tup [.int (Look.mk (b + (e - b) * (n / 24 % 5) / 4) (sh + n % 6) (sh + n % 6 + n / 6 % 4 - 1) ms).st, _, _, _]) from k5 _ _ ntt upd_same), k5 _ _ no (s4 _ _ ho)⟩, by rw [List.length_append, hln]; rfl, fun l hl => (List.mem_append.mp hl).elim (hlo l) fun z => by rw [List.mem_singleton.mp z]; exact hst⟩
      · have hst : b ≤ e ∧ (wt = true → b = b) := ⟨by omega, fun _ => rfl⟩
        refine ⟨(by show 0 ≤ sizeLine; decide), fun t1 g1 => ⟨(by show 0 ≤ sizeLine; decide), fun t2 g2 => ⟨(by show 0 ≤ sizeLine; decide), fun t3 g3 => ⟨(by show 0 ≤ sizeLine; decide), fun t4 g4 => ?_⟩⟩⟩⟩
        refine ⟨_, rfl, _, rfl, _, _, rfl, rfl, (by show 2 ≤ sizeLine; decide), fun t5 g5 => ⟨_, rfl, (by show 1 ≤ sizeLine; decide), fun t6 g6 => ⟨_, rfl, (by show 1 ≤ sizeLine; decide), fun t7 g7 => ⟨_, rfl, _, rfl, _, _, rfl, rfl, (by show 2 ≤ sizeLine; decide), fun t8 g8 => ⟨(by show 8 ≤ sizeLine; decide), fun lo8 g9 => ?_⟩⟩⟩⟩⟩
        have o0 := Int.emod_nonneg (n / 120) (show (8 : Int) ≠ 0 by decide)
        have o1 := Int.emod_lt_of_pos (n / 120) (show (0 : Int) < 8 by decide)
        obtain ⟨ov, hov⟩ := atI_lt (xs := [V.ref t1, .ref t2, .ref t3, .ref t4, .ref t5, .ref t6, .ref t7, .ref t8]) o0 o1
        refine ⟨_, rfl, _, _, rfl, rfl, ⟨by decide, by decide⟩, _, _, rfl, rfl, (by show (0 : Int) < 8; decide), lo8, _, _, _, rfl, rfl, SqL.of upd_same, hov, ?_⟩
        have u1 := Same.upd (o := HO.tup []) g1
        have u2 := Same.upd (o := HO.tup []) g2
        have u3 := Same.upd (o := HO.tup []) g3
        have u4 := Same.upd (o := HO.tup []) g4
        have u5 := Same.upd (o := HO.tup [.int (sh + n % 6), .int (sh + n % 6 + 2)]) g5
        have u6 := Same.upd (o := HO.tup [.int (sh + n % 6)]) g6
        have u7 := Same.upd (o := HO.tup [.int (sh + n % 6 + n / 6 % 4 - 1)]) g7
        have u8 := Same.upd (o := HO.tup [.int (sh + n % 6), .int (sh + n % 6 + 1)]) g8
        have u9 := Same.upd (o := HO.lst [V.ref t1, .ref t2, .ref t3, .ref t4, .ref t5, .ref t6, .ref t7, .ref t8]) g9
        have s3 := u1.trans (u2.trans (u3.trans (u4.trans (u5.trans (u6.trans (u7.trans (u8.trans u9)))))))
        obtain ⟨o, ms, rfl, ho⟩ : ∃ (o : Addr) (ms : List Int), ov = V.ref o ∧ upd (upd (upd (upd (upd (upd (upd (upd (upd H2 t1 (HO.tup [])) t2 (HO.tup [])) t3 (HO.tup [])) t4 (HO.tup [])) t5 (HO.tup [.int (sh + n % 6), .int (sh + n % 6 + 2)])) t6 (HO.tup [.int (sh + n % 6)])) t7 (HO.tup [.int (sh + n % 6 + n / 6 % 4 - 1)])) t8 (HO.tup [.int (sh + n % 6), .int (sh + n % 6 + 1)])) lo8 (HO.lst [V.ref t1, .ref t2, .ref t3, .ref t4, .ref t5, .ref t6, .ref t7, .ref t8]) o = some (HO.tup (ms.map V.int)) := by
          have hm := atI_mem hov
          simp only [List.mem_cons, List.not_mem_nil, or_false] at hm
          rcases hm with rfl | rfl | rfl | rfl | rfl | rfl | rfl | rfl
          · exact ⟨t1, [], rfl, u9 _ _ (u8 _ _ (u7 _ _ (u6 _ _ (u5 _ _ (u4 _ _ (u3 _ _ (u2 _ _ upd_same)))))))⟩
          · exact ⟨t2, [], rfl, u9 _ _ (u8 _ _ (u7 _ _ (u6 _ _ (u5 _ _ (u4 _ _ (u3 _ _ upd_same))))))⟩
          · exact ⟨t3, [], rfl, u9 _ _ (u8 _ _ (u7 _ _ (u6 _ _ (u5 _ _ (u4 _ _ upd_same)))))⟩
          · exact ⟨t4, [], rfl, u9 _ _ (u8 _ _ (u7 _ _ (u6 _ _ (u5 _ _ upd_same))))⟩
          · exact ⟨t5, [_, _], rfl, u9 _ _ (u8 _ _ (u7 _ _ (u6 _ _ upd_same)))⟩
          · exact ⟨t6, [_], rfl, u9 _ _ (u8 _ _ (u7 _ _ upd_same))⟩
          · exact ⟨t7, [_], rfl, u9 _ _ (u8 _ _ upd_same)⟩
          · exact ⟨t8, [_, _], rfl, u9 _ _ upd_same⟩
        clear hov u1 u2 u3 u4 u5 u6 u7 u8 u9 g1 g2 g3 g4 g5 g6 g7 g8 g9
        generalize upd (upd (upd (upd (upd (upd (upd (upd (upd H2 t1 (HO.tup [])) t2 (HO.tup [])) t3 (HO.tup [])) t4 (HO.tup [])) t5 (HO.tup [.int (sh + n % 6), .int (sh + n % 6 + 2)])) t6 (HO.tup [.int (sh + n % 6)])) t7 (HO.tup [.int (sh + n % 6 + n / 6 % 4 - 1)])) t8 (HO.tup [.int (sh + n % 6), .int (sh + n % 6 + 1)])) lo8 (HO.lst [V.ref t1, .ref t2, .ref t3, .ref t4, .ref t5, .ref t6, .ref t7, .ref t8]) = H3 at s3 ho ⊢
        refine ⟨_, rfl, _, _, rfl, rfl, ⟨by decide, by decide⟩, _, _, rfl, rfl, (by show (0 : Int) < 8; decide), rfl, _, rfl, ite2 (fun e8 => ?_) (fun e8 => ?_)⟩
        · refine ⟨_, rfl, _, _, rfl, rfl, ⟨by decide, by decide, by decide⟩, _, _, rfl, rfl, ?_⟩
          refine ⟨_, rfl, _, _, rfl, rfl, ⟨by decide, by decide, by decide⟩, _, _, rfl, rfl, ?_⟩
          refine ⟨_, rfl, .inl ⟨rfl, _, SqL.of (s3 _ _ h2)⟩, _, rfl, _, rfl, _, rfl, _, rfl, (by show 4 ≤ sizeLine; decide), fun tt htt => ?_⟩
          have s4 := Same.upd (o := HO.tup [.int b, .int (sh + n % 6 - 10 ^ Int.toNat 27), .int (sh + n % 6 + n / 6 % 4 - 1 + 10 ^ Int.toNat 27), .ref o]) htt
          refine ⟨p, us, _, rfl, rfl, s4 _ _ (s3 _ _ h2), (by rw [prs_len hpr, hln]; exact Nat.lt_trans (show i < 4 by omega) (by decide)), fun H5 h5 k5 => ?_⟩
          have tups : ∀ t xs, H2 t = some (.tup xs) → H5 t = some (.tup xs) := fun t xs e => k5 _ _ (not_lst h2 e fun _ y => by cases y) (s4 _ _ (s3 _ _ e))
          have ntt : tt ≠ p := fun y => by rw [y, s3 _ _ h2] at htt; cases htt
          have no : o ≠ p := fun y => by have := s3 _ _ h2; rw [← y, ho] at this; cases this
          exact ⟨_, _, _, _, _, _, _, _, rfl, fun b o e => k5 _ _ (fun y => by rw [y, hp] at e; cases e) (s4 _ _ (s3 _ _ (s2 _ _ e))), h5, (prs_imp (G := LkAt H5) (fun _ _ x => LkAt.keep x tups) hpr).snoc ⟨tt, o, rfl, (show H5 tt = some (.tup [.int (Look.mk b (sh + n % 6 - 10 ^ Int.toNat 27) (sh + n % 6 + n / 6 % 4 - 1 + 10 ^ Int.toNat 27) ms).st, _, _, _]) from k5 _ _ ntt upd_same), k5 _ _ no (s4 _ _ ho)⟩, by rw [List.length_append, hln]; rfl, fun l hl => (List.mem_append.mp hl).elim (hlo l) fun z => by rw [List.mem_singleton.mp z]; exact hst⟩
        · skip
          refine ⟨_, rfl, .inl ⟨rfl, _, SqL.of (s3 _ _ h2)⟩, _, rfl, _, rfl, _, rfl, _, rfl, (by show 4 ≤ sizeLine; decide), fun tt htt => ?_⟩
          have s4 := Same.upd (o := HO.tup [.int b, .int (sh + n % 6), .int (sh + n % 6 + n / 6 % 4 - 1), .ref o]) htt
          refine ⟨p, us, _, rfl, rfl, s4 _ _ (s3 _ _ h2), (by rw [prs_len hpr, hln]; exact Nat.lt_trans (show i < 4 by omega) (by decide)), fun H5 h5 k5 => ?_⟩
          have tups : ∀ t xs, H2 t = some (.tup xs) → H5 t = some (.tup xs) := fun t xs e => k5 _ _ (not_lst h2 e fun _ y => by cases y) (s4 _ _ (s3 _ _ e))
          have ntt : tt ≠ p := fun y => by rw [y, s3 _ _ h2] at htt; cases htt
          have no : o ≠ p := fun y => by have := s3 _ _ h2; rw [← y, ho] at this; cases this
          exact ⟨_, _, _, _, _, _, _, _, rfl, fun b o e => k5 _ _ (fun y => by rw [y, hp] at e; cases e) (s4 _ _ (s3 _ _ (s2 _ _ e))), h5, (prs_imp (G := LkAt H5) (fun _ _ x => LkAt.keep x tups) hpr).snoc ⟨tt, o, rfl, (show H5 tt = some (.tup [.int (Look.mk b (sh + n % 6) (sh + n % 6 + n / 6 % 4 - 1) ms).st, _, _, _]) from k5 _ _ ntt upd_same), k5 _ _ no (s4 _ _ ho)⟩, by rw [List.length_append, hln]; rfl, fun l hl => (List.mem_append.mp hl).elim (hlo l) fun z => by rw [List.mem_singleton.mp z]; exact hst⟩
    · rintro σ H2 ⟨x6, x7, x8, x9, x10, x11, us, ls, rfl, s2, h2, hpr, hln, hlo⟩
      exact ⟨_, rfl, q p ls us H2 hp s2 h2 hpr (by rw [hln]; omega) (fun l hl => (hlo l hl).1) fun z l hl => (hlo l hl).2 z⟩
theorem ok_Lrows (T : Tx K mg) : FnOk P w K mg base CX0 3 T.f_Lrows T.d_Lrows ["_law_script", "_law_most"] (spRowsE K) := by
  refine T.F_Lrows.ok sc_Lrows (fun vs H Q E h => ?_) (fun cdv A outer s H vs Q E hr h => ?_)
  · obtain ⟨a, ns, m, rfl, _⟩ := h
    rfl
  · obtain ⟨a, ns, m, rfl, hm10, hS, hlen, q⟩ := h
    refine ⟨_, (pss_cons (ps_set (i := 2) sc_Lrows.nd rfl (Or.inr rfl) (pe_op op_sub (pe_op op_mod (pe_call ((ok_Lcell T).mono (by decide)) hr rfl T.m_Lcell T.F_Lcell.kp T.b_Lcell .nil pass0 (pa_cons (pv 0) (pa_cons pe_int pa_nil))) (pe_op op_add (pe_op op_mul pe_int (pe_op op_pow pe_int pe_int)) pe_int)) (pe_op op_pow pe_int pe_int)))
      (pss_cons (ps_set (i := 3) sc_Lrows.nd rfl (Or.inl rfl) (pe_op op_add pe_int (pe_op op_mod (pe_op op_fdiv (pe_call ((ok_Lcell T).mono (by decide)) hr rfl T.m_Lcell T.F_Lcell.kp T.b_Lcell .nil pass0 (pa_cons (pv 0) (pa_cons pe_int pa_nil))) pe_int) (pe_op op_pow pe_int pe_int))))
      (pss_cons (ps_set (i := 4) sc_Lrows.nd rfl (Or.inl rfl) (pe_op op_add pe_int (pe_op op_mod (pe_call ((ok_Lcell T).mono (by decide)) hr rfl T.m_Lcell T.F_Lcell.kp T.b_Lcell .nil pass0 (pa_cons (pv 0) (pa_cons pe_int pa_nil))) pe_int)))
      (pss_cons (ps_set (i := 5) sc_Lrows.nd rfl (Or.inl rfl) (pe_op op_mod (pe_op op_fdiv (pe_call ((ok_Lcell T).mono (by decide)) hr rfl T.m_Lcell T.F_Lcell.kp T.b_Lcell .nil pass0 (pa_cons (pv 0) (pa_cons pe_int pa_nil))) pe_int) pe_int))
      (pss_cons (ps_set (i := 6) sc_Lrows.nd rfl (Or.inl rfl) (pe_lst pa_nil))
      (pss_cons (ps_for PassesOwn.never rfl (pi_enum rfl T.z_enumerate (pa_cons (pe_slice sl_list (pv 0) (po_some pe_int) (po_some (pe_op op_add pe_int (pv 1)))) pa_nil)) (pg_tup rfl (pgs_cons (pg_name (i := 7) sc_Lrows.nd rfl (Or.inl rfl)) (pgs_cons (pg_name (i := 8) sc_Lrows.nd rfl (Or.inl rfl)) pgs_nil)))
      (pss_cons (ps_set (i := 9) sc_Lrows.nd rfl (Or.inl rfl) (pe_call ((ok_Lstream T).mono (by decide)) hr rfl T.m_Lstream T.F_Lstream.kp T.b_Lstream .nil pass0 (pa_cons (pv 8) (pa_cons (pv 7) pa_nil))))
      (pss_cons (ps_set (i := 10) sc_Lrows.nd rfl (Or.inl rfl) (pe_cmpR op_gt (pe_op op_mod (pe_op op_fdiv (pe_ix ix_list (pv 9) pe_int (fun _ _ => rfl)) pe_int) pe_int) pe_int (nomark _)))
      (pss_cons (ps_set (i := 11) sc_Lrows.nd rfl (Or.inl rfl) (pe_op op_mul (pv 3) (pe_op op_add (pe_op op_add (pe_op op_mul pe_int (pe_callB (call_max2 rfl) (by rfl) T.z_max boot_max (pa_cons pe_int (pa_cons (pe_op op_sub (pv 7) (pe_op op_mod (pe_ix ix_list (pv 9) pe_int (fun _ _ => rfl)) pe_int)) pa_nil)))) pe_int) (pe_op op_mod (pe_ix ix_list (pv 9) pe_int (fun _ _ => rfl)) pe_int))))
      (pss_cons (ps_set (i := 12) sc_Lrows.nd rfl (Or.inl rfl) (pe_op op_mul (pe_op op_mul (pv 3) pe_int) (pe_op op_add (pv 7) pe_int)))
      (pss_cons (ps_set (i := 13) sc_Lrows.nd rfl (Or.inr rfl) (pe_op op_and (pe_ix ix_list (pv 9) pe_int (fun _ _ => rfl)) (pe_op op_shr (pe_ix ix_list (pv 9) pe_int (fun _ _ => rfl)) pe_int)))
      (pss_cons (ps_compF (i := 14) ["_law_j"] rfl sc_Lrows.nd rfl rfl (CompSc.mk (fv := ["_law_shift", "_law_mask"]) (js := [2, 13]) rfl (by decide +kernel) (by decide +kernel) (by decide +kernel) (allc_cons (Or.inl rfl) (allc_cons (Or.inl rfl) allc_nil)) rfl (by decide +kernel)) (pi_range1 rfl T.z_range (pa_cons pe_int pa_nil)) rfl (fun _ _ _ _ _ => (pg_name (i := 0) (show (["_law_j", "_law_shift", "_law_mask"] : List Str).Nodup by decide +kernel) rfl (Or.inl rfl))) (fun _ _ _ _ _ => (pf_one (pt_cmpR op_eq (pe_op op_and (pe_op op_shr (pv 2) (pv 0)) pe_int) pe_int (nomark _)))) (fun _ _ _ _ _ => (pe_op op_add (pv 1) (pv 0))))
      (pss_cons (ps_set (i := 15) sc_Lrows.nd rfl (Or.inl rfl) (pe_call ((ok_Llooks T).mono (by decide)) hr rfl T.m_Llooks T.F_Llooks.kp T.b_Llooks .nil pass0 (pa_cons (pv 9) (pa_cons (pv 10) (pa_cons (pv 11) (pa_cons (pv 12) (pa_cons (pv 2) pa_nil)))))))
      (pss_one (ps_expr (pe_bm PySem.F.plainAttrs_list PySem.F.slot_list_append PySem.F.type_list_append mt_appendA (pv 6) (pa_cons (pe_tup (pa_cons (pe_op op_add pe_int (pe_op op_mod (pe_op op_add (pe_op op_mul (pv 7) (pv 4)) (pv 5)) pe_int)) (pa_cons (pv 10) (pa_cons (pv 11) (pa_cons (pv 12) (pa_cons (pv 15) (pa_cons (pv 14) pa_nil))))))) pa_nil))))))))))))
      (pss_one (ps_ret (pv 6))))))))), ?_⟩
    refine ⟨_, rfl, a, ns, 0, rfl, hS, (by decide), (by decide), fun c0 => ?_⟩
    refine ⟨_, _, rfl, rfl, ⟨by decide, by decide, by decide⟩, _, _, rfl, rfl, .inl ⟨by decide, by decide⟩, _, _, rfl, rfl, ?_⟩
    refine ⟨_, _, rfl, rfl, (by show (0 : Int) < 2 * 10 ^ 28 + 1; decide), _, _, rfl, rfl, ⟨by decide, by decide, by decide⟩, _, _, rfl, rfl, ?_⟩
    refine ⟨_, rfl, a, ns, 1, rfl, hS, (by decide), (by decide), fun c1 => ⟨_, _, rfl, rfl, ⟨by decide, by decide⟩, ?_⟩⟩
    refine ⟨_, _, rfl, rfl, ⟨by decide, by decide, by decide⟩, _, _, rfl, rfl, (by show (0 : Int) < 10 ^ 20; decide), _, _, rfl, rfl, ?_⟩
    refine ⟨_, rfl, a, ns, 1, rfl, hS, (by decide), (by decide), fun c2 => ⟨_, _, rfl, rfl, (by show (0 : Int) < 16; decide), _, _, rfl, rfl, ?_⟩⟩
    refine ⟨_, rfl, a, ns, 1, rfl, hS, (by decide), (by decide), fun c3 => ⟨_, _, rfl, rfl, ⟨by decide, by decide⟩, _, _, rfl, rfl, (by show (0 : Int) < 17; decide), ?_⟩⟩
    obtain ⟨sh, hsh⟩ : ∃ sh, sh = c0 % (2 * 10 ^ Int.toNat 28 + 1) - 10 ^ Int.toNat 28 := ⟨_, rfl⟩
    obtain ⟨un, hun⟩ : ∃ un, un = 1 + c1 / 272 % 10 ^ Int.toNat 20 := ⟨_, rfl⟩
    obtain ⟨sp, hsp⟩ : ∃ sp, sp = 1 + c2 % 16 := ⟨_, rfl⟩
    obtain ⟨of, hof⟩ : ∃ of, of = c3 / 16 % 17 := ⟨_, rfl⟩
    have sp0 : 0 ≤ sp ∧ sp < 100 := by omega
    have u1 : 1 ≤ un := by
      have := Int.emod_nonneg (c1 / 272) (show (10 : Int) ^ Int.toNat 20 ≠ 0 by decide)
      omega
    rw [show (fun i j => V.int (i - j)) (c0 % (2 * 10 ^ Int.toNat 28 + 1)) (10 ^ Int.toNat 28) = V.int sh from by rw [hsh], show (fun i j => V.int (i + j)) 1 (c1 / 272 % 10 ^ Int.toNat 20) = V.int un from by rw [hun], show (fun i j => V.int (i + j)) 1 (c2 % 16) = V.int sp from by rw [hsp], show (fun i j => V.int (i % j)) (c3 / 16) 17 = V.int of from by rw [hof]]
    refine ⟨(by show 0 ≤ sizeLine; decide), fun R hR => ?_⟩
    have s1 := Same.upd (o := HO.lst []) hR
    refine ⟨_, rfl, _, rfl, _, rfl, _, _, rfl, rfl, _, rfl, a, _, rfl, s1.seq hS, fun c hc => ?_⟩
    have s2 := s1.trans (Same.upd (o := HO.lst (cutV (ns.map V.int) (some 2) (some (2 + m)))) hc)
    have cR : c ≠ R := fun z => by rw [z, upd_same] at hc; cases hc
    obtain ⟨ms, hms, hml⟩ := cut_ints ns (some 2) (some (2 + m))
    rw [hms] at s2 ⊢
    refine ⟨c, _, rfl, upd_same, for_enum (K := K) (a := c) (xs := ms.map V.int)
      (fun i σ H2 => ∃ (x7 x8 x9 x10 x11 x12 x13 x14 x15 : Option V) (us : List V) (rs : List Row), σ = [some (.ref a), some (.int m), some (.int sh), some (.int un), some (.int sp), some (.int of), some (.ref R), x7, x8, x9, x10, x11, x12, x13, x14, x15] ∧ Same H H2 ∧ H2 c = some (.lst (ms.map V.int)) ∧ H2 R = some (.lst us) ∧ Paired (RowAt R H2) us rs ∧ rs.length = i ∧ (∀ r ∈ rs, Nice r) ∧ Drawn un sp of rs ∧ ∀ r ∈ rs, Fair r)
      ⟨none, none, none, none, none, none, none, none, none, [], [], rfl, s2, upd_same, (by rw [upd_ne cR.symm, upd_same]), .nil, rfl, (fun r h => by cases h), ⟨fun i r h => by simp at h⟩, fun r h => by cases h⟩ (fun i σ H2 ⟨_, _, _, _, _, _, _, _, _, _, _, _, _, z, _⟩ => SqL.of z) ?_ ?_⟩
    · rintro i y σ H2 p hy ⟨x7, x8, x9, x10, x11, x12, x13, x14, x15, us, rs, rfl, sA, hcA, hRA, hpr, hln, hni, hdr, hfa⟩ hp
      obtain ⟨z, rfl, _⟩ := int_of_map hy
      have hi63 : i < 63 := by
        have := (List.getElem?_eq_some_iff.mp hy).1
        rw [List.length_map] at this
        omega
      have s3 := Same.upd (o := HO.tup [.int (i : Int), .int z]) hp
      refine ⟨p, _, rfl, SqT.of upd_same, rfl, _, _, rfl, _, _, rfl, rfl, ?_⟩
      generalize upd H2 p (HO.tup [.int (i : Int), .int z]) = H3 at s3 ⊢
      refine ⟨_, rfl, _, rfl, z, (i : Int), rfl, fun xa n7 H4 hxa h7 s4 hxl => ?_⟩
      have at_ : ∀ j : Nat, j < 7 → ∃ zj, atI (n7.map V.int) (j : Int) = some (.int zj) := fun j hj => ⟨n7[j], atI_nat (by rw [List.getElem?_map, List.getElem?_eq_getElem (by omega)]; rfl)⟩
      obtain ⟨z4, a4⟩ := at_ 4 (by decide)
      obtain ⟨z5, a5⟩ := at_ 5 (by decide)
      obtain ⟨z6, a6⟩ := at_ 6 (by decide)
      refine ⟨_, rfl, xa, _, _, _, rfl, rfl, SqL.of hxl, a4, _, _, rfl, rfl, ⟨by decide, by decide⟩, _, _, rfl, rfl, (by show (0 : Int) < 4; decide), _, _, rfl, rfl, ?_⟩
      have e40 := Int.emod_nonneg z4 (show (4 : Int) ≠ 0 by decide)
      have e50 := Int.emod_nonneg z5 (show (98 : Int) ≠ 0 by decide)
      have e51 := Int.emod_lt_of_pos z5 (show (0 : Int) < 98 by decide)
      refine ⟨_, rfl, _, rfl, _, rfl, xa, _, _, _, rfl, rfl, SqL.of hxl, a4, _, _, rfl, rfl, (by show (0 : Int) < 4; decide), _, _, rfl, rfl, _, _, rfl, _, _, rfl, rfl, .inl ⟨by decide, by decide⟩, _, _, rfl, rfl, ?_⟩
      refine ⟨_, rfl, xa, _, _, _, rfl, rfl, SqL.of hxl, a5, _, _, rfl, rfl, (by show (0 : Int) < 98; decide), _, _, rfl, rfl, _, _, rfl, rfl, .inr (by constructor <;> split <;> omega), ?_⟩
      refine ⟨_, rfl, _, _, rfl, rfl, .inr ⟨by decide, by decide⟩, _, rfl, _, _, rfl, rfl, _, _, rfl, rfl, .inr ⟨by omega, by omega⟩, ?_⟩
      refine ⟨_, rfl, xa, _, _, _, rfl, rfl, SqL.of hxl, a6, _, rfl, xa, _, _, _, rfl, rfl, SqL.of hxl, a6, _, _, rfl, rfl, (by show (0 : Int) ≤ 8; decide), _, _, rfl, rfl, ?_⟩
      obtain ⟨mk, hmk⟩ : ∃ mk, mk = Builtin.bitAnd z6 (z6 / 2 ^ Int.toNat 8) := ⟨_, rfl⟩
      rw [show (fun i j => V.int (Builtin.bitAnd i j)) z6 (z6 / 2 ^ Int.toNat 8) = V.int mk from by rw [hmk]]
      have hbb : (100 * (if (i : Int) - z4 % 4 > 0 then (i : Int) - z4 % 4 else 0) + 1 + z5 % 98) % 100 ≠ 0 := by
        generalize (if (i : Int) - z4 % 4 > 0 then (i : Int) - z4 % 4 else 0) = mm
        omega
      have hbl : (100 * (if (i : Int) - z4 % 4 > 0 then (i : Int) - z4 % 4 else 0) + 1 + z5 % 98) < 100 * ((i : Int) + 1) := by
        split <;> omega
      generalize (100 * (if (i : Int) - z4 % 4 > 0 then (i : Int) - z4 % 4 else 0) + 1 + z5 % 98) = bb at hbb hbl ⊢
      refine ⟨6, rfl, by decide, by decide, ?_⟩
      refine compQF_map (k := 1) (fs := [some (.int sh), some (.int mk)]) 6 (fun j => if decide (V.int (Builtin.bitAnd (mk / 2 ^ (0 + (j : Int)).toNat) 1) = V.int 1) = true then some (.int (sh + (0 + (j : Int)))) else none) rfl (by decide) (fun j H3 _ hj => hj) (fun H3 _ => Nat.le_refl 6) ?_ ?_
      · rintro j H5 ts v H6 R2 ss hj hts ⟨rfl, rfl⟩ cb
        obtain ⟨t, rfl⟩ := List.length_eq_one_iff.mp hts
        have hcb := cb [some (.int (0 + (j : Int)))] H6 rfl (Same.refl _)
        refine ⟨_, rfl, _, rfl, _, _, rfl, rfl, (by show (0 : Int) ≤ 0 + (j : Int); omega), _, _, rfl, rfl, rfl, _, rfl, ite2 (fun e => ⟨_, rfl, _, rfl, _, _, rfl, rfl, ?_⟩) (fun e => ?_)⟩
        · rw [if_pos e] at hcb
          exact hcb
        · rw [if_neg e] at hcb
          exact hcb
      · intro pa H5 hpa s5 hl5
        rw [gather_filter (List.range 6) (fun (j : Nat) => decide (V.int (Builtin.bitAnd (mk / 2 ^ (0 + (j : Int)).toNat) 1) = V.int 1)) (fun (j : Nat) => V.int (sh + (0 + (j : Int))))] at hl5
        obtain ⟨ps, hps, pup, pl6⟩ : ∃ ps : List Int, ((List.range 6).filter fun (j : Nat) => decide (V.int (Builtin.bitAnd (mk / 2 ^ (0 + (j : Int)).toNat) 1) = V.int 1)).map (fun (j : Nat) => V.int (sh + (0 + (j : Int)))) = ps.map V.int ∧ ps.Pairwise (· < ·) ∧ ps.length ≤ 6 := by
          refine ⟨((List.range 6).filter fun (j : Nat) => decide (V.int (Builtin.bitAnd (mk / 2 ^ (0 + (j : Int)).toNat) 1) = V.int 1)).map fun (j : Nat) => sh + (0 + (j : Int)), by rw [List.map_map]; rfl, ?_, ?_⟩
          · refine List.pairwise_map.mpr (((List.pairwise_lt_range (n := 6)).sublist List.filter_sublist).imp fun {x y} h => ?_)
            omega
          · rw [List.length_map]
            exact Nat.le_trans (List.length_filter_le _ _) (by simp)
        rw [hps] at hl5
        have hbf : un * bb < un * 100 * ((i : Int) + 1) := by
          rw [Int.mul_assoc]
          exact Int.mul_lt_mul_of_pos_left hbl (by omega)
        refine ⟨_, rfl, _, rfl, _, rfl, _, rfl, _, rfl, xa, n7, _, _, _, _, rfl, s5 _ _ hxl, h7, hbf, fun la ls ws H7 hla s7 hl7 hlk hl3 hle hwl => ?_⟩
        have sB := s3.trans (s4.trans (s5.trans s7))
        have hRB := sB _ _ hRA
        refine ⟨_, rfl, .inl ⟨rfl, _, SqL.of hRB⟩, _, rfl, _, rfl, _, _, rfl, rfl, .inr ⟨by omega, by omega⟩, _, rfl, _, _, rfl, rfl, _, _, rfl, rfl, (by show (0 : Int) < 17; decide), _, _, rfl, rfl, _, rfl, _, rfl, _, rfl, _, rfl, _, rfl, (by show 6 ≤ sizeLine; decide), fun tt htt => ?_⟩
        have s8 := Same.upd (o := HO.tup [.int (1 + ((i : Int) * sp + of) % 17), .bl (decide (z4 / 4 % 4 > 0)), .int (un * bb), .int (un * 100 * ((i : Int) + 1)), .ref la, .ref pa]) htt
        refine ⟨R, us, _, rfl, rfl, s8 _ _ hRB, (by rw [prs_len hpr, hln]; exact Nat.lt_trans hi63 (by decide)), fun H9 h9 k9 => ?_⟩
        have hRH : H R = none := hR
        have nla : la ≠ R := fun y => by rw [y, s5 _ _ (s4 _ _ (s3 _ _ hRA))] at hla; cases hla
        have npa : pa ≠ R := fun y => by rw [y, s4 _ _ (s3 _ _ hRA)] at hpa; cases hpa
        have ntt : tt ≠ R := fun y => by rw [y, hRB] at htt; cases htt
        have keep : ∀ b o, b ≠ R → H2 b = some o → H9 b = some o := fun b o nb e => k9 _ _ nb (s8 _ _ (sB _ _ e))
        refine ⟨_, _, _, _, _, _, _, _, _, _, rs ++ [⟨1 + ((i : Int) * sp + of) % 17, decide (z4 / 4 % 4 > 0), un * bb, un * 100 * ((i : Int) + 1), ls, ps⟩], rfl, fun b o e => keep _ _ (fun y => by rw [y, hRH] at e; cases e) (sA _ _ e), keep _ _ cR hcA, h9, ?_, by rw [List.length_append, hln]; rfl, ?_, ?_⟩
        · refine (prs_imp (fun _ _ x => x.keep hRA keep) hpr).snoc ⟨la, pa, nla, npa, tt, ws, rfl, k9 _ _ ntt upd_same, k9 _ _ nla (s8 _ _ hl7), prs_imp (fun _ _ x => x.keep fun t xs e => k9 _ _ (not_lst hRB e fun _ y => by cases y) (s8 _ _ e)) hlk, k9 _ _ npa (s8 _ _ (s7 _ _ hl5))⟩
        · intro r hr'
          rcases List.mem_append.mp hr' with h | h
          · exact hni r h
          · rw [List.mem_singleton.mp h]
            exact ⟨hl3, pl6, pup⟩
        · refine ⟨hdr.snoc ⟨by rw [hln], by rw [hln], bb, rfl, hbb⟩, fun r hr' => ?_⟩
          rcases List.mem_append.mp hr' with h | h
          · exact hfa r h
          · rw [List.mem_singleton.mp h]
            exact ⟨hbf, hwl, hle⟩
    · rintro σ H2 ⟨x7, x8, x9, x10, x11, x12, x13, x14, x15, us, rs, rfl, sA, hcA, hRA, hpr, hln, hni, hdr, hfa⟩
      have l10 : rs.length ≤ 14 := by
        rw [hln, ← hms, hm10]
        exact cut_most _
      obtain ⟨g, nd⟩ := hdr.good u1 (by omega) (by omega) (by omega) hni
      exact ⟨_, rfl, q R rs us H2 hR sA hRA hpr l10 g nd hfa (hdr.rise u1)⟩
theorem ok_Lspan (T : Tx K mg) : FnOk P w K mg base CX0 3 T.f_Lspan T.d_Lspan ["_law_row"] (spMkSpan T.c_Span) := by
  refine T.F_Lspan.ok sc_Lspan (fun vs H Q E h => ?_) (fun cdv A outer s H vs Q E hr h => ?_)
  · obtain ⟨v, r, la, pa, rfl, _⟩ := h
    rfl
  · obtain ⟨v, r, la, pa, rfl, ⟨t, us, rfl, ht, hla, hlk, hpa⟩, q⟩ := h
    refine ⟨_, (pss_one (ps_ret (pe_make T.mk_Span ((ok_Spaninit T).mono (by decide)) hr rfl T.m_Span T.b_Spaninit .nil pass0 (pa_cons (pe_ix ix_tup (pv 0) pe_int (fun _ _ => rfl)) (pa_cons (pe_ix ix_tup (pv 0) pe_int (fun _ _ => rfl)) (pa_cons (pe_ix ix_tup (pv 0) pe_int (fun _ _ => rfl)) (pa_cons (pe_ix ix_tup (pv 0) pe_int (fun _ _ => rfl)) (pa_cons (pe_callTy call_list_of (by rfl) T.z_list boot_list (pa_cons (pe_ix ix_tup (pv 0) pe_int (fun _ _ => rfl)) pa_nil)) (pa_cons (pe_callTy call_list_of (by rfl) T.z_list boot_list (pa_cons (pe_ix ix_tup (pv 0) pe_int (fun _ _ => rfl)) pa_nil)) pa_nil))))))))), ?_⟩
    refine ⟨_, rfl, t, _, _, _, rfl, rfl, SqT.of ht, atI_nat (j := 0) rfl, _, rfl, t, _, _, _, rfl, rfl, SqT.of ht, atI_nat (j := 1) rfl, _, rfl, t, _, _, _, rfl, rfl, SqT.of ht, atI_nat (j := 2) rfl, _, rfl, t, _, _, _, rfl, rfl, SqT.of ht, atI_nat (j := 3) rfl, ?_⟩
    refine ⟨_, rfl, t, _, _, _, rfl, rfl, SqT.of ht, atI_nat (j := 4) rfl, la, us, rfl, .inl (SqL.of hla), fun l4 h4 => ?_⟩
    have s4 := Same.upd (o := HO.lst us) h4
    refine ⟨_, rfl, t, _, _, _, rfl, rfl, SqT.of (s4 _ _ ht), atI_nat (j := 5) rfl, pa, _, rfl, .inl (SqL.of (s4 _ _ hpa)), fun l5 h5 => ?_⟩
    have s5 := Same.upd (o := HO.lst (r.puts.map V.int)) h5
    have s45 := s4.trans s5
    have hl4 := s5 _ _ (upd_same (H := H) (a := l4) (o := HO.lst us))
    have hl5 := upd_same (H := upd H l4 (HO.lst us)) (a := l5) (o := HO.lst (r.puts.map V.int))
    generalize upd (upd H l4 (HO.lst us)) l5 (HO.lst (r.puts.map V.int)) = H6 at s45 hl4 hl5 ⊢
    intro x dx hx hdx ndx
    have b4 : l4 ≠ x := fun z => by rw [z, hx] at hl4; cases hl4
    have b4' : l4 ≠ dx := fun z => by rw [z, hdx] at hl4; cases hl4
    have b5 : l5 ≠ x := fun z => by rw [z, hx] at hl5; cases hl5
    have b5' : l5 ≠ dx := fun z => by rw [z, hdx] at hl5; cases hl5
    refine ⟨x, dx, l4, l5, r, us, r.puts.map V.int, rfl, upd_same, (by rw [upd_ne b4, upd_ne b4']; exact hl4), (by rw [upd_ne b5, upd_ne b5']; exact hl5), fun la' pa' H' ga gb kk gx gl gp => ⟨rfl, ?_⟩⟩
    have old : ∀ b o, H6 b = some o → H' b = some o := fun b o e => by
      have n1 : b ≠ x := fun z => by rw [z, hx] at e; cases e
      have n2 : b ≠ dx := fun z => by rw [z, hdx] at e; cases e
      exact kk _ _ n1 (by rw [upd_ne n1, upd_ne n2]; exact e)
    have fr : ∀ {b}, upd (upd H6 dx (.own x)) x (.ins T.c_Span dx []) b = none → H b = none := fun {b} e => by
      cases hb : H b with
      | none => rfl
      | some o =>
        have e6 := s45 _ _ hb
        have n1 : b ≠ x := fun z => by rw [z, hx] at e6; cases e6
        have n2 : b ≠ dx := fun z => by rw [z, hdx] at e6; cases e6
        rw [upd_ne n1, upd_ne n2, e6] at e
        cases e
    exact q _ la' pa' H' (fr ga) (fr gb) (fun b o e => old _ _ (s45 _ _ e)) ⟨x, dx, us, rfl, gx, gl, prs_imp (fun _ _ y => y.keep fun _ _ z => old _ _ (s45 _ _ z)) hlk, gp⟩
theorem ok_firstone (T : Tx K mg) : FnOk P w K mg base CX0 4 T.f_firstone T.d_firstone ["spans", "mid"] (spFirstG behind T.c_Span) := by
  refine T.F_firstone.ok sc_firstone (fun vs H Q E h => ?_) (fun cdv A outer s H vs Q E hr h => ?_)
  · obtain ⟨l, v, us, rs, r, rfl, _⟩ := h
    rfl
  · obtain ⟨l, v, us, rs, r, rfl, hl, hp, ⟨la, pa, hv⟩, q1, q2⟩ := h
    refine ⟨_, (pss_cons (ps_for PassesOwn.never rfl (pi_list (pv 0)) (pg_name (i := 2) sc_firstone.nd rfl (Or.inl rfl))
      (pss_one (ps_if (PW.pt (pw_and (pt_cmpR op_gt (pe_fldK (K := K) rfl (pv 2) rfl) (pe_fldK (K := K) rfl (pv 1) rfl) (nomark _)) (pw_and1 (pt_cmpR op_notN (pe_call ((ok_older T).mono (by decide)) hr rfl T.m_older T.F_older.kp T.b_older .nil pass0 (pa_cons (pv 2) (pa_cons (pv 1) pa_nil))) pe_non (nomark _)))))
      (pss_one (ps_ret (pv 2)))
      pss_nil)))
      (pss_one (ps_ret pe_non))), ?_⟩
    obtain ⟨t, dx, ws, rfl, ht, hrest⟩ := id hv
    refine ⟨_, rfl, l, rfl, ⟨_, SqL.of hl⟩, for_list (K := K) (a := l) (xs := us)
      (fun i σ H2 => H2 = H ∧ ∃ (x2 : Option V), σ = [some (.ref l), some (.ref t), x2] ∧ ∀ j q, j < i → rs[j]? = some q → behind r q = false)
      ⟨rfl, none, rfl, fun j x h => absurd h (Nat.not_lt_zero _)⟩ (fun i σ H2 _ ⟨z, _⟩ => z ▸ SqL.of hl) ?_ ?_⟩
    · rintro i y σ H2 hy ⟨z2, x2, rfl, hno⟩
      subst z2
      obtain ⟨q, eq, la2, pa2, hq⟩ := paired_get hp hy
      obtain ⟨t2, dx2, ws2, rfl, ht2, hrest2⟩ := id hq
      refine ifjoin (b := behind r q) (fun Q2 k2 => ?_) ?_
      · refine ⟨_, rfl, t2, _, dx2, _, _, rfl, ht2, T.cl_Span, T.na_Span_end, rfl, _, rfl, t, _, dx, _, _, rfl, ht, T.cl_Span, T.na_Span_begin, rfl, _, _, rfl, rfl, _, rfl, ite2 (fun e1 => ?_) (fun e1 => ?_)⟩
        · refine ⟨_, rfl, _, rfl, .ref t2, .ref t, q, r, la2, pa2, la, pa, rfl, hq, hv, rfl, _, rfl, ?_⟩
          rw [opt_is]
          have z : behind r q = (olderR q r).isSome := by
            unfold behind
            rw [show decide (r.beg < q.fin) = true from e1]
            rfl
          rw [z] at k2
          exact k2
        · have z : behind r q = false := by
            unfold behind
            rw [show decide (r.beg < q.fin) = false from (Bool.not_eq_true _).mp e1]
            rfl
          rw [z] at k2
          exact k2
      · refine ite2 (fun e => ?_) (fun e => ?_)
        · exact ⟨_, rfl, q1 _ q (find_at hno eq e) ⟨la2, pa2, hq⟩⟩
        · refine ⟨rfl, _, rfl, fun j q' hj e4 => ?_⟩
          rcases Nat.lt_succ_iff_lt_or_eq.mp hj with h | h
          · exact hno j q' h e4
          · subst h
            rw [eq] at e4
            cases e4
            exact (Bool.not_eq_true _).mp e
    · rintro σ H2 ⟨z2, x2, rfl, hno⟩
      subst z2
      refine q2 (List.find?_eq_none.mpr fun x hx => ?_)
      obtain ⟨j, hj⟩ := mem_ix hx
      rw [hno j x (by rw [prs_len hp]; exact (List.getElem?_eq_some_iff.mp hj).1) hj]
      simp
theorem ok_firstother (T : Tx K mg) : FnOk P w K mg base CX0 4 T.f_firstother T.d_firstother ["spans", "mid"] (spFirstG ahead T.c_Span) := by
  refine T.F_firstother.ok sc_firstother (fun vs H Q E h => ?_) (fun cdv A outer s H vs Q E hr h => ?_)
  · obtain ⟨l, v, us, rs, r, rfl, _⟩ := h
    rfl
  · obtain ⟨l, v, us, rs, r, rfl, hl, hp, ⟨la, pa, hv⟩, q1, q2⟩ := h
    refine ⟨_, (pss_cons (ps_for PassesOwn.never rfl (pi_list (pv 0)) (pg_name (i := 2) sc_firstother.nd rfl (Or.inl rfl))
      (pss_one (ps_if (PW.pt (pw_and (pt_cmpR op_lt (pe_fldK (K := K) rfl (pv 2) rfl) (pe_fldK (K := K) rfl (pv 1) rfl) (nomark _)) (pw_and1 (pt_cmpR op_notN (pe_call ((ok_older T).mono (by decide)) hr rfl T.m_older T.F_older.kp T.b_older .nil pass0 (pa_cons (pv 1) (pa_cons (pv 2) pa_nil))) pe_non (nomark _)))))
      (pss_one (ps_ret (pv 2)))
      pss_nil)))
      (pss_one (ps_ret pe_non))), ?_⟩
    obtain ⟨t, dx, ws, rfl, ht, hrest⟩ := id hv
    refine ⟨_, rfl, l, rfl, ⟨_, SqL.of hl⟩, for_list (K := K) (a := l) (xs := us)
      (fun i σ H2 => H2 = H ∧ ∃ (x2 : Option V), σ = [some (.ref l), some (.ref t), x2] ∧ ∀ j q, j < i → rs[j]? = some q → ahead r q = false)
      ⟨rfl, none, rfl, fun j x h => absurd h (Nat.not_lt_zero _)⟩ (fun i σ H2 _ ⟨z, _⟩ => z ▸ SqL.of hl) ?_ ?_⟩
    · rintro i y σ H2 hy ⟨z2, x2, rfl, hno⟩
      subst z2
      obtain ⟨q, eq, la2, pa2, hq⟩ := paired_get hp hy
      obtain ⟨t2, dx2, ws2, rfl, ht2, hrest2⟩ := id hq
      refine ifjoin (b := ahead r q) (fun Q2 k2 => ?_) ?_
      · refine ⟨_, rfl, t2, _, dx2, _, _, rfl, ht2, T.cl_Span, T.na_Span_end, rfl, _, rfl, t, _, dx, _, _, rfl, ht, T.cl_Span, T.na_Span_end, rfl, _, _, rfl, rfl, _, rfl, ite2 (fun e1 => ?_) (fun e1 => ?_)⟩
        · refine ⟨_, rfl, _, rfl, .ref t, .ref t2, r, q, la, pa, la2, pa2, rfl, hv, hq, rfl, _, rfl, ?_⟩
          rw [opt_is]
          have z : ahead r q = (olderR r q).isSome := by
            unfold ahead
            rw [show decide (q.fin < r.fin) = true from e1]
            rfl
          rw [z] at k2
          exact k2
        · have z : ahead r q = false := by
            unfold ahead
            rw [show decide (q.fin < r.fin) = false from (Bool.not_eq_true _).mp e1]
            rfl
          rw [z] at k2
          exact k2
      · refine ite2 (fun e => ?_) (fun e => ?_)
        · exact ⟨_, rfl, q1 _ q (find_at hno eq e) ⟨la2, pa2, hq⟩⟩
        · refine ⟨rfl, _, rfl, fun j q' hj e4 => ?_⟩
          rcases Nat.lt_succ_iff_lt_or_eq.mp hj with h | h
          · exact hno j q' h e4
          · subst h
            rw [eq] at e4
            cases e4
            exact (Bool.not_eq_true _).mp e
    · rintro σ H2 ⟨z2, x2, rfl, hno⟩
      subst z2
      refine q2 (List.find?_eq_none.mpr fun x hx => ?_)
      obtain ⟨j, hj⟩ := mem_ix hx
      rw [hno j x (by rw [prs_len hp]; exact (List.getElem?_eq_some_iff.mp hj).1) hj]
      simp
theorem ok_closing (T : Tx K mg) : FnOk P w K mg base CX0 5 T.f_closing T.d_closing ["kept", "new"] (spClosing T.c_Span T.lp mg base) := by
  refine My.fun_okC T.F_closing sc_closing (fun vs H Q E h => ?_) (fun A outer s H vs Q E hr h => ?_)
  · obtain ⟨l, v, us, rs, r, rfl, _⟩ := h
    rfl
  · obtain ⟨l, v, us, rs, r, rfl, hB, hl, hp, hv, hz, hT, q⟩ := h
    have hu := hu_of hr
    have hlen := prs_len hp
    have z63 : (64 : Nat) ≤ sizeLine := by decide
    refine ⟨_, (pss_cons (ps_set (i := 2) sc_closing.nd rfl (Or.inl rfl) (pe_sortLam (c := T.lc) (P0 := T.lp) rfl T.z_sorted (pa_cons (pe_op op_cat (pv 0) (pe_lst (pa_cons (pv 1) pa_nil))) pa_nil) T.lcd T.lch hB hr.depth rfl rfl rfl rfl rfl (by decide) rfl (fun _ _ _ _ _ _ _ _ => rfl) (by decide) (fun _ => rfl)))
      (pss_cons (ps_for PassesOwn.never rfl (pi_list (pe_compF ["span"] rfl (CompSc.mk (fv := []) (js := []) rfl (by decide +kernel) (by decide +kernel) (by decide +kernel) allc_nil rfl (by decide +kernel)) (pi_list (pv 2)) (fun _ _ _ _ _ => (pg_name (i := 0) (show (["span"] : List Str).Nodup by decide +kernel) rfl (Or.inl rfl))) (fun _ _ _ _ _ => (pf_one (pt_val (pe_fldK (K := K) rfl (pv 0) rfl)))) (fun _ _ _ _ _ => (pv 0)))) (pg_name (i := 3) sc_closing.nd rfl (Or.inl rfl))
      (pss_cons (ps_set (i := 4) sc_closing.nd rfl (Or.inl rfl) (pe_call ((ok_firstone T).mono (by decide)) hr rfl T.m_firstone T.F_firstone.kp T.b_firstone .nil pass0 (pa_cons (pe_ifExp (pt_cmpR op_eq (pe_fldK (K := K) rfl (pv 3) rfl) (pe_fldK (K := K) rfl (pv 1) rfl) (nomark _)) (pv 2) (pe_lst (pa_cons (pv 1) pa_nil))) (pa_cons (pv 3) pa_nil))))
      (pss_cons (ps_set (i := 5) sc_closing.nd rfl (Or.inl rfl) (pe_ifExp (pt_cmpR op_isN (pv 4) pe_non (nomark _)) pe_non (pe_call ((ok_firstother T).mono (by decide)) hr rfl T.m_firstother T.F_firstother.kp T.b_firstother .nil pass0 (pa_cons (pv 2) (pa_cons (pv 3) pa_nil)))))
      (pss_one (ps_if (pt_cmpR op_notN (pv 5) pe_non (nomark _))
      (pss_one (ps_ret (pe_tup (pa_cons (pe_fldK (K := K) rfl (pv 4) rfl) (pa_cons (pe_call ((ok_older T).mono (by decide)) hr rfl T.m_older T.F_older.kp T.b_older .nil pass0 (pa_cons (pv 4) (pa_cons (pv 3) pa_nil))) (pa_cons (pe_fldK (K := K) rfl (pv 3) rfl) (pa_cons (pe_call ((ok_older T).mono (by decide)) hr rfl T.m_older T.F_older.kp T.b_older .nil pass0 (pa_cons (pv 3) (pa_cons (pv 5) pa_nil))) (pa_cons (pe_fldK (K := K) rfl (pv 5) rfl) pa_nil))))))))
      pss_nil)))))
      (pss_one (ps_ret pe_non)))), ?_⟩
    obtain ⟨la, pa, t, dx, ws, rfl, ht, hrest⟩ := id hv
    refine ⟨_, rfl, _, rfl, (by show 1 ≤ sizeLine; decide), fun p1 hp1 => ?_⟩
    have s1 := Same.upd (o := HO.lst [V.ref t]) hp1
    refine ⟨l, p1, us, [.ref t], rfl, rfl, s1 _ _ hl, upd_same, (by show us.length + 1 ≤ sizeLine; omega), fun p2 hp2 => ?_⟩
    have s2 := s1.trans (Same.upd (o := HO.lst (us ++ [V.ref t])) hp2)
    have h2l := upd_same (H := upd H p1 (HO.lst [V.ref t])) (a := p2) (o := HO.lst (us ++ [V.ref t]))
    generalize upd (upd H p1 (HO.lst [V.ref t])) p2 (HO.lst (us ++ [V.ref t])) = H2 at s2 h2l ⊢
    have pr2 : Paired (SpanOf T.c_Span H2) (us ++ [V.ref t]) (rs ++ [r]) := (prs_imp (fun _ _ x => SpanOf.same x s2) hp).snoc (hv.same s2)
    refine ⟨p2, us ++ [.ref t], (rs ++ [r]).map Row.num, rfl, h2l, (by rw [List.length_append]; show us.length + 1 < 64; omega), prs_map pr2 (fun v b ⟨la, pa, t, dx, vs, e, a, _⟩ => ⟨t, _, dx, _, e, a, T.cl_Span, T.na_Span_number, rfl⟩), tb_same hT s2, fun D ys H3 hD k3 hT3 hDl hby => ?_⟩
    have kp3 : Kp H2 H3 := tb_kp (tb_same hT s2) k3
    obtain ⟨S, up, pr3'⟩ := by_rows hby pr2
    have pr3 := prs_imp (G := SpanOf T.c_Span H3) (fun _ _ x => SpanOf.kp x kp3) pr3'
    have hv3 := (hv.same s2).kp kp3
    have Sl : S.length = rs.length + 1 := by rw [up.1.length_eq, List.length_append]; rfl
    have yl : ys.length = S.length := prs_len pr3
    refine ⟨_, rfl, D, rfl, ⟨_, SqL.of hDl⟩, ?_⟩
    refine compQF_map (k := 1) (fs := []) (ys.zip S).length (fun i => if ((ys.zip S).getD i dfR).2.wat = true then some ((ys.zip S).getD i dfR).1 else none) rfl (by rw [List.length_zip]; omega) (fun i H4 ss hi => (gives_list (SqL.of (ss _ _ hDl))).go i (by rw [List.length_zip] at hi; omega)) (fun H4 ss => (gives_list (SqL.of (ss _ _ hDl))).stop _ (by rw [List.length_zip]; omega)) ?_ ?_
    · rintro i H4 ts v' H5 R ss hi hts ⟨rfl, hy⟩ cb
      obtain ⟨t', rfl⟩ := List.length_eq_one_iff.mp hts
      have ev := hy _ (SqL.of (ss _ _ hDl))
      obtain ⟨m, em, hm⟩ := paired_get pr3 ev
      obtain ⟨la2, pa2, tm, dxm, wm, rfl, htm, _⟩ := id hm
      have eg : (ys.zip S).getD i dfR = (V.ref tm, m) := by rw [List.getD_eq_getElem?_getD, (List.getElem?_zip_eq_some (z := (V.ref tm, m))).mpr ⟨ev, em⟩]; rfl
      have hcb := cb [some (.ref tm)] H5 rfl (Same.refl _)
      simp only [eg] at hcb
      refine ⟨_, rfl, tm, _, dxm, _, _, rfl, ss _ _ htm, T.cl_Span, T.na_Span_watched, rfl, m.wat, rfl, ite2 (fun e => ⟨_, rfl, ?_⟩) (fun e => ?_)⟩
      · rw [if_pos e] at hcb
        exact hcb
      · rw [if_neg e] at hcb
        exact hcb
    · intro D2 H4 hD2 s4 hl4
      rw [range_gather (ys.zip S) dfR (fun x => if x.2.wat = true then some x.1 else none), gather_filter (ys.zip S) (fun x => x.2.wat) Prod.fst] at hl4
      have pr4 := prs_imp (G := SpanOf T.c_Span H4) (fun _ _ x => SpanOf.same x s4) pr3
      have pw : Paired (SpanOf T.c_Span H4) (((ys.zip S).filter fun x => x.2.wat).map Prod.fst) (S.filter (·.wat)) := prs_filter (·.wat) pr4
      generalize ((ys.zip S).filter fun x => x.2.wat).map Prod.fst = ms at hl4 pw
      refine ⟨D2, rfl, ⟨_, SqL.of hl4⟩, for_list (K := K) (a := D2) (xs := ms)
        (fun i σ H5 => Same H4 H5 ∧ ∃ (x3 x4 x5 : Option V), σ = [some (.ref l), some (.ref t), some (.ref D), x3, x4, x5] ∧ ∀ j m, j < i → (S.filter (·.wat))[j]? = some m → closeAt S r m = none)
        ⟨Same.refl _, none, none, none, rfl, fun j x h => absurd h (Nat.not_lt_zero _)⟩ (fun i σ H5 _ ⟨z, _⟩ => SqL.of (z _ _ hl4)) ?_ ?_⟩
      · rintro i y σ H5 hy ⟨s5, x3, x4, x5, rfl, hno⟩
        obtain ⟨m, em, hm⟩ := paired_get pw hy
        obtain ⟨lam, pam, xm⟩ := SpanOf.same hm s5
        obtain ⟨tm, dxm, wm, rfl, htm, _⟩ := id xm
        have hv5 := (hv3.same s4).same s5
        obtain ⟨la', pa', t', dx', ws', e', ht5, _⟩ := id hv5
        cases e'
        have pr5 := prs_imp (G := SpanOf T.c_Span H5) (fun _ _ x => SpanOf.same x s5) pr4
        have hD5 := s5 _ _ (s4 _ _ hDl)
        have stay : closeAt S r m = none → ∀ j m', j < i + 1 → (S.filter (·.wat))[j]? = some m' → closeAt S r m' = none := fun z j m' hj e4 => by
          rcases Nat.lt_succ_iff_lt_or_eq.mp hj with h | h
          · exact hno j m' h e4
          · subst h
            rw [em] at e4
            cases e4
            exact z
        have kpF : ∀ H6, Same H5 H6 → Kp H H6 ∧ Tb T.lp lposC qualC H6 := fun H6 s6 => ⟨(Kp.of s2).trans (kp3.trans (Kp.of (s4.trans (s5.trans s6)))), tb_same hT3 (s4.trans (s5.trans s6))⟩
        refine ⟨_, rfl, tm, _, dxm, _, _, rfl, htm, T.cl_Span, T.na_Span_number, rfl, _, rfl, t, _, dx', _, _, rfl, ht5, T.cl_Span, T.na_Span_number, rfl, rfl, _, rfl, ite2 (fun e => ?_) (fun e => ?_)⟩
        · have hLL : (if m.num = r.num then S else [r]) = S := if_pos (V.int.inj (of_decide_eq_true e))
          have s56 := Same.refl H5
          refine ⟨_, rfl, _, rfl, D, .ref tm, ys, S, m, rfl, hD5, pr5, ⟨lam, pam, xm⟩, (fun u q1 f1 h1 => ?_), (fun f1 => ?_)⟩
          · obtain ⟨la1, pa1, x1⟩ := id h1
            obtain ⟨t1, dx1, w1, rfl, ht1, _⟩ := id x1
            refine ⟨_, rfl, rfl, _, rfl, ite2 (fun e2 => by cases of_decide_eq_true e2) (fun _ => ?_)⟩
            refine ⟨_, rfl, _, rfl, D, .ref tm, ys, S, m, rfl, s56 _ _ hD5, prs_imp (fun _ _ x => SpanOf.same x s56) pr5, ⟨lam, pam, xm.same s56⟩, (fun u2 q2 f2 h2 => ?_), (fun f2 => ?_)⟩
            · obtain ⟨la2, pa2, x2⟩ := id h2
              obtain ⟨t2, dx2, w2, rfl, ht2, _⟩ := id x2
              refine ⟨_, rfl, rfl, _, rfl, ite2 (fun _ => ?_) (fun e2 => absurd (by rw [decide_eq_false (by intro z; cases z)]; rfl) e2)⟩
              refine ⟨_, rfl, t1, _, dx1, _, _, rfl, ht1, T.cl_Span, T.na_Span_number, rfl, _, rfl, _, rfl, .ref t1, .ref tm, q1, m, la1, pa1, lam, pam, rfl, x1, xm.same s56, ?_⟩
              refine ⟨_, rfl, tm, _, dxm, _, _, rfl, s56 _ _ htm, T.cl_Span, T.na_Span_number, rfl, _, rfl, _, rfl, .ref tm, .ref t2, m, q2, lam, pam, la2, pa2, rfl, xm.same s56, x2, ?_⟩
              refine ⟨_, rfl, t2, _, dx2, _, _, rfl, ht2, T.cl_Span, T.na_Span_number, rfl, (by show 5 ≤ sizeLine; decide), fun tt htt => ?_⟩
              have s7 := Same.upd (o := HO.tup (tri (q1, m, q2))) htt
              have cl : closeR S r = some (q1, m, q2) := fs_at hno em (by unfold closeAt; rw [hLL, f1, f2]; rfl)
              obtain ⟨kk, tk⟩ := kpF _ (s56.trans s7)
              exact q (.ref tt) _ S kk tk up (.inr ⟨_, tt, cl, rfl, upd_same⟩)
            · refine ⟨_, rfl, rfl, _, rfl, ite2 (fun e2 => by simp at e2) (fun _ => ?_)⟩
              exact ⟨s5.trans s56, _, _, _, rfl, stay (by unfold closeAt; rw [hLL, f1, f2]; rfl)⟩
          · refine ⟨_, rfl, rfl, _, rfl, ite2 (fun _ => ?_) (fun e2 => absurd (decide_eq_true rfl) e2)⟩
            refine ⟨_, rfl, rfl, _, rfl, ite2 (fun e2 => by simp at e2) (fun _ => ?_)⟩
            exact ⟨s5.trans s56, _, _, _, rfl, stay (by unfold closeAt; rw [hLL, f1]; rfl)⟩
        · have hLL : (if m.num = r.num then S else [r]) = [r] := if_neg fun z => e (decide_eq_true (congrArg V.int z))
          refine ⟨_, rfl, (by show 1 ≤ sizeLine; decide), fun p3 hp3 => ?_⟩
          have s56 := Same.upd (o := HO.lst [V.ref t]) hp3
          refine ⟨_, rfl, p3, .ref tm, [.ref t], [r], m, rfl, upd_same, .cons (hv5.same s56) .nil, ⟨lam, pam, xm.same s56⟩, (fun u q1 f1 h1 => ?_), (fun f1 => ?_)⟩
          · obtain ⟨la1, pa1, x1⟩ := id h1
            obtain ⟨t1, dx1, w1, rfl, ht1, _⟩ := id x1
            refine ⟨_, rfl, rfl, _, rfl, ite2 (fun e2 => by cases of_decide_eq_true e2) (fun _ => ?_)⟩
            refine ⟨_, rfl, _, rfl, D, .ref tm, ys, S, m, rfl, s56 _ _ hD5, prs_imp (fun _ _ x => SpanOf.same x s56) pr5, ⟨lam, pam, xm.same s56⟩, (fun u2 q2 f2 h2 => ?_), (fun f2 => ?_)⟩
            · obtain ⟨la2, pa2, x2⟩ := id h2
              obtain ⟨t2, dx2, w2, rfl, ht2, _⟩ := id x2
              refine ⟨_, rfl, rfl, _, rfl, ite2 (fun _ => ?_) (fun e2 => absurd (by rw [decide_eq_false (by intro z; cases z)]; rfl) e2)⟩
              refine ⟨_, rfl, t1, _, dx1, _, _, rfl, ht1, T.cl_Span, T.na_Span_number, rfl, _, rfl, _, rfl, .ref t1, .ref tm, q1, m, la1, pa1, lam, pam, rfl, x1, xm.same s56, ?_⟩
              refine ⟨_, rfl, tm, _, dxm, _, _, rfl, s56 _ _ htm, T.cl_Span, T.na_Span_number, rfl, _, rfl, _, rfl, .ref tm, .ref t2, m, q2, lam, pam, la2, pa2, rfl, xm.same s56, x2, ?_⟩
              refine ⟨_, rfl, t2, _, dx2, _, _, rfl, ht2, T.cl_Span, T.na_Span_number, rfl, (by show 5 ≤ sizeLine; decide), fun tt htt => ?_⟩
              have s7 := Same.upd (o := HO.tup (tri (q1, m, q2))) htt
              have cl : closeR S r = some (q1, m, q2) := fs_at hno em (by unfold closeAt; rw [hLL, f1, f2]; rfl)
              obtain ⟨kk, tk⟩ := kpF _ (s56.trans s7)
              exact q (.ref tt) _ S kk tk up (.inr ⟨_, tt, cl, rfl, upd_same⟩)
            · refine ⟨_, rfl, rfl, _, rfl, ite2 (fun e2 => by simp at e2) (fun _ => ?_)⟩
              exact ⟨s5.trans s56, _, _, _, rfl, stay (by unfold closeAt; rw [hLL, f1, f2]; rfl)⟩
          · refine ⟨_, rfl, rfl, _, rfl, ite2 (fun _ => ?_) (fun e2 => absurd (decide_eq_true rfl) e2)⟩
            refine ⟨_, rfl, rfl, _, rfl, ite2 (fun e2 => by simp at e2) (fun _ => ?_)⟩
            exact ⟨s5.trans s56, _, _, _, rfl, stay (by unfold closeAt; rw [hLL, f1]; rfl)⟩
      · rintro σ H5 ⟨s5, x3, x4, x5, rfl, hno⟩
        exact q .non H5 S ((Kp.of s2).trans (kp3.trans (Kp.of (s4.trans s5)))) (tb_same hT3 (s4.trans s5)) up (.inl ⟨fs_none fun j m hj em => hno j m (by rw [prs_len pw]; exact hj) em, rfl⟩)
theorem ok_early (T : Tx K mg) : FnOk P w K mg base CX0 5 T.f_early T.d_early ["span", "kept"] (spEarly T.c_Span) := by
  refine T.F_early.ok sc_early (fun vs H Q E h => ?_) (fun cdv A outer s H vs Q E hr h => ?_)
  · obtain ⟨l, v, us, rs, r, rfl, _⟩ := h
    rfl
  · obtain ⟨l, v, us, rs, r, rfl, hl, hp, ⟨la, pa, hv⟩, q⟩ := h
    refine ⟨_, (pss_one (ps_ret (pe_and (pe_fldK (K := K) rfl (pv 0) rfl) (pe_one (pe_cmpR op_notN (pe_call ((ok_firstother T).mono (by decide)) hr rfl T.m_firstother T.F_firstother.kp T.b_firstother .nil pass0 (pa_cons (pv 1) (pa_cons (pv 0) pa_nil))) pe_non (nomark _)))))), ?_⟩
    obtain ⟨t, dx, ws, rfl, ht, hrest⟩ := id hv
    refine ⟨_, rfl, t, _, dx, _, _, rfl, ht, T.cl_Span, T.na_Span_watched, rfl, r.wat, rfl, ite2 (fun e => ?_) (fun e => ?_)⟩
    · have z : earlyR r rs = rs.any (ahead r) := by
        unfold earlyR
        rw [e]
        rfl
      rw [z] at q
      refine ⟨_, rfl, _, rfl, l, .ref t, us, rs, r, rfl, hl, hp, ⟨la, pa, hv⟩, fun u q0 h hq0 => ?_, fun h => ?_⟩
      · obtain ⟨_, _, t2, _, _, rfl, _⟩ := hq0
        rw [List.any_eq_true.mpr ⟨q0, List.mem_of_find?_eq_some h, List.find?_some h⟩] at q
        exact ⟨rfl, q⟩
      · have e0 : rs.any (ahead r) = false := (Bool.not_eq_true _).mp fun z => by
          obtain ⟨x, hx, hp⟩ := List.any_eq_true.mp z
          exact List.find?_eq_none.mp h x hx hp
        rw [e0] at q
        exact ⟨rfl, q⟩
    · have z : earlyR r rs = false := by
        unfold earlyR
        rw [(Bool.not_eq_true _).mp e]
        rfl
      rw [z] at q
      exact q
theorem ok_standof (T : Tx K mg) : FnOk P w K mg base CX0 6 T.f_standof T.d_standof ["span", "kept"] (spStand T.c_Span) := by
  refine T.F_standof.ok sc_standof (fun vs H Q E h => ?_) (fun cdv A outer s H vs Q E hr h => ?_)
  · obtain ⟨l, v, us, rs, r, rfl, _⟩ := h
    rfl
  · obtain ⟨l, v, us, rs, r, rfl, hl, hp, ⟨la, pa, hv⟩, q⟩ := h
    refine ⟨_, (pss_one (ps_ret (pe_ifExp (pt_val (pe_call ((ok_early T).mono (by decide)) hr rfl T.m_early T.F_early.kp T.b_early .nil pass0 (pa_cons (pv 0) (pa_cons (pv 1) pa_nil)))) (pe_fldK (K := K) rfl (pv 0) rfl) (pe_fldK (K := K) rfl (pv 0) rfl)))), ?_⟩
    obtain ⟨t, dx, ws, rfl, ht, hrest⟩ := id hv
    refine ⟨_, rfl, _, rfl, l, .ref t, us, rs, r, rfl, hl, hp, ⟨la, pa, hv⟩, _, rfl, ite2 (fun e => ?_) (fun e => ?_)⟩
    · rw [if_pos e] at q
      exact ⟨_, rfl, t, _, dx, _, _, rfl, ht, T.cl_Span, T.na_Span_begin, rfl, q⟩
    · rw [if_neg e] at q
      exact ⟨_, rfl, t, _, dx, _, _, rfl, ht, T.cl_Span, T.na_Span_end, rfl, q⟩
theorem ok_Lwhole (T : Tx K mg) : FnOk P w K mg base CX0 1 T.f_Lwhole T.d_Lwhole ["_law_found"] spWhole := by
  refine T.F_Lwhole.ok sc_Lwhole (fun vs H Q E h => ?_) (fun cdv A outer s H vs Q E hr h => ?_)
  · obtain ⟨z, rfl, _⟩ := h
    rfl
  · obtain ⟨z, rfl, q⟩ := h
    refine ⟨_, (pss_one (ps_ret (pe_and (pe_callB call_isi (by rfl) T.z_isinstance boot_isinstance (pa_cons (pv 0) (pa_cons (pe_bltn (v := V.ty "int") rfl T.z_int boot_int rfl) pa_nil))) (pe_one (pe_not (pe_callB call_isi (by rfl) T.z_isinstance boot_isinstance (pa_cons (pv 0) (pa_cons (pe_bltn (v := V.ty "bool") rfl T.z_bool boot_bool rfl) pa_nil)))))))), ?_⟩
    exact ⟨_, rfl, _, _, _, _, rfl, TyOf.int _, kit_ii, true, rfl, iteT ⟨_, rfl, _, _, _, _, rfl, TyOf.int _, kit_ib, false, rfl, q⟩⟩
theorem ok_Brokeninit (T : Tx K mg) : FnOk P w K mg base (CXW P w) 1 T.f_Brokeninit T.d_Brokeninit ["self", "dealing", "why"] (spBroken T.c_Broken) := by
  refine fun_okW T.F_Brokeninit sc_Brokeninit (fun vs H Q E h => ?_) (fun cdv A outer s H vs Q E hr h => ?_)
  · obtain ⟨a, i, y, rfl, _⟩ := h
    rfl
  · obtain ⟨a, i, y, rfl, ha, k⟩ := h
    refine ⟨_, (pss_cons (ps_expr (pe_clsB (call_xinit K rfl) T.cb_SkewError rfl T.m_SkewError (pa_cons (pv 0) (pa_cons pe_str pa_nil))))
      (pss_cons (ps_xf1 K rfl (pv 0) (pv 1) rfl)
      (pss_one (ps_xf2 K rfl (pv 0) (pv 2) rfl)))), ?_⟩
    refine ⟨_, rfl, a, _, none, [.str _], rfl, Nat.le_of_ble_eq_true rfl, ha, T.mk_Broken.cls, ?_⟩
    refine ⟨_, rfl, _, rfl, a, _, rfl, ha, T.kw_Broken, T.fl_Broken_dealing, fun dx hdx => ?_⟩
    have ne : a ≠ dx := fun z => by rw [z, hdx] at ha; cases ha
    exact ⟨_, rfl, _, rfl, a, T.c_Broken, dx, _, IsExcF a T.c_Broken (some dx), rfl, by rw [upd_ne ne, upd_same], fun h z => IsExcF.any z, by rw [upd_same], T.kw_Broken, T.fl_Broken_why, Nat.lt_of_lt_of_le (Nat.lt_succ_self _) (Nat.le_of_ble_eq_true rfl), k dx hdx⟩
theorem ok_letin (T : Tx K mg) : FnOk P w K mg base (CXW P w) 6 T.f_letin T.d_letin ["kept", "new"] (spLetIn T.c_Span T.c_Broken T.lp mg base) := by
  refine fun_okW T.F_letin sc_letin (fun vs H Q E h => ?_) (fun cdv A outer s H vs Q E hr h => ?_)
  · obtain ⟨l, v, us, rs, r, rfl, _⟩ := h
    rfl
  · obtain ⟨l, v, us, rs, r, rfl, hB, hl, hp, hv, hz, hT, q1, q2⟩ := h
    have hu := hu_of hr
    have ul := prs_len hp
    have z63 : (63 : Nat) ≤ sizeLine := by decide
    refine ⟨_, (pss_cons (ps_set (i := 2) sc_letin.nd rfl (Or.inl rfl) (pe_call ((ok_closing T).mono (by decide)) hr rfl T.m_closing T.F_closing.kp T.b_closing .nil pass0 (pa_cons (pv 0) (pa_cons (pv 1) pa_nil))))
      (pss_cons (ps_if (pt_cmpR op_notN (pv 2) pe_non (nomark _))
      (pss_one (ps_raiseI T.mk_Broken ((ok_Brokeninit T).mono (by decide)) hr rfl T.m_Broken T.b_Brokeninit (pa_cons (pe_fldK (K := K) rfl (pv 1) rfl) (pa_cons (pe_op op_catT (pe_tup (pa_cons pe_str pa_nil)) (pv 2)) pa_nil))))
      pss_nil)
      (pss_one (ps_ret (pe_op op_cat (pv 0) (pe_lst (pa_cons (pv 1) pa_nil))))))), ?_⟩
    refine ⟨_, rfl, _, rfl, l, v, us, rs, r, rfl, hB, hl, hp, hv, (by omega), hT, fun u H1 S k1 hT1 up res => ?_⟩
    rcases res with ⟨e, rfl⟩ | ⟨x, t, e, rfl, ht⟩
    · refine ⟨_, rfl, rfl, _, rfl, ite2 (fun e2 => by simp at e2) (fun _ => ?_)⟩
      refine ⟨_, rfl, _, rfl, (by show 1 ≤ sizeLine; decide), fun p1 hp1 => ?_⟩
      have s1 := Same.upd (o := HO.lst [v]) hp1
      refine ⟨l, p1, us, [v], rfl, rfl, s1 _ _ (k1.lst hl), upd_same, (by show us.length + 1 ≤ sizeLine; omega), fun p2 hp2 => ?_⟩
      have s2 := s1.trans (Same.upd (o := HO.lst (us ++ [v])) hp2)
      refine q1 _ S p2 (k1.trans (Kp.of s2)) (tb_same hT1 s2) up e (fun b xs eb z => ?_) upd_same
      rw [z] at eb
      rw [s1 _ _ (k1.lst eb)] at hp2
      cases hp2
    · refine ⟨_, rfl, rfl, _, rfl, ite2 (fun _ => ?_) (fun e2 => absurd (by rw [decide_eq_false (by intro z; cases z)]; rfl) e2)⟩
      obtain ⟨la, pa, tv, dx, ws, rfl, htv, _⟩ := hv.kp k1
      refine ⟨_, rfl, tv, _, dx, _, _, rfl, htv, T.cl_Span, T.na_Span_number, rfl, (by show 1 ≤ sizeLine; decide), fun p1 hp1 => ?_⟩
      have s1 := Same.upd (o := HO.tup [V.str "edges"]) hp1
      refine ⟨_, rfl, p1, t, [V.str "edges"], tri x, rfl, rfl, SqT.of upd_same, SqT.of (s1 _ _ ht), (by intro z; cases z), (by show 1 + 5 ≤ sizeLine; decide), (fun z => by cases z), fun _ p2 hp2 => ?_⟩
      have s2 := s1.trans (Same.upd (o := HO.tup (whyL x)) hp2)
      have hp2' : upd (upd H1 p1 (HO.tup [V.str "edges"])) p2 (HO.tup ([V.str "edges"] ++ tri x)) p2 = some (.tup (whyL x)) := upd_same
      replace s2 : Same H1 (upd (upd H1 p1 (HO.tup [V.str "edges"])) p2 (HO.tup ([V.str "edges"] ++ tri x))) := s2
      generalize upd (upd H1 p1 (HO.tup [V.str "edges"])) p2 (HO.tup ([V.str "edges"] ++ tri x)) = H2 at s2 hp2' ⊢
      refine ⟨(Nat.le_of_ble_eq_true rfl : 2 ≤ 1000), fun ea hea => ?_⟩
      refine ⟨ea, r.num, .ref p2, rfl, upd_same, fun ex hex => ⟨rfl, some ex, ?_, ?_⟩⟩
      · have n1 : ea ≠ ex := fun z => by rw [← z, upd_same] at hex; cases hex
        rw [upd_ne n1, upd_ne n1, upd_same]
      · have n1 : ea ≠ ex := fun z => by rw [← z, upd_same] at hex; cases hex
        have n4 : H2 ex = none := by rw [upd_ne n1.symm] at hex; exact hex
        have s3 : Same H2 (del (upd (upd (upd (upd H2 ea (excF ea T.c_Broken none)) ea (excF ea T.c_Broken (some ex))) ex (xdO ex [("dealing", .int r.num)])) ex (xdO ex (putF "why" (.ref p2) [("dealing", .int r.num)]))) ea) := fun b o eb => by
          have b1 : b ≠ ea := fun z => by rw [z, hea] at eb; cases eb
          have b2 : b ≠ ex := fun z => by rw [z, n4] at eb; cases eb
          rw [del_ne b1, upd_ne b2, upd_ne b2, upd_ne b1, upd_ne b1]
          exact eb
        refine q2 _ S x ex p2 (k1.trans (Kp.of (s2.trans s3))) (tb_same (tb_same hT1 s2) s3) up e ?_ (s3 _ _ hp2')
        rw [del_ne n1.symm, upd_same]
theorem ok_Lcome (T : Tx K mg) : FnOk P w K mg base CX0 7 T.f_Lcome T.d_Lcome ["_law_kept", "_law_new"] (spComeU T.c_Span T.lp mg base) := by
  refine T.F_Lcome.ok sc_Lcome (fun vs H Q E h => ?_) (fun cdv A outer s H vs Q E hr h => ?_)
  · obtain ⟨l, v, us, rs, r, rfl, _⟩ := h
    rfl
  · obtain ⟨l, v, us, rs, r, rfl, hB, hl, hp, hv, hz, hT, q1, q2⟩ := h
    have hu := hu_of hr
    refine ⟨_, (pss_cons (ps_set (i := 2) sc_Lcome.nd rfl (Or.inl rfl) pe_non)
      (pss_cons (ps_tryU (i := 2) ((ok_letin T).mono (by decide)) hr rfl T.m_letin T.F_letin.kp T.b_letin (pa_cons (pe_callTy call_list_of (by rfl) T.z_list boot_list (pa_cons (pv 0) pa_nil)) (pa_cons (pv 1) pa_nil)) T.ks_Broken rfl sc_Lcome.nd rfl (Or.inl rfl) rfl rfl rfl (fun ea => (pss_one (ps_set (i := 2) sc_Lcome.nd rfl (Or.inl rfl) pe_non))))
      (pss_one (ps_ret (pv 2))))), ?_⟩
    refine ⟨_, rfl, l, us, rfl, .inl (SqL.of hl), fun p0 hp0 => ?_⟩
    have s0 := Same.upd (o := HO.lst us) hp0
    refine ⟨_, rfl, p0, v, us, rs, r, rfl, hB, upd_same, prs_imp (fun _ _ x => SpanOf.same x s0) hp, hv.same s0, hz, tb_same hT s0, fun H' S p k1 hT1 up e fr hp1 => ?_, fun H' S x ex t k1 hT1 up e hx ht => ?_⟩
    · exact ⟨_, rfl, q1 _ S p ((Kp.of s0).trans k1) hT1 up e (fun b xs eb => fr b xs (s0 _ _ eb)) hp1⟩
    · exact ⟨T.c_Broken, rfl, T.su_Broken, _, rfl, q2 _ S x ((Kp.of s0).trans k1) hT1 up e⟩
theorem ok_Ledges (T : Tx K mg) : FnOk P w K mg base CX0 1 T.f_Ledges T.d_Ledges ["_law_one", "_law_other", "_law_moments"] spEdges := by
  refine T.F_Ledges.ok sc_Ledges (fun vs H Q E h => ?_) (fun cdv A outer s H vs Q E hr h => ?_)
  · obtain ⟨v1, v2, one, other, d, kvs, m1, m2, rfl, _⟩ := h
    rfl
  · obtain ⟨v1, v2, one, other, d, kvs, m1, m2, rfl, ⟨la1, pa1, t1, w1, rfl, ht1, hla1, hlk1, hpa1⟩, ⟨la2, pa2, t2, w2, rfl, ht2, hla2, hlk2, hpa2⟩, hd, e1, e2, hall, q⟩ := h
    have hu := hu_of hr
    refine ⟨_, (pss_cons (ps_for PassesOwn.never rfl (pi_list (pe_ix ix_tup (pv 0) pe_int (fun _ _ => rfl))) (pg_tup rfl (pgs_cons (pg_name (i := 3) sc_Ledges.nd rfl (Or.inl rfl)) (pgs_cons (pg_name (i := 4) sc_Ledges.nd rfl (Or.inl rfl)) (pgs_cons (pg_name (i := 5) sc_Ledges.nd rfl (Or.inl rfl)) (pgs_cons (pg_name (i := 6) sc_Ledges.nd rfl (Or.inl rfl)) pgs_nil)))))
      (pss_cons (ps_set (i := 7) sc_Ledges.nd rfl (Or.inl rfl) (pv 3))
      (pss_cons (ps_if (pt_val (pe_ix ix_tup (pv 0) pe_int (fun _ _ => rfl)))
      (pss_one (ps_set (i := 7) sc_Ledges.nd rfl (Or.inl rfl) (pe_dget hu (pv 2) (pe_ix ix_tup (pv 0) pe_int (fun _ _ => rfl)) (fun _ _ => rfl))))
      pss_nil)
      (pss_one (ps_for PassesOwn.never rfl (pi_list (pe_ix ix_tup (pv 1) pe_int (fun _ _ => rfl))) (pg_name (i := 8) sc_Ledges.nd rfl (Or.inl rfl))
      (pss_one (ps_if (PW.pt (pw_and (pt_chain op_le op_le (pv 4) (pv 8) (pv 5)) (pw_and (pt_cmpR op_notIn_seq (pv 8) (pv 6) rfl) (pw_and1 (pt_cmpR op_lt (pv 3) (pe_ix ix_tup (pv 1) pe_int (fun _ _ => rfl)) (nomark _))))))
      (pss_one (ps_if (pt_cmpR op_ge (pv 7) (pe_dget hu (pv 2) (pe_ix ix_tup (pv 1) pe_int (fun _ _ => rfl)) (fun _ _ => rfl)) (nomark _))
      (pss_one (ps_ret pe_bl))
      pss_nil))
      pss_nil)))))))
      (pss_one (ps_ret pe_bl))), ?_⟩
    refine ⟨_, rfl, t1, _, _, _, rfl, rfl, SqT.of ht1, atI_nat (j := 4) rfl, la1, rfl, ⟨_, SqL.of hla1⟩, for_list (K := K) (a := la1) (xs := w1)
      (fun i σ H2 => H2 = H ∧ ∃ (x3 x4 x5 x6 x7 x8 : Option V), σ = [some (.ref t1), some (.ref t2), some (.ref d), x3, x4, x5, x6, x7, x8])
      ⟨rfl, none, none, none, none, none, none, rfl⟩ (fun i σ H2 _ ⟨z, _⟩ => z ▸ SqL.of hla1) ?_ ?_⟩
    · rintro i y σ H2 hy ⟨z2, x3, x4, x5, x6, x7, x8, rfl⟩
      subst z2
      obtain ⟨l, el, tl, o, rfl, htl, ho⟩ := paired_get hlk1 hy
      have ml := List.mem_of_getElem? el
      refine ⟨tl, _, rfl, SqT.of htl, rfl, _, _, rfl, _, _, rfl, _, _, rfl, _, _, rfl, rfl, ?_⟩
      refine ⟨_, rfl, _, rfl, t1, _, _, _, rfl, rfl, SqT.of ht1, atI_nat (j := 1) rfl, one.wat, rfl, ite2 (fun ew => ?_) (fun ew => ?_)⟩
      · refine ⟨_, rfl, _, rfl, t1, _, _, _, rfl, rfl, SqT.of ht1, atI_nat (j := 0) rfl, d, _, rfl, dget_of hd e1, ?_⟩
        refine ⟨_, rfl, t2, _, _, _, rfl, rfl, SqT.of ht2, atI_nat (j := 5) rfl, pa2, rfl, ⟨_, SqL.of hpa2⟩, for_list (K := K) (a := pa2) (xs := other.puts.map V.int)
          (fun j σ H3 => H3 = H2 ∧ ∃ (x8 : Option V), σ = [some (.ref t1), some (.ref t2), some (.ref d), some (.int l.st), some (.int l.lo), some (.int l.hi), some (.ref o), some (.int m1), x8])
          ⟨rfl, _, rfl⟩ (fun j σ H3 _ ⟨z, _⟩ => z ▸ SqL.of hpa2) ?_ ?_⟩
        · rintro j y σ H3 hy2 ⟨z3, x8, rfl⟩
          subst z3
          obtain ⟨kk, rfl, ek⟩ := int_of_map hy2
          refine ⟨_, rfl, _, rfl, _, _, rfl, rfl, _, rfl, ite2 (fun e3 => ⟨_, rfl, _, _, rfl, rfl, _, rfl, ite2 (fun e4 => ?_) (fun _ => ⟨rfl, _, rfl⟩)⟩) (fun _ => ⟨_, rfl, iteF ⟨rfl, _, rfl⟩⟩)⟩
          refine ⟨_, rfl, _, rfl, o, _, rfl, .inr (SqT.of ho), rfl, flat_ints _, _, rfl, ite2 (fun e5 => ?_) (fun _ => ⟨rfl, _, rfl⟩)⟩
          refine ⟨_, rfl, _, rfl, t2, _, _, _, rfl, rfl, SqT.of ht2, atI_nat (j := 3) rfl, _, _, rfl, rfl, _, rfl, ite2 (fun e6 => ?_) (fun _ => ⟨rfl, _, rfl⟩)⟩
          have hsee : sees kk other.fin l = true := by
            unfold sees
            rw [show decide (l.st < other.fin) = true from e6, decide_eq_true (⟨of_decide_eq_true e3, of_decide_eq_true e4⟩ : l.lo ≤ kk ∧ kk ≤ l.hi)]
            replace e5 : (!inV (.int kk) (l.own.map V.int)) = true := e5
            rw [inV_ints] at e5
            exact e5
          have hlt := hall l ml kk ek hsee
          rw [(if_pos ew)] at hlt
          refine ⟨_, rfl, _, rfl, _, rfl, t2, _, _, _, rfl, rfl, SqT.of ht2, atI_nat (j := 0) rfl, d, _, rfl, dget_of hd e2, _, _, rfl, rfl, _, rfl, ite2 (fun e7 => ?_) (fun _ => ⟨rfl, _, rfl⟩)⟩
          exact absurd (of_decide_eq_true e7) (by omega)
        · rintro σ H3 ⟨z3, x8, rfl⟩
          exact ⟨z3, _, _, _, _, _, _, rfl⟩
      · skip
        refine ⟨_, rfl, t2, _, _, _, rfl, rfl, SqT.of ht2, atI_nat (j := 5) rfl, pa2, rfl, ⟨_, SqL.of hpa2⟩, for_list (K := K) (a := pa2) (xs := other.puts.map V.int)
          (fun j σ H3 => H3 = H2 ∧ ∃ (x8 : Option V), σ = [some (.ref t1), some (.ref t2), some (.ref d), some (.int l.st), some (.int l.lo), some (.int l.hi), some (.ref o), some (.int l.st), x8])
          ⟨rfl, _, rfl⟩ (fun j σ H3 _ ⟨z, _⟩ => z ▸ SqL.of hpa2) ?_ ?_⟩
        · rintro j y σ H3 hy2 ⟨z3, x8, rfl⟩
          subst z3
          obtain ⟨kk, rfl, ek⟩ := int_of_map hy2
          refine ⟨_, rfl, _, rfl, _, _, rfl, rfl, _, rfl, ite2 (fun e3 => ⟨_, rfl, _, _, rfl, rfl, _, rfl, ite2 (fun e4 => ?_) (fun _ => ⟨rfl, _, rfl⟩)⟩) (fun _ => ⟨_, rfl, iteF ⟨rfl, _, rfl⟩⟩)⟩
          refine ⟨_, rfl, _, rfl, o, _, rfl, .inr (SqT.of ho), rfl, flat_ints _, _, rfl, ite2 (fun e5 => ?_) (fun _ => ⟨rfl, _, rfl⟩)⟩
          refine ⟨_, rfl, _, rfl, t2, _, _, _, rfl, rfl, SqT.of ht2, atI_nat (j := 3) rfl, _, _, rfl, rfl, _, rfl, ite2 (fun e6 => ?_) (fun _ => ⟨rfl, _, rfl⟩)⟩
          have hsee : sees kk other.fin l = true := by
            unfold sees
            rw [show decide (l.st < other.fin) = true from e6, decide_eq_true (⟨of_decide_eq_true e3, of_decide_eq_true e4⟩ : l.lo ≤ kk ∧ kk ≤ l.hi)]
            replace e5 : (!inV (.int kk) (l.own.map V.int)) = true := e5
            rw [inV_ints] at e5
            exact e5
          have hlt := hall l ml kk ek hsee
          rw [(if_neg ew)] at hlt
          refine ⟨_, rfl, _, rfl, _, rfl, t2, _, _, _, rfl, rfl, SqT.of ht2, atI_nat (j := 0) rfl, d, _, rfl, dget_of hd e2, _, _, rfl, rfl, _, rfl, ite2 (fun e7 => ?_) (fun _ => ⟨rfl, _, rfl⟩)⟩
          exact absurd (of_decide_eq_true e7) (by omega)
        · rintro σ H3 ⟨z3, x8, rfl⟩
          exact ⟨z3, _, _, _, _, _, _, rfl⟩
    · rintro σ H2 ⟨z2, x3, x4, x5, x6, x7, x8, rfl⟩
      subst z2
      exact q
theorem ok_law (T : Tx K mg) : FnOk P w K mg base CX0 9 T.f_law T.d_law ["_law_script"] (spLaw K mg T.lp base) := by
  refine T.F_law.ok sc_law (fun vs H Q E h => ?_) (fun cdv A outer s H vs Q E hr h => ?_)
  · obtain ⟨a, ns, rfl, _⟩ := h
    rfl
  · obtain ⟨a, ns, rfl, hS, hlen, hb, hB, hT, k⟩ := h
    have hu := hu_of hr
    refine ⟨_, (pss_cons (ps_set (i := 1) sc_law.nd rfl (Or.inl rfl) (pe_call ((ok_Lrows T).mono (by decide)) hr rfl T.m_Lrows T.F_Lrows.kp T.b_Lrows .nil pass0 (pa_cons (pv 0) (pa_cons pe_int pa_nil))))
      (pss_cons (ps_set (i := 2) sc_law.nd rfl (Or.inl rfl) (pe_lst pa_nil))
      (pss_cons (ps_set (i := 3) sc_law.nd rfl (Or.inl rfl) (pe_lst pa_nil))
      (pss_cons (ps_for PassesOwn.never rfl (pi_list (pv 1)) (pg_name (i := 4) sc_law.nd rfl (Or.inl rfl))
      (pss_cons (ps_set (i := 5) sc_law.nd rfl (Or.inl rfl) (pe_call ((ok_Lcome T).mono (by decide)) hr rfl T.m_Lcome T.F_Lcome.kp T.b_Lcome .nil pass0 (pa_cons (pv 2) (pa_cons (pe_call ((ok_Lspan T).mono (by decide)) hr rfl T.m_Lspan T.F_Lspan.kp T.b_Lspan .nil pass0 (pa_cons (pv 4) pa_nil)) pa_nil))))
      (pss_one (ps_if (pt_cmpR op_notN (pv 5) pe_non (nomark _))
      (pss_cons (ps_set (i := 2) sc_law.nd rfl (Or.inl rfl) (pv 5))
      (pss_one (ps_expr (pe_bm PySem.F.plainAttrs_list PySem.F.slot_list_append PySem.F.type_list_append mt_appendA (pv 3) (pa_cons (pv 4) pa_nil)))))
      pss_nil))))
      (pss_cons (ps_if (pt_cmpR op_lt (pe_callB call_len (by rfl) T.z_len boot_len (pa_cons (pv 3) pa_nil)) (pe_callB (call_min2 rfl) (by rfl) T.z_min boot_min (pa_cons pe_int (pa_cons (pe_callB call_len (by rfl) T.z_len boot_len (pa_cons (pv 1) pa_nil)) pa_nil))) (nomark _))
      (pss_one (ps_ret pe_bl))
      pss_nil)
      (pss_cons (ps_set (i := 6) sc_law.nd rfl (Or.inl rfl) pe_dnewK)
      (pss_cons (ps_for PassesOwn.never rfl (pi_zip rfl T.z_zip (pa_cons (pv 2) (pa_cons (pv 3) pa_nil))) (pg_tup rfl (pgs_cons (pg_name (i := 7) sc_law.nd rfl (Or.inl rfl)) (pgs_cons (pg_name (i := 4) sc_law.nd rfl (Or.inl rfl)) pgs_nil)))
      (pss_cons (ps_set (i := 8) sc_law.nd rfl (Or.inl rfl) (pe_call ((ok_standof T).mono (by decide)) hr rfl T.m_standof T.F_standof.kp T.b_standof .nil pass0 (pa_cons (pv 7) (pa_cons (pv 2) pa_nil))))
      (pss_cons (ps_if (PW.pt (pw_or (pt_not (pt_val (pe_call ((ok_Lwhole T).mono (by decide)) hr rfl T.m_Lwhole T.F_Lwhole.kp T.b_Lwhole .nil pass0 (pa_cons (pv 8) pa_nil)))) (pw_or (pt_cmpR op_notIn_seq (pv 8) (pe_slice sl_tup (pv 4) (po_some pe_int) (po_some pe_int)) rfl) (pw_or1 (PW.pt (pw_and (pt_not (pt_val (pe_ix ix_tup (pv 4) pe_int (fun _ _ => rfl)))) (pw_and1 (pt_cmpR op_ne (pv 8) (pe_ix ix_tup (pv 4) pe_int (fun _ _ => rfl)) (nomark _)))))))))
      (pss_one (ps_ret pe_bl))
      pss_nil)
      (pss_one (ps_dput hu (pv 6) (pe_ix ix_tup (pv 4) pe_int (fun _ _ => rfl)) (pv 8) rfl)))))
      (pss_cons (ps_for PassesOwn.never rfl (pi_list (pv 3)) (pg_name (i := 9) sc_law.nd rfl (Or.inl rfl))
      (pss_one (ps_for PassesOwn.never rfl (pi_list (pv 3)) (pg_name (i := 10) sc_law.nd rfl (Or.inl rfl))
      (pss_one (ps_if (PW.pt (pw_and (pt_cmpR op_ne (pe_ix ix_tup (pv 9) pe_int (fun _ _ => rfl)) (pe_ix ix_tup (pv 10) pe_int (fun _ _ => rfl)) (nomark _)) (pw_and1 (pt_not (pt_val (pe_call ((ok_Ledges T).mono (by decide)) hr rfl T.m_Ledges T.F_Ledges.kp T.b_Ledges .nil pass0 (pa_cons (pv 9) (pa_cons (pv 10) (pa_cons (pv 6) pa_nil)))))))))
      (pss_one (ps_ret pe_bl))
      pss_nil)))))
      (pss_one (ps_ret pe_bl)))))))))), ?_⟩
    refine ⟨_, rfl, a, ns, 14, rfl, rfl, hS, hlen, fun R rs us H2 hR s2 hl2 hpr2 h14 hg hnd hfa hup => ?_⟩
    have hpr : Paired (RowOf H2) us rs := prs_imp (fun _ _ ⟨la, pa, _, _, x⟩ => ⟨la, pa, x⟩) hpr2
    have ulen := prs_len hpr
    have z63 : (64 : Nat) ≤ sizeLine := by decide
    have hT2 : Tb T.lp lposC qualC H2 := .inl (s2 _ _ hT)
    refine ⟨(by show 0 ≤ sizeLine; decide), fun D0 hD0 => ?_⟩
    have t1s := Same.upd (o := HO.lst []) hD0
    refine ⟨(by show 0 ≤ sizeLine; decide), fun L hL => ?_⟩
    have t2s := t1s.trans (Same.upd (o := HO.lst []) hL)
    have hDL : D0 ≠ L := fun z => by rw [← z, upd_same] at hL; cases hL
    have hL2 : H2 L = none := by
      rw [upd_ne hDL.symm] at hL
      exact hL
    refine ⟨_, rfl, R, rfl, ⟨_, SqL.of (t2s _ _ hl2)⟩, for_list (K := K) (a := R) (xs := us)
      (fun i σ H5 => ∃ (x4 x5 : Option V) (D : Addr) (ks ins : List V) (rin : List Row), σ = [some (.ref a), some (.ref R), some (.ref D), some (.ref L), x4, x5, none, none, none, none, none] ∧ Kp H2 H5 ∧ Tb T.lp lposC qualC H5 ∧ D ≠ L ∧ H5 D = some (.lst ks) ∧ H5 L = some (.lst ins) ∧ Paired (SpanA T.c_Span [L] H5) ks rin ∧ Paired (RowOf H2) ins rin ∧ rin.Sublist (rs.take i) ∧ Lets rin ∧ (0 < i → 0 < rin.length))
      ⟨none, none, D0, [], [], [], rfl, Kp.of t2s, tb_same hT2 t2s, hDL, (by rw [upd_ne hDL, upd_same]), upd_same, .nil, .nil, List.nil_sublist _, (fun j r e => by simp at e), fun h => absurd h (Nat.lt_irrefl _)⟩ (fun i σ H5 _ ⟨_, _, _, _, _, _, _, z, _⟩ => SqL.of (z.lst hl2)) ?_ ?_⟩
    · rintro i u1 σ H5 hu1 ⟨x4, x5, D, ks, ins, rin, rfl, k5, hT5, hDL, hD5, hL5, pk, pin, sub, hlets, hpos⟩
      obtain ⟨r1, er1, hq1⟩ := paired_get hpr hu1
      obtain ⟨la1, pa1, x1⟩ := hq1.kp k5
      have et := take_snoc er1
      have subA : (rin ++ [r1]).Sublist (rs.take (i + 1)) := by rw [et]; exact sub.append (List.Sublist.refl _)
      have lenA : (rin ++ [r1]).length ≤ 14 := Nat.le_trans (subA.trans (List.take_sublist _ _)).length_le h14
      have lenR : rin.length < 14 := by rw [List.length_append] at lenA; simp at lenA; omega
      have kl := prs_len pk
      have il := prs_len pin
      refine ⟨_, rfl, _, rfl, _, r1, la1, pa1, rfl, x1, fun y la' pa' H10 hla hpa s10 hsp => ?_⟩
      have nL : ∀ b, H5 b = none → b ≠ L := fun b e z => by rw [z, hL5] at e; cases e
      have hspA : SpanA T.c_Span [L] H10 y r1 := ⟨la', pa', (by simp; exact nL _ hla), (by simp; exact nL _ hpa), hsp⟩
      have pk10 := prs_imp (G := SpanA T.c_Span [L] H10) (fun _ _ x => SpanA.kp x (Kp.of s10)) pk
      have hD10 := s10 _ _ hD5
      have hL10 := s10 _ _ hL5
      refine ⟨D, y, ks, rin, r1, rfl, hB, hD10, prs_imp (fun _ _ x => x.of) pk10, hspA.of, (by omega), tb_same hT5 s10, fun H11 S11 p11 k11 hT11 up11 cl11 fr11 hp11 => ?_, fun H11 S11 x11 k11 hT11 up11 cl11 => ?_⟩
      · refine ⟨_, rfl, rfl, _, rfl, ite2 (fun _ => ?_) (fun e2 => absurd (by rw [decide_eq_false (by intro z; cases z)]; rfl) e2)⟩
        have hL11 := k11.lst hL10
        have npL : p11 ≠ L := fun z => fr11 L _ hL10 z.symm
        refine ⟨_, rfl, _, rfl, .inl ⟨rfl, _, SqL.of hL11⟩, _, rfl, L, ins, _, rfl, rfl, hL11, (by omega), fun H12 h12 k12 => ?_⟩
        have k211 := (k5.trans (Kp.of s10)).trans k11
        exact ⟨_, _, p11, _, _, rin ++ [r1], rfl, (fun b o n e => k12 b o (fun z => by rw [z, hL2] at e; cases e) (k211 b o n e)), tb_chg hT11 hL11 k12, npL, k12 _ _ npL hp11, h12, prs_imp (fun _ _ x => (SpanA.kp x k11).chg (D := L) (by simp) hL11 k12) (pk10.snoc hspA), pin.snoc hq1, subA, hlets.snoc up11 cl11, fun _ => by simp⟩
      · refine ⟨_, rfl, rfl, _, rfl, ite2 (fun e2 => by simp at e2) (fun _ => ?_)⟩
        refine ⟨_, _, D, ks, ins, rin, rfl, (k5.trans (Kp.of s10)).trans k11, hT11, hDL, k11.lst hD10, k11.lst hL10, prs_imp (fun _ _ x => SpanA.kp x k11) pk10, pin, (by rw [et]; exact sub.trans (List.sublist_append_left _ _)), hlets, fun _ => ?_⟩
        cases rin with
        | nil => rw [close_one up11] at cl11; cases cl11
        | cons r0 rr => exact Nat.succ_pos _
    · rintro σ H5 ⟨x4, x5, D, ks, ins, rin, rfl, k5, hT5, hDL, hD5, hL5, pk, pin, sub, hlets, hpos⟩
      have subR : rin.Sublist rs := sub.trans (List.take_sublist _ _)
      have memR : ∀ x ∈ rin, x ∈ rs := fun x hx => subR.subset hx
      have gR := hg.sub memR
      have faR : ∀ r ∈ rin, Fair r := fun r h => hfa r (memR r h)
      have upR := hup.sublist subR
      have lenR : rin.length ≤ 14 := Nat.le_trans subR.length_le h14
      have kl := prs_len pk
      have il := prs_len pin
      have hR5 := k5.lst hl2
      refine ⟨_, rfl, _, _, rfl, .inl ⟨_, SqL.of hL5, rfl⟩, _, rfl, _, _, rfl, .inl ⟨_, SqL.of hR5, rfl⟩, _, _, rfl, _, _, rfl, rfl, _, rfl, ite2 (fun e => ?_) (fun _ => ?_)⟩
      · exfalso
        have e' : (ins.length : Int) < if (us.length : Int) < 1 then (us.length : Int) else 1 := of_decide_eq_true e
        split at e'
        · omega
        · have := hpos (by omega)
          omega
      intro dm hdm
      have s6 := Same.upd (o := HO.dK []) hdm
      have nD : ∀ {H6 : Hp} {kvs : List (Key × V)}, Same H5 H6 → Same H5 (upd H6 dm (.dK kvs)) := fun {H6 kvs} s b o e => by
        rw [upd_ne fun z => by rw [z, hdm] at e; cases e]
        exact s b o e
      refine ⟨_, rfl, _, rfl, _, _, _, _, rfl, .list (SqL.of (s6 _ _ hD5)), .list (SqL.of (s6 _ _ hL5)), for_zip (xs := ks) (ys := ins) (fun i σ H6 => ∃ (x4 x7 x8 : Option V) (kvs : List (Key × V)), σ = [some (.ref a), some (.ref R), some (.ref D), some (.ref L), x4, x5, some (.ref dm), x7, x8, none, none] ∧ Same H5 H6 ∧ H6 dm = some (.dK kvs) ∧ kvs.length ≤ i ∧ ∀ j r, j < i → rin[j]? = some r → valV kvs (Sum.inl r.num : Key) = some (.int (momR rin r)))
        ⟨_, none, none, [], rfl, s6, upd_same, Nat.le_refl _, fun j r hj => absurd hj (Nat.not_lt_zero _)⟩ (fun i σ H6 ⟨_, _, _, _, _, z, _⟩ => ⟨gives_list (SqL.of (z _ _ hD5)), gives_list (SqL.of (z _ _ hL5))⟩) ?_ ?_⟩
      · rintro i x y σ H6 p hx hy ⟨x4, x7, x8, kvs, rfl, ss6, hd6, kvl, hv6⟩ hp
        obtain ⟨r1, er1, hsp⟩ := paired_get pk hx
        obtain ⟨r1', er1', hrw⟩ := paired_get pin hy
        rw [er1] at er1'
        cases er1'
        have m1 := List.mem_of_getElem? er1
        have i14 : i < 14 := by
          have := (List.getElem?_eq_some_iff.mp er1).1
          omega
        have sp := Same.upd (o := HO.tup [x, y]) hp
        refine ⟨p, _, rfl, SqT.of upd_same, rfl, _, _, rfl, _, _, rfl, rfl, ?_⟩
        have s57 := ss6.trans sp
        have hd7 := sp _ _ hd6
        generalize upd H6 p (HO.tup [x, y]) = H7 at sp s57 hd7 ⊢
        refine ⟨_, rfl, _, rfl, D, x, ks, rin, r1, rfl, s57 _ _ hD5, prs_imp (fun _ _ z => (SpanA.of z).same s57) pk, hsp.of.same s57, ?_⟩
        obtain ⟨la1, pa1, x1⟩ := (hrw.kp k5).same s57
        obtain ⟨t1, w1, rfl, ht1, _⟩ := id x1
        have hmf : r1.wat = false → momR rin r1 = r1.fin := fun ew => if_neg (by unfold earlyR; rw [ew]; simp)
        refine gname_go (nx_if (ifjoinS (b := false) (fun Q2 k2 => ?_) (fun H8 s8 => iteF ?_)))
        · refine ⟨_, rfl, _, rfl, true, rfl, iteF ?_⟩
          refine ⟨_, rfl, _, rfl, _, rfl, _, rfl, t1, _, rfl, SqT.of ht1, (fun z => by cases z.1), fun c hc => ?_⟩
          have sc := Same.upd (o := HO.tup [V.int r1.beg, V.int r1.fin]) hc
          refine ⟨c, [V.int r1.beg, .int r1.fin], rfl, .inr (SqT.of upd_same), rfl, flat_ints [r1.beg, r1.fin], _, rfl, ite2 (fun e => ?_) (fun _ => ?_)⟩
          · exfalso
            replace e : (!inV (.int (momR rin r1)) ([r1.beg, r1.fin].map V.int)) = true := e
            rw [inV_ints] at e
            have : [r1.beg, r1.fin].contains (momR rin r1) = true := by
              unfold momR
              split <;> simp
            rw [this] at e
            cases e
          · refine ⟨_, rfl, t1, _, _, _, rfl, rfl, SqT.of (sc _ _ ht1), atI_nat (j := 1) rfl, r1.wat, rfl, ite2 (fun ew => ?_) (fun ew => k2 _ sc)⟩
            refine ⟨_, rfl, _, rfl, t1, _, _, _, rfl, rfl, SqT.of (sc _ _ ht1), atI_nat (j := 3) rfl, rfl, _, rfl, ?_⟩
            have hw : r1.wat = false := by
              cases h : r1.wat with
              | false => rfl
              | true => rw [h] at ew; cases ew
            have e9 : (!decide (V.int (momR rin r1) = V.int r1.fin)) = false := by
              rw [hmf hw, decide_eq_true rfl]
              rfl
            show Q2 (!decide (V.int (momR rin r1) = V.int r1.fin)) _
            rw [e9]
            exact k2 _ sc
        · refine ⟨_, rfl, _, rfl, _, rfl, t1, _, _, _, rfl, rfl, SqT.of (s8 _ _ ht1), atI_nat (j := 0) rfl, dm, _, rfl, DPut.k (k := Sum.inl r1.num) (s8 _ _ hd7) (by omega), ?_⟩
          refine ⟨_, _, _, _, rfl, nD (s57.trans s8), upd_same, Nat.le_trans (length_putK _ _ _) (by omega), fun j r hj er => ?_⟩
          rw [valV_put]
          by_cases z : (Sum.inl r.num : Key) = Sum.inl r1.num
          · rw [if_pos z, gR.nums r (List.mem_of_getElem? er) r1 m1 (Sum.inl.inj z)]
            rfl
          · rw [if_neg z]
            rcases Nat.lt_succ_iff_lt_or_eq.mp hj with h | h
            · exact hv6 j r h er
            · subst h
              rw [er1] at er
              cases er
              exact absurd rfl z
      · rintro σ H6 ⟨x4, x7, x8, kvs, rfl, ss6, hd6, kvl, hv6⟩
        have hmom : ∀ r ∈ rin, valV kvs (Sum.inl r.num : Key) = some (.int (momR rin r)) := fun r hr => by
          obtain ⟨j, ej⟩ := mem_ix hr
          exact hv6 j r (by have := (List.getElem?_eq_some_iff.mp ej).1; omega) ej
        have hL6 := ss6 _ _ hL5
        refine ⟨_, rfl, L, rfl, ⟨_, SqL.of hL6⟩, for_list (K := K) (a := L) (xs := ins)
          (fun i σ H7 => H7 = H6 ∧ ∃ (x9 x10 : Option V), σ = [some (.ref a), some (.ref R), some (.ref D), some (.ref L), x4, x5, some (.ref dm), x7, x8, x9, x10])
          ⟨rfl, none, none, rfl⟩ (fun i σ H7 _ ⟨z, _⟩ => z ▸ SqL.of hL6) ?_ ?_⟩
        · rintro i y σ H7 hy ⟨z7, x9, x10, rfl⟩
          subst z7
          obtain ⟨one, eo, ho⟩ := paired_get pin hy
          have ro := (ho.kp k5).same ss6
          obtain ⟨lo1, po1, t1, w1, rfl, ht1, _⟩ := id ro
          refine ⟨_, rfl, L, rfl, ⟨_, SqL.of hL6⟩, for_list (K := K) (a := L) (xs := ins)
            (fun i σ H8 => H8 = H7 ∧ ∃ (x10 : Option V), σ = [some (.ref a), some (.ref R), some (.ref D), some (.ref L), x4, x5, some (.ref dm), x7, x8, some (.ref t1), x10])
            ⟨rfl, _, rfl⟩ (fun i σ H8 _ ⟨z, _⟩ => z ▸ SqL.of hL6) ?_ ?_⟩
          · rintro j y2 σ H8 hy2 ⟨z8, x10, rfl⟩
            subst z8
            obtain ⟨oth, eh, hh⟩ := paired_get pin hy2
            have rh := (hh.kp k5).same ss6
            obtain ⟨lo2, po2, t2, w2, rfl, ht2, _⟩ := id rh
            refine ⟨_, rfl, t1, _, _, _, rfl, rfl, SqT.of ht1, atI_nat (j := 0) rfl, _, rfl, t2, _, _, _, rfl, rfl, SqT.of ht2, atI_nat (j := 0) rfl, rfl, _, rfl, ite2 (fun e => ?_) (fun _ => iteF ⟨rfl, _, rfl⟩)⟩
            have ne : one.num ≠ oth.num := fun z => by
              rw [z, decide_eq_true rfl] at e
              cases e
            have m1 := List.mem_of_getElem? eo
            have m2 := List.mem_of_getElem? eh
            exact ⟨_, rfl, _, rfl, _, rfl, .ref t1, .ref t2, one, oth, dm, kvs, _, _, rfl, ro, rh, hd6, hmom one m1, hmom oth m2, fun l hl k hk hs => forward gR faR upR hlets m1 m2 ne hl hk hs, true, rfl, iteF ⟨rfl, _, rfl⟩⟩
          · rintro σ H8 ⟨z8, x10, rfl⟩
            exact ⟨z8, _, _, rfl⟩
        · rintro σ H7 ⟨z7, x9, x10, rfl⟩
          subst z7
          exact k _
end
theorem all_mk {l : PySem.W.OpenLaw} {w : World} {K : PySem.W.Frag} {h : Heap} {mg : Str → Option Value} {fa : Addr} (X : K.In h) (G : h.Ns mainGlobals mg) (hfa : mg "law" = some (.ref fa))
    {ts : List Addr} {lcc lpp : Addr} {lod : Option Addr} {lvs : Array Value} {lsl : Array (Option Value)}
    {ec0 : Addr} (e0 : PySem.W.nsIn K mainGlobals "SkewError" = some (some (.ref ec0)))
    {ec1 : Addr} (e1 : PySem.W.nsIn K mainGlobals "Broken" = some (some (.ref ec1)))
    {ec2 : Addr} (e2 : PySem.W.nsIn K mainGlobals "Span" = some (some (.ref ec2)))
    {f0 : Addr} {od0 an0 : Option Addr} {sl0 : Array (Option Value)} {oc0 kV0 dc0 pm0 cd0 ct0 : Value}
    (a0 : PySem.W.findIn K (.ref ec1) "__init__" = some (some (.ref f0))) (l0 : K.lookup f0 = some ⟨oc0, od0, .func (PySem.W.fnOf "__init__" "Broken.__init__" (defArgs s_Brokeninit) (defBody s_Brokeninit) (defScope s_Brokeninit) .none kV0 dc0 pm0 an0 cd0 ct0), sl0⟩) (c0 : PySem.W.codeIn K cd0 "Broken.__init__" = true) (k0 : PySem.W.keepIn K (.ref f0) = true)
    {f1 : Addr} {od1 an1 : Option Addr} {sl1 : Array (Option Value)} {oc1 kV1 dc1 pm1 cd1 ct1 : Value}
    (a1 : PySem.W.nsIn K mainGlobals "inside" = some (some (.ref f1))) (l1 : K.lookup f1 = some ⟨oc1, od1, .func (PySem.W.fnOf "inside" "inside" (defArgs s_inside) (defBody s_inside) (defScope s_inside) .none kV1 dc1 pm1 an1 cd1 ct1), sl1⟩) (c1 : PySem.W.codeIn K cd1 "inside" = true) (k1 : PySem.W.keepIn K (.ref f1) = true)
    {f2 : Addr} {od2 an2 : Option Addr} {sl2 : Array (Option Value)} {oc2 kV2 dc2 pm2 cd2 ct2 : Value}
    (a2 : PySem.W.findIn K (.ref ec2) "__init__" = some (some (.ref f2))) (l2 : K.lookup f2 = some ⟨oc2, od2, .func (PySem.W.fnOf "__init__" "Span.__init__" (defArgs s_Spaninit) (defBody s_Spaninit) (defScope s_Spaninit) .none kV2 dc2 pm2 an2 cd2 ct2), sl2⟩) (c2 : PySem.W.codeIn K cd2 "Span.__init__" = true) (k2 : PySem.W.keepIn K (.ref f2) = true)
    {f3 : Addr} {od3 an3 : Option Addr} {sl3 : Array (Option Value)} {oc3 kV3 dc3 pm3 cd3 ct3 : Value}
    (a3 : PySem.W.nsIn K mainGlobals "passes_by" = some (some (.ref f3))) (l3 : K.lookup f3 = some ⟨oc3, od3, .func (PySem.W.fnOf "passes_by" "passes_by" (defArgs s_passesby) (defBody s_passesby) (defScope s_passesby) .none kV3 dc3 pm3 an3 cd3 ct3), sl3⟩) (c3 : PySem.W.codeIn K cd3 "passes_by" = true) (k3 : PySem.W.keepIn K (.ref f3) = true)
    {f4 : Addr} {od4 an4 : Option Addr} {sl4 : Array (Option Value)} {oc4 kV4 dc4 pm4 cd4 ct4 : Value}
    (a4 : PySem.W.nsIn K mainGlobals "older" = some (some (.ref f4))) (l4 : K.lookup f4 = some ⟨oc4, od4, .func (PySem.W.fnOf "older" "older" (defArgs s_older) (defBody s_older) (defScope s_older) .none kV4 dc4 pm4 an4 cd4 ct4), sl4⟩) (c4 : PySem.W.codeIn K cd4 "older" = true) (k4 : PySem.W.keepIn K (.ref f4) = true)
    {f5 : Addr} {od5 an5 : Option Addr} {sl5 : Array (Option Value)} {oc5 kV5 dc5 pm5 cd5 ct5 : Value}
    (a5 : PySem.W.nsIn K mainGlobals "first_one" = some (some (.ref f5))) (l5 : K.lookup f5 = some ⟨oc5, od5, .func (PySem.W.fnOf "first_one" "first_one" (defArgs s_firstone) (defBody s_firstone) (defScope s_firstone) .none kV5 dc5 pm5 an5 cd5 ct5), sl5⟩) (c5 : PySem.W.codeIn K cd5 "first_one" = true) (k5 : PySem.W.keepIn K (.ref f5) = true)
    {f6 : Addr} {od6 an6 : Option Addr} {sl6 : Array (Option Value)} {oc6 kV6 dc6 pm6 cd6 ct6 : Value}
    (a6 : PySem.W.nsIn K mainGlobals "first_other" = some (some (.ref f6))) (l6 : K.lookup f6 = some ⟨oc6, od6, .func (PySem.W.fnOf "first_other" "first_other" (defArgs s_firstother) (defBody s_firstother) (defScope s_firstother) .none kV6 dc6 pm6 an6 cd6 ct6), sl6⟩) (c6 : PySem.W.codeIn K cd6 "first_other" = true) (k6 : PySem.W.keepIn K (.ref f6) = true)
    {f7 : Addr} {od7 an7 : Option Addr} {sl7 : Array (Option Value)} {oc7 kV7 dc7 pm7 ct7 : Value}
    (a7 : PySem.W.nsIn K mainGlobals "closing" = some (some (.ref f7))) (l7 : K.lookup f7 = some ⟨oc7, od7, .func (PySem.W.fnOf "closing" "closing" (defArgs s_closing) (defBody s_closing) (defScope s_closing) .none kV7 dc7 pm7 an7 (.ref lcc) ct7), sl7⟩) (c7 : PySem.W.codeIn K (.ref lcc) "closing" = true) (k7 : PySem.W.keepIn K (.ref f7) = true)
    {f8 : Addr} {od8 an8 : Option Addr} {sl8 : Array (Option Value)} {oc8 kV8 dc8 pm8 cd8 ct8 : Value}
    (a8 : PySem.W.nsIn K mainGlobals "let_in" = some (some (.ref f8))) (l8 : K.lookup f8 = some ⟨oc8, od8, .func (PySem.W.fnOf "let_in" "let_in" (defArgs s_letin) (defBody s_letin) (defScope s_letin) .none kV8 dc8 pm8 an8 cd8 ct8), sl8⟩) (c8 : PySem.W.codeIn K cd8 "let_in" = true) (k8 : PySem.W.keepIn K (.ref f8) = true)
    {f9 : Addr} {od9 an9 : Option Addr} {sl9 : Array (Option Value)} {oc9 kV9 dc9 pm9 cd9 ct9 : Value}
    (a9 : PySem.W.nsIn K mainGlobals "early" = some (some (.ref f9))) (l9 : K.lookup f9 = some ⟨oc9, od9, .func (PySem.W.fnOf "early" "early" (defArgs s_early) (defBody s_early) (defScope s_early) .none kV9 dc9 pm9 an9 cd9 ct9), sl9⟩) (c9 : PySem.W.codeIn K cd9 "early" = true) (k9 : PySem.W.keepIn K (.ref f9) = true)
    {f10 : Addr} {od10 an10 : Option Addr} {sl10 : Array (Option Value)} {oc10 kV10 dc10 pm10 cd10 ct10 : Value}
    (a10 : PySem.W.nsIn K mainGlobals "stand_of" = some (some (.ref f10))) (l10 : K.lookup f10 = some ⟨oc10, od10, .func (PySem.W.fnOf "stand_of" "stand_of" (defArgs s_standof) (defBody s_standof) (defScope s_standof) .none kV10 dc10 pm10 an10 cd10 ct10), sl10⟩) (c10 : PySem.W.codeIn K cd10 "stand_of" = true) (k10 : PySem.W.keepIn K (.ref f10) = true)
    {f11 : Addr} {od11 an11 : Option Addr} {sl11 : Array (Option Value)} {oc11 kV11 dc11 pm11 cd11 ct11 : Value}
    (a11 : PySem.W.nsIn K mainGlobals "_law_cell" = some (some (.ref f11))) (l11 : K.lookup f11 = some ⟨oc11, od11, .func (PySem.W.fnOf "_law_cell" "_law_cell" (defArgs s_Lcell) (defBody s_Lcell) (defScope s_Lcell) .none kV11 dc11 pm11 an11 cd11 ct11), sl11⟩) (c11 : PySem.W.codeIn K cd11 "_law_cell" = true) (k11 : PySem.W.keepIn K (.ref f11) = true)
    {f12 : Addr} {od12 an12 : Option Addr} {sl12 : Array (Option Value)} {oc12 kV12 dc12 pm12 cd12 ct12 : Value}
    (a12 : PySem.W.nsIn K mainGlobals "_law_stream" = some (some (.ref f12))) (l12 : K.lookup f12 = some ⟨oc12, od12, .func (PySem.W.fnOf "_law_stream" "_law_stream" (defArgs s_Lstream) (defBody s_Lstream) (defScope s_Lstream) .none kV12 dc12 pm12 an12 cd12 ct12), sl12⟩) (c12 : PySem.W.codeIn K cd12 "_law_stream" = true) (k12 : PySem.W.keepIn K (.ref f12) = true)
    {f13 : Addr} {od13 an13 : Option Addr} {sl13 : Array (Option Value)} {oc13 kV13 dc13 pm13 cd13 ct13 : Value}
    (a13 : PySem.W.nsIn K mainGlobals "_law_looks" = some (some (.ref f13))) (l13 : K.lookup f13 = some ⟨oc13, od13, .func (PySem.W.fnOf "_law_looks" "_law_looks" (defArgs s_Llooks) (defBody s_Llooks) (defScope s_Llooks) .none kV13 dc13 pm13 an13 cd13 ct13), sl13⟩) (c13 : PySem.W.codeIn K cd13 "_law_looks" = true) (k13 : PySem.W.keepIn K (.ref f13) = true)
    {f14 : Addr} {od14 an14 : Option Addr} {sl14 : Array (Option Value)} {oc14 kV14 dc14 pm14 cd14 ct14 : Value}
    (a14 : PySem.W.nsIn K mainGlobals "_law_rows" = some (some (.ref f14))) (l14 : K.lookup f14 = some ⟨oc14, od14, .func (PySem.W.fnOf "_law_rows" "_law_rows" (defArgs s_Lrows) (defBody s_Lrows) (defScope s_Lrows) .none kV14 dc14 pm14 an14 cd14 ct14), sl14⟩) (c14 : PySem.W.codeIn K cd14 "_law_rows" = true) (k14 : PySem.W.keepIn K (.ref f14) = true)
    {f15 : Addr} {od15 an15 : Option Addr} {sl15 : Array (Option Value)} {oc15 kV15 dc15 pm15 cd15 ct15 : Value}
    (a15 : PySem.W.nsIn K mainGlobals "_law_span" = some (some (.ref f15))) (l15 : K.lookup f15 = some ⟨oc15, od15, .func (PySem.W.fnOf "_law_span" "_law_span" (defArgs s_Lspan) (defBody s_Lspan) (defScope s_Lspan) .none kV15 dc15 pm15 an15 cd15 ct15), sl15⟩) (c15 : PySem.W.codeIn K cd15 "_law_span" = true) (k15 : PySem.W.keepIn K (.ref f15) = true)
    {f16 : Addr} {od16 an16 : Option Addr} {sl16 : Array (Option Value)} {oc16 kV16 dc16 pm16 cd16 ct16 : Value}
    (a16 : PySem.W.nsIn K mainGlobals "_law_whole" = some (some (.ref f16))) (l16 : K.lookup f16 = some ⟨oc16, od16, .func (PySem.W.fnOf "_law_whole" "_law_whole" (defArgs s_Lwhole) (defBody s_Lwhole) (defScope s_Lwhole) .none kV16 dc16 pm16 an16 cd16 ct16), sl16⟩) (c16 : PySem.W.codeIn K cd16 "_law_whole" = true) (k16 : PySem.W.keepIn K (.ref f16) = true)
    {f17 : Addr} {od17 an17 : Option Addr} {sl17 : Array (Option Value)} {oc17 kV17 dc17 pm17 cd17 ct17 : Value}
    (a17 : PySem.W.nsIn K mainGlobals "_law_come" = some (some (.ref f17))) (l17 : K.lookup f17 = some ⟨oc17, od17, .func (PySem.W.fnOf "_law_come" "_law_come" (defArgs s_Lcome) (defBody s_Lcome) (defScope s_Lcome) .none kV17 dc17 pm17 an17 cd17 ct17), sl17⟩) (c17 : PySem.W.codeIn K cd17 "_law_come" = true) (k17 : PySem.W.keepIn K (.ref f17) = true)
    {f18 : Addr} {od18 an18 : Option Addr} {sl18 : Array (Option Value)} {oc18 kV18 dc18 pm18 cd18 ct18 : Value}
    (a18 : PySem.W.nsIn K mainGlobals "_law_edges" = some (some (.ref f18))) (l18 : K.lookup f18 = some ⟨oc18, od18, .func (PySem.W.fnOf "_law_edges" "_law_edges" (defArgs s_Ledges) (defBody s_Ledges) (defScope s_Ledges) .none kV18 dc18 pm18 an18 cd18 ct18), sl18⟩) (c18 : PySem.W.codeIn K cd18 "_law_edges" = true) (k18 : PySem.W.keepIn K (.ref f18) = true)
    {f19 : Addr} {od19 an19 : Option Addr} {sl19 : Array (Option Value)} {oc19 kV19 dc19 pm19 cd19 ct19 : Value}
    (a19 : PySem.W.nsIn K mainGlobals "law" = some (some (.ref f19))) (l19 : K.lookup f19 = some ⟨oc19, od19, .func (PySem.W.fnOf "law" "law" (defArgs s_law) (defBody s_law) (defScope s_law) .none kV19 dc19 pm19 an19 cd19 ct19), sl19⟩) (c19 : PySem.W.codeIn K cd19 "law" = true) (k19 : PySem.W.keepIn K (.ref f19) = true)
    {ec1_nm ec1_qn : Str} {ec1_N : Addr} {ec1_bs ec1_sb : List Value} {ec1_hd ec1_ab : Bool} {ec1_sn : List Str} {ec1_co : Option Bool} {ec1_dd : Option Addr} {ec1_k0 ec1_k1 ec1_k2 ec1_k3 ec1_k5 : Option Value}
    (x0 : PySem.W.excIn K ec0 [.type "ValueError", .type "Exception", .type "BaseException", .type "object"] "ValueError.__new__" = true)
    (lkc : K.lookup lcc = some ⟨.type "code", lod, .fields lvs, lsl⟩)
    (lkv : (lvs[11]? : Option Value) = some (.ref lpp))
    (lkh : PySem.W.codeHdIn K lcc lpp = true)
    (lkn : K.lookup lpp = none)
    (lkm : lpp ∈ ts)
    (kxBroken_it : PySem.W.isClsIn K ec1 = true)
    (kxBroken_ga : PySem.W.findIn K (.ref ec1) "__getattribute__" = some (some (.builtin "BaseException.__getattribute__")))
    (kxBroken_gt : PySem.W.findIn K (.ref ec1) "__getattr__" = some none)
    (kxBroken_cl : PySem.W.findIn K (.ref ec1) "__class__" = some (some (.builtin "object.__class__")))
    (kxBroken_mB : PySem.W.mroIn K ec1 (.type "BaseException") = some true)
    (kxBroken_mO : PySem.W.mroIn K ec1 (.type "object") = some true)
    (mkBroken_c : K.lookup ec1 = some (excClassObj ec1_nm ec1_qn ec1 ec1_N ec1_bs (.ref ec0 :: mroVE) ec1_hd ec1_sn ec1_sb ec1_ab ec1_co ec1_dd ec1_k0 ec1_k1 ec1_k2 ec1_k3 ec1_k5 "ValueError.__new__"))
    (mkBroken_f : PySem.W.isFn K (.ref f0) = true)
    (mkBroken_k : PySem.W.keepIn K (.ref ec1) = true)
    (kwBroken_sa : PySem.W.findIn K (.ref ec1) "__setattr__" = some (some (.builtin "object.__setattr__")))
    (kwBroken_hd : PySem.W.hasDictIn K ec1 = true)
    (kwBroken_mO : PySem.W.mroIn K ec1 (.type "object") = some true)
    (mkSpan_m : PySem.W.makesIn K ec2 = true)
    (mkSpan_f : PySem.W.isFn K (.ref f2) = true)
    (mkSpan_k : PySem.W.keepIn K (.ref ec2) = true)
    (clSpan_pg : PySem.W.plainGet K ec2 Str.empty = true)
    (clSpan_hd : PySem.W.hasDictIn K ec2 = true)
    (clSpan_po : PySem.W.plainOver K ec2 = true)
    (clSpan_sa : PySem.W.findIn K (.ref ec2) "__setattr__" = some (some (.builtin "object.__setattr__")))
    (naSpannumber : PySem.W.findIn K (.ref ec2) "number" = some none)
    (naSpanwatched : PySem.W.findIn K (.ref ec2) "watched" = some none)
    (naSpanbegin : PySem.W.findIn K (.ref ec2) "begin" = some none)
    (naSpanend : PySem.W.findIn K (.ref ec2) "end" = some none)
    (naSpanlooks : PySem.W.findIn K (.ref ec2) "looks" = some none)
    (naSpanputs : PySem.W.findIn K (.ref ec2) "puts" = some none)
    (flBrokendealing : PySem.W.findIn K (.ref ec1) "dealing" = some none)
    (flBrokenwhy : PySem.W.findIn K (.ref ec1) "why" = some none)
    (cbSkewError_sp : PySem.W.specialIn K (.ref ec0) "__getattribute__" = some (some (.builtin "type.__getattribute__")))
    (cbSkewError_rd : PySem.W.readsIn K ec0 (.type "type") = true)
    (cbSkewError_fd : PySem.W.findCls K (.ref ec0) (.type "type") "__init__" = some (.val (.builtin "ValueError.__init__")))
    (ki_SkewError : PySem.W.isClsIn K ec0 = true)
    (kt_SkewError : PySem.W.typeIn K (.ref ec0) = some (.type "type"))
    (ki_Broken : PySem.W.isClsIn K ec1 = true)
    (kt_Broken : PySem.W.typeIn K (.ref ec1) = some (.type "type"))
    (ks_SkewError_SkewError : PySem.W.subIn K (.ref ec0) (.ref ec0) = some true)
    (ks_SkewError_Broken : PySem.W.subIn K (.ref ec0) (.ref ec1) = some false)
    (ks_Broken_SkewError : PySem.W.subIn K (.ref ec1) (.ref ec0) = some true)
    (ks_Broken_Broken : PySem.W.subIn K (.ref ec1) (.ref ec1) = some true)
    (rsu_Broken : PySem.W.subIn K (.ref ec1) (.ref ec1) = some true)
    (ksBroken_ty : PySem.W.typeIn K (.ref ec1) = some (.type "type"))
    (ksBroken_it : PySem.W.isClsIn K ec1 = true)
    (ksBroken_mB : PySem.W.mroIn K ec1 (.type "BaseException") = some true)
    (kvBroken : PySem.W.subIn K (.ref ec1) (.type "ValueError") = some true)
    (z_bool : PySem.W.nsIn K mainGlobals "bool" = some none)
    (z_enumerate : PySem.W.nsIn K mainGlobals "enumerate" = some none)
    (z_int : PySem.W.nsIn K mainGlobals "int" = some none)
    (z_isinstance : PySem.W.nsIn K mainGlobals "isinstance" = some none)
    (z_len : PySem.W.nsIn K mainGlobals "len" = some none)
    (z_list : PySem.W.nsIn K mainGlobals "list" = some none)
    (z_max : PySem.W.nsIn K mainGlobals "max" = some none)
    (z_min : PySem.W.nsIn K mainGlobals "min" = some none)
    (z_range : PySem.W.nsIn K mainGlobals "range" = some none)
    (z_sorted : PySem.W.nsIn K mainGlobals "sorted" = some none)
    (z_zip : PySem.W.nsIn K mainGlobals "zip" = some none)
    : ∃ (fd : FuncData) (c0 P0 : Addr), (∀ (s : Shared) (v : Value), BindsTo s fd ⟨[v], []⟩ [("_law_script", v)]) ∧ P0 ∈ ts ∧ K.lookup P0 = none ∧ PySem.W.codeHdIn K c0 P0 = true ∧ ∀ base : Heap, K.In base → base.Ns mainGlobals mg → FnOk l.prog w K mg base CX0 9 fa fd ["_law_script"] (spLaw K mg P0 base) := by
  have e := hfa.symm.trans (PySem.W.mg_of X G a19)
  cases e
  let T : Tx K mg := {
    f_Brokeninit := f0
    d_Brokeninit := _
    F_Brokeninit := fun_mk (st := s_Brokeninit) l0 c0 k0
    b_Brokeninit := (fun_mk (st := s_Brokeninit) l0 c0 k0).binds (ps := ["self", "dealing", "why"]) fun _ _ _ _ _ _ us hl => match us, hl with | [_, _, _], _ => rfl
    f_inside := f1
    d_inside := _
    F_inside := fun_mk (st := s_inside) l1 c1 k1
    b_inside := (fun_mk (st := s_inside) l1 c1 k1).binds (ps := ["key", "low", "high"]) fun _ _ _ _ _ _ us hl => match us, hl with | [_, _, _], _ => rfl
    m_inside := PySem.W.mg_of X G a1
    f_Spaninit := f2
    d_Spaninit := _
    F_Spaninit := fun_mk (st := s_Spaninit) l2 c2 k2
    b_Spaninit := (fun_mk (st := s_Spaninit) l2 c2 k2).binds (ps := ["self", "number", "watched", "begin", "end", "looks", "puts"]) fun _ _ _ _ _ _ us hl => match us, hl with | [_, _, _, _, _, _, _], _ => rfl
    f_passesby := f3
    d_passesby := _
    F_passesby := fun_mk (st := s_passesby) l3 c3 k3
    b_passesby := (fun_mk (st := s_passesby) l3 c3 k3).binds (ps := ["look", "key", "end"]) fun _ _ _ _ _ _ us hl => match us, hl with | [_, _, _], _ => rfl
    m_passesby := PySem.W.mg_of X G a3
    f_older := f4
    d_older := _
    F_older := fun_mk (st := s_older) l4 c4 k4
    b_older := (fun_mk (st := s_older) l4 c4 k4).binds (ps := ["one", "other"]) fun _ _ _ _ _ _ us hl => match us, hl with | [_, _], _ => rfl
    m_older := PySem.W.mg_of X G a4
    f_firstone := f5
    d_firstone := _
    F_firstone := fun_mk (st := s_firstone) l5 c5 k5
    b_firstone := (fun_mk (st := s_firstone) l5 c5 k5).binds (ps := ["spans", "mid"]) fun _ _ _ _ _ _ us hl => match us, hl with | [_, _], _ => rfl
    m_firstone := PySem.W.mg_of X G a5
    f_firstother := f6
    d_firstother := _
    F_firstother := fun_mk (st := s_firstother) l6 c6 k6
    b_firstother := (fun_mk (st := s_firstother) l6 c6 k6).binds (ps := ["spans", "mid"]) fun _ _ _ _ _ _ us hl => match us, hl with | [_, _], _ => rfl
    m_firstother := PySem.W.mg_of X G a6
    f_closing := f7
    d_closing := _
    F_closing := fun_mk (st := s_closing) l7 c7 k7
    b_closing := (fun_mk (st := s_closing) l7 c7 k7).binds (ps := ["kept", "new"]) fun _ _ _ _ _ _ us hl => match us, hl with | [_, _], _ => rfl
    m_closing := PySem.W.mg_of X G a7
    f_letin := f8
    d_letin := _
    F_letin := fun_mk (st := s_letin) l8 c8 k8
    b_letin := (fun_mk (st := s_letin) l8 c8 k8).binds (ps := ["kept", "new"]) fun _ _ _ _ _ _ us hl => match us, hl with | [_, _], _ => rfl
    m_letin := PySem.W.mg_of X G a8
    f_early := f9
    d_early := _
    F_early := fun_mk (st := s_early) l9 c9 k9
    b_early := (fun_mk (st := s_early) l9 c9 k9).binds (ps := ["span", "kept"]) fun _ _ _ _ _ _ us hl => match us, hl with | [_, _], _ => rfl
    m_early := PySem.W.mg_of X G a9
    f_standof := f10
    d_standof := _
    F_standof := fun_mk (st := s_standof) l10 c10 k10
    b_standof := (fun_mk (st := s_standof) l10 c10 k10).binds (ps := ["span", "kept"]) fun _ _ _ _ _ _ us hl => match us, hl with | [_, _], _ => rfl
    m_standof := PySem.W.mg_of X G a10
    f_Lcell := f11
    d_Lcell := _
    F_Lcell := fun_mk (st := s_Lcell) l11 c11 k11
    b_Lcell := (fun_mk (st := s_Lcell) l11 c11 k11).binds (ps := ["_law_script", "_law_k"]) fun _ _ _ _ _ _ us hl => match us, hl with | [_, _], _ => rfl
    m_Lcell := PySem.W.mg_of X G a11
    f_Lstream := f12
    d_Lstream := _
    F_Lstream := fun_mk (st := s_Lstream) l12 c12 k12
    b_Lstream := (fun_mk (st := s_Lstream) l12 c12 k12).binds (ps := ["_law_cell_here", "_law_k"]) fun _ _ _ _ _ _ us hl => match us, hl with | [_, _], _ => rfl
    m_Lstream := PySem.W.mg_of X G a12
    f_Llooks := f13
    d_Llooks := _
    F_Llooks := fun_mk (st := s_Llooks) l13 c13 k13
    b_Llooks := (fun_mk (st := s_Llooks) l13 c13 k13).binds (ps := ["_law_xs", "_law_watched", "_law_begin", "_law_end", "_law_shift"]) fun _ _ _ _ _ _ us hl => match us, hl with | [_, _, _, _, _], _ => rfl
    m_Llooks := PySem.W.mg_of X G a13
    f_Lrows := f14
    d_Lrows := _
    F_Lrows := fun_mk (st := s_Lrows) l14 c14 k14
    b_Lrows := (fun_mk (st := s_Lrows) l14 c14 k14).binds (ps := ["_law_script", "_law_most"]) fun _ _ _ _ _ _ us hl => match us, hl with | [_, _], _ => rfl
    m_Lrows := PySem.W.mg_of X G a14
    f_Lspan := f15
    d_Lspan := _
    F_Lspan := fun_mk (st := s_Lspan) l15 c15 k15
    b_Lspan := (fun_mk (st := s_Lspan) l15 c15 k15).binds (ps := ["_law_row"]) fun _ _ _ _ _ _ us hl => match us, hl with | [_], _ => rfl
    m_Lspan := PySem.W.mg_of X G a15
    f_Lwhole := f16
    d_Lwhole := _
    F_Lwhole := fun_mk (st := s_Lwhole) l16 c16 k16
    b_Lwhole := (fun_mk (st := s_Lwhole) l16 c16 k16).binds (ps := ["_law_found"]) fun _ _ _ _ _ _ us hl => match us, hl with | [_], _ => rfl
    m_Lwhole := PySem.W.mg_of X G a16
    f_Lcome := f17
    d_Lcome := _
    F_Lcome := fun_mk (st := s_Lcome) l17 c17 k17
    b_Lcome := (fun_mk (st := s_Lcome) l17 c17 k17).binds (ps := ["_law_kept", "_law_new"]) fun _ _ _ _ _ _ us hl => match us, hl with | [_, _], _ => rfl
    m_Lcome := PySem.W.mg_of X G a17
    f_Ledges := f18
    d_Ledges := _
    F_Ledges := fun_mk (st := s_Ledges) l18 c18 k18
    b_Ledges := (fun_mk (st := s_Ledges) l18 c18 k18).binds (ps := ["_law_one", "_law_other", "_law_moments"]) fun _ _ _ _ _ _ us hl => match us, hl with | [_, _, _], _ => rfl
    m_Ledges := PySem.W.mg_of X G a18
    f_law := fa
    d_law := _
    F_law := fun_mk (st := s_law) l19 c19 k19
    b_law := (fun_mk (st := s_law) l19 c19 k19).binds (ps := ["_law_script"]) fun _ _ _ _ _ _ us hl => match us, hl with | [_], _ => rfl
    m_law := PySem.W.mg_of X G a19
    c_SkewError := ec0
    m_SkewError := PySem.W.mg_of X G e0
    c_Broken := ec1
    m_Broken := PySem.W.mg_of X G e1
    c_Span := ec2
    m_Span := PySem.W.mg_of X G e2
    x_SkewError := ⟨PySem.W.mg_of X G e0, x0⟩
    mk_Broken := ⟨excCl_mk mkBroken_c x0, a0, mkBroken_f, mkBroken_k⟩
    kw_Broken := ⟨kwBroken_sa, kwBroken_hd, kwBroken_mO, excCl_mk mkBroken_c x0⟩
    mk_Span := ⟨mkSpan_m, a2, mkSpan_f, mkSpan_k⟩
    cl_Span := ⟨clSpan_pg, clSpan_hd, clSpan_po, clSpan_sa⟩
    na_Span_number := naSpannumber
    na_Span_watched := naSpanwatched
    na_Span_begin := naSpanbegin
    na_Span_end := naSpanend
    na_Span_looks := naSpanlooks
    na_Span_puts := naSpanputs
    fl_Broken_dealing := flBrokendealing
    fl_Broken_why := flBrokenwhy
    cb_SkewError := ⟨cbSkewError_sp, cbSkewError_rd, cbSkewError_fd, by decide +kernel⟩
    kit_SkewError_SkewError := (KitP.mk ki_SkewError kt_SkewError ks_SkewError_SkewError ks_SkewError_SkewError).one
    kit_SkewError_Broken := (KitP.mk ki_Broken kt_Broken ks_SkewError_SkewError ks_SkewError_Broken).one
    kit_Broken_SkewError := (KitP.mk ki_SkewError kt_SkewError ks_Broken_Broken ks_Broken_SkewError).one
    kit_Broken_Broken := (KitP.mk ki_Broken kt_Broken ks_Broken_Broken ks_Broken_Broken).one
    su_Broken := rsu_Broken
    kx_Broken := ⟨kxBroken_it, kxBroken_ga, kxBroken_gt, kxBroken_cl, kxBroken_mB, kxBroken_mO⟩
    ks_Broken := ⟨PySem.W.mg_of X G e1, ksBroken_ty, ksBroken_it, ksBroken_mB⟩
    kv_Broken := kvBroken
    z_bool := PySem.W.mg_none_of X G z_bool
    z_enumerate := PySem.W.mg_none_of X G z_enumerate
    z_int := PySem.W.mg_none_of X G z_int
    z_isinstance := PySem.W.mg_none_of X G z_isinstance
    z_len := PySem.W.mg_none_of X G z_len
    z_list := PySem.W.mg_none_of X G z_list
    z_max := PySem.W.mg_none_of X G z_max
    z_min := PySem.W.mg_none_of X G z_min
    z_range := PySem.W.mg_none_of X G z_range
    z_sorted := PySem.W.mg_none_of X G z_sorted
    z_zip := PySem.W.mg_none_of X G z_zip
    lc := lcc
    lp := lpp
    lcd := rfl
    lch := lkh }
  exact ⟨PySem.W.fnOf "law" "law" (defArgs s_law) (defBody s_law) (defScope s_law) .none kV19 dc19 pm19 an19 cd19 ct19, lcc, lpp, fun s v => .of_eq rfl, lkm, lkn, lkh, fun base _ _ => ok_law T⟩
theorem walk {l : PySem.W.OpenLaw} {q : Program} {loose : List Str} {XP : (Str → Option Value) → Heap → Prop} {YP : World → Heap → Prop} {d : DefRec} {K : Params → PySem.W.Frag} {ts : List Addr} (hn : l.most = some 63) (hdf : d.params.defaults = [])
    (hY : ∀ (w : World) (h : Heap), YP w h → (K w.params).In h ∧ ∀ P ∈ ts, h.get? P = some (PySem.W.tabObj #[]))
    (F : ∀ (w : World) (mg : Str → Option Value) (fa : Addr) (h : Heap), (K w.params).In h → h.Ns mainGlobals mg → mg d.name = some (.ref fa) →
      ∃ (fd : FuncData) (c0 P0 : Addr), (∀ (s : Shared) (u : Value), BindsTo s fd ⟨[u], []⟩ [("_law_script", u)]) ∧ P0 ∈ ts ∧ (K w.params).lookup P0 = none ∧ PySem.W.codeHdIn (K w.params) c0 P0 = true ∧ ∀ base : Heap, (K w.params).In base → base.Ns mainGlobals mg → FnOk l.prog w (K w.params) mg base CX0 9 fa fd ["_law_script"] (spLaw (K w.params) mg P0 base)) :
    PySem.W.WalkO q loose XP YP l.row.toRowW d [] (fun f vs => PySem.call f vs) :=
  My.walk_ofT (n := 63) (k := 9) (x := "_law_script") (CX := fun _ => CX0) (sp := fun w mg P0 base => spLaw (K w.params) mg P0 base) hn (by decide) hdf ⟨rfl, by decide, by decide⟩ hY F (fun _ _ _ _ _ a ns hl hb h1 h2 hS => ⟨a, ns, rfl, hS, hl, hb, h1, h2, fun _ => rfl⟩) fun _ _ _ _ _ z => z
end Lw
open PySem PySem.W PyProof.Rows
set_option maxRecDepth 100000 in
set_option maxHeartbeats 0 in
theorem PySem.Challenge.cw_skewhouse_k37_whole_moments_go_forward_holds : PySem.Challenge.rw_skewhouse_k37_whole_moments_go_forward.Holds := by
  w_on; o_law; k_head; (case hw => w_witness2)
  k_fill
  refine Lw.walk (l := PySem.Challenge.rw_skewhouse_k37_whole_moments_go_forward) rfl rfl (fun w h Y => ⟨PySem.W.km_in_of Y, PySem.W.km_tabs_of Y⟩) ?F
  case F =>
    intro w mg fa h KX G hmg
    refine' Lw.all_mk KX G hmg ?e0 ?e1 ?e2 ?a0 ?l0 ?c0 ?k0 ?a1 ?l1 ?c1 ?k1 ?a2 ?l2 ?c2 ?k2 ?a3 ?l3 ?c3 ?k3 ?a4 ?l4 ?c4 ?k4 ?a5 ?l5 ?c5 ?k5 ?a6 ?l6 ?c6 ?k6 ?a7 ?l7 ?c7 ?k7 ?a8 ?l8 ?c8 ?k8 ?a9 ?l9 ?c9 ?k9 ?a10 ?l10 ?c10 ?k10 ?a11 ?l11 ?c11 ?k11 ?a12 ?l12 ?c12 ?k12 ?a13 ?l13 ?c13 ?k13 ?a14 ?l14 ?c14 ?k14 ?a15 ?l15 ?c15 ?k15 ?a16 ?l16 ?c16 ?k16 ?a17 ?l17 ?c17 ?k17 ?a18 ?l18 ?c18 ?k18 ?a19 ?l19 ?c19 ?k19 ?x0 ?lkc ?lkv ?lkh ?lkn ?lkm ?kxBroken_it ?kxBroken_ga ?kxBroken_gt ?kxBroken_cl ?kxBroken_mB ?kxBroken_mO ?mkBroken_c ?mkBroken_f ?mkBroken_k ?kwBroken_sa ?kwBroken_hd ?kwBroken_mO ?mkSpan_m ?mkSpan_f ?mkSpan_k ?clSpan_pg ?clSpan_hd ?clSpan_po ?clSpan_sa ?naSpannumber ?naSpanwatched ?naSpanbegin ?naSpanend ?naSpanlooks ?naSpanputs ?flBrokendealing ?flBrokenwhy ?cbSkewError_sp ?cbSkewError_rd ?cbSkewError_fd ?ki_SkewError ?kt_SkewError ?ki_Broken ?kt_Broken ?ks_SkewError_SkewError ?ks_SkewError_Broken ?ks_Broken_SkewError ?ks_Broken_Broken ?rsu_Broken ?ksBroken_ty ?ksBroken_it ?ksBroken_mB ?kvBroken ?z0 ?z1 ?z2 ?z3 ?z4 ?z5 ?z6 ?z7 ?z8 ?z9 ?z10
    (case e0 => k_is)
    (case e1 => k_is)
    (case e2 => k_is)
    (case a0 => k_is); (case l0 => k_is); (case c0 => k_is); (case k0 => k_is)
    (case a1 => k_is); (case l1 => k_is); (case c1 => k_is); (case k1 => k_is)
    (case a2 => k_is); (case l2 => k_is); (case c2 => k_is); (case k2 => k_is)
    (case a3 => k_is); (case l3 => k_is); (case c3 => k_is); (case k3 => k_is)
    (case a4 => k_is); (case l4 => k_is); (case c4 => k_is); (case k4 => k_is)
    (case a5 => k_is); (case l5 => k_is); (case c5 => k_is); (case k5 => k_is)
    (case a6 => k_is); (case l6 => k_is); (case c6 => k_is); (case k6 => k_is)
    (case a7 => k_is); (case l7 => k_is); (case c7 => k_is); (case k7 => k_is)
    (case a8 => k_is); (case l8 => k_is); (case c8 => k_is); (case k8 => k_is)
    (case a9 => k_is); (case l9 => k_is); (case c9 => k_is); (case k9 => k_is)
    (case a10 => k_is); (case l10 => k_is); (case c10 => k_is); (case k10 => k_is)
    (case a11 => k_is); (case l11 => k_is); (case c11 => k_is); (case k11 => k_is)
    (case a12 => k_is); (case l12 => k_is); (case c12 => k_is); (case k12 => k_is)
    (case a13 => k_is); (case l13 => k_is); (case c13 => k_is); (case k13 => k_is)
    (case a14 => k_is); (case l14 => k_is); (case c14 => k_is); (case k14 => k_is)
    (case a15 => k_is); (case l15 => k_is); (case c15 => k_is); (case k15 => k_is)
    (case a16 => k_is); (case l16 => k_is); (case c16 => k_is); (case k16 => k_is)
    (case a17 => k_is); (case l17 => k_is); (case c17 => k_is); (case k17 => k_is)
    (case a18 => k_is); (case l18 => k_is); (case c18 => k_is); (case k18 => k_is)
    (case a19 => k_is); (case l19 => k_is); (case c19 => k_is); (case k19 => k_is)
    (case x0 => k_exc)
    (case lkc => k_is)
    (case lkv => with_unfolding_all rfl)
    (case lkh => kernel_rfl)
    (case lkn => kernel_rfl)
    (case lkm => first | decide | simp)
    (case kxBroken_it => k_is)
    (case kxBroken_ga => k_is)
    (case kxBroken_gt => k_is)
    (case kxBroken_cl => k_is)
    (case kxBroken_mB => k_is)
    (case kxBroken_mO => k_is)
    (case mkBroken_c => k_is)
    (case mkBroken_f => k_is)
    (case mkBroken_k => k_is)
    (case kwBroken_sa => k_is)
    (case kwBroken_hd => k_is)
    (case kwBroken_mO => k_is)
    (case mkSpan_m => k_is)
    (case mkSpan_f => k_is)
    (case mkSpan_k => k_is)
    (case clSpan_pg => k_is)
    (case clSpan_hd => k_is)
    (case clSpan_po => k_is)
    (case clSpan_sa => k_is)
    (case naSpannumber => k_is)
    (case naSpanwatched => k_is)
    (case naSpanbegin => k_is)
    (case naSpanend => k_is)
    (case naSpanlooks => k_is)
    (case naSpanputs => k_is)
    (case flBrokendealing => k_is)
    (case flBrokenwhy => k_is)
    (case cbSkewError_sp => k_is)
    (case cbSkewError_rd => k_is)
    (case cbSkewError_fd => k_is)
    (case ki_SkewError => k_is)
    (case kt_SkewError => k_is)
    (case ki_Broken => k_is)
    (case kt_Broken => k_is)
    (case ks_SkewError_SkewError => k_is)
    (case ks_SkewError_Broken => k_is)
    (case ks_Broken_SkewError => k_is)
    (case ks_Broken_Broken => k_is)
    (case rsu_Broken => k_is)
    (case ksBroken_ty => k_is)
    (case ksBroken_it => k_is)
    (case ksBroken_mB => k_is)
    (case kvBroken => k_is)
    (case z0 => k_is)
    (case z1 => k_is)
    (case z2 => k_is)
    (case z3 => k_is)
    (case z4 => k_is)
    (case z5 => k_is)
    (case z6 => k_is)
    (case z7 => k_is)
    (case z8 => k_is)
    (case z9 => k_is)
    (case z10 => k_is)

