import PyProof.Rows.All
import Wide.All
import OpenK.AllK
import Wide.FinOn
import Lean
import PyProof.EqAt
import PyProof.EqKinds
import PyProof.TupleCall
import PySem.Challenge.RW_skewhouse_k72_all_weavings
set_option Elab.async false
set_option linter.all false
set_option maxRecDepth 100000
/-! THE HAND LAYER, for ints, bools, texts, own classes, LISTS and tuples (index, slices, in, append, pop ..), calls, loops. Paste it whole ahead of your own text; what your proof does not reach may be deleted. -/
namespace L2
open PySem PySem.Spec PyProof.Rows

/-- a key: an int or a str -/
abbrev Key := Sum Int Str
def keyIs : Key → Value → Bool
  | .inl k, v => Value.isInt k v
  | .inr x, v => Value.isStrOf x v
def keyH (w : World) : Key → Int
  | .inl k => hashInt k
  | .inr x => hashStr w x
theorem keyIs_shape : ∀ {k : Key} {v : Value}, keyIs k v = true → (∃ i t, k = Sum.inl i ∧ v = Value.int i t) ∨ (∃ x t, k = Sum.inr x ∧ v = Value.str x t)
  | .inl i, v, h => by
    obtain ⟨t, e⟩ := Value.isInt_shape (k := i) (v := v) h
    exact .inl ⟨i, t, rfl, e⟩
  | .inr x, v, h => by
    obtain ⟨t, e⟩ := Value.isStrOf_shape (x := x) (v := v) h
    exact .inr ⟨x, t, rfl, e⟩
theorem key_ll (a b : Int) : decide ((Sum.inl a : Key) = Sum.inl b) = (a == b) := by
  by_cases e : a = b
  · subst e; simp
  · have h : ¬ (Sum.inl a : Key) = Sum.inl b := fun q => e (Sum.inl.inj q)
    rw [decide_eq_false h]
    exact (beq_eq_false_iff_ne.mpr e).symm
theorem key_rr (a b : Str) : decide ((Sum.inr a : Key) = Sum.inr b) = decide (a = b) := by
  by_cases e : a = b
  · subst e; simp
  · have h : ¬ (Sum.inr a : Key) = Sum.inr b := fun q => e (Sum.inr.inj q)
    rw [decide_eq_false h, decide_eq_false e]
theorem key_lr (a : Int) (b : Str) : decide ((Sum.inl a : Key) = Sum.inr b) = false := decide_eq_false (fun q => nomatch q)
theorem key_rl (a : Str) (b : Int) : decide ((Sum.inr a : Key) = Sum.inl b) = false := decide_eq_false (fun q => nomatch q)

def mixKind (prog : Program) (w : World) : PySem.KeyKind prog w Key where
  is := keyIs
  hash := keyH w
  inj := fun v a b ha hb => by
    rcases keyIs_shape ha with ⟨i, t, rfl, rfl⟩ | ⟨x, t, rfl, rfl⟩
    · rcases keyIs_shape hb with ⟨j, u, rfl, e⟩ | ⟨y, u, rfl, e⟩
      · injection e with e1 _; rw [e1]
      · exact nomatch e
    · rcases keyIs_shape hb with ⟨j, u, rfl, e⟩ | ⟨y, u, rfl, e⟩
      · exact nomatch e
      · injection e with e1 _; rw [e1]
  byValue := fun k v h => by
    rcases keyIs_shape h with ⟨i, t, rfl, rfl⟩ | ⟨x, t, rfl, rfl⟩ <;> rfl
  pyHash := fun hv h => by
    rcases keyIs_shape hv with ⟨i, t, rfl, rfl⟩ | ⟨x, t, rfl, rfl⟩
    · exact wpAny_pyHash_int h
    · exact wpAny_pyHash_str h
  eqBool := fun hu hv h => by
    rcases keyIs_shape hu with ⟨i, t, rfl, rfl⟩ | ⟨x, t, rfl, rfl⟩
    · rcases keyIs_shape hv with ⟨j, u, rfl, rfl⟩ | ⟨y, u, rfl, rfl⟩
      · rw [key_ll] at h; exact wpAny_eqBool_int h
      · rw [key_lr] at h; exact SeqAt.EqAt.int_str i t y u _ _ _ _ h
    · rcases keyIs_shape hv with ⟨j, u, rfl, rfl⟩ | ⟨y, u, rfl, rfl⟩
      · rw [key_rl] at h; exact SeqAt.EqAt.str_int x t j u _ _ _ _ h
      · rw [key_rr] at h; exact wpAny_eqBool_str h
  «strs» := fun k x t v h => by
    rcases keyIs_shape h with ⟨i, u, rfl, e⟩ | ⟨y, u, rfl, e⟩
    · exact nomatch e
    · injection e with e1 _
      subst e1
      cases v <;> rfl

end L2

namespace L2
open PySem PySem.Spec PyProof.Rows

/-- a value, without the heap -/
inductive V where
  | non | bl (b : Bool) | int (i : Int) | str (x : Str) | byt (b : Array UInt8) | flt (b : UInt64) | ref (a : Addr) | ty (n : String)
  deriving DecidableEq

def RelV : V → Value → Prop
  | .non, u => u = Value.none
  | .bl b, u => u = Value.bool b
  | .int i, u => ∃ t, u = Value.int i t
  | .str x, u => ∃ t, u = Value.str x t
  | .byt b, u => ∃ t, u = Value.bytes b t
  | .flt b, u => ∃ t, u = Value.float b t
  | .ref a, u => u = Value.ref a
  | .ty n, u => u = Value.type n

abbrev Vals : List V → List Value → Prop := Paired RelV
theorem Vals.length {xs : List V} {us : List Value} (r : Vals xs us) : xs.length = us.length := Paired.length r
theorem Vals.get : ∀ {xs : List V} {us : List Value} {i : Nat} {x : V}, Vals xs us → xs[i]? = some x → ∃ u, us[i]? = some u ∧ RelV x u
  | _, _, _, _, .nil, e => by simp at e
  | _, _, 0, _, .cons r _, e => by simp at e; subst e; exact ⟨_, rfl, r⟩
  | _, _, i + 1, x, .cons _ t, e => by
    obtain ⟨u, h1, h2⟩ := Vals.get (i := i) (x := x) t (by simpa using e)
    exact ⟨u, by simpa using h1, h2⟩
theorem Vals.set {x : V} {u : Value} (r : RelV x u) : ∀ {xs : List V} {us : List Value} (i : Nat), Vals xs us → Vals (xs.set i x) (us.set i u)
  | _, _, _, .nil => .nil
  | _, _, 0, .cons _ t => .cons r t
  | _, _, i + 1, .cons q t => .cons q (Vals.set r i t)
theorem Vals.append : ∀ {xs ys : List V} {us ws : List Value}, Vals xs us → Vals ys ws → Vals (xs ++ ys) (us ++ ws)
  | _, _, _, _, .nil, s => s
  | _, _, _, _, .cons r t, s => .cons r (Vals.append t s)
theorem Vals.take : ∀ {xs : List V} {us : List Value} (n : Nat), Vals xs us → Vals (xs.take n) (us.take n)
  | _, _, 0, _ => .nil
  | _, _, _ + 1, .nil => .nil
  | _, _, n + 1, .cons r t => .cons r (Vals.take n t)
theorem Vals.drop : ∀ {xs : List V} {us : List Value} (n : Nat), Vals xs us → Vals (xs.drop n) (us.drop n)
  | _, _, 0, r => r
  | _, _, _ + 1, .nil => .nil
  | _, _, n + 1, .cons _ t => Vals.drop n t
def RelO : Option V → Option Value → Prop
  | some v, some u => RelV v u
  | none, none => True
  | _, _ => False
def KV {κ : Type} : List (κ × V) → List (κ × Value) → Prop := Paired fun (p : κ × V) (q : κ × Value) => p.1 = q.1 ∧ RelV p.2 q.2

/-- a key of a dict (00_mix): an int or a text -/
def kV : Key → V
  | .inl i => .int i
  | .inr x => .str x

/-- what stands at a tracked address -/
inductive HO where
  /-- a list -/
  | lst (xs : List V)
  /-- a tuple (never changes) -/
  | tup (xs : List V)
  /-- a dict whose keys are ints and texts; one whose keys are tuples of ints and texts (the empty one is both) -/
  | dK (kvs : List (Key × V)) | dT (kvs : List (List Key × V))
  /-- a set of ints: its members, its size -/
  | set (S : Int → Bool) (n : Nat)
  /-- an instance of the class at C, its dict at dx, its attributes -/
  | ins (C dx : Addr) (fs : List (Str × V))
  /-- the dict of the instance at x -/
  | own (x : Addr)
  /-- the dict of an exception -/
  | xd (fs : List (Str × V))
  /-- a bound method, f of x -/
  | met (f x : Addr)
  /-- a range object lo, lo + 1, .. below hi -/
  | rng (lo hi : Int)
  /-- a thing that is known to the object (the script; a dict while a loop walks it): read, never written while it is so -/
  | frz (o : Obj) (u : HO)
  /-- a code object's table -/
  | tbl (ps : Array Value)
  /-- any other thing, by what is true of its one object (a def of one's own: SetO a S n := HO.ext fun h => ..) -/
  | ext (φ : Heap → Prop)

abbrev Hp := Addr → Option HO
def upd (H : Hp) (a : Addr) (o : HO) : Hp := fun b => if b = a then some o else H b
theorem upd_same {H : Hp} {a : Addr} {o : HO} : upd H a o a = some o := by unfold upd; rw [if_pos rfl]
theorem upd_ne {H : Hp} {a b : Addr} {o : HO} (h : b ≠ a) : upd H a o b = H b := by unfold upd; rw [if_neg h]
theorem ne_of_none {H : Hp} {a b : Addr} {o : HO} (h : H a = some o) (h' : H b = none) : a ≠ b := by
  intro e; subst e; rw [h] at h'; cases h'

section
variable (P : Program) (w : World)
def ObjOk (H : Hp) (h : Heap) (a : Addr) : HO → Prop
  | .lst xs => xs.length ≤ sizeLine ∧ ∃ (its : List Value) (n : Nat), Vals xs its ∧ h.get? a = some { cls := .type "list", data := .seq its.toArray n }
  | .tup xs => xs.length ≤ sizeLine ∧ ∃ its : List Value, Vals xs its ∧ IsTup h a its.toArray
  | .dK kvs => kvs.length ≤ sizeLine ∧ (a == sysModules) = false ∧ ∃ vs, KV kvs vs ∧ h.DictOf (mixKind P w) a vs
  | .dT kvs => kvs.length ≤ sizeLine ∧ (a == sysModules) = false ∧ ∃ xs : List (List Key × Addr × Value),
      Paired (fun (p : List Key × V) (q : List Key × Addr × Value) => p.1 = q.1 ∧ H q.2.1 = some (.tup (p.1.map kV)) ∧ RelV p.2 q.2.2) kvs xs ∧
      ∃ o es ep, h.get? a = some o ∧ o.ExactDict ∧ o.data = .dict es ep ∧ es.toList = xs.map (entryOfKey (tupleKind (mixKind P w))) ∧ (xs.map (·.1)).Nodup
  | .set S n => h.SetOf (intKind P w) a S n
  | .ins C dx fs => H dx = some (.own a) ∧ fs.length ≤ 1000 ∧ dx ≠ a ∧ h.get? a = some (PySem.W.instObj C dx) ∧
      ∃ mA, h.Ns1 dx mA ∧ (∀ f, RelO (fs.lookup f) (mA f)) ∧ PySem.Within mA (fs.map (·.1))
  | .own _ => ∃ o, h.get? a = some o
  | .xd fs => ∃ mA, h.Ns1 a mA ∧ ∀ f, RelO (fs.lookup f) (mA f)
  | .rng lo hi => ∃ t u v, h.get? a = some { cls := .type "range", data := .fields #[.int lo t, .int hi u, .int 1 v] }
  | .frz o u => h.get? a = some o ∧ ObjOk H h a u
  | .tbl ps => h.get? a = some { cls := .none, data := .fields ps }
  | .met f x => h.get? a = some (PySem.W.methodObj (.ref f) (.ref x))
  | .ext φ => φ h ∧ (∃ o, h.get? a = some o) ∧ ∀ h1 h2 : Heap, φ h1 → (∀ o, h1.get? a = some o → h2.get? a = some o) → φ h2
/-- the abstract heap is held -/
def HOk (H : Hp) (h : Heap) : Prop := ∀ a o, H a = some o → ObjOk P w H h a o
end

section
variable {P : Program} {w : World} {H H' : Hp} {h h' : Heap} {a : Addr} {o : HO}
theorem ObjOk.lt (x : ObjOk P w H h a o) : a < h.objs.size := by
  cases o with
  | lst xs => obtain ⟨_, _, _, _, e⟩ := x; exact Heap.lt_size e
  | tup xs => obtain ⟨_, _, _, p⟩ := x; exact p.lt
  | dK kvs => obtain ⟨_, _, _, _, o, _, _, e, _⟩ := x; exact Heap.lt_size e
  | dT kvs => obtain ⟨_, _, _, _, o, _, _, e, _⟩ := x; exact Heap.lt_size e
  | set S n => obtain ⟨o, _, _, _, e, _⟩ := x; exact Heap.lt_size e
  | ins C dx fs => obtain ⟨_, _, _, e, _⟩ := x; exact Heap.lt_size e
  | own y => obtain ⟨_, e⟩ := x; exact Heap.lt_size e
  | xd fs => obtain ⟨_, ⟨_, _, _, e, _⟩, _⟩ := x; exact Heap.lt_size e
  | rng lo hi => obtain ⟨_, _, _, e⟩ := x; exact Heap.lt_size e
  | frz ob u => obtain ⟨e, _⟩ := x; exact Heap.lt_size e
  | tbl ps => exact Heap.lt_size (show h.get? a = some _ from x)
  | met f y => exact Heap.lt_size (show h.get? a = some _ from x)
  | ext φ => obtain ⟨_, ⟨_, e⟩, _⟩ := x; exact Heap.lt_size e
theorem Paired.mapP {α β : Type} {F G : α → β → Prop} : ∀ {l₁ : List α} {l₂ : List β}, Paired F l₁ l₂ → (∀ a b, F a b → G a b) → Paired G l₁ l₂
  | _, _, .nil, _ => .nil
  | _, _, .cons r t, f => .cons (f _ _ r) (Paired.mapP t f)
/-- what an object's description leans on: its own object, its own dict, the tuples -/
theorem ObjOk.stay (x : ObjOk P w H h a o) (k : ∀ b u, (b = a ∨ H b = some (.own a)) → h.get? b = some u → h'.get? b = some u)
    (ho : ∀ b, H b = some (.own a) → H' b = some (.own a)) (ht : ∀ b xs, H b = some (.tup xs) → H' b = some (.tup xs)) : ObjOk P w H' h' a o := by
  induction o with
  | lst xs => obtain ⟨z, its, n, r, e⟩ := x; exact ⟨z, its, n, r, k _ _ (.inl rfl) e⟩
  | tup xs => obtain ⟨z, its, r, ob, e, c⟩ := x; exact ⟨z, its, r, ob, k _ _ (.inl rfl) e, c⟩
  | dK kvs => obtain ⟨z, y, vs, r, ob, es, ep, e, c⟩ := x; exact ⟨z, y, vs, r, ob, es, ep, k _ _ (.inl rfl) e, c⟩
  | dT kvs =>
    obtain ⟨z, y, xs, r, ob, es, ep, e, c⟩ := x
    exact ⟨z, y, xs, Paired.mapP r fun p q z => ⟨z.1, ht _ _ z.2.1, z.2.2⟩, ob, es, ep, k _ _ (.inl rfl) e, c⟩
  | set S n => obtain ⟨ob, es, ep, t, e, c⟩ := x; exact ⟨ob, es, ep, t, k _ _ (.inl rfl) e, c⟩
  | ins C dx fs =>
    obtain ⟨d, z, ne, e, mA, ⟨od, es, ep, e2, c⟩, r⟩ := x
    exact ⟨ho _ d, z, ne, k _ _ (.inl rfl) e, mA, ⟨od, es, ep, k _ _ (.inr d) e2, c⟩, r⟩
  | own y => obtain ⟨ob, e⟩ := x; exact ⟨ob, k _ _ (.inl rfl) e⟩
  | xd fs => obtain ⟨mA, ⟨od, es, ep, e, c⟩, r⟩ := x; exact ⟨mA, ⟨od, es, ep, k _ _ (.inl rfl) e, c⟩, r⟩
  | rng lo hi => obtain ⟨t, u, v, e⟩ := x; exact ⟨t, u, v, k _ _ (.inl rfl) e⟩
  | frz ob u ih => obtain ⟨e, q⟩ := x; exact ⟨k _ _ (.inl rfl) e, ih q⟩
  | tbl ps =>
    have e : h.get? a = some { cls := .none, data := .fields ps } := x
    show h'.get? a = some { cls := .none, data := .fields ps }
    exact k a _ (.inl rfl) e
  | met f y =>
    have e : h.get? a = some (PySem.W.methodObj (.ref f) (.ref y)) := x
    show h'.get? a = some (PySem.W.methodObj (.ref f) (.ref y))
    exact k a _ (.inl rfl) e
  | ext φ => obtain ⟨p, ⟨o, e⟩, st⟩ := x; exact ⟨st _ _ p fun o q => k _ _ (.inl rfl) q, ⟨o, k _ _ (.inl rfl) e⟩, st⟩
theorem HOk.lt (x : HOk P w H h) (e : H a = some o) : a < h.objs.size := (x a o e).lt
theorem HOk.fresh (x : HOk P w H h) (e : h.objs.size ≤ a) : H a = none := by
  cases q : H a with
  | none => rfl
  | some u => exact absurd (Nat.lt_of_lt_of_le (x.lt q) e) (Nat.lt_irrefl _)
/-- every object of the heap is kept -/
theorem HOk.kept (x : HOk P w H h) (k : ∀ b u, h.get? b = some u → h'.get? b = some u) : HOk P w H h' := fun a o e =>
  (x a o e).stay (fun b u _ q => k b u q) (fun _ q => q) fun _ _ q => q
/-- a new object is laid and tracked -/
theorem HOk.laid (x : HOk P w H h) (k : ∀ b u, h.get? b = some u → h'.get? b = some u) (hp : h.objs.size ≤ a) (new : ObjOk P w (upd H a o) h' a o) : HOk P w (upd H a o) h' := fun b u e => by
  have hn := x.fresh hp
  by_cases hb : b = a
  · subst hb; rw [upd_same] at e; cases e; exact new
  · rw [upd_ne hb] at e
    exact (x b u e).stay (fun c v _ q => k c v q) (fun c q => by rw [upd_ne (ne_of_none q hn)]; exact q) fun c xs q => by rw [upd_ne (ne_of_none q hn)]; exact q
end

/-- what may be read as u: it is u, or a known u -/
def Rd (H : Hp) (a : Addr) (u : HO) : Prop := H a = some u ∨ ∃ o, H a = some (.frz o u)
theorem Rd.of {H : Hp} {a : Addr} {u : HO} (h : H a = some u) : Rd H a u := .inl h
theorem Rd.ok {P : Program} {w : World} {H : Hp} {h : Heap} {a : Addr} {u : HO} (r : Rd H a u) (x : HOk P w H h) : ObjOk P w H h a u := by
  rcases r with r | ⟨o, r⟩
  · exact x a u r
  · obtain ⟨_, q⟩ := x a _ r
    exact q
/-- what may be written -/
def Mut : Option HO → Prop
  | some (.lst _) => True
  | some (.dK _) => True
  | some (.dT _) => True
  | some (.set _ _) => True
  | some (.ins _ _ _) => True
  | some (.ext _) => True
  | _ => False
section
variable {P : Program} {w : World} {H : Hp} {h h' : Heap} {x e : Addr} {o' : HO}
/-- the object at e is changed: x itself, or the dict of the instance x -/
theorem HOk.write (ok : HOk P w H h) (mu : Mut (H x)) (he : e = x ∨ H e = some (.own x)) (k : ∀ b u, b ≠ e → h.get? b = some u → h'.get? b = some u) (heo : ∃ u, h'.get? e = some u)
    (new : ObjOk P w (upd H x o') h' x o') : HOk P w (upd H x o') h' := fun b u q => by
  have nown : ∀ c y, H c = some (.own y) → c ≠ x := fun c y r z => by subst z; rw [r] at mu; exact mu
  have ntup : ∀ c xs, H c = some (.tup xs) → c ≠ x := fun c xs r z => by subst z; rw [r] at mu; exact mu
  by_cases hb : b = x
  · subst hb; rw [upd_same] at q; cases q; exact new
  · rw [upd_ne hb] at q
    by_cases hbe : b = e
    · have q' : H b = some (.own x) := by
        rcases he with z | z
        · exact absurd (hbe.trans z) hb
        · rw [hbe]; exact z
      rw [q] at q'; cases q'
      obtain ⟨v, hv⟩ := heo
      exact ⟨v, by rw [hbe]; exact hv⟩
    · refine (ok b u q).stay (fun c v hc r => k c v ?_ r) (fun c r => by rw [upd_ne (nown c b r)]; exact r) fun c xs r => by rw [upd_ne (ntup c xs r)]; exact r
      rcases hc with rfl | hc
      · exact hbe
      · rintro rfl
        rcases he with z | z
        · exact nown c b hc z
        · rw [hc] at z; cases z; exact hb rfl
end

/-! ### kept unless tracked; of the frames at fs (the callers') the slots may change (an exception that passes writes there); of the records at ex (iterators) nothing is said -/
structure Un (fs ex : List Addr) (H H' : Hp) (h h' : Heap) : Prop where
  keep : ∀ b o, h.get? b = some o → H b = none → b ∉ fs → b ∉ ex → h'.get? b = some o
  slot : ∀ b o, h.get? b = some o → H b = none → b ∈ fs → b ∉ ex → ∃ sl, h'.get? b = some { o with slots := sl }
  free : ∀ b o, h.get? b = some o → H b = none → b ∉ ex → H' b = none
  there : ∀ b o, h.get? b = some o → b ∉ ex → ∃ o', h'.get? b = some o'
  tups : ∀ b xs, H b = some (.tup xs) → H' b = some (.tup xs)
  frzs : ∀ b o u, H b = some (.frz o u) → H' b = some (.frz o u)
  tbls : ∀ b ps, H b = some (.tbl ps) → ∃ more, H' b = some (.tbl (ps ++ more))
section
variable {fs fs' ex ex' : List Addr} {H H1 H2 : Hp} {h h1 h2 h' : Heap} {a x e : Addr} {o : HO}
theorem Un.any (u : Un fs ex H H1 h h1) {b : Addr} {ob : Obj} (q : h.get? b = some ob) (n : H b = none) (hx : b ∉ ex) : ∃ sl, h1.get? b = some { ob with slots := sl } := by
  by_cases hb : b ∈ fs
  · exact u.slot b ob q n hb hx
  · exact ⟨ob.slots, u.keep b ob q n hb hx⟩
theorem Un.trans (a : Un fs ex H H1 h h1) (b : Un fs ex H1 H2 h1 h2) : Un fs ex H H2 h h2 where
  keep := fun c ob q n hc hx => b.keep c ob (a.keep c ob q n hc hx) (a.free c ob q n hx) hc hx
  slot := fun c ob q n hc hx => by
    obtain ⟨sl, e1⟩ := a.slot c ob q n hc hx
    obtain ⟨sl', e2⟩ := b.slot c _ e1 (a.free c ob q n hx) hc hx
    exact ⟨sl', e2⟩
  free := fun c ob q n hx => by
    obtain ⟨o', e1⟩ := a.there c ob q hx
    exact b.free c o' e1 (a.free c ob q n hx) hx
  there := fun c ob q hx => by
    obtain ⟨o', e1⟩ := a.there c ob q hx
    exact b.there c o' e1 hx
  tups := fun c xs q => b.tups c xs (a.tups c xs q)
  frzs := fun c ob xs q => b.frzs c ob xs (a.frzs c ob xs q)
  tbls := fun c ps q => by
    obtain ⟨m1, e1⟩ := a.tbls c ps q
    obtain ⟨m2, e2⟩ := b.tbls c _ e1
    exact ⟨m1 ++ m2, by rw [e2, Array.append_assoc]⟩
theorem Un.kept (k : ∀ b u, h.get? b = some u → h'.get? b = some u) : Un fs ex H H h h' :=
  ⟨fun b ob q _ _ _ => k b ob q, fun b ob q _ _ _ => ⟨ob.slots, k b ob q⟩, fun _ _ _ n _ => n, fun b ob q _ => ⟨ob, k b ob q⟩, fun _ _ q => q, fun _ _ _ q => q, fun _ ps q => ⟨#[], by rw [q]; simp⟩⟩
theorem Un.refl : Un fs ex H H h h := Un.kept fun _ _ q => q
theorem Un.laid (k : ∀ b u, h.get? b = some u → h'.get? b = some u) (hp : h.objs.size ≤ a) (hn : H a = none) : Un fs ex H (upd H a o) h h' where
  keep := fun b u q _ _ _ => k b u q
  slot := fun b u q _ _ _ => ⟨u.slots, k b u q⟩
  free := fun b u q n _ => by rw [upd_ne (Nat.ne_of_lt (Nat.lt_of_lt_of_le (Heap.lt_size q) hp))]; exact n
  there := fun b u q _ => ⟨u, k b u q⟩
  tups := fun b xs q => by rw [upd_ne (ne_of_none q hn)]; exact q
  frzs := fun b u xs q => by rw [upd_ne (ne_of_none q hn)]; exact q
  tbls := fun b ps q => ⟨#[], by rw [upd_ne (ne_of_none q hn), q]; simp⟩
theorem Un.write (mu : Mut (H x)) (he : e = x ∨ H e = some (.own x)) (k : ∀ b u, b ≠ e → h.get? b = some u → h'.get? b = some u) (heo : ∃ u, h'.get? e = some u) : Un fs ex H (upd H x o) h h' := by
  have hx : ∀ b, H b = none → b ≠ x := fun b n z => by subst z; rw [n] at mu; exact mu
  have hb : ∀ b, H b = none → b ≠ e := fun b n z => by
    subst z
    rcases he with r | r
    · exact hx b n r
    · rw [n] at r; cases r
  have hm : ∀ b u, H b = some u → ¬ Mut (some u) → b ≠ x := fun b u q nm z => by subst z; rw [q] at mu; exact nm mu
  refine ⟨fun b u q n _ _ => k b u (hb b n) q, fun b u q n _ _ => ⟨u.slots, k b u (hb b n) q⟩, fun b u q n _ => by rw [upd_ne (hx b n)]; exact n, fun b u q _ => ?_,
    fun b xs q => by rw [upd_ne (hm b _ q fun z => z)]; exact q, fun b u xs q => by rw [upd_ne (hm b _ q fun z => z)]; exact q, fun b ps q => ⟨#[], by rw [upd_ne (hm b _ q fun z => z), q]; simp⟩⟩
  by_cases hbe : b = e
  · subst hbe; exact heo
  · exact ⟨u, k b u hbe q⟩
theorem Un.mono (u : Un fs ex H H1 h h1) (hs : ∀ b ∈ fs, b ∈ fs') (hx : ∀ b ∈ ex, b ∈ ex') : Un fs' ex' H H1 h h1 :=
  ⟨fun b ob q n hb he => u.keep b ob q n (fun z => hb (hs b z)) fun z => he (hx b z), fun _ _ q n _ he => u.any q n fun z => he (hx _ z), fun b ob q n he => u.free b ob q n fun z => he (hx b z), fun b ob q he => u.there b ob q fun z => he (hx b z), u.tups, u.frzs, u.tbls⟩
end

/-! ### the heap without what is tracked -/
def trk (h : Heap) (H : Hp) : List Addr := (List.range h.objs.size).filter fun a => (H a).isSome
def hidT (h : Heap) (H : Hp) : Heap := PySem.W.hideAll h (trk h H)
theorem hidT_size (h : Heap) (H : Hp) : (hidT h H).objs.size = h.objs.size := PySem.W.hideAll_size _ _
theorem hidT_get {h : Heap} {H : Hp} {b : Addr} {o : Obj} (e : h.get? b = some o) (n : H b = none) : (hidT h H).get? b = some o :=
  PySem.W.hideAll_get _ e fun hm => by
    have q : (H b).isSome = true := (List.mem_filter.mp hm).2
    rw [n] at q; simp at q
theorem of_hidT {h : Heap} {H : Hp} {b : Addr} {o : Obj} (e : (hidT h H).get? b = some o) : h.get? b = some o ∧ H b = none := by
  have e' : h.get? b = some o := PySem.W.of_hideAll (trk h H) e
  refine ⟨e', ?_⟩
  cases q : H b with
  | none => rfl
  | some x =>
    have hm : b ∈ trk h H := List.mem_filter.mpr ⟨List.mem_range.mpr (Heap.lt_size e'), by simp [q]⟩
    have z : (hidT h H).get? b = none := PySem.W.hideAll_none (trk h H) hm
    rw [z] at e; cases e

/-! ### OpenK's ledger, filled with every new object but one -/
def allNews (g h : Heap) (L : Addr) : List (Addr × Obj) := (List.range h.objs.size).filterMap fun a => if a = L ∨ (g.get? a).isSome = true then none else (h.get? a).map fun o => (a, o)
def rest (g h : Heap) (L d : Addr) : List (Addr × Obj) := (allNews g h L).filter fun p => decide (p.1 ≠ d)
end L2

namespace L2
open PySem PySem.Spec PyProof.Rows

/-- the module's facts, over the base: the heap at the law's entry without what is tracked there -/
structure Mod (K : PySem.W.Frag) (mg : Str → Option Value) (base : Heap) : Prop where
  kin : K.In base
  glob : base.Ns mainGlobals mg
  blt : ∃ mb, base.Ns builtinsNs mb ∧ ∀ x : Str, x ≠ "__name__" → mb x = bootBuiltins x
  nolimit : base.NoLimit

/-- the context: a def's body (or a comprehension's block) running. base: fixed through the whole law; s₀, H₀: the entry; outer: the frames whose slots others may change (a def's callers); stack: all frames that run;
   ex: iterators that were made ahead of the entry and are walked here (a comprehension's); fn: the names whose cells were made at the entry (a def: all; a comprehension's block: its own); calm: not within an except suite; pn: pins that every state bears; xe: what is wanted of an exception that leaves the code -/
structure Cx where
  prog : Program
  w : World
  K : PySem.W.Frag
  mg : Str → Option Value
  base : Heap
  A : Around
  N : List Str
  s₀ : Shared
  H₀ : Hp
  env : Env
  outer : List Env
  stack : List Env
  ex : List Addr
  fn : Str → Bool
  calm : Bool
  pn : List (Addr × Obj)
  xe : Value → Shared → Prop
/-- the callers' frames -/
def frs (l : List Env) : List Addr := l.filterMap (·.frame)
abbrev Cx.fs (X : Cx) : List Addr := frs X.outer

def Vis (sc : Scope) (x : Str) : Prop := sc.names.lookup x = some .local ∨ sc.names.lookup x = some .cell ∨ sc.names.lookup x = some .free
def Loc (sc : Scope) (x : Str) : Prop := sc.names.lookup x = some .local ∨ sc.names.lookup x = some .cell
def Look (env : Env) (h : Heap) (m : Str → Option Value) (x : Str) (u : Value) : Prop :=
  (env.kindOf x = some .local ∧ m x = some u) ∨ ((env.kindOf x = some .cell ∨ env.kindOf x = some .free) ∧ ∃ c, env.cells.lookup x = some c ∧ h.IsCell c (some u))

structure Cx.Ok (X : Cx) : Prop where
  mod : Mod X.K X.mg X.base
  kind : X.env.scope.kind = .function
  glob : X.env.globals = mainGlobals
  blt : X.env.builtins = builtinsNs
  above : X.s₀.heap.objs.size ≤ X.env.locals
  inj : ∀ x y c, X.env.cells.lookup x = some c → X.env.cells.lookup y = some c → x = y
  has : ∀ x, (X.env.kindOf x = some .cell ∨ X.env.kindOf x = some .free) → ∃ c, X.env.cells.lookup x = some c
  cab : ∀ x c, X.fn x = true → X.env.cells.lookup x = some c → X.s₀.heap.objs.size ≤ c
  hd : X.calm = true → X.A.handled = none
  frames : X.A.frames = some X.stack
  stk : X.stack = X.outer ∨ (X.stack = X.env :: X.outer ∧ X.env.frame = some X.env.locals)
  exf : ∀ b ∈ X.ex, b ≠ X.env.locals ∧ ∀ x c, X.env.cells.lookup x = some c → c ≠ b
  bs : ∀ b o, X.base.get? b = some o → X.s₀.heap.get? b = some o ∧ X.H₀ b = none
  bsz : X.base.objs.size ≤ X.s₀.heap.objs.size
  noex : ∀ b o, X.base.get? b = some o → b ∉ X.ex
  exfs : ∀ b ∈ X.ex, b ∉ X.fs
  funs : X.s₀.heap.FunFrames X.base X.outer
  frf : ∀ b ∈ X.fs, X.H₀ b = none

structure Inv (X : Cx) (pins : List (Addr × Obj)) (σ : List (Option V)) (H : Hp) (s : Shared) : Prop where
  ok : X.Ok
  os : s.os = X.s₀.os
  bare : AllBare s.gens
  base : Un X.fs X.ex X.H₀ H X.s₀.heap s.heap
  loc : ∃ m, s.heap.Ns X.env.locals m ∧ ∀ (i : Nat) (x : Str) (v : V), X.N[i]? = some x → σ[i]? = some (some v) → Vis X.env.scope x → ∃ u, RelV v u ∧ Look X.env s.heap m x u
  cell : ∀ x c, X.env.cells.lookup x = some c → ∃ v, s.heap.IsCell c v
  free : H X.env.locals = none
  freeC : ∀ x c, X.env.cells.lookup x = some c → H c = none
  pin : ∀ p ∈ X.pn ++ pins, s.heap.get? p.1 = some p.2 ∧ H p.1 = none ∧ p.1 ≠ X.env.locals ∧ p.1 ∉ X.fs ∧ ∀ v, p.2.data ≠ .cell v
  hok : HOk X.prog X.w H s.heap
  len : σ.length = X.N.length

section
variable {X : Cx} {pins : List (Addr × Obj)} {σ : List (Option V)} {H H' : Hp} {s : Shared} {h' : Heap}

theorem Cx.Ok.nofr (ok : X.Ok) {b : Addr} {o : Obj} (e : X.base.get? b = some o) : b ∉ X.fs := fun hb => by
  have := (ok.funs.mem hb).1
  rw [e] at this; cases this
theorem Inv.bs (I : Inv X pins σ H s) : ∀ b o, X.base.get? b = some o → s.heap.get? b = some o ∧ H b = none := fun b o e =>
  ⟨I.base.keep b o (I.ok.bs b o e).1 (I.ok.bs b o e).2 (I.ok.nofr e) (I.ok.noex b o e), I.base.free b o (I.ok.bs b o e).1 (I.ok.bs b o e).2 (I.ok.noex b o e)⟩
theorem Inv.bk (I : Inv X pins σ H s) : ∀ b o, X.base.get? b = some o → s.heap.get? b = some o := fun b o e => (I.bs b o e).1
theorem Inv.mod (I : Inv X pins σ H s) : Mod X.K X.mg X.base := I.ok.mod
theorem Inv.kIn (I : Inv X pins σ H s) : X.K.In s.heap := I.ok.mod.kin.keeps I.bk
theorem Inv.nolimit (I : Inv X pins σ H s) : s.heap.NoLimit := I.ok.mod.nolimit.keeps I.bk
/-- the frame over the base: for OpenK's rules (K.In X.base is I.mod.kin) -/
theorem Inv.fr (I : Inv X pins σ H s) : ∃ m, Fr X.base X.env.locals s.heap m :=
  let ⟨m, hn, _⟩ := I.loc
  ⟨m, hn, I.bk, Nat.le_trans I.ok.bsz I.ok.above⟩
theorem Inv.lt (I : Inv X pins σ H s) : X.env.locals < s.heap.objs.size := let ⟨_, hn, _⟩ := I.loc; hn.lt
theorem Inv.sz (I : Inv X pins σ H s) : X.s₀.heap.objs.size ≤ s.heap.objs.size := Nat.le_trans I.ok.above (Nat.le_of_lt I.lt)
theorem Inv.nofs (I : Inv X pins σ H s) {a : Addr} (h : s.heap.objs.size ≤ a) : a ∉ X.fs := fun hb => by
  obtain ⟨_, o, ho, _⟩ := I.ok.funs.mem hb
  exact absurd (Nat.lt_of_lt_of_le (Heap.lt_size ho) (Nat.le_trans I.sz h)) (Nat.lt_irrefl _)
theorem Inv.cne (I : Inv X pins σ H s) : ∀ x c, X.env.cells.lookup x = some c → c ≠ X.env.locals := fun x c e z => by
  obtain ⟨v, o, ho, hd⟩ := I.cell x c e
  obtain ⟨m, ⟨o', es, ep, ho', hd', _⟩, _⟩ := I.loc
  rw [z, ho'] at ho; cases ho; rw [hd'] at hd; cases hd
theorem Inv.funs (I : Inv X pins σ H s) : s.heap.FunFrames X.base X.outer := by
  have all : ∀ (l : List Env), (∀ b ∈ frs l, b ∈ X.fs) → X.s₀.heap.FunFrames X.base l → s.heap.FunFrames X.base l := by
    intro l
    induction l with
    | nil => intro _ _; trivial
    | cons env r ih =>
      intro hs hl
      obtain ⟨hk, ⟨L, o, hf, hn, ho, hd⟩, hr⟩ := hl
      have hL : L ∈ X.fs := hs L (by unfold frs; rw [List.filterMap_cons, hf]; exact List.mem_cons_self)
      obtain ⟨sl, e⟩ := I.base.slot L o ho (I.ok.frf L hL) hL fun z => I.ok.exfs L z hL
      exact ⟨hk, ⟨L, _, hf, hn, e, hd⟩, ih (fun b hb => hs b (by unfold frs; rw [List.filterMap_cons, hf]; exact List.mem_cons_of_mem _ hb)) hr⟩
  exact all X.outer (fun _ hb => hb) I.ok.funs

/-- the frames that run, for a call -/
theorem Inv.stack (I : Inv X pins σ H s) : s.heap.FunFrames X.base X.stack := by
  rcases I.ok.stk with e | ⟨e, hf⟩
  · rw [e]; exact I.funs
  · rw [e]
    obtain ⟨m, hn, _⟩ := I.loc
    refine .cons (by rw [I.ok.kind]; decide) hf hn ?_ I.funs
    exact Heap.get?_none_of_le (Nat.le_trans I.ok.bsz I.ok.above)
theorem Inv.stkSub (I : Inv X pins σ H s) : ∀ b ∈ frs X.stack, b ∈ X.env.locals :: X.fs := fun b hb => by
  rcases I.ok.stk with e | ⟨e, hf⟩
  · rw [e] at hb; exact List.mem_cons_of_mem _ hb
  · rw [e] at hb
    unfold frs at hb
    rw [List.filterMap_cons, hf] at hb
    exact hb
theorem Inv.stkFree (I : Inv X pins σ H s) : ∀ b ∈ frs X.stack, H b = none := fun b hb => by
  rcases List.mem_cons.mp (I.stkSub b hb) with e | hb
  · rw [e]; exact I.free
  · obtain ⟨_, o, ho, _⟩ := I.ok.funs.mem hb
    exact I.base.free b o ho (I.ok.frf b hb) fun z => I.ok.exfs b z hb

/-- THE STEP: the untracked objects but the frame and the records at ch are kept (the callers' frames up to slots), the frame's map is kept, the new abstract heap is held -/
theorem Inv.step {g' : Array GenState} {t' : Nat} {d' : Drawn} {ch : List Addr} (I : Inv X pins σ H s)
    (hch : ∀ b ∈ ch, (b ∈ X.ex ∨ X.s₀.heap.objs.size ≤ b) ∧ b ≠ X.env.locals ∧ (∀ x c, X.env.cells.lookup x = some c → c ≠ b) ∧ ∀ p ∈ X.pn ++ pins, p.1 ≠ b)
    (keep : ∀ b o, b ≠ X.env.locals → b ∉ X.fs → b ∉ ch → s.heap.get? b = some o → H b = none → h'.get? b = some o)
    (slot : ∀ b o, b ≠ X.env.locals → b ∈ X.fs → b ∉ ch → s.heap.get? b = some o → H b = none → ∃ sl, h'.get? b = some { o with slots := sl }) (free : ∀ b o, b ∉ ch → s.heap.get? b = some o → H b = none → H' b = none)
    (there : ∀ b o, b ∉ ch → s.heap.get? b = some o → ∃ o', h'.get? b = some o')
    (tups : ∀ b xs, H b = some (.tup xs) → H' b = some (.tup xs)) (frzs : ∀ b o u, H b = some (.frz o u) → H' b = some (.frz o u)) (tbls : ∀ b ps, H b = some (.tbl ps) → ∃ more, H' b = some (.tbl (ps ++ more)))
    (ns : ∀ m, s.heap.Ns X.env.locals m → h'.Ns X.env.locals m) (hok : HOk X.prog X.w H' h') (hg : AllBare g') :
    Inv X pins σ H' { s with heap := h', gens := g', drawn := d', toks := t' } := by
  have neL : ∀ b o, X.s₀.heap.get? b = some o → b ≠ X.env.locals := fun b o e => Nat.ne_of_lt (Nat.lt_of_lt_of_le (Heap.lt_size e) I.ok.above)
  have neC : ∀ b o, X.s₀.heap.get? b = some o → b ∉ X.ex → b ∉ ch := fun b o e hx hb => by
    rcases (hch b hb).1 with z | z
    · exact hx z
    · exact absurd (Nat.lt_of_lt_of_le (Heap.lt_size e) z) (Nat.lt_irrefl _)
  have cellK : ∀ x c, X.env.cells.lookup x = some c → ∀ v, s.heap.IsCell c v → h'.IsCell c v := fun x c e v ⟨o, ho, hd⟩ => by
    have nch : c ∉ ch := fun z => (hch c z).2.2.1 x c e rfl
    by_cases hc : c ∈ X.fs
    · obtain ⟨sl, q⟩ := slot c o (I.cne x c e) hc nch ho (I.freeC x c e)
      exact ⟨_, q, hd⟩
    · exact ⟨o, keep c o (I.cne x c e) hc nch ho (I.freeC x c e), hd⟩
  refine ⟨I.ok, I.os, hg, ⟨fun b o e n hb hx => ?_, fun b o e n hb hx => ?_, fun b o e n hx => ?_, fun b o e hx => ?_, fun b xs e => tups b xs (I.base.tups b xs e), fun b o xs e => frzs b o xs (I.base.frzs b o xs e), fun b ps e => ?_⟩, ?_, fun x c e => ?_, ?_, fun x c e => ?_, fun p hp => ?_, hok, I.len⟩
  · exact keep b o (neL b o e) hb (neC b o e hx) (I.base.keep b o e n hb hx) (I.base.free b o e n hx)
  · obtain ⟨sl, e1⟩ := I.base.slot b o e n hb hx
    obtain ⟨sl', e2⟩ := slot b _ (neL b o e) hb (neC b o e hx) e1 (I.base.free b o e n hx)
    exact ⟨sl', e2⟩
  · obtain ⟨o', e1⟩ := I.base.there b o e hx
    exact free b o' (neC b o e hx) e1 (I.base.free b o e n hx)
  · obtain ⟨o', e1⟩ := I.base.there b o e hx
    exact there b o' (neC b o e hx) e1
  · obtain ⟨m1, e1⟩ := I.base.tbls b ps e
    obtain ⟨m2, e2⟩ := tbls b _ e1
    exact ⟨m1 ++ m2, by rw [e2, Array.append_assoc]⟩
  · obtain ⟨m, hn, hl⟩ := I.loc
    refine ⟨m, ns m hn, fun i x v e1 e2 e3 => ?_⟩
    obtain ⟨u, r, l⟩ := hl i x v e1 e2 e3
    refine ⟨u, r, ?_⟩
    rcases l with l | ⟨k, c, e, z⟩
    · exact .inl l
    · exact .inr ⟨k, c, e, cellK x c e _ z⟩
  · obtain ⟨v, z⟩ := I.cell x c e
    exact ⟨v, cellK x c e v z⟩
  · obtain ⟨m, ⟨o, _, _, ho, _⟩, _⟩ := I.loc
    exact free _ o (fun z => (hch _ z).2.1 rfl) ho I.free
  · obtain ⟨v, o, ho, hd⟩ := I.cell x c e
    exact free c o (fun z => (hch c z).2.2.1 x c e rfl) ho (I.freeC x c e)
  · obtain ⟨e, n, ne, nf, d⟩ := I.pin p hp
    have nch : p.1 ∉ ch := fun z => (hch p.1 z).2.2.2 p hp rfl
    exact ⟨keep p.1 p.2 ne nf nch e n, free p.1 p.2 nch e n, ne, nf, d⟩
/-- .. where the frame's own object is kept too -/
theorem Inv.un {t' : Nat} (I : Inv X pins σ H s) (u : Un X.fs [] H H' s.heap h') (hok : HOk X.prog X.w H' h') : Inv X pins σ H' { s with heap := h', toks := t' } := by
  obtain ⟨m, ⟨o, es, ep, ho, r⟩, _⟩ := id I.loc
  obtain ⟨sl, hL⟩ := u.any ho I.free (by simp)
  exact I.step (g' := s.gens) (d' := s.drawn) (ch := []) (fun _ z => nomatch z) (fun b o _ hb _ e n => u.keep b o e n hb (by simp)) (fun b o _ hb _ e n => u.slot b o e n hb (by simp)) (fun b o _ e n => u.free b o e n (by simp)) (fun b o _ e => u.there b o e (by simp)) u.tups u.frzs u.tbls (fun m' hm => by
    obtain ⟨o', es', ep', ho', r'⟩ := hm
    rw [ho] at ho'; cases ho'
    exact ⟨_, es', ep', hL, r'⟩) hok I.bare
/-- behind a call (or a comprehension's block): the slots of this frame may have changed too, the records at ch may have turned -/
theorem Inv.call {g' : Array GenState} {t' : Nat} {d' : Drawn} {ch : List Addr} (I : Inv X pins σ H s) (u : Un (frs X.stack) ch H H' s.heap h') (hok : HOk X.prog X.w H' h') (hg : AllBare g')
    (hch : ∀ b ∈ ch, (b ∈ X.ex ∨ X.s₀.heap.objs.size ≤ b) ∧ b ≠ X.env.locals ∧ (∀ x c, X.env.cells.lookup x = some c → c ≠ b) ∧ ∀ p ∈ X.pn ++ pins, p.1 ≠ b) :
    Inv X pins σ H' { s with heap := h', gens := g', drawn := d', toks := t' } := by
  obtain ⟨m, ⟨o, es, ep, ho, r⟩, _⟩ := id I.loc
  obtain ⟨sl, hL⟩ := u.any ho I.free fun z => (hch _ z).2.1 rfl
  exact I.step (ch := ch) hch (fun b o hL hb hc e n => u.keep b o e n (fun z => (List.mem_cons.mp (I.stkSub b z)).elim hL hb) hc) (fun b o _ _ hc e n => u.any e n hc) (fun b o hc e n => u.free b o e n hc) (fun b o hc e => u.there b o e hc) u.tups u.frzs u.tbls (fun m' hm => by
    obtain ⟨o', es', ep', ho', r'⟩ := hm
    rw [ho] at ho'; cases ho'
    exact ⟨_, es', ep', hL, r'⟩) hok hg
/-- an untracked record of ours (an iterator) has turned -/
theorem Inv.turned {t' : Nat} {it : Addr} (I : Inv X pins σ H s) (k : ∀ b o, b ≠ it → s.heap.get? b = some o → h'.get? b = some o) (hn : H it = none) (hL : it ≠ X.env.locals)
    (h1 : it ∈ X.ex ∨ X.s₀.heap.objs.size ≤ it) (h2 : ∀ x c, X.env.cells.lookup x = some c → c ≠ it) (h3 : ∀ p ∈ X.pn ++ pins, p.1 ≠ it) : Inv X pins σ H { s with heap := h', toks := t' } := by
  have nit : ∀ b u, H b = some u → b ≠ it := fun b u e z => by rw [z, hn] at e; cases e
  refine I.step (g' := s.gens) (d' := s.drawn) (ch := [it]) (fun b hb => ?_) (fun b o _ _ hc e _ => k b o (fun z => hc (by simp [z])) e) (fun b o _ _ hc e _ => ⟨o.slots, k b o (fun z => hc (by simp [z])) e⟩) (fun _ _ _ _ n => n)
    (fun b o hc e => ⟨o, k b o (fun z => hc (by simp [z])) e⟩) (fun _ _ e => e) (fun _ _ _ e => e) (fun b ps e => ⟨#[], by rw [e]; simp⟩) (fun m hm => ?_) (fun b u e => ?_) I.bare
  · have e : b = it := by simpa using hb
    subst e
    exact ⟨h1, hL, h2, h3⟩
  · obtain ⟨o, es, ep, ho, r⟩ := hm
    exact ⟨o, es, ep, k _ o (Ne.symm hL) ho, r⟩
  · refine (I.hok b u e).stay (fun c v hc q => k c v ?_ q) (fun _ q => q) fun _ _ q => q
    rcases hc with z | z
    · rw [z]; exact nit b u e
    · exact nit c _ z
theorem Inv.tok (I : Inv X pins σ H s) (t : Nat) : Inv X pins σ H { s with toks := t } := I.un (h' := s.heap) (t' := t) Un.refl I.hok
/-- all objects kept -/
theorem Inv.kept {t' : Nat} (I : Inv X pins σ H s) (k : ∀ b u, s.heap.get? b = some u → h'.get? b = some u) : Inv X pins σ H { s with heap := h', toks := t' } := I.un (Un.kept k) (I.hok.kept k)
/-- a new object laid and tracked -/
theorem Inv.laid {a : Addr} {o : HO} {t' : Nat} (I : Inv X pins σ H s) (k : ∀ b u, s.heap.get? b = some u → h'.get? b = some u) (hp : s.heap.objs.size ≤ a) (new : ObjOk X.prog X.w (upd H a o) h' a o) :
    Inv X pins σ (upd H a o) { s with heap := h', toks := t' } := I.un (Un.laid k hp (I.hok.fresh hp)) (I.hok.laid k hp new)
/-- an object written -/
theorem Inv.write {x e : Addr} {o : HO} {t' : Nat} (I : Inv X pins σ H s) (mu : Mut (H x)) (he : e = x ∨ H e = some (.own x)) (k : ∀ b u, b ≠ e → s.heap.get? b = some u → h'.get? b = some u) (heo : ∃ u, h'.get? e = some u)
    (new : ObjOk X.prog X.w (upd H x o) h' x o) : Inv X pins σ (upd H x o) { s with heap := h', toks := t' } := I.un (Un.write mu he k heo) (I.hok.write mu he k heo new)
theorem Inv.pins_of {pins' : List (Addr × Obj)} (I : Inv X pins σ H s) (h : ∀ p ∈ pins', s.heap.get? p.1 = some p.2 ∧ H p.1 = none ∧ p.1 ≠ X.env.locals ∧ p.1 ∉ X.fs ∧ ∀ v, p.2.data ≠ .cell v) : Inv X pins' σ H s :=
  ⟨I.ok, I.os, I.bare, I.base, I.loc, I.cell, I.free, I.freeC, fun p hp => (List.mem_append.mp hp).elim (fun z => I.pin p (List.mem_append_left _ z)) (h p), I.hok, I.len⟩

theorem nodup_ix {N : List Str} (hN : N.Nodup) {i j : Nat} {x : Str} (a : N[i]? = some x) (b : N[j]? = some x) : i = j := by
  obtain ⟨h1, e1⟩ := List.getElem?_eq_some_iff.mp a
  obtain ⟨h2, e2⟩ := List.getElem?_eq_some_iff.mp b
  exact (List.getElem_inj hN).mp (e1.trans e2.symm)

/-- a name is stored; what changed -/
theorem store_ok2 {M : Model} {A : Around} {E : Value → Shared → Prop} {i : Nat} {x : Str} {v : V} {u : Value} {Q : Unit → Shared → Prop} (I : Inv X pins σ H s) (hN : X.N.Nodup) (hi : X.N[i]? = some x) (hx : Loc X.env.scope x) (r : RelV v u)
    (h : ∀ s', Inv X pins (σ.set i (some v)) H s' → (∃ a, Heap.SameBut a s.heap s'.heap ∧ (a = X.env.locals ∨ X.env.cells.lookup x = some a)) → Q () s') (hf : X.fn x = true ∨ X.env.scope.names.lookup x = some .local := by first | exact .inl rfl | exact .inr rfl | assumption) : wpAny M A (storeName X.env x u) Q E s := by
  obtain ⟨m, hn, hl⟩ := id I.loc
  have hcls : (X.env.scope.kind == .class || (X.env.scope.kind == .module && X.env.locals != X.env.globals)) = false := by rw [I.ok.kind]; rfl
  have hiσ : i < σ.length := by rw [I.len]; exact (List.getElem?_eq_some_iff.mp hi).1
  have cne := I.cne
  have tracked : ∀ {a : Addr} {h' : Heap}, (∃ o, s.heap.get? a = some o ∧ H a = none) → Heap.SameBut a s.heap h' → HOk X.prog X.w H h' := fun {a h'} ha hs b ob e => by
    obtain ⟨_, _, hfree⟩ := ha
    refine (I.hok b ob e).stay (fun c w' hc q => (hs.2 c ?_).trans q) (fun _ q => q) fun _ _ q => q
    rintro rfl
    rcases hc with rfl | hc
    · rw [hfree] at e; cases e
    · rw [hfree] at hc; cases hc
  rcases hx with hk | hk
  · refine wpAny_storeName_local hk hn (fun h' hn' hs => ?_) hcls
    obtain ⟨oL, _, _, hoL, _⟩ := id hn
    refine h _ ⟨I.ok, I.os, I.bare, ⟨fun b o e n hb hx => ?_, fun b o e n hb hx => ?_, I.base.free, fun b o e hx => ?_, I.base.tups, I.base.frzs, I.base.tbls⟩, ⟨_, hn', fun j y v' e1 e2 e3 => ?_⟩, fun y c e => ?_, I.free, I.freeC, fun p hp => ?_, tracked ⟨oL, hoL, I.free⟩ hs, by simpa using I.len⟩ ⟨_, hs, .inl rfl⟩
    · exact (hs.2 b (Nat.ne_of_lt (Nat.lt_of_lt_of_le (Heap.lt_size e) I.ok.above))).trans (I.base.keep b o e n hb hx)
    · obtain ⟨sl, e1⟩ := I.base.slot b o e n hb hx
      exact ⟨sl, (hs.2 b (Nat.ne_of_lt (Nat.lt_of_lt_of_le (Heap.lt_size e) I.ok.above))).trans e1⟩
    · obtain ⟨o', e1⟩ := I.base.there b o e hx
      exact ⟨o', (hs.2 b (Nat.ne_of_lt (Nat.lt_of_lt_of_le (Heap.lt_size e) I.ok.above))).trans e1⟩
    · by_cases hj : j = i
      · subst hj
        rw [hi] at e1; cases e1
        rw [List.getElem?_set_self hiσ] at e2
        cases e2
        exact ⟨u, r, .inl ⟨hk, by simp⟩⟩
      · rw [List.getElem?_set_ne (Ne.symm hj)] at e2
        obtain ⟨u', r', q⟩ := hl j y v' e1 e2 e3
        refine ⟨u', r', ?_⟩
        rcases q with ⟨k, e⟩ | ⟨k, c, e, z⟩
        · refine .inl ⟨k, ?_⟩
          have : y ≠ x := fun e => hj (nodup_ix hN e1 (e ▸ hi))
          simp [this, e]
        · exact .inr ⟨k, c, e, z.sameBut hs (cne y c e)⟩
    · obtain ⟨w', z⟩ := I.cell y c e
      exact ⟨w', z.sameBut hs (cne y c e)⟩
    · obtain ⟨e, n, ne, nf, d⟩ := I.pin p hp
      exact ⟨(hs.2 p.1 ne).trans e, n, ne, nf, d⟩
  · have hfn : X.fn x = true := by
      rcases hf with z | z
      · exact z
      · rw [z] at hk; cases hk
    obtain ⟨c, hc⟩ := I.ok.has x (.inl hk)
    obtain ⟨w', z⟩ := I.cell x c hc
    refine wpAny_storeName_cell I.ok.kind hk hc z (fun h' hc' hs => ?_)
    obtain ⟨oc, hoc, hocd⟩ := id z
    refine h { s with heap := h' } ⟨I.ok, I.os, I.bare, ⟨fun b o e n hb hx => ?_, fun b o e n hb hx => ?_, I.base.free, fun b o e hx => ?_, I.base.tups, I.base.frzs, I.base.tbls⟩, ⟨m, hn.sameBut hs (Ne.symm (cne x c hc)), fun j y v' e1 e2 e3 => ?_⟩, fun y c' e => ?_, I.free, I.freeC, fun p hp => ?_, tracked ⟨oc, hoc, I.freeC x c hc⟩ hs, by simpa using I.len⟩ ⟨c, hs, .inr hc⟩
    · exact (hs.2 b (Nat.ne_of_lt (Nat.lt_of_lt_of_le (Heap.lt_size e) (I.ok.cab x c hfn hc)))).trans (I.base.keep b o e n hb hx)
    · obtain ⟨sl, e1⟩ := I.base.slot b o e n hb hx
      exact ⟨sl, (hs.2 b (Nat.ne_of_lt (Nat.lt_of_lt_of_le (Heap.lt_size e) (I.ok.cab x c hfn hc)))).trans e1⟩
    · obtain ⟨o', e1⟩ := I.base.there b o e hx
      exact ⟨o', (hs.2 b (Nat.ne_of_lt (Nat.lt_of_lt_of_le (Heap.lt_size e) (I.ok.cab x c hfn hc)))).trans e1⟩
    · by_cases hj : j = i
      · subst hj
        rw [hi] at e1; cases e1
        rw [List.getElem?_set_self hiσ] at e2
        cases e2
        exact ⟨u, r, .inr ⟨.inl hk, c, hc, hc'⟩⟩
      · rw [List.getElem?_set_ne (Ne.symm hj)] at e2
        obtain ⟨u', r', q⟩ := hl j y v' e1 e2 e3
        refine ⟨u', r', ?_⟩
        rcases q with q | ⟨k, c', e, z'⟩
        · exact .inl q
        · refine .inr ⟨k, c', e, z'.sameBut hs ?_⟩
          rintro rfl
          exact hj (nodup_ix hN e1 (I.ok.inj _ _ _ e hc ▸ hi))
    · by_cases hcc : c' = c
      · subst hcc; exact ⟨_, hc'⟩
      · obtain ⟨w2, z2⟩ := I.cell y c' e
        exact ⟨w2, z2.sameBut hs hcc⟩
    · obtain ⟨e, n, ne, nf, d⟩ := I.pin p hp
      refine ⟨(hs.2 p.1 ?_).trans e, n, ne, nf, d⟩
      intro q
      rw [q, hoc] at e
      have q' : oc = p.2 := Option.some.inj e
      exact d w' (by rw [← q']; exact hocd)
theorem store_ok {M : Model} {A : Around} {E : Value → Shared → Prop} {i : Nat} {x : Str} {v : V} {u : Value} {Q : Unit → Shared → Prop} (I : Inv X pins σ H s) (hN : X.N.Nodup) (hi : X.N[i]? = some x) (hx : Loc X.env.scope x) (r : RelV v u)
    (h : ∀ s', Inv X pins (σ.set i (some v)) H s' → Q () s') (hf : X.fn x = true ∨ X.env.scope.names.lookup x = some .local := by first | exact .inl rfl | exact .inr rfl | assumption) : wpAny M A (storeName X.env x u) Q E s :=
  store_ok2 I hN hi hx r (fun s' I' _ => h s' I') hf
/-- behind a call or a block, the state as it is -/
theorem Inv.call' {s' : Shared} {ch : List Addr} (I : Inv X pins σ H s) (ho : s'.os = s.os) (u : Un (frs X.stack) ch H H' s.heap s'.heap) (hok : HOk X.prog X.w H' s'.heap) (hg : AllBare s'.gens)
    (hch : ∀ b ∈ ch, (b ∈ X.ex ∨ X.s₀.heap.objs.size ≤ b) ∧ b ≠ X.env.locals ∧ (∀ x c, X.env.cells.lookup x = some c → c ≠ b) ∧ ∀ p ∈ X.pn ++ pins, p.1 ≠ b) : Inv X pins σ H' s' := by
  obtain ⟨h', g', d', t', o'⟩ := s'
  have e : o' = s.os := ho
  subst e
  exact I.call (g' := g') (t' := t') (d' := d') u hok hg hch
end

/-! ### the judgements -/
/-- an exception: its class, its own dict's address (where it has one), the abstract heap behind it -/
abbrev XK := Value → Option Addr → Hp → Prop
abbrev St := List (Option V)
abbrev VK := V → Hp → Prop
/-- an expression's reading; a test's; an argument list's -/
abbrev TE := St → Hp → VK → Prop
abbrev TT := St → Hp → (Bool → Hp → Prop) → Prop
abbrev TA := St → Hp → (List V → Hp → Prop) → Prop
/-- what is wanted behind a statement -/
structure Ends where
  nx : St → Hp → Prop
  rt : VK
  bk : St → Hp → Prop := fun _ _ => False
  ct : St → Hp → Prop := fun _ _ => False
abbrev TS := Ends → St → Hp → Prop

def EP (X : Cx) (pins : List (Addr × Obj)) (σ : St) (Q : VK) (u : Value) (s' : Shared) : Prop := ∃ v H', Inv X pins σ H' s' ∧ RelV v u ∧ Q v H'
def TP (X : Cx) (pins : List (Addr × Obj)) (σ : St) (Q : Bool → Hp → Prop) (b : Bool) (s' : Shared) : Prop := ∃ H', Inv X pins σ H' s' ∧ Q b H'
def AP (X : Cx) (pins : List (Addr × Obj)) (σ : St) (Q : List V → Hp → Prop) (us : List Value) (s' : Shared) : Prop := ∃ vs H', Inv X pins σ H' s' ∧ Vals vs us ∧ Q vs H'
def SP (X : Cx) (pins : List (Addr × Obj)) (D : Ends) (f : Flow) (s' : Shared) : Prop :=
  match f with
  | .next => ∃ σ' H', Inv X pins σ' H' s' ∧ D.nx σ' H'
  | .brk => ∃ σ' H', Inv X pins σ' H' s' ∧ D.bk σ' H'
  | .cont => ∃ σ' H', Inv X pins σ' H' s' ∧ D.ct σ' H'
  | .ret u => ∃ v σ' H', Inv X pins σ' H' s' ∧ RelV v u ∧ D.rt v H'

structure PE (X : Cx) (e : Expr) (t : TE) : Prop where
  run : ∀ (pins : List (Addr × Obj)) (s : Shared) (σ : St) (H : Hp) (Q : VK), Inv X pins σ H s → t σ H Q → wpAny (model X.prog X.w) X.A (eval e X.env) (EP X pins σ Q) X.xe s
instance {X : Cx} {e : Expr} {t : TE} : CoeFun (PE X e t) fun _ => ∀ (pins : List (Addr × Obj)) (s : Shared) (σ : St) (H : Hp) (Q : VK), Inv X pins σ H s → t σ H Q → wpAny (model X.prog X.w) X.A (eval e X.env) (EP X pins σ Q) X.xe s := ⟨PE.run⟩
structure PT (X : Cx) (e : Expr) (t : TT) : Prop where
  run : ∀ (pins : List (Addr × Obj)) (s : Shared) (σ : St) (H : Hp) (Q : Bool → Hp → Prop), Inv X pins σ H s → t σ H Q → wpAny (model X.prog X.w) X.A (isTrue e X.env (eval e X.env)) (TP X pins σ Q) X.xe s
instance {X : Cx} {e : Expr} {t : TT} : CoeFun (PT X e t) fun _ => ∀ (pins : List (Addr × Obj)) (s : Shared) (σ : St) (H : Hp) (Q : Bool → Hp → Prop), Inv X pins σ H s → t σ H Q → wpAny (model X.prog X.w) X.A (isTrue e X.env (eval e X.env)) (TP X pins σ Q) X.xe s := ⟨PT.run⟩
/-- a test whatever its 'whole' is (and, or) -/
structure PW (X : Cx) (e : Expr) (t : TT) : Prop where
  run : ∀ (whole : Sem Value) (pins : List (Addr × Obj)) (s : Shared) (σ : St) (H : Hp) (Q : Bool → Hp → Prop), Inv X pins σ H s → t σ H Q → wpAny (model X.prog X.w) X.A (isTrue e X.env whole) (TP X pins σ Q) X.xe s
instance {X : Cx} {e : Expr} {t : TT} : CoeFun (PW X e t) fun _ => ∀ (whole : Sem Value) (pins : List (Addr × Obj)) (s : Shared) (σ : St) (H : Hp) (Q : Bool → Hp → Prop), Inv X pins σ H s → t σ H Q → wpAny (model X.prog X.w) X.A (isTrue e X.env whole) (TP X pins σ Q) X.xe s := ⟨PW.run⟩
theorem PW.pt {X : Cx} {e : Expr} {t : TT} (h : PW X e t) : PT X e t := ⟨h.run _⟩
/-- an argument list (no star), from the left -/
structure PA (X : Cx) (es : List Expr) (t : TA) : Prop where
  run : ∀ (pos : Pos) (pins : List (Addr × Obj)) (s : Shared) (σ : St) (H : Hp) (Q : List V → Hp → Prop), Inv X pins σ H s → t σ H Q → wpAny (model X.prog X.w) X.A (spliced (backTo pos (starEach es X.env))) (AP X pins σ Q) X.xe s
instance {X : Cx} {es : List Expr} {t : TA} : CoeFun (PA X es t) fun _ => ∀ (pos : Pos) (pins : List (Addr × Obj)) (s : Shared) (σ : St) (H : Hp) (Q : List V → Hp → Prop), Inv X pins σ H s → t σ H Q → wpAny (model X.prog X.w) X.A (spliced (backTo pos (starEach es X.env))) (AP X pins σ Q) X.xe s := ⟨PA.run⟩
structure PS (X : Cx) (st : Stmt) (t : TS) : Prop where
  run : ∀ (pins : List (Addr × Obj)) (s : Shared) (σ : St) (H : Hp) (D : Ends), Inv X pins σ H s → t D σ H → wpAny (model X.prog X.w) X.A (exec st X.env) (SP X pins D) X.xe s
instance {X : Cx} {st : Stmt} {t : TS} : CoeFun (PS X st t) fun _ => ∀ (pins : List (Addr × Obj)) (s : Shared) (σ : St) (H : Hp) (D : Ends), Inv X pins σ H s → t D σ H → wpAny (model X.prog X.w) X.A (exec st X.env) (SP X pins D) X.xe s := ⟨PS.run⟩
structure PSs (X : Cx) (st : List Stmt) (t : TS) : Prop where
  run : ∀ (pins : List (Addr × Obj)) (s : Shared) (σ : St) (H : Hp) (D : Ends), Inv X pins σ H s → t D σ H → wpAny (model X.prog X.w) X.A (execs st X.env) (SP X pins D) X.xe s
instance {X : Cx} {st : List Stmt} {t : TS} : CoeFun (PSs X st t) fun _ => ∀ (pins : List (Addr × Obj)) (s : Shared) (σ : St) (H : Hp) (D : Ends), Inv X pins σ H s → t D σ H → wpAny (model X.prog X.w) X.A (execs st X.env) (SP X pins D) X.xe s := ⟨PSs.run⟩
/-- weaken the end -/
theorem thn {α : Type} {t : Sem α} {Q Q' : α → Shared → Prop} {M : Model} {A : Around} {E : Value → Shared → Prop} {s : Shared} (h : wpAny M A t Q E s) (hQ : ∀ a s, Q a s → Q' a s) : wpAny M A t Q' E s := wpAny_mono h hQ fun _ _ x => x
end L2

namespace L2
open PySem PySem.Spec PyProof.Rows
section
variable {X : Cx}

/-! ### names and constants -/
def tVar (i : Nat) : TE := fun σ H Q => ∃ v, σ[i]? = some (some v) ∧ Q v H
def tC (v : V) : TE := fun _ H Q => Q v H
theorem pe_var {i : Nat} {x : Str} {pos : Pos} (hN : X.N[i]? = some x) (hv : Vis X.env.scope x) (hd : (x == ("__debug__" : Str)) = false := by decide) (hcd : (x == ("__classdict__" : Str)) = false := by decide) : PE X (.Name x pos) (tVar i) := by
  constructor; intro pins s σ H Q I h
  obtain ⟨v, e, h⟩ := h
  obtain ⟨m, hn, hl⟩ := I.loc
  obtain ⟨u, r, l⟩ := hl i x v hN e hv
  have fin : EP X pins σ Q u s := ⟨v, H, I, r, h⟩
  rcases l with ⟨hk, hm⟩ | ⟨hk, c, hc, hcell⟩
  · exact wpAny_Name (wpAny_loadName_local I.ok.kind hk hn hm fin) hd
  · rcases hk with hk | hk
    · exact wpAny_Name (wpAny_loadName_cell I.ok.kind hk hc hcell fin) hd
    · exact wpAny_Name (wpAny_loadName_free I.ok.kind hk hc hcell fin hcd) hd
theorem pe_int {i j pos} : PE X (.Constant (.int i) j pos) (tC (.int i)) := ⟨fun _ _ _ H _ I h => wpAny_Constant_int ⟨.int i, H, I.tok _, ⟨_, rfl⟩, h⟩⟩
theorem pe_bl {b j pos} : PE X (.Constant (.bool b) j pos) (tC (.bl b)) := ⟨fun _ _ _ H _ I h => Constant_bool ⟨.bl b, H, I, rfl, h⟩⟩
theorem pe_non {j pos} : PE X (.Constant .none j pos) (tC .non) := ⟨fun _ _ _ H _ I h => Constant_none ⟨.non, H, I, rfl, h⟩⟩
theorem pe_str {x j pos} : PE X (.Constant (.str x) j pos) (tC (.str x)) := ⟨fun _ _ _ H _ I h => Calls.Constant_str ⟨.str x, H, I.tok _, ⟨_, rfl⟩, h⟩⟩

/-- a global name of the def -/
def Gl (X : Cx) (x : Str) : Prop := X.env.kindOf x = some .globalImplicit
theorem ld_glob {E : Value → Shared → Prop} {pins : List (Addr × Obj)} {s : Shared} {σ : St} {H : Hp} {x : Str} {u : Value} {pos : Pos} {Q : Value → Shared → Prop} (I : Inv X pins σ H s) (hg : Gl X x) (hm : X.mg x = some u) (h : Q u s)
    (hd : (x == ("__debug__" : Str)) = false := by decide) : wpAny (model X.prog X.w) X.A (eval (.Name x pos) X.env) Q E s :=
  Calls.Name_function_global I.ok.kind hg (Calls.loadGlobal_global (by rw [I.ok.glob]; exact I.mod.glob.keeps I.bk) hm h) hd
theorem ld_blt {E : Value → Shared → Prop} {pins : List (Addr × Obj)} {s : Shared} {σ : St} {H : Hp} {x : Str} {u : Value} {pos : Pos} {Q : Value → Shared → Prop} (I : Inv X pins σ H s) (hg : Gl X x) (hm : X.mg x = none) (hv : bootBuiltins x = some u) (h : Q u s)
    (hn : x ≠ "__name__" := by decide) (hd : (x == ("__debug__" : Str)) = false := by decide) : wpAny (model X.prog X.w) X.A (eval (.Name x pos) X.env) Q E s := by
  obtain ⟨mb, h1, h2⟩ := I.mod.blt
  exact Calls.Name_function_global I.ok.kind hg (Calls.loadGlobal_builtin (by rw [I.ok.glob]; exact I.mod.glob.keeps I.bk) hm (by rw [I.ok.blt]; exact h1.keeps I.bk) ((h2 x hn).trans hv) h) hd
/-- a module's constant, a class, a function, as a value -/
theorem pe_glob {x : Str} {v : V} {u : Value} {pos : Pos} (hg : Gl X x) (hm : X.mg x = some u) (r : RelV v u) (hd : (x == ("__debug__" : Str)) = false := by decide) : PE X (.Name x pos) (tC v) :=
  ⟨fun _ _ _ H _ I h => ld_glob I hg hm ⟨v, H, I, r, h⟩ hd⟩
theorem pe_bltn {x : Str} {v : V} {u : Value} {pos : Pos} (hg : Gl X x) (hm : X.mg x = none) (hv : bootBuiltins x = some u) (r : RelV v u) (hn : x ≠ "__name__" := by decide) (hd : (x == ("__debug__" : Str)) = false := by decide) : PE X (.Name x pos) (tC v) :=
  ⟨fun _ _ _ H _ I h => ld_blt I hg hm hv ⟨v, H, I, r, h⟩ hn hd⟩

/-! ### arithmetic -/
variable {a b : Expr} {ta tb : TE} {pos : Pos}
/-! ### comparisons -/
structure PC (X : Cx) (op : CmpOp) (a b : Expr) (t : TE) : Prop where
  run : ∀ (pins : List (Addr × Obj)) (s : Shared) (σ : St) (H : Hp) (Q : VK), Inv X pins σ H s → t σ H Q →
    wpAny (model X.prog X.w) X.A (eval a X.env) (fun v s₁ => wpAny (model X.prog X.w) X.A (eval b X.env) (fun u s₂ => wpAny (model X.prog X.w) X.A (compareOp op v u) (EP X pins σ Q) X.xe s₂) X.xe s₁) X.xe s
instance {X : Cx} {op : CmpOp} {a b : Expr} {t : TE} : CoeFun (PC X op a b t) fun _ => ∀ (pins : List (Addr × Obj)) (s : Shared) (σ : St) (H : Hp) (Q : VK), Inv X pins σ H s → t σ H Q →
    wpAny (model X.prog X.w) X.A (eval a X.env) (fun v s₁ => wpAny (model X.prog X.w) X.A (eval b X.env) (fun u s₂ => wpAny (model X.prog X.w) X.A (compareOp op v u) (EP X pins σ Q) X.xe s₂) X.xe s₁) X.xe s := ⟨PC.run⟩
/-- a comparison as a value, as a test -/
def tB (t : TE) : TT := fun σ H Q => t σ H fun x H1 => ∃ c, x = .bl c ∧ Q c H1
/-- an expression whose value is a bool, as a test -/
theorem pt_val {e : Expr} {t : TE} (h : PE X e t) (he : ∀ whole, isTrue e X.env whole = (do let v ← whole; standAt e.pos; holding [v] (truthy v)) := by intro _; rfl) : PT X e (tB t) := by
  constructor; intro pins s σ H Q I hw
  refine isTrue_plain (thn (h pins s σ H _ I hw) fun v s1 ⟨x, H1, I1, r1, q1⟩ => ?_) (he _)
  obtain ⟨d, rfl, q⟩ := q1
  cases r1
  exact wpAny_truthy_bool ⟨H1, I1, q⟩

/-! ### and, or, not -/
variable {tA tB' : TT} {rest : List Expr}
def tAnd (t u : TT) : TT := fun σ H Q => t σ H fun c H1 => if c = true then u σ H1 Q else Q false H1
def tOr (t u : TT) : TT := fun σ H Q => t σ H fun c H1 => if c = true then Q true H1 else u σ H1 Q
def tNot (t : TT) : TT := fun σ H Q => t σ H fun c H1 => Q (!c) H1
theorem pw_and1 (ha : PT X a tA) : PW X (.BoolOp .And [a] pos) tA := by
  constructor; intro wh pins s σ H Q I h
  refine isTrue_and (thn (ha pins s σ H Q I h) fun c s1 e => ?_)
  cases c with
  | true => exact isTrue_and_nil e
  | false => exact e
theorem pw_or1 (ha : PT X a tA) : PW X (.BoolOp .Or [a] pos) tA := by
  constructor; intro wh pins s σ H Q I h
  refine isTrue_or (thn (ha pins s σ H Q I h) fun c s1 e => ?_)
  cases c with
  | false => exact isTrue_or_nil e
  | true => exact e
theorem pw_and (ha : PT X a tA) (hb : PW X (.BoolOp .And (b :: rest) pos) tB') : PW X (.BoolOp .And (a :: b :: rest) pos) (tAnd tA tB') := by
  constructor; intro wh pins s σ H Q I h
  refine isTrue_and (thn (ha pins s σ H _ I h) fun c s1 ⟨H1, I1, q1⟩ => ?_)
  cases c with
  | true => exact hb wh pins s1 σ H1 Q I1 q1
  | false => exact ⟨H1, I1, q1⟩
theorem pw_or (ha : PT X a tA) (hb : PW X (.BoolOp .Or (b :: rest) pos) tB') : PW X (.BoolOp .Or (a :: b :: rest) pos) (tOr tA tB') := by
  constructor; intro wh pins s σ H Q I h
  refine isTrue_or (thn (ha pins s σ H _ I h) fun c s1 ⟨H1, I1, q1⟩ => ?_)
  cases c with
  | true => exact ⟨H1, I1, q1⟩
  | false => exact hb wh pins s1 σ H1 Q I1 q1
theorem pt_not (ha : PT X a tA) : PT X (.UnaryOp .Not a pos) (tNot tA) := by
  constructor; intro pins s σ H Q I h
  exact isTrue_not (ha pins s σ H (fun c H1 => Q (!c) H1) I h)
/-- .. as values (bools) -/
def tAndV (ta tb : TE) : TE := fun σ H Q => ta σ H fun x H1 => ∃ c, x = .bl c ∧ if c = true then tb σ H1 Q else Q (.bl false) H1
theorem pe_one {op} {t : TE} (h : PE X a t) : PE X (.BoolOp op [a] pos) t := ⟨fun pins s σ H Q I hw => BoolOp_one (h pins s σ H Q I hw)⟩
theorem pe_and (ha : PE X a ta) (hb : PE X (.BoolOp .And (b :: rest) pos) tb) : PE X (.BoolOp .And (a :: b :: rest) pos) (tAndV ta tb) := by
  constructor; intro pins s σ H Q I h
  refine BoolOp_and (thn (ha pins s σ H _ I h) fun v s1 ⟨x, H1, I1, r1, q1⟩ => ?_)
  obtain ⟨c, rfl, q1⟩ := q1
  cases r1
  refine wpAny_truthy_bool ?_
  cases c with
  | true => exact hb pins s1 σ H1 Q I1 q1
  | false => exact ⟨.bl false, H1, I1, rfl, q1⟩
end
end L2

namespace L2
open PySem PySem.Spec PyProof.Rows

/-! ### a list, a tuple that is read: tracked, frozen, or an object of the module -/
def SqL (K : PySem.W.Frag) (H : Hp) (a : Addr) (xs : List V) : Prop :=
  Rd H a (.lst xs) ∨
    ∃ (o : Obj) (its : Array Value) (n : Nat), K.lookup a = some o ∧ o.cls = .type "list" ∧ o.dict = none ∧ o.data = .seq its n ∧ its.size ≤ sizeLine ∧ Vals xs its.toList
def SqT (K : PySem.W.Frag) (H : Hp) (a : Addr) (xs : List V) : Prop :=
  Rd H a (.tup xs) ∨
    ∃ (o : Obj) (its : Array Value) (n : Nat), K.lookup a = some o ∧ o.cls = .type "tuple" ∧ o.data = .seq its n ∧ its.size ≤ sizeLine ∧ Vals xs its.toList
def absV : Value → Option V
  | .none => some .non
  | .bool b => some (.bl b)
  | .int i _ => some (.int i)
  | .str x _ => some (.str x)
  | .bytes b _ => some (.byt b)
  | .float b _ => some (.flt b)
  | .ref a => some (.ref a)
  | .type n => some (.ty n)
  | _ => none
theorem RelV.abs {x : V} {u : Value} (r : RelV x u) : absV u = some x := by
  cases x with
  | non => cases r; rfl
  | bl _ => cases r; rfl
  | int _ => obtain ⟨t, rfl⟩ := r; rfl
  | str _ => obtain ⟨t, rfl⟩ := r; rfl
  | byt _ => obtain ⟨t, rfl⟩ := r; rfl
  | flt _ => obtain ⟨t, rfl⟩ := r; rfl
  | ref _ => cases r; rfl
  | ty _ => cases r; rfl
theorem RelV.inj {x y : V} {u : Value} (r : RelV x u) (q : RelV y u) : x = y := Option.some.inj (r.abs.symm.trans q.abs)
theorem Vals.inj : ∀ {xs ys : List V} {us : List Value}, Vals xs us → Vals ys us → xs = ys
  | _, _, _, .nil, .nil => rfl
  | _, _, _, .cons r t, .cons r' t' => by rw [r.inj r', Vals.inj t t']
section
variable {X : Cx} {pins : List (Addr × Obj)} {σ : St} {H : Hp} {s : Shared} {a : Addr} {xs ys : List V}
theorem SqL.of {K : PySem.W.Frag} (h : H a = some (.lst xs)) : SqL K H a xs := .inl (.inl h)
theorem SqT.of {K : PySem.W.Frag} (h : H a = some (.tup xs)) : SqT K H a xs := .inl (.inl h)
theorem Inv.list (I : Inv X pins σ H s) (h : SqL X.K H a xs) : ∃ its : List Value, Vals xs its ∧ PlainL s.heap a its.toArray ∧ xs.length ≤ sizeLine := by
  rcases h with h | ⟨o, its, n, hk, hc, hd, hs, hz, r⟩
  · obtain ⟨z, its, n, r, e⟩ := h.ok I.hok
    exact ⟨its, r, ⟨_, n, e, rfl, rfl, rfl⟩, z⟩
  · refine ⟨its.toList, r, ⟨o, n, I.kIn a o hk, hc, hd, by simpa using hs⟩, ?_⟩
    have e := r.length
    simp only [Array.length_toList] at e
    omega
theorem Inv.tuple (I : Inv X pins σ H s) (h : SqT X.K H a xs) : ∃ its : List Value, Vals xs its ∧ IsTup s.heap a its.toArray ∧ xs.length ≤ sizeLine := by
  rcases h with h | ⟨o, its, n, hk, hc, hs, hz, r⟩
  · obtain ⟨z, its, r, p⟩ := h.ok I.hok
    exact ⟨its, r, p, z⟩
  · refine ⟨its.toList, r, ⟨o, I.kIn a o hk, hc, n, by simpa using hs⟩, ?_⟩
    have e := r.length
    simp only [Array.length_toList] at e
    omega
theorem Inv.list_inj (I : Inv X pins σ H s) (h : SqL X.K H a xs) (h' : SqL X.K H a ys) : xs = ys := by
  obtain ⟨its, r, ⟨o, n, e, _, _, d⟩, _⟩ := I.list h
  obtain ⟨its', r', ⟨o', n', e', _, _, d'⟩, _⟩ := I.list h'
  rw [e] at e'; cases e'
  rw [d] at d'
  injection d' with d1 _
  have : its = its' := by simpa using congrArg Array.toList d1
  subst this
  exact r.inj r'
theorem Inv.tuple_inj (I : Inv X pins σ H s) (h : SqT X.K H a xs) (h' : SqT X.K H a ys) : xs = ys := by
  obtain ⟨its, r, ⟨o, e, _, n, d⟩, _⟩ := I.tuple h
  obtain ⟨its', r', ⟨o', e', _, n', d'⟩, _⟩ := I.tuple h'
  rw [e] at e'; cases e'
  rw [d] at d'
  injection d' with d1 _
  have : its = its' := by simpa using congrArg Array.toList d1
  subst this
  exact r.inj r'
end

/-! ### another wish about exceptions -/
abbrev Cx.wish (X : Cx) (E : Value → Shared → Prop) : Cx := { X with xe := E }
/-- no exception leaves -/
abbrev Cx.nox (X : Cx) : Cx := X.wish fun _ _ => False
theorem Cx.Ok.wish {X : Cx} (ok : X.Ok) (E : Value → Shared → Prop) : (X.wish E).Ok :=
  ⟨ok.mod, ok.kind, ok.glob, ok.blt, ok.above, ok.inj, ok.has, ok.cab, ok.hd, ok.frames, ok.stk, ok.exf, ok.bs, ok.bsz, ok.noex, ok.exfs, ok.funs, ok.frf⟩
theorem Cx.Ok.unwish {X : Cx} {E : Value → Shared → Prop} (ok : (X.wish E).Ok) : X.Ok :=
  ⟨ok.mod, ok.kind, ok.glob, ok.blt, ok.above, ok.inj, ok.has, ok.cab, ok.hd, ok.frames, ok.stk, ok.exf, ok.bs, ok.bsz, ok.noex, ok.exfs, ok.funs, ok.frf⟩
section
variable {X : Cx} {pins : List (Addr × Obj)} {σ : St} {H : Hp} {s : Shared} {E : Value → Shared → Prop}
theorem Inv.wish (I : Inv X pins σ H s) (E : Value → Shared → Prop) : Inv (X.wish E) pins σ H s := ⟨I.ok.wish E, I.os, I.bare, I.base, I.loc, I.cell, I.free, I.freeC, I.pin, I.hok, I.len⟩
theorem Inv.unwish (I : Inv (X.wish E) pins σ H s) : Inv X pins σ H s := ⟨I.ok.unwish, I.os, I.bare, I.base, I.loc, I.cell, I.free, I.freeC, I.pin, I.hok, I.len⟩
theorem SP.unwish {D : Ends} {f : Flow} {s' : Shared} (h : SP (X.wish E) pins D f s') : SP X pins D f s' := by
  cases f with
  | next => obtain ⟨σ', H', I, q⟩ := h; exact ⟨σ', H', I.unwish, q⟩
  | brk => obtain ⟨σ', H', I, q⟩ := h; exact ⟨σ', H', I.unwish, q⟩
  | cont => obtain ⟨σ', H', I, q⟩ := h; exact ⟨σ', H', I.unwish, q⟩
  | ret u => obtain ⟨v, σ', H', I, r, q⟩ := h; exact ⟨v, σ', H', I.unwish, r, q⟩
theorem PE.nox {e : Expr} {t : TE} (h : PE X.nox e t) : PE X e t := ⟨fun pins s σ H Q I hw =>
  wpAny_mono (h pins s σ H Q (I.wish _) hw) (fun _ _ ⟨v, H', I', r, q⟩ => ⟨v, H', I'.unwish, r, q⟩) fun _ _ z => False.elim z⟩
theorem PT.nox {e : Expr} {t : TT} (h : PT X.nox e t) : PT X e t := ⟨fun pins s σ H Q I hw =>
  wpAny_mono (h pins s σ H Q (I.wish _) hw) (fun _ _ ⟨H', I', q⟩ => ⟨H', I'.unwish, q⟩) fun _ _ z => False.elim z⟩
theorem PSs.nox {st : List Stmt} {t : TS} (h : PSs X.nox st t) : PSs X st t := ⟨fun pins s σ H D I hw =>
  wpAny_mono (h pins s σ H D (I.wish _) hw) (fun _ _ q => q.unwish) fun _ _ z => False.elim z⟩
end

/-! ### blocks and small statements -/
section
variable {X : Cx} {st : Stmt} {rest : List Stmt} {t u : TS} {e : Expr} {te : TE} {pos : Pos}
def tNext : TS := fun D σ H => D.nx σ H
def tSeq (t u : TS) : TS := fun D σ H => t { D with nx := u D } σ H
theorem pss_nil : PSs X [] tNext := ⟨fun _ _ σ H _ I h => wpAny_execs_nil ⟨σ, H, I, h⟩⟩
theorem pss_cons (h1 : PS X st t) (h2 : PSs X rest u) : PSs X (st :: rest) (tSeq t u) := by
  constructor; intro pins s σ H D I h
  refine wpAny_execs_cons (thn (h1 pins s σ H { D with nx := u D } I h) fun f s1 q => ?_)
  cases f with
  | next =>
    obtain ⟨σ', H', I', q⟩ := q
    exact h2 pins s1 σ' H' D I' q
  | ret v => exact q
  | brk => exact q
  | cont => exact q
theorem pss_one (h1 : PS X st t) : PSs X [st] t := by
  constructor; intro pins s σ H D I h
  refine wpAny_execs_cons (thn (h1 pins s σ H D I h) fun f s1 q => ?_)
  cases f with
  | next => exact wpAny_execs_nil q
  | ret v => exact q
  | brk => exact q
  | cont => exact q
/-- in a def's body nothing is shown -/
theorem Inv.quiet {pins : List (Addr × Obj)} {σ : St} {H : Hp} {s : Shared} (I : Inv X pins σ H s) : interactive X.env = false := by simp [interactive, I.ok.kind]
/-- an expression whose value is dropped -/
def tDrop (te : TE) : TS := fun D σ H => te σ H fun _ H1 => D.nx σ H1
theorem ps_expr (he : PE X e te) (hs : swapsWith e none pos.line X.env = pure false := by rfl) : PS X (.Expr e pos) (tDrop te) := by
  constructor; intro pins s σ H D I h
  exact wpAny_Expr_any (thn (he pins s σ H _ I h) fun v s1 ⟨x, H1, I1, r1, q1⟩ => ⟨σ, H1, I1, q1⟩) I.quiet hs
def tRet (te : TE) : TS := fun D σ H => te σ H D.rt
theorem ps_ret (he : PE X e te) : PS X (.Return (some e) pos) (tRet te) := by
  constructor; intro pins s σ H D I h
  exact wpAny_Return_some (thn (he pins s σ H _ I h) fun v s1 ⟨x, H1, I1, r1, q1⟩ => ⟨x, σ, H1, I1, r1, q1⟩)
def tIfS (c : TT) (t u : TS) : TS := fun D σ H => c σ H fun b H1 => if b = true then t D σ H1 else u D σ H1
theorem ps_if {c : Expr} {a b : List Stmt} {tc : TT} (hc : PT X c tc) (ha : PSs X a t) (hb : PSs X b u) : PS X (.If c a b pos) (tIfS tc t u) := by
  constructor; intro pins s σ H D I h
  refine wpAny_If (thn (hc pins s σ H _ I h) fun d s1 ⟨H1, I1, q1⟩ => ?_)
  cases d with
  | true => exact ha pins s1 σ H1 D I1 q1
  | false => exact hb pins s1 σ H1 D I1 q1
end

/-! ### targets -/
abbrev TG := V → St → Hp → (St → Hp → Prop) → Prop
abbrev TGs := List V → St → Hp → (St → Hp → Prop) → Prop
structure PG (X : Cx) (target : Expr) (t : TG) : Prop where
  run : ∀ (pins : List (Addr × Obj)) (s : Shared) (σ : St) (H : Hp) (v : V) (u : Value) (Q : St → Hp → Prop), Inv X pins σ H s → RelV v u → t v σ H Q →
    wpAny (model X.prog X.w) X.A (assign target X.env u) (fun _ s' => ∃ σ' H', Inv X pins σ' H' s' ∧ Q σ' H') X.xe s
instance {X : Cx} {target : Expr} {t : TG} : CoeFun (PG X target t) fun _ => ∀ (pins : List (Addr × Obj)) (s : Shared) (σ : St) (H : Hp) (v : V) (u : Value) (Q : St → Hp → Prop), Inv X pins σ H s → RelV v u → t v σ H Q →
    wpAny (model X.prog X.w) X.A (assign target X.env u) (fun _ s' => ∃ σ' H', Inv X pins σ' H' s' ∧ Q σ' H') X.xe s := ⟨PG.run⟩
/-- several targets, one after another -/
structure PGs (X : Cx) (ts : List Expr) (t : TGs) : Prop where
  run : ∀ (pins : List (Addr × Obj)) (s : Shared) (σ : St) (H : Hp) (vs : List V) (us : List Value) (Q : St → Hp → Prop), Inv X pins σ H s → Vals vs us → t vs σ H Q →
    wpAny (model X.prog X.w) X.A (assignInOrder ((assignEach ts X.env).map (·.2)) us) (fun _ s' => ∃ σ' H', Inv X pins σ' H' s' ∧ Q σ' H') X.xe s
instance {X : Cx} {ts : List Expr} {t : TGs} : CoeFun (PGs X ts t) fun _ => ∀ (pins : List (Addr × Obj)) (s : Shared) (σ : St) (H : Hp) (vs : List V) (us : List Value) (Q : St → Hp → Prop), Inv X pins σ H s → Vals vs us → t vs σ H Q →
    wpAny (model X.prog X.w) X.A (assignInOrder ((assignEach ts X.env).map (·.2)) us) (fun _ s' => ∃ σ' H', Inv X pins σ' H' s' ∧ Q σ' H') X.xe s := ⟨PGs.run⟩
/-- o[i] = v, by values -/
abbrev TSet := V → V → V → Hp → (Hp → Prop) → Prop
def PSet (X : Cx) (t : TSet) : Prop :=
  ∀ (pins : List (Addr × Obj)) (s : Shared) (σ : St) (H : Hp) (o i v : V) (ov iv u : Value) (Q : Hp → Prop), Inv X pins σ H s → RelV o ov → RelV i iv → RelV v u → t o i v H Q →
    wpAny (model X.prog X.w) X.A (setItem ov iv u) (fun _ s' => ∃ H', Inv X pins σ H' s' ∧ Q H') X.xe s
/-- a op= b, by values -/
abbrev TIp := V → V → Hp → VK → Prop
def PIp (X : Cx) (op : Operator) (t : TIp) : Prop :=
  ∀ (pins : List (Addr × Obj)) (s : Shared) (σ : St) (H : Hp) (x y : V) (v u : Value) (Q : VK), Inv X pins σ H s → RelV x v → RelV y u → t x y H Q →
    wpAny (model X.prog X.w) X.A (inplaceOp op v u) (EP X pins σ Q) X.xe s
section
variable {X : Cx} {pos : Pos}
def gName (i : Nat) : TG := fun v σ H Q => Q (σ.set i (some v)) H
theorem pg_name {i : Nat} {x : Str} (hN : X.N.Nodup) (hi : X.N[i]? = some x) (hx : Loc X.env.scope x) (hf : X.fn x = true ∨ X.env.scope.names.lookup x = some .local := by first | exact .inl rfl | exact .inr rfl | assumption) : PG X (.Name x pos) (gName i) := by
  constructor; intro pins s σ H v u Q I r h
  exact wpAny_assign_Name (store_ok I hN hi hx r (fun s' I' => ⟨_, H, I', h⟩) hf)
def gNil : TGs := fun vs σ H Q => vs = [] ∧ Q σ H
def gCons (t : TG) (u : TGs) : TGs := fun vs σ H Q => ∃ v r, vs = v :: r ∧ t v σ H fun σ' H' => u r σ' H' Q
theorem pgs_nil : PGs X [] gNil := by
  constructor; intro pins s σ H vs us Q I r h
  obtain ⟨e, h⟩ := h
  subst e
  cases r
  exact assignInOrder_nil ⟨σ, H, I, h⟩
theorem pgs_cons {e : Expr} {es : List Expr} {t : TG} {u : TGs} (h1 : PG X e t) (h2 : PGs X es u)
    (hs : (assignEach (e :: es) X.env).map (·.2) = assign e X.env :: (assignEach es X.env).map (·.2) := by rfl) : PGs X (e :: es) (gCons t u) := by
  constructor; intro pins s σ H vs us Q I r h
  obtain ⟨v, vr, e1, h⟩ := h
  subst e1
  cases r with
  | cons r rr =>
    rw [hs]
    refine assignInOrder_cons (thn (h1 pins s σ H _ _ _ I r h) fun _ s1 ⟨σ1, H1, I1, q1⟩ => ?_)
    exact h2 pins s1 σ1 H1 _ _ Q I1 rr q1
/-- (a, b, ..) = a tuple of that length -/
def gTup (K : PySem.W.Frag) (n : Nat) (t : TGs) : TG := fun v σ H Q => ∃ a xs, v = .ref a ∧ SqT K H a xs ∧ xs.length = n ∧ t xs σ H Q
theorem pg_tup {es : List Expr} {k : Nat} {t : TGs} {n : Nat} (hc : X.calm = true) (h : PGs X es t)
    (hn : (assignEach es X.env).length = n := by rfl) (hst : (assignEach es X.env).findIdx? (·.1) = none := by rfl) : PG X (.Tuple es k pos) (gTup X.K n t) := by
  constructor; intro pins s σ H v u Q I r hw
  obtain ⟨a, xs, e1, hq, hl, hw⟩ := hw
  subst e1
  cases r
  obtain ⟨its, rv, ht, hz⟩ := I.tuple hq
  refine assign_Tuple_tuple (I.ok.hd hc) ht (by simp [hn, ← hl, rv.length]) hst fun h' hx => ?_
  have I1 : Inv X pins σ H { s with heap := h' } := I.kept (t' := s.toks) fun b o e => hx b o (Nat.ne_of_lt (Heap.lt_size e)) e
  exact h pins _ σ H xs _ Q I1 (by simpa using rv) hw
/-- o[i] = .. -/
def gSub (to ti : TE) (t : TSet) : TG := fun v σ H Q => to σ H fun o H1 => ti σ H1 fun i H2 => t o i v H2 fun H3 => Q σ H3
theorem pg_sub {o i : Expr} {to ti : TE} {t : TSet} (ho : PE X o to) (hi : PE X i ti) (hs : PSet X t)
    (ha : ∀ v, assign (.Subscript o i pos) X.env v = (do
      let ov ← holding [v] (eval o X.env)
      let iv ← holding [v, ov] (eval i X.env)
      standAt pos
      holding [v, ov, iv] (setItem ov iv v)
      release [v, ov, iv] []) := by intro _; rfl) : PG X (.Subscript o i pos) (gSub to ti t) := by
  constructor; intro pins s σ H v u Q I r h
  rw [ha]
  refine wpAny_bind (wpAny_holding (thn (ho pins s σ H _ I h) fun ov s1 ⟨x, H1, I1, r1, q1⟩ => ?_))
  refine wpAny_bind (wpAny_holding (thn (hi pins s1 σ H1 _ I1 q1) fun iv s2 ⟨y, H2, I2, r2, q2⟩ => ?_))
  refine wpAny_bind (wpAny_standAt (wpAny_bind (wpAny_holding (thn (hs pins s2 σ H2 x y v ov iv u _ I2 r1 r2 r q2) fun _ s3 ⟨H3, I3, q3⟩ => ?_))))
  exact wpAny_release ⟨σ, H3, I3, q3⟩
/-- target = value -/
def tAsg (te : TE) (g : TG) : TS := fun D σ H => te σ H fun x H1 => g x σ H1 D.nx
theorem ps_asg {tg e : Expr} {te : TE} {g : TG} (he : PE X e te) (hg : PG X tg g) (hs : swapsWithSole [tg] e pos.line X.env = pure false := by rfl) (hw : swappedStores [tg] e X.env = pure none := by rfl)
    (h1 : (assignEach [tg] X.env).map (·.2) = [assign tg X.env] := by rfl) : PS X (.Assign [tg] e pos) (tAsg te g) := by
  constructor; intro pins s σ H D I h
  refine wpAny_Assign_stores (thn (he pins s σ H _ I h) fun v s1 ⟨x, H1, I1, r1, q1⟩ => ?_) hs hw
  rw [h1]
  exact thn (hg pins s1 σ H1 x v _ I1 r1 q1) fun _ s2 q => q
/-- name = value -/
theorem ps_set {i : Nat} {x : Str} {e : Expr} {te : TE} {pos' : Pos} (hN : X.N.Nodup) (hi : X.N[i]? = some x) (hx : Loc X.env.scope x) (he : PE X e te) (hs : swapsWith e (some (.Name x pos')) pos.line X.env = pure false := by rfl) (hf : X.fn x = true ∨ X.env.scope.names.lookup x = some .local := by first | exact .inl rfl | exact .inr rfl | assumption) :
    PS X (.Assign [.Name x pos'] e pos) (tAsg te (gName i)) := by
  constructor; intro pins s σ H D I h
  refine wpAny_Assign_Name (thn (he pins s σ H _ I h) fun v s1 ⟨y, H1, I1, r1, q1⟩ => ?_) hs
  exact store_ok I1 hN hi hx r1 (fun s2 I2 => ⟨_, H1, I2, q1⟩) hf
/-- name op= e -/
def tAug (i : Nat) (te : TE) (ti : TIp) : TS := fun D σ H => ∃ x, σ[i]? = some (some x) ∧ te σ H fun y H1 => ti x y H1 fun z H2 => D.nx (σ.set i (some z)) H2
theorem ps_aug {i : Nat} {x : Str} {e : Expr} {te : TE} {op : Operator} {ti : TIp} {pos' : Pos} (hN : X.N.Nodup) (hi : X.N[i]? = some x) (hx : Loc X.env.scope x) (he : PE X e te) (ho : PIp X op ti) (hf : X.fn x = true ∨ X.env.scope.names.lookup x = some .local := by first | exact .inl rfl | exact .inr rfl | assumption) :
    PS X (.AugAssign (.Name x pos') op e pos) (tAug i te ti) := by
  constructor; intro pins s σ H D I h
  obtain ⟨v, e1, h⟩ := h
  obtain ⟨m, hn, hl⟩ := I.loc
  have vis : Vis X.env.scope x := by rcases hx with k | k; exact .inl k; exact .inr (.inl k)
  obtain ⟨u, r, l⟩ := hl i x v hi e1 vis
  refine wpAny_AugAssign_Name ?_
  have go : wpAny (model X.prog X.w) X.A (eval e X.env) (fun w s₂ => wpAny (model X.prog X.w) X.A (inplaceOp op u w) (fun r s₃ => wpAny (model X.prog X.w) X.A (storeName X.env x r) (fun _ => SP X pins D .next) X.xe s₃) X.xe s₂) X.xe s := by
    refine thn (he pins s σ H _ I h) fun w s1 ⟨y, H1, I1, r1, q1⟩ => ?_
    refine thn (ho pins s1 σ H1 v y u w _ I1 r r1 q1) fun z s2 ⟨zv, H2, I2, r2, q2⟩ => ?_
    exact store_ok I2 hN hi hx r2 (fun s3 I3 => ⟨_, H2, I3, q2⟩) hf
  rcases l with ⟨hk, hm⟩ | ⟨hk, c, hc, hcell⟩
  · exact wpAny_loadName_local I.ok.kind hk hn hm go
  · rcases hk with hk | hk
    · exact wpAny_loadName_cell I.ok.kind hk hc hcell go
    · rcases hx with k | k
      · have : X.env.scope.names.lookup x = some .free := hk
        rw [k] at this; cases this
      · have : X.env.scope.names.lookup x = some .free := hk
        rw [k] at this; cases this
/-- ints -/
def ipI (f : Int → Int → Int) : TIp := fun x y H Q => ∃ i j, x = .int i ∧ y = .int j ∧ Q (.int (f i j)) H
theorem ip_add : PIp X .Add (ipI fun i j => i + j) := by
  intro pins s σ H x y v u Q I r1 r2 h
  obtain ⟨i, j, e1, e2, q⟩ := h
  subst e1; subst e2
  obtain ⟨t, rfl⟩ := r1
  obtain ⟨t', rfl⟩ := r2
  exact iadd_int ⟨.int _, H, I.tok _, ⟨_, rfl⟩, q⟩
theorem ip_sub : PIp X .Sub (ipI fun i j => i - j) := by
  intro pins s σ H x y v u Q I r1 r2 h
  obtain ⟨i, j, e1, e2, q⟩ := h
  subst e1; subst e2
  obtain ⟨t, rfl⟩ := r1
  obtain ⟨t', rfl⟩ := r2
  exact isub_int ⟨.int _, H, I.tok _, ⟨_, rfl⟩, q⟩
end

/-! ### while -/
section
variable {X : Cx} {pos : Pos}
/-- the invariant W with its measure -/
def tWhile (c : TT) (tb : TS) : TS := fun D σ H => ∃ W : Nat → St → Hp → Prop, (∃ m, W m σ H) ∧ ∀ m σ H, W m σ H →
  c σ H fun b H1 => if b = true then ∃ N : St → Hp → Prop, (∀ σ' H', N σ' H' → ∃ m', m' < m ∧ W m' σ' H') ∧ tb { D with nx := N, ct := N, bk := D.nx } σ H1 else D.nx σ H1
theorem ps_while {c : Expr} {body : List Stmt} {tc : TT} {tb : TS} (hp : PassesOwn (model X.prog X.w) X.A X.env X.xe) (hc : PT X c tc) (hb : PSs X body tb) : PS X (.While c body [] pos) (tWhile tc tb) := by
  constructor; intro pins s σ H D I h
  obtain ⟨W, ⟨m0, w0⟩, turn⟩ := h
  refine wpAny_While (codeAny_whileLoop (fun n s' => ∃ σ' H', Inv X pins σ' H' s' ∧ W n σ' H') ?_ m0 ⟨σ, H, I, w0⟩)
  rintro n s1 ⟨σ1, H1, I1, w1⟩
  refine wpAny_passesOwn hp (thn (hc pins s1 σ1 H1 _ I1 (turn n σ1 H1 w1)) fun b s2 ⟨H2, I2, q2⟩ => ?_)
  cases b with
  | true =>
    obtain ⟨N, hN, q2⟩ := q2
    rw [if_pos rfl]
    refine wpAny_passesOwn hp (thn (hb pins s2 σ1 H2 _ I2 q2) fun f s3 q3 => ?_)
    cases f with
    | next =>
      obtain ⟨σ3, H3, I3, n3⟩ := q3
      obtain ⟨m', hm, w3⟩ := hN σ3 H3 n3
      exact ⟨m', hm, σ3, H3, I3, w3⟩
    | cont =>
      obtain ⟨σ3, H3, I3, n3⟩ := q3
      obtain ⟨m', hm, w3⟩ := hN σ3 H3 n3
      exact ⟨m', hm, σ3, H3, I3, w3⟩
    | brk => exact q3
    | ret v => exact q3
  | false =>
    rw [if_neg Bool.false_ne_true]
    exact wpAny_execs_nil ⟨σ1, H2, I2, q2⟩
end

/-! ### what a loop or a comprehension walks -/
/-- at turn i: it yields x (the heap may grow), or it stops -/
structure It where
  go : Nat → Hp → Prop
  yld : Nat → Hp → V → Hp → Prop
  stop : Nat → Hp → Prop
/-- the iterator's own objects may turn: they are not the frame's, not pinned, younger than the entry (or a comprehension's own) -/
def FpOk (X : Cx) (pins : List (Addr × Obj)) (H : Hp) (b : Addr) : Prop :=
  H b = none ∧ b ≠ X.env.locals ∧ b ∉ X.fs ∧ (b ∈ X.ex ∨ X.s₀.heap.objs.size ≤ b) ∧ (∀ x c, X.env.cells.lookup x = some c → c ≠ b) ∧ ∀ p ∈ X.pn ++ pins, p.1 ≠ b
theorem Inv.fpOk {X : Cx} {pins : List (Addr × Obj)} {σ : St} {H H' : Hp} {s : Shared} {b : Addr} (I : Inv X pins σ H s) (hb : s.heap.objs.size ≤ b) (hn : H' b = none) : FpOk X pins H' b := by
  refine ⟨hn, Nat.ne_of_gt (Nat.lt_of_lt_of_le I.lt hb), I.nofs hb, .inr (Nat.le_trans I.sz hb), fun x c e z => ?_, fun p hp z => ?_⟩
  · obtain ⟨v, q⟩ := I.cell x c e
    exact absurd (Nat.lt_of_lt_of_le q.lt (by rw [z]; exact hb)) (Nat.lt_irrefl _)
  · exact absurd (Nat.lt_of_lt_of_le (Heap.lt_size (I.pin p hp).1) (by rw [z]; exact hb)) (Nat.lt_irrefl _)
structure Turn (P : Program) (w : World) (K : PySem.W.Frag) (tg : Expr) (J : It) (fp : List Addr) (it : Addr) (tn : Nat → Heap → Prop) : Prop where
  mem : it ∈ fp
  obj : ∀ i h, tn i h → ∀ b ∈ fp, ∃ o, h.get? b = some o ∧ ∀ v, o.data ≠ .cell v
  keep : ∀ i h h', tn i h → (∀ b ∈ fp, ∀ o, h.get? b = some o → h'.get? b = some o) → tn i h'
  item : ∀ (X : Cx), X.prog = P → X.w = w → X.K = K → X.calm = true → ∀ (i : Nat) (pins : List (Addr × Obj)) (s : Shared) (σ : St) (H : Hp) (E : Value → Shared → Prop), Inv X pins σ H s → (∀ b ∈ fp, FpOk X pins H b) → tn i s.heap → J.go i H →
    wpAny (model P w) X.A (pyNext (.ref it)) (fun r s1 => ∃ u, r = some u ∧
      wpAny (model P w) X.A (letOwnedTupleGo tg (.ref it) u) (fun _ s2 => ∃ x H', Inv X pins σ H' s2 ∧ RelV x u ∧ J.yld i H x H' ∧ tn (i + 1) s2.heap ∧ ∀ b ∈ fp, H' b = none) E s1) E s
  done : ∀ (X : Cx), X.prog = P → X.w = w → X.K = K → X.calm = true → ∀ (i : Nat) (pins : List (Addr × Obj)) (s : Shared) (σ : St) (H : Hp) (E : Value → Shared → Prop), Inv X pins σ H s → (∀ b ∈ fp, FpOk X pins H b) → tn i s.heap → J.stop i H →
    wpAny (model P w) X.A (pyNext (.ref it)) (fun r s1 => r = none ∧ Inv X pins σ H s1) E s
  self : ∀ (A : Around) (i : Nat) (s : Shared) (Q : Value → Shared → Prop) (E : Value → Shared → Prop), tn i s.heap → Q (.ref it) s → wpAny (model P w) A (pyIter (.ref it)) Q E s
abbrev TI := St → Hp → (It → Hp → Prop) → Prop
/-- an iterator has come -/
def PIE (X : Cx) (pins : List (Addr × Obj)) (σ : St) (tg : Expr) (R : It → Hp → Prop) (itv : Value) (s2 : Shared) : Prop :=
  ∃ (it : Addr) (fp : List Addr) (tn : Nat → Heap → Prop) (J : It) (H' : Hp), itv = .ref it ∧ Inv X pins σ H' s2 ∧ Turn X.prog X.w X.K tg J fp it tn ∧ tn 0 s2.heap ∧ (∀ b ∈ fp, FpOk X pins H' b) ∧ R J H'
structure PI (X : Cx) (tg iter : Expr) (wi : TI) : Prop where
  run : ∀ (pins : List (Addr × Obj)) (s : Shared) (σ : St) (H : Hp) (R : It → Hp → Prop), Inv X pins σ H s → wi σ H R →
    wpAny (model X.prog X.w) X.A (eval iter X.env) (fun v s1 => wpAny (model X.prog X.w) X.A (pyIter v) (PIE X pins σ tg R) X.xe s1) X.xe s
instance {X : Cx} {tg iter : Expr} {wi : TI} : CoeFun (PI X tg iter wi) fun _ => ∀ (pins : List (Addr × Obj)) (s : Shared) (σ : St) (H : Hp) (R : It → Hp → Prop), Inv X pins σ H s → wi σ H R →
    wpAny (model X.prog X.w) X.A (eval iter X.env) (fun v s1 => wpAny (model X.prog X.w) X.A (pyIter v) (PIE X pins σ tg R) X.xe s1) X.xe s := ⟨PI.run⟩

/-- the step ahead of the store is nothing for an iterator that keeps no tuple -/
theorem go_of {M : Model} {A : Around} {E : Value → Shared → Prop} {s : Shared} {tg : Expr} {it : Addr} {u : Value} {o : Obj} {n : String} {vs : Array Value} {Q : Unit → Shared → Prop} (ho : s.heap.get? it = some o) (hc : o.cls = .type n) (hd : o.data = .fields vs)
    (hn : ["enumerate", "zip", "dict_itemiterator", "dict_reverseitemiterator", "odict_iterator", "itertools.zip_longest", "itertools.pairwise"].contains n = false) (hQ : Q () s) : wpAny M A (letOwnedTupleGo tg (.ref it) u) Q E s := by
  unfold letOwnedTupleGo
  cases tg <;> first
    | exact wpAny_pure hQ
    | (cases u <;> first
        | exact wpAny_pure hQ
        | (refine wpAny_bind (wpAny_load ho ?_)
           rw [hc, hd]
           show wpAny M A (if (["enumerate", "zip", "dict_itemiterator", "dict_reverseitemiterator", "odict_iterator", "itertools.zip_longest", "itertools.pairwise"].contains n && vs[0]? == some (rawInt _)) = true then _ else _) Q E s
           rw [if_neg (by intro h; rw [hn, Bool.false_and] at h; cases h)]
           exact wpAny_pure hQ))

/-- the list at a, as it stands at each turn (a loop may append to it) -/
def Itl (K : PySem.W.Frag) (a : Addr) : It :=
  ⟨fun i H => ∃ xs x, SqL K H a xs ∧ xs[i]? = some x, fun i H x H' => H' = H ∧ ∀ xs, SqL K H a xs → xs[i]? = some x, fun i H => ∃ xs, SqL K H a xs ∧ xs.length ≤ i⟩
def Itt (K : PySem.W.Frag) (a : Addr) : It :=
  ⟨fun i H => ∃ xs x, SqT K H a xs ∧ xs[i]? = some x, fun i H x H' => H' = H ∧ ∀ xs, SqT K H a xs → xs[i]? = some x, fun i H => ∃ xs, SqT K H a xs ∧ xs.length ≤ i⟩
/-- lo, lo + 1, .. (n of them) -/
def Itr (lo : Int) (n : Nat) : It := ⟨fun i _ => i < n, fun i H x H' => H' = H ∧ x = .int (lo + i), fun i _ => n ≤ i⟩
theorem turn_list {P : Program} {w : World} {K : PySem.W.Frag} {tg : Expr} (a it : Addr) : Turn P w K tg (Itl K a) [it] it (fun i h => h.IsListIter it a i) where
  mem := by simp
  obj := fun i h st b hb => by
    have e : b = it := by simpa using hb
    subst e
    obtain ⟨o, e, c, d⟩ := st
    exact ⟨o, e, fun v z => by rw [d] at z; cases z⟩
  keep := fun i h h' st k => st.at fun o e => k it (by simp) o e
  item := by
    intro X hP hw hK hc i pins s σ H E I hf st hg
    subst hP hw hK
    obtain ⟨xs, x, hq, hx⟩ := hg
    obtain ⟨its, rv, p, hz⟩ := I.list hq
    obtain ⟨u, hu, ru⟩ := rv.get hx
    obtain ⟨f0, f1, f2, f3, f4, f5⟩ := hf it (by simp)
    refine wpAny_pyNext_list_item st p.isList (x := u) (by simpa using hu) fun h' st' sb => ?_
    have I1 : Inv X pins σ H { s with heap := h' } := I.turned (t' := s.toks) (fun b o hb e => (sb.2 b hb).trans e) f0 f1 f3 f4 f5
    obtain ⟨o, e, c, d⟩ := id st'
    exact ⟨u, rfl, go_of (s := { s with heap := h' }) e c d (by decide) ⟨x, H, I1, ru, ⟨rfl, fun ys hy => by rw [I.list_inj hy hq]; exact hx⟩, st', fun b hb => (hf b hb).1⟩⟩
  done := by
    intro X hP hw hK hc i pins s σ H E I hf st hg
    subst hP hw hK
    obtain ⟨xs, hq, hx⟩ := hg
    obtain ⟨its, rv, p, hz⟩ := I.list hq
    obtain ⟨f0, f1, f2, f3, f4, f5⟩ := hf it (by simp)
    have hl := rv.length
    exact wpAny_pyNext_list_end (I.ok.hd hc) st p.isList (by simp; omega) fun h' eb => ⟨rfl, I.turned (t' := s.toks) (fun b o hb e => eb b o hb e) f0 f1 f3 f4 f5⟩
  self := fun _ _ _ _ _ st h => wpAny_pyIter_listiter st h
theorem turn_range {P : Program} {w : World} {K : PySem.W.Frag} {tg : Expr} (it : Addr) (lo : Int) (n : Nat) : Turn P w K tg (Itr lo n) [it] it (fun i h => IsRangeIter h it (lo + (i : Nat) * 1) ((n : Int) - (i : Nat)) 1) where
  mem := by simp
  obj := fun i h st b hb => by
    have e : b = it := by simpa using hb
    subst e
    exact ⟨_, st, fun v z => by
      have z' : Data.fields _ = Data.cell v := z
      cases z'⟩
  keep := fun i h h' st k => k it (by simp) _ st
  item := by
    intro X hP hw hK hc i pins s σ H E I hf st hg
    subst hP hw hK
    obtain ⟨f0, f1, f2, f3, f4, f5⟩ := hf it (by simp)
    have W := Walks.range (prog := X.prog) (w := X.w) (I.ok.hd hc) it lo 1 n
    refine W.item i s _ _ hg st fun v h' tk hv st' kk => ?_
    obtain ⟨t, rfl⟩ := hv
    have I1 : Inv X pins σ H { s with heap := h', toks := tk } := I.turned (fun b o hb e => kk b o (by simpa using hb) e) f0 f1 f3 f4 f5
    refine ⟨_, rfl, go_of (s := { s with heap := h', toks := tk }) (n := "range_iterator") st' rfl rfl (by decide) ⟨.int (lo + i), H, I1, ⟨t, ?_⟩, ⟨rfl, rfl⟩, st', fun b hb => (hf b hb).1⟩⟩
    rw [Int.mul_one]
  done := by
    intro X hP hw hK hc i pins s σ H E I hf st hg
    subst hP hw hK
    obtain ⟨f0, f1, f2, f3, f4, f5⟩ := hf it (by simp)
    exact wpAny_pyNext_range_end (I.ok.hd hc) st (by have : n ≤ i := hg; omega) fun h' eb => ⟨rfl, I.turned (t' := s.toks) (fun b o hb e => eb b o hb e) f0 f1 f3 f4 f5⟩
  self := fun _ _ _ _ _ st h => wpAny_pyIter_rangeiter st h
end L2

namespace L2
open PySem PySem.Spec PyProof.Rows
section
variable {X : Cx} {tg : Expr}
def iList (K : PySem.W.Frag) (tl : TE) : TI := fun σ H R => tl σ H fun x H1 => ∃ a, x = .ref a ∧ (∃ xs, SqL K H1 a xs) ∧ R (Itl K a) H1
theorem pi_list {l : Expr} {tl : TE} (hl : PE X l tl) : PI X tg l (iList X.K tl) := by
  constructor; intro pins s σ H R I h
  refine thn (hl pins s σ H _ I h) fun v s1 ⟨x, H1, I1, r1, q1⟩ => ?_
  obtain ⟨a, e, ⟨xs, hq⟩, q⟩ := q1
  subst e
  cases r1
  obtain ⟨its, rv, p, hz⟩ := I1.list hq
  refine wpAny_pyIter_list p.isList ?_
  refine ⟨s1.heap.objs.size, [s1.heap.objs.size], _, _, H1, rfl, I1.kept (t' := s1.toks) fun b o e => Heap.get?_push_of_some _ e, turn_list a _, ⟨_, Heap.get?_push_size _ rfl, rfl, rfl⟩, fun b hb => ?_, q⟩
  have e : b = s1.heap.objs.size := by simpa using hb
  subst e
  exact I1.fpOk (Nat.le_refl _) (I1.hok.fresh (Nat.le_refl _))
/-- a range object just made, walked -/
theorem range_it {pins : List (Addr × Obj)} {σ : St} {H : Hp} {s : Shared} {R : It → Hp → Prop} {E : Value → Shared → Prop} {lo hi : Int} {t u v : Tok} {tk : Nat} (I : Inv X pins σ H s) (h1 : -(2 ^ 62) ≤ lo) (h2 : lo < 2 ^ 62) (h3 : -(2 ^ 62) ≤ hi) (h4 : hi < 2 ^ 62)
    (q : R (Itr lo (hi - lo).toNat) H) : wpAny (model X.prog X.w) X.A (pyIter (.ref s.heap.objs.size)) (PIE X pins σ tg R) E { s with heap := s.heap.push { cls := .type "range", data := .fields #[.int lo t, .int hi u, .int 1 v] }, toks := tk } := by
  refine wpAny_pyIter_range (IsRange.new ..) (small_one h1 h2 h3 h4) ?_
  have I1 : Inv X pins σ H { s with heap := s.heap.push { cls := .type "range", data := .fields #[.int lo t, .int hi u, .int 1 v] }, toks := tk } := I.kept fun b o e => Heap.get?_push_of_some _ e
  refine ⟨(s.heap.push { cls := .type "range", data := .fields #[.int lo t, .int hi u, .int 1 v] }).objs.size, [(s.heap.push { cls := .type "range", data := .fields #[.int lo t, .int hi u, .int 1 v] }).objs.size], _, _, H, rfl,
    I1.kept (t' := tk) fun b o e => Heap.get?_push_of_some _ e, turn_range _ lo (hi - lo).toNat, ?_, fun b hb => ?_, q⟩
  · have e1 : lo + ((0 : Nat) : Int) * 1 = lo := by simp
    have e2 : (((hi - lo).toNat : Nat) : Int) - ((0 : Nat) : Int) = Builtin.Range.rangeSize lo hi 1 := by rw [rangeSize_one]; split <;> omega
    show IsRangeIter _ _ (lo + ((0 : Nat) : Int) * 1) ((((hi - lo).toNat : Nat) : Int) - ((0 : Nat) : Int)) 1
    rw [e1, e2]
    exact Heap.get?_push_size _ rfl
  · have e : b = (s.heap.push { cls := .type "range", data := .fields #[.int lo t, .int hi u, .int 1 v] }).objs.size := by simpa using hb
    subst e
    exact I1.fpOk (Nat.le_refl _) (I1.hok.fresh (Nat.le_refl _))
def iRng1 (ta : TA) : TI := fun σ H R => ta σ H fun vs H1 => ∃ j : Int, vs = [.int j] ∧ -(2 ^ 62) ≤ j ∧ j < 2 ^ 62 ∧ R (Itr 0 j.toNat) H1
def iRng2 (ta : TA) : TI := fun σ H R => ta σ H fun vs H1 => ∃ i j : Int, vs = [.int i, .int j] ∧ (-(2 ^ 62) ≤ i ∧ i < 2 ^ 62 ∧ -(2 ^ 62) ≤ j ∧ j < 2 ^ 62) ∧ R (Itr i (j - i).toNat) H1
theorem pi_range1 {a : Expr} {ta : TA} {p pos : Pos} (hg : Gl X "range") (hm : X.mg "range" = none) (ha : PA X [a] ta) (hs : starEach [a] X.env = [(false, eval a X.env)] := by rfl) : PI X tg (.Call (.Name "range" p) [a] [] pos) (iRng1 ta) := by
  constructor; intro pins s σ H R I h
  refine Call_ (ld_blt I hg hm boot_range (PyProof.Rows.callWith_type1 (thn (ha pos pins s σ H _ I h) fun us s1 ⟨vs, H1, I1, r1, q1⟩ => ?_) hs rfl))
  obtain ⟨j, e, q1, q2, q⟩ := q1
  subst e
  cases r1 with
  | cons r rr =>
    cases rr
    obtain ⟨t, rfl⟩ := r
    exact call_range_1 (range_it I1 (by omega) (by omega) q1 q2 (by simpa using q))
theorem pi_range2 {a b : Expr} {ta : TA} {p pos : Pos} (hg : Gl X "range") (hm : X.mg "range" = none) (ha : PA X [a, b] ta) (hs : starEach [a, b] X.env = [(false, eval a X.env), (false, eval b X.env)] := by rfl) (hs2 : starEach [b] X.env = [(false, eval b X.env)] := by rfl) :
    PI X tg (.Call (.Name "range" p) [a, b] [] pos) (iRng2 ta) := by
  constructor; intro pins s σ H R I h
  refine Call_ (ld_blt I hg hm boot_range (PyProof.Rows.callWith_type1 (thn (ha pos pins s σ H _ I h) fun us s1 ⟨vs, H1, I1, r1, q1⟩ => ?_) (by rw [hs, hs2]) (by rw [hs2]; rfl)))
  obtain ⟨i, j, e, ⟨q1, q2, q3, q4⟩, q⟩ := q1
  subst e
  cases r1 with
  | cons r rr =>
    cases rr with
    | cons r' rr =>
      cases rr
      obtain ⟨t, rfl⟩ := r
      obtain ⟨t', rfl⟩ := r'
      exact call_range_2 (range_it I1 q1 q2 q3 q4 q)

/-! ### for -/
/-- W: the invariant by the turn and a measure; N: what the body is to reach -/
def tFor (wi : TI) (g : TG) (tb : TS) : TS := fun D σ H => wi σ H fun J H1 => ∃ W : Nat → Nat → St → Hp → Prop, (∃ m, W 0 m σ H1) ∧ ∀ i m σ H, W i m σ H →
  (J.stop i H ∧ D.nx σ H) ∨ (J.go i H ∧ ∃ N : St → Hp → Prop, (∀ σ' H', N σ' H' → ∃ m', m' < m ∧ W (i + 1) m' σ' H') ∧ ∀ x H', J.yld i H x H' → g x σ H' fun σ2 H2 => tb { D with nx := N, ct := N, bk := D.nx } σ2 H2)
/-- the records at fp as they stand -/
def pinsAt (fp : List Addr) (h : Heap) : List (Addr × Obj) := fp.filterMap fun b => (h.get? b).map fun o => (b, o)
theorem mem_pinsAt {fp : List Addr} {h : Heap} {b : Addr} {o : Obj} (hb : b ∈ fp) (e : h.get? b = some o) : (b, o) ∈ pinsAt fp h := List.mem_filterMap.mpr ⟨b, hb, by rw [e]; rfl⟩
theorem of_pinsAt {fp : List Addr} {h : Heap} {p : Addr × Obj} (hp : p ∈ pinsAt fp h) : p.1 ∈ fp ∧ h.get? p.1 = some p.2 := by
  obtain ⟨b, hb, e⟩ := List.mem_filterMap.mp hp
  cases q : h.get? b with
  | none => rw [q] at e; cases e
  | some o =>
    rw [q] at e
    have e' : (b, o) = p := Option.some.inj e
    subst e'
    exact ⟨hb, q⟩
theorem Inv.pinned {pins : List (Addr × Obj)} {σ : St} {H : Hp} {s : Shared} {fp : List Addr} (I : Inv X pins σ H s) (hf : ∀ b ∈ fp, FpOk X pins H b) (ho : ∀ b ∈ fp, ∃ o, s.heap.get? b = some o ∧ ∀ v, o.data ≠ .cell v) : Inv X (pins ++ pinsAt fp s.heap) σ H s :=
  I.pins_of fun p hp => (List.mem_append.mp hp).elim (fun z => I.pin p (List.mem_append_right _ z)) fun z => by
    obtain ⟨hb, e⟩ := of_pinsAt z
    obtain ⟨f0, f1, f2, _⟩ := hf p.1 hb
    obtain ⟨o, e', d⟩ := ho p.1 hb
    rw [e] at e'; cases e'
    exact ⟨e, f0, f1, f2, d⟩
theorem Inv.unpinned {pins pl : List (Addr × Obj)} {σ : St} {H : Hp} {s : Shared} (I : Inv X (pins ++ pl) σ H s) : Inv X pins σ H s := I.pins_of fun p hp => I.pin p (List.mem_append_right _ (List.mem_append_left _ hp))
theorem ps_for {iter : Expr} {body : List Stmt} {wi : TI} {g : TG} {tb : TS} {pos : Pos} (hp : PassesOwn (model X.prog X.w) X.A X.env X.xe) (hc : X.calm = true) (hi : PI X tg iter wi) (hg : PG X tg g) (hb : PSs X body tb)
    (hs : ∀ x, foldedSetIterable iter X.env x = pure x := by intro _; rfl) : PS X (.For tg iter body [] pos) (tFor wi g tb) := by
  constructor; intro pins s σ H D I h
  refine wpAny_For (thn (hi pins s σ H _ I h) fun v s1 h1 => thn h1 fun itv s2 h2 => ?_) hs
  obtain ⟨it, fp, tn, J, H2, e, I2, T, st2, f2, W, ⟨m0, w0⟩, turn⟩ := h2
  subst e
  -- what stays true of the iterator's objects through the loop
  have stat : ∀ {H' : Hp}, (∀ b ∈ fp, H' b = none) → ∀ b ∈ fp, FpOk X pins H' b := fun hn b hb => ⟨hn b hb, (f2 b hb).2⟩
  refine codeAny_forLoop_any (fun n s' => ∃ i σ' H', Inv X pins σ' H' s' ∧ tn i s'.heap ∧ (∀ b ∈ fp, H' b = none) ∧ W i n σ' H') ?_ m0 ⟨0, σ, H2, I2, st2, fun b hb => (f2 b hb).1, w0⟩
  rintro n s3 ⟨i, σ3, H3, I3, st3, fr3, w3⟩
  rcases turn i n σ3 H3 w3 with ⟨stop, qn⟩ | ⟨go, N, hN, step⟩
  · refine wpAny_passesOwn hp (thn (T.done X rfl rfl rfl hc i pins s3 σ3 H3 X.xe I3 (stat fr3) st3 stop) fun r s4 ⟨hr, I4⟩ => ?_)
    subst hr
    exact wpAny_execs_nil ⟨σ3, H3, I4, qn⟩
  · refine wpAny_passesOwn hp (thn (T.item X rfl rfl rfl hc i pins s3 σ3 H3 X.xe I3 (stat fr3) st3 go) fun r s4 ⟨u, hr, h4⟩ => ?_)
    subst hr
    refine wpAny_passesOwn hp (thn h4 fun _ s5 ⟨x, H5, I5, r5, y5, st5, fr5⟩ => ?_)
    have I5' := I5.pinned (stat fr5) (T.obj _ _ st5)
    refine wpAny_passesOwn hp (thn (hg _ s5 σ3 H5 x u _ I5' r5 (step x H5 y5)) fun _ s6 ⟨σ6, H6, I6, q6⟩ => ?_)
    refine wpAny_passesOwn hp (thn (hb _ s6 σ6 H6 _ I6 q6) fun f s7 q7 => ?_)
    have again : ∀ {σ7 : St} {H7 : Hp}, Inv X (pins ++ pinsAt fp s5.heap) σ7 H7 s7 → N σ7 H7 → ∃ m, m < n ∧ ∃ i σ' H', Inv X pins σ' H' s7 ∧ tn i s7.heap ∧ (∀ b ∈ fp, H' b = none) ∧ W i m σ' H' := fun {σ7 H7} I7 n7 => by
      obtain ⟨m', hm, w7⟩ := hN σ7 H7 n7
      refine ⟨m', hm, i + 1, σ7, H7, I7.unpinned, T.keep _ _ _ st5 fun b hb o e => (I7.pin (b, o) (List.mem_append_right _ (List.mem_append_right _ (mem_pinsAt hb e)))).1, fun b hb => ?_, w7⟩
      obtain ⟨o, e, d⟩ := T.obj _ _ st5 b hb
      exact (I7.pin (b, o) (List.mem_append_right _ (List.mem_append_right _ (mem_pinsAt hb e)))).2.1
    cases f with
    | next => obtain ⟨σ7, H7, I7, n7⟩ := q7; exact again I7 n7
    | cont => obtain ⟨σ7, H7, I7, n7⟩ := q7; exact again I7 n7
    | brk => obtain ⟨σ7, H7, I7, q7⟩ := q7; exact ⟨σ7, H7, I7.unpinned, q7⟩
    | ret v => obtain ⟨x7, σ7, H7, I7, r7, q7⟩ := q7; exact ⟨x7, σ7, H7, I7.unpinned, r7, q7⟩
end

/-! ### the forms one uses -/
/-- over a list that the body leaves as it is -/
theorem for_list {K : PySem.W.Frag} {a : Addr} {xs : List V} {g : TG} {tb : TS} {D : Ends} {σ : St} {H : Hp} (Pv : Nat → St → Hp → Prop) (h0 : Pv 0 σ H) (hl : ∀ i σ H, i ≤ xs.length → Pv i σ H → SqL K H a xs)
    (hs : ∀ i x σ H, xs[i]? = some x → Pv i σ H → g x σ H fun σ2 H2 => tb { D with nx := Pv (i + 1), ct := Pv (i + 1), bk := D.nx } σ2 H2) (hd : ∀ σ H, Pv xs.length σ H → D.nx σ H) :
    ∃ W : Nat → Nat → St → Hp → Prop, (∃ m, W 0 m σ H) ∧ ∀ i m σ H, W i m σ H →
      ((Itl K a).stop i H ∧ D.nx σ H) ∨ ((Itl K a).go i H ∧ ∃ N : St → Hp → Prop, (∀ σ' H', N σ' H' → ∃ m', m' < m ∧ W (i + 1) m' σ' H') ∧ ∀ x H', (Itl K a).yld i H x H' → g x σ H' fun σ2 H2 => tb { D with nx := N, ct := N, bk := D.nx } σ2 H2) := by
  refine ⟨fun i m σ H => m = xs.length - i ∧ i ≤ xs.length ∧ Pv i σ H, ⟨xs.length, by simp, Nat.zero_le _, h0⟩, ?_⟩
  rintro i m σ H ⟨rfl, hi, p⟩
  have q := hl i σ H hi p
  by_cases hlt : i < xs.length
  · refine .inr ⟨⟨xs, xs[i], q, by simp [hlt]⟩, Pv (i + 1), fun σ' H' p' => ⟨xs.length - (i + 1), by omega, rfl, hlt, p'⟩, fun x H' y => ?_⟩
    obtain ⟨e, y⟩ := y
    subst e
    exact hs i x σ _ (y xs q) p
  · have e : i = xs.length := by omega
    subst e
    exact .inl ⟨⟨xs, q, Nat.le_refl _⟩, hd σ H p⟩
theorem for_range {lo : Int} {n : Nat} {g : TG} {tb : TS} {D : Ends} {σ : St} {H : Hp} (Pv : Nat → St → Hp → Prop) (h0 : Pv 0 σ H)
    (hs : ∀ i σ H, i < n → Pv i σ H → g (.int (lo + i)) σ H fun σ2 H2 => tb { D with nx := Pv (i + 1), ct := Pv (i + 1), bk := D.nx } σ2 H2) (hd : ∀ σ H, Pv n σ H → D.nx σ H) :
    ∃ W : Nat → Nat → St → Hp → Prop, (∃ m, W 0 m σ H) ∧ ∀ i m σ H, W i m σ H →
      ((Itr lo n).stop i H ∧ D.nx σ H) ∨ ((Itr lo n).go i H ∧ ∃ N : St → Hp → Prop, (∀ σ' H', N σ' H' → ∃ m', m' < m ∧ W (i + 1) m' σ' H') ∧ ∀ x H', (Itr lo n).yld i H x H' → g x σ H' fun σ2 H2 => tb { D with nx := N, ct := N, bk := D.nx } σ2 H2) := by
  refine ⟨fun i m σ H => m = n - i ∧ i ≤ n ∧ Pv i σ H, ⟨n, by simp, Nat.zero_le _, h0⟩, ?_⟩
  rintro i m σ H ⟨rfl, hi, p⟩
  by_cases hlt : i < n
  · refine .inr ⟨hlt, Pv (i + 1), fun σ' H' p' => ⟨n - (i + 1), by omega, rfl, hlt, p'⟩, fun x H' y => ?_⟩
    obtain ⟨e, y⟩ := y
    subst e y
    exact hs i σ _ hlt p
  · have e : i = n := by omega
    subst e
    exact .inl ⟨Nat.le_refl _, hd σ H p⟩
end L2

namespace L2
open PySem PySem.Spec PyProof.Rows

abbrev R2 := V → V → Hp → VK → Prop
/-- a two-place operation on values: f is binaryOp op, inplaceOp op or compareOp op -/
def OpR (X : Cx) (f : Value → Value → Sem Value) (r : R2) : Prop :=
  ∀ (pins : List (Addr × Obj)) (s : Shared) (σ : St) (H : Hp) (x y : V) (v u : Value) (Q : VK), Inv X pins σ H s → RelV x v → RelV y u → r x y H Q →
    wpAny (model X.prog X.w) X.A (f v u) (EP X pins σ Q) X.xe s
/-- a one-place operation -/
def UnR (X : Cx) (f : Value → Sem Value) (r : V → Hp → VK → Prop) : Prop :=
  ∀ (pins : List (Addr × Obj)) (s : Shared) (σ : St) (H : Hp) (x : V) (v : Value) (Q : VK), Inv X pins σ H s → RelV x v → r x H Q →
    wpAny (model X.prog X.w) X.A (f v) (EP X pins σ Q) X.xe s
/-- a call of a value that is known (a builtin, a type) with values -/
def CallR (X : Cx) (f : Value) (r : List V → Hp → VK → Prop) : Prop :=
  ∀ (pins : List (Addr × Obj)) (s : Shared) (σ : St) (H : Hp) (xs : List V) (us : List Value) (Q : VK), Inv X pins σ H s → Vals xs us → r xs H Q →
    wpAny (model X.prog X.w) X.A (call f us) (EP X pins σ Q) X.xe s
def tOp (r : R2) (ta tb : TE) : TE := fun σ H Q => ta σ H fun x H1 => tb σ H1 fun y H2 => r x y H2 Q
def tUn (r : V → Hp → VK → Prop) (ta : TE) : TE := fun σ H Q => ta σ H fun x H1 => r x H1 Q
/-- ints in, under C, and a value out -/
def rI (C : Int → Int → Prop) (g : Int → Int → V) : R2 := fun x y H Q => ∃ i j, x = .int i ∧ y = .int j ∧ C i j ∧ Q (g i j) H
def rI0 (g : Int → Int → V) : R2 := fun x y H Q => ∃ i j, x = .int i ∧ y = .int j ∧ Q (g i j) H
def rU (g : Int → V) : V → Hp → VK → Prop := fun x H Q => ∃ i, x = .int i ∧ Q (g i) H

section
variable {X : Cx} {a b c : Expr} {ta tb tc : TE} {pos : Pos}

theorem binT (ha : PE X a ta) (hb : PE X b tb) {pins : List (Addr × Obj)} {s : Shared} {σ : St} {H : Hp} {R : V → V → Hp → Prop} (I : Inv X pins σ H s)
    (h : ta σ H fun x H1 => tb σ H1 fun y H2 => R x y H2) {Q : Value → Shared → Prop} {f : Value → Value → Sem Value}
    (hf : ∀ v u s2 x y H2, Inv X pins σ H2 s2 → RelV x v → RelV y u → R x y H2 → wpAny (model X.prog X.w) X.A (f v u) Q X.xe s2) :
    wpAny (model X.prog X.w) X.A (eval a X.env) (fun v s₁ => wpAny (model X.prog X.w) X.A (eval b X.env) (fun u s₂ => wpAny (model X.prog X.w) X.A (f v u) Q X.xe s₂) X.xe s₁) X.xe s := by
  refine thn (ha pins s σ H _ I h) fun v s1 ⟨x, H1, I1, r1, q1⟩ => ?_
  refine thn (hb pins s1 σ H1 _ I1 q1) fun u s2 ⟨y, H2, I2, r2, q2⟩ => ?_
  exact hf v u s2 x y H2 I2 r1 r2 q2

theorem pe_op {op : Operator} {r : R2} (ho : OpR X (binaryOp op) r) (ha : PE X a ta) (hb : PE X b tb) : PE X (.BinOp a op b pos) (tOp r ta tb) := by
  constructor; intro pins s σ H Q I h
  exact wpAny_BinOp (binT ha hb I h fun v u s2 x y H2 I2 rx ry q => ho pins s2 σ H2 x y v u Q I2 rx ry q)
theorem pe_un {op : UnaryOp} {r : V → Hp → VK → Prop} (ho : UnR X (unaryOp op) r) (ha : PE X a ta) : PE X (.UnaryOp op a pos) (tUn r ta) := by
  constructor; intro pins s σ H Q I h
  exact UnaryOp_ (thn (ha pins s σ H _ I h) fun v s1 ⟨x, H1, I1, r1, q1⟩ => ho pins s1 σ H1 x v Q I1 r1 q1)
/-! ### ints -/
theorem opI {f : Value → Value → Sem Value} {C : Int → Int → Prop} {g : Int → Int → Int}
    (rule : ∀ (i j : Int) (t u : Tok) (s : Shared) (Q : Value → Shared → Prop) (E : Value → Shared → Prop), C i j → Q (.int (g i j) s.toks) { s with toks := s.toks + 1 } → wpAny (model X.prog X.w) X.A (f (.int i t) (.int j u)) Q E s) :
    OpR X f (rI C fun i j => .int (g i j)) := by
  intro pins s σ H x y v u Q I rx ry h
  obtain ⟨i, j, rfl, rfl, hc, q⟩ := h
  obtain ⟨t, rfl⟩ := rx
  obtain ⟨t', rfl⟩ := ry
  exact rule i j t t' s _ _ hc ⟨.int (g i j), H, I.tok _, ⟨_, rfl⟩, q⟩
theorem opI0 {f : Value → Value → Sem Value} {g : Int → Int → Int}
    (rule : ∀ (i j : Int) (t u : Tok) (s : Shared) (Q : Value → Shared → Prop) (E : Value → Shared → Prop), Q (.int (g i j) s.toks) { s with toks := s.toks + 1 } → wpAny (model X.prog X.w) X.A (f (.int i t) (.int j u)) Q E s) :
    OpR X f (rI0 fun i j => .int (g i j)) := by
  intro pins s σ H x y v u Q I rx ry h
  obtain ⟨i, j, rfl, rfl, q⟩ := h
  obtain ⟨t, rfl⟩ := rx
  obtain ⟨t', rfl⟩ := ry
  exact rule i j t t' s _ _ ⟨.int (g i j), H, I.tok _, ⟨_, rfl⟩, q⟩
theorem opB0 {f : Value → Value → Sem Value} {g : Int → Int → Bool}
    (rule : ∀ (i j : Int) (t u : Tok) (s : Shared) (Q : Value → Shared → Prop) (E : Value → Shared → Prop), Q (.bool (g i j)) s → wpAny (model X.prog X.w) X.A (f (.int i t) (.int j u)) Q E s) :
    OpR X f (rI0 fun i j => .bl (g i j)) := by
  intro pins s σ H x y v u Q I rx ry h
  obtain ⟨i, j, rfl, rfl, q⟩ := h
  obtain ⟨t, rfl⟩ := rx
  obtain ⟨t', rfl⟩ := ry
  exact rule i j t t' s _ _ ⟨.bl (g i j), H, I, rfl, q⟩

def CDiv (i j : Int) : Prop := 0 < j ∧ j < 1073741824
def CMul (i j : Int) : Prop := (-(2 ^ 64) < i ∧ i < 2 ^ 64) ∨ (-(2 ^ 64) < j ∧ j < 2 ^ 64)
theorem CMul.ok {i j : Int} (h : CMul i j) : IntMulOk i j := by
  rcases h with ⟨h1, h2⟩ | ⟨h1, h2⟩
  · exact .of_left (intBits_le_64 h1 h2)
  · exact .of_right (intBits_le_64 h1 h2)
theorem op_add : OpR X (binaryOp .Add) (rI0 fun i j => .int (i + j)) := opI0 fun _ _ _ _ _ _ _ q => add_int q
theorem op_sub : OpR X (binaryOp .Sub) (rI0 fun i j => .int (i - j)) := opI0 fun _ _ _ _ _ _ _ q => sub_int q
theorem op_mul : OpR X (binaryOp .Mult) (rI CMul fun i j => .int (i * j)) := opI fun _ _ _ _ _ _ _ hc q => mul_int q hc.ok
/-- // by a positive divisor -/
theorem op_fdiv : OpR X (binaryOp .FloorDiv) (rI CDiv fun i j => .int (i / j)) := opI fun i j _ _ _ _ _ hc q => by
  have h1 : (0 : Int) < j := hc.1
  have h2 : j < 1073741824 := hc.2
  exact floordiv_int (by omega) (by rw [Int.fdiv_eq_ediv_of_nonneg i (by omega)]; exact q) (.inl (PyProof.noPylong_small (by omega)))
/-- % by a positive divisor of any size -/
theorem op_mod : OpR X (binaryOp .Mod) (rI (fun _ j => 0 < j) fun i j => .int (i % j)) := opI fun i j _ _ _ _ _ hc q => by
  have h1 : (0 : Int) < j := hc
  exact mod_int' (by omega) (by rw [Int.fmod_eq_emod_of_nonneg i (by omega)]; exact q)
theorem unI {f : Value → Sem Value} {g : Int → Int}
    (rule : ∀ (i : Int) (t : Tok) (s : Shared) (Q : Value → Shared → Prop) (E : Value → Shared → Prop), Q (.int (g i) s.toks) { s with toks := s.toks + 1 } → wpAny (model X.prog X.w) X.A (f (.int i t)) Q E s) :
    UnR X f (rU fun i => .int (g i)) := by
  intro pins s σ H x v Q I rx h
  obtain ⟨i, rfl, q⟩ := h
  obtain ⟨t, rfl⟩ := rx
  exact rule i t s _ _ ⟨.int (g i), H, I.tok _, ⟨_, rfl⟩, q⟩
theorem un_neg : UnR X (unaryOp .USub) (rU fun i => .int (-i)) := unI fun _ _ _ _ _ q => neg_int q
/-! ### bools among ints: n += (a < b) -/
end

/-! ### comparisons -/
/-- the scalars that == tells apart as data does -/
def scal : V → V → Bool
  | .non, .non => true | .non, .int _ => true | .int _, .non => true | .non, .bl _ => true | .bl _, .non => true | .non, .str _ => true | .str _, .non => true
  | .int _, .int _ => true | .bl _, .bl _ => true | .str _, .str _ => true | .byt _, .byt _ => true
  | .int _, .str _ => true | .str _, .int _ => true | .bl _, .str _ => true | .str _, .bl _ => true
  | _, _ => false
def rEq : R2 := fun x y H Q => scal x y = true ∧ Q (.bl (decide (x = y))) H
def rNe : R2 := fun x y H Q => scal x y = true ∧ Q (.bl (!decide (x = y))) H

theorem dec_int {i j : Int} : decide (V.int i = V.int j) = (i == j) := by
  rw [Bool.eq_iff_iff]
  simp
theorem dec_bl {i j : Bool} : decide (V.bl i = V.bl j) = (i == j) := by
  rw [Bool.eq_iff_iff]
  simp
theorem dec_str {i j : Str} : decide (V.str i = V.str j) = (i == j) := by
  rw [Bool.eq_iff_iff]
  simp
theorem dec_byt {i j : Array UInt8} : decide (V.byt i = V.byt j) = (i.toList == j.toList) := by
  rw [Bool.eq_iff_iff]
  cases i
  cases j
  simp

section
variable {X : Cx} {a b c : Expr} {ta tb tc : TE} {pos : Pos}
theorem fin_bl {pins : List (Addr × Obj)} {σ : St} {H : Hp} {s : Shared} {Q : VK} {k k' : Bool} (I : Inv X pins σ H s) (q : Q (.bl k) H) (e : k = k') : EP X pins σ Q (.bool k') s := by
  subst e
  exact ⟨.bl k, H, I, rfl, q⟩
theorem op_eq : OpR X (compareOp .Eq) rEq := by
  intro pins s σ H x y v u Q I rx ry h
  obtain ⟨hs, q⟩ := h
  cases x with
  | non =>
    cases rx
    cases y with
    | non => cases ry; exact PySem.EqNone.eq_none_none (fin_bl I q (by simp))
    | bl j => cases ry; exact PySem.EqNone.eq_none_bool (fin_bl I q (by simp))
    | int j => obtain ⟨t', rfl⟩ := ry; exact PySem.EqNone.eq_none_int (fin_bl I q (by simp))
    | str j => obtain ⟨t', rfl⟩ := ry; exact PySem.EqNone.eq_none_str (fin_bl I q (by simp))
    | _ => exact absurd (show false = true from hs) Bool.false_ne_true
  | bl i =>
    cases rx
    cases y with
    | non => cases ry; exact PySem.EqNone.eq_bool_none (fin_bl I q (by simp))
    | bl j => cases ry; exact eq_bool (fin_bl I q dec_bl)
    | str j => obtain ⟨t', rfl⟩ := ry; exact PySem.EqMixed.eq_bool_str (fin_bl I q (by simp))
    | _ => exact absurd (show false = true from hs) Bool.false_ne_true
  | int i =>
    obtain ⟨t, rfl⟩ := rx
    cases y with
    | non => cases ry; exact PySem.EqNone.eq_int_none (fin_bl I q (by simp))
    | int j => obtain ⟨t', rfl⟩ := ry; exact eq_int (fin_bl I q dec_int)
    | str j => obtain ⟨t', rfl⟩ := ry; exact PySem.EqMixed.eq_int_str (fin_bl I q (by simp))
    | _ => exact absurd (show false = true from hs) Bool.false_ne_true
  | str i =>
    obtain ⟨t, rfl⟩ := rx
    cases y with
    | non => cases ry; exact PySem.EqNone.eq_str_none (fin_bl I q (by simp))
    | bl j => cases ry; exact PySem.EqMixed.eq_str_bool (fin_bl I q (by simp))
    | int j => obtain ⟨t', rfl⟩ := ry; exact PySem.EqMixed.eq_str_int (fin_bl I q (by simp))
    | str j => obtain ⟨t', rfl⟩ := ry; exact eq_str (fin_bl I q dec_str)
    | _ => exact absurd (show false = true from hs) Bool.false_ne_true
  | byt i =>
    obtain ⟨t, rfl⟩ := rx
    cases y with
    | byt j => obtain ⟨t', rfl⟩ := ry; exact PySem.W.eq_bytes (fin_bl I q dec_byt)
    | _ => exact absurd (show false = true from hs) Bool.false_ne_true
  | _ => cases y <;> exact absurd (show false = true from hs) Bool.false_ne_true
theorem op_ne : OpR X (compareOp .NotEq) rNe := by
  intro pins s σ H x y v u Q I rx ry h
  obtain ⟨hs, q⟩ := h
  cases x with
  | non =>
    cases rx
    cases y with
    | non => cases ry; exact PySem.EqNone.ne_none_none (fin_bl I q (by simp))
    | bl j => cases ry; exact PySem.EqNone.ne_none_bool (fin_bl I q (by simp))
    | int j => obtain ⟨t', rfl⟩ := ry; exact PySem.EqNone.ne_none_int (fin_bl I q (by simp))
    | str j => obtain ⟨t', rfl⟩ := ry; exact PySem.EqNone.ne_none_str (fin_bl I q (by simp))
    | _ => exact absurd (show false = true from hs) Bool.false_ne_true
  | bl i =>
    cases rx
    cases y with
    | non => cases ry; exact PySem.EqNone.ne_bool_none (fin_bl I q (by simp))
    | bl j => cases ry; exact ne_bool (fin_bl I q (congrArg not dec_bl))
    | str j => obtain ⟨t', rfl⟩ := ry; exact PySem.EqMixed.ne_bool_str (fin_bl I q (by simp))
    | _ => exact absurd (show false = true from hs) Bool.false_ne_true
  | int i =>
    obtain ⟨t, rfl⟩ := rx
    cases y with
    | non => cases ry; exact PySem.EqNone.ne_int_none (fin_bl I q (by simp))
    | int j => obtain ⟨t', rfl⟩ := ry; exact ne_int (fin_bl I q (congrArg not dec_int))
    | str j => obtain ⟨t', rfl⟩ := ry; exact PySem.EqMixed.ne_int_str (fin_bl I q (by simp))
    | _ => exact absurd (show false = true from hs) Bool.false_ne_true
  | str i =>
    obtain ⟨t, rfl⟩ := rx
    cases y with
    | non => cases ry; exact PySem.EqNone.ne_str_none (fin_bl I q (by simp))
    | bl j => cases ry; exact PySem.EqMixed.ne_str_bool (fin_bl I q (by simp))
    | int j => obtain ⟨t', rfl⟩ := ry; exact PySem.EqMixed.ne_str_int (fin_bl I q (by simp))
    | str j => obtain ⟨t', rfl⟩ := ry; exact ne_str (fin_bl I q (congrArg not dec_str))
    | _ => exact absurd (show false = true from hs) Bool.false_ne_true
  | byt i =>
    obtain ⟨t, rfl⟩ := rx
    cases y with
    | byt j => obtain ⟨t', rfl⟩ := ry; exact PySem.W.ne_bytes (fin_bl I q (congrArg not dec_byt))
    | _ => exact absurd (show false = true from hs) Bool.false_ne_true
  | _ => cases y <;> exact absurd (show false = true from hs) Bool.false_ne_true

theorem op_lt : OpR X (compareOp .Lt) (rI0 fun i j => .bl (decide (i < j))) := opB0 fun _ _ _ _ _ _ _ q => lt_int q
theorem op_gt : OpR X (compareOp .Gt) (rI0 fun i j => .bl (decide (j < i))) := opB0 fun _ _ _ _ _ _ _ q => gt_int q
theorem op_ge : OpR X (compareOp .GtE) (rI0 fun i j => .bl (decide (j ≤ i))) := opB0 fun _ _ _ _ _ _ _ q => ge_int q
theorem op_notN : OpR X (compareOp .IsNot) (fun x y H Q => y = .non ∧ Q (.bl (!decide (x = .non))) H) := by
  intro pins s σ H x y v u Q I rx ry h
  obtain ⟨rfl, q⟩ := h
  cases ry
  refine isnot_none_gen (fin_bl I q ?_)
  cases x <;> first
    | (cases rx; rfl)
    | (obtain ⟨t, rfl⟩ := rx; rfl)

/-- two rules for one operation: by cases -/
theorem OpR.or {f : Value → Value → Sem Value} {r r' : R2} (h : OpR X f r) (h' : OpR X f r') : OpR X f (fun x y H Q => r x y H Q ∨ r' x y H Q) := by
  intro pins s σ H x y v u Q I rx ry q
  rcases q with q | q
  · exact h pins s σ H x y v u Q I rx ry q
  · exact h' pins s σ H x y v u Q I rx ry q

theorem nomark (b : Expr) {op : CmpOp} (h : op ≠ .In := by decide) (h2 : op ≠ .NotIn := by decide) : behindInMarks op b = false := by
  have e1 : (op == CmpOp.In) = false := by cases op <;> first | rfl | exact absurd rfl h
  have e2 : (op == CmpOp.NotIn) = false := by cases op <;> first | rfl | exact absurd rfl h2
  cases b <;> simp [behindInMarks, e1, e2]
/-- a comparison as a value; hm: nomark b, or (for in, not in) by with_unfolding_all rfl -/
theorem pe_cmpR {op : CmpOp} {r : R2} (ho : OpR X (compareOp op) r) (ha : PE X a ta) (hb : PE X b tb) (hm : behindInMarks op b = false) : PE X (.Compare a [op] [b] pos) (tOp r ta tb) := by
  constructor; intro pins s σ H Q I h
  exact wpAny_Compare1 (binT ha hb I h fun v u s2 x y H2 I2 rx ry q => ho pins s2 σ H2 x y v u Q I2 rx ry q) hm
/-- a reading of a value as a test -/
def tTest (t : TE) : TT := fun σ H Q => t σ H fun x H' => ∃ k, x = .bl k ∧ Q k H'
theorem pt_cmpR {op : CmpOp} {r : R2} (ho : OpR X (compareOp op) r) (ha : PE X a ta) (hb : PE X b tb) (hm : behindInMarks op b = false) : PT X (.Compare a [op] [b] pos) (tTest (tOp r ta tb)) := by
  constructor; intro pins s σ H Q I h
  refine wpAny_isTrue_Compare1 (thn (ha pins s σ H _ I h) fun v s1 ⟨x, H1, I1, r1, q1⟩ => thn (hb pins s1 σ H1 _ I1 q1) fun u s2 ⟨y, H2, I2, r2, q2⟩ =>
    thn (ho pins s2 σ H2 x y v u _ I2 r1 r2 q2) fun c s3 ⟨z, H3, I3, r3, k, e, q3⟩ => ?_) hm
  subst e
  cases r3
  exact wpAny_truthy_bool ⟨H3, I3, q3⟩
/-! ### truth -/
theorem line63 : (sizeLine : Nat) < 2 ^ 63 := by rw [sizeLine_eq]; decide
/-! ### strs and bytes -/
/-! ### scalar builtins, by CallR -/
theorem vals1 {x : V} {us : List Value} (r : Vals [x] us) : ∃ u, us = [u] ∧ RelV x u := by
  cases r with
  | cons r1 r2 => cases r2; exact ⟨_, rfl, r1⟩
theorem vals2 {x y : V} {us : List Value} (r : Vals [x, y] us) : ∃ u w', us = [u, w'] ∧ RelV x u ∧ RelV y w' := by
  cases r with
  | cons r1 r2 =>
    cases r2 with
    | cons r3 r4 => cases r4; exact ⟨_, _, rfl, r1, r3⟩
/-- len of a str, a bytes, a list, a tuple -/
def LenV (K : PySem.W.Frag) (x : V) (H : Hp) (n : Nat) : Prop :=
  match x with
  | .str y => y.length ≤ sizeLine ∧ n = y.length
  | .byt y => y.size ≤ sizeLine ∧ n = y.size
  | .ref p => (∃ xs, SqL K H p xs ∧ n = xs.length) ∨ ∃ xs, SqT K H p xs ∧ n = xs.length
  | _ => False
theorem call_len : CallR X (.builtin "len") (fun xs H Q => ∃ x n, xs = [x] ∧ LenV X.K x H n ∧ Q (.int n) H) := by
  intro pins s σ H xs us Q I r h
  obtain ⟨x, n, rfl, e, q⟩ := h
  obtain ⟨u, rfl, rx⟩ := vals1 r
  have hl := line63
  have hs : sizeLine = 16777216 := sizeLine_eq
  cases x with
  | str y =>
    obtain ⟨t, rfl⟩ := rx
    obtain ⟨hy, e'⟩ : y.length ≤ sizeLine ∧ n = y.length := e
    subst e'
    exact len_str (by omega) ⟨.int _, H, I.tok _, ⟨_, rfl⟩, q⟩
  | byt y =>
    obtain ⟨t, rfl⟩ := rx
    obtain ⟨hy, e'⟩ : y.size ≤ sizeLine ∧ n = y.size := e
    subst e'
    exact PySem.W.len_bytes (by omega) ⟨.int _, H, I.tok _, ⟨_, rfl⟩, q⟩
  | ref p =>
    cases rx
    have e' : (∃ xs, SqL X.K H p xs ∧ n = xs.length) ∨ ∃ xs, SqT X.K H p xs ∧ n = xs.length := e
    rcases e' with ⟨xs, hx, e'⟩ | ⟨xs, hx, e'⟩
    · subst e'
      obtain ⟨its, r', pl, hz⟩ := I.list hx
      have hlen := r'.length
      exact Calls.call_len_list pl.isList (by simp only [List.size_toArray]; omega) ⟨.int xs.length, H, I.tok _, ⟨_, by simp only [List.size_toArray]; rw [hlen]⟩, q⟩
    · subst e'
      obtain ⟨its, r', pl, hz⟩ := I.tuple hx
      have hlen := r'.length
      exact len_tuple pl (by simp only [List.size_toArray]; omega) ⟨.int xs.length, H, I.tok _, ⟨_, by simp only [List.size_toArray]; rw [hlen]⟩, q⟩
  | _ => exact (show False from e).elim
end
end L2

namespace L2
open PySem PySem.Spec PyProof.Rows

/-! ### an instance, its attributes a map -/
structure ObjM (h : Heap) (x dx C : Addr) (mA : Str → Option Value) : Prop where
  obj : h.get? x = some (PySem.W.instObj C dx)
  ns : h.Ns1 dx mA
  ne : dx ≠ x

theorem lookIn_ns {h : Heap} {dx : Addr} {mA : Str → Option Value} (n : h.Ns1 dx mA) : ∃ od, h.get? dx = some od ∧ ∀ name, PySem.W.lookIn name od = some (mA name) := by
  obtain ⟨o, es, ep, ho, hd, hk, _, hm⟩ := n
  refine ⟨o, ho, fun name => ?_⟩
  have e := hm name
  unfold nsFind findBy at e
  rw [← Array.find?_toList] at e
  unfold PySem.W.lookIn
  rw [hd]
  dsimp only
  split
  · rename_i y q
    rw [q] at e
    exact congrArg some e
  · rename_i q
    rw [q] at e
    have a : es.toList.any (·.refKey) = false := by
      rw [List.any_eq_false]
      intro y hy
      obtain ⟨z, t, hkey⟩ := hk y (Array.mem_toList_iff.mp hy)
      simp [DictEntry.refKey, hkey]
    have a' : ¬ es.toList.any (·.refKey) = true := by rw [a]; exact Bool.false_ne_true
    rw [if_neg a']
    exact congrArg some e

theorem ObjM.look {h : Heap} {x dx C : Addr} {mA : Str → Option Value} (I : ObjM h x dx C mA) : ∃ od, PySem.W.InstAt h x (PySem.W.instObj C dx) C (some od) ∧ ∀ name, PySem.W.lookIn name od = some (mA name) :=
  let ⟨od, ho, hl⟩ := lookIn_ns I.ns
  ⟨od, ⟨I.obj, rfl, rfl, ho⟩, hl⟩

section
variable {prog : Program} {w : World} {A : Around} {E : Value → Shared → Prop} {s : Shared} {K : PySem.W.Frag} {x dx C f : Addr} {mA : Str → Option Value} {name : Str} {v : Value}

end

/-! ### the attributes as a list of pairs -/
section
variable {P : Program} {w : World} {H H' : Hp} {h h' : Heap} {a C dx : Addr} {fs fs' : List (Str × V)}
theorem ins_get (hok : HOk P w H h) (e : H a = some (.ins C dx fs)) : ∃ mA, ObjM h a dx C mA ∧ (∀ f, RelO (fs.lookup f) (mA f)) ∧ PySem.Within mA (fs.map (·.1)) ∧ fs.length ≤ 1000 ∧ H dx = some (.own a) := by
  obtain ⟨d, z, ne, ob, mA, n, r, q⟩ := (show ObjOk P w H h a (.ins C dx fs) from hok a _ e)
  exact ⟨mA, ⟨ob, n, ne⟩, r, q, z, d⟩
end

/-! ### what of the text a class must have -/
structure Cls (K : PySem.W.Frag) (C : Addr) : Prop where
  pg : PySem.W.plainGet K C Str.empty = true
  hd : PySem.W.hasDictIn K C = true
  po : PySem.W.plainOver K C = true
  sa : PySem.W.findIn K (.ref C) "__setattr__" = some (some (.builtin "object.__setattr__"))
theorem Cls.get {K : PySem.W.Frag} {C : Addr} (c : Cls K C) (f : Str) : PySem.W.plainGet K C f = true := c.pg
/-- a constant of the class -/
structure Con (K : PySem.W.Frag) (C : Addr) (f : Str) (v : V) (u : Value) : Prop where
  at_ : PySem.W.findIn K (.ref C) f = some (some u)
  rel : RelV v u
  get : PySem.W.specialIn K u "__get__" = some none
  cp : PySem.W.copiedNames.contains f = false
/-- a method: a plain def of the class or of one above it -/
structure Meth (K : PySem.W.Frag) (C : Addr) (m : Str) (f : Addr) : Prop where
  at_ : PySem.W.findIn K (.ref C) m = some (some (.ref f))
  fn : PySem.W.isFn K (.ref f) = true
  kp : PySem.W.keepIn K (.ref f) = true

section
variable {X : Cx} {pins : List (Addr × Obj)} {σ : St} {H : Hp} {s : Shared} {a C dx : Addr} {fs : List (Str × V)} {f : Str} {v : V} {A : Around} {E : Value → Shared → Prop}

/-- a new instance, tracked, without attributes -/
theorem Inv.made (I : Inv X pins σ H s) : Inv X pins σ (upd (upd H s.heap.objs.size (.own (s.heap.objs.size + 1))) (s.heap.objs.size + 1) (.ins C s.heap.objs.size []))
    { s with heap := (s.heap.push PySem.W.emptyDict).push (PySem.W.instObj C s.heap.objs.size) } := by
  have e1 : (s.heap.push PySem.W.emptyDict).get? s.heap.objs.size = some PySem.W.emptyDict := Heap.get?_push_size s.heap rfl
  have e2 : ((s.heap.push PySem.W.emptyDict).push (PySem.W.instObj C s.heap.objs.size)).get? (s.heap.objs.size + 1) = some (PySem.W.instObj C s.heap.objs.size) := by
    have := Heap.get?_push_size (s.heap.push PySem.W.emptyDict) (o := PySem.W.instObj C s.heap.objs.size) rfl
    rwa [Heap.size_push] at this
  have e3 : (s.heap.push PySem.W.emptyDict).Ns s.heap.objs.size (fun _ => none) := ⟨PySem.W.emptyDict, #[], _, e1, rfl, (fun e he => absurd he (by simp)), fun _ => rfl⟩
  have I1 := I.laid (a := s.heap.objs.size) (o := .own (s.heap.objs.size + 1)) (h' := s.heap.push PySem.W.emptyDict) (t' := s.toks) (fun b u q => Heap.get?_push_of_some _ q) (Nat.le_refl _) ⟨_, e1⟩
  refine I1.laid (a := s.heap.objs.size + 1) (o := .ins C s.heap.objs.size []) (t' := s.toks) (fun b u q => Heap.get?_push_of_some _ q) (Nat.le_of_eq (Heap.size_push _ _)) ?_
  have ne : s.heap.objs.size ≠ s.heap.objs.size + 1 := Nat.ne_of_lt (Nat.lt_succ_self _)
  refine ⟨by rw [upd_ne ne, upd_same], Nat.zero_le _, ne, e2, fun _ => none, (Heap.Ns1.of_empty e3).at fun o q => Heap.get?_push_of_some _ q, fun _ => True.intro, fun y hy => absurd rfl hy⟩

end

/-! ### readings and rules -/
section
variable {X : Cx} {o e value : Expr} {f : Str} {pos pos' tpos : Pos} {ta tv : TE}
end

/-! ### isinstance -/
section
variable {X : Cx} {pins : List (Addr × Obj)} {σ : St} {H : Hp} {s : Shared} {A : Around} {E : Value → Shared → Prop} {Q : Value → Shared → Prop} {c : Value} {b : Bool}
/-- the type of a value, as the fragment's deciders take it; for an instance its class -/
inductive TyOf (K : PySem.W.Frag) (H : Hp) : V → Value → Prop where
  | non : TyOf K H .non (.type "NoneType")
  | bl (x : Bool) : TyOf K H (.bl x) (.type "bool")
  | int (i : Int) : TyOf K H (.int i) (.type "int")
  | str (x : Str) : TyOf K H (.str x) (.type "str")
  | flt (x : UInt64) : TyOf K H (.flt x) (.type "float")
  | lst {a : Addr} {xs : List V} (e : H a = some (.lst xs)) : TyOf K H (.ref a) (.type "list")
  | frz {a : Addr} {o : Obj} {xs : List V} (e : H a = some (.frz o (.lst xs))) : TyOf K H (.ref a) (.type "list")
  | tup {a : Addr} {xs : List V} (e : H a = some (.tup xs)) : TyOf K H (.ref a) (.type "tuple")
  | dK {a : Addr} {kvs : List (Key × V)} (e : H a = some (.dK kvs)) : TyOf K H (.ref a) (.type "dict")
  | dT {a : Addr} {kvs : List (List Key × V)} (e : H a = some (.dT kvs)) : TyOf K H (.ref a) (.type "dict")
  | ins {a C dx : Addr} {fs : List (Str × V)} (e : H a = some (.ins C dx fs)) (cl : Cls K C) (ha : PySem.W.findIn K (.ref C) "__class__" = some (some (.builtin "object.__class__")))
      (hn : PySem.W.specialIn K (.builtin "object.__class__") "__get__" = some (some (.builtin "getset_descriptor.__get__"))) (htk : PySem.W.takesIn K (.builtin "object.__class__") = some true)
      (hm : PySem.W.mroIn K C (.type "object") = some true) : TyOf K H (.ref a) (.ref C)
/-- isinstance(x, c) for one class c, a built-in or an own one: kitOne's answer -/
theorem isinst_ok {x : V} {u t : Value} (I : Inv X pins σ H s) (rx : RelV x u) (ty : TyOf X.K H x t) (e : PySem.W.kitOne X.K t c = some b) (h : ∀ tk, Q (.bool b) { s with toks := tk }) :
    wpAny (model X.prog X.w) A (call (.builtin "isinstance") [u, c]) Q E s := by
  cases ty with
  | non => cases (show u = Value.none from rx); exact PySem.W.kia_one PySem.W.kitx_none I.kIn True.intro e (fun z => nomatch z) h
  | bl y => cases (show u = Value.bool y from rx); exact PySem.W.kia_one PySem.W.kitx_bool I.kIn True.intro e (fun z => nomatch z) h
  | int i => obtain ⟨t, q⟩ := (show ∃ t, u = Value.int i t from rx); cases q; exact PySem.W.kia_one PySem.W.kitx_int I.kIn True.intro e (fun z => nomatch z) h
  | str y => obtain ⟨t, q⟩ := (show ∃ t, u = Value.str y t from rx); cases q; exact PySem.W.kia_one PySem.W.kitx_str I.kIn True.intro e (fun z => nomatch z) h
  | flt y => obtain ⟨t, q⟩ := (show ∃ t, u = Value.float y t from rx); cases q; exact PySem.W.kia_one PySem.W.kitx_float I.kIn True.intro e (fun z => nomatch z) h
  | @lst a xs ea =>
    cases (show u = Value.ref a from rx)
    obtain ⟨_, _, n, _, h1⟩ := (show ObjOk X.prog X.w H s.heap a (.lst xs) from I.hok a _ ea)
    exact PySem.W.kia_one PySem.W.kitx_list I.kIn ⟨_, h1, rfl⟩ e (fun z => nomatch z) h
  | @frz a ob xs ea =>
    cases (show u = Value.ref a from rx)
    obtain ⟨_, _, _, n, _, h1⟩ := (show ObjOk X.prog X.w H s.heap a (.frz ob (.lst xs)) from I.hok a _ ea)
    exact PySem.W.kia_one PySem.W.kitx_list I.kIn ⟨_, h1, rfl⟩ e (fun z => nomatch z) h
  | @tup a xs ea =>
    cases (show u = Value.ref a from rx)
    obtain ⟨_, _, _, p⟩ := (show ObjOk X.prog X.w H s.heap a (.tup xs) from I.hok a _ ea)
    obtain ⟨o, h1, h2, _⟩ := p
    exact PySem.W.kia_one PySem.W.kitx_tuple I.kIn ⟨o, h1, h2⟩ e (fun z => nomatch z) h
  | @dK a kvs ea =>
    cases (show u = Value.ref a from rx)
    obtain ⟨_, _, vs, _, p⟩ := (show ObjOk X.prog X.w H s.heap a (.dK kvs) from I.hok a _ ea)
    obtain ⟨o, es, ep, h1, h2, _⟩ := p
    exact PySem.W.kia_one PySem.W.kitx_dict I.kIn ⟨o, h1, h2.1⟩ e (fun z => nomatch z) h
  | @dT a kvs ea =>
    cases (show u = Value.ref a from rx)
    obtain ⟨_, _, xs, _, o, es, ep, h1, h2, _⟩ := (show ObjOk X.prog X.w H s.heap a (.dT kvs) from I.hok a _ ea)
    exact PySem.W.kia_one PySem.W.kitx_dict I.kIn ⟨o, h1, h2.1⟩ e (fun z => nomatch z) h
  | @ins a C dx fs ea cl ha hn htk hm =>
    cases (show u = Value.ref a from rx)
    obtain ⟨mA, O, _⟩ := ins_get I.hok ea
    obtain ⟨od, J, _⟩ := O.look
    exact PySem.W.kia_one (PySem.W.kitx_own (cl.get _) cl.hd ha hn htk hm) I.kIn J e (fun z => nomatch z) h
end
end L2

namespace L2
open PySem PySem.Spec PyProof.Rows

/-! ### room -/
structure Room (k : Nat) (A : Around) : Prop where
  hd : A.handled = none
  dp : A.depth + 3 * k + 5 < recursionLimit
  un : A.units + 16 * k + 200 < cLine
theorem Room.mono {j k : Nat} {A : Around} (r : Room k A) (h : j ≤ k) : Room j A := ⟨r.hd, by have := r.dp; omega, by have := r.un; omega⟩
theorem Room.deeper {k : Nat} {A : Around} (r : Room (k + 1) A) (env : Env) : Room k (A.deeper env) :=
  ⟨r.hd, by have := r.dp; show A.depth + 1 + 3 * k + 5 < _; omega, by have := r.un; show A.units + 3 + 16 * k + 200 < _; omega⟩
theorem Room.in1 {k : Nat} {A : Around} (r : Room (k + 1) A) : Room k A.in1 :=
  ⟨r.hd, by have := r.dp; show A.depth + 3 * k + 5 < _; omega, by have := r.un; show A.units + 1 + 16 * k + 200 < _; omega⟩
theorem Room.depth {k : Nat} {A : Around} (r : Room k A) : A.depth < recursionLimit := by have := r.dp; omega
theorem Room.units {k : Nat} {A : Around} (r : Room k A) : A.units + 64 < cLine := by have := r.un; omega
/-! ### argument lists and displays -/
def tNil : TA := fun _ H Q => Q [] H
def tCons (ta : TE) (tr : TA) : TA := fun σ H Q => ta σ H fun x H1 => tr σ H1 fun xs H2 => Q (x :: xs) H2
section
variable {X : Cx} {e : Expr} {es : List Expr} {te : TE} {t : TA} {pos : Pos}
theorem pa_nil : PA X [] tNil := ⟨fun _ _ _ _ H Q I h => Calls.spliced_nil ⟨[], H, I, .nil, h⟩⟩
theorem pa_cons (ha : PE X e te) (hr : PA X es t) (hs : starEach (e :: es) X.env = (false, eval e X.env) :: starEach es X.env := by rfl) : PA X (e :: es) (tCons te t) := by
  constructor; intro pos pins s σ H Q I h
  rw [hs]
  show wpAny _ _ (spliced ((false, eval e X.env) :: backTo pos (starEach es X.env))) _ _ s
  refine Calls.spliced_cons (thn (ha pins s σ H _ I h) fun u s1 ⟨x, H1, I1, r1, q1⟩ => ?_)
  exact thn (hr pos pins s1 σ H1 _ I1 q1) fun us s2 ⟨xs, H2, I2, r2, q2⟩ => ⟨x :: xs, H2, I2, .cons r1 r2, q2⟩

/-- a tuple, a list of written items -/
def tTup (t : TA) : TE := fun σ H Q => t σ H fun xs H1 => xs.length ≤ sizeLine ∧ ∀ p, H1 p = none → Q (.ref p) (upd H1 p (.tup xs))
def tLst (t : TA) : TE := fun σ H Q => t σ H fun xs H1 => xs.length ≤ sizeLine ∧ ∀ p, H1 p = none → Q (.ref p) (upd H1 p (.lst xs))
theorem pe_tup {x1} (h : PA X es t) : PE X (.Tuple es x1 pos) (tTup t) := by
  constructor; intro pins s σ H Q I hq
  refine wpAny_Tuple_spliced (thn (h pos pins s σ H _ I hq) fun us s1 ⟨xs, H1, I1, r, z, q⟩ => ⟨by rw [← r.length]; exact z, ?_⟩)
  have hf : H1 s1.heap.objs.size = none := I1.hok.fresh (Nat.le_refl _)
  refine ⟨.ref s1.heap.objs.size, upd H1 s1.heap.objs.size (.tup xs), I1.laid (t' := s1.toks) (fun b u e => Heap.get?_push_of_some _ e) (Nat.le_refl _) ?_, rfl, q _ hf⟩
  exact ⟨z, us, r, ⟨_, Heap.get?_push_size _ rfl, rfl, _, rfl⟩⟩
theorem pe_lst (h : PA X es t) : PE X (.List es pos) (tLst t) := by
  constructor; intro pins s σ H Q I hq
  refine wpAny_List_spliced (thn (h pos pins s σ H _ I hq) fun us s1 ⟨xs, H1, I1, r, z, q⟩ => ⟨by rw [← r.length]; exact z, ?_⟩)
  have hf : H1 s1.heap.objs.size = none := I1.hok.fresh (Nat.le_refl _)
  refine ⟨.ref s1.heap.objs.size, upd H1 s1.heap.objs.size (.lst xs), I1.laid (t' := s1.toks) (fun b u e => Heap.get?_push_of_some _ e) (Nat.le_refl _) ?_, rfl, q _ hf⟩
  exact ⟨z, us, 0, r, Heap.get?_push_size _ rfl⟩
end

/-! ### what a def promises -/
/-- a def's promise: the bound arguments in the parameters' order, the heap, the wanted end, the wanted exception -/
abbrev Sp := List V → Hp → VK → XK → Prop
/-- how an exception lies behind a call (file 08 gives it): the callers' frames, abstract heap and state ahead of the call, the wish, the exception, the state -/
abbrev CXT := List Env → Hp → Shared → XK → Value → Shared → Prop

/-- the state at a call -/
structure Env0 (P : Program) (w : World) (K : PySem.W.Frag) (mg : Str → Option Value) (base : Heap) (A : Around) (outer : List Env) (s : Shared) (H : Hp) : Prop where
  frames : A.frames = some outer
  mod : Mod K mg base
  bs : ∀ b o, base.get? b = some o → s.heap.get? b = some o ∧ H b = none
  bsz : base.objs.size ≤ s.heap.objs.size
  funs : s.heap.FunFrames base outer
  frf : ∀ b ∈ frs outer, H b = none
  hok : HOk P w H s.heap
  bare : AllBare s.gens
/-- a call's end -/
def CE (outer : List Env) (P : Program) (w : World) (H : Hp) (s : Shared) (Q : VK) (u : Value) (s' : Shared) : Prop :=
  ∃ v H', s'.os = s.os ∧ AllBare s'.gens ∧ Un (frs outer) [] H H' s.heap s'.heap ∧ HOk P w H' s'.heap ∧ RelV v u ∧ Q v H'
def CR (CX : CXT) (outer : List Env) (P : Program) (w : World) (H : Hp) (s : Shared) (Q : VK) (E : XK) (r : Result) (s' : Shared) : Prop :=
  match r with
  | .ok (.ret u) => CE outer P w H s Q u s'
  | .ok _ => False
  | .error e => CX outer H s E e s'
structure FnOk (P : Program) (w : World) (K : PySem.W.Frag) (mg : Str → Option Value) (base : Heap) (CX : CXT) (k : Nat) (f : Addr) (fd : FuncData) (ps : List Str) (sp : Sp) : Prop where
  len : ∀ vs H Q E, sp vs H Q E → vs.length = ps.length
  run : ∀ (A : Around) (outer : List Env) (s : Shared) (H : Hp) (args : Args) (us : List Value) (vs : List V) (Q : VK) (E : XK), Room k A → Env0 P w K mg base A outer s H → BindsTo s fd args (ps.zip us) → Vals vs us → sp vs H Q E →
    codeAny (model P w) A (.call (.ref f) args) (CR CX outer P w H s Q E) s
theorem FnOk.mono {P : Program} {w : World} {K : PySem.W.Frag} {mg : Str → Option Value} {base : Heap} {CX : CXT} {j k : Nat} {f : Addr} {fd : FuncData} {ps : List Str} {sp : Sp} (F : FnOk P w K mg base CX j f fd ps sp) (h : j ≤ k) :
    FnOk P w K mg base CX k f fd ps sp := ⟨F.len, fun A outer s H args us vs Q E hr => F.run A outer s H args us vs Q E (hr.mono h)⟩
/-- a weaker promise -/
theorem FnOk.imp {P : Program} {w : World} {K : PySem.W.Frag} {mg : Str → Option Value} {base : Heap} {CX : CXT} {k : Nat} {f : Addr} {fd : FuncData} {ps : List Str} {sp sp' : Sp} (F : FnOk P w K mg base CX k f fd ps sp)
    (h : ∀ vs H Q E, sp' vs H Q E → sp vs H Q E) : FnOk P w K mg base CX k f fd ps sp' :=
  ⟨fun vs H Q E q => F.len vs H Q E (h _ _ _ _ q), fun A outer s H args us vs Q E hr he hb hv hs => F.run A outer s H args us vs Q E hr he hb hv (h _ _ _ _ hs)⟩

theorem Env0.in1 {P : Program} {w : World} {K : PySem.W.Frag} {mg : Str → Option Value} {base : Heap} {A : Around} {outer : List Env} {s : Shared} {H : Hp} (e : Env0 P w K mg base A outer s H) :
    Env0 P w K mg base A.in1 outer s H := ⟨e.frames, e.mod, e.bs, e.bsz, e.funs, e.frf, e.hok, e.bare⟩

section
variable {X : Cx} {pins : List (Addr × Obj)} {σ : St} {H : Hp} {s s' : Shared}
/-- from a body: what a callee wants -/
theorem Inv.env0 (I : Inv X pins σ H s) : Env0 X.prog X.w X.K X.mg X.base X.A X.stack s H :=
  ⟨I.ok.frames, I.ok.mod, I.bs, Nat.le_trans I.ok.bsz I.sz, I.stack, I.stkFree, I.hok, I.bare⟩
/-- behind a call -/
theorem Inv.after {Q : VK} {u : Value} (I : Inv X pins σ H s) (h : CE X.stack X.prog X.w H s Q u s') : EP X pins σ Q u s' := by
  obtain ⟨v, H', os, bare, un, hok, r, q⟩ := h
  obtain ⟨hh, g, d, t, os'⟩ := s'
  obtain rfl : os' = s.os := os
  exact ⟨v, H', I.call (h' := hh) (g' := g) (d' := d) (t' := t) (ch := []) un hok bare (fun b z => absurd z (by simp)), r, q⟩
end

/-! ### calls -/
/-- f(..): the written arguments, then the defaults dvs; E: what is wanted of an exception -/
def tCall (sp : Sp) (dvs : List V) (E : XK) (t : TA) : TE := fun σ H Q => t σ H fun vs H1 => sp (vs ++ dvs) H1 Q E
/-- how the parameters are bound: us the positional arguments, kw the keywords' values by name, ds the defaults that fill up -/
def Binds (K : PySem.W.Frag) (fd : FuncData) (ps : List Str) (ds : List Value) : Prop :=
  ∀ (s : Shared) (us : List Value), K.In s.heap → (us ++ ds).length = ps.length → BindsTo s fd ⟨us, []⟩ (ps.zip (us ++ ds))
/-- every parameter is given -/
theorem Binds.all {K : PySem.W.Frag} {fd : FuncData} {ps : List Str} (h : ∀ us : List Value, us.length = ps.length → bindArgs fd ⟨us, []⟩ = pure (ps.zip us)) : Binds K fd ps [] := fun s us _ hl => by
  rw [List.append_nil] at hl ⊢
  exact .of_eq (h us hl)

/-- an exception of a callee reaches what this body wants of exceptions -/
def Passes (CX : CXT) (X : Cx) (E : XK) : Prop := ∀ (pins : List (Addr × Obj)) (σ : St) (H : Hp) (s : Shared) (e : Value) (s' : Shared), Inv X pins σ H s → CX X.stack H s E e s' → X.xe e s'

section
variable {X : Cx} {CX : CXT} {k : Nat} {f C : Addr} {fd : FuncData} {ps : List Str} {sp : Sp} {dvs : List V} {ds : List Value} {E : XK} {x m : Str} {p pos apos : Pos} {e o : Expr} {es : List Expr} {ta : TE} {t : TA}

/-- the callee runs -/
theorem run_fn {pins : List (Addr × Obj)} {σ : St} {H : Hp} {s : Shared} {Q : VK} {us : List Value} {vs : List V} (F : FnOk X.prog X.w X.K X.mg X.base CX k f fd ps sp) (hr : Room k X.A) (hb : Binds X.K fd ps ds) (hd : Vals dvs ds) (hx : Passes CX X E)
    (I : Inv X pins σ H s) (r : Vals vs us) (h : sp (vs ++ dvs) H Q E) : wpAny (model X.prog X.w) X.A (call (.ref f) us) (EP X pins σ Q) X.xe s := by
  have r2 : Vals (vs ++ dvs) (us ++ ds) := r.append hd
  have hl : (us ++ ds).length = ps.length := by rw [← r2.length]; exact F.len _ _ _ _ h
  refine wpAny_call (codeAny_mono (F.run X.A X.stack s H ⟨us, []⟩ (us ++ ds) (vs ++ dvs) Q E hr I.env0 (hb s us I.kIn hl) r2 h) fun r s' hq => ?_)
  cases r with
  | error e => exact hx pins σ H s e s' I hq
  | ok fl =>
    cases fl with
    | ret u => exact I.after hq
    | next => exact False.elim hq
    | brk => exact False.elim hq
    | cont => exact False.elim hq

theorem pe_call (F : FnOk X.prog X.w X.K X.mg X.base CX k f fd ps sp) (hr : Room k X.A) (hg : Gl X x) (hm : X.mg x = some (.ref f)) (hk : PySem.W.keepIn X.K (.ref f) = true) (hb : Binds X.K fd ps ds) (hd : Vals dvs ds) (hx : Passes CX X E)
    (ha : PA X (e :: es) t) (hdb : (x == ("__debug__" : Str)) = false := by decide) (he : starEach (e :: es) X.env = (false, eval e X.env) :: starEach es X.env := by rfl) (hpl : (backTo pos (starEach es X.env)).any (·.1) = false := by rfl) :
    PE X (.Call (.Name x p) (e :: es) [] pos) (tCall sp dvs E t) := by
  constructor; intro pins s σ H Q I h
  refine wpAny_Call_Name_kw (ld_glob I hg hm ?_ hdb)
  refine PySem.W.callWith_K (h₀ := X.base) I.ok.mod.kin hk (thn (ha pos pins s σ H _ I h) fun us s1 ⟨vs, H1, I1, r, q⟩ => ⟨I1.kIn, ?_⟩) he hpl
  exact run_fn F hr hb hd hx I1 r q
/-- what a class must have to be made -/
structure Mk (K : PySem.W.Frag) (C f : Addr) : Prop where
  makes : PySem.W.makesIn K C = true
  init : PySem.W.findIn K (.ref C) "__init__" = some (some (.ref f))
  fn : PySem.W.isFn K (.ref f) = true
  kp : PySem.W.keepIn K (.ref C) = true

end

/-! ### keywords -/
/-- the values of the keywords, from the left -/
structure PK (X : Cx) (kws : List Keyword) (t : TA) : Prop where
  run : ∀ (pos : Pos) (pins : List (Addr × Obj)) (s : Shared) (σ : St) (H : Hp) (Q : List V → Hp → Prop), Inv X pins σ H s → t σ H Q → wpAny (model X.prog X.w) X.A (evalAll ((backToKw pos (keywordEach kws X.env)).map (·.2))) (AP X pins σ Q) X.xe s
instance {X : Cx} {kws : List Keyword} {t : TA} : CoeFun (PK X kws t) fun _ => ∀ (pos : Pos) (pins : List (Addr × Obj)) (s : Shared) (σ : St) (H : Hp) (Q : List V → Hp → Prop), Inv X pins σ H s → t σ H Q → wpAny (model X.prog X.w) X.A (evalAll ((backToKw pos (keywordEach kws X.env)).map (·.2))) (AP X pins σ Q) X.xe s := ⟨PK.run⟩
section
variable {X : Cx} {CX : CXT} {k : Nat} {f C : Addr} {fd : FuncData} {ps ks : List Str} {sp : Sp} {E : XK} {x m : Str} {p pos apos kpos : Pos} {e o : Expr} {es : List Expr} {kws : List Keyword} {te ta : TE} {t tk : TA} {nm : Option Str}
theorem pk_nil : PK X [] tNil := ⟨fun _ _ _ _ H Q I h => wpAny_evalAll_nil ⟨[], H, I, .nil, h⟩⟩
theorem pk_cons (ha : PE X e te) (hr : PK X kws t) : PK X (⟨nm, e, kpos⟩ :: kws) (tCons te t) := by
  constructor; intro pos pins s σ H Q I h
  show wpAny _ _ (evalAll ((do let v ← eval e X.env; standAt pos; pure v) :: (backToKw pos (keywordEach kws X.env)).map (·.2))) _ _ s
  refine wpAny_evalAll_cons (wpAny_bind (thn (ha pins s σ H _ I h) fun u s1 ⟨x, H1, I1, r1, q1⟩ => wpAny_bind (wpAny_standAt (wpAny_pure ?_))))
  exact thn (hr pos pins s1 σ H1 _ I1 q1) fun us s2 ⟨xs, H2, I2, r2, q2⟩ => ⟨x :: xs, H2, I2, .cons r1 r2, q2⟩

/-- how a call with keywords binds: g puts the positional values us and the keywords' values ws (names ks) in the parameters' order, defaults among them -/
structure KBinds (K : PySem.W.Frag) (fd : FuncData) (ps ks : List Str) (g : List Value → List Value → List Value) (gV : List V → List V → List V) : Prop where
  to : ∀ (s : Shared) (us ws : List Value), K.In s.heap → (g us ws).length = ps.length → BindsTo s fd ⟨us, ks.zip ws⟩ (ps.zip (g us ws))
  rel : ∀ {vs : List V} {us : List Value} {zs : List V} {ws : List Value}, Vals vs us → Vals zs ws → Vals (gV vs zs) (g us ws)
variable {g : List Value → List Value → List Value} {gV : List V → List V → List V}
end

/-! ### a def's body keeps its promise -/
/-- names: the parameters first -/
structure FnScope (N P : List Str) (sc : Scope) : Prop where
  kind : sc.kind = .function
  co : sc.isCoroutine = false
  gen : sc.isGenerator = false
  nd : N.Nodup
  pre : N.take P.length = P
  par : ∀ x ∈ P, sc.names.lookup x = some .local ∨ sc.names.lookup x = some .cell
  nofree : ∀ y ∈ sc.names, y.2 ≠ .free

theorem bindL_out {kindOf : Str → Option NameKind} {x : Str} : ∀ {binds : List (Str × Value)} {m : Str → Option Value}, (∀ v, (x, v) ∉ binds) → bindL kindOf binds m x = m x
  | [], _, _ => rfl
  | (n, v) :: r, m, h => by
    unfold bindL
    rw [bindL_out fun w hw => h w (List.mem_cons_of_mem _ hw)]
    split
    · have : x ≠ n := by rintro rfl; exact h v List.mem_cons_self
      simp [this]
    · rfl
theorem bindC_out {kindOf : Str → Option NameKind} {x : Str} : ∀ {binds : List (Str × Value)} {m : Str → Option Value}, (∀ v, (x, v) ∉ binds) → bindC kindOf binds m x = m x
  | [], _, _ => rfl
  | (n, v) :: r, m, h => by
    unfold bindC
    rw [bindC_out fun w hw => h w (List.mem_cons_of_mem _ hw)]
    split
    · rfl
    · have : x ≠ n := by rintro rfl; exact h v List.mem_cons_self
      simp [this]
theorem bindL_get {kindOf : Str → Option NameKind} {x : Str} {v : Value} : ∀ {P : List Str} {vs : List Value} {i : Nat} {m : Str → Option Value}, P.Nodup → P[i]? = some x → vs[i]? = some v → kindOf x = some .local →
    bindL kindOf (P.zip vs) m x = some v
  | [], _, _, _, _, h, _, _ => by simp at h
  | _ :: _, [], _, _, _, _, h, _ => by simp at h
  | p :: P, w :: vs, 0, m, nd, h1, h2, hk => by
    simp at h1 h2; subst h1; subst h2
    show bindL kindOf ((p, w) :: P.zip vs) m p = _
    unfold bindL
    rw [bindL_out fun v hv => (List.nodup_cons.mp nd).1 (List.of_mem_zip hv).1, if_pos hk]
    simp
  | p :: P, w :: vs, i + 1, m, nd, h1, h2, hk => by
    show bindL kindOf ((p, w) :: P.zip vs) m x = _
    unfold bindL
    exact bindL_get (i := i) (List.nodup_cons.mp nd).2 (by simpa using h1) (by simpa using h2) hk
theorem bindC_get {kindOf : Str → Option NameKind} {x : Str} {v : Value} : ∀ {P : List Str} {vs : List Value} {i : Nat} {m : Str → Option Value}, P.Nodup → P[i]? = some x → vs[i]? = some v → kindOf x ≠ some .local →
    bindC kindOf (P.zip vs) m x = some v
  | [], _, _, _, _, h, _, _ => by simp at h
  | _ :: _, [], _, _, _, _, h, _ => by simp at h
  | p :: P, w :: vs, 0, m, nd, h1, h2, hk => by
    simp at h1 h2; subst h1; subst h2
    show bindC kindOf ((p, w) :: P.zip vs) m p = _
    unfold bindC
    rw [bindC_out fun v hv => (List.nodup_cons.mp nd).1 (List.of_mem_zip hv).1, if_neg hk]
    simp
  | p :: P, w :: vs, i + 1, m, nd, h1, h2, hk => by
    show bindC kindOf ((p, w) :: P.zip vs) m x = _
    unfold bindC
    exact bindC_get (i := i) (List.nodup_cons.mp nd).2 (by simpa using h1) (by simpa using h2) hk

/-- the names' values at the entry -/
def start (N : List Str) (vs : List V) : St := vs.map some ++ List.replicate (N.length - vs.length) none

/-- the context of a def's body, at its entry; an exception leaves the frame, then lies as CX says -/
def cxOf (CX : CXT) (P : Program) (w : World) (K : PySem.W.Frag) (mg : Str → Option Value) (base : Heap) (N : List Str) (qual : Str) (scope : Scope) (f : Addr) (cd : Value) (A : Around) (outer : List Env) (s : Shared) (H : Hp) (E : XK) : Cx where
  prog := P
  w := w
  K := K
  mg := mg
  base := base
  A := A.deeper (envOfC qual scope s.heap.objs.size f cd)
  N := N
  s₀ := s
  H₀ := H
  env := envOfC qual scope s.heap.objs.size f cd
  outer := outer
  stack := envOfC qual scope s.heap.objs.size f cd :: outer
  ex := []
  calm := true
  fn := fun _ => true
  pn := []
  xe := fun e s' => wpAny (model P w) (A.deeper (envOfC qual scope s.heap.objs.size f cd)) (leaving (envOfC qual scope s.heap.objs.size f cd) e) (fun _ s'' => CX outer H s E e s'') (fun e' s'' => CX outer H s E e' s'') s'

theorem cell_has {sc : Scope} {n : Nat} {x : Str} (h : sc.names.lookup x = some .cell) : ∃ c, (cellsFrom n sc.names []).lookup x = some c := by
  have q := PySem.W.cellsFrom_some sc.names n [] (.inl h)
  exact Option.isSome_iff_exists.mp q

theorem inv_start {CX : CXT} {P : Program} {w : World} {K : PySem.W.Frag} {mg : Str → Option Value} {base : Heap} {N ps : List Str} {qual : Str} {scope : Scope} {f : Addr} {cd : Value} {A : Around} {outer : List Env} {s s1 : Shared} {H : Hp} {E : XK} {us : List Value} {vs : List V}
    (S : FnScope N ps scope) (hd : A.handled = none) (e0 : Env0 P w K mg base A outer s H) (hl : vs.length = ps.length) (r : Vals vs us)
    (x : InCallC s s.heap.objs.size (bindL (envOfC qual scope s.heap.objs.size f cd).kindOf (ps.zip us) fun _ => none) (cellsFrom (s.heap.objs.size + 1) scope.names []) (bindC (envOfC qual scope s.heap.objs.size f cd).kindOf (ps.zip us) fun _ => none) s1) :
    Inv (cxOf CX P w K mg base N qual scope f cd A outer s H E) [] (start N vs) H s1 := by
  have hpl : ps.length ≤ N.length := by have := congrArg List.length S.pre; rw [List.length_take] at this; omega
  obtain ⟨h1, tk, rfl, hk⟩ := x.done
  have noA : ∀ b : Addr, b ∉ (cxOf CX P w K mg base N qual scope f cd A outer s H E).ex := fun b z => absurd (show b ∈ ([] : List Addr) from z) (by simp)
  refine ⟨⟨e0.mod, S.kind, rfl, rfl, Nat.le_refl _, fun y z c h1 h2 => ?_, fun y hy => ?_, fun y c _ h => ?_, fun _ => hd, Around.frames_deeper e0.frames, .inr ⟨rfl, rfl⟩, fun b z => absurd z (noA b), e0.bs, e0.bsz, fun b _ _ => noA b, fun b z => absurd z (noA b), e0.funs, e0.frf⟩,
    rfl, e0.bare, Un.kept hk, ⟨_, x.toInCall.ns, fun i y v h1 h2 h3 => ?_⟩, fun y c h => ⟨_, x.cell y c h⟩, e0.hok.fresh (Nat.le_refl _), fun y c h => ?_, fun p hp => absurd (show p ∈ ([] : List (Addr × Obj)) from hp) (by simp), e0.hok.kept hk, ?_⟩
  · exact name_of_addr x.apart (PySem.mem_of_lookup h1) (PySem.mem_of_lookup h2)
  · have hy : scope.names.lookup y = some .cell ∨ scope.names.lookup y = some .free := hy
    rcases hy with hy | hy
    · exact cell_has hy
    · exact absurd rfl (S.nofree _ (PySem.mem_of_lookup hy))
  · exact Nat.le_of_lt (x.above y c (PySem.mem_of_lookup h))
  · have hi : i < vs.length := by
      unfold start at h2
      by_cases hi : i < vs.length
      · exact hi
      · rw [List.getElem?_append_right (by simpa using hi)] at h2
        rw [List.getElem?_replicate] at h2
        split at h2 <;> cases h2
    have ha : vs[i]? = some v := by
      unfold start at h2
      rw [List.getElem?_append_left (by simpa using hi), List.getElem?_map] at h2
      cases e : vs[i]? with
      | none => rw [e] at h2; cases h2
      | some a => rw [e] at h2; cases h2; rfl
    obtain ⟨u, hu, rv⟩ := r.get ha
    have hp : ps[i]? = some y := by
      rw [← S.pre, List.getElem?_take_of_lt (by omega)]; exact h1
    have ndP : ps.Nodup := by rw [← S.pre]; exact S.nd.sublist (List.take_sublist _ _)
    refine ⟨u, rv, ?_⟩
    rcases S.par y (List.mem_of_getElem? hp) with k | k
    · exact .inl ⟨k, bindL_get ndP hp hu k⟩
    · obtain ⟨c, e⟩ := cell_has (n := s.heap.objs.size + 1) k
      refine .inr ⟨.inl k, c, e, ?_⟩
      have q := x.cell y c e
      rw [bindC_get ndP hp hu (by show scope.names.lookup y ≠ _; rw [k]; decide)] at q
      exact q
  · exact e0.hok.fresh (Nat.le_of_lt (x.above y c (PySem.mem_of_lookup h)))
  · unfold start
    show _ = N.length
    rw [List.length_append, List.length_map, List.length_replicate]
    omega

/-- THE RULE: a def (or a method) of the text, by its body. The body's reading t is chosen for each entry; it is run at the parameters' values -/
theorem fn_of {CX : CXT} {P : Program} {w : World} {K : PySem.W.Frag} {mg : Str → Option Value} {base : Heap} {k : Nat} {f : Addr} {name qual : Str} {params : Arguments} {body : List Stmt} {scope : Scope} {dV kV doc pm cdv ct oc : Value} {an od : Option Addr}
    {osl : Array (Option Value)} {N ps : List Str} {sp : Sp} (lk : K.lookup f = some ⟨oc, od, .func (PySem.W.fnOf name qual params body scope dV kV doc pm an cdv ct), osl⟩) (hcd : PySem.W.codeIn K cdv qual = true) (S : FnScope N ps scope)
    (len : ∀ vs H Q E, sp vs H Q E → vs.length = ps.length)
    (hbody : ∀ (A : Around) (outer : List Env) (s : Shared) (H : Hp) (vs : List V) (Q : VK) (E : XK), Room k (A.deeper (envOfC qual scope s.heap.objs.size f cdv)) → sp vs H Q E →
      ∃ t, PSs (cxOf CX P w K mg base N qual scope f cdv A outer s H E) body t ∧ t { nx := fun _ H' => Q .non H', rt := Q } (start N vs) H) :
    FnOk P w K mg base CX (k + 1) f (PySem.W.fnOf name qual params body scope dV kV doc pm an cdv ct) ps sp := by
  refine ⟨len, fun A outer s H args us vs Q E hr e0 hb r hsp => ?_⟩
  have hl := len _ _ _ _ hsp
  have KX : K.In s.heap := e0.mod.kin.keeps fun b o e => (e0.bs b o e).1
  have lim : s.heap.NoLimit := e0.mod.nolimit.keeps fun b o e => (e0.bs b o e).1
  have hkind : ∀ y ∈ ps.zip us, scope.names.lookup y.1 = some .local ∨ (scope.names.lookup y.1 = some .cell ∧ ((cellsFrom (s.heap.objs.size + 1) scope.names []).lookup y.1).isSome = true) := fun ⟨n, v⟩ hy => by
    rcases S.par n (List.of_mem_zip hy).1 with q | q
    · exact .inl q
    · exact .inr ⟨q, PySem.W.cellsFrom_some _ _ _ (.inl q)⟩
  refine codeAny_call_function hr.depth (KX _ _ lk) rfl S.co S.gen rfl (PySem.W.codeRec_of KX hcd) (hb _ _ _ _ ?_)
  refine wpAny_newFunctionEnv_cells S.kind hkind fun env he s1 x => ?_
  subst he
  refine ⟨lim.keeps x.toInCall.keep, codeAny_func ?_⟩
  obtain ⟨t, ht, hq⟩ := hbody A outer s H vs Q E (hr.deeper _) hsp
  have I : Inv (cxOf CX P w K mg base N qual scope f cdv A outer s H E) [] (start N vs) H s1 := inv_start S hr.hd e0 hl r x
  refine wpAny_mono (ht [] s1 (start N vs) H _ I hq) (fun fl s' hs => ?_) fun e s' hs => hs
  have fin : ∀ {σ' : St} {H' : Hp} {v : V} {u : Value}, Inv (cxOf CX P w K mg base N qual scope f cdv A outer s H E) [] σ' H' s' → RelV v u → Q v H' → CE outer P w H s Q u s' :=
    fun {σ' H' v u} J rv q => ⟨v, H', J.os, J.bare, J.base, J.hok, rv, q⟩
  cases fl with
  | ret u =>
    obtain ⟨v, σ', H', J, rv, q⟩ := hs
    exact fin J rv q
  | next =>
    obtain ⟨σ', H', J, q⟩ := hs
    exact fin (v := V.non) (u := Value.none) J rfl q
  | brk =>
    obtain ⟨_, _, _, q⟩ := hs
    exact False.elim q
  | cont =>
    obtain ⟨_, _, _, q⟩ := hs
    exact False.elim q
end L2

namespace L2
open PySem PySem.Spec PyProof.Rows
section
variable {X : Cx} {x : Str} {p pos : Pos} {e : Expr} {es : List Expr} {t : TA} {id T : String} {r : List V → Hp → VK → Prop}

def tCB (r : List V → Hp → VK → Prop) (t : TA) : TE := fun σ H Q => t σ H fun vs H1 => r vs H1 Q
/-- f(e, ..), f a built-in function -/
theorem pe_callB (hc : CallR X (.builtin id) r) (hg : Gl X x) (hm : X.mg x = none) (hv : bootBuiltins x = some (.builtin id)) (ha : PA X (e :: es) t) (hn : x ≠ "__name__" := by decide) (hdb : (x == ("__debug__" : Str)) = false := by decide)
    (he : starEach (e :: es) X.env = (false, eval e X.env) :: starEach es X.env := by rfl) (hpl : (backTo pos (starEach es X.env)).any (·.1) = false := by rfl) : PE X (.Call (.Name x p) (e :: es) [] pos) (tCB r t) := by
  constructor; intro pins s σ H Q I h
  refine wpAny_Call_Name_kw (ld_blt I hg hm hv ?_ hn hdb)
  exact PyProof.Rows.callWith_builtin1 (thn (ha pos pins s σ H _ I h) fun us s1 ⟨vs, H1, I1, r1, q1⟩ => hc pins s1 σ H1 vs us Q I1 r1 q1) he hpl
/-- T(e, ..), T a built-in type -/
theorem pe_callTy (hc : CallR X (.type T) r) (hg : Gl X x) (hm : X.mg x = none) (hv : bootBuiltins x = some (.type T)) (ha : PA X (e :: es) t) (hn : x ≠ "__name__" := by decide) (hdb : (x == ("__debug__" : Str)) = false := by decide)
    (he : starEach (e :: es) X.env = (false, eval e X.env) :: starEach es X.env := by rfl) (hpl : (backTo pos (starEach es X.env)).any (·.1) = false := by rfl) : PE X (.Call (.Name x p) (e :: es) [] pos) (tCB r t) := by
  constructor; intro pins s σ H Q I h
  refine wpAny_Call_Name_kw (ld_blt I hg hm hv ?_ hn hdb)
  exact PyProof.Rows.callWith_type1 (thn (ha pos pins s σ H _ I h) fun us s1 ⟨vs, H1, I1, r1, q1⟩ => hc pins s1 σ H1 vs us Q I1 r1 q1) he hpl
end
end L2

namespace HT
open PySem PyProof.Rows

/-- t < u of tuples of ints -/
def lexLt : List Int → List Int → Bool
  | [], [] => false
  | [], _ :: _ => true
  | _ :: _, [] => false
  | x :: xs, y :: ys => if x = y then lexLt xs ys else decide (x < y)
theorem lexLt_cons (x y : Int) (xs ys : List Int) : lexLt (x :: xs) (y :: ys) = if x = y then lexLt xs ys else decide (x < y) := rfl
theorem lexLt_nil_nil : lexLt [] [] = false := rfl
theorem lexLt_nil_cons (y : Int) (ys : List Int) : lexLt [] (y :: ys) = true := rfl
theorem lexLt_cons_nil (x : Int) (xs : List Int) : lexLt (x :: xs) [] = false := rfl

theorem eqAt_int (A : Around) (s : Shared) (a : Int) (t : Tok) (c : Int) (u : Tok) : ∃ e, SeqAt.EqAt A s (.int a t) (.int c u) e ∧ (e = true ↔ a = c) :=
  ⟨(a == c), SeqAt.EqAt.int_int a t c u, by simp⟩
theorem rcLt_int (A : Around) (s : Shared) (a : Int) (t : Tok) (c : Int) (u : Tok) (prog : Program) (w : World) (E : Value → Shared → Prop) (Q : Value → Shared → Prop) (h : Q (.bool (decide (a < c))) s) :
    wpAny (model prog w) A (richCompare .Lt (.int a t) (.int c u)) Q E s :=
  (PyProof.Rows.lt_int h : wpAny (model prog w) A (compareOp .Lt (.int a t) (.int c u)) Q E s)

section
open PySem.SeqAt
open PySem.AutoSeq1 (wpAny_loadPart')
open PySem.MeetsSeq PySem.MeetsSeq2 PySem.MeetsSeq3

theorem tuple_lt_ints (l b : Addr) (items items2 : Array Value) (n n2 : Nat) (dd dd2 : Option Addr) (sl sl2 : Array (Option Value)) (ns ms : List Int) (hi : IntsAre items.toList ns) (hj : IntsAre items2.toList ms) :
    Meets (Builtin.«tuple.__lt__» ⟨[.ref l, .ref b], []⟩)
      (fun _ R s => s.heap.get? l = some { cls := .type "tuple", dict := dd, data := .seq items n, slots := sl } ∧ s.heap.get? b = some { cls := .type "tuple", dict := dd2, data := .seq items2 n2, slots := sl2 } ∧
        R (.ok (.ret (.bool (lexLt ns ms)))) s) :=
  .of_wp fun prog w A R s h => by
    obtain ⟨hp, g, d, tk, os⟩ := s; obtain ⟨hl, hb, h⟩ := h
    have f2 := AutoSeq1.sub_tuple_tuple
    have z1 : items.size = ns.length := by rw [← hi.length]; simp
    have z2 : items2.size = ms.length := by rw [← hj.length]; simp
    wp_walk using wpAny_loadPart' hl, wpAny_loadPart' hb, wpAny_forIn_list _ (fun rest b s' => b.1 = none ∧ s' = ⟨hp, g, d, tk, os⟩ ∧ ∃ (vs ws : List Value) (ns' ms' : List Int), rest = vs.zip ws ∧
      IntsAre vs ns' ∧ IntsAre ws ms' ∧ ns'.length + items2.size = ms'.length + items.size ∧ R (.ok (.ret (.bool (lexLt ns' ms')))) ⟨hp, g, d, tk, os⟩) _
    case turn =>
      rintro ⟨y, x⟩ rest b s' ⟨hb', rfl, vs, ws, ns', ms', hz, hvi, hwi, hlen, hR⟩
      cases hvi with
      | nil => rw [List.zip_nil_left] at hz; cases hz
      | cons a t hvi' =>
        cases hwi with
        | nil => rw [List.zip_nil_right] at hz; cases hz
        | cons c u hwi' =>
          rw [List.zip_cons_cons] at hz
          injection hz with hyx hrest
          injection hyx with hy hx
          subst hy hx
          rw [lexLt_cons] at hR
          simp only [List.length_cons] at hlen
          obtain ⟨e, he, hiff⟩ := eqAt_int A.in1 ⟨hp, g, d, tk, os⟩ a t c u
          refine wpAny_bind (he prog w _ _ ?_)
          cases e with
          | true =>
            rw [if_pos (hiff.mp rfl)] at hR
            wp_walk
            exact ⟨rfl, rfl, _, _, _, _, hrest, hvi', hwi', by omega, hR⟩
          | false =>
            rw [if_neg (fun q => absurd (hiff.mpr q) Bool.false_ne_true)] at hR
            have hri := rcLt_int A.in1 ⟨hp, g, d, tk, os⟩ a t c u prog w
            wp_walk using hri
            exact ⟨_, rfl, by simpa using hR⟩
    case fin =>
      rintro ⟨b1, b2⟩ s' ⟨hb', rfl, vs, ws, ns', ms', hz, hvi, hwi, hlen, hR⟩
      simp only at hb'
      subst hb'
      have hv : lexLt ns' ms' = decide (items.size < items2.size) := by
        cases hvi with
        | nil =>
          cases hwi with
          | nil =>
            simp only [List.length_nil] at hlen
            rw [lexLt_nil_nil]
            exact (decide_eq_false (by omega)).symm
          | cons c u hw =>
            simp only [List.length_nil, List.length_cons] at hlen
            rw [lexLt_nil_cons]
            exact (decide_eq_true (by omega)).symm
        | cons a t hv =>
          cases hwi with
          | nil =>
            simp only [List.length_nil, List.length_cons] at hlen
            rw [lexLt_cons_nil]
            exact (decide_eq_false (by omega)).symm
          | cons c u hw =>
            rw [List.zip_cons_cons] at hz
            cases hz
      rw [hv] at hR
      wp_walk
      exact ⟨_, rfl, by simpa [Builtin.Tuple.tupleCompareSizes] using hR⟩
    case h =>
      exact ⟨rfl, rfl, items.toList, items2.toList, ns, ms, rfl, hi, hj, by omega, h⟩
end

section
variable {prog : Program} {w : World} {A : Around} {E : Value → Shared → Prop} {s : Shared}

theorem lt_tupInts {l b : Addr} {items items2 : Array Value} {ns ms : List Int} {Q : Value → Shared → Prop} (hl : IsTup s.heap l items) (hb : IsTup s.heap b items2) (hi : IntsAre items.toList ns) (hj : IntsAre items2.toList ms)
    (hu : A.units < cLine) (h : Q (.bool (lexLt ns ms)) s) : wpAny (model prog w) A (compareOp .Lt (.ref l) (.ref b)) Q E s := by
  obtain ⟨⟨cls, dd, data, sl⟩, ho, hc, n, hd⟩ := id hl
  obtain ⟨⟨cls2, dd2, data2, sl2⟩, ho2, hc2, n2, hd2⟩ := id hb
  simp only at hc hd hc2 hd2
  subst hc hd hc2 hd2
  exact richCompare_meets_room (op := .Lt) ⟨_, ho, rfl⟩ ⟨_, ho2, rfl⟩ PySem.F.slot_tuple_lt PySem.F.entry_tuple_lt (PySem.F.args_tuple_lt_2 _ _) (tuple_lt_ints l b items items2 n n2 dd dd2 sl sl2 ns ms hi hj)
    ⟨ho, ho2, show Value.bool (lexLt ns ms) ≠ Value.notImplemented ∧ Q (.bool (lexLt ns ms)) s from ⟨(fun x => nomatch x), h⟩⟩ hu

/-! ### t[a:b], not the whole -/
/-- a slice's bound as a place among n (d where it is left out) -/
def sIx (n d : Nat) : Option Int → Nat
  | none => d
  | some v => if v < 0 then (v + (n : Int)).toNat else min v.toNat n
theorem sIx_nat (n d k : Nat) : sIx n d (some (k : Int)) = min k n := by
  show (if (k : Int) < 0 then ((k : Int) + (n : Int)).toNat else min (k : Int).toNat n) = min k n
  rw [if_neg (by omega), Int.toNat_natCast]
end
end HT

namespace L2
open PySem PySem.Spec PyProof.Rows

/-! ### the parts of a slice -/
abbrev TO := St → Hp → (Option Int → Hp → Prop) → Prop
/-- a slice's part (left out, or an int) -/
structure PO (X : Cx) (e : Option Expr) (t : TO) : Prop where
  run : ∀ (pins : List (Addr × Obj)) (s : Shared) (σ : St) (H : Hp) (Q : Option Int → Hp → Prop), Inv X pins σ H s → t σ H Q →
    wpAny (model X.prog X.w) X.A (evalPart e X.env) (fun u s' => ∃ o H', Inv X pins σ H' s' ∧ IsPart u o ∧ Q o H') X.xe s
instance {X : Cx} {e : Option Expr} {t : TO} : CoeFun (PO X e t) fun _ => ∀ (pins : List (Addr × Obj)) (s : Shared) (σ : St) (H : Hp) (Q : Option Int → Hp → Prop), Inv X pins σ H s → t σ H Q →
    wpAny (model X.prog X.w) X.A (evalPart e X.env) (fun u s' => ∃ o H', Inv X pins σ H' s' ∧ IsPart u o ∧ Q o H') X.xe s := ⟨PO.run⟩
def tNoPart : TO := fun _ H Q => Q none H
def tPart (t : TE) : TO := fun σ H Q => t σ H fun x H1 => ∃ i, x = .int i ∧ Q (some i) H1

theorem intsAre_of {ns : List Int} : ∀ {us : List Value}, Vals (ns.map V.int) us → IntsAre us ns := by
  induction ns with
  | nil => intro us r; rw [List.map_nil] at r; cases r; exact .nil
  | cons n ns ih =>
    intro us r
    rw [List.map_cons] at r
    cases r with
    | cons r1 r2 =>
      obtain ⟨t, e⟩ := r1
      subst e
      exact .cons n t (ih r2)

section
variable {X : Cx} {e : Expr} {te : TE} {lo hi : Option Expr} {tl th : TO} {pos p2 : Pos}

theorem po_none : PO X none tNoPart := by
  constructor; intro pins s σ H Q I h
  rw [evalPart_none]
  exact wpAny_pure ⟨none, H, I, .none, h⟩
theorem po_some (h : PE X e te) : PO X (some e) (tPart te) := by
  constructor; intro pins s σ H Q I hw
  rw [evalPart_some]
  refine thn (h pins s σ H _ I hw) fun u s1 ⟨x, H1, I1, r1, q1⟩ => ?_
  obtain ⟨i, rfl, q⟩ := q1
  obtain ⟨t, rfl⟩ := r1
  exact ⟨some i, H1, I1, .int i t, q⟩

/-- what a slice of a value is, by values: the slice object stands at sl -/
def SlR (X : Cx) (r : V → Option Int → Option Int → Hp → VK → Prop) : Prop :=
  ∀ (pins : List (Addr × Obj)) (s : Shared) (σ : St) (H : Hp) (x : V) (v vl vu : Value) (lo hi : Option Int) (sl : Addr) (Q : VK), Inv X pins σ H s → RelV x v → s.heap.IsSliceOf sl vl vu .none → IsPart vl lo → IsPart vu hi → r x lo hi H Q →
    ∃ T id, typeLookup (.type T) "__getitem__" = pure (some (.builtin id)) ∧ s.TypeIs v T ∧ wpAny (model X.prog X.w) X.A (getItem v (.ref sl)) (EP X pins σ Q) X.xe s
theorem SlR.or {r r' : V → Option Int → Option Int → Hp → VK → Prop} (h : SlR X r) (h' : SlR X r') : SlR X (fun x lo hi H Q => r x lo hi H Q ∨ r' x lo hi H Q) := by
  intro pins s σ H x v vl vu lo hi sl Q I rx hs pl pu q
  rcases q with q | q
  · exact h pins s σ H x v vl vu lo hi sl Q I rx hs pl pu q
  · exact h' pins s σ H x v vl vu lo hi sl Q I rx hs pl pu q
def tSl (r : V → Option Int → Option Int → Hp → VK → Prop) (te : TE) (tl th : TO) : TE := fun σ H Q => te σ H fun x H1 => tl σ H1 fun l H2 => th σ H2 fun u H3 => r x l u H3 Q
/-- a[lo:hi], any a -/
theorem pe_slice {r : V → Option Int → Option Int → Hp → VK → Prop} (hr : SlR X r) (he : PE X e te) (hl : PO X lo tl) (hu : PO X hi th) : PE X (.Subscript e (.Slice lo hi none p2) pos) (tSl r te tl th) := by
  constructor; intro pins s σ H Q I h
  refine Subscript_ (thn (he pins s σ H _ I h) fun v s1 ⟨x, H1, I1, r1, q1⟩ => ?_)
  refine wpAny_Slice (thn (hl pins s1 σ H1 _ I1 q1) fun vl s2 ⟨l, H2, I2, pl, q2⟩ => thn (hu pins s2 σ H2 _ I2 q2) fun vu s3 ⟨u, H3, I3, pu, q3⟩ => ?_)
  rw [evalPart_none]
  refine wpAny_pure ?_
  have I4 : Inv X pins σ H3 { s3 with heap := s3.heap.push { cls := .type "slice", data := .fields #[vl, vu, .none] } } := I3.kept (t' := s3.toks) fun b ob q => Heap.get?_push_of_some _ q
  obtain ⟨T, id, hT, ht, hg⟩ := hr pins { s3 with heap := s3.heap.push { cls := .type "slice", data := .fields #[vl, vu, .none] } } σ H3 x v vl vu l u s3.heap.objs.size Q I4 r1 (Heap.IsSliceOf.new ..) pl pu q3
  show wpAny (model X.prog X.w) X.A (subscriptTail e (.Slice lo hi none p2) v (.ref s3.heap.objs.size)) (EP X pins σ Q) X.xe { s3 with heap := s3.heap.push { cls := .type "slice", data := .fields #[vl, vu, .none] } }
  exact tail_any (ops := [.ref s3.heap.objs.size, v]) ht hT hg (by with_unfolding_all rfl)

/-- the items of xs[lo:hi] -/
def cutV (xs : List V) (lo hi : Option Int) : List V := (xs.drop (HT.sIx xs.length 0 lo)).take (HT.sIx xs.length xs.length hi - HT.sIx xs.length 0 lo)
theorem cutV_length (xs : List V) (lo hi : Option Int) : (cutV xs lo hi).length ≤ xs.length := by
  unfold cutV
  rw [List.length_take, List.length_drop]
  omega
/-! ### t < u, t + u -/
end
end L2

namespace L2
open PySem PySem.Spec PyProof.Rows

/-! ### places -/
/-- the place that an index of any sign means -/
def ixN (n : Nat) (i : Int) : Option Nat := if 0 ≤ i then (if i < n then some i.toNat else none) else if -(n : Int) ≤ i then some (i + n).toNat else none
def atI {α : Type} (xs : List α) (i : Int) : Option α := (ixN xs.length i).bind fun j => xs[j]?
theorem ixN_seq {n : Nat} {i : Int} {j : Nat} (h : ixN n i = some j) : seqIndex? i n = some j ∧ j < n ∧ -(n : Int) ≤ i ∧ i < n := by
  unfold ixN at h
  by_cases h0 : 0 ≤ i
  · rw [if_pos h0] at h
    by_cases h1 : i < n
    · rw [if_pos h1] at h
      have e : i.toNat = j := Option.some.inj h
      exact ⟨by rw [seqIndex_of h0 h1, e], by omega, by omega, h1⟩
    · rw [if_neg h1] at h; cases h
  · rw [if_neg h0] at h
    by_cases h1 : -(n : Int) ≤ i
    · rw [if_pos h1] at h
      have e : (i + n).toNat = j := Option.some.inj h
      exact ⟨by rw [seqIndex_neg (by omega) h1, e], by omega, h1, by omega⟩
    · rw [if_neg h1] at h; cases h
theorem atI_get {α : Type} {xs : List α} {i : Int} {v : α} (h : atI xs i = some v) : ∃ j, seqIndex? i xs.length = some j ∧ xs[j]? = some v ∧ j < xs.length ∧ -(xs.length : Int) ≤ i ∧ i < xs.length := by
  unfold atI at h
  cases e : ixN xs.length i with
  | none => rw [e] at h; cases h
  | some j =>
    rw [e] at h
    obtain ⟨h1, h2, h3, h4⟩ := ixN_seq e
    exact ⟨j, h1, h, h2, h3, h4⟩
theorem atI_nat {α : Type} {xs : List α} {j : Nat} {v : α} (h : xs[j]? = some v) : atI xs (j : Int) = some v := by
  have hj : j < xs.length := (List.getElem?_eq_some_iff.mp h).1
  have e : ixN xs.length (j : Int) = some j := by
    unfold ixN
    rw [if_pos (by omega), if_pos (by omega)]; simp
  unfold atI; rw [e]; exact h
theorem atI_last {α : Type} (xs : List α) (v : α) : atI (xs ++ [v]) (-1) = some v := by
  have hl : (xs ++ [v]).length = xs.length + 1 := by simp
  have e : ixN (xs ++ [v]).length (-1) = some xs.length := by
    unfold ixN
    rw [hl, if_neg (by decide), if_pos (by omega)]
    congr 1
    omega
  unfold atI
  rw [e]
  show (xs ++ [v])[xs.length]? = some v
  simp

/-! ### what may be subscripted -/
/-- what stands as an index of a plain subscript -/
def PlainIx (b : Expr) : Prop := ∀ o i, subscripted b false o i = operate [o, i] (getItem o i)
/-- a subscript by values -/
def IxR (X : Cx) (r : R2) : Prop :=
  ∀ (value slice : Expr) (pins : List (Addr × Obj)) (s : Shared) (σ : St) (H : Hp) (x y : V) (v u : Value) (Q : VK), Inv X pins σ H s → RelV x v → RelV y u → r x y H Q →
    subscripted slice false v u = operate [v, u] (getItem v u) → wpAny (model X.prog X.w) X.A (subscriptTail value slice v u) (EP X pins σ Q) X.xe s
/-- a call of a builtin's method by values: the receiver, the arguments -/
def MtR (X : Cx) (id : String) (r : V → List V → Hp → VK → Prop) : Prop :=
  ∀ (pins : List (Addr × Obj)) (s : Shared) (σ : St) (H : Hp) (x : V) (xs : List V) (v : Value) (us : List Value) (Q : VK), Inv X pins σ H s → RelV x v → Vals xs us → r x xs H Q →
    wpAny (model X.prog X.w) X.A (call (.builtin id) (v :: us)) (EP X pins σ Q) X.xe s
section
variable {X : Cx} {a b : Expr} {ta tb : TE} {pos : Pos}
theorem IxR.or {r r' : R2} (h : IxR X r) (h' : IxR X r') : IxR X (fun x y H Q => r x y H Q ∨ r' x y H Q) := by
  intro value slice pins s σ H x y v u Q I rx ry q hs
  rcases q with q | q
  · exact h value slice pins s σ H x y v u Q I rx ry q hs
  · exact h' value slice pins s σ H x y v u Q I rx ry q hs
theorem MtR.or {id : String} {r r' : V → List V → Hp → VK → Prop} (h : MtR X id r) (h' : MtR X id r') : MtR X id (fun x xs H Q => r x xs H Q ∨ r' x xs H Q) := by
  intro pins s σ H x xs v us Q I rx rs q
  rcases q with q | q
  · exact h pins s σ H x xs v us Q I rx rs q
  · exact h' pins s σ H x xs v us Q I rx rs q
/-- a[b] -/
theorem pe_ix {r : R2} (hr : IxR X r) (ha : PE X a ta) (hb : PE X b tb) (hs : PlainIx b) : PE X (.Subscript a b pos) (tOp r ta tb) := by
  constructor; intro pins s σ H Q I h
  exact Subscript_ (binT ha hb I h fun v u s2 x y H2 I2 rx ry q => hr a b pins s2 σ H2 x y v u Q I2 rx ry q (hs _ _))

def rIxL (K : PySem.W.Frag) : R2 := fun x y H Q => ∃ p xs i v, x = .ref p ∧ y = .int i ∧ SqL K H p xs ∧ atI xs i = some v ∧ Q v H
theorem ix_list : IxR X (rIxL X.K) := by
  intro value slice pins s σ H x y v u Q I rx ry h hs
  obtain ⟨p, xs, i, z, rfl, rfl, hq, he, q⟩ := h
  cases rx
  obtain ⟨t, rfl⟩ := ry
  obtain ⟨its, r, pl, hz⟩ := I.list hq
  obtain ⟨j, h1, h2, h3, h4, h5⟩ := atI_get he
  obtain ⟨w, ew, rw'⟩ := r.get h2
  have hl := r.length
  have hn := line63
  have fin : EP X pins σ Q w s := ⟨z, H, I, rw', q⟩
  by_cases h0 : 0 ≤ i
  · have hj : i.toNat = j := by
      rw [seqIndex_of h0 h5] at h1
      exact Option.some.inj h1
    exact item_listR pl.isList h0 (by omega) (by rw [hj]; simpa using ew) fin hs
  · have hj : (i + (its.toArray.size : Int)).toNat = j := by
      rw [seqIndex_neg (by omega) h4] at h1
      rw [List.size_toArray, ← hl]
      exact Option.some.inj h1
    exact subscriptTail_builtinR (x := w) pl.isList.typeIs slot_list_getitem.lookup
      (wpAny_getItem_list_neg (Q := fun r s' => r = w ∧ EP X pins σ Q r s') pl.isList (by omega) (by rw [List.size_toArray] <;> omega) (by omega) (by rw [hj]; simpa using ew) ⟨rfl, fin⟩) hs
/-! ### xs[i] = v, any sign -/
/-- the list's object behind a store -/
theorem mapSeq_set (its : List Value) (n j : Nat) (u : Value) : Obj.mapSeq (·.setIfInBounds j u) { cls := .type "list", data := .seq its.toArray n } = { cls := .type "list", data := .seq (its.set j u).toArray n } := by
  simp [Obj.mapSeq]
theorem Inv.lst {pins : List (Addr × Obj)} {σ : St} {H : Hp} {s : Shared} {p : Addr} {xs : List V} (I : Inv X pins σ H s) (h : H p = some (.lst xs)) :
    ∃ (its : List Value) (n : Nat), Vals xs its ∧ s.heap.get? p = some { cls := .type "list", data := .seq its.toArray n } ∧ xs.length ≤ sizeLine := by
  obtain ⟨z, its, n, r, e⟩ := I.hok p _ h
  exact ⟨its, n, r, e, z⟩
/-- the list at p is written by an update of its object -/
theorem Inv.lstUpd {pins : List (Addr × Obj)} {σ : St} {H : Hp} {s : Shared} {p : Addr} {xs ys : List V} {its its' : List Value} {n n' : Nat} {f : Obj → Obj} (I : Inv X pins σ H s) (h : H p = some (.lst xs))
    (ho : s.heap.get? p = some { cls := .type "list", data := .seq its.toArray n }) (hf : f { cls := .type "list", data := .seq its.toArray n } = { cls := .type "list", data := .seq its'.toArray n' }) (r : Vals ys its') (hz : ys.length ≤ sizeLine) (t : Nat) :
    Inv X pins σ (upd H p (.lst ys)) { s with heap := s.heap.update p f, toks := t } := by
  have e : (s.heap.update p f).get? p = some { cls := .type "list", data := .seq its'.toArray n' } := by
    rw [Heap.get?_update_self f ho (by rw [hf] <;> rfl), hf]
  refine I.write (x := p) (e := p) (by rw [h]; trivial) (.inl rfl) (fun b u hb q => (Heap.get?_update_other _ _ (Ne.symm hb)).trans q) ⟨_, e⟩ ?_
  exact ⟨hz, its', n', r, e⟩
def rSetL : V → V → V → Hp → (Hp → Prop) → Prop := fun o i v H Q => ∃ p xs k j, o = .ref p ∧ i = .int k ∧ H p = some (.lst xs) ∧ ixN xs.length k = some j ∧ Q (upd H p (.lst (xs.set j v)))
theorem set_list : PSet X rSetL := by
  intro pins s σ H o i v ov iv u Q I ro ri rv h
  obtain ⟨p, xs, k, j, rfl, rfl, hp, hj, q⟩ := h
  cases ro
  obtain ⟨t, rfl⟩ := ri
  obtain ⟨its, n, r, ho, hz⟩ := I.lst hp
  obtain ⟨h1, h2, h3, h4⟩ := ixN_seq hj
  have hl := r.length
  have hn := line63
  have I' : Inv X pins σ (upd H p (.lst (xs.set j v))) { s with heap := s.heap.update p (Obj.mapSeq (·.setIfInBounds j u)) } :=
    I.lstUpd hp ho (mapSeq_set its n j u) (r.set rv j) (by rw [List.length_set]; exact hz) s.toks
  by_cases h0 : 0 ≤ k
  · have hk : k.toNat = j := by
      rw [seqIndex_of h0 h4] at h1
      exact Option.some.inj h1
    exact PySem.W.ki_setAt ho h0 (by omega) (by rw [List.size_toArray, ← hl]; exact h4) (by rw [hk]; exact ⟨_, I', q⟩)
  · have hk : (k + (its.toArray.size : Int)).toNat = j := by
      rw [seqIndex_neg (by omega) h3] at h1
      rw [List.size_toArray, ← hl]
      exact Option.some.inj h1
    exact PySem.W.ki_setBack ho (by omega) (by rw [List.size_toArray, ← hl]; exact h3) (by omega) (by rw [hk]; exact ⟨_, I', q⟩)

/-! ### slices -/
theorem slice_bounds (lo hi : Option Int) (n : Nat) : (sliceBounds lo hi none n).1 = ((HT.sIx n 0 lo : Nat) : Int) ∧ (sliceBounds lo hi none n).2.1 = ((HT.sIx n n hi : Nat) : Int) ∧ (sliceBounds lo hi none n).2.2 = 1 := by
  refine ⟨?_, ?_, rfl⟩
  · cases lo with
    | none => simp [sliceBounds, HT.sIx]
    | some i =>
      simp only [sliceBounds, HT.sIx, Option.getD_none, show (1 : Int) > 0 by decide, if_true]
      by_cases h : i < 0
      · simp only [h, if_true] <;> omega
      · simp only [h, if_false] <;> omega
  · cases hi with
    | none => simp [sliceBounds, HT.sIx]
    | some i =>
      simp only [sliceBounds, HT.sIx, Option.getD_none, show (1 : Int) > 0 by decide, if_true]
      by_cases h : i < 0
      · simp only [h, if_true] <;> omega
      · simp only [h, if_false] <;> omega
theorem slicePick_cut (its : List Value) (lo hi : Option Int) : slicePick its.toArray lo hi none = ((its.drop (HT.sIx its.length 0 lo)).take (HT.sIx its.length its.length hi - HT.sIx its.length 0 lo)).toArray := by
  obtain ⟨h1, h2, h3⟩ := slice_bounds lo hi its.toArray.size
  unfold slicePick
  rw [h1, h2, h3]
  simp only [sliceRange_one, pick_run, List.size_toArray] <;> rfl
/-- xs[lo:hi] of a list: a new list -/
def rSlL (K : PySem.W.Frag) : V → Option Int → Option Int → Hp → VK → Prop := fun x lo hi H Q => ∃ a xs, x = .ref a ∧ SqL K H a xs ∧ ∀ p, H p = none → Q (.ref p) (upd H p (.lst (cutV xs lo hi)))
theorem sl_list : SlR X (rSlL X.K) := by
  intro pins s σ H x v vl vu lo hi sl Q I rx hs pl pu h
  obtain ⟨a, xs, rfl, hx, q⟩ := h
  cases rx
  obtain ⟨its, r, ht, hz⟩ := I.list hx
  have hlen := r.length
  refine ⟨"list", _, slot_list_getitem.lookup, ht.isList.typeIs, ?_⟩
  refine wpAny_getItem_list_slice ht.isList hs pl pu .none (by simp) ?_ (by rw [List.size_toArray] <;> omega)
  rw [slicePick_cut, ← hlen]
  refine ⟨.ref s.heap.objs.size, _, I.laid (t' := s.toks) (o := .lst (cutV xs lo hi)) (fun b ob q => Heap.get?_push_of_some _ q) (Nat.le_refl _) ?_, rfl, q _ (I.hok.fresh (Nat.le_refl _))⟩
  exact ⟨Nat.le_trans (cutV_length xs lo hi) hz, _, 0, (r.drop (HT.sIx xs.length 0 lo)).take (HT.sIx xs.length xs.length hi - HT.sIx xs.length 0 lo), Heap.get?_push_size _ rfl⟩

/-! ### in, not in: flat items -/
/-! ### len, list(x), tuple(x) of any list or tuple that is read -/
theorem CallR.or {f : Value} {r r' : List V → Hp → VK → Prop} (h : CallR X f r) (h' : CallR X f r') : CallR X f (fun xs H Q => r xs H Q ∨ r' xs H Q) := by
  intro pins s σ H xs us Q I rs q
  rcases q with q | q
  · exact h pins s σ H xs us Q I rs q
  · exact h' pins s σ H xs us Q I rs q
theorem call_list_of : CallR X (.type "list") (fun xs H Q => ∃ p ys, xs = [.ref p] ∧ (SqL X.K H p ys ∨ SqT X.K H p ys) ∧ ∀ l, H l = none → Q (.ref l) (upd H l (.lst ys))) := by
  intro pins s σ H xs us Q I r h
  obtain ⟨p, ys, rfl, hq, q⟩ := h
  obtain ⟨u, rfl, rx⟩ := vals1 r
  cases rx
  have fin : ∀ (its : List Value), Vals ys its → ys.length ≤ sizeLine → ∀ (h' : Heap) (c' : Nat), (∀ b o', s.heap.get? b = some o' → h'.get? b = some o') →
      h'.get? s.heap.objs.size = some { cls := .type "list", dict := none, data := .seq its.toArray c', slots := #[] } → EP X pins σ Q (.ref s.heap.objs.size) { s with heap := h' } := fun its r' hz h' c' kp e =>
    ⟨.ref s.heap.objs.size, _, I.laid (t' := s.toks) kp (Nat.le_refl _) (show ObjOk X.prog X.w _ h' _ (.lst ys) from ⟨hz, its, c', r', e⟩), rfl, q _ (I.hok.fresh (Nat.le_refl _))⟩
  rcases hq with hq | hq
  · obtain ⟨its, r', pl, hz⟩ := I.list hq
    have hlen := r'.length
    obtain ⟨o, ho, hc, n, hd⟩ := pl.isList
    exact call_list_seq p (.inl rfl) ho hc hd (fun h' c' kp e => fin its r' hz h' c' kp e) (by simp only [List.size_toArray] <;> omega)
  · obtain ⟨its, r', pl, hz⟩ := I.tuple hq
    have hlen := r'.length
    obtain ⟨o, ho, hc, n, hd⟩ := pl
    exact call_list_seq p (.inr rfl) ho hc hd (fun h' c' kp e => fin its r' hz h' c' kp e) (by simp only [List.size_toArray] <;> omega)
/-! ### the call of a builtin's method: o.m(..) -/
/-- the value is of that builtin type -/
def tyV (K : PySem.W.Frag) (T : String) (x : V) (H : Hp) : Prop := match x with
  | .str _ => T = "str"
  | .int _ => T = "int"
  | .ref p => (T = "list" ∧ ∃ xs, SqL K H p xs) ∨ (T = "tuple" ∧ ∃ o, K.lookup p = some o ∧ o.cls = .type "tuple" ∧ o.dict = none) ∨
      (T = "dict" ∧ ((∃ kvs, H p = some (.dK kvs)) ∨ ∃ kvs, H p = some (.dT kvs))) ∨ (T = "set" ∧ ∃ S n, H p = some (.set S n))
  | _ => False
theorem tyV_is {pins : List (Addr × Obj)} {σ : St} {H : Hp} {s : Shared} {T : String} {x : V} {v : Value} (I : Inv X pins σ H s) (r : RelV x v) (ty : tyV X.K T x H) :
    s.TypeIs v T ∧ ∀ a, v = .ref a → ∃ ob, s.heap.get? a = some ob ∧ ob.dict = none := by
  cases x with
  | str z =>
    obtain ⟨t, rfl⟩ := r
    cases (show T = "str" from ty)
    exact ⟨typeIs_str s z t, fun _ e => nomatch e⟩
  | int i =>
    obtain ⟨t, rfl⟩ := r
    cases (show T = "int" from ty)
    exact ⟨typeIs_int s i t, fun _ e => nomatch e⟩
  | ref p =>
    cases r
    rcases ty with ⟨rfl, xs, hq⟩ | ⟨rfl, o, hk, hc, hd⟩ | ⟨rfl, hk⟩ | ⟨rfl, S, n, hk⟩
    · obtain ⟨its, _, pl, _⟩ := I.list hq
      refine ⟨pl.isList.typeIs, fun a e => ?_⟩
      cases e
      obtain ⟨o, n, e, c, hd, _⟩ := pl
      exact ⟨o, e, hd⟩
    · refine ⟨⟨o, I.kIn p o hk, hc⟩, fun a e => ?_⟩
      cases e
      exact ⟨o, I.kIn _ o hk, hd⟩
    · have z : ∃ o, s.heap.get? p = some o ∧ o.ExactDict := by
        rcases hk with ⟨kvs, hk⟩ | ⟨kvs, hk⟩
        · obtain ⟨_, _, _, _, o, _, _, e, ex, _⟩ := I.hok p _ hk
          exact ⟨o, e, ex⟩
        · obtain ⟨_, _, _, _, o, _, _, e, ex, _⟩ := I.hok p _ hk
          exact ⟨o, e, ex⟩
      obtain ⟨o, e, ex⟩ := z
      refine ⟨⟨o, e, ex.1⟩, fun a e2 => ?_⟩
      cases e2
      exact ⟨o, e, ex.2.1⟩
    · obtain ⟨o, _, _, _, e, ex, _⟩ := I.hok p _ hk
      refine ⟨⟨o, e, ex.1⟩, fun a e2 => ?_⟩
      cases e2
      exact ⟨o, e, ex.2.1⟩
  | _ => exact False.elim ty
def tBM0 (K : PySem.W.Frag) (T : String) (r : V → List V → Hp → VK → Prop) (to : TE) : TE := fun σ H Q => to σ H fun x H1 => tyV K T x H1 ∧ r x [] H1 Q
def tBM (K : PySem.W.Frag) (T : String) (r : V → List V → Hp → VK → Prop) (to : TE) (t : TA) : TE := fun σ H Q => to σ H fun x H1 => tyV K T x H1 ∧ t σ H1 fun xs H2 => r x xs H2 Q
variable {o e : Expr} {es : List Expr} {to : TE} {t : TA} {name : Str} {apos cpos : Pos} {T id : String} {r : V → List V → Hp → VK → Prop}
theorem pe_bm0 (pa : PlainAttrs T) (slot : Slot T name id) (hty : typeOf (.builtin id) = pure (.type "method_descriptor")) (hm : MtR X id r) (ho : PE X o to)
    (hbase : attributeBase o name X.env (eval o X.env) = eval o X.env := by rfl) (hline : (apos.endLine == cpos.line) = true := by rfl) : PE X (.Call (.Attribute o name apos) [] [] cpos) (tBM0 X.K T r to) := by
  constructor; intro pins s σ H Q I h
  refine wpAny_Call_method0_late hbase hline (thn (ho pins s σ H _ I h) fun v s1 ⟨x, H1, I1, r1, ty, q1⟩ => ?_)
  obtain ⟨h1, h2⟩ := tyV_is I1 r1 ty
  exact ⟨T, id, pa, slot, hty, h1, h2, Calls.callWith_builtin rfl (PySem.evalArgs_none (hm pins s1 σ H1 x [] v [] Q I1 r1 .nil q1))⟩
theorem pe_bm (pa : PlainAttrs T) (slot : Slot T name id) (hty : typeOf (.builtin id) = pure (.type "method_descriptor")) (hm : MtR X id r) (ho : PE X o to) (ha : PA X (e :: es) t)
    (hbase : attributeBase o name X.env (eval o X.env) = eval o X.env := by rfl)
    (hfew : ((backTo cpos (starEach (e :: es) X.env)).all (fun x => !x.1) && (backToKw cpos (keywordEach [] X.env)).all (fun x => x.1.isSome)
      && decide ((e :: es).length + ([] : List Keyword).length + (if ([] : List Keyword).isEmpty then 0 else 1) < 30)) = true := by rfl)
    (hline : (apos.endLine == cpos.line) = true := by rfl) (hs : starEach (e :: es) X.env = (false, eval e X.env) :: starEach es X.env := by rfl) (hplain : (backTo cpos (starEach es X.env)).any (·.1) = false := by rfl) :
    PE X (.Call (.Attribute o name apos) (e :: es) [] cpos) (tBM X.K T r to t) := by
  constructor; intro pins s σ H Q I h
  refine wpAny_Call_method_late hbase hfew hline rfl (thn (ho pins s σ H _ I h) fun v s1 ⟨x, H1, I1, r1, ty, q1⟩ => ?_)
  obtain ⟨h1, h2⟩ := tyV_is I1 r1 ty
  refine ⟨T, id, pa, slot, hty, h1, h2, ?_⟩
  have hA := ha cpos pins s1 σ H1 _ I1 q1
  rw [hs] at hA ⊢
  refine Calls.callWith_builtin (by show (false || (backTo cpos (starEach es X.env)).any (·.1)) = false; rw [hplain] <;> rfl) (Calls.evalArgs_plain ?_)
  exact thn hA fun us s2 ⟨vs, H2, I2, r2, q2⟩ => hm pins s2 σ H2 x vs v us Q I2 r1 r2 q2
/- xs.append(e), list.index on a module's tuple .. are MtR facts of 06m -/
end
end L2

namespace L2
open PySem PySem.Spec PyProof.Rows

def MtM (X : Cx) (id : String) (r : V → List V → Hp → VK → Prop) : Prop :=
  ∀ (pins : List (Addr × Obj)) (s : Shared) (σ : St) (H : Hp) (x : V) (xs : List V) (v : Value) (us : List Value) (Q : VK), Inv X pins σ H s → RelV x v → Vals xs us → r x xs H Q →
    wpAny (model X.prog X.w) X.A (call (.builtin id) (v :: us)) (EP X pins σ Q) X.xe s

/-! ### lists of values -/
theorem Vals.one : ∀ {x : V} {us : List Value}, Vals [x] us → ∃ u, us = [u] ∧ RelV x u
  | _, _, .cons r .nil => ⟨_, rfl, r⟩
theorem Vals.two : ∀ {x y : V} {us : List Value}, Vals [x, y] us → ∃ u v, us = [u, v] ∧ RelV x u ∧ RelV y v
  | _, _, _, .cons r (.cons q .nil) => ⟨_, _, rfl, r, q⟩
theorem Vals.zero : ∀ {us : List Value}, Vals [] us → us = []
  | _, .nil => rfl
theorem Vals.eraseIdx : ∀ {xs : List V} {us : List Value} (i : Nat), Vals xs us → Vals (xs.eraseIdx i) (us.eraseIdx i)
  | _, _, _, .nil => .nil
  | _, _, 0, .cons _ t => t
  | _, _, i + 1, .cons r t => .cons r (Vals.eraseIdx i t)
theorem Vals.rep {xs : List V} {us : List Value} (h : Vals xs us) : ∀ k : Nat, Vals (List.replicate k xs).flatten (List.replicate k us).flatten
  | 0 => .nil
  | k + 1 => by
    rw [List.replicate_succ, List.replicate_succ, List.flatten_cons, List.flatten_cons]
    exact Vals.append h (Vals.rep h k)
theorem foldl_rep (its : List Value) : ∀ (k : Nat) (acc : List Value),
    List.foldl (fun x1 x2 => x1 ++ x2) acc.toArray (List.replicate k its.toArray) = (acc ++ (List.replicate k its).flatten).toArray
  | 0, acc => by simp
  | k + 1, acc => by
    have e : acc.toArray ++ its.toArray = (acc ++ its).toArray := by simp
    have e2 : (acc ++ its) ++ (List.replicate k its).flatten = acc ++ (List.replicate (k + 1) its).flatten := by
      rw [List.replicate_succ, List.flatten_cons, List.append_assoc]
    rw [← e2, ← foldl_rep its k (acc ++ its), ← e, List.replicate_succ, List.foldl_cons]

section
variable {X : Cx} {pins : List (Addr × Obj)} {σ : St} {H : Hp} {s : Shared} {l b : Addr} {xs ys zs : List V}

/-! ### the two steps: a tracked list is rewritten, a new list is laid -/
theorem Inv.lset {its its' : List Value} {n : Nat} {f : Array Value → Array Value} {t' : Nat} (I : Inv X pins σ H s) (hH : H l = some (.lst xs))
    (e : s.heap.get? l = some { cls := .type "list", data := .seq its.toArray n }) (hf : f its.toArray = its'.toArray) (hv : Vals ys its') (hz : ys.length ≤ sizeLine) :
    Inv X pins σ (upd H l (.lst ys)) { s with heap := s.heap.update l (Obj.mapSeq f), toks := t' } := by
  have q := PySem.IsL.update e f
  rw [hf] at q
  refine I.write (x := l) (e := l) (by rw [hH]; exact trivial) (.inl rfl) (fun b' u hb hu => (Heap.get?_update_other s.heap (Obj.mapSeq f) (Ne.symm hb)).trans hu) ⟨_, q⟩ ?_
  exact ⟨hz, its', _, hv, q⟩
theorem Inv.lnew {its : List Value} {t' : Nat} (I : Inv X pins σ H s) (hv : Vals ys its) (hz : ys.length ≤ sizeLine) :
    Inv X pins σ (upd H s.heap.objs.size (.lst ys)) { s with heap := s.heap.push { cls := .type "list", data := .seq its.toArray }, toks := t' } :=
  I.laid (fun _ _ q => Heap.get?_push_of_some _ q) (Nat.le_refl _) ⟨hz, its, 0, hv, Heap.get?_push_size _ rfl⟩
theorem Inv.fresh (I : Inv X pins σ H s) : H s.heap.objs.size = none := I.hok.fresh (Nat.le_refl _)
theorem Inv.lstM (I : Inv X pins σ H s) (hH : H l = some (.lst xs)) : xs.length ≤ sizeLine ∧ ∃ (its : List Value) (n : Nat), Vals xs its ∧ xs.length = its.length ∧ s.heap.get? l = some { cls := .type "list", data := .seq its.toArray n } := by
  obtain ⟨z, its, n, r, e⟩ := I.hok l _ hH
  exact ⟨z, its, n, r, r.length, e⟩

theorem notLongL {n : Nat} (h : n ≤ sizeLine) : Builtin.List.listTooLong n = false := by
  unfold Builtin.List.listTooLong
  exact decide_eq_false (by omega)
end

section
variable {X : Cx}

/-! ### methods -/
def rAppend : V → List V → Hp → VK → Prop := fun x vs H Q => ∃ l xs y, x = .ref l ∧ vs = [y] ∧ H l = some (.lst xs) ∧ xs.length < sizeLine ∧ Q .non (upd H l (.lst (xs ++ [y])))
theorem mt_append : MtM X "list.append" rAppend := by
  intro pins s σ H x vs v us Q I rx rv h
  obtain ⟨l, xs, y, rfl, rfl, hH, hz, q⟩ := h
  cases rx
  obtain ⟨u, rfl, ru⟩ := rv.one
  obtain ⟨z, its, n, r, hl, e⟩ := I.lstM hH
  refine call_meets F.slot_list_append ⟨_, e, rfl⟩ F.entry_list_append (F.args_list_append_2 _ _) (PySem.list_append l its.toArray n u (by rw [List.size_toArray]; omega)) ⟨e, ?_⟩
  refine ⟨.non, _, I.lset (its' := its ++ [u]) hH e (by simp) (r.append (.cons ru .nil)) ?_, rfl, q⟩
  rw [List.length_append, List.length_singleton]
  omega

def rClear : V → List V → Hp → VK → Prop := fun x vs H Q => ∃ l xs, x = .ref l ∧ vs = [] ∧ H l = some (.lst xs) ∧ Q .non (upd H l (.lst []))
theorem mt_clear : MtM X "list.clear" rClear := by
  intro pins s σ H x vs v us Q I rx rv h
  obtain ⟨l, xs, rfl, rfl, hH, q⟩ := h
  cases rx
  have hus := rv.zero
  subst hus
  obtain ⟨z, its, n, r, hl, e⟩ := I.lstM hH
  refine call_meets F.slot_list_clear ⟨_, e, rfl⟩ F.entry_list_clear (F.args_list_clear_1 _) (AutoSeq1.list_clear_list_0 l its.toArray n (by rw [List.size_toArray]; omega)) ⟨e, ?_⟩
  exact ⟨.non, _, I.lset (its' := []) (ys := []) hH e rfl .nil (Nat.zero_le _), rfl, q⟩

/-! ### list + list, list += list, list * int -/
def rCat : R2 := fun x y H Q => ∃ l b xs zs, x = .ref l ∧ y = .ref b ∧ H l = some (.lst xs) ∧ H b = some (.lst zs) ∧ xs.length + zs.length ≤ sizeLine ∧ ∀ p, H p = none → Q (.ref p) (upd H p (.lst (xs ++ zs)))
theorem op_cat : OpR X (binaryOp .Add) rCat := by
  intro pins s σ H x y v u Q I rx ry h
  obtain ⟨l, b, xs, zs, rfl, rfl, hH, hB, hz, q⟩ := h
  cases rx
  cases ry
  obtain ⟨z, its, n, r, hl, e⟩ := I.lstM hH
  obtain ⟨z2, its2, n2, r2, hl2, e2⟩ := I.lstM hB
  refine PySem.P.add_list e e2 ?_ (by rw [List.size_toArray, List.size_toArray]; omega)
  have ea : its.toArray ++ its2.toArray = (its ++ its2).toArray := by simp
  rw [ea]
  exact ⟨.ref _, _, I.lnew (t' := s.toks) (r.append r2) (by rw [List.length_append]; omega), rfl, q _ I.fresh⟩
/-- a list times an int (a negative one is nothing) -/
def rRep : R2 := fun x y H Q => ∃ l k xs, x = .ref l ∧ y = .int k ∧ H l = some (.lst xs) ∧ -(2 ^ 63) ≤ k ∧ k < 2 ^ 63 ∧ xs.length * k.toNat ≤ sizeLine ∧
  ∀ p, H p = none → Q (.ref p) (upd H p (.lst (List.replicate k.toNat xs).flatten))
theorem len_rep {α : Type} (xs : List α) (k : Nat) : (List.replicate k xs).flatten.length = k * xs.length := by
  induction k with
  | zero => simp
  | succ k ih => rw [List.replicate_succ, List.flatten_cons, List.length_append, ih, Nat.succ_mul, Nat.add_comm]
theorem op_rep : OpR X (binaryOp .Mult) rRep := by
  intro pins s σ H x y v u Q I rx ry h
  obtain ⟨l, k, xs, rfl, rfl, hH, h1, h2, hz, q⟩ := h
  cases rx
  obtain ⟨t, rfl⟩ := ry
  obtain ⟨z, its, n, r, hl, e⟩ := I.lstM hH
  have hlen : its.toArray.size * k.toNat ≤ sizeLine := by rw [List.size_toArray, ← hl]; exact hz
  have hcap : ¬ its.toArray.size * k.toNat > (2 ^ 63 - 1) / 8 := by
    have : (sizeLine : Nat) ≤ (2 ^ 63 - 1) / 8 := by decide
    omega
  have hfit : ¬ (!Builtin.List.listFitsIndex k) = true := by
    rw [fitsIndex_both h1 h2]
    exact Bool.false_ne_true
  have hlong : ¬ Builtin.List.listTooLong (its.toArray.size * k.toNat) = true := by
    rw [notLongL hlen]
    exact Bool.false_ne_true
  have hnew : List.foldl (fun x1 x2 => x1 ++ x2) #[] (List.replicate (if its.toArray.isEmpty = true then 0 else k.toNat) its.toArray) = (List.replicate k.toNat its).flatten.toArray := by
    have f0 : ∀ m : Nat, List.foldl (fun x1 x2 => x1 ++ x2) #[] (List.replicate m its.toArray) = (List.replicate m its).flatten.toArray := fun m => by
      have := foldl_rep its m []
      rw [List.nil_append] at this
      exact this
    rw [f0]
    cases its with
    | nil => simp
    | cons a r' => rw [if_neg (by simp)]
  refine wpAny_binaryOp_repeat_ref (T := "list") (U := "int") (by decide) ⟨_, e, rfl⟩ (fun s' => typeIs_int s' k t) noFill_list_mul F.fills_int_mul F.slot_int_rmul repeat_list F.slot_int_index.lookup
    (call_meets F.slot_int_rmul (typeIs_int s k t) F.entry_int_rmul (F.args_int_rmul_2 _ _) (int___rmul___int_list k t l its.toArray n)
      ⟨e, rfl, ⟨_, e, rfl⟩, call_meets F.slot_list_mul ⟨_, e, rfl⟩ F.entry_list_mul (F.args_list_mul_2 _ _) (AutoListH.list___mul___list_int_3 l its.toArray n k t hfit hcap hlong) ⟨e, ?_⟩⟩)
  rw [hnew]
  exact ⟨.ref _, _, I.lnew (t' := s.toks) (r.rep k.toNat) (by rw [len_rep, Nat.mul_comm]; exact hz), rfl, q _ I.fresh⟩

/-! ### del xs[i] -/
end

/-! ### xs[a:b] = ys -/
section
variable {prog : Program} {w : World} {A : Around} {E : Value → Shared → Prop} {s : Shared}
end

section
variable {X : Cx}
end
end L2

namespace L2
open PySem PySem.Spec PyProof.Rows

/-! ### lists of pairs as tables -/
section
variable {κ : Type} [DecidableEq κ]
def valV (kvs : List (κ × V)) (k : κ) : Option V := (kvs.find? fun kv => decide (kv.1 = k)).map (·.2)
/-- in its place, or at the end -/
def putK (kvs : List (κ × V)) (k : κ) (v : V) : List (κ × V) :=
  if (kvs.any fun kv => decide (kv.1 = k)) = true then kvs.map (fun kv => if kv.1 = k then (kv.1, v) else kv) else kvs ++ [(k, v)]
def dropK (kvs : List (κ × V)) (k : κ) : List (κ × V) := kvs.filter fun kv => decide (kv.1 ≠ k)

theorem valV_pos {p : κ × V} {r : List (κ × V)} {k : κ} (e : p.1 = k) : valV (p :: r) k = some p.2 := by simp [valV, List.find?_cons, e]
theorem valV_neg {p : κ × V} {r : List (κ × V)} {k : κ} (e : ¬ p.1 = k) : valV (p :: r) k = valV r k := by simp [valV, List.find?_cons, e]
theorem valV_any (k : κ) : ∀ kvs : List (κ × V), (kvs.any fun kv => decide (kv.1 = k)) = (valV kvs k).isSome
  | [] => rfl
  | p :: r => by
    rw [List.any_cons]
    by_cases e : p.1 = k
    · simp only [valV_pos e, decide_eq_true e, Bool.true_or, Option.isSome_some]
    · rw [valV_neg e, decide_eq_false e, Bool.false_or]; exact valV_any k r
theorem RelO.isSome_eq {o : Option V} {u : Option Value} (r : RelO o u) : o.isSome = u.isSome := by
  cases o with
  | none => cases u with
    | none => rfl
    | some _ => exact (show False from r).elim
  | some _ => cases u with
    | none => exact (show False from r).elim
    | some _ => rfl
theorem RelO.getD {o : Option V} {u : Option Value} {d : V} {d' : Value} (r : RelO o u) (rd : RelV d d') : RelV (o.getD d) (u.getD d') := by
  cases o with
  | none => cases u with
    | none => exact rd
    | some _ => exact (show False from r).elim
  | some _ => cases u with
    | none => exact (show False from r).elim
    | some _ => exact r

/-- raw tables of the same keys -/
theorem KV.val {kvs : List (κ × V)} {vs : List (κ × Value)} (r : KV kvs vs) (k : κ) : RelO (valV kvs k) (valueAt vs k) := by
  unfold KV at r
  induction r with
  | nil => exact True.intro
  | @cons p q ps qs h t ih =>
    obtain ⟨h1, h2⟩ := h
    by_cases e : p.1 = k
    · have e' : q.1 = k := h1.symm.trans e
      have b : valueAt (q :: qs) k = some q.2 := by simp [valueAt, List.find?_cons, e']
      rw [valV_pos e, b]; exact h2
    · have e' : ¬ q.1 = k := fun z => e (h1.trans z)
      have b : valueAt (q :: qs) k = valueAt qs k := by simp [valueAt, List.find?_cons, e']
      rw [valV_neg e, b]; exact ih
theorem KV.any {kvs : List (κ × V)} {vs : List (κ × Value)} (r : KV kvs vs) (k : κ) : (kvs.any fun kv => decide (kv.1 = k)) = vs.any fun kv => decide (kv.1 = k) := by
  unfold KV at r
  induction r with
  | nil => rfl
  | cons h t ih => rw [List.any_cons, List.any_cons, ih, h.1]
theorem KV.repl {kvs : List (κ × V)} {vs : List (κ × Value)} (r : KV kvs vs) (k : κ) {y : V} {u : Value} (ry : RelV y u) :
    KV (kvs.map fun kv => if kv.1 = k then (kv.1, y) else kv) (vs.map fun kv => if kv.1 = k then (kv.1, u) else kv) := by
  unfold KV at r ⊢
  induction r with
  | nil => exact .nil
  | @cons p q ps qs h t ih =>
    rw [List.map_cons, List.map_cons]
    refine .cons ?_ ih
    obtain ⟨h1, h2⟩ := h
    by_cases e : p.1 = k
    · rw [if_pos e, if_pos (h1.symm.trans e)]; exact ⟨h1, ry⟩
    · rw [if_neg e, if_neg (fun z => e (h1.trans z))]; exact ⟨h1, h2⟩
theorem KV.put {kvs : List (κ × V)} {vs : List (κ × Value)} (r : KV kvs vs) (k : κ) {y : V} {u : Value} (ry : RelV y u) : KV (putK kvs k y) (stored vs k u) := by
  unfold putK stored
  rw [r.any k]
  by_cases e : (vs.any fun kv => decide (kv.1 = k)) = true
  · rw [if_pos e, if_pos e]; exact r.repl k ry
  · rw [if_neg e, if_neg e]; exact Paired.snoc r ⟨rfl, ry⟩
theorem KV.drop {kvs : List (κ × V)} {vs : List (κ × Value)} (r : KV kvs vs) (k : κ) : KV (dropK kvs k) (without vs k) := by
  unfold KV at r ⊢
  unfold dropK without
  induction r with
  | nil => exact .nil
  | @cons p q ps qs h t ih =>
    obtain ⟨h1, h2⟩ := h
    rw [List.filter_cons, List.filter_cons]
    by_cases e : p.1 = k
    · have a : ¬ decide (p.1 ≠ k) = true := by simp [e]
      have b : ¬ decide (q.1 ≠ k) = true := by simp [h1.symm.trans e]
      rw [if_neg a, if_neg b]; exact ih
    · have e' : ¬ q.1 = k := fun z => e (h1.trans z)
      have a : decide (p.1 ≠ k) = true := by simp [e]
      have b : decide (q.1 ≠ k) = true := by simp [e']
      rw [if_pos a, if_pos b]; exact .cons ⟨h1, h2⟩ ih
theorem KV.keys {kvs : List (κ × V)} {vs : List (κ × Value)} (r : KV kvs vs) : kvs.map (·.1) = vs.map (·.1) := by
  unfold KV at r
  induction r with
  | nil => rfl
  | cons h t ih => rw [List.map_cons, List.map_cons, ih, h.1]
theorem KV.length {kvs : List (κ × V)} {vs : List (κ × Value)} (r : KV kvs vs) : kvs.length = vs.length := Paired.length r
end


/-! ### a tracked dict, its keys ints and texts or tuples of these -/
/-- raw entries of a dict with tuple keys -/
abbrev KT (H : Hp) : List (List Key × V) → List (List Key × Addr × Value) → Prop := Paired fun p q => p.1 = q.1 ∧ H q.2.1 = some (.tup (p.1.map kV)) ∧ RelV p.2 q.2.2
theorem KT.val {H : Hp} {kvs : List (List Key × V)} {xs : List (List Key × Addr × Value)} (r : KT H kvs xs) (k : List Key) : RelO (valV kvs k) ((atKey xs k).map (·.2)) := by
  induction r with
  | nil => exact True.intro
  | @cons p q ps qs h t ih =>
    obtain ⟨h1, _, h2⟩ := h
    by_cases e : p.1 = k
    · have e' : q.1 = k := h1.symm.trans e
      have b : atKey (q :: qs) k = some q.2 := by simp [atKey, List.find?_cons, e']
      rw [valV_pos e, b]; exact h2
    · have e' : ¬ q.1 = k := fun z => e (h1.trans z)
      have b : atKey (q :: qs) k = atKey qs k := by simp [atKey, List.find?_cons, e']
      rw [valV_neg e, b]; exact ih
theorem KT.repl {H : Hp} {kvs : List (List Key × V)} {xs : List (List Key × Addr × Value)} (r : KT H kvs xs) (k : List Key) {y : V} {u : Value} (ry : RelV y u) :
    KT H (kvs.map fun kv => if kv.1 = k then (kv.1, y) else kv) (xs.map (putAt k u)) := by
  induction r with
  | nil => exact .nil
  | @cons p q ps qs h t ih =>
    rw [List.map_cons, List.map_cons]
    refine .cons ?_ ih
    obtain ⟨h1, h2, h3⟩ := h
    unfold putAt
    by_cases e : p.1 = k
    · rw [if_pos e, if_pos (h1.symm.trans e)]; exact ⟨h1, h2, ry⟩
    · rw [if_neg e, if_neg (fun z => e (h1.trans z))]; exact ⟨h1, h2, h3⟩
theorem KT.put {H : Hp} {kvs : List (List Key × V)} {xs : List (List Key × Addr × Value)} (r : KT H kvs xs) (k : List Key) {b : Addr} {y : V} {u : Value} (hb : H b = some (.tup (k.map kV))) (ry : RelV y u) :
    KT H (putK kvs k y) (storedH xs k b u) := by
  have e : (kvs.any fun kv => decide (kv.1 = k)) = (atKey xs k).isSome := by
    rw [valV_any, (r.val k).isSome_eq, Option.isSome_map]
  unfold putK storedH
  rw [e]
  by_cases q : (atKey xs k).isSome = true
  · rw [if_pos q, if_pos q]; exact r.repl k ry
  · rw [if_neg q, if_neg q]; exact Paired.snoc r ⟨rfl, hb, ry⟩
theorem KT.keeps {H H' : Hp} {kvs : List (List Key × V)} {xs : List (List Key × Addr × Value)} (r : KT H kvs xs) (ht : ∀ b ys, H b = some (.tup ys) → H' b = some (.tup ys)) : KT H' kvs xs :=
  Paired.mapP r fun _ _ z => ⟨z.1, ht _ _ z.2.1, z.2.2⟩

section
variable {P : Program} {w : World} {H : Hp} {h : Heap} {a : Addr}
end

/-- what the dict at a holds at the key y -/
def DGet (H : Hp) (a : Addr) (y : V) (r : Option V) : Prop :=
  (∃ kvs k, Rd H a (.dK kvs) ∧ y = kV k ∧ r = valV kvs k) ∨ ∃ kvs k b, Rd H a (.dT kvs) ∧ y = .ref b ∧ H b = some (.tup (k.map kV)) ∧ r = valV kvs k
/-- the heap behind a[y] = v -/
def DPut (H : Hp) (a : Addr) (y v : V) (H' : Hp) : Prop :=
  (∃ kvs k, H a = some (.dK kvs) ∧ y = kV k ∧ kvs.length < sizeLine ∧ H' = upd H a (.dK (putK kvs k v))) ∨
  ∃ kvs k b, H a = some (.dT kvs) ∧ y = .ref b ∧ H b = some (.tup (k.map kV)) ∧ kvs.length < sizeLine ∧ H' = upd H a (.dT (putK kvs k v))
theorem DGet.k {H : Hp} {a : Addr} {kvs : List (Key × V)} {k : Key} (e : H a = some (.dK kvs)) : DGet H a (kV k) (valV kvs k) := .inl ⟨kvs, k, .inl e, rfl, rfl⟩
theorem DGet.t {H : Hp} {a b : Addr} {kvs : List (List Key × V)} {k : List Key} (e : H a = some (.dT kvs)) (eb : H b = some (.tup (k.map kV))) : DGet H a (.ref b) (valV kvs k) := .inr ⟨kvs, k, b, .inl e, rfl, eb, rfl⟩
theorem DPut.k {H : Hp} {a : Addr} {kvs : List (Key × V)} {k : Key} {v : V} (e : H a = some (.dK kvs)) (hl : kvs.length < sizeLine) : DPut H a (kV k) v (upd H a (.dK (putK kvs k v))) := .inl ⟨kvs, k, e, rfl, hl, rfl⟩
theorem DPut.t {H : Hp} {a b : Addr} {kvs : List (List Key × V)} {k : List Key} {v : V} (e : H a = some (.dT kvs)) (eb : H b = some (.tup (k.map kV))) (hl : kvs.length < sizeLine) :
    DPut H a (.ref b) v (upd H a (.dT (putK kvs k v))) := .inr ⟨kvs, k, b, e, rfl, eb, hl, rfl⟩


section
variable {X : Cx} {pins : List (Addr × Obj)} {σ : St} {H : Hp} {s : Shared} {a : Addr} {y v : V} {u r : Value} {o : Option V} {A : Around} {E : Value → Shared → Prop}

end

section
variable {X : Cx} {pins : List (Addr × Obj)} {σ : St} {H : Hp} {s : Shared} {a : Addr} {kvs : List (Key × V)} {k : Key} {u : Value} {A : Around} {E : Value → Shared → Prop}
end


/-! ### readings and rules -/
section
variable {X : Cx} {o i e value : Expr} {pos pos' tpos : Pos} {td ty tv : TE}
end


/-! ### displays -/
section
variable {X : Cx} {pos : Pos}
end

/-! ### methods -/
/-- a method call o.m(e) of a built-in, with one argument: what must be seen of the text -/
structure M1 (X : Cx) (o : Expr) (m : Str) (apos : Pos) (e : Expr) (cpos : Pos) : Prop where
  base : attributeBase o m X.env (eval o X.env) = eval o X.env
  few : ((backTo cpos (starEach [e] X.env)).all (fun x => !x.1) && (backToKw cpos (keywordEach [] X.env)).all (fun x => x.1.isSome)
    && decide (([e] : List Expr).length + ([] : List Keyword).length + (if ([] : List Keyword).isEmpty then 0 else 1) < 30)) = true
  line : (apos.endLine == cpos.line) = true
  trees : backTo cpos (starEach [e] X.env) = [(false, eval e X.env)]
structure M2 (X : Cx) (o : Expr) (m : Str) (apos : Pos) (e f : Expr) (cpos : Pos) : Prop where
  base : attributeBase o m X.env (eval o X.env) = eval o X.env
  few : ((backTo cpos (starEach [e, f] X.env)).all (fun x => !x.1) && (backToKw cpos (keywordEach [] X.env)).all (fun x => x.1.isSome)
    && decide (([e, f] : List Expr).length + ([] : List Keyword).length + (if ([] : List Keyword).isEmpty then 0 else 1) < 30)) = true
  line : (apos.endLine == cpos.line) = true
  trees : backTo cpos (starEach [e, f] X.env) = [(false, eval e X.env), (false, eval f X.env)]

section
variable {X : Cx} {pins : List (Addr × Obj)} {σ : St} {H : Hp} {s : Shared} {a : Addr} {y d : V} {u r : Value} {o : Option V} {A : Around} {E : Value → Shared → Prop}
end

section
variable {X : Cx} {o e f : Expr} {apos cpos : Pos} {td ty tx : TE}
end

/-! ### dict(d): a copy -/
section
variable {X : Cx} {pins : List (Addr × Obj)} {σ : St} {H : Hp} {s : Shared} {a : Addr} {kvs : List (Key × V)} {A : Around} {E : Value → Shared → Prop}
end


section
variable {X : Cx} {pins : List (Addr × Obj)} {σ : St} {H : Hp} {s : Shared} {a : Addr} {y : V} {u : Value} {A : Around} {E : Value → Shared → Prop}
end
end L2

namespace Att
open PySem PySem.W PySem.Calls PyProof.Rows

/-! ### the script -/
theorem ints_of_wellAll {P : Params} {h : Heap} : ∀ (ns : List Int) (vs : List Value), WellAll P h vs (ns.map WData.int) → IntsAre vs ns := by
  intro ns
  induction ns with
  | nil =>
    intro vs w
    rw [List.map_nil] at w
    cases w
    exact .nil
  | cons n ns ih =>
    intro vs w
    rw [List.map_cons] at w
    cases w with
    | cons a b =>
      cases a
      exact .cons _ _ (ih _ b)

theorem script_of {l : OpenLaw} {n : Nat} (hn : l.most = some n) {P : Params} {h : Heap} {args : List WData} {vals : List Value}
    (hpre : l.row.toRowW.claim.pre args = true) (hwl : WellAll P h vals args) :
    ∃ a vs ns, vals = [Value.ref a] ∧ args = [WData.list (ns.map WData.int)] ∧ h.get? a = some { cls := .type "list", data := .seq vs.toArray } ∧ IntsAre vs ns ∧ ns.length ≤ n := by
  have hsh : WShape.hasAll [] args [.list .int] = true := (pre_splitW hpre).1
  have hc : l.pre.holds [] { args := args } = true := (pre_splitW hpre).2
  obtain ⟨d, r, rfl, h1, h2⟩ := hasAllW_cons hsh
  obtain rfl := hasAllW_nil h2
  obtain ⟨xs, rfl, h3⟩ := hasW_list h1
  obtain ⟨ns, rfl⟩ := items_int h3
  have hlen : ns.length ≤ n := by
    unfold OpenLaw.pre at hc
    have h4 : (WTm.not (.lt (.lit (.int (n : Int))) (.len (.arg 0)))).holds [] { args := [.list (ns.map .int)] } = true := by
      have h4 := (holds_andW hc).1
      rw [hn] at h4
      exact h4
    have h5 := condW_of h4 (w_not (w_lt w_lit (w_len_list (w_arg rfl))))
    rw [List.length_map] at h5
    refine Nat.le_of_not_lt fun q => ?_
    have q' : (n : Int) < ((ns.length : Nat) : Int) := by omega
    first
      | (rw [decide_eq_true q'] at h5; exact absurd h5 (by decide))
      | (simp at h5; omega)
  cases hwl with
  | cons w1 w2 =>
    cases w2
    cases w1 with
    | list ho hall => exact ⟨_, _, ns, rfl, rfl, ho, ints_of_wellAll ns _ hall, hlen⟩

theorem post_true (l : OpenLaw) (args : List WData) : l.row.toRowW.claim.post args (.bool true) args = true :=
  postW_of (r := l.row.toRowW) (X := (true == true))
    (show WShape.has [] (.bool true) .bool = true by first | rfl | decide | simp [WShape.has, WShape.arms, WShape.armsAll])
    (show (WTm.eq .res (.lit (.bool true))).value [] { args := args, res := some (.bool true), after := args } = some (.bool (true == true)) from w_eq_bool (w_res rfl) w_lit) rfl

/-! ### the attachment: holds_open's last premise (the goal 'hc' behind k_head) from a wpAny of the law's body -/
/-- the same from a codeAny of the CALL (for a layer whose function contracts speak of calls) -/
theorem attach_call {l : OpenLaw} {n : Nat} {q : Program} {loose : List Str} {XP : (Str → Option Value) → Heap → Prop} {YP : World → Heap → Prop} {d : DefRec}
    (hn : l.most = some n) (hdf : d.params.defaults = [])
    (call : ∀ (w : World) (s₀ s₁ : Shared) (mg mb : Str → Option Value) (fa : Addr) (o : Obj) (pm cd doc : Value) (a : Addr) (vs : List Value) (ns : List Int),
      Ground q loose [] XP w s₀ mg mb s₁.heap → YP w s₁.heap →
      s₁.heap.get? fa = some o → o.data = .func (docDef d.name d.params d.body d.scope pm cd doc) → s₁.heap.CodeRec cd d.name → mg d.name = some (.ref fa) →
      s₁.heap.get? a = some { cls := .type "list", data := .seq vs.toArray } → IntsAre vs ns → ns.length ≤ n → s₁.gens = #[] →
      codeAny (model l.prog w) callerA (.call (.ref fa) ⟨[.ref a], []⟩) (fun r s' => r = .ok (.ret (.bool true)) ∧ OldK s₁.heap s'.heap ∧ s'.os = s₁.os ∧ AllBare s'.gens) s₁) :
    WalkO q loose XP YP l.row.toRowW d [] (fun f vs => PySem.call f vs) := by
  intro w s₀ s₁ mg mb G Y fa o pm cd doc dV kV ho hd hcd hD hmg hg args vals as hpre hlay hrd hwl hlo
  obtain rfl : dV = .none := Dflts.none hD hdf
  obtain rfl : kV = .none := Dflts.noKw hD
  obtain ⟨a, vs, ns, rfl, rfl, hobj, hints, hlen⟩ := script_of hn hpre hwl
  refine enter_call (codeAny_mono (call w s₀ s₁ mg mb fa o pm cd doc a vs ns G Y ho (fd_plain hd) hcd hmg hobj hints hlen hg) fun r s' hq => ?_)
  obtain ⟨rfl, h2, h3, h4⟩ := hq
  exact ⟨.inl ⟨.bool true, .bool true, [], rfl, fun _ => rfl, .bool true, post_true l _, fun _ => ⟨List.Pairwise.nil, fun _ hm => (nomatch hm)⟩⟩, h2, h3, h4⟩

/-! ### rules over ANY heap (no ledger) from facts about the written part K: the library's own take a ledger (News) for what they write -/
section
variable {prog : Program} {w : World} {A : Around} {E : Value → Shared → Prop} {s : Shared} {K : Frag}

/-! the whole heap as the ledger: makes every rule that writes through a ledger a rule over any heap -/
def ledger (h : Heap) (L d : Addr) : List (Addr × Obj) := (List.range h.objs.size).filterMap fun a => if a = L ∨ a = d then none else (h.get? a).map fun o => (a, o)
end
end Att

namespace L2
open PySem PySem.Spec PyProof.Rows

theorem vals_ints : ∀ {vs : List Value} {ns : List Int}, IntsAre vs ns → Vals (ns.map V.int) vs
  | _, _, .nil => .nil
  | _, _, .cons n t h => .cons ⟨t, rfl⟩ (vals_ints h)

/-- nothing is tracked but the script, known to the object (or it is an object of the module) -/
def Only (H : Hp) : Prop := ∀ b, H b = none ∨ ∃ o xs, H b = some (.frz o (.lst xs))

/-- THE HEAD: the law's promise, at the heap behind the top. F, the promise of the law's def, may use that base is part of the heap (so K.In base, base.Ns mainGlobals mg stand in Mod) -/
theorem law_call {P : Program} {w : World} {K : PySem.W.Frag} {mg mb : Str → Option Value} {CX : CXT} {k : Nat} {fa a : Addr} {fd : FuncData} {x : Str} {sp : Sp} {s₁ : Shared} {vs : List Value} {ns : List Int}
    (KX : K.In s₁.heap) (hns : s₁.heap.Ns mainGlobals mg) (hb : s₁.heap.Ns builtinsNs mb) (hbb : ∀ x : Str, x ≠ "__name__" → mb x = bootBuiltins x) (hlim : s₁.heap.NoLimit) (hg : s₁.gens = #[])
    (ha : s₁.heap.get? a = some { cls := .type "list", data := .seq vs.toArray }) (hi : IntsAre vs ns) (hl : ns.length ≤ sizeLine) (hr : Room k callerA)
    (F : ∀ base : Heap, K.In base → base.Ns mainGlobals mg → FnOk P w K mg base CX k fa fd [x] sp) (hbind : ∀ (s : Shared) (u : Value), BindsTo s fd ⟨[u], []⟩ [(x, u)])
    (hsp : ∀ H : Hp, Only H → SqL K H a (ns.map V.int) → sp [.ref a] H (fun v _ => v = .bl true) fun _ _ _ => False)
    (hCX : ∀ H e s', CX [] H s₁ (fun _ _ _ => False) e s' → False) :
    codeAny (model P w) callerA (.call (.ref fa) ⟨[.ref a], []⟩) (fun r s' => r = .ok (.ret (.bool true)) ∧ OldK s₁.heap s'.heap ∧ s'.os = s₁.os ∧ AllBare s'.gens) s₁ := by
  have rv := vals_ints hi
  have lenV := hi.length
  -- from an abstract heap in which nothing but the script may be tracked
  have core : ∀ H : Hp, Only H → SqL K H a (ns.map V.int) → HOk P w H s₁.heap → (∀ b, H b ≠ none → b = a) → (H a ≠ none → K.lookup a = none) →
      codeAny (model P w) callerA (.call (.ref fa) ⟨[.ref a], []⟩) (fun r s' => r = .ok (.ret (.bool true)) ∧ OldK s₁.heap s'.heap ∧ s'.os = s₁.os ∧ AllBare s'.gens) s₁ := by
    intro H hO hS hok hA hK
    have base_of : ∀ {b : Addr} {o : Obj}, s₁.heap.get? b = some o → H b = none → (hidT s₁.heap H).get? b = some o := fun e n => hidT_get e n
    have noA : ∀ {b : Addr} {o : Obj} {es : Array DictEntry} {ep : Nat}, s₁.heap.get? b = some o → o.data = .dict es ep → H b = none := fun {b o es ep} e d => by
      cases q : H b with
      | none => rfl
      | some u =>
        have e' : b = a := hA b (by rw [q]; simp)
        subst e'
        rw [ha] at e; cases e
        have d' : Data.seq vs.toArray _ = Data.dict es ep := d
        cases d'
    have nsK : ∀ {b : Addr} {m : Str → Option Value}, s₁.heap.Ns b m → (hidT s₁.heap H).Ns b m := fun {b m} ⟨o, es, ep, e, d, r⟩ => ⟨o, es, ep, base_of e (noA e d), d, r⟩
    have hKb : K.In (hidT s₁.heap H) := fun b o e => base_of (KX b o e) (by
      cases q : H b with
      | none => rfl
      | some u =>
        have e' : b = a := hA b (by rw [q]; simp)
        subst e'
        rw [hK (by rw [q]; simp)] at e; cases e)
    have hM : Mod K mg (hidT s₁.heap H) := ⟨hKb, nsK hns, ⟨mb, nsK hb, hbb⟩, let ⟨mc, h1, h2⟩ := hlim; ⟨mc, nsK h1, h2⟩⟩
    have e0 : Env0 P w K mg (hidT s₁.heap H) callerA [] s₁ H := ⟨rfl, hM, fun b o e => of_hidT e, Nat.le_of_eq (hidT_size _ _), trivial, fun b hb => absurd (show b ∈ ([] : List Addr) from hb) (by simp), hok, .of_eq hg⟩
    refine codeAny_mono ((F _ hKb (nsK hns)).run callerA [] s₁ H ⟨[.ref a], []⟩ [.ref a] [.ref a] _ _ hr e0 (hbind s₁ (.ref a)) (.cons rfl .nil) (hsp H hO hS)) fun r s' h => ?_
    cases r with
    | error e => exact (hCX H e s' h).elim
    | ok fl =>
      cases fl with
      | next => exact False.elim h
      | brk => exact False.elim h
      | cont => exact False.elim h
      | ret u =>
        obtain ⟨v, H', os, bare, un, hok', r', q⟩ := h
        have q' : v = .bl true := q
        subst q'
        obtain rfl : u = Value.bool true := r'
        refine ⟨rfl, OldK.of_keep fun b o e => ?_, os, bare⟩
        cases q : H b with
        | none => exact un.keep b o e q (by intro z; exact absurd (show b ∈ ([] : List Addr) from z) (by simp)) (by simp)
        | some u =>
          rcases hO b with z | ⟨ob, xs, z⟩
          · rw [q] at z; cases z
          · have z2 := un.frzs b ob _ z
            obtain ⟨e1, _⟩ := hok b _ z
            obtain ⟨e2, _⟩ := hok' b _ z2
            rw [e] at e1; cases e1
            exact e2
  cases hk : K.lookup a with
  | some o =>
    -- the script is one of the module's own objects
    have e := KX a o hk
    rw [ha] at e
    cases e
    refine core (fun _ => none) (fun _ => .inl rfl) (.inr ⟨_, vs.toArray, _, hk, rfl, rfl, rfl, by rw [List.size_toArray, lenV]; exact hl, by simpa using rv⟩) (fun b u z => by have z' : (none : Option HO) = some u := z; cases z') (fun b z => absurd rfl z) fun z => absurd rfl z
  | none =>
    refine core (fun b => if b = a then some (.frz { cls := .type "list", data := .seq vs.toArray } (.lst (ns.map V.int))) else none) (fun b => ?_) (.inl (.inr ⟨{ cls := .type "list", data := .seq vs.toArray }, if_pos rfl⟩)) (fun b u z => ?_) (fun b z => ?_) fun _ => hk
    · by_cases hb : b = a
      · exact .inr ⟨_, _, if_pos hb⟩
      · exact .inl (if_neg hb)
    · by_cases hb : b = a
      · have z' := (if_pos hb).symm.trans z
        cases z'
        subst hb
        exact ⟨ha, by rw [List.length_map]; exact hl, vs, _, rv, ha⟩
      · have z' := (if_neg hb).symm.trans z
        cases z'
    · by_cases hb : b = a
      · exact hb
      · exact absurd (if_neg hb) z
end L2

namespace L2
open PySem PySem.Spec PyProof.Rows

abbrev KOf {K : PySem.W.Frag} {h : Heap} (_ : K.In h) : PySem.W.Frag := K

/-- the goal that k_head leaves (case hc), from the law's promise. F gives the function object fd (K's own) once, then the promise over every base -/
theorem walk_of {l : PySem.W.OpenLaw} {n k : Nat} {q : Program} {loose : List Str} {XP : (Str → Option Value) → Heap → Prop} {YP : World → Heap → Prop} {d : DefRec} {K : Params → PySem.W.Frag} {CX : World → CXT} {sp : World → Sp} {x : Str}
    (hn : l.most = some n) (hn2 : n ≤ sizeLine) (hdf : d.params.defaults = []) (hr : Room k callerA)
    (hY : ∀ (w : World) (h : Heap), YP w h → (K w.params).In h)
    (F : ∀ (w : World) (mg : Str → Option Value) (fa : Addr) (h : Heap), (K w.params).In h → h.Ns mainGlobals mg → mg d.name = some (.ref fa) →
      ∃ fd : FuncData, (∀ (s : Shared) (u : Value), BindsTo s fd ⟨[u], []⟩ [(x, u)]) ∧
        ∀ base : Heap, (K w.params).In base → base.Ns mainGlobals mg → FnOk l.prog w (K w.params) mg base (CX w) k fa fd [x] (sp w))
    (hsp : ∀ (w : World) (H : Hp) (a : Addr) (ns : List Int), ns.length ≤ n → Only H → SqL (K w.params) H a (ns.map V.int) → sp w [.ref a] H (fun v _ => v = .bl true) fun _ _ _ => False)
    (hCX : ∀ (w : World) (H : Hp) (s : Shared) (e : Value) (s' : Shared), CX w [] H s (fun _ _ _ => False) e s' → False) :
    PySem.W.WalkO q loose XP YP l.row.toRowW d [] (fun f vs => PySem.call f vs) := by
  refine Att.attach_call hn hdf fun w s₀ s₁ mg mb fa o pm cd doc a vs ns G Y ho hd hcd hmg hobj hints hlen hg => ?_
  have KX := hY w _ Y
  obtain ⟨fd, hb, hF⟩ := F w mg fa _ KX G.T.g hmg
  exact law_call KX G.T.g G.T.b G.T.builtins G.T.nolimit hg hobj hints (Nat.le_trans hlen hn2) hr hF hb (fun H hO hS => hsp w H a ns hlen hO hS) fun H e s' => hCX w H s₁ e s'
end L2

/- THE LAST THEOREM (shape; LID, My.* are yours):
   My.Adr: a structure of the addresses that your layer names (classes, functions); My.Txt K t: a structure (Prop) of the equations over K;
   My.txt_mk : {K} {implicit addresses ..} (e1 : nsIn K mainGlobals "law" = some (some (.ref f))) (e2 : K.lookup f = some ⟨oc, od, .func (fnOf "law" "law" params body scope dV kV doc pm an cdv ct), sl⟩) (e3 : codeIn K cdv "law" = true) .. : ∃ t, My.Txt K t

set_option maxRecDepth 100000 in
set_option maxHeartbeats 0 in
theorem PySem.Challenge.cw_LID_holds : PySem.Challenge.rw_LID.Holds := by
  w_on; o_law; k_head; (case hw => w_witness2)
  k_fill
  refine L2.walk_of (l := PySem.Challenge.rw_LID) (n := 63) (k := 40) (x := "script") (CX := fun w => ..) (sp := fun _ => My.sp_law) rfl (by decide) rfl ⟨rfl, by decide, by decide⟩ (fun w h Y => PySem.W.kIn_of Y) ?F ?S ?C
  case F =>
    intro w mg fa h KX G hmg
    have T : ∃ t, My.Txt (L2.KOf KX) t := by
      dsimp only [L2.KOf]                          -- K must stand as «<heap const> w.params» for k_is
      refine' My.txt_mk ?e1 ?e2 ?e3 ..
      (case e1 => PySem.W.k_is)                    -- in the order: a name -> its address -> its object -> its parts
      (case e2 => PySem.W.k_is)
      ..
    obtain ⟨t, T⟩ := T
    have e0 := hmg.symm.trans (PySem.W.mg_of KX G T.law)
    cases e0                                       -- fa is the law's own address
    exact ⟨_, fun s u => .of_eq rfl, fun base kb nb => My.law_fn T kb nb⟩     -- if «.of_eq rfl» comes too early: refine' ⟨_, ?b, fun base kb nb => My.law_fn T kb nb⟩; exact fun s u => .of_eq rfl
  case S => exact fun w H a ns hl hO hS => ..
  case C => exact ..
(the tactic k_is has no namespace: write k_is) -/

/-! SHORT WORDS over the layer: a def of the text, its body, what a loop and a test want. -/
namespace L2
open PySem PySem.Spec PyProof.Rows

/-! ### the text by places -/
def defArgs (s : Stmt) : Arguments := match s with
  | .FunctionDef _ a _ _ _ _ _ _ _ _ => a
  | _ => { posonlyargs := [], args := [], vararg := none, kwonlyargs := [], kw_defaults := [], kwarg := none, defaults := [] }
def defBody (s : Stmt) : List Stmt := match s with
  | .FunctionDef _ _ b _ _ _ _ _ _ _ => b
  | _ => []
def defScope (s : Stmt) : Scope := match s with
  | .FunctionDef _ _ _ _ _ _ sc _ _ _ => sc
  | _ => { kind := .function, names := [], isGenerator := false, isCoroutine := false }

/-! ### no exception leaves a def -/
abbrev CX0 : CXT := fun _ _ _ _ _ _ => False
abbrev E0 : XK := fun _ _ _ => False
theorem pass0 {X : Cx} : Passes CX0 X E0 := fun _ _ _ _ _ _ _ h => h.elim

/-! ### a def (or method) of the text as it stands behind the top -/
structure Fun (K : PySem.W.Frag) (x qual : Str) (st : Stmt) (f : Addr) (fd : FuncData) : Prop where
  ex : ∃ (oc : Value) (od : Option Addr) (kV doc pm : Value) (an : Option Addr) (cdv ct : Value) (osl : Array (Option Value)),
    fd = PySem.W.fnOf x qual (defArgs st) (defBody st) (defScope st) .none kV doc pm an cdv ct ∧ K.lookup f = some ⟨oc, od, .func fd, osl⟩ ∧ PySem.W.codeIn K cdv qual = true
  kp : PySem.W.keepIn K (.ref f) = true
section
variable {P : Program} {w : World} {K : PySem.W.Frag} {mg : Str → Option Value} {base : Heap}
/-- THE RULE for a def: its body as a term of rules, and the reading of that term -/
theorem Fun.ok {x qual : Str} {st : Stmt} {f : Addr} {fd : FuncData} {N ps : List Str} {k : Nat} {sp : Sp} (F : Fun K x qual st f fd) (S : FnScope N ps (defScope st)) (len : ∀ vs H Q E, sp vs H Q E → vs.length = ps.length)
    (hbody : ∀ (cdv : Value) (A : Around) (outer : List Env) (s : Shared) (H : Hp) (vs : List V) (Q : VK) (E : XK), Room k (A.deeper (envOfC qual (defScope st) s.heap.objs.size f cdv)) → sp vs H Q E →
      ∃ t, PSs (cxOf CX0 P w K mg base N qual (defScope st) f cdv A outer s H E).nox (defBody st) t ∧ t { nx := fun _ H' => Q .non H', rt := Q } (start N vs) H) : FnOk P w K mg base CX0 (k + 1) f fd ps sp := by
  obtain ⟨oc, od, kV, doc, pm, an, cdv, ct, osl, rfl, lk, hcd⟩ := F.ex
  refine fn_of lk hcd S len fun A outer s H vs Q E hr hsp => ?_
  obtain ⟨t, h, q⟩ := hbody cdv A outer s H vs Q E hr hsp
  exact ⟨t, h.nox, q⟩
/-- how its arguments bind (no defaults): h is «fun _ _ _ _ _ _ us hl => match us, hl with | [_, _], _ => rfl», one _ a parameter -/
theorem Fun.binds {x qual : Str} {st : Stmt} {f : Addr} {fd : FuncData} {ps : List Str} (F : Fun K x qual st f fd)
    (h : ∀ (kV doc pm : Value) (an : Option Addr) (cdv ct : Value) (us : List Value), us.length = ps.length → bindArgs (PySem.W.fnOf x qual (defArgs st) (defBody st) (defScope st) .none kV doc pm an cdv ct) ⟨us, []⟩ = pure (ps.zip us)) : Binds K fd ps [] := by
  obtain ⟨oc, od, kV, doc, pm, an, cdv, ct, osl, rfl, lk, hcd⟩ := F.ex
  exact .all (h kV doc pm an cdv ct)
theorem fun_mk {x qual : Str} {st : Stmt} {f : Addr} {oc : Value} {od an : Option Addr} {osl : Array (Option Value)} {kV doc pm cdv ct : Value} (l : K.lookup f = some ⟨oc, od, .func (PySem.W.fnOf x qual (defArgs st) (defBody st) (defScope st) .none kV doc pm an cdv ct), osl⟩)
    (c : PySem.W.codeIn K cdv qual = true) (k : PySem.W.keepIn K (.ref f) = true) : Fun K x qual st f (PySem.W.fnOf x qual (defArgs st) (defBody st) (defScope st) .none kV doc pm an cdv ct) := ⟨⟨oc, od, kV, doc, pm, an, cdv, ct, osl, rfl, l, c⟩, k⟩
end
theorem hu_of {A : Around} {k : Nat} (hr : Room k A) : A.units + 1 < cLine := Nat.lt_of_le_of_lt (Nat.add_le_add_left (by decide : 1 ≤ 64) _) hr.units
/-! ### expressions in short: the name that stands in the i-th slot -/
section
variable {X : Cx}
theorem pv (i : Nat) {x : Str} {pos : Pos} (hN : X.N[i]? = some x := by rfl) (hv : Vis X.env.scope x := by first | exact Or.inl rfl | exact Or.inr (Or.inl rfl) | exact Or.inr (Or.inr rfl)) (hd : (x == ("__debug__" : Str)) = false := by decide)
    (hcd : (x == ("__classdict__" : Str)) = false := by decide) : PE X (.Name x pos) (tVar i) := pe_var hN hv hd hcd
end

/-! ### tests -/
theorem iteF {A B : Prop} (h : B) : if false = true then A else B := by
  rw [if_neg Bool.false_ne_true]
  exact h
theorem iteT {A B : Prop} (h : A) : if true = true then A else B := by
  rw [if_pos rfl]
  exact h
theorem ite2 {c A B : Prop} [Decidable c] (h1 : c → A) (h2 : ¬ c → B) : if c then A else B := by
  by_cases h : c
  · rw [if_pos h]
    exact h1 h
  · rw [if_neg h]
    exact h2 h
theorem iteNS {c A B : Prop} [Decidable c] (hc : c) (h : B) : if (!decide c) = true then A else B := by
  rw [decide_eq_true hc]
  exact iteF h

/-! ### heaps -/
/-- all that was tracked is as it was -/
def Same (H H' : Hp) : Prop := ∀ b o, H b = some o → H' b = some o
theorem Same.refl (H : Hp) : Same H H := fun _ _ h => h
theorem Same.trans {H H1 H2 : Hp} (a : Same H H1) (b : Same H1 H2) : Same H H2 := fun c o h => b c o (a c o h)
theorem Same.free {H H' : Hp} (e : Same H H') {l : Addr} (h : H' l = Option.none) : H l = Option.none := by
  cases q : H l with
  | none => rfl
  | some o =>
    rw [e l o q] at h
    cases h
theorem Same.seq {K : PySem.W.Frag} {H H' : Hp} {a : Addr} {xs : List V} (e : Same H H') (h : SqL K H a xs) : SqL K H' a xs := by
  rcases h with (h | ⟨o, h⟩) | h
  · exact .inl (.inl (e _ _ h))
  · exact .inl (.inr ⟨o, e _ _ h⟩)
  · exact .inr h

end L2

namespace L2
open PySem PySem.Spec PyProof.Rows
section
variable {X : Cx}
end
/-! ### a dict's pairs: keys that differ -/
section
variable {κ : Type} [DecidableEq κ]
end
end L2

/-! ### own rules above the hand layer (namespace My): products of great ints, isinstance, dict(d), d == e of equal dicts, the head with the script's bits -/
namespace My
open PySem PySem.Spec PyProof.Rows L2
section
variable {X : Cx}
theorem call_isi : CallR X (.builtin "isinstance") (fun xs H Q => ∃ x t c b, xs = [x, V.ty c] ∧ TyOf X.K H x t ∧ PySem.W.kitOne X.K t (.type c) = some b ∧ Q (.bl b) H) := by
  intro pins s σ H xs us Q I r h
  obtain ⟨x, t, c, b, rfl, ty, e, q⟩ := h
  obtain ⟨u, w', rfl, ru, rw'⟩ := vals2 r
  cases rw'
  exact isinst_ok I ru ty e fun tk => ⟨.bl b, H, I.tok tk, rfl, q⟩
end
section
variable {K : PySem.W.Frag}
theorem kit_ii : PySem.W.kitOne K (.type "int") (.type "int") = some true := by
  show (if (Value.type "int" == Value.type "int") = true then some true else if PySem.W.kitMeta "int" = true then (fastBuiltinMro "int").map (·.contains (Value.type "int")) else none) = some true
  decide +kernel
theorem kit_ib : PySem.W.kitOne K (.type "int") (.type "bool") = some false := by
  show (if (Value.type "int" == Value.type "bool") = true then some true else if PySem.W.kitMeta "bool" = true then (fastBuiltinMro "int").map (·.contains (Value.type "bool")) else none) = some false
  decide +kernel
end
/-! ### d == e -/
def AllInt (kvs : List (Key × V)) : Prop := ∀ kv ∈ kvs, ∃ n, kv.2 = V.int n
theorem AllInt.nil : AllInt [] := fun _ h => nomatch h
theorem AllInt.put {kvs : List (Key × V)} (h : AllInt kvs) (k : Key) (n : Int) : AllInt (putK kvs k (.int n)) := by
  intro kv m
  unfold putK at m
  split at m
  · obtain ⟨p, hp, e⟩ := List.mem_map.mp m
    split at e
    · subst e; exact ⟨n, rfl⟩
    · subst e; exact h p hp
  · rcases List.mem_append.mp m with q | q
    · exact h kv q
    · rw [List.mem_singleton.mp q]; exact ⟨n, rfl⟩
/-! ### items -/
theorem atI_lt {α : Type} {xs : List α} {i : Int} (h0 : 0 ≤ i) (h1 : i < xs.length) : ∃ v, atI xs i = some v := by
  have e : ixN xs.length i = some i.toNat := by
    unfold ixN
    rw [if_pos h0, if_pos h1]
  have hl : i.toNat < xs.length := by omega
  refine ⟨xs[i.toNat], ?_⟩
  unfold atI
  rw [e]
  exact List.getElem?_eq_getElem hl
theorem atI_mem {α : Type} {xs : List α} {i : Int} {v : α} (h : atI xs i = some v) : v ∈ xs := by
  obtain ⟨j, _, e, _⟩ := atI_get h
  exact List.mem_of_getElem? e
theorem _root_.L2.Same.upd {H : Hp} {p : Addr} {o : HO} (h : H p = none) : Same H (upd H p o) := fun b u e => by
  rw [upd_ne (ne_of_none e h)]
  exact e
theorem _root_.L2.Same.again {H H' : Hp} {p : Addr} {o : HO} (s : Same H H') (h : H p = none) : Same H (L2.upd H' p o) := fun b u e => by
  rw [upd_ne (ne_of_none e h)]
  exact s b u e
/-! ### bits -/
open Builtin.Int (intBits)
theorem bits_item : ∀ {ns : List Int} {m : Int}, m ∈ ns → intBits m ≤ PySem.W.WData.weightAll (ns.map PySem.W.WData.int)
  | n :: r, m, h => by
    rcases List.mem_cons.mp h with e | e
    · subst e
      simp only [List.map_cons, PySem.W.WData.weightAll, PySem.W.WData.weight, Builtin.Int.intBits]
      omega
    · have z := bits_item e
      simp only [List.map_cons, PySem.W.WData.weightAll]
      omega
theorem bits_of {ns : List Int} (h : PySem.W.WData.layableAll [PySem.W.WData.list (ns.map .int)] = true) : ∀ m ∈ ns, intBits m ≤ 1048576 := fun m hm => by
  have h1 := (PySem.W.layW_cons h).1
  have h2 : PySem.W.WData.weight (.list (ns.map .int)) ≤ 2 ^ 20 := of_decide_eq_true (Bool.and_eq_true_iff.mp h1).2
  have h3 := bits_item hm
  have h4 : PySem.W.WData.weight (.list (ns.map .int)) = PySem.W.WData.weightAll (ns.map .int) := by simp only [PySem.W.WData.weight]
  have e : (2 : Nat) ^ 20 = 1048576 := by decide
  omega
end My
namespace My
open PySem PySem.W PySem.Calls PyProof.Rows L2
theorem walk_ofB {l : PySem.W.OpenLaw} {n k : Nat} {q : Program} {loose : List Str} {XP : (Str → Option Value) → Heap → Prop} {YP : World → Heap → Prop} {d : DefRec} {K : Params → PySem.W.Frag} {CX : World → CXT} {sp : World → Sp} {x : Str}
    (hn : l.most = some n) (hn2 : n ≤ sizeLine) (hdf : d.params.defaults = []) (hr : Room k callerA)
    (hY : ∀ (w : World) (h : Heap), YP w h → (K w.params).In h)
    (F : ∀ (w : World) (mg : Str → Option Value) (fa : Addr) (h : Heap), (K w.params).In h → h.Ns mainGlobals mg → mg d.name = some (.ref fa) →
      ∃ fd : FuncData, (∀ (s : Shared) (u : Value), BindsTo s fd ⟨[u], []⟩ [(x, u)]) ∧
        ∀ base : Heap, (K w.params).In base → base.Ns mainGlobals mg → FnOk l.prog w (K w.params) mg base (CX w) k fa fd [x] (sp w))
    (hsp : ∀ (w : World) (H : Hp) (a : Addr) (ns : List Int), ns.length ≤ n → (∀ m ∈ ns, Builtin.Int.intBits m ≤ 1048576) → Only H → SqL (K w.params) H a (ns.map V.int) → sp w [.ref a] H (fun v _ => v = .bl true) fun _ _ _ => False)
    (hCX : ∀ (w : World) (H : Hp) (s : Shared) (e : Value) (s' : Shared), CX w [] H s (fun _ _ _ => False) e s' → False) :
    PySem.W.WalkO q loose XP YP l.row.toRowW d [] (fun f vs => PySem.call f vs) := by
  intro w s₀ s₁ mg mb G Y fa o pm cd doc dV kV ho hd hcd hD hmg hg args vals as hpre hlay hrd hwl hlo
  obtain rfl : dV = .none := Dflts.none hD hdf
  obtain rfl : kV = .none := Dflts.noKw hD
  obtain ⟨a, vs, ns, rfl, rfl, hobj, hints, hlen⟩ := Att.script_of hn hpre hwl
  have KX := hY w _ Y
  obtain ⟨fd, hb, hF⟩ := F w mg fa _ KX G.T.g hmg
  refine enter_call (codeAny_mono (law_call KX G.T.g G.T.b G.T.builtins G.T.nolimit hg hobj hints (Nat.le_trans hlen hn2) hr hF hb (fun H hO hS => hsp w H a ns hlen (bits_of hlay) hO hS) fun H e s' => hCX w H s₁ e s') fun r s' hq => ?_)
  obtain ⟨rfl, h2, h3, h4⟩ := hq
  exact ⟨.inl ⟨.bool true, .bool true, [], rfl, fun _ => rfl, .bool true, Att.post_true l _, fun _ => ⟨List.Pairwise.nil, fun _ hm => (nomatch hm)⟩⟩, h2, h3, h4⟩
end My
/-! ### data of the abstract heap, compared whatever its depth; sum of a list of ints -/
namespace My
open PySem PySem.Spec PyProof.Rows L2
mutual
inductive Dt (K : PySem.W.Frag) (H : Hp) : V → PyData → Prop where
  | non : Dt K H .non .none
  | bl (b : Bool) : Dt K H (.bl b) (.bool b)
  | int (i : Int) : Dt K H (.int i) (.int i)
  | str (x : Str) : Dt K H (.str x) (.str x)
  | lst {a : Addr} {xs : List V} {ds : List PyData} (h : SqL K H a xs) (r : Dts K H xs ds) : Dt K H (.ref a) (.list ds)
  | tup {a : Addr} {xs : List V} {ds : List PyData} (h : SqT K H a xs) (r : Dts K H xs ds) : Dt K H (.ref a) (.tuple ds)
inductive Dts (K : PySem.W.Frag) (H : Hp) : List V → List PyData → Prop where
  | nil : Dts K H [] []
  | cons {x : V} {d : PyData} {xs : List V} {ds : List PyData} (h : Dt K H x d) (r : Dts K H xs ds) : Dts K H (x :: xs) (d :: ds)
end
section
variable {X : Cx} {pins : List (Addr × Obj)} {σ : L2.St} {H : Hp} {s : Shared}
mutual
theorem Dt.reads (I : Inv X pins σ H s) {v : V} {d : PyData} (h : Dt X.K H v d) {u : Value} (r : RelV v u) : ∃ as, Reads s.heap u d as := by
  cases h with
  | non => cases r; exact ⟨_, .none⟩
  | bl b => cases r; exact ⟨_, .bool b⟩
  | int i => obtain ⟨t, rfl⟩ := r; exact ⟨_, .int i t⟩
  | str x => obtain ⟨t, rfl⟩ := r; exact ⟨_, .str x t⟩
  | lst h q =>
    cases r
    obtain ⟨its, rv, ⟨o, n, e, c, _, dd⟩, _⟩ := I.list h
    obtain ⟨as, z⟩ := Dts.reads I q rv
    exact ⟨_, .list e c dd (by simpa using z)⟩
  | tup h q =>
    cases r
    obtain ⟨its, rv, ⟨o, e, c, n, dd⟩, _⟩ := I.tuple h
    obtain ⟨as, z⟩ := Dts.reads I q rv
    exact ⟨_, .tuple e c dd (by simpa using z)⟩
theorem Dts.reads (I : Inv X pins σ H s) {vs : List V} {ds : List PyData} (h : Dts X.K H vs ds) {us : List Value} (r : Vals vs us) : ∃ as, ReadsAll s.heap us ds as := by
  cases h with
  | nil => cases r; exact ⟨_, .nil⟩
  | cons h q =>
    cases r with
    | cons r1 r2 =>
      obtain ⟨as, z⟩ := Dt.reads I h r1
      obtain ⟨bs, y⟩ := Dts.reads I q r2
      exact ⟨_, .cons z y⟩
end
end
section
variable {X : Cx}
def rEqD (K : PySem.W.Frag) : R2 := fun x y H Q => ∃ da db, Dt K H x da ∧ Dt K H y db ∧ SeqAt.shaped da = true ∧ SeqAt.shaped db = true ∧ Q (.bl (PyData.eqv da db)) H
def rNeD (K : PySem.W.Frag) : R2 := fun x y H Q => ∃ da db, Dt K H x da ∧ Dt K H y db ∧ SeqAt.shaped da = true ∧ SeqAt.shaped db = true ∧ Q (.bl (!PyData.eqv da db)) H
theorem op_eqS (hu : X.A.units + 64 < cLine) : OpR X (compareOp .Eq) (rEqD X.K) := by
  intro pins s σ H x y v u Q I rx ry h
  obtain ⟨da, db, ha, hb, sa, sb, q⟩ := h
  obtain ⟨as, ra⟩ := ha.reads I rx
  obtain ⟨bs, rb⟩ := hb.reads I ry
  exact SeqAt.compareEq_shaped ra rb sa sb hu ⟨.bl _, H, I, rfl, q⟩
theorem op_neS (hu : X.A.units + 64 < cLine) : OpR X (compareOp .NotEq) (rNeD X.K) := by
  intro pins s σ H x y v u Q I rx ry h
  obtain ⟨da, db, ha, hb, sa, sb, q⟩ := h
  obtain ⟨as, ra⟩ := ha.reads I rx
  obtain ⟨bs, rb⟩ := hb.reads I ry
  exact SeqAt.compareNe_shaped ra rb sa sb hu ⟨.bl _, H, I, rfl, q⟩
theorem call_sumL (hc : X.calm = true) : CallR X (.builtin "sum") (fun xs H Q => ∃ (p : Addr) (ns : List Int), xs = [V.ref p] ∧ SqL X.K H p (ns.map V.int) ∧ Q (.int ns.sum) H) := by
  intro pins s σ H xs us Q I r h
  obtain ⟨p, ns, rfl, hx, q⟩ := h
  obtain ⟨u, rfl, ru⟩ := vals1 r
  cases ru
  obtain ⟨its, rv, pl, _⟩ := I.list hx
  have hi : IntsAre its ns := intsAre_of rv
  obtain ⟨ys, ey⟩ := hi.allInts.items
  have hn := hi.numsOf
  have hl : s.heap.IsList p (intItems ys) := by rw [← ey]; exact pl.isList
  refine sum_intListG (I.ok.hd hc) hl fun h' tk t' hk => ⟨.int ns.sum, H, I.kept hk, ⟨t', ?_⟩, q⟩
  have e1 : numsOf (intItems ys).toList = ns := by rw [← ey]; exact hn
  rw [nums_intItems] at e1
  rw [preSum_eq, List.take_of_length_le (by simp), e1]
end
end My
/-! ### y = [elt for x in rows], elt quiet: the rule, and elt = x[1] over a list of tuples -/
namespace My
open PySem PySem.Spec PyProof.Rows L2
theorem obj_some {P : Program} {w : World} {H : Hp} {h : Heap} {a : Addr} {o : HO} (x : ObjOk P w H h a o) : ∃ ob, h.get? a = some ob := by
  cases o with
  | lst xs => obtain ⟨_, _, _, _, e⟩ := x; exact ⟨_, e⟩
  | tup xs => obtain ⟨_, _, _, ob, e, _⟩ := x; exact ⟨_, e⟩
  | dK kvs => obtain ⟨_, _, _, _, o, _, _, e, _⟩ := x; exact ⟨_, e⟩
  | dT kvs => obtain ⟨_, _, _, _, o, _, _, e, _⟩ := x; exact ⟨_, e⟩
  | set S n => obtain ⟨o, _, _, _, e, _⟩ := x; exact ⟨_, e⟩
  | ins C dx fs => obtain ⟨_, _, _, e, _⟩ := x; exact ⟨_, e⟩
  | own y => exact x
  | xd fs => obtain ⟨_, ⟨_, _, _, e, _⟩, _⟩ := x; exact ⟨_, e⟩
  | rng lo hi => obtain ⟨_, _, _, e⟩ := x; exact ⟨_, e⟩
  | frz ob u => obtain ⟨e, _⟩ := x; exact ⟨_, e⟩
  | tbl ps => exact ⟨_, (show h.get? a = some _ from x)⟩
  | met f y => exact ⟨_, (show h.get? a = some _ from x)⟩
  | ext φ => obtain ⟨_, e, _⟩ := x; exact e
section
variable {X : Cx} {pins : List (Addr × Obj)} {σ : L2.St} {H : Hp} {s : Shared}
theorem inv_none (I : Inv X pins σ H s) {D : Addr} (h : s.heap.get? D = none) : H D = none := by
  cases q : H D with
  | none => rfl
  | some u =>
    obtain ⟨ob, e⟩ := obj_some (I.hok D u q)
    rw [h] at e
    cases e
end
theorem vals_get' : ∀ {xs : List V} {us : List Value} {i : Nat} {u : Value}, Vals xs us → us[i]? = some u → ∃ x, xs[i]? = some x ∧ RelV x u
  | _, _, _, _, .nil, e => by simp at e
  | _, _, 0, _, .cons r _, e => by simp at e; subst e; exact ⟨_, rfl, r⟩
  | _, _, i + 1, u, .cons _ t, e => by
    obtain ⟨x, h1, h2⟩ := vals_get' (i := i) (u := u) t (by simpa using e)
    exact ⟨x, by simpa using h1, h2⟩
end My
/-! ### what noting a frame leaves as it is: the objects' dicts -/
namespace My
open PySem PySem.Spec PyProof.Rows L2
/-- an exception's context: the third field -/
def ctxF (o : Obj) : Option Value := match o.data with
  | .fields vs => vs[2]?
  | _ => none
/-- the same dict, the same context -/
abbrev SameDC (a b : Obj) : Prop := a.dict = b.dict ∧ ctxF a = ctxF b
/-- trees that leave every object's dict and context as they are, and run no code -/
inductive Calm {α : Type} : Sem α → Prop
  | pure (a : α) : Calm (.pure a)
  | raise (e : Value) : Calm (.raise e)
  | stop (x : String) : Calm (.unsupported x)
  | rule {t k} : (∀ u, Calm (k u)) → Calm (.rule t k)
  | at {p k} : (∀ u, Calm (k u)) → Calm (.at p k)
  | load {a p k} : (∀ o, Calm (k o)) → Calm (.load a p k)
  | update {a p f k} : (∀ o : Obj, SameDC (f o) o ∧ (o.isFreed = false → (f o).isFreed = false)) → (∀ u, Calm (k u)) → Calm (.update a p f k)
  | alloc {o k} : (∀ a, Calm (k a)) → Calm (.alloc o k)
  | point {l k} : (∀ u, Calm (k u)) → Calm (.point l k)
  | fresh {k} : (∀ u, Calm (k u)) → Calm (.fresh k)
  | stack {k} : (∀ u, Calm (k u)) → Calm (.stack k)
theorem Calm.bind {α β : Type} {t : Sem α} {f : α → Sem β} (h : Calm t) (hf : ∀ a, Calm (f a)) : Calm (t >>= f) := by
  induction h with
  | pure a => exact hf a
  | raise e => exact .raise e
  | stop x => exact .stop x
  | rule _ ih => exact .rule ih
  | «at» _ ih => exact .at ih
  | load _ ih => exact .load ih
  | update h _ ih => exact .update h ih
  | alloc _ ih => exact .alloc ih
  | point _ ih => exact .point ih
  | fresh _ ih => exact .fresh ih
  | stack _ ih => exact .stack ih
/-- the objects' dicts are as they were -/
def DK (h h' : Heap) : Prop := ∀ b o, h.get? b = some o → ∃ o', h'.get? b = some o' ∧ SameDC o' o
theorem DK.refl (h : Heap) : DK h h := fun _ o e => ⟨o, e, rfl, rfl⟩
theorem DK.trans {h1 h2 h3 : Heap} (x : DK h1 h2) (y : DK h2 h3) : DK h1 h3 := fun b o e => let ⟨o1, e1, d1⟩ := x b o e; let ⟨o2, e2, d2⟩ := y b o1 e1; ⟨o2, e2, d2.1.trans d1.1, d2.2.trans d1.2⟩
theorem DK.upd {h : Heap} {a : Addr} {f : Obj → Obj} (hf : ∀ o : Obj, SameDC (f o) o ∧ (o.isFreed = false → (f o).isFreed = false)) : DK h (h.update a f) := fun b o e => by
  by_cases q : b = a
  · subst q
    exact ⟨f o, Heap.get?_update_self _ e ((hf o).2 (Heap.get?_some_iff.mp e).2), (hf o).1⟩
  · exact ⟨o, (Heap.get?_update_ne _ _ _ _ q).trans e, rfl, rfl⟩
theorem wp_calm {α : Type} {M : Model} {Γ : PySem.Ctx} {t : Sem α} (c : Calm t) : ∀ {Q : α → Pos → Shared → Prop} {E : Value → Pos → Shared → Prop} {p : Pos} {s : Shared},
    Sem.wp M Γ t Q E p s → Sem.wp M Γ t (fun a p' s' => Q a p' s' ∧ DK s.heap s'.heap) (fun e p' s' => E e p' s' ∧ DK s.heap s'.heap) p s := by
  induction c with
  | pure a => intro Q E p s h; exact ⟨h, .refl _⟩
  | raise e => intro Q E p s h; exact ⟨h, .refl _⟩
  | stop x => intro Q E p s h; exact h
  | rule _ ih => intro Q E p s h; exact ih () h
  | «at» _ ih => intro Q E p s h; exact ih () h
  | load _ ih => intro Q E p s h; obtain ⟨o, e, h⟩ := h; exact ⟨o, e, ih o h⟩
  | update hf _ ih =>
    intro Q E p s h
    obtain ⟨e, h⟩ := h
    refine ⟨e, ?_⟩
    exact Sem.wp_mono M Γ _ (fun a p' s' ⟨q, d⟩ => ⟨q, DK.trans (DK.upd hf) d⟩) (fun e p' s' ⟨q, d⟩ => ⟨q, DK.trans (DK.upd hf) d⟩) _ _ (ih () h)
  | alloc _ ih => intro Q E p s h; exact Sem.wp_mono M Γ _ (fun a p' s' ⟨q, d⟩ => ⟨q, DK.trans (fun b o e => ⟨o, Heap.get?_push_of_some _ e, rfl, rfl⟩) d⟩) (fun e p' s' ⟨q, d⟩ => ⟨q, DK.trans (fun b o e => ⟨o, Heap.get?_push_of_some _ e, rfl, rfl⟩) d⟩) _ _ (ih _ h)
  | point _ ih => intro Q E p s h; exact ih () h
  | fresh _ ih => intro Q E p s h; exact ih _ h
  | stack _ ih => intro Q E p s h; exact ih _ h
theorem wpAny_calm {α : Type} {M : Model} {A : Around} {t : Sem α} {Q : α → Shared → Prop} {E : Value → Shared → Prop} {s : Shared} (c : Calm t) (h : wpAny M A t Q E s) :
    wpAny M A t (fun a s' => Q a s' ∧ DK s.heap s'.heap) (fun e s' => E e s' ∧ DK s.heap s'.heap) s := fun Γ p hΓ => wp_calm c (h Γ p hΓ)

theorem calm_load (a : Addr) : Calm (load a) := .load fun _ => .pure _
theorem calm_fieldsOf (v : Value) : Calm (fieldsOf v) := by
  unfold fieldsOf
  cases v <;> first | exact .stop _ | skip
  refine Calm.bind (calm_load _) fun o => ?_
  split <;> first | exact .stop _ | exact .pure _
theorem calm_field (v : Value) (i : Nat) : Calm (field v i) := by
  unfold field
  refine Calm.bind (calm_fieldsOf _) fun vs => ?_
  split <;> first | exact .stop _ | exact .pure _
theorem mapFields_calm {i : Nat} (x : Value) (hi : i ≠ 2) (o : Obj) : SameDC (Obj.mapFields (·.setIfInBounds i x) o) o ∧ (o.isFreed = false → (Obj.mapFields (·.setIfInBounds i x) o).isFreed = false) := by
  obtain ⟨c, d, da, sl⟩ := o
  cases da <;> first | exact ⟨⟨rfl, rfl⟩, fun h => h⟩ | exact ⟨⟨rfl, Array.getElem?_setIfInBounds_ne hi⟩, fun h => h⟩
theorem calm_setField (v : Value) (i : Nat) (x : Value) (hi : i ≠ 2 := by decide) : Calm (setField v i x) := by
  unfold setField
  cases v <;> first | exact .stop _ | skip
  show Calm (updateField _ _ _)
  unfold updateField
  refine Calm.bind (calm_load _) fun o => ?_
  split
  · split
    · exact .update (mapFields_calm _ hi) fun _ => .pure _
    · exact .stop _
  · exact .stop _
theorem calm_setFlight (e : Value) (f : Option Addr) : Calm (setFlight e f) := by
  unfold setFlight
  refine Calm.bind (calm_field _ _) fun tb => ?_
  split
  · exact calm_setField _ _ _
  · exact .pure _
theorem calm_under : Calm underTheClaimsCaller := .stack fun _ => .pure _
theorem calm_ready : ∀ l : List Env, Calm (readyFrames l)
  | [] => .pure _
  | env :: outer => by
    unfold readyFrames
    split
    · refine Calm.bind (calm_load _) fun o => ?_
      split
      · exact .pure _
      · refine Calm.bind ?_ fun imp => Calm.bind ?_ fun back => Calm.bind ?_ fun _ => calm_ready outer
        · unfold behindIsImport
          split
          · exact .pure _
          · split
            · exact .pure _
            · exact Calm.bind (calm_field _ _) fun _ => .pure _
        · unfold keptBack
          split
          · split
            · exact .pure _
            · exact Calm.bind calm_under fun _ => .pure _
          · exact .pure _
        · refine .update (fun o => ⟨⟨rfl, rfl⟩, fun h => ?_⟩) fun _ => .pure _
          obtain ⟨c, d, da, sl⟩ := o
          cases da <;> exact h
    · exact .stop _
theorem calm_frameOf (env : Env) : Calm (PySem.frameOf env) := by
  unfold PySem.frameOf
  refine Calm.bind (.stack fun _ => .pure _) fun l => Calm.bind ?_ fun r => ?_
  · unfold frameObject
    split
    · exact .pure _
    · exact Calm.bind (calm_ready _) fun _ => .pure _
  · split
    · exact .pure _
    · exact .stop _
theorem calm_asIs (ty : String) (da : Data) : Calm (newObjAsIs (.type ty) da) := .alloc fun _ => .pure _
theorem calm_newFields (ty : String) (vs : List Value) : Calm (newFields ty vs) := by
  unfold newFields newObj
  dsimp only
  split
  · exact Calm.bind (.stop _) fun _ => calm_asIs _ _
  · exact calm_asIs _ _
theorem calm_newEntry (a b c d e : Value) (pl : List Value) : Calm (EntryCells.newEntry a b c d e pl) := calm_newFields _ _
theorem calm_place (f : Addr) (b : Bool) : Calm (entryPlaceOf f b) := by
  unfold entryPlaceOf
  refine Calm.bind (.stack fun _ => .pure _) fun acts => ?_
  split <;> exact .pure _
theorem calm_noteFrame (e : Value) (env : Env) : Calm (noteFrame e env) := by
  unfold noteFrame
  have last : ∀ (f : Addr) (head : Value), Calm (do setField e 1 (← EntryCells.newEntry head (← PySem.frameOf env) .none (rawInt f) .none (← entryPlaceOf f (head != .none)))) := fun f head =>
    Calm.bind (calm_frameOf _) fun a => Calm.bind (calm_place _ _) fun pl => Calm.bind (calm_newEntry _ _ _ _ _ _) fun b => calm_setField _ _ _
  split
  · refine Calm.bind (calm_field _ _) fun head => ?_
    split
    · refine Calm.bind (calm_field _ _) fun x => ?_
      split
      · exact .pure _
      · exact Calm.bind (calm_setField _ _ _) fun _ => last _ _
    · exact last _ _
  · exact .stop _
theorem calm_leaving (e : Value) (env : Env) : Calm (leaving env e) := Calm.bind (calm_noteFrame _ _) fun _ => calm_setFlight _ _
end My
/-! ### exceptions: raised in a def, passed on by a def, caught by a try around one call -/
namespace My
open PySem PySem.Spec PyProof.Rows L2
/-- how an exception lies behind a call: in flight over B, the objects that B has stay as they are -/
def CXW (P : Program) (w : World) : CXT := fun outer H s E e s' =>
  ∃ (ea : Addr) (cls a0 : Value) (B : Heap) (H' : Hp) (d : Option Addr), e = .ref ea ∧ s'.os = s.os ∧ AllBare s'.gens ∧ Un (frs outer) [] H H' s.heap s'.heap ∧ HOk P w H' s'.heap ∧ Heap.FlyingW B outer ea cls a0 s'.heap ∧
    (∀ b o, s'.heap.get? b = some o → (s.heap.get? b ≠ none ∨ H' b ≠ none) → b ∉ frs outer → B.get? b = some o) ∧ H' ea = none ∧ s.heap.get? ea = none ∧ (∃ o, s'.heap.get? ea = some o ∧ o.dict = d ∧ (ctxF o = some .none ∨ ∀ d', E cls d' H')) ∧ E cls d H'
section
variable {X : Cx} {pins : List (Addr × Obj)} {σ : L2.St} {H H' : Hp} {s : Shared} {h1 h2 B : Heap}
theorem frs_obj (I : Inv X pins σ H s) : ∀ b ∈ frs X.stack, ∃ o, s.heap.get? b = some o := fun b hb => let ⟨_, o, e, _⟩ := I.stack.mem hb; ⟨o, e⟩
/-- behind a call that raised: what the state keeps while the exception is noted -/
theorem carry (I : Inv X pins σ H s) (un : Un (frs X.stack) [] H H' s.heap h1) (hok : HOk X.prog X.w H' h1) (bk : ∀ b o, h1.get? b = some o → (s.heap.get? b ≠ none ∨ H' b ≠ none) → b ∉ frs X.stack → B.get? b = some o)
    (hst : ∀ b o, B.get? b = some o → h2.get? b = some o) (hsm : h1.UpToSlots h2) (hfn : ∀ b ∈ frs X.stack, ∃ o, h1.get? b = some o ∧ ∀ vs, o.data ≠ .fields vs) :
    Un (frs X.stack) [] H H' s.heap h2 ∧ HOk X.prog X.w H' h2 ∧ (∀ b o, h2.get? b = some o → (s.heap.get? b ≠ none ∨ H' b ≠ none) → b ∉ frs X.stack → B.get? b = some o) ∧ ∀ b ∈ frs X.stack, H' b = none := by
  have nf : ∀ b ∈ frs X.stack, H' b = none := fun b hb => by
    obtain ⟨o, e⟩ := frs_obj I b hb
    exact un.free b o e (I.stkFree b hb) (by simp)
  have keep : ∀ b o, h1.get? b = some o → (s.heap.get? b ≠ none ∨ H' b ≠ none) → b ∉ frs X.stack → h2.get? b = some o := fun b o e k n => hst b o (bk b o e k n)
  refine ⟨⟨fun b o e n hb _ => ?_, fun b o e n hb _ => ?_, un.free, fun b o e _ => ?_, un.tups, un.frzs, un.tbls⟩, fun a o e => ?_, fun b o e k n => ?_, nf⟩
  · exact keep b o (un.keep b o e n hb (by simp)) (.inl (by rw [e]; simp)) hb
  · obtain ⟨sl, e1⟩ := un.slot b o e n hb (by simp)
    obtain ⟨o', e2, hd⟩ := hfn b hb
    rw [e1] at e2
    cases e2
    obtain ⟨sl', e3⟩ := hsm b _ e1 hd
    exact ⟨sl', e3⟩
  · obtain ⟨o', e1⟩ := un.there b o e (by simp)
    by_cases hb : b ∈ frs X.stack
    · obtain ⟨o2, e2, hd⟩ := hfn b hb
      obtain ⟨sl', e3⟩ := hsm b _ e2 hd
      exact ⟨_, e3⟩
    · exact ⟨o', keep b o' e1 (.inl (by rw [e]; simp)) hb⟩
  · refine (hok a o e).stay (fun b u hb q => keep b u q (.inr ?_) (fun z => ?_)) (fun _ q => q) fun _ _ q => q
    · rcases hb with z | z
      · rw [z, e]; simp
      · rw [z]; simp
    · have q' := nf b z
      rcases hb with z | z
      · rw [z, e] at q'; cases q'
      · rw [z] at q'; cases q'
  · have there1 : ∃ o', h1.get? b = some o' := by
      rcases k with k | k
      · cases q : s.heap.get? b with
        | none => exact (k q).elim
        | some o0 => exact un.there b o0 q (by simp)
      · cases q : H' b with
        | none => exact (k q).elim
        | some u => exact obj_some (hok b u q)
    obtain ⟨o', e1⟩ := there1
    have e2 := bk b o' e1 k n
    have e3 := hst b o' e2
    rw [e] at e3
    cases e3
    exact e2
end
section
variable {P : Program} {w : World} {K : PySem.W.Frag} {mg : Str → Option Value} {base : Heap} {N : List Str} {qual : Str} {scope : Scope} {f : Addr} {cd : Value} {A : Around} {outer : List Env} {s₀ : Shared} {H₀ : Hp} {E : XK}
  {pins : List (Addr × Obj)} {σ : L2.St} {H H' : Hp} {s : Shared}
/-- the frame is left -/
theorem leave_fin {ea : Addr} {d : Option Addr} {cls a0 : Value} {B h1 h2 : Heap} {s1 : Shared} (I : Inv (cxOf (CXW P w) P w K mg base N qual scope f cd A outer s₀ H₀ E) pins σ H s) (hos : s1.os = s.os) (hb : AllBare s1.gens)
    (un : Un (frs (envOfC qual scope s₀.heap.objs.size f cd :: outer)) [] H H' s.heap h1) (hok : HOk P w H' h1)
    (bk : ∀ b o, h1.get? b = some o → (s.heap.get? b ≠ none ∨ H' b ≠ none) → b ∉ frs (envOfC qual scope s₀.heap.objs.size f cd :: outer) → B.get? b = some o)
    (fl : Heap.FlyingW B outer ea cls a0 h2) (hsm : h1.UpToSlots h2) (hfn : ∀ b ∈ frs (envOfC qual scope s₀.heap.objs.size f cd :: outer), ∃ o, h1.get? b = some o ∧ ∀ vs, o.data ≠ .fields vs)
    (n1 : H' ea = none) (n2 : s.heap.get? ea = none) (dd : ∃ o, h2.get? ea = some o ∧ o.dict = d ∧ (ctxF o = some .none ∨ ∀ d', E cls d' H')) (hE : E cls d H') : CXW P w outer H₀ s₀ E (.ref ea) { s1 with heap := h2 } := by
  obtain ⟨un2, hok2, bk2, nf⟩ := carry I un hok bk fl.1 hsm hfn
  have sub : ∀ b ∈ frs outer, b ∈ frs (envOfC qual scope s₀.heap.objs.size f cd :: outer) := fun b hb => by
    obtain ⟨env, he, hf⟩ := List.mem_filterMap.mp hb
    exact List.mem_filterMap.mpr ⟨env, List.mem_cons_of_mem _ he, hf⟩
  have notin : ∀ b o, s₀.heap.get? b = some o → b ∉ frs outer → b ∉ frs (envOfC qual scope s₀.heap.objs.size f cd :: outer) := fun b o e hb hm => by
    rcases List.mem_cons.mp (I.stkSub b hm) with z | z
    · exact absurd (Nat.lt_of_lt_of_le (Heap.lt_size e) (z ▸ I.ok.above)) (Nat.lt_irrefl _)
    · exact hb z
  refine ⟨ea, cls, a0, B, H', d, rfl, hos.trans I.os, hb, ⟨fun b o e n hb _ => ?_, fun b o e n hb _ => ?_, fun b o e n _ => ?_, fun b o e _ => ?_, fun b xs e => un2.tups b xs (I.base.tups b xs e), fun b o u e => un2.frzs b o u (I.base.frzs b o u e), fun b ps e => ?_⟩, hok2, fl, fun b o e k hb => ?_, n1, ?_, dd, hE⟩
  · exact un2.keep b o (I.base.keep b o e n hb (by simp [cxOf])) (I.base.free b o e n (by simp [cxOf])) (notin b o e hb) (by simp)
  · obtain ⟨sl, e1⟩ := I.base.slot b o e n hb (by simp [cxOf])
    obtain ⟨sl', e2⟩ := un2.slot b _ e1 (I.base.free b o e n (by simp [cxOf])) (sub b hb) (by simp)
    exact ⟨sl', e2⟩
  · obtain ⟨o', e1⟩ := I.base.there b o e (by simp [cxOf])
    exact un2.free b o' e1 (I.base.free b o e n (by simp [cxOf])) (by simp)
  · obtain ⟨o', e1⟩ := I.base.there b o e (by simp [cxOf])
    exact un2.there b o' e1 (by simp)
  · obtain ⟨m1, e1⟩ := I.base.tbls b ps e
    obtain ⟨m2, e2⟩ := un2.tbls b _ e1
    exact ⟨m1 ++ m2, by rw [e2, Array.append_assoc]⟩
  · rcases k with k | k
    · cases q : s₀.heap.get? b with
      | none => exact (k q).elim
      | some o0 =>
        obtain ⟨o', e1⟩ := I.base.there b o0 q (by simp [cxOf])
        exact bk2 b o e (.inl (by rw [e1]; simp)) (notin b o0 q hb)
    · exact bk2 b o e (.inr k) fun z => k (nf b z)
  · cases q : s₀.heap.get? ea with
    | none => rfl
    | some o0 =>
      obtain ⟨o', e1⟩ := I.base.there ea o0 q (by simp [cxOf])
      rw [n2] at e1
      cases e1
/-- an exception was made in the body, and leaves it -/
theorem raise_leaves {ea : Addr} {cls : Value} {vs : List Value} {h1 : Heap} (I : Inv (cxOf (CXW P w) P w K mg base N qual scope f cd A outer s₀ H₀ E) pins σ H s) (hm : Heap.MadeExcOf s.heap h1 ea cls vs) (hE : E cls none H) :
    (cxOf (CXW P w) P w K mg base N qual scope f cd A outer s₀ H₀ E).xe (.ref ea) { s with heap := h1 } := by
  have hin : ∀ env ∈ (envOfC qual scope s₀.heap.objs.size f cd :: outer), ∀ b, env.frame = some b → b ∈ frs (envOfC qual scope s₀.heap.objs.size f cd :: outer) := fun env he b hb => List.mem_filterMap.mpr ⟨env, he, hb⟩
  have hl := PySem.W.funFrames_hide I.stack hin
  refine wpAny_mono (wpAny_calm (calm_leaving _ _) (wpAny_leaves_madeW (Q := fun _ s' => ∃ h2 t, s' = { s with heap := h2 } ∧ Heap.FlyingW (PySem.W.hideAll s.heap (frs (envOfC qual scope s₀.heap.objs.size f cd :: outer))) outer ea cls (.ref t) h2 ∧ h1.UpToSlots h2)
    (base := PySem.W.hideAll s.heap (frs (envOfC qual scope s₀.heap.objs.size f cd :: outer))) (h := s.heap) I.ok.frames rfl (fun b o q => PySem.W.of_hideAll _ q) hl hm fun h2 t x1 _ _ x4 => ⟨h2, t, rfl, x1, x4⟩)) (fun _ s' ⟨⟨h2, t, e, x1, x4⟩, dk⟩ => ?_) fun _ _ z => z.1
  subst e
  obtain ⟨t', he', _⟩ := hm.there
  refine leave_fin (s1 := { s with heap := h1 }) I rfl I.bare (Un.kept fun b u q => hm.keeps b u q) (I.hok.kept fun b u q => hm.keeps b u q) (fun b o e k n => ?_) x1 x4 (fun b hb => ?_) (inv_none I hm.new) hm.new (let ⟨o', q1, q2⟩ := dk ea _ he'; ⟨o', q1, q2.1, .inl (q2.2.trans rfl)⟩) hE
  · have e1 : ∃ o', s.heap.get? b = some o' := by
      rcases k with k | k
      · cases q : s.heap.get? b with
        | none => exact (k q).elim
        | some o0 => exact ⟨o0, rfl⟩
      · cases q : H b with
        | none => exact (k q).elim
        | some u => exact obj_some (I.hok b u q)
    obtain ⟨o', e1⟩ := e1
    have e2 := hm.keeps b o' e1
    rw [e] at e2
    cases e2
    exact PySem.W.hideAll_get _ e1 n
  · obtain ⟨_, o, e, hd⟩ := I.stack.mem hb
    exact ⟨o, hm.keeps b o e, hd⟩
/-- THE RULE for a def that may raise -/
theorem fun_okW {x qual : Str} {st : Stmt} {f : Addr} {fd : FuncData} {N ps : List Str} {k : Nat} {sp : Sp} (F : Fun K x qual st f fd) (S : FnScope N ps (defScope st)) (len : ∀ vs H Q E, sp vs H Q E → vs.length = ps.length)
    (hbody : ∀ (cdv : Value) (A : Around) (outer : List Env) (s : Shared) (H : Hp) (vs : List V) (Q : VK) (E : XK), Room k (A.deeper (envOfC qual (defScope st) s.heap.objs.size f cdv)) → sp vs H Q E →
      ∃ t, PSs (cxOf (CXW P w) P w K mg base N qual (defScope st) f cdv A outer s H E) (defBody st) t ∧ t { nx := fun _ H' => Q .non H', rt := Q } (start N vs) H) : FnOk P w K mg base (CXW P w) (k + 1) f fd ps sp := by
  obtain ⟨oc, od, kV, doc, pm, an, cdv, ct, osl, rfl, lk, hcd⟩ := F.ex
  exact fn_of lk hcd S len fun A outer s H vs Q E hr hsp => hbody cdv A outer s H vs Q E hr hsp
/-- an own class of exceptions of the text, right or further under ValueError, without an __init__ -/
structure ExcC (K : PySem.W.Frag) (mg : Str → Option Value) (x : Str) (C : Addr) : Prop where
  bound : mg x = some (.ref C)
  ok : PySem.W.excIn K C [.type "ValueError", .type "Exception", .type "BaseException", .type "object"] "ValueError.__new__" = true
end
end My
/-! ### raise, f"{x!r} ..", try around one call: the rules -/
namespace My
open PySem PySem.Spec PyProof.Rows L2
/-- what excIn tells of the class, over a heap that has the written part -/
theorem exc_obj {K : PySem.W.Frag} {h : Heap} {C : Addr} {bmB : List Value} {nid : String} (X : K.In h) (q : PySem.W.excIn K C bmB nid = true) :
    ∃ bm N nm qn bs hd sn sub ab col dd k0 k1 k2 k3 k5, ∃ mN : Str → Option Value, h.get? C = some (excClassObj nm qn C N bs bm hd sn sub ab col dd k0 k1 k2 k3 k5 nid) ∧ h.Ns N mN ∧ mN "__init__" = none ∧ OwnTail h bmB bm := by
  unfold PySem.W.excIn at q
  split at q
  · next dd cdat slots lk =>
    split at q
    · next C2 rest a0 a1 a2 a3 n a5 em es =>
      simp only [Bool.and_eq_true, beq_iff_eq, Bool.not_eq_true'] at q
      obtain ⟨⟨⟨⟨⟨e1, e2⟩, e3⟩, e4⟩, e5⟩, e6⟩ := q
      subst e1 e2
      obtain ⟨c1, c2, c3, c4, c5, c6, c7, c8, c9, c10, c11⟩ := cdat
      dsimp only at em e3 e5 e6
      subst em e3
      obtain ⟨lst⟩ := slots
      have el : lst = [a0, a1, a2, a3, some (.builtin n), a5] := es
      subst el
      refine ⟨rest, _, _, _, _, _, _, _, _, _, dd, a0, a1, a2, a3, a5, h.nsMap c4, X _ _ lk, ?_, ?_, PySem.W.tail_of_in X e4⟩
      · exact .of_isNs (PySem.W.isNs_of_in X e5)
      · exact PySem.W.nsMap_none_of_in X e5 e6
    · cases q
  · cases q
section
variable {P : Program} {w : World} {K : PySem.W.Frag} {mg : Str → Option Value} {base : Heap} {N : List Str} {qual : Str} {scope : Scope} {f : Addr} {cd : Value} {A : Around} {outer : List Env} {s₀ : Shared} {H₀ : Hp} {E : XK}
/-- raise C(e) in a def's body -/
theorem ps_raise {x : Str} {C : Addr} {e₀ : Expr} {te : TE} {np cpos pos : Pos} (T : ExcC K mg x C) (hg : Gl (cxOf (CXW P w) P w K mg base N qual scope f cd A outer s₀ H₀ E) x)
    (he : PE (cxOf (CXW P w) P w K mg base N qual scope f cd A outer s₀ H₀ E) e₀ te) (hd : (x == ("__debug__" : Str)) = false := by decide)
    (ht : backTo cpos (starEach [e₀] (envOfC qual scope s₀.heap.objs.size f cd)) = [(false, eval e₀ (envOfC qual scope s₀.heap.objs.size f cd))] := by rfl) :
    PS (cxOf (CXW P w) P w K mg base N qual scope f cd A outer s₀ H₀ E) (.Raise (some (.Call (.Name x np) [e₀] [] cpos)) none pos) (fun _ σ H => te σ H fun _ H1 => E (.ref C) none H1) := by
  constructor; intro pins s σ H D I h
  obtain ⟨bm, Nn, nm, qn, bs, hdc, sn, sub, ab, col, dd, k0, k1, k2, k3, k5, mN, hC, hN, hni, TL⟩ := exc_obj I.ok.mod.kin T.ok
  refine wpAny_Raise_call_subT (C := C) (nm := nm) (q := qn) (N := Nn) (bs := bs) (bm := bm) (hdct := hdc) (sn := sn) (sub := sub) (ab := ab) (col := col) (dd := dd) (k0 := k0) (k1 := k1) (k2 := k2) (k3 := k3) (k5 := k5)
    PySem.F.excBase_ValueError (mN := mN) (TL.hasType PySem.F.excBase_ValueError.hasBase) (I.ok.hd rfl) ?_ hni (ld_glob I hg T.bound ⟨rfl, ?_⟩ hd)
  · show (backTo cpos (starEach [e₀] (envOfC qual scope s₀.heap.objs.size f cd))).any (·.1) = false
    rw [ht]
    rfl
  · show wpAny _ _ (evalArgs (.ref C) true (backTo cpos (starEach [e₀] (envOfC qual scope s₀.heap.objs.size f cd))) []) _ _ _
    rw [ht]
    refine Calls.evalArgs_plain (Calls.spliced_cons (thn (he pins s σ H _ I h) fun u s1 ⟨v, H1, I1, r1, q1⟩ => Calls.spliced_nil ?_))
    refine ⟨rfl, (by show 1 ≤ sizeLine; decide), I1.bk _ _ hC, hN.keeps I1.bk, TL.keeps I1.bk, fun h' ea hm => raise_leaves I1 hm q1⟩
end
section
variable {X : Cx}
/-- the context within an except suite -/
abbrev markX (X : Cx) (ea : Addr) : Cx := { X with A := X.A.mark (some (.ref ea)), calm := false, xe := fun _ _ => False }
theorem inv_mark {pins : List (Addr × Obj)} {σ : L2.St} {H : Hp} {s : Shared} (I : Inv X pins σ H s) (ea : Addr) : Inv (markX X ea) pins σ H s :=
  ⟨⟨I.ok.mod, I.ok.kind, I.ok.glob, I.ok.blt, I.ok.above, I.ok.inj, I.ok.has, I.ok.cab, (fun z => nomatch z), I.ok.frames, I.ok.stk, I.ok.exf, I.ok.bs, I.ok.bsz, I.ok.noex, I.ok.exfs, I.ok.funs, I.ok.frf⟩, I.os, I.bare, I.base, I.loc, I.cell, I.free, I.freeC, I.pin, I.hok, I.len⟩
theorem inv_unmark {pins : List (Addr × Obj)} {σ : L2.St} {H : Hp} {s : Shared} {ea : Addr} (ok : X.Ok) (I : Inv (markX X ea) pins σ H s) : Inv X pins σ H s :=
  ⟨ok, I.os, I.bare, I.base, I.loc, I.cell, I.free, I.freeC, I.pin, I.hok, I.len⟩
theorem sp_unmark {pins : List (Addr × Obj)} {D : Ends} {fl : Flow} {s : Shared} {ea : Addr} (ok : X.Ok) (h : SP (markX X ea) pins D fl s) : SP X pins D fl s := by
  cases fl with
  | next => obtain ⟨σ', H', I, q⟩ := h; exact ⟨σ', H', inv_unmark ok I, q⟩
  | brk => obtain ⟨σ', H', I, q⟩ := h; exact ⟨σ', H', inv_unmark ok I, q⟩
  | cont => obtain ⟨σ', H', I, q⟩ := h; exact ⟨σ', H', inv_unmark ok I, q⟩
  | ret u => obtain ⟨v, σ', H', I, r, q⟩ := h; exact ⟨v, σ', H', inv_unmark ok I, r, q⟩
end
end My
/-! ### texts: slices, startswith, upper, * n, <=, int(text), [elt for c in text], all(list) -/
namespace My
open PySem PySem.Spec PyProof.Rows L2
section
variable {X : Cx}
/-- a new object where nothing stood; all else is kept -/
theorem inv_new {pins : List (Addr × Obj)} {σ : L2.St} {H : Hp} {s : Shared} {D : Addr} {h' : Heap} {o : HO} {t' : Nat} (I : Inv X pins σ H s) (k : ∀ b u, s.heap.get? b = some u → h'.get? b = some u) (hD : s.heap.get? D = none)
    (new : ObjOk X.prog X.w (upd H D o) h' D o) : Inv X pins σ (upd H D o) { s with heap := h', toks := t' } := by
  have nD := inv_none I hD
  have neD : ∀ b u, s.heap.get? b = some u → b ≠ D := fun b u e z => by rw [z, hD] at e; cases e
  refine I.un ⟨fun b u q _ _ _ => k b u q, fun b u q _ _ _ => ⟨u.slots, k b u q⟩, fun b u q n _ => by rw [upd_ne (neD b u q)]; exact n, fun b u q _ => ⟨u, k b u q⟩, fun b xs q => by rw [upd_ne (ne_of_none q nD)]; exact q,
    fun b u xs q => by rw [upd_ne (ne_of_none q nD)]; exact q, fun b ps q => ⟨#[], by rw [upd_ne (ne_of_none q nD), q]; simp⟩⟩ fun b u e => ?_
  by_cases hb : b = D
  · subst hb
    rw [upd_same] at e
    cases e
    exact new
  · rw [upd_ne hb] at e
    exact (I.hok b u e).stay (fun c v _ q => k c v q) (fun c q => by rw [upd_ne (ne_of_none q nD)]; exact q) fun c xs q => by rw [upd_ne (ne_of_none q nD)]; exact q
end
end My
namespace My
open PySem PySem.Spec PyProof.Rows L2
section
variable {X : Cx}
end
end My
/-! ### written numbers and letters, over the signs of a text -/
namespace My
open PySem PySem.Spec PyProof.Rows L2 PySem.NumText
def dig (c : Nat) : Bool := decide (48 ≤ c ∧ c ≤ 57)
def figsL : List Nat → List Nat
  | [] => []
  | c :: r => if c = 45 then r else c :: r
def isFigs : List Nat → Bool
  | [] => false
  | c :: r => !decide (c = 48) && (decide ((c :: r).length ≤ 30) && (c :: r).all dig)
def isNumL (cs : List Nat) : Bool := decide (cs = [48]) || isFigs (figsL cs)
def isLetL : List Nat → Bool
  | [c] => decide (97 ≤ c ∧ c ≤ 122)
  | _ => false
theorem len_codes (x : Str) : x.length = x.cps.toList.length := by simp [Str.length]
end My
namespace My
open PySem PySem.Spec PyProof.Rows L2 PySem.NumText
theorem app_codes (a b : Str) : (a ++ b).cps.toList = a.cps.toList ++ b.cps.toList := by
  show (a.cps ++ b.cps).toList = _
  simp
theorem num_bad {cs : List Nat} {d : Nat} (hd : d ∈ figsL cs) (hn : dig d = false) (hne : ¬ cs = [48]) : isNumL cs = false := by
  unfold isNumL
  rw [decide_eq_false hne, Bool.false_or]
  cases e : figsL cs with
  | nil => rw [e] at hd; cases hd
  | cons c r =>
    rw [e] at hd
    have ha : (c :: r).all dig = false := by
      cases q : (c :: r).all dig with
      | false => rfl
      | true => rw [List.all_eq_true.mp q d hd] at hn; cases hn
    show (!decide (c = 48) && (decide ((c :: r).length ≤ 30) && (c :: r).all dig)) = false
    rw [ha, Bool.and_false, Bool.and_false]
def Bad (tx : Str) : Prop := isNumL tx.cps.toList = false ∧ isLetL tx.cps.toList = false ∧ tx.length ≤ 100 ∧ ∀ c ∈ tx.cps.toList, c < 16 ^ 8
theorem Bad.two {tx : Str} {a b : Nat} (h : tx.cps.toList = [a, b]) (ha : a < 128) (hb : b < 128) (hd : (a ≠ 45 ∧ dig a = false) ∨ dig b = false) : Bad tx := by
  refine ⟨?_, by rw [h]; rfl, by rw [len_codes, h]; show 2 ≤ 100; decide, fun c hc => ?_⟩
  · rw [h]
    rcases hd with ⟨h1, h2⟩ | h2
    · refine num_bad (d := a) ?_ h2 (by simp)
      have e : figsL [a, b] = [a, b] := if_neg h1
      rw [e]; simp
    · refine num_bad (d := b) ?_ h2 (by simp)
      by_cases h1 : a = 45
      · have e : figsL [a, b] = [b] := if_pos h1
        rw [e]; simp
      · have e : figsL [a, b] = [a, b] := if_neg h1
        rw [e]; simp
  · rw [h] at hc
    have : c = a ∨ c = b := by simpa using hc
    omega
end My
/-! ### isinstance(e, C) of an own exception e -/
namespace My
open PySem PySem.Spec PyProof.Rows L2 Builtin Builtin.ObjectAttr Builtin.Getset_descriptor
/-- what the lookups tell along an own class of exceptions -/
structure ExcK (K : PySem.W.Frag) (C : Addr) : Prop where
  it : PySem.W.isClsIn K C = true
  ga : PySem.W.findIn K (.ref C) "__getattribute__" = some (some (.builtin "BaseException.__getattribute__"))
  gt : PySem.W.findIn K (.ref C) "__getattr__" = some none
  cl : PySem.W.findIn K (.ref C) "__class__" = some (some (.builtin "object.__class__"))
  mB : PySem.W.mroIn K C (.type "BaseException") = some true
  mO : PySem.W.mroIn K C (.type "object") = some true
/-- the object at a is of the class at C -/
def IsExc (a C : Addr) (h : Heap) : Prop := ∃ o, h.get? a = some o ∧ o.cls = .ref C
section
variable {prog : Program} {w : World} {A : Around} {E : Value → Shared → Prop} {h : Heap} {g : Array GenState} {d : Drawn} {t : Nat} {os : OsState} {a C : Addr} {o : Obj} {K : PySem.W.Frag}
theorem ec_get {R : Result → Shared → Prop} (X : K.In h) (T : ExcK K C) (hx : h.get? a = some o) (hc : o.cls = .ref C) (hq : R (.ok (.ret (.ref C))) ⟨h, g, d, t, os⟩) :
    codeAny (model prog w) A (.call (.builtin "getset_descriptor.__get__") ⟨[.builtin "object.__class__", .ref a, .ref C], []⟩) R ⟨h, g, d, t, os⟩ := by
  have L0 : PySem.W.Looks (model prog w) h (typeOf (.ref a)) (.ref C) := hc ▸ (PySem.W.Looks.ld hx).andThen .now
  have L1 := PySem.W.looks_mroIn (M := model prog w) X T.mO
  refine codeAny_call_builtin PySem.W.KF.slot_gs.plain PySem.W.KF.entry_gs (PySem.W.KF.slot_gs.check _ _ _ _ _ _ _ _ PySem.W.KF.type_class (PySem.W.KF.args_gs _ _ _) ?_)
  unfold Builtin.«getset_descriptor.__get__» descrGet
  rw [PySem.W.dga_obj]
  refine wpAny_bind (wpAny_pure ?_)
  unfold descrGetter descrCheckInstance descrNameAndClass isInstance
  simp only [PySem.W.KF.owner_class]
  repeat lk
  refine ⟨Code.quiet_builtin _ (by decide +kernel), codeAny_builtin PySem.W.KF.entry_class ?_⟩
  unfold Builtin.«object.__class__» shownTypeOf
  repeat lk
  exact hq
theorem ec_entry {tk : Tok} {Q : Fin → Shared → Prop} (X : K.In h) (T : ExcK K C) (hx : h.get? a = some o) (hc : o.cls = .ref C) (hq : Q (.done (.ret (.ref C))) ⟨h, g, d, t, os⟩) :
    wpAny (model prog w) A (Builtin.«object.__getattribute__» ⟨[.ref a, .str "__class__" tk], []⟩) Q E ⟨h, g, d, t, os⟩ := by
  have hT5 : (⟨h, g, d, t, os⟩ : Shared).TypeIs (.builtin "object.__class__") "getset_descriptor" := F.typeOf_object_class
  have f5 := F.typeOf_object_class
  have f6 := F.slot_gs_get.lookup
  have f7 := F.slot_gs_set.lookup
  have L2 := PySem.W.looks_findIn (M := model prog w) X T.cl
  repeat (any_goals (first | assumption | (with_reducible refine wpAny_loadPart_at hx ?_; rw [hc]) | with_reducible refine PySem.W.Looks.at L2 ?_ | wp_step))
  refine ec_get X T hx hc ?_
  repeat (any_goals (first | assumption | wp_step))
theorem ec_check {M : Model} {nameV : Value} {Q : Unit → Shared → Prop} (X : K.In h) (T : ExcK K C) (hx : h.get? a = some o) (hc : o.cls = .ref C) (hq : Q () ⟨h, g, d, t, os⟩) : wpAny M A (checkBuiltinCall "BaseException.__getattribute__" ⟨[.ref a, nameV], []⟩) Q E ⟨h, g, d, t, os⟩ := by
  have hk : builtinKind "BaseException.__getattribute__" = some .slot := by decide +kernel
  have hsplit : splitId "BaseException.__getattribute__" = some ("BaseException", "__getattribute__") := by decide +kernel
  have L1 := PySem.W.looks_mroIn (M := M) X T.mB
  have ha := F.args_bexc_ga (.ref a) nameV
  simp only [checkBuiltinCall, hk, hsplit]
  refine wpAny_bind ?_
  unfold isInstance
  repeat (first | (with_reducible refine wpAny_loadPart_at hx ?_; rw [hc]) | with_reducible refine PySem.W.Looks.at L1 ?_ | wp_step)
  exact hq
theorem ec_call {tk : Tok} {R : Result → Shared → Prop} (X : K.In h) (T : ExcK K C) (hx : h.get? a = some o) (hc : o.cls = .ref C) (hq : R (.ok (.ret (.ref C))) ⟨h, g, d, t, os⟩) :
    codeAny (model prog w) A (.call (.builtin "BaseException.__getattribute__") ⟨[.ref a, .str "__class__" tk], []⟩) R ⟨h, g, d, t, os⟩ :=
  codeAny_call_builtin PySem.F.attr_ValueError.ga.plain F.entry_bexc_ga (ec_check X T hx hc (ec_entry X T hx hc hq))
theorem ec_by {tk : Tok} {fill expr : Bool} {Q : Value → Shared → Prop} (X : K.In h) (T : ExcK K C) (hx : h.get? a = some o) (hc : o.cls = .ref C) (hq : Q (.ref C) ⟨h, g, d, t, os⟩) :
    wpAny (model prog w) A (getAttrBy (.ref a) (.str "__class__" tk) fill expr) Q E ⟨h, g, d, t, os⟩ := by
  have f3 := PySem.F.attr_ValueError.ga.bind (.ref a)
  have hx0 : (expr && onTheHeap (Value.builtin "BaseException.__getattribute__")) = false := by cases expr <;> rfl
  have hx2 : (Value.builtin "BaseException.__getattribute__" == Value.builtin "object.__getattribute__") = false := by decide +kernel
  have hx1 : (onTheHeap (Value.ref C) && Value.builtin "BaseException.__getattribute__" == Value.builtin "object.__getattribute__") = false := by rw [hx2]; rfl
  have L1 := PySem.W.looks_findIn (M := model prog w) X T.ga
  have L2 := PySem.W.looks_findIn (M := model prog w) X T.gt
  repeat (any_goals (first | assumption | (with_reducible refine wpAny_loadPart_at hx ?_; rw [hc]) | with_reducible refine PySem.W.Looks.at L1 ?_ | with_reducible refine PySem.W.Looks.at L2 ?_ | wp_step))
  refine ec_call X T hx hc ?_
  repeat (any_goals (first | assumption | wp_step))
end
theorem kitx_exc {K : PySem.W.Frag} {a C : Addr} (T : ExcK K C) : PySem.W.KitX K (.ref a) (.ref C) (IsExc a C) where
  ty := fun _ _ _ ⟨_, hx, hc⟩ => hc ▸ (PySem.W.Looks.ld hx).andThen .now
  it := fun _ h X _ => by
    have z0 := T.it
    unfold PySem.W.isClsIn PySem.W.clsIn at z0
    split at z0
    · rename_i c' d' cd' sl' ho
      intro A' Q' E' s' k q
      unfold isType loadHead
      exact wpAny_bind (wpAny_loadPart (k _ _ (X _ _ ho)) (wpAny_pure q))
    · cases z0
  ne := fun h tp dd its n sl X htp => by
    have z0 := T.it
    refine Bool.eq_false_iff.mpr fun q => ?_
    have e : C = tp := Value.ref.inj (beq_iff_eq.mp q)
    subst e
    unfold PySem.W.isClsIn PySem.W.clsIn at z0
    split at z0
    · rename_i c' d' cd' sl' ho
      have z := (X _ _ ho).symm.trans htp
      cases z
    · cases z0
  ca := fun {prog w A E Q s} X ⟨o, hx, hc⟩ k => by
    obtain ⟨h, g, d, t, os⟩ := s
    unfold getAttr? getAttrBy?
    refine wpAny_bind (wpAny_mkText (wpAny_bind (wpAny_attempt (ec_by X T hx hc ?_))))
    exact wpAny_pure k
end My
/-! ### try: y = f(..) / except S as e: .., S a class above the one that was raised; isinstance of e -/
namespace My
open PySem PySem.Spec PyProof.Rows L2
/-- an exception of the class at C stands at a -/
abbrev excO (a C : Addr) : HO := .ext (IsExc a C)
theorem excO_ok {P : Program} {w : World} {H : Hp} {h : Heap} {a C : Addr} {o : Obj} (e : h.get? a = some o) (hc : o.cls = .ref C) : ObjOk P w H h a (excO a C) :=
  ⟨⟨o, e, hc⟩, ⟨o, e⟩, fun _ _ ⟨o, e, hc⟩ k => ⟨o, k o e, hc⟩⟩
section
variable {X : Cx}
theorem isExc_of {pins : List (Addr × Obj)} {σ : L2.St} {H : Hp} {s : Shared} {a C : Addr} (I : Inv X pins σ H s) (h : H a = some (excO a C)) : IsExc a C s.heap :=
  (show ObjOk X.prog X.w H s.heap a (excO a C) from I.hok a _ h).1
/-- how two own classes stand: D's object, whether C is under D -/
structure KitP (K : PySem.W.Frag) (C D : Addr) (b : Bool) : Prop where
  it : PySem.W.isClsIn K D = true
  ty : PySem.W.typeIn K (.ref D) = some (.type "type")
  self : PySem.W.subIn K (.ref C) (.ref C) = some true
  sub : PySem.W.subIn K (.ref C) (.ref D) = some b
theorem KitP.one {K : PySem.W.Frag} {C D : Addr} {b : Bool} (p : KitP K C D b) : PySem.W.kitOne K (.ref C) (.ref D) = some b := by
  unfold PySem.W.kitOne
  by_cases e : (Value.ref C == Value.ref D) = true
  · rw [if_pos e]
    have e1 : C = D := Value.ref.inj (beq_iff_eq.mp e)
    have h1 := p.self
    have h2 := p.sub
    rw [← e1, h1] at h2
    exact h2
  · rw [if_neg e]
    show (if ((PySem.W.clsIn K D).isSome && PySem.W.typeIn K (.ref D) == some (.type "type")) = true then PySem.W.subIn K (.ref C) (.ref D) else none) = some b
    have h1 : (PySem.W.clsIn K D).isSome = true := p.it
    rw [h1, p.ty, if_pos (by simp), p.sub]
theorem kit_ve {K : PySem.W.Frag} {C : Addr} {b : Bool} (h : PySem.W.subIn K (.ref C) (.type "ValueError") = some b) : PySem.W.kitOne K (.ref C) (.type "ValueError") = some b := by
  have e : (Value.ref C == Value.type "ValueError") = false := Bool.eq_false_iff.mpr fun q => by cases beq_iff_eq.mp q
  unfold PySem.W.kitOne
  rw [e, if_neg (by simp)]
  show (if PySem.W.kitMeta "ValueError" = true then PySem.W.subIn K (.ref C) (.type "ValueError") else none) = some b
  rw [if_pos (by decide +kernel), h]
/-- isinstance(e, D), D an own class or a built-in one -/
theorem call_isx : CallR X (.builtin "isinstance") (fun xs H Q => ∃ a C b c, xs = [V.ref a, c] ∧ H a = some (excO a C) ∧ ExcK X.K C ∧ ((∃ D, c = V.ref D ∧ PySem.W.kitOne X.K (.ref C) (.ref D) = some b) ∨ ∃ T, c = V.ty T ∧ PySem.W.kitOne X.K (.ref C) (.type T) = some b) ∧ Q (.bl b) H) := by
  intro pins s σ H xs us Q I r h
  obtain ⟨a, C, b, c, rfl, ha, T, hc, q⟩ := h
  obtain ⟨u, w', rfl, ru, rw'⟩ := vals2 r
  cases ru
  rcases hc with ⟨D, rfl, e⟩ | ⟨n, rfl, e⟩
  · cases rw'
    exact PySem.W.kia_one (kitx_exc T) I.kIn (isExc_of I ha) e (fun z => nomatch z) fun tk => ⟨.bl b, H, I.tok tk, rfl, q⟩
  · cases rw'
    exact PySem.W.kia_one (kitx_exc T) I.kIn (isExc_of I ha) e (fun z => nomatch z) fun tk => ⟨.bl b, H, I.tok tk, rfl, q⟩
/-- the clause's test -/
theorem exc_matches {M : Model} {A : Around} {E : Value → Shared → Prop} {K : PySem.W.Frag} {h : Heap} {g : Array GenState} {d : Drawn} {t : Nat} {os : OsState} {e C S : Addr} {oe : Obj} {b : Bool} {Q : Bool → Shared → Prop} (X : K.In h) (he : h.get? e = some oe) (hcls : oe.cls = .ref C)
    (hty : PySem.W.typeIn K (.ref S) = some (.type "type")) (hit : PySem.W.isClsIn K S = true) (hB : PySem.W.mroIn K S (.type "BaseException") = some true) (hs : PySem.W.subIn K (.ref C) (.ref S) = some b) (hq : Q b ⟨h, g, d, t, os⟩) : wpAny M A (excMatches (.ref e) (.ref S)) Q E ⟨h, g, d, t, os⟩ := by
  have f := tc_notTuple
  have L0 := PySem.W.looks_typeIn (M := M) X hty
  have L1 := PySem.W.looks_mroIn (M := M) X hB
  have L2 := PySem.W.looks_subIn (M := M) X hs
  have L3 : PySem.W.Looks M h (isType (.ref S)) true := by
    unfold PySem.W.isClsIn PySem.W.clsIn at hit
    split at hit
    · rename_i c' d' cd' sl' ho
      intro A' Q' E' s' k q
      unfold isType loadHead
      exact wpAny_bind (wpAny_loadPart (k _ _ (X _ _ ho)) (wpAny_pure q))
    · cases hit
  unfold excMatches isInstance
  repeat (first | (with_reducible refine wpAny_loadPart_at he ?_; rw [hcls]) | with_reducible refine PySem.W.Looks.at L0 ?_ | with_reducible refine PySem.W.Looks.at L1 ?_ | with_reducible refine PySem.W.Looks.at L2 ?_ | with_reducible refine PySem.W.Looks.at L3 ?_ | wp_step)
  cases b <;> (wp_walk; exact hq)
end
end My
/-! ### try: y = f(..) / except S as n: .. -/
namespace My
open PySem PySem.Spec PyProof.Rows L2
section
variable {X : Cx} {pins : List (Addr × Obj)} {σ : L2.St} {H : Hp} {s : Shared}
theorem name_goes {M : Model} {A : Around} {E : Value → Shared → Prop} {j : Nat} {n : Str} {pos : Pos} {Q : Unit → Shared → Prop} (I : Inv X pins σ H s) (hN : X.N.Nodup) (hj : X.N[j]? = some n) (hk : X.env.scope.names.lookup n = some .local)
    (h : ∀ s', Inv X pins (σ.set j none) H s' → Q () s') : wpAny M A (do bindName X.env n .none; unbindBehindTheSuite X.env n pos) Q E s := by
  obtain ⟨m, hn, hl⟩ := id I.loc
  have hcls : (X.env.scope.kind == .class || (X.env.scope.kind == .module && X.env.locals != X.env.globals)) = false := by rw [I.ok.kind]; rfl
  have hjσ : j < σ.length := by rw [I.len]; exact (List.getElem?_eq_some_iff.mp hj).1
  have cne := I.cne
  refine wpAny_nameGoes_keeps hk hn hcls fun h' v hn' hs => ?_
  obtain ⟨oL, _, _, hoL, _⟩ := id hn
  refine h _ ⟨I.ok, I.os, I.bare, ⟨fun b o e n hb hx => ?_, fun b o e n hb hx => ?_, I.base.free, fun b o e hx => ?_, I.base.tups, I.base.frzs, I.base.tbls⟩, ⟨_, hn', fun i y v' e1 e2 e3 => ?_⟩, fun y c e => ?_, I.free, I.freeC, fun p hp => ?_, fun b ob e => ?_, by simpa using I.len⟩
  · exact (hs.2 b (Nat.ne_of_lt (Nat.lt_of_lt_of_le (Heap.lt_size e) I.ok.above))).trans (I.base.keep b o e n hb hx)
  · obtain ⟨sl, e1⟩ := I.base.slot b o e n hb hx
    exact ⟨sl, (hs.2 b (Nat.ne_of_lt (Nat.lt_of_lt_of_le (Heap.lt_size e) I.ok.above))).trans e1⟩
  · obtain ⟨o', e1⟩ := I.base.there b o e hx
    exact ⟨o', (hs.2 b (Nat.ne_of_lt (Nat.lt_of_lt_of_le (Heap.lt_size e) I.ok.above))).trans e1⟩
  · by_cases hi : i = j
    · subst hi
      rw [List.getElem?_set_self hjσ] at e2
      cases e2
    · rw [List.getElem?_set_ne (Ne.symm hi)] at e2
      obtain ⟨u', r', q⟩ := hl i y v' e1 e2 e3
      refine ⟨u', r', ?_⟩
      rcases q with ⟨k, e⟩ | ⟨k, c, e, z⟩
      · refine .inl ⟨k, ?_⟩
        have : y ≠ n := fun e => hi (nodup_ix hN e1 (e ▸ hj))
        simp [this, e]
      · exact .inr ⟨k, c, e, z.sameBut hs (cne y c e)⟩
  · obtain ⟨w', z⟩ := I.cell y c e
    exact ⟨w', z.sameBut hs (cne y c e)⟩
  · obtain ⟨e, n, ne, nf, d⟩ := I.pin p hp
    exact ⟨(hs.2 p.1 ne).trans e, n, ne, nf, d⟩
  · refine (I.hok b ob e).stay (fun c w' hc q => (hs.2 c ?_).trans q) (fun _ q => q) fun _ _ q => q
    rintro rfl
    rcases hc with rfl | hc
    · rw [I.free] at e; cases e
    · rw [I.free] at hc; cases hc
/-- an object that was made since is tracked -/
theorem inv_track {s1 : Shared} {H1 : Hp} {a : Addr} {o : HO} (I1 : Inv X pins σ H1 s1) (I : Inv X pins σ H s) (hn : s1.heap.get? a = none) (ha : H a = none) (ok : ObjOk X.prog X.w (upd H a o) s.heap a o) : Inv X pins σ (upd H a o) s := by
  have ne : ∀ b u, s1.heap.get? b = some u → b ≠ a := fun b u e z => by rw [z, hn] at e; cases e
  refine ⟨I.ok, I.os, I.bare, ⟨I.base.keep, I.base.slot, fun b u e n hx => ?_, I.base.there, fun b xs e => ?_, fun b u v e => ?_, fun b ps e => ?_⟩, I.loc, I.cell, ?_, fun x c e => ?_, fun p hp => ?_, fun b u e => ?_, I.len⟩
  · obtain ⟨u', e1⟩ := I1.base.there b u e hx
    rw [upd_ne (ne b u' e1)]
    exact I.base.free b u e n hx
  · have q := I.base.tups b xs e
    rw [upd_ne (ne_of_none q ha)]
    exact q
  · have q := I.base.frzs b u v e
    rw [upd_ne (ne_of_none q ha)]
    exact q
  · obtain ⟨more, q⟩ := I.base.tbls b ps e
    exact ⟨more, by rw [upd_ne (ne_of_none q ha)]; exact q⟩
  · obtain ⟨m0, ⟨u, _, _, hu, _⟩, _⟩ := I1.loc
    rw [upd_ne (ne _ u hu)]
    exact I.free
  · obtain ⟨v, u, hu, _⟩ := I1.cell x c e
    rw [upd_ne (ne c u hu)]
    exact I.freeC x c e
  · obtain ⟨e, n, n2, nf, d⟩ := I.pin p hp
    obtain ⟨e1, _⟩ := I1.pin p hp
    exact ⟨e, by rw [upd_ne (ne _ _ e1)]; exact n, n2, nf, d⟩
  · by_cases hb : b = a
    · subst hb
      rw [upd_same] at e
      cases e
      exact ok
    · rw [upd_ne hb] at e
      refine (I.hok b u e).stay (fun c v hc q => q) (fun c q => ?_) fun c xs q => ?_
      · rw [upd_ne (ne_of_none q ha)]; exact q
      · rw [upd_ne (ne_of_none q ha)]; exact q
/-- a class of exceptions, as an except clause's -/
structure ExcS (K : PySem.W.Frag) (mg : Str → Option Value) (x : Str) (S : Addr) : Prop where
  bound : mg x = some (.ref S)
  ty : PySem.W.typeIn K (.ref S) = some (.type "type")
  it : PySem.W.isClsIn K S = true
  mB : PySem.W.mroIn K S (.type "BaseException") = some true
/-- what is wanted behind the suite: the name is gone -/
def gone (j : Nat) (D : Ends) : Ends := { nx := fun σ H => D.nx (σ.set j none) H, rt := D.rt, bk := fun σ H => D.bk (σ.set j none) H, ct := fun σ H => D.ct (σ.set j none) H }
/-- an exception of the class at C stands at a, its dict is d -/
def IsExcK (a C : Addr) (d : Option Addr) (h : Heap) : Prop := ∃ o, h.get? a = some o ∧ o.cls = .ref C ∧ PySem.W.notCls o = true ∧ o.dict = d
/-- try: y = f(..) / except S as n: suite; the exception tracked as ho says -/
theorem ps_tryG {ho : Addr → Addr → Option Addr → HO} {k : Nat} {fa S : Addr} {fd : FuncData} {ps : List Str} {sp : Sp} {fn c y n : Str} {i j : Nat} {a1 : Expr} {as : List Expr} {b₀ : Stmt} {suite : List Stmt} {t : TA} {th : TS} {py pf cpos apos np hpos pos : Pos}
    (F : FnOk X.prog X.w X.K X.mg X.base (CXW X.prog X.w) k fa fd ps sp) (hr : Room k X.A) (hg : Gl X fn) (hm : X.mg fn = some (.ref fa)) (hk : PySem.W.keepIn X.K (.ref fa) = true) (hb : Binds X.K fd ps [])
    (ha : PA X.nox (a1 :: as) t) (T : ExcS X.K X.mg c S) (hgc : Gl X c) (hN : X.N.Nodup) (hi : X.N[i]? = some y) (hx : Loc X.env.scope y) (hj : X.N[j]? = some n) (hxn : X.env.scope.names.lookup n = some .local) (hfn : X.fn y = true) (hst : X.stack = X.env :: X.outer) (hfr : X.env.frame = some X.env.locals)
    (hs : ∀ ea, PSs (markX X ea) (b₀ :: suite) th) (hho : ∀ (H : Hp) (h : Heap) (ea C : Addr) (d : Option Addr), IsExcK ea C d h → ObjOk X.prog X.w H h ea (ho ea C d))
    (hdb : (fn == ("__debug__" : Str)) = false := by decide) (hdc : (c == ("__debug__" : Str)) = false := by decide) (he : starEach (a1 :: as) X.env = (false, eval a1 X.env) :: starEach as X.env := by rfl) (hpl : (backTo cpos (starEach as X.env)).any (·.1) = false := by rfl)
    (hsw : swapsWith (.Call (.Name fn pf) (a1 :: as) [] cpos) (some (.Name y py)) apos.line X.env = pure false := by rfl) :
    PS X (.Try [.Assign [.Name y py] (.Call (.Name fn pf) (a1 :: as) [] cpos) apos] [.ExceptHandler (some (.Name c np)) (some n) (b₀ :: suite) hpos] [] [] pos)
      (fun D σ H => t σ H fun vs H1 => sp vs H1 (fun v H2 => D.nx (σ.set i (some v)) H2) (fun cls d H2 => ∃ C, cls = .ref C ∧ PySem.W.subIn X.K (.ref C) (.ref S) = some true ∧ ∀ ea, H2 ea = none → th (gone j D) (σ.set j (some (.ref ea))) (upd H2 ea (ho ea C d)))) := by
  constructor; intro pins s σ H D I h
  refine wpAny_Try_except (wpAny_execs_cons (wpAny_Assign_Name (wpAny_Call_Name_kw (ld_glob I hg hm ?_ hdb)) hsw))
  refine PySem.W.callWith_K (h₀ := X.base) I.ok.mod.kin hk (wpAny_mono (ha cpos pins s σ H _ (I.wish _) h) (fun us s1 ⟨vs, H1, I1w, r, q⟩ => ⟨I1w.kIn, ?_⟩) fun _ _ z => z.elim) he hpl
  have I1 : Inv X pins σ H1 s1 := I1w.unwish
  have hl : us.length = ps.length := by rw [← r.length]; exact F.len _ _ _ _ q
  have hbb := hb s1 us I1.kIn (by rw [List.append_nil]; exact hl)
  rw [List.append_nil] at hbb
  refine wpAny_call (codeAny_mono (F.run X.A X.stack s1 H1 ⟨us, []⟩ us vs _ _ hr I1.env0 hbb r q) fun res s' hq => ?_)
  cases res with
  | ok fl =>
    cases fl with
    | ret u =>
      obtain ⟨v, H2, I2, r2, q2⟩ := I1.after hq
      exact store_ok I2 hN hi hx r2 (fun s3 I3 => wpAny_execs_nil (wpAny_execs_nil ⟨_, H2, I3, q2⟩)) (.inl hfn)
    | next => exact False.elim hq
    | brk => exact False.elim hq
    | cont => exact False.elim hq
  | error e =>
    obtain ⟨ea, cls, a0, B, H', d, rfl, os, bare, un, hok, fl, bk, n1, n2, ⟨o0, ho0, hd0⟩, C, hcls, hsub, hth⟩ := hq
    subst hcls
    have fl' := fl
    rw [hst] at fl'
    have hfnn : ∀ b ∈ frs X.stack, ∃ o, s'.heap.get? b = some o ∧ ∀ vs, o.data ≠ .fields vs := fun b hb => (fl.2.2.1.mem hb).2
    refine wpAny_mono (wpAny_calm (calm_noteFrame _ _) (wpAny_looks_onW (Q := fun _ s'' => ∃ h4, s'' = { s' with heap := h4 } ∧ Heap.HeldW B (X.env :: X.outer) ea (.ref C) a0 X.env.locals h4 ∧ s'.heap.UpToSlots h4) (by rw [I1.ok.frames, hst]) hfr fl' fun h4 x1 x2 => ⟨h4, rfl, x1, x2⟩)) (fun _ s'' ⟨⟨h4, e4, held, sm4⟩, dk4⟩ => ?_) fun _ _ z => z.1
    subst e4
    refine wpAny_mono (wpAny_calm (calm_setFlight _ _) (wpAny_landsW (Q := fun _ s'' => ∃ h5, s'' = { s' with heap := h5 } ∧ Heap.FlyingW B (X.env :: X.outer) ea (.ref C) a0 h5 ∧ h4.UpToSlots h5) held fun h5 x1 x2 => ⟨h5, rfl, x1, x2⟩)) (fun _ s'' ⟨⟨h5, e5, fl5, sm5⟩, dk5⟩ => ?_) fun _ _ z => z.1
    subst e5
    obtain ⟨ob, hob, hobc⟩ := fl5.there
    obtain ⟨un5, hok5, _, _⟩ := carry I1 un hok bk fl5.1 (sm4.trans sm5) hfnn
    have I5 : Inv X pins σ H' { s' with heap := h5 } := I1.call' (s' := { s' with heap := h5 }) os un5 hok5 bare (fun b z => absurd z (by simp))
    refine wpAny_handleBy_cons (codeAny_handlers_test (ld_glob (X := markX X ea) (inv_mark I5 ea) hgc T.bound ?_ hdc)) (by intro z; cases z)
    refine exc_matches (K := X.K) I5.kIn hob hobc T.ty T.it T.mB hsub (codeAny_handlers_suite_as ?_)
    refine wpAny_mono (wpAny_calm (calm_setFlight _ _) (lands_againW (Q := fun _ s'' => ∃ h6, s'' = { s' with heap := h6 } ∧ Heap.FlyingW B (X.env :: X.outer) ea (.ref C) a0 h6 ∧ h5.UpToSlots h6) fl5 fun h6 x1 x2 => ⟨h6, rfl, x1, x2⟩)) (fun _ s'' ⟨⟨h6, e6, fl6, sm6⟩, dk6⟩ => ?_) fun _ _ z => z.1
    subst e6
    obtain ⟨ob6, vs6, hob6, hobc6, hdat6, _⟩ := fl6.first
    have isK : IsExcK ea C d h6 := by
      obtain ⟨o4, ho4, hd4⟩ := dk4 ea o0 ho0
      obtain ⟨o5, ho5, hd5⟩ := dk5 ea o4 ho4
      obtain ⟨o6, ho6, hd6⟩ := dk6 ea o5 ho5
      have ho6' : h6.get? ea = some o6 := ho6
      rw [hob6] at ho6'
      cases ho6'
      exact ⟨ob6, hob6, hobc6, by unfold PySem.W.notCls; rw [hdat6], hd6.1.trans (hd5.1.trans (hd4.1.trans hd0.1))⟩
    obtain ⟨un6, hok6, _, _⟩ := carry I1 un hok bk fl6.1 ((sm4.trans sm5).trans sm6) hfnn
    have I6 : Inv X pins σ H' { s' with heap := h6 } := I1.call' (s' := { s' with heap := h6 }) os un6 hok6 bare (fun b z => absurd z (by simp))
    have I7 : Inv X pins σ (upd H' ea (ho ea C d)) { s' with heap := h6 } := inv_track I1 I6 n2 n1 (hho _ _ _ _ _ isK)
    refine store_ok (X := markX X ea) (i := j) (v := .ref ea) (inv_mark I7 ea) hN hj (.inl hxn) rfl (fun s8 I8 => ?_) (.inr hxn)
    refine wpAny_mono (hs ea pins _ _ _ (gone j D) I8 (hth ea n1)) (fun f2 s2 z => ?_) fun _ _ z => z.elim
    have z' := sp_unmark I6.ok z
    cases f2 with
    | next => obtain ⟨σ', H9, I9, q⟩ := z'; exact name_goes I9 hN hj hxn fun s3 I3 => ⟨_, H9, I3, q⟩
    | brk => obtain ⟨σ', H9, I9, q⟩ := z'; exact name_goes I9 hN hj hxn fun s3 I3 => ⟨_, H9, I3, q⟩
    | cont => obtain ⟨σ', H9, I9, q⟩ := z'; exact name_goes I9 hN hj hxn fun s3 I3 => ⟨_, H9, I3, q⟩
    | ret u => obtain ⟨v, σ', H9, I9, r, q⟩ := z'; exact name_goes I9 hN hj hxn fun s3 I3 => ⟨v, _, H9, I3, r, q⟩
theorem ps_tryE {k : Nat} {fa S : Addr} {fd : FuncData} {ps : List Str} {sp : Sp} {fn c y n : Str} {i j : Nat} {a1 : Expr} {as : List Expr} {b₀ : Stmt} {suite : List Stmt} {t : TA} {th : TS} {py pf cpos apos np hpos pos : Pos}
    (F : FnOk X.prog X.w X.K X.mg X.base (CXW X.prog X.w) k fa fd ps sp) (hr : Room k X.A) (hg : Gl X fn) (hm : X.mg fn = some (.ref fa)) (hk : PySem.W.keepIn X.K (.ref fa) = true) (hb : Binds X.K fd ps [])
    (ha : PA X.nox (a1 :: as) t) (T : ExcS X.K X.mg c S) (hgc : Gl X c) (hN : X.N.Nodup) (hi : X.N[i]? = some y) (hx : Loc X.env.scope y) (hj : X.N[j]? = some n) (hxn : X.env.scope.names.lookup n = some .local) (hfn : X.fn y = true) (hst : X.stack = X.env :: X.outer) (hfr : X.env.frame = some X.env.locals)
    (hs : ∀ ea, PSs (markX X ea) (b₀ :: suite) th)
    (hdb : (fn == ("__debug__" : Str)) = false := by decide) (hdc : (c == ("__debug__" : Str)) = false := by decide) (he : starEach (a1 :: as) X.env = (false, eval a1 X.env) :: starEach as X.env := by rfl) (hpl : (backTo cpos (starEach as X.env)).any (·.1) = false := by rfl)
    (hsw : swapsWith (.Call (.Name fn pf) (a1 :: as) [] cpos) (some (.Name y py)) apos.line X.env = pure false := by rfl) :
    PS X (.Try [.Assign [.Name y py] (.Call (.Name fn pf) (a1 :: as) [] cpos) apos] [.ExceptHandler (some (.Name c np)) (some n) (b₀ :: suite) hpos] [] [] pos)
      (fun D σ H => t σ H fun vs H1 => sp vs H1 (fun v H2 => D.nx (σ.set i (some v)) H2) (fun cls _ H2 => ∃ C, cls = .ref C ∧ PySem.W.subIn X.K (.ref C) (.ref S) = some true ∧ ∀ ea, H2 ea = none → th (gone j D) (σ.set j (some (.ref ea))) (upd H2 ea (excO ea C)))) :=
  ps_tryG (ho := fun ea C _ => excO ea C) F hr hg hm hk hb ha T hgc hN hi hx hj hxn hfn hst hfr hs (fun _ _ _ _ _ ⟨_, q, c, _⟩ => excO_ok q c) hdb hdc he hpl hsw
end
end My
/-! ### for c in text; for a, b in zip(xs, ys) over lists, tuples and texts -/
namespace My
open PySem PySem.Spec PyProof.Rows L2
/-- a fixed row of values -/
def Itf (ys : List V) : It := ⟨fun i _ => i < ys.length, fun i H x H' => H' = H ∧ ys[i]? = some x, fun i _ => ys.length ≤ i⟩
abbrev vsigns (y : Str) : List V := y.cps.toList.map fun c => V.str ⟨#[c]⟩
theorem vsigns_len (y : Str) : (vsigns y).length = y.length := by simp [vsigns, Str.length]
theorem vsigns_get {y : Str} {i : Nat} : (vsigns y)[i]? = (y.cps[i]?).map fun c => V.str ⟨#[c]⟩ := by
  rw [List.getElem?_map, Array.getElem?_toList]
abbrev strIt (y : Str) : String := if y.cps.all (· < 128) then "str_ascii_iterator" else "str_iterator"
abbrev strItO (y : Str) (t : Tok) : Obj := { cls := .type (strIt y), data := .fields #[.str y t, .int 0 0] }
theorem pyIter_str' {prog : Program} {w : World} {A : Around} {E : Value → Shared → Prop} {s : Shared} {x : Str} {t : Tok} {Q : Value → Shared → Prop} (hQ : Q (.ref s.heap.objs.size) { s with heap := s.heap.push (strItO x t) }) : wpAny (model prog w) A (pyIter (.str x t)) Q E s := by
  cases ha : x.cps.all (· < 128) with
  | true =>
    have e : strIt x = "str_ascii_iterator" := if_pos ha
    unfold strItO at hQ
    rw [e] at hQ
    exact wpAny_pyIter_ascii ha hQ
  | false =>
    have e : strIt x = "str_iterator" := if_neg (by rw [ha]; decide)
    unfold strItO at hQ
    rw [e] at hQ
    exact wpAny_pyIter_wide ha hQ
section
variable {X : Cx} {tg : Expr}
end
/-! the sources of a zip -/
structure Src (P : Program) (w : World) (K : PySem.W.Frag) (J : It) (it : Addr) (st : Nat → Heap → Prop) : Prop where
  obj : ∀ i h, st i h → ∃ o, h.get? it = some o ∧ ∀ v, o.data ≠ .cell v
  keep : ∀ i h h', st i h → (∀ o, h.get? it = some o → h'.get? it = some o) → st i h'
  item : ∀ (X : Cx), X.prog = P → X.w = w → X.K = K → ∀ (A : Around) (i : Nat) (pins : List (Addr × Obj)) (s : Shared) (σ : L2.St) (H : Hp) (Q : Value → Shared → Prop) (E : Value → Shared → Prop), Inv X pins σ H s → st i s.heap → J.go i H →
    (∀ x u h' tk, RelV x u → J.yld i H x H → st (i + 1) h' → Heap.SameBut it s.heap h' → Q u { s with heap := h', toks := tk }) → wpAny (model P w) A (Builtin.SmallTypes.nextOf (.ref it)) Q E s
  done : ∀ (X : Cx), X.prog = P → X.w = w → X.K = K → ∀ (A : Around), A.handled = none → ∀ (i : Nat) (pins : List (Addr × Obj)) (s : Shared) (σ : L2.St) (H : Hp) (Q : Value → Shared → Prop) (E : Value → Shared → Prop), Inv X pins σ H s → st i s.heap → J.stop i H →
    (∀ h' e, Heap.ExtBut it s.heap h' → (∃ o, h'.get? e = some o ∧ o.cls = .type "StopIteration") → E (.ref e) { s with heap := h' }) → wpAny (model P w) A (Builtin.SmallTypes.nextOf (.ref it)) Q E s
section
variable {P : Program} {w : World} {K : PySem.W.Frag}
theorem src_list (a it : Addr) : Src P w K (Itl K a) it (fun i h => h.IsListIter it a i) where
  obj := fun i h st => by
    obtain ⟨o, e, c, d⟩ := st
    exact ⟨o, e, fun v z => by rw [d] at z; cases z⟩
  keep := fun i h h' st k => st.at fun o e => k o e
  item := by
    intro X hP hw hK A i pins s σ H Q E I st hg hQ
    subst hP hw hK
    obtain ⟨xs, x, hq, hx⟩ := hg
    obtain ⟨its, rv, p, hz⟩ := I.list hq
    obtain ⟨u, hu, ru⟩ := rv.get hx
    exact wpAny_nextOf_list_item st p.isList (x := u) (by simpa using hu) fun h' st' sb => hQ x u h' s.toks ru ⟨rfl, fun ys hy => by rw [I.list_inj hy hq]; exact hx⟩ st' sb
  done := by
    intro X hP hw hK A hA i pins s σ H Q E I st hg hE
    subst hP hw hK
    obtain ⟨xs, hq, hx⟩ := hg
    obtain ⟨its, rv, p, hz⟩ := I.list hq
    have hl := rv.length
    exact wpAny_nextOf_list_end hA st p.isList (by simp; omega) hE
theorem src_str (y : Str) (t : Tok) (it : Addr) : Src P w K (Itf (vsigns y)) it (fun i h => h.IsStrIter it (strIt y) y t i) where
  obj := fun i h st => by
    obtain ⟨o, e, c, d⟩ := st
    exact ⟨o, e, fun v z => by rw [d] at z; cases z⟩
  keep := fun i h h' st k => let ⟨o, ho, r⟩ := st; ⟨o, k o ho, r⟩
  item := by
    intro X hP hw hK A i pins s σ H Q E I st hg hQ
    subst hP hw hK
    have hi : i < y.cps.size := by have : i < (vsigns y).length := hg; rw [vsigns_len] at this; exact this
    have yl : (Itf (vsigns y)).yld i H (.str ⟨#[y.cps[i]]⟩) H := ⟨rfl, by rw [vsigns_get, Array.getElem?_eq_getElem hi]; rfl⟩
    cases ha : y.cps.all (· < 128) with
    | true =>
      have e : strIt y = "str_ascii_iterator" := if_pos ha
      rw [e] at st hQ
      exact wpAny_nextOf_ascii_item st (c := y.cps[i]) (by simp [hi]) fun h' st' sb => hQ (.str ⟨#[y.cps[i]]⟩) _ h' _ ⟨_, rfl⟩ yl st' sb
    | false =>
      have e : strIt y = "str_iterator" := if_neg (by rw [ha]; decide)
      rw [e] at st hQ
      exact wpAny_nextOf_wide_item st (c := y.cps[i]) (by simp [hi]) fun h' st' sb => hQ (.str ⟨#[y.cps[i]]⟩) _ h' _ ⟨_, rfl⟩ yl st' sb
  done := by
    intro X hP hw hK A hA i pins s σ H Q E I st hg hE
    subst hP hw hK
    have hi : y.cps[i]? = none := by have : (vsigns y).length ≤ i := hg; rw [vsigns_len] at this; exact Array.getElem?_eq_none this
    cases ha : y.cps.all (· < 128) with
    | true =>
      have e : strIt y = "str_ascii_iterator" := if_pos ha
      rw [e] at st
      exact wpAny_nextOf_ascii_end hA st hi hE
    | false =>
      have e : strIt y = "str_iterator" := if_neg (by rw [ha]; decide)
      rw [e] at st
      exact wpAny_nextOf_wide_end hA st hi hE

/-- a draw from a tuple's iterator -/
theorem nextOf_tuple {A : Around} {s : Shared} {E : Value → Shared → Prop} {it l : Addr} {i : Nat} {its : Array Value} {Q : Value → Shared → Prop} (st : s.heap.IsTupleIter it l i) (tp : s.heap.IsTuple l its)
    (hs : ∀ x g, its[i]? = some x → g.IsTupleIter it l (i + 1) → Heap.SameBut it s.heap g → Q x { s with heap := g })
    (hn : its[i]? = none → A.handled = none ∧ ∀ g e, Heap.ExtBut it s.heap g → (∃ o, g.get? e = some o ∧ o.cls = .type "StopIteration") → E (.ref e) { s with heap := g }) :
    wpAny (model P w) A (Builtin.SmallTypes.nextOf (.ref it)) Q E s := by
  obtain ⟨oi, ei, ci, di⟩ := id st
  obtain ⟨ot, et, _, nt, dt⟩ := id tp
  have new : ∀ k v, Heap.SameBut it s.heap (s.heap.update it (Obj.mapFields (·.setIfInBounds k v))) := fun _ _ => Heap.SameBut.update ..
  refine wpAny_bind (wpAny_callSpecial?_slot (name := Str.ofString "__next__") st.typeIs F.slot_tuple_iterator_next (wpAny_call_entry F.slot_tuple_iterator_next st.typeIs F.entry_tuple_iterator_next ?_ (F.args_tuple_iterator_next_1 _)))
  refine wpAny_bind (wpAny_of_eq (a := (Value.ref it, [])) rfl (wpAny_bind (wpAny_field ei di (x := .ref l) rfl ?_)))
  have nn : (Value.ref l == Value.none) = false := rfl
  dsimp only
  rw [nn, if_neg Bool.false_ne_true]
  refine wpAny_bind (wpAny_field ei di (x := .int i 0) rfl (wpAny_bind (wpAny_seqItems et dt ?_)))
  dsimp only
  rw [Int.toNat_natCast]
  cases q : its[i]? with
  | some x =>
    refine wpAny_bind (wpAny_setField ei di (by simp) (wpAny_pure ⟨x, rfl, wpAny_pure (hs x _ q ?_ (new 1 _))⟩))
    refine ⟨_, Heap.get?_update_self _ ei (Obj.isFreed_of_fields (Obj.data_mapFields di _)), ?_, ?_⟩
    · rw [Obj.cls_mapFields]; exact ci
    · rw [Obj.data_mapFields di]
      simp [rawInt]
  | none =>
    obtain ⟨hA, f⟩ := hn q
    refine wpAny_bind (wpAny_rule (wpAny_bind (wpAny_setField ei di (by simp) (wpAny_bind (m := newExc _ _) ?_))))
    unfold newExc newTuple
    refine wpAny_bind (wpAny_newObj_type (wpAny_bind (m := firstArgMember _ _) (wpAny_of_eq (a := Value.none) rfl (wpAny_newObj_type (wpAny_raiseNew_none hA (f _ _ (((new 0 _).extBut.push _).push _) ⟨_, Heap.get?_push_size _ rfl, rfl⟩)) (by size_fits)))) (by size_fits))
theorem src_tuple (a it : Addr) : Src P w K (Itt K a) it (fun i h => h.IsTupleIter it a i) where
  obj := fun i h st => by
    obtain ⟨o, e, c, d⟩ := st
    exact ⟨o, e, fun v z => by rw [d] at z; cases z⟩
  keep := fun i h h' st k => st.at fun o e => k o e
  item := by
    intro X hP hw hK A i pins s σ H Q E I st hg hQ
    subst hP hw hK
    obtain ⟨xs, x, hq, hx⟩ := hg
    obtain ⟨its, rv, p, hz⟩ := I.tuple hq
    obtain ⟨u, hu, ru⟩ := rv.get hx
    have hu' : its.toArray[i]? = some u := by simpa using hu
    refine nextOf_tuple st (show s.heap.IsTuple a its.toArray from p) (fun y g hy st' sb => ?_) (fun z => by rw [hu'] at z; cases z)
    have e : u = y := Option.some.inj (hu'.symm.trans hy)
    subst e
    exact hQ x u g s.toks ru ⟨rfl, fun ys hy => by rw [I.tuple_inj hy hq]; exact hx⟩ st' sb
  done := by
    intro X hP hw hK A hA i pins s σ H Q E I st hg hE
    subst hP hw hK
    obtain ⟨xs, hq, hx⟩ := hg
    obtain ⟨its, rv, p, hz⟩ := I.tuple hq
    have hl := rv.length
    have hn : its.toArray[i]? = none := by simp; omega
    exact nextOf_tuple st (show s.heap.IsTuple a its.toArray from p) (fun y g hy _ _ => by rw [hn] at hy; cases hy) fun _ => ⟨hA, hE⟩
/-- one turn of a zip, whatever it walks: the two draws are handed in -/
theorem zip_draws {A : Around} {E : Value → Shared → Prop} {s : Shared} {z TI TO i1 i2 : Addr} {Q : Fin → Shared → Prop} (hz : IsZip s.heap z TI TO .none) (hTI : IsPair s.heap TI (.ref i1) (.ref i2))
    (h : ∀ g1, IsZip g1 z TI TO .ellipsis → Heap.SameBut z s.heap g1 →
      wpAny (model P w) A (Builtin.SmallTypes.nextOf (.ref i1)) (fun x s2 => ∃ a b, IsPair s2.heap TO a b ∧ ∀ g3, IsPair g3 TO x b → Heap.SameBut TO s2.heap g3 →
        wpAny (model P w) A (Builtin.SmallTypes.nextOf (.ref i2)) (fun y s4 => IsPair s4.heap TO x b ∧ ∀ g5, IsPair g5 TO x y → Heap.SameBut TO s4.heap g5 → IsZip g5 z TI TO .ellipsis ∧
            ∀ g7 g8, Heap.SameBut z (g5.push { cls := .type "tuple", data := .seq #[x, y] }) g7 → Heap.SameBut z g7 g8 → IsZip g8 z TI TO (rawInt g5.objs.size) → Q (.done (.ret (.ref g5.objs.size))) { s4 with heap := g8 })
          (fun e s4 => IsZip s4.heap z TI TO .ellipsis ∧ ∀ g5, Heap.SameBut z s4.heap g5 → E e { s4 with heap := g5 }) { s2 with heap := g3 })
        (fun e s2 => IsZip s2.heap z TI TO .ellipsis ∧ ∀ g3, Heap.SameBut z s2.heap g3 → E e { s2 with heap := g3 }) { s with heap := g1 }) :
    wpAny (model P w) A (Builtin.«zip.__next__» ⟨[.ref z], []⟩) Q E s := by
  have free : wpAny (model P w) A (Builtin.SmallTypes.ownedTupleIsFree (.ref z)) (fun b s' => b = true ∧ s' = s) E s := by
    unfold Builtin.SmallTypes.ownedTupleIsFree
    exact wpAny_bind (wpAny_field hz rfl rfl (wpAny_pure ⟨rfl, rfl⟩))
  refine wpAny_bind (wpAny_of_eq (a := (Value.ref z, [])) rfl ?_)
  refine wpAny_bind (wpAny_field hz rfl (x := .bool false) rfl (wpAny_bind (wpAny_field hz rfl (x := .ref TI) rfl (wpAny_bind (wpAny_seqItems hTI rfl (wpAny_bind (thn free fun b s' hb => ?_)))))))
  obtain ⟨rfl, rfl⟩ := hb
  refine wpAny_bind (wpAny_rule (wpAny_bind (wpAny_field hz rfl (x := .ref TO) rfl (wpAny_bind (wpAny_setField_rec hz (by simp) fun g1 q1 k1 => wpAny_bind ?_)))))
  simp only [List.zipIdx_cons, List.zipIdx_nil, List.forIn_cons, List.forIn_nil]
  refine wpAny_bind (wpAny_bind (wpAny_onRaise (wpAny_bind (wpAny_mono (h g1 q1 k1) (fun x s2 d1 => ?_) fun e s2 ⟨q2, f2⟩ => wpAny_setField_rec q2 (by simp) fun g3 _ k3 => f2 g3 k3))))
  obtain ⟨a, b, t2, d1⟩ := d1
  refine wpAny_pure (wpAny_bind (wpAny_seqItems t2 rfl (wpAny_bind (wpAny_updateSeq_pair t2 fun g3 t3 k3 => wpAny_bind (wpAny_letGo (wpAny_pure (wpAny_bind (wpAny_bind (wpAny_onRaise ?_)))))))))
  refine wpAny_bind (wpAny_mono (d1 g3 t3 k3) (fun y s4 d2 => ?_) fun e s4 ⟨q4, f4⟩ => wpAny_setField_rec q4 (by simp) fun g5 _ k5 => f4 g5 k5)
  obtain ⟨t4, d2⟩ := d2
  refine wpAny_pure (wpAny_bind (wpAny_seqItems t4 rfl (wpAny_bind (wpAny_updateSeq_pair t4 fun g5 t5 k5 => wpAny_bind (wpAny_letGo (wpAny_pure (wpAny_pure (wpAny_bind (wpAny_seqItems t5 rfl (wpAny_bind (wpAny_newTuple ?_ (by show 2 ≤ sizeLine; decide))))))))))))
  obtain ⟨q5, d2⟩ := d2 g5 t5 k5
  have out : wpAny (model P w) A (Builtin.SmallTypes.ownedTupleHandOut (.ref z) (.ref g5.objs.size)) (fun _ s' => Q (.done (.ret (.ref g5.objs.size))) s') E { s4 with heap := g5.push { cls := .type "tuple", data := .seq #[x, y] } } := by
    unfold Builtin.SmallTypes.ownedTupleHandOut
    refine wpAny_bind (wpAny_setField_rec (Heap.get?_push_of_some _ q5) (by simp) fun g7 q7 k7 => wpAny_setField_rec q7 (by simp) fun g8 q8 k8 => d2 g7 g8 k7 k8 ?_)
    exact q8
  exact wpAny_bind (thn out fun _ s' q => wpAny_pure q)
/-- a zip of two -/
def ItZ (J1 J2 : It) : It := ⟨fun i H => J1.go i H ∧ J2.go i H, fun i H v H' => ∃ p x y, J1.yld i H x H ∧ J2.yld i H y H ∧ v = .ref p ∧ H p = none ∧ H' = upd H p (.tup [x, y]), fun i H => J1.stop i H ∨ (J1.go i H ∧ J2.stop i H)⟩
/-- the five objects of a zip -/
structure ZipAp (z TI TO i1 i2 : Addr) : Prop where
  TIz : TI ≠ z
  TOz : TO ≠ z
  i1z : i1 ≠ z
  i2z : i2 ≠ z
  TITO : TI ≠ TO
  TIi1 : TI ≠ i1
  TIi2 : TI ≠ i2
  TOi1 : TO ≠ i1
  TOi2 : TO ≠ i2
  i12 : i1 ≠ i2
theorem zipAp_of (n : Nat) : ZipAp (n + 4) (n + 2) (n + 3) n (n + 1) := by
  constructor <;> (intro h; first | exact absurd (show n + 2 = n + 4 from h) (by omega) | exact absurd (show n + 3 = n + 4 from h) (by omega) | exact absurd (show n = n + 4 from h) (by omega) | exact absurd (show n + 1 = n + 4 from h) (by omega) | exact absurd (show n + 2 = n + 3 from h) (by omega) | exact absurd (show n + 2 = n from h) (by omega) | exact absurd (show n + 2 = n + 1 from h) (by omega) | exact absurd (show n + 3 = n from h) (by omega) | exact absurd (show n + 3 = n + 1 from h) (by omega) | exact absurd (show n = n + 1 from h) (by omega))
theorem turn_zip {J1 J2 : It} {z TI TO i1 i2 : Addr} {st1 st2 : Nat → Heap → Prop} (D : ZipAp z TI TO i1 i2) (S1 : Src P w K J1 i1 st1) (S2 : Src P w K J2 i2 st2) {elts : List Expr} {kk : Nat} {tpos : Pos} :
    Turn P w K (.Tuple elts kk tpos) (ItZ J1 J2) [z, TI, TO, i1, i2] z (fun i h => IsZip h z TI TO .none ∧ IsPair h TI (.ref i1) (.ref i2) ∧ (∃ a b, IsPair h TO a b) ∧ st1 i h ∧ st2 i h) where
  mem := by simp
  obj := fun i h ⟨hz, hTI, ⟨a, b, hTO⟩, h1, h2⟩ c hc => by
    simp only [List.mem_cons, List.not_mem_nil, or_false] at hc
    rcases hc with e | e | e | e | e
    · rw [e]; exact ⟨_, hz, fun v z => by simp at z⟩
    · rw [e]; exact ⟨_, hTI, fun v z => by simp at z⟩
    · rw [e]; exact ⟨_, hTO, fun v z => by simp at z⟩
    · rw [e]; exact S1.obj i h h1
    · rw [e]; exact S2.obj i h h2
  keep := fun i h h' ⟨hz, hTI, ⟨a, b, hTO⟩, h1, h2⟩ k => ⟨k z (by simp) _ hz, k TI (by simp) _ hTI, ⟨a, b, k TO (by simp) _ hTO⟩, S1.keep i h h' h1 (k i1 (by simp)), S2.keep i h h' h2 (k i2 (by simp))⟩
  item := by
    intro X hP hw hK hc i pins s σ H E I hf st hg
    subst hP hw hK
    obtain ⟨hz, hTI, ⟨a, b, hTO⟩, h1, h2⟩ := st
    have ty : s.TypeIs (.ref z) "zip" := ⟨_, hz, rfl⟩
    have tz : ∀ {s' : Shared} {H' : Hp} {h' : Heap} {t' : Nat} {it : Addr}, it ∈ [z, TI, TO, i1, i2] → H' it = none → Inv X pins σ H' s' → Heap.SameBut it s'.heap h' → Inv X pins σ H' { s' with heap := h', toks := t' } := fun {s' H' h' t' it} hm hn I' sb => by
      obtain ⟨f0, f1, f2, f3, f4, f5⟩ := hf it hm
      exact I'.turned (fun b o hb e => (sb.2 b hb).trans e) hn f1 f3 f4 f5
    have fz := (hf z (by simp)).1
    refine wpAny_bind (wpAny_attempt (wpAny_callSpecial?_slot (name := Str.ofString "__next__") ty F.slot_zip_next (wpAny_call_entry F.slot_zip_next ty F.entry_zip_next (zip_draws hz hTI fun u1 q1 k1 => ?_) (F.args_zip_next_1 _))))
    have I1 : Inv X pins σ H { s with heap := u1 } := tz (t' := s.toks) (by simp) fz I k1
    refine S1.item X rfl rfl rfl _ i pins { s with heap := u1 } σ H _ _ I1 (S1.keep i _ _ h1 fun o e => k1.extBut _ _ D.i1z e) hg.1 fun x ux u2 t2 rx y1 st1' k2 => ⟨a, b, k2.extBut _ _ D.TOi1 (k1.extBut _ _ D.TOz hTO), fun u3 p3 k3 => ?_⟩
    have I2 : Inv X pins σ H { s with heap := u2, toks := t2 } := tz (it := i1) (s' := { s with heap := u1 }) (by simp) (hf i1 (by simp)).1 I1 k2
    have I3 : Inv X pins σ H { s with heap := u3, toks := t2 } := tz (it := TO) (s' := { s with heap := u2, toks := t2 }) (by simp) (hf TO (by simp)).1 I2 k3
    refine S2.item X rfl rfl rfl _ i pins { s with heap := u3, toks := t2 } σ H _ _ I3 (S2.keep i _ _ h2 fun o e => k3.extBut _ _ D.TOi2.symm (k2.extBut _ _ D.i12.symm (k1.extBut _ _ D.i2z e))) hg.2 fun y uy u4 t4 ry y2 st2' k4 => ⟨k4.extBut _ _ D.TOi2 p3, fun u5 p5 k5 => ?_⟩
    have I4 : Inv X pins σ H { s with heap := u4, toks := t4 } := tz (it := i2) (s' := { s with heap := u3, toks := t2 }) (by simp) (hf i2 (by simp)).1 I3 k4
    have I5 : Inv X pins σ H { s with heap := u5, toks := t4 } := tz (it := TO) (s' := { s with heap := u4, toks := t4 }) (by simp) (hf TO (by simp)).1 I4 k5
    have all : ∀ c o, c ≠ z → c ≠ TO → c ≠ i1 → c ≠ i2 → s.heap.get? c = some o → u5.get? c = some o := fun c o n1 n2 n3 n4 e => k5.extBut _ _ n2 (k4.extBut _ _ n4 (k3.extBut _ _ n2 (k2.extBut _ _ n3 (k1.extBut _ _ n1 e))))
    have q5 : IsZip u5 z TI TO .ellipsis := k5.extBut _ _ D.TOz.symm (k4.extBut _ _ D.i2z.symm (k3.extBut _ _ D.TOz.symm (k2.extBut _ _ D.i1z.symm q1)))
    refine ⟨q5, fun u7 u8 k7 k8 q8 => ⟨_, rfl, wpAny_pure ⟨_, rfl, wpAny_letOwnedTupleGo_zip q8 fun u9 q9 k9 => ?_⟩⟩⟩
    have lt : ∀ c ∈ [z, TI, TO, i1, i2], c < u5.objs.size := fun c hc => by
      simp only [List.mem_cons, List.not_mem_nil, or_false] at hc
      rcases hc with e | e | e | e | e
      · rw [e]; exact Heap.lt_size q5
      · rw [e]; exact Heap.lt_size (all _ _ D.TIz D.TITO D.TIi1 D.TIi2 hTI)
      · rw [e]; exact Heap.lt_size p5
      · rw [e]; obtain ⟨o, eo, _⟩ := S1.obj _ _ st1'; exact Heap.lt_size (k5.extBut _ _ D.TOi1.symm (k4.extBut _ _ D.i12 (k3.extBut _ _ D.TOi1.symm eo)))
      · rw [e]; obtain ⟨o, eo, _⟩ := S2.obj _ _ st2'; exact Heap.lt_size (k5.extBut _ _ D.TOi2.symm eo)
    have nT : u5.get? u5.objs.size = none := Heap.get?_none_of_le (Nat.le_refl _)
    have I6 : Inv X pins σ (upd H u5.objs.size (.tup [x, y])) { s with heap := u5.push { cls := .type "tuple", data := .seq #[ux, uy] }, toks := t4 } :=
      inv_new (s := { s with heap := u5, toks := t4 }) I5 (fun b u e => Heap.get?_push_of_some _ e) nT ⟨by show 2 ≤ sizeLine; decide, [ux, uy], .cons rx (.cons ry .nil), _, Heap.get?_push_size _ rfl, rfl, _, rfl⟩
    have nz : (upd H u5.objs.size (.tup [x, y])) z = none := by rw [upd_ne (Nat.ne_of_lt (lt z (by simp)))]; exact fz
    have I7 : Inv X pins σ (upd H u5.objs.size (.tup [x, y])) { s with heap := u7, toks := t4 } := tz (it := z) (s' := { s with heap := u5.push { cls := .type "tuple", data := .seq #[ux, uy] }, toks := t4 }) (by simp) nz I6 k7
    have I8 : Inv X pins σ (upd H u5.objs.size (.tup [x, y])) { s with heap := u8, toks := t4 } := tz (it := z) (s' := { s with heap := u7, toks := t4 }) (by simp) nz I7 k8
    have I9 : Inv X pins σ (upd H u5.objs.size (.tup [x, y])) { s with heap := u9, toks := t4 } := tz (it := z) (s' := { s with heap := u8, toks := t4 }) (by simp) nz I8 k9
    have up : ∀ c o, c ≠ z → u5.get? c = some o → u9.get? c = some o := fun c o n e => k9.extBut _ _ n (k8.extBut _ _ n (k7.extBut _ _ n (Heap.get?_push_of_some _ e)))
    refine ⟨.ref u5.objs.size, _, I9, rfl, ⟨u5.objs.size, x, y, y1, y2, rfl, inv_none I5 nT, rfl⟩, ⟨q9, up _ _ D.TIz (all _ _ D.TIz D.TITO D.TIi1 D.TIi2 hTI), ⟨_, _, up _ _ D.TOz p5⟩,
      S1.keep _ _ _ st1' fun o e => up _ o D.i1z (k5.extBut _ _ D.TOi1.symm (k4.extBut _ _ D.i12 (k3.extBut _ _ D.TOi1.symm e))), S2.keep _ _ _ st2' fun o e => up _ o D.i2z (k5.extBut _ _ D.TOi2.symm e)⟩, fun c hc => ?_⟩
    rw [upd_ne (Nat.ne_of_lt (lt c hc))]
    exact (hf c hc).1
  done := by
    intro X hP hw hK hc i pins s σ H E I hf st hg
    subst hP hw hK
    obtain ⟨hz, hTI, ⟨a, b, hTO⟩, h1, h2⟩ := st
    have hh : X.A.in1.handled = none := I.ok.hd hc
    have ty : s.TypeIs (.ref z) "zip" := ⟨_, hz, rfl⟩
    have tz : ∀ {s' : Shared} {h' : Heap} {t' : Nat} {it : Addr}, it ∈ [z, TI, TO, i1, i2] → Inv X pins σ H s' → (∀ b o, b ≠ it → s'.heap.get? b = some o → h'.get? b = some o) → Inv X pins σ H { s' with heap := h', toks := t' } := fun {s' h' t' it} hm I' sb => by
      obtain ⟨f0, f1, f2, f3, f4, f5⟩ := hf it hm
      exact I'.turned sb f0 f1 f3 f4 f5
    have same : ∀ {it : Addr} {g h : Heap}, Heap.SameBut it g h → ∀ b o, b ≠ it → g.get? b = some o → h.get? b = some o := fun sb b o hb e => (sb.2 b hb).trans e
    refine wpAny_bind (wpAny_attempt (wpAny_callSpecial?_slot (name := Str.ofString "__next__") ty F.slot_zip_next (wpAny_call_entry F.slot_zip_next ty F.entry_zip_next (zip_draws hz hTI fun u1 q1 k1 => ?_) (F.args_zip_next_1 _))))
    have I1 : Inv X pins σ H { s with heap := u1 } := tz (it := z) (t' := s.toks) (by simp) I (same k1)
    have st1 := S1.keep i _ _ h1 fun o e => k1.extBut _ _ D.i1z e
    have ended : ∀ {g : Heap} {tk : Nat} {e : Addr}, Inv X pins σ H { s with heap := g, toks := tk } → IsZip g z TI TO .ellipsis → (∃ o, g.get? e = some o ∧ o.cls = .type "StopIteration") → IsZip g z TI TO .ellipsis ∧ ∀ g5, Heap.SameBut z g g5 →
        wpAny (model X.prog X.w) X.A ((do if ← isInstance (.ref e) (.type "StopIteration") then return none else throw (.ref e)) : Sem (Option Value)) (fun r s1 => r = none ∧ Inv X pins σ H s1) E { s with heap := g5, toks := tk } := fun {g tk e} I' q ⟨o, eo, co⟩ => ⟨q, fun g5 k5 => by
      have ne : e ≠ z := fun y => by rw [y, q] at eo; cases eo; simp at co
      exact wpAny_bind (wpAny_isInstance (T := "StopIteration") (b := true) ⟨o, k5.extBut _ _ ne eo, co⟩ isSubtype_stop (wpAny_pure ⟨rfl, tz (it := z) (s' := { s with heap := g, toks := tk }) (by simp) I' (same k5)⟩))⟩
    rcases hg with e1 | ⟨g1, e2⟩
    · exact S1.done X rfl rfl rfl _ hh i pins { s with heap := u1 } σ H _ _ I1 st1 e1 fun u2 e k2 he => ended (tk := s.toks) (tz (it := i1) (s' := { s with heap := u1 }) (by simp) I1 k2) (k2 _ _ D.i1z.symm q1) he
    · refine S1.item X rfl rfl rfl _ i pins { s with heap := u1 } σ H _ _ I1 st1 g1 fun x ux u2 t2 rx y1 st1' k2 => ⟨a, b, k2.extBut _ _ D.TOi1 (k1.extBut _ _ D.TOz hTO), fun u3 p3 k3 => ?_⟩
      have I2 : Inv X pins σ H { s with heap := u2, toks := t2 } := tz (it := i1) (s' := { s with heap := u1 }) (by simp) I1 (same k2)
      have I3 : Inv X pins σ H { s with heap := u3, toks := t2 } := tz (it := TO) (s' := { s with heap := u2, toks := t2 }) (by simp) I2 (same k3)
      refine S2.done X rfl rfl rfl _ hh i pins { s with heap := u3, toks := t2 } σ H _ _ I3 (S2.keep i _ _ h2 fun o e => k3.extBut _ _ D.TOi2.symm (k2.extBut _ _ D.i12.symm (k1.extBut _ _ D.i2z e))) e2 fun u4 e k4 he => ?_
      exact ended (tk := t2) (tz (it := i2) (s' := { s with heap := u3, toks := t2 }) (by simp) I3 k4) (k4 _ _ D.i2z.symm (k3.extBut _ _ D.TOz.symm (k2.extBut _ _ D.i1z.symm q1))) he
  self := fun _ _ _ _ _ st h => wpAny_pyIter_zip st.1 h

/-! the call of zip -/
inductive SrcV (h : Heap) : Value → Obj → Prop where
  | list {l : Addr} {xs : Array Value} (e : h.IsList l xs) : SrcV h (.ref l) { cls := .type "list_iterator", data := .fields #[.ref l, .int 0 0] }
  | tup {l : Addr} {xs : Array Value} (e : h.IsTuple l xs) : SrcV h (.ref l) { cls := .type "tuple_iterator", data := .fields #[.ref l, .int 0 0] }
  | str (y : Str) (t : Tok) : SrcV h (.str y t) (strItO y t)
theorem SrcV.keep {h h' : Heap} {u : Value} {o : Obj} (x : SrcV h u o) (k : ∀ b o, h.get? b = some o → h'.get? b = some o) : SrcV h' u o := by
  cases x with
  | list e => exact .list (e.at fun o q => k _ o q)
  | tup e => obtain ⟨o, e, r⟩ := e; exact .tup ⟨o, k _ _ e, r⟩
  | str y t => exact .str y t
theorem pyIter_src {A : Around} {E : Value → Shared → Prop} {s : Shared} {u : Value} {o : Obj} {Q : Value → Shared → Prop} (x : SrcV s.heap u o) (h : Q (.ref s.heap.objs.size) { s with heap := s.heap.push o }) : wpAny (model P w) A (pyIter u) Q E s := by
  cases x with
  | list e => exact wpAny_pyIter_list e h
  | tup e => exact wpAny_pyIter_tuple e h
  | str y t => exact pyIter_str' h
abbrev zA (h : Heap) (o1 : Obj) : Heap := h.push o1
abbrev zB (h : Heap) (o1 o2 : Obj) : Heap := (zA h o1).push o2
abbrev zC (h : Heap) (o1 o2 : Obj) : Heap := (zB h o1 o2).push { cls := .type "tuple", data := .seq #[.ref h.objs.size, .ref (zA h o1).objs.size] }
abbrev zD (h : Heap) (o1 o2 : Obj) : Heap := (zC h o1 o2).push { cls := .type "tuple", data := .seq #[.none, .none] }
abbrev zE (h : Heap) (o1 o2 : Obj) : Heap := (zD h o1 o2).push { cls := .type "zip", data := .fields #[.none, .bool false, .bool false, .ref (zB h o1 o2).objs.size, .ref (zC h o1 o2).objs.size] }
/-- a zip has been made over h: its five objects in g -/
structure Zipped (h g : Heap) (o1 o2 : Obj) (z TI TO i1 i2 : Addr) : Prop where
  zip : IsZip g z TI TO .none
  ins : IsPair g TI (.ref i1) (.ref i2)
  outs : IsPair g TO .none .none
  one : g.get? i1 = some o1
  two : g.get? i2 = some o2
  keep : ∀ c o, h.get? c = some o → g.get? c = some o
  young : ∀ c ∈ [z, TI, TO, i1, i2], h.objs.size ≤ c
  ap : ZipAp z TI TO i1 i2
theorem zipped (h : Heap) {o1 o2 : Obj} (n1 : o1.isFreed = false) (n2 : o2.isFreed = false) : Zipped h (zE h o1 o2) o1 o2 (zD h o1 o2).objs.size (zB h o1 o2).objs.size (zC h o1 o2).objs.size h.objs.size (zA h o1).objs.size := by
  have up : ∀ {g : Heap} {a : Addr} {o u : Obj}, g.get? a = some o → (g.push u).get? a = some o := fun e => Heap.get?_push_of_some _ e
  have at_ : ∀ {g : Heap} {o : Obj}, o.isFreed = false → (g.push o).get? g.objs.size = some o := fun e => Heap.get?_push_size _ e
  have sA : (zA h o1).objs.size = h.objs.size + 1 := Heap.size_push ..
  have sB : (zB h o1 o2).objs.size = h.objs.size + 2 := by rw [Heap.size_push, sA]
  have sC : (zC h o1 o2).objs.size = h.objs.size + 3 := by rw [Heap.size_push, sB]
  have sD : (zD h o1 o2).objs.size = h.objs.size + 4 := by rw [Heap.size_push, sC]
  refine ⟨at_ rfl, up (up (at_ rfl)), up (at_ rfl), up (up (up (up (at_ n1)))), up (up (up (at_ n2))), fun c o e => up (up (up (up (up e)))), fun c hc => ?_, ?_⟩
  · rw [sA, sB, sC, sD] at hc
    simp only [List.mem_cons, List.not_mem_nil, or_false] at hc
    rcases hc with e | e | e | e | e <;> (rw [e]; first | exact Nat.le_add_right _ _ | exact Nat.le_refl _)
  · rw [sA, sB, sC, sD]
    exact zipAp_of _
theorem meets_zip_src (u1 u2 : Value) (o1 o2 : Obj) :
    Meets (Builtin.«zip.__new__» ⟨[.type "zip", u1, u2], []⟩) (fun _ R s => SrcV s.heap u1 o1 ∧ SrcV s.heap u2 o2 ∧ R (.ok (.ret (.ref (zD s.heap o1 o2).objs.size))) { s with heap := zE s.heap o1 o2 }) :=
  .of_wp fun prog w A R s ⟨x1, x2, r⟩ => by
    obtain ⟨hp, g, d, tk, os⟩ := s
    have hsub := sub_zip
    have L1 : SrcV (Shared.heap ⟨hp, g, d, tk, os⟩) u1 o1 := x1
    have L2 : SrcV (Shared.heap ⟨hp.push o1, g, d, tk, os⟩) u2 o2 := x2.keep fun b o e => Heap.get?_push_of_some _ e
    wp_walk using pyIter_src L1, pyIter_src L2
    exact ⟨_, rfl, r⟩
theorem call_zip_src {A : Around} {E : Value → Shared → Prop} {s : Shared} {u1 u2 : Value} {o1 o2 : Obj} {Q : Value → Shared → Prop} (x1 : SrcV s.heap u1 o1) (x2 : SrcV s.heap u2 o2) (n1 : o1.isFreed = false) (n2 : o2.isFreed = false)
    (k : ∀ g z TI TO i1 i2, Zipped s.heap g o1 o2 z TI TO i1 i2 → Q (.ref z) { s with heap := g }) : wpAny (model P w) A (call (.type "zip") [u1, u2]) Q E s :=
  callType_new F.called_zip (by decide) (F.typeCall_zip_2 u1 u2) (F.newCall_zip_2 u1 u2) (fun obj => F.args_object_init_3 obj u1 u2) F.entry_zip_new (meets_zip_src u1 u2 o1 o2) ⟨x1, x2, ⟨_, (zipped s.heap n1 n2).zip, rfl⟩, k _ _ _ _ _ _ (zipped s.heap n1 n2)⟩
end
/-- what a zip may walk, as it stands in the abstract heap -/
inductive SrcOf (K : PySem.W.Frag) (H : Hp) : V → It → Prop where
  | list {a : Addr} {xs : List V} (h : SqL K H a xs) : SrcOf K H (.ref a) (Itl K a)
  | tup {a : Addr} {xs : List V} (h : SqT K H a xs) : SrcOf K H (.ref a) (Itt K a)
  | str (y : Str) : SrcOf K H (.str y) (Itf (vsigns y))
section
variable {X : Cx}
theorem src_of {pins : List (Addr × Obj)} {σ : L2.St} {H : Hp} {s : Shared} {v : V} {J : It} {u : Value} (I : Inv X pins σ H s) (x : SrcOf X.K H v J) (r : RelV v u) : ∃ o, SrcV s.heap u o ∧ o.isFreed = false ∧ ∀ it h', h'.get? it = some o → ∃ st, Src X.prog X.w X.K J it st ∧ st 0 h' := by
  cases x with
  | list h =>
    cases r
    obtain ⟨its, rv, p, hz⟩ := I.list h
    exact ⟨_, .list p.isList, rfl, fun it h' e => ⟨_, src_list _ it, _, e, rfl, rfl⟩⟩
  | tup h =>
    cases r
    obtain ⟨its, rv, p, hz⟩ := I.tuple h
    exact ⟨_, .tup (show s.heap.IsTuple _ its.toArray from p), rfl, fun it h' e => ⟨_, src_tuple _ it, _, e, rfl, rfl⟩⟩
  | str y =>
    obtain ⟨t, rfl⟩ := r
    exact ⟨_, .str y t, rfl, fun it h' e => ⟨_, src_str y t it, _, e, rfl, rfl⟩⟩
def iZip (K : PySem.W.Frag) (ta : TA) : TI := fun σ H R => ta σ H fun vs H1 => ∃ u v J1 J2, vs = [u, v] ∧ SrcOf K H1 u J1 ∧ SrcOf K H1 v J2 ∧ R (ItZ J1 J2) H1
theorem pi_zip {a b : Expr} {ta : TA} {p pos : Pos} {elts : List Expr} {kk : Nat} {tpos : Pos} (hg : Gl X "zip") (hm : X.mg "zip" = none) (ha : PA X [a, b] ta) (hs : starEach [a, b] X.env = [(false, eval a X.env), (false, eval b X.env)] := by rfl) (hs2 : starEach [b] X.env = [(false, eval b X.env)] := by rfl) :
    PI X (.Tuple elts kk tpos) (.Call (.Name "zip" p) [a, b] [] pos) (iZip X.K ta) := by
  constructor; intro pins s σ H R I h
  refine Call_ (ld_blt I hg hm boot_zip (PyProof.Rows.callWith_type1 (thn (ha pos pins s σ H _ I h) fun us s1 ⟨vs, H1, I1, r1, q1⟩ => ?_) (by rw [hs, hs2]) (by rw [hs2]; rfl)))
  obtain ⟨x, y, J1, J2, rfl, x1, x2, q⟩ := q1
  obtain ⟨u, w', rfl, ru, rw'⟩ := vals2 r1
  obtain ⟨o1, v1, n1, k1⟩ := src_of I1 x1 ru
  obtain ⟨o2, v2, n2, k2⟩ := src_of I1 x2 rw'
  refine call_zip_src v1 v2 n1 n2 fun g z TI TO i1 i2 Z => ?_
  obtain ⟨st1, S1, t1⟩ := k1 _ _ Z.one
  obtain ⟨st2, S2, t2⟩ := k2 _ _ Z.two
  have I2 : Inv X pins σ H1 { s1 with heap := g } := I1.kept (t' := s1.toks) Z.keep
  exact wpAny_pyIter_zip (s := { s1 with heap := g }) Z.zip ⟨z, [z, TI, TO, i1, i2], _, ItZ J1 J2, H1, rfl, I2, turn_zip Z.ap S1 S2, ⟨Z.zip, Z.ins, ⟨_, _, Z.outs⟩, t1, t2⟩, fun b hb => I1.fpOk (Z.young b hb) (I1.hok.fresh (Z.young b hb)), q⟩
end
/-- what a source gives -/
structure Gives (J : It) (H : Hp) (xs : List V) : Prop where
  go : ∀ i, i < xs.length → J.go i H
  stop : ∀ i, xs.length ≤ i → J.stop i H
  yld : ∀ i x H', J.yld i H x H' → xs[i]? = some x
theorem gives_list {K : PySem.W.Frag} {H : Hp} {a : Addr} {xs : List V} (h : SqL K H a xs) : Gives (Itl K a) H xs := ⟨fun i hi => ⟨xs, xs[i], h, by simp [hi]⟩, fun i hi => ⟨xs, h, hi⟩, fun i x H' y => y.2 xs h⟩
theorem for_zip {J1 J2 : It} {xs ys : List V} {g : TG} {tb : TS} {D : Ends} {σ : L2.St} {H : Hp} (Pv : Nat → L2.St → Hp → Prop) (h0 : Pv 0 σ H) (hl : ∀ i σ H, Pv i σ H → Gives J1 H xs ∧ Gives J2 H ys)
    (hs : ∀ i x y σ H p, xs[i]? = some x → ys[i]? = some y → Pv i σ H → H p = none → g (.ref p) σ (upd H p (.tup [x, y])) fun σ2 H2 => tb { D with nx := Pv (i + 1), ct := Pv (i + 1), bk := D.nx } σ2 H2) (hd : ∀ σ H, Pv (min xs.length ys.length) σ H → D.nx σ H) :
    ∃ W : Nat → Nat → L2.St → Hp → Prop, (∃ m, W 0 m σ H) ∧ ∀ i m σ H, W i m σ H →
      ((ItZ J1 J2).stop i H ∧ D.nx σ H) ∨ ((ItZ J1 J2).go i H ∧ ∃ N : L2.St → Hp → Prop, (∀ σ' H', N σ' H' → ∃ m', m' < m ∧ W (i + 1) m' σ' H') ∧ ∀ x H', (ItZ J1 J2).yld i H x H' → g x σ H' fun σ2 H2 => tb { D with nx := N, ct := N, bk := D.nx } σ2 H2) := by
  refine ⟨fun i m σ H => m = min xs.length ys.length - i ∧ i ≤ min xs.length ys.length ∧ Pv i σ H, ⟨min xs.length ys.length, by simp, Nat.zero_le _, h0⟩, ?_⟩
  rintro i m σ H ⟨rfl, hi, p⟩
  obtain ⟨G1, G2⟩ := hl i σ H p
  by_cases hlt : i < min xs.length ys.length
  · refine .inr ⟨⟨G1.go i (by omega), G2.go i (by omega)⟩, Pv (i + 1), fun σ' H' p' => ⟨min xs.length ys.length - (i + 1), by omega, rfl, hlt, p'⟩, fun v H' y => ?_⟩
    obtain ⟨q, x, y, y1, y2, rfl, hn, rfl⟩ := y
    exact hs i x y σ H q (G1.yld i x _ y1) (G2.yld i y _ y2) p hn
  · have e : i = min xs.length ys.length := by omega
    subst e
    refine .inl ⟨?_, hd σ H p⟩
    by_cases h : xs.length ≤ ys.length
    · exact .inl (G1.stop _ (by omega))
    · exact .inr ⟨G1.go _ (by omega), G2.stop _ (by omega)⟩
end My
/-! ### figures of a text: in, index; more of isinstance -/
namespace My
open PySem PySem.Spec PyProof.Rows L2 PySem.NumText
section
variable {X : Cx}
end
section
variable {K : PySem.W.Frag}
end
/-- a text that a message may show -/
def Short (n : Nat) (x : Str) : Prop := x.length ≤ n ∧ ∀ c ∈ x.cps.toList, c < 16 ^ 8
theorem Short.mono {n m : Nat} {x : Str} (h : Short n x) (l : n ≤ m) : Short m x := ⟨Nat.le_trans h.1 l, h.2⟩
theorem slice_mem (x : Str) (lo hi : Option Int) : ∀ c ∈ (Txt.slice x lo hi).cps.toList, c ∈ x.cps.toList := by
  intro c hc
  unfold Txt.slice at hc
  split at hc
  · exact hc
  · have hc' : c ∈ (PySem.Builtin.Str.strSliceIndices lo hi 1 x.length).filterMap (x.cps[·]?) := hc
    obtain ⟨i, _, e⟩ := List.mem_filterMap.mp hc'
    rw [← Array.getElem?_toList] at e
    exact List.mem_of_getElem? e
theorem Short.slice {n : Nat} {x : Str} (h : Short n x) (lo hi : Option Int) : Short n (Txt.slice x lo hi) := ⟨Nat.le_trans (Txt.slice_le x _ _) h.1, fun c hc => h.2 c (slice_mem x lo hi c hc)⟩
theorem Short.one {c : Nat} (h : c < 16 ^ 8) : Short 1 ⟨#[c]⟩ := by
  refine ⟨Nat.le_refl _, fun d hd => ?_⟩
  have : d = c := by simpa using hd
  rw [this]
  exact h
section
variable {X : Cx} {K : PySem.W.Frag}
theorem call_isxK (hK : X.K = K) : CallR X (.builtin "isinstance") (fun xs H Q => ∃ a C b c, xs = [V.ref a, c] ∧ H a = some (excO a C) ∧ ExcK K C ∧ ((∃ D, c = V.ref D ∧ PySem.W.kitOne K (.ref C) (.ref D) = some b) ∨ ∃ T, c = V.ty T ∧ PySem.W.kitOne K (.ref C) (.type T) = some b) ∧ Q (.bl b) H) := by
  subst hK
  exact call_isx
end
end My
/-! ### [elt for target in iter], elt any expression that raises nothing -/
namespace My
open PySem PySem.Spec PyProof.Rows L2
section
variable {X : Cx} {pins : List (Addr × Obj)} {σ : L2.St} {H : Hp} {s : Shared} {scope : Scope} {N : List Str} {C : Addr} {ex : List Addr}
end
section
variable {X : Cx} {pins : List (Addr × Obj)} {σ : L2.St} {H : Hp} {s : Shared} {scope : Scope} {N : List Str} {target iter elt : Expr} {pos : Pos} {g : TG} {te : TE}
/-- behind the block: the caller's state -/
theorem comp_after {s' : Shared} {H' : Hp} {fp : List Addr} {C : Addr} (I : Inv X pins σ H s) (hf : ∀ b ∈ fp, FpOk X pins H b) (os : s'.os = s.os) (bare : AllBare s'.gens) (un : Un (frs X.stack) fp H H' s.heap s'.heap) (hok : HOk X.prog X.w H' s'.heap) (nC : H' C = none) (hC : s.heap.objs.size ≤ C) :
    Inv X pins σ H' s' ∧ FpOk X pins H' C :=
  ⟨I.call' os un hok bare fun b hb => let ⟨_, f1, _, f3, f4, f5⟩ := hf b hb; ⟨f3, f1, f4, f5⟩, I.fpOk hC nC⟩
theorem inv_but {H' : Hp} {C : Addr} {h' : Heap} (I : Inv X pins σ H' s) (f : FpOk X pins H' C) (k : Heap.SameBut C s.heap h') : Inv X pins σ H' { s with heap := h' } :=
  let ⟨f0, f1, _, f3, f4, f5⟩ := f
  I.turned (t' := s.toks) (fun b o hb e => (k.2 b hb).trans e) f0 f1 f3 f4 f5
end
end My
/-! ### texts cut at a sign and put together again: split, join -/
namespace My
open PySem PySem.Spec PyProof.Rows L2 PySem.Builtin.Str
section
variable {X : Cx}
end
/-- a callee that raises nothing here -/
theorem passF {P : Program} {w : World} {X : Cx} : Passes (CXW P w) X (fun _ _ _ => False) := fun _ _ _ _ _ _ _ h => by
  obtain ⟨_, _, _, _, _, _, _, _, _, _, _, _, _, _, _, _, z⟩ := h
  exact z.elim
end My
/-! ### a dict of the module: D.get(e) -/
namespace My
open PySem PySem.Spec PyProof.Rows L2
structure KDict (P : Program) (w : World) (K : PySem.W.Frag) (a : Addr) (kvs : List (Key × V)) : Prop where
  get : ∀ h : Heap, K.In h → ∃ vs, KV kvs vs ∧ h.DictOf (mixKind P w) a vs
  sys : (a == sysModules) = false
inductive KEnts (w : World) : List DictEntry → List (Str × V) → Prop where
  | nil : KEnts w [] []
  | cons {x : Str} {t : Tok} {v : V} {u : Value} {es : List DictEntry} {ps : List (Str × V)} (r : RelV v u) (q : KEnts w es ps) : KEnts w ({ hash := hashStr w x, key := .str x t, val := u } :: es) ((x, v) :: ps)
end My
/-! ### str of an int or a text; a comprehension over what stays -/
namespace My
open PySem PySem.Spec PyProof.Rows L2
end My
namespace My
open PySem PySem.Spec PyProof.Rows L2
end My
/-! ### own exceptions made and kept: C(e) of a class without an __init__ -/
namespace My
open PySem PySem.Spec PyProof.Rows L2
section
variable {X : Cx}
end
end My
/-! ### exceptions with an __init__ and fields: C(..) made, S.__init__(self, ..), self.x = .., e.x -/
namespace My
open PySem
section
variable {prog : Program} {w : World} {A : Around} {E : Value → Shared → Prop} {h : Heap} {g : Array GenState} {d : Drawn} {t : Nat} {os : OsState}
variable {nm q : Str} {C N : Addr} {bs bm bmB : List Value} {hdct : Bool} {sn : List Str} {sub : List Value} {ab : Bool} {col : Option Bool} {dd : Option Addr} {k0 k1 k2 k3 k5 : Option Value} {B newId initId : String}

end
end My
namespace My
open PySem PySem.Spec PyProof.Rows L2
abbrev mroVE : List Value := [.type "ValueError", .type "Exception", .type "BaseException", .type "object"]
/-- the object at C is a class under ValueError, those between without an __init__ -/
def ExcCl (K : PySem.W.Frag) (C : Addr) : Prop := ∃ bm N nm qn bs hd sn sub ab col dd k0 k1 k2 k3 k5, K.lookup C = some (excClassObj nm qn C N bs bm hd sn sub ab col dd k0 k1 k2 k3 k5 "ValueError.__new__") ∧ ∀ h, K.In h → OwnTail h mroVE bm
section
variable {prog : Program} {w : World} {A : Around} {E : Value → Shared → Prop} {h : Heap} {g : Array GenState} {d : Drawn} {t : Nat} {os : OsState} {a C : Addr} {ox : Obj} {od : Option Obj} {K : PySem.W.Frag} {name : Str} {v : Value}
/-- what a store on an exception of the class at C asks of the class -/
structure ExcW (K : PySem.W.Frag) (C : Addr) : Prop where
  sa : PySem.W.findIn K (.ref C) "__setattr__" = some (some (.builtin "object.__setattr__"))
  hd : PySem.W.hasDictIn K C = true
  mO : PySem.W.mroIn K C (.type "object") = some true
  tl : ExcCl K C
end
end My
namespace My
open PySem PySem.Spec PyProof.Rows L2
def IsExcF (a C : Addr) (d : Option Addr) (h : Heap) : Prop := ∃ o, h.get? a = some o ∧ o.cls = .ref C ∧ o.dict = d ∧ ∃ vs t0, o.data = .fields vs ∧ vs[0]? = some (.ref t0) ∧ vs[1]? = some .none ∧ vs[2]? = some .none
abbrev IsExcD (a C dx : Addr) (h : Heap) : Prop := IsExcK a C (some dx) h
section
variable {P : Program} {w : World} {H : Hp} {h : Heap} {a C dx : Addr} {fs : List (Str × V)}
theorem IsExcF.any {h : Heap} (e : IsExcF a C (some dx) h) : IsExcD a C dx h := let ⟨o, q, c, d, vs, t0, x, _⟩ := e; ⟨o, q, c, by unfold PySem.W.notCls; rw [x], d⟩
end
section
variable {X : Cx} {pins : List (Addr × Obj)} {σ : L2.St} {H : Hp} {s : Shared} {a C dx : Addr} {fs : List (Str × V)} {A : Around} {E : Value → Shared → Prop} {f : Str} {y v : V} {u : Value}
end
section
variable {X : Cx} {o e value : Expr} {f : Str} {pos pos' : Pos} {ta tv : TE}
end
end My
namespace My
open PySem PySem.Spec PyProof.Rows L2
/-- what an exception class with an __init__ of its own must have to be made -/
structure MkX (K : PySem.W.Frag) (C f : Addr) : Prop where
  cls : ExcCl K C
  init : PySem.W.findIn K (.ref C) "__init__" = some (some (.ref f))
  fn : PySem.W.isFn K (.ref f) = true
  kp : PySem.W.keepIn K (.ref C) = true
section
variable {X : Cx} {CX : CXT} {k : Nat} {f C : Addr} {fd : FuncData} {ps : List Str} {sp : Sp} {dvs : List V} {ds : List Value} {E : XK} {x m : Str} {p pos apos : Pos} {e o : Expr} {es : List Expr} {ta : TE} {t : TA}
/-- what the class at S must have for S.m to be the builtin id -/
structure ClsB (K : PySem.W.Frag) (S : Addr) (m : Str) (id : String) : Prop where
  sp : PySem.W.specialIn K (.ref S) "__getattribute__" = some (some (.builtin "type.__getattribute__"))
  rd : PySem.W.readsIn K S (.type "type") = true
  fd : PySem.W.findCls K (.ref S) (.type "type") m = some (.val (.builtin id))
  ha : PySem.W.handedIn (.builtin id) = true
end
end My
/-! ### raise C(..), C with an __init__ of its own: what leaves the def keeps its fields -/
namespace My
open PySem PySem.Spec PyProof.Rows L2
section
variable {M : Model} {A : Around} {E : Value → Shared → Prop} {s : Shared} {env : Env} {K : PySem.W.Frag} {C : Addr}
end

/-- an object goes untracked -/
def del (H : Hp) (a : Addr) : Hp := fun b => if b = a then none else H b
theorem del_ne {H : Hp} {a b : Addr} (h : b ≠ a) : del H a b = H b := if_neg h
section
variable {X : Cx} {CX : CXT} {k : Nat} {f C : Addr} {fd : FuncData} {ps : List Str} {sp : Sp} {dvs : List V} {ds : List Value} {E : XK}
end
section
variable {P : Program} {w : World} {H H2 : Hp} {fs : List Addr} {h h' h2 : Heap} {ea : Addr} {o : HO}
end

section
variable {P : Program} {w : World} {K : PySem.W.Frag} {mg : Str → Option Value} {base : Heap} {N : List Str} {qual : Str} {scope : Scope} {f : Addr} {cd : Value} {A : Around} {outer : List Env} {s₀ : Shared} {H₀ : Hp} {E : XK}
  {pins : List (Addr × Obj)} {σ : L2.St} {H H2 : Hp} {s s2 : Shared} {h' : Heap} {ea C : Addr} {d : Option Addr}
end

section
variable {P : Program} {w : World} {K : PySem.W.Frag} {mg : Str → Option Value} {base : Heap} {N : List Str} {qual : Str} {scope : Scope} {f fI : Addr} {cd : Value} {A : Around} {outer : List Env} {s₀ : Shared} {H₀ : Hp} {E : XK}
end
end My
/-! ### try: raise C(..) / except S as e -/
namespace My
open PySem PySem.Spec PyProof.Rows L2
section
variable {M : Model} {A : Around} {E : Value → Shared → Prop} {s : Shared}
end
section
variable {X : Cx}
end
end My
/-! ### isinstance of any tracked exception, f"..{n}..", count of truths -/
namespace My
open PySem PySem.Spec PyProof.Rows L2
section
variable {X : Cx} {K : PySem.W.Frag}
theorem IsExcK.is {a C : Addr} {d : Option Addr} {h : Heap} (x : IsExcK a C d h) : IsExc a C h := let ⟨o, e, c, _⟩ := x; ⟨o, e, c⟩
theorem IsExcF.is {a C : Addr} {d : Option Addr} {h : Heap} (x : IsExcF a C d h) : IsExc a C h := let ⟨o, e, c, _⟩ := x; ⟨o, e, c⟩
end
end My
/-! ### [elt for target in iter if test], with names of the def around it (cells) -/
namespace My
open PySem PySem.Spec PyProof.Rows L2
/-- what a block closes over -/
def closOf (cells : List (Str × Addr)) : List (Str × NameKind) → List (Str × Addr) → List (Str × Addr)
  | [], acc => acc
  | (n, k) :: r, acc => if (k == NameKind.free) = true then closOf cells r ((n, (cells.lookup n).getD 0) :: acc) else closOf cells r acc
theorem closure_is {scope : Scope} {env : Env} (h : ∀ q ∈ scope.names, q.2 = .free → ∃ c, env.cells.lookup q.1 = some c) : closureFor scope env = pure (closOf env.cells scope.names []) := by
  simp only [closureFor]
  generalize ([] : List (Str × Addr)) = acc
  revert h
  generalize scope.names = names
  intro h
  induction names generalizing acc with
  | nil => rfl
  | cons q r ih =>
    obtain ⟨n, k⟩ := q
    rw [List.forIn_cons]
    by_cases hk : (k == NameKind.free) = true
    · obtain ⟨c, hc⟩ := h (n, k) List.mem_cons_self (by simpa using hk)
      have e : cellOf env n = pure c := by simp only [cellOf, hc]
      simp only [closOf, hk, if_true, e, hc, Option.getD_some, pure_bind]
      exact ih _ fun q hq => h q (List.mem_cons_of_mem _ hq)
    · simp only [closOf, hk, if_false, pure_bind, Bool.false_eq_true]
      exact ih _ fun q hq => h q (List.mem_cons_of_mem _ hq)
theorem closOf_sub {cells : List (Str × Addr)} : ∀ {names : List (Str × NameKind)} {acc : List (Str × Addr)}, (∀ q ∈ names, q.2 = .free → ∃ c, cells.lookup q.1 = some c) → (∀ x c, acc.lookup x = some c → cells.lookup x = some c) → ∀ x c, (closOf cells names acc).lookup x = some c → cells.lookup x = some c
  | [], _, _, ha => ha
  | (n, k) :: r, acc, h, ha => by
    intro x c e
    by_cases hk : (k == NameKind.free) = true
    · obtain ⟨d, hd⟩ := h (n, k) List.mem_cons_self (by simpa using hk)
      rw [closOf, if_pos hk] at e
      refine closOf_sub (fun q hq => h q (List.mem_cons_of_mem _ hq)) (fun y b q => ?_) x c e
      cases hy : y == n with
      | true =>
        rw [List.lookup_cons, hy] at q
        have ey : y = n := by simpa using hy
        subst ey
        have hd' : List.lookup y cells = some d := hd
        rw [hd'] at q ⊢
        simpa using q
      | false =>
        rw [List.lookup_cons, hy] at q
        exact ha y b q
    · rw [closOf, if_neg hk] at e
      exact closOf_sub (fun q hq => h q (List.mem_cons_of_mem _ hq)) ha x c e
theorem closOf_has {cells : List (Str × Addr)} : ∀ {names : List (Str × NameKind)} {acc : List (Str × Addr)} {x : Str}, ((x, NameKind.free) ∈ names ∨ ∃ c, acc.lookup x = some c) → ∃ c, (closOf cells names acc).lookup x = some c
  | [], _, _, h => h.elim (fun z => by cases z) id
  | (n, k) :: r, acc, x, h => by
    by_cases hk : (k == NameKind.free) = true
    · rw [closOf, if_pos hk]
      refine closOf_has ?_
      cases hx : x == n with
      | true => exact .inr ⟨_, by rw [List.lookup_cons, hx]⟩
      | false =>
        rcases h with h | ⟨c, h⟩
        · rcases List.mem_cons.mp h with z | z
          · cases z
            simp at hx
          · exact .inl z
        · exact .inr ⟨c, by rw [List.lookup_cons, hx]; exact h⟩
    · rw [closOf, if_neg hk]
      refine closOf_has ?_
      rcases h with h | h
      · rcases List.mem_cons.mp h with z | z
        · cases z
          exact absurd rfl hk
        · exact .inl z
      · exact .inr h
theorem relabel_kind {env : Env} : ∀ {names : List (Str × NameKind)} {x : Str} {k' : NameKind}, (names.map fun (n, k) => if (k == NameKind.free && env.scope.kind == .function && env.kindOf n == some .cell) then (n, NameKind.cell) else (n, k)).lookup x = some k' →
    ∃ k, names.lookup x = some k ∧ (k' = k ∨ (k = .free ∧ k' = .cell))
  | [], _, _, h => by simp at h
  | (n, k) :: r, x, k', h => by
    have ih := @relabel_kind env r x k'
    have h : List.lookup x ((if (k == NameKind.free && env.scope.kind == .function && env.kindOf n == some .cell) = true then (n, NameKind.cell) else (n, k)) :: _) = some k' := h
    cases hx : x == n with
    | true =>
      by_cases hc : (k == NameKind.free && env.scope.kind == .function && env.kindOf n == some .cell) = true
      · rw [if_pos hc, List.lookup_cons, hx] at h
        cases h
        have hk : k = .free := by
          simp only [Bool.and_eq_true] at hc
          simpa using hc.1.1
        exact ⟨k, by rw [List.lookup_cons, hx], .inr ⟨hk, rfl⟩⟩
      · rw [if_neg hc, List.lookup_cons, hx] at h
        cases h
        exact ⟨k, by rw [List.lookup_cons, hx], .inl rfl⟩
    | false =>
      obtain ⟨k2, e, q⟩ := ih (by
        by_cases hc : (k == NameKind.free && env.scope.kind == .function && env.kindOf n == some .cell) = true
        · rw [if_pos hc, List.lookup_cons, hx] at h; exact h
        · rw [if_neg hc, List.lookup_cons, hx] at h; exact h)
      exact ⟨k2, by rw [List.lookup_cons, hx]; exact e, q⟩
/-- the context of the block -/
def compCxF (X : Cx) (scope : Scope) (N : List Str) (cl : List (Str × Addr)) (C : Addr) (s₀ : Shared) (H₀ : Hp) (ex : List Addr) : Cx :=
  { X with N := N, s₀ := s₀, H₀ := H₀, env := compEnvC scope cl C X.env, outer := X.stack, stack := X.stack, ex := ex, fn := fun _ => false, pn := [], xe := fun _ _ => False }
/-- the names at the block's entry: its own have no value yet, those of the def have theirs -/
def startF (σ : L2.St) (n : Nat) (js : List Nat) : L2.St := List.replicate n none ++ js.map fun j => (σ[j]?).getD none
/-- the tests of a clause -/
def ifsOf (ifs : List Expr) (env : Env) : Sem Bool := forIn ifs true fun c r => if r = true then do let ok ← isTrue c env (eval c env); pure (ForInStep.yield ok) else pure (ForInStep.yield r)
structure PIfs (X : Cx) (ifs : List Expr) (t : TT) : Prop where
  run : ∀ (pins : List (Addr × Obj)) (s : Shared) (σ : L2.St) (H : Hp) (Q : Bool → Hp → Prop), Inv X pins σ H s → t σ H Q → wpAny (model X.prog X.w) X.A (ifsOf ifs X.env) (TP X pins σ Q) X.xe s
def tYes : TT := fun _ H Q => Q true H
theorem pf_nil {X : Cx} : PIfs X [] tYes := ⟨fun pins s σ H Q I h => wpAny_tests_nil ⟨H, I, h⟩⟩
theorem pf_one {X : Cx} {c : Expr} {t : TT} (h : PT X c t) : PIfs X [c] t := ⟨fun pins s σ H Q I q => wpAny_tests_one (h pins s σ H Q I q)⟩
/-- scope and names fit: fv are names of the def (its cells), at the places js of its own names -/
structure CompSc (X : Cx) (scope : Scope) (fv : List Str) (js : List Nat) : Prop where
  kind : scope.kind = .function
  cell : ∀ q ∈ scope.names, q.2 ≠ .cell
  names : ∀ q ∈ scope.names, q.2 = .local → scope.names.lookup q.1 = some .local
  free : ∀ q ∈ scope.names, q.2 = .free → q.1 ∈ fv
  out : ∀ x ∈ fv, X.env.kindOf x = some .cell ∨ X.env.kindOf x = some .free
  at' : js.map (fun j => X.N[j]?) = fv.map some
  fr : ∀ x ∈ fv, scope.names.lookup x = some .free
section
variable {X : Cx} {pins : List (Addr × Obj)} {σ : L2.St} {H : Hp} {s : Shared} {scope : Scope} {N : List Str} {C : Addr} {ex : List Addr} {cl : List (Str × Addr)} {fv tg : List Str} {js : List Nat}
theorem CompSc.clos (S : CompSc X scope fv js) (ok : X.Ok) : closureFor scope X.env = pure (closOf X.env.cells scope.names []) := closure_is fun q hq e => ok.has q.1 (S.out q.1 (S.free q hq e))
theorem CompSc.sub (S : CompSc X scope fv js) (ok : X.Ok) : ∀ x c, (closOf X.env.cells scope.names []).lookup x = some c → X.env.cells.lookup x = some c :=
  closOf_sub (fun q hq e => ok.has q.1 (S.out q.1 (S.free q hq e))) (fun x c e => by cases e)
theorem comp_okF (I : Inv X pins σ H s) (S : CompSc X scope fv js) (hC : s.heap.objs.size ≤ C)
    (hf : ∀ b ∈ ex, FpOk X pins H b) (ho : ∀ b ∈ ex, ∃ o, s.heap.get? b = some o) : (compCxF X scope N (closOf X.env.cells scope.names []) C s H ex).Ok := by
  have sub := S.sub I.ok
  refine ⟨I.ok.mod, S.kind, I.ok.glob, I.ok.blt, hC, fun x y c e1 e2 => I.ok.inj x y c (sub x c e1) (sub y c e2), fun x hx => ?_, fun x c z _ => Bool.noConfusion z, I.ok.hd, I.ok.frames, .inl rfl, fun b hb => ⟨?_, fun x c e => ?_⟩, I.bs, Nat.le_trans I.ok.bsz I.sz, fun b o e hb => ?_, fun b hb hm => ?_, I.stack, I.stkFree⟩
  · have e : ∃ k', (relabel scope X.env).names.lookup x = some k' ∧ (k' = .cell ∨ k' = .free) := by
      rcases hx with z | z
      · exact ⟨_, z, .inl rfl⟩
      · exact ⟨_, z, .inr rfl⟩
    obtain ⟨k', e, hk⟩ := e
    obtain ⟨k, e2, q⟩ := relabel_kind e
    have hk2 : k = .free := by
      rcases q with rfl | ⟨rfl, _⟩
      · rcases hk with rfl | rfl
        · exact absurd rfl (S.cell _ (PySem.mem_of_lookup e2))
        · rfl
      · rfl
    subst hk2
    exact closOf_has (.inl (PySem.mem_of_lookup e2))
  · obtain ⟨o, e⟩ := ho b hb
    exact Nat.ne_of_lt (Nat.lt_of_lt_of_le (Heap.lt_size e) hC)
  · obtain ⟨_, _, _, _, q, _⟩ := hf b hb
    exact q x c (sub x c e)
  · obtain ⟨_, _, _, q, _⟩ := hf b hb
    rcases q with q | q
    · exact I.ok.noex b o e q
    · exact absurd (Nat.lt_of_lt_of_le (Heap.lt_size e) (Nat.le_trans I.ok.bsz q)) (Nat.lt_irrefl _)
  · obtain ⟨_, q1, q2, _⟩ := hf b hb
    rcases List.mem_cons.mp (I.stkSub b hm) with z | z
    · exact q1 z
    · exact q2 z
theorem comp_startF {D : Addr} {h' : Heap} {t' : Nat} {m : Str → Option Value} (I : Inv X pins σ H s) (S : CompSc X scope fv js) (ok : (compCxF X scope (tg ++ fv) (closOf X.env.cells scope.names []) C s H ex).Ok) (hk : ∀ b o, s.heap.get? b = some o → h'.get? b = some o) (hD : s.heap.get? D = none) (hC : s.heap.get? C = none) (hDC : D ≠ C)
    (hl : h'.get? D = some { cls := .type "list", data := .seq #[] }) (hn : h'.Ns C m) : Inv (compCxF X scope (tg ++ fv) (closOf X.env.cells scope.names []) C s H ex) [] (startF σ tg.length js) (upd H D (.lst [])) { s with heap := h', toks := t' } := by
  have nD := inv_none I hD
  have neD : ∀ b u, s.heap.get? b = some u → b ≠ D := fun b u e z => by rw [z, hD] at e; cases e
  have sub := S.sub I.ok
  have cellK : ∀ c v, s.heap.IsCell c v → h'.IsCell c v := fun c v ⟨o, ho, hd⟩ => ⟨o, hk c o ho, hd⟩
  have hlen : js.length = fv.length := by have := congrArg List.length S.at'; simpa using this
  refine ⟨ok, rfl, I.bare, ⟨fun b u q _ _ _ => hk b u q, fun b u q _ _ _ => ⟨u.slots, hk b u q⟩, fun b u q n _ => by rw [upd_ne (neD b u q)]; exact n, fun b u q _ => ⟨u, hk b u q⟩, fun b xs q => by rw [upd_ne (ne_of_none q nD)]; exact q,
    fun b u xs q => by rw [upd_ne (ne_of_none q nD)]; exact q, fun b ps (q : H b = _) => ⟨#[], by rw [upd_ne (ne_of_none q nD), q]; simp⟩⟩, ⟨m, hn, fun i x v e1 e2 e3 => ?_⟩, fun x c e => ?_, ?_, fun x c e => ?_, fun p hp => (by cases hp), fun b u e => ?_, by simp [compCxF, startF, hlen]⟩
  · have e1 : (tg ++ fv)[i]? = some x := e1
    rcases Nat.lt_or_ge i tg.length with hi | hi
    · rw [startF, List.getElem?_append_left (by simpa using hi), List.getElem?_replicate, if_pos hi] at e2
      cases e2
    · rw [List.getElem?_append_right hi] at e1
      rw [startF, List.getElem?_append_right (by simpa using hi), List.length_replicate, List.getElem?_map] at e2
      obtain ⟨j, hj, e2⟩ := Option.map_eq_some_iff.mp e2
      have hσ : σ[j]? = some (some v) := by
        cases q : σ[j]? with
        | none => rw [q] at e2; cases e2
        | some z => rw [q] at e2; exact congrArg some e2
      have hN : X.N[j]? = some x := by
        have q := congrArg (fun l => l[i - tg.length]?) S.at'
        simp only [List.getElem?_map, hj, e1, Option.map_some] at q
        exact Option.some.inj q
      have hx : x ∈ fv := List.mem_of_getElem? e1
      have ko := S.out x hx
      obtain ⟨m0, _, hl0⟩ := I.loc
      have vis : Vis X.env.scope x := ko.elim (fun z => .inr (.inl z)) fun z => .inr (.inr z)
      obtain ⟨u, ru, lk⟩ := hl0 j x v hN hσ vis
      obtain ⟨c, hc, hcell⟩ : ∃ c, X.env.cells.lookup x = some c ∧ s.heap.IsCell c (some u) := by
        rcases lk with ⟨z, _⟩ | ⟨_, q⟩
        · rcases ko with y | y <;> (rw [y] at z; cases z)
        · exact q
      obtain ⟨c2, hc2⟩ : ∃ c2, (closOf X.env.cells scope.names []).lookup x = some c2 := closOf_has (.inl (PySem.mem_of_lookup (S.fr x hx)))
      have ec : c2 = c := by have := sub x c2 hc2; rw [hc] at this; exact (Option.some.inj this).symm
      subst ec
      refine ⟨u, ru, .inr ⟨?_, c2, hc2, cellK _ _ hcell⟩⟩
      have e3 : (relabel scope X.env).names.lookup x = some .local ∨ (relabel scope X.env).names.lookup x = some .cell ∨ (relabel scope X.env).names.lookup x = some .free := e3
      rcases e3 with z | z | z
      · obtain ⟨k, ek, q⟩ := relabel_kind z
        rw [S.fr x hx] at ek
        cases ek
        rcases q with q | ⟨_, q⟩ <;> cases q
      · exact .inl z
      · exact .inr z
  · obtain ⟨v, z⟩ := I.cell x c (sub x c e)
    exact ⟨v, cellK c v z⟩
  · show upd H D (.lst []) C = none
    rw [upd_ne (Ne.symm hDC)]
    exact inv_none I hC
  · obtain ⟨v, o, ho, _⟩ := I.cell x c (sub x c e)
    rw [upd_ne (neD c o ho)]
    exact I.freeC x c (sub x c e)
  · by_cases hb : b = D
    · subst hb
      rw [upd_same] at e
      cases e
      exact ⟨Nat.zero_le _, [], _, .nil, hl⟩
    · rw [upd_ne hb] at e
      exact (I.hok b u e).stay (fun c v _ q => hk c v q) (fun c q => by rw [upd_ne (ne_of_none q nD)]; exact q) fun c xs q => by rw [upd_ne (ne_of_none q nD)]; exact q
end
theorem comp_loopF {prog : Program} {w : World} {A : Around} {s : Shared} {R : Result → Shared → Prop} {elt target iter : Expr} {ifs : List Expr} {scope : Scope} {pos : Pos} {it acc : Value} {env : Env} (I : Nat → Shared → Prop)
    (turn : ∀ n s, I n s → wpAny (model prog w) A (pyNext it) (fun r s1 => (r = none ∧ R (.ok .next) s1) ∨ ∃ v, r = some v ∧ wpAny (model prog w) A (letOwnedTupleGo target it v) (fun _ s2 => wpAny (model prog w) A (assign target env v) (fun _ s3 =>
      wpAny (model prog w) A (ifsOf ifs env) (fun ok s4 => if ok = true then wpAny (model prog w) A (eval elt env) (fun x s5 => wpAny (model prog w) A (call (.builtin "list.append") [acc, x]) (fun _ s6 => ∃ m, m < n ∧ I m s6) (fun _ _ => False) s5) (fun _ _ => False) s4
        else ∃ m, m < n ∧ I m s4) (fun _ _ => False) s3) (fun _ _ => False) s2) (fun _ _ => False) s1) (fun _ _ => False) s)
    (n : Nat) (h : I n s) : codeAny (model prog w) A (.compLoop (.ListComp elt [⟨target, iter, ifs, 0⟩] scope pos) 0 it acc env) R s := by
  have no : ∀ {α : Type} {E : Value → Shared → Prop} {t : Sem α} {Q : α → Shared → Prop} {u : Shared}, wpAny (model prog w) A t Q (fun _ _ => False) u → wpAny (model prog w) A t Q E u := fun z => wpAny_mono z (fun _ _ q => q) fun _ _ q => q.elim
  refine codeAny_loop rfl I (fun n s hI => wpAny_noted ?_) n h
  rw [compTurn_list]
  refine wpAny_bind (wpAny_standAt (wpAny_bind (wpAny_mono (turn n s hI) (fun r s1 q => ?_) fun _ _ z => z.elim)))
  rcases q with ⟨rfl, q⟩ | ⟨v, rfl, q⟩
  · exact wpAny_pure q
  · refine wpAny_bind (no (thn q fun _ s2 q2 => wpAny_bind (no (thn q2 fun _ s3 q3 => wpAny_bind (no (thn q3 fun ok s4 q4 => ?_))))))
    cases ok with
    | false => exact wpAny_pure ⟨rfl, q4⟩
    | true => exact wpAny_bind (wpAny_bind (no (thn q4 fun x s5 q5 => wpAny_bind (no (thn q5 fun _ s6 q6 => wpAny_pure (wpAny_pure ⟨rfl, q6⟩))))))
def compQF (σ0 : L2.St) (J : It) (g : TG) (tc : TT) (te : TE) (Q : VK) (H1 : Hp) : Prop := ∀ D, H1 D = none → ∃ W : Nat → Nat → List V → L2.St → Hp → Prop, (∃ m, W 0 m [] σ0 (upd H1 D (.lst []))) ∧ ∀ i m ys τ H, W i m ys τ H → H D = some (.lst ys) ∧
  ((J.stop i H ∧ Q (.ref D) H) ∨ (J.go i H ∧ ys.length < sizeLine ∧ ∀ v H', J.yld i H v H' → g v τ H' fun τ2 H2 => tc τ2 H2 fun ok H3 => if ok = true then te τ2 H3 fun y H4 => H4 D = some (.lst ys) ∧ ∃ m', m' < m ∧ W (i + 1) m' (ys ++ [y]) τ2 (upd H4 D (.lst (ys ++ [y])))
    else ∃ m', m' < m ∧ W (i + 1) m' ys τ2 H3))
section
variable {X : Cx} {pins : List (Addr × Obj)} {σ : L2.St} {H : Hp} {s : Shared} {scope : Scope} {fv : List Str} {js : List Nat} {target iter elt : Expr} {ifs : List Expr} {pos : Pos} {g : TG} {tc : TT} {te : TE}
theorem comp_blockF {E : Value → Shared → Prop} {J : It} {fp : List Addr} {it : Addr} {tn : Nat → Heap → Prop} {Q : VK} {RR : Value → Addr → Result → Shared → Prop} (tg : List Str) (I : Inv X pins σ H s) (hc : X.calm = true)
    (S : CompSc X scope fv js) (T : Turn X.prog X.w X.K target J fp it tn) (st : tn 0 s.heap) (hf : ∀ b ∈ fp, FpOk X pins H b)
    (hg : ∀ cl C s₀ H₀ ex, PG (compCxF X scope (tg ++ fv) cl C s₀ H₀ ex) target g) (hi : ∀ cl C s₀ H₀ ex, PIfs (compCxF X scope (tg ++ fv) cl C s₀ H₀ ex) ifs tc) (he : ∀ cl C s₀ H₀ ex, PE (compCxF X scope (tg ++ fv) cl C s₀ H₀ ex) elt te) (q : compQF (startF σ tg.length js) J g tc te Q H)
    (hRR : ∀ D C H' s' m, s'.os = s.os → AllBare s'.gens → Un (frs X.stack) fp H H' s.heap s'.heap → HOk X.prog X.w H' s'.heap → s'.heap.Ns C m → H' C = none → s.heap.objs.size ≤ C → Q (.ref D) H' → RR (.ref D) C (.ok .next) s') :
    wpAny (model X.prog X.w) X.A (newList []) (fun acc s3 => wpAny (model X.prog X.w) X.A (newFunctionEnv scope X.env.globals (closOf X.env.cells scope.names []) [] X.env.qual none .none (some X.env)) (fun cenv s4 =>
      codeAny (model X.prog X.w) X.A (.compStart (.ListComp elt [⟨target, iter, ifs, 0⟩] scope pos) 0 (.ref it) acc { cenv with scope := relabel scope X.env }) (RR acc cenv.locals) s4) E s3) E s := by
  refine wpAny_newObj_type (wpAny_newFunctionEnv S.cell (by intro y hy; simp at hy) (fun h1 hn k1 => ?_) S.kind)
  dsimp only at hn k1 ⊢
  generalize hg2 : s.heap.push { cls := .type "list", dict := none, data := .seq ([] : List Value).toArray } = g2 at hn k1 ⊢
  have hC : g2.objs.size = s.heap.objs.size + 1 := by rw [← hg2, Heap.size_push]
  have hDC : s.heap.objs.size ≠ g2.objs.size := by rw [hC]; exact Nat.ne_of_lt (Nat.lt_succ_self _)
  have hle : s.heap.objs.size ≤ g2.objs.size := by rw [hC]; exact Nat.le_succ _
  have nD : s.heap.get? s.heap.objs.size = none := Heap.get?_none_of_le (Nat.le_refl _)
  have nC : s.heap.get? g2.objs.size = none := Heap.get?_none_of_le hle
  have old : ∀ b o, s.heap.get? b = some o → h1.get? b = some o := fun b o e => k1.extBut b o (Nat.ne_of_lt (Nat.lt_of_lt_of_le (Heap.lt_size e) hle)) (Heap.get?_push_of_some _ (hg2 ▸ Heap.get?_push_of_some _ e))
  have hl : h1.get? s.heap.objs.size = some { cls := .type "list", data := .seq #[] } := k1.extBut _ _ hDC (Heap.get?_push_of_some _ (hg2 ▸ Heap.get?_push_size _ rfl))
  have ob := T.obj 0 s.heap st
  generalize hcl : closOf X.env.cells scope.names [] = cl
  have ok : (compCxF X scope (tg ++ fv) cl g2.objs.size s H fp).Ok := hcl ▸ comp_okF I S hle hf fun b hb => let ⟨o, e, _⟩ := ob b hb; ⟨o, e⟩
  have I0 : Inv (compCxF X scope (tg ++ fv) cl g2.objs.size s H fp) [] (startF σ tg.length js) (upd H s.heap.objs.size (.lst [])) { s with heap := h1, toks := s.toks + ([] : List (Str × Value)).length } := by
    subst hcl
    exact comp_startF I S ok old nD nC hDC hl hn
  have st1 : tn 0 h1 := T.keep 0 _ _ st fun b _ o e => old b o e
  obtain ⟨W, ⟨m0, w0⟩, turn⟩ := q _ (inv_none I nD)
  have fpok : ∀ {H' : Hp} {ps : List (Addr × Obj)}, (∀ p ∈ ps, p.1 ∉ fp) → (∀ b ∈ fp, H' b = none) → ∀ b ∈ fp, FpOk (compCxF X scope (tg ++ fv) cl g2.objs.size s H fp) ps H' b := fun hps hn b hb => ⟨hn b hb, (ok.exf b hb).1, ok.exfs b hb, .inl hb, (ok.exf b hb).2, fun p hp z => hps p hp (z ▸ hb)⟩
  have loop : codeAny (model X.prog X.w) X.A (.compLoop (.ListComp elt [⟨target, iter, ifs, 0⟩] scope pos) 0 (.ref it) (.ref s.heap.objs.size) (compEnvC scope cl g2.objs.size X.env)) (RR (.ref s.heap.objs.size) g2.objs.size) { s with heap := h1, toks := s.toks + ([] : List (Str × Value)).length } := by
    refine comp_loopF (fun n s' => ∃ i ys τ H', Inv (compCxF X scope (tg ++ fv) cl g2.objs.size s H fp) [] τ H' s' ∧ tn i s'.heap ∧ (∀ b ∈ fp, H' b = none) ∧ W i n ys τ H') (fun n s' hI => ?_) m0 ⟨0, [], _, _, I0, st1, fun b hb => ?_, w0⟩
    · obtain ⟨i, ys, τ, H', I1, t1, f1, w1⟩ := hI
      obtain ⟨hD, w1⟩ := turn i n ys τ H' w1
      rcases w1 with ⟨stop, qn⟩ | ⟨go, hz, step⟩
      · refine thn (T.done (compCxF X scope (tg ++ fv) cl g2.objs.size s H fp) rfl rfl rfl hc i [] s' τ H' _ I1 (fpok (by simp) f1) t1 stop) fun r s2 ⟨hr, I2⟩ => .inl ⟨hr, ?_⟩
        obtain ⟨m, hn2, _⟩ := I2.loc
        exact hRR _ _ H' s2 m I2.os I2.bare I2.base I2.hok hn2 I2.free hle qn
      · refine thn (T.item (compCxF X scope (tg ++ fv) cl g2.objs.size s H fp) rfl rfl rfl hc i [] s' τ H' _ I1 (fpok (by simp) f1) t1 go) fun r s2 ⟨u, hr, h2⟩ => .inr ⟨u, hr, thn h2 fun _ s3 ⟨x, H3, I3, r3, y3, t3, f3⟩ => ?_⟩
        have I3' := I3.pinned (fpok (by simp) f3) (T.obj _ _ t3)
        have back : ∀ {s6 : Shared} {τ4 : L2.St} {H6 : Hp}, Inv (compCxF X scope (tg ++ fv) cl g2.objs.size s H fp) ([] ++ pinsAt fp s3.heap) τ4 H6 s6 → tn (i + 1) s6.heap ∧ ∀ b ∈ fp, H6 b = none := fun I6 =>
          ⟨T.keep _ _ _ t3 fun b hb o e => (I6.pin (b, o) (List.mem_append_right _ (List.mem_append_right _ (mem_pinsAt hb e)))).1, fun b hb => by
            obtain ⟨o, e, _⟩ := T.obj _ _ t3 b hb
            exact (I6.pin (b, o) (List.mem_append_right _ (List.mem_append_right _ (mem_pinsAt hb e)))).2.1⟩
        refine thn ((hg _ _ _ _ _) _ s3 τ H3 x u _ I3' r3 (step x H3 y3)) fun _ s4 ⟨τ4, H4, I4, q4⟩ => ?_
        refine thn ((hi _ _ _ _ _).run _ s4 τ4 H4 _ I4 q4) fun b s5 ⟨H5, I5, q5⟩ => ?_
        cases b with
        | false =>
          obtain ⟨m', hm, w5⟩ := (show ∃ m', m' < n ∧ W (i + 1) m' ys τ4 H5 from q5)
          obtain ⟨b1, b2⟩ := back I5
          exact ⟨m', hm, i + 1, _, τ4, _, I5.unpinned, b1, b2, w5⟩
        | true =>
          refine thn ((he _ _ _ _ _) _ s5 τ4 H5 _ I5 q5) fun z s6 ⟨y, H6, I6, r6, hD6, m', hm, w6⟩ => ?_
          refine thn (mt_append _ s6 τ4 H6 (.ref s.heap.objs.size) [y] (.ref s.heap.objs.size) [z] (fun _ H7 => H7 = upd H6 s.heap.objs.size (.lst (ys ++ [y]))) I6 rfl (.cons r6 .nil) ⟨_, ys, y, rfl, rfl, hD6, hz, rfl⟩) fun _ s7 ⟨v7, H7, I7, _, e7⟩ => ?_
          subst e7
          obtain ⟨b1, b2⟩ := back I7
          exact ⟨m', hm, i + 1, _, τ4, _, I7.unpinned, b1, b2, w6⟩
    · obtain ⟨o, e, _⟩ := ob b hb
      rw [upd_ne (Nat.ne_of_lt (Heap.lt_size e))]
      exact (hf b hb).1
  exact codeAny_compStart_list loop (T.self _ 0 _ _ _ st1 loop)
def tCompF (n : Nat) (js : List Nat) (wi : TI) (g : TG) (tc : TT) (te : TE) : TE := fun σ H Q => wi σ H fun J H1 => compQF (startF σ n js) J g tc te Q H1
theorem pe_compF {wi : TI} (tg : List Str) (hc : X.calm = true) (S : CompSc X scope fv js) (hi : PI X target iter wi)
    (hg : ∀ cl C s₀ H₀ ex, PG (compCxF X scope (tg ++ fv) cl C s₀ H₀ ex) target g) (hf : ∀ cl C s₀ H₀ ex, PIfs (compCxF X scope (tg ++ fv) cl C s₀ H₀ ex) ifs tc) (he : ∀ cl C s₀ H₀ ex, PE (compCxF X scope (tg ++ fv) cl C s₀ H₀ ex) elt te) (hs : ∀ x, foldedSetIterable iter X.env x = pure x := by intro _; rfl) :
    PE X (.ListComp elt [⟨target, iter, ifs, 0⟩] scope pos) (tCompF tg.length js wi g tc te) := by
  constructor; intro pins s σ H Q I h
  rw [eval_ListComp]
  refine wpAny_comprehension_free (use := none) rfl hs (S.clos I.ok) S.kind S.names (thn (hi pins s σ H _ I h) fun v s1 h1 => thn h1 fun itv s2 h2 => ?_)
  obtain ⟨it, fp, tn, J, H2, rfl, I2, T, st2, f2, q⟩ := h2
  refine comp_blockF (RR := fun acc C => compPost (model X.prog X.w) X.A X.xe none (EP X pins σ Q) acc C) tg I2 hc S T st2 f2 hg hf he q fun D C H' s' m os bare un hok hn nC hC qq => ⟨m, hn, fun h' k => ?_⟩
  obtain ⟨IX, fC⟩ := comp_after I2 f2 os bare un hok nC hC
  exact ⟨.ref D, H', inv_but IX fC k, rfl, qq⟩
end
theorem allc_nil {α : Type} {P : α → Prop} : ∀ x ∈ ([] : List α), P x := fun _ h => by cases h
theorem allc_cons {α : Type} {P : α → Prop} {a : α} {l : List α} (h : P a) (t : ∀ x ∈ l, P x) : ∀ x ∈ a :: l, P x := fun x hx => by
  rcases List.mem_cons.mp hx with e | e
  · exact e ▸ h
  · exact t x e
theorem ix_listK {X : Cx} {K : PySem.W.Frag} (hK : X.K = K) : IxR X (rIxL K) := hK ▸ ix_list
/-- what is gathered: of each turn one element, or none -/
theorem compQF_map {σ0 fs : L2.St} {k : Nat} {J : It} {g : TG} {tc : TT} {te : TE} {Q : VK} {H1 : Hp} (n : Nat) (f : Nat → Option V) (h0 : σ0 = List.replicate k none ++ fs) (hz : n ≤ sizeLine) (hgo : ∀ i H, Same H1 H → i < n → J.go i H) (hstop : ∀ H, Same H1 H → J.stop n H)
    (step : ∀ i H (ts : L2.St) v H' (R : Option V → L2.St → Hp → Prop), Same H1 H → i < n → ts.length = k → J.yld i H v H' → (∀ (ts2 : L2.St) H3, ts2.length = k → Same H H3 → R (f i) (ts2 ++ fs) H3) →
      g v (ts ++ fs) H' fun τ2 H2 => tc τ2 H2 fun ok H3 => if ok = true then te τ2 H3 fun y H4 => R (some y) τ2 H4 else R none τ2 H3)
    (fin : ∀ D H', H1 D = none → Same H1 H' → H' D = some (.lst ((List.range n).filterMap f)) → Q (.ref D) H') : compQF σ0 J g tc te Q H1 := by
  intro D hD
  refine ⟨fun i m ys τ H => m = n - i ∧ i ≤ n ∧ ys = (List.range i).filterMap f ∧ (∃ ts : L2.St, ts.length = k ∧ τ = ts ++ fs) ∧ Same H1 H ∧ H D = some (.lst ys), ⟨n, rfl, Nat.zero_le _, rfl, ⟨_, List.length_replicate, h0⟩, Same.upd hD, upd_same⟩, ?_⟩
  rintro i m ys τ H ⟨rfl, hi, rfl, ⟨ts, ht, rfl⟩, ss, hd⟩
  refine ⟨hd, ?_⟩
  by_cases hlt : i < n
  · have hl : ((List.range i).filterMap f).length < sizeLine := Nat.lt_of_le_of_lt (List.length_filterMap_le _ _) (by rw [List.length_range]; omega)
    refine .inr ⟨hgo i H ss hlt, hl, fun v H' y => step i H ts v H' (fun o τ2 H3 => match o with
      | some y => H3 D = some (.lst ((List.range i).filterMap f)) ∧ ∃ m', m' < n - i ∧ m' = n - (i + 1) ∧ i + 1 ≤ n ∧ (List.range i).filterMap f ++ [y] = (List.range (i + 1)).filterMap f ∧ (∃ ts : L2.St, ts.length = k ∧ τ2 = ts ++ fs) ∧ Same H1 (upd H3 D (.lst ((List.range i).filterMap f ++ [y]))) ∧ upd H3 D (.lst ((List.range i).filterMap f ++ [y])) D = some (.lst ((List.range i).filterMap f ++ [y]))
      | none => ∃ m', m' < n - i ∧ m' = n - (i + 1) ∧ i + 1 ≤ n ∧ (List.range i).filterMap f = (List.range (i + 1)).filterMap f ∧ (∃ ts : L2.St, ts.length = k ∧ τ2 = ts ++ fs) ∧ Same H1 H3 ∧ H3 D = some (.lst ((List.range i).filterMap f))) ss hlt ht y fun ts2 H3 h2 s3 => ?_⟩
    cases e : f i with
    | none =>
      refine ⟨n - (i + 1), by omega, rfl, hlt, ?_, ⟨ts2, h2, rfl⟩, ss.trans s3, s3 _ _ hd⟩
      rw [List.range_succ, List.filterMap_append]
      simp [e]
    | some y =>
      refine ⟨s3 _ _ hd, n - (i + 1), by omega, rfl, hlt, ?_, ⟨ts2, h2, rfl⟩, (ss.trans s3).again hD, upd_same⟩
      rw [List.range_succ, List.filterMap_append]
      simp [e]
  · have e : i = n := by omega
    subst e
    exact .inl ⟨hstop H ss, fin D H hD ss hd⟩
end My
/-! ### dicts: d.setdefault(k, x), sorted(d); any(xs); forms for a block's context -/
namespace My
open PySem PySem.Spec PyProof.Rows L2
section
variable {X : Cx} {pins : List (Addr × Obj)} {σ : L2.St} {H : Hp} {s : Shared} {a : Addr} {kvs : List (Key × V)} {k : Key} {u r : Value} {d : V} {A : Around} {E : Value → Shared → Prop}
end
section
variable {X : Cx} {o e f : Expr} {td ty tx : TE} {apos cpos : Pos}
/-- two risen lists of the same numbers are one -/
theorem risen_one : ∀ {a b : List Int}, a.Perm b → a.Pairwise (· ≤ ·) → b.Pairwise (· ≤ ·) → a = b
  | [], _, p, _, _ => (List.nil_perm.mp p).symm
  | x :: r, b, p, ha, hb => by
    cases b with
    | nil => exact absurd (List.perm_nil.mp p) (by simp)
    | cons y t =>
      rw [List.pairwise_cons] at ha hb
      have h1 : x ≤ y := by
        rcases List.mem_cons.mp (p.symm.subset List.mem_cons_self) with e | e
        · omega
        · exact ha.1 y e
      have h2 : y ≤ x := by
        rcases List.mem_cons.mp (p.subset List.mem_cons_self) with e | e
        · omega
        · exact hb.1 x e
      have e : x = y := by omega
      subst e
      rw [risen_one ((List.perm_cons x).mp p) ha.2 hb.2]
/-- the numbers risen -/
def risen (ks : List Int) : List Int := ks.mergeSort (· ≤ ·)
theorem risen_perm (ks : List Int) : (risen ks).Perm ks := List.mergeSort_perm ks _
theorem risen_rises (ks : List Int) : (risen ks).Pairwise (· ≤ ·) := by
  have := List.pairwise_mergeSort (le := fun a b : Int => decide (a ≤ b)) (fun a b c h1 h2 => by simp only [decide_eq_true_eq] at *; omega) (fun a b => by simp only [Bool.or_eq_true, decide_eq_true_eq]; omega) ks
  exact this.imp fun h => by simpa using h
theorem risen_is {ks ks' : List Int} (p : ks'.Perm ks) (h : ks'.Pairwise (· ≤ ·)) : ks' = risen ks := risen_one (p.trans (risen_perm ks).symm) h (risen_rises ks)
theorem ints_vals : ∀ {us : List Value} {ns : List Int}, IntsAre us ns → Vals (ns.map V.int) us
  | _, _, .nil => .nil
  | _, _, .cons _ _ t => .cons ⟨_, rfl⟩ (ints_vals t)
theorem intsAre_of : ∀ {us : List Value} {ns : List Int}, us.length = ns.length → (∀ (j : Nat) (v : Value), us[j]? = some v → ∃ n t, ns[j]? = some n ∧ v = Value.int n t) → IntsAre us ns
  | [], [], _, _ => .nil
  | [], _ :: _, h, _ => by simp at h
  | _ :: _, [], h, _ => by simp at h
  | u :: us, n :: ns, h, hv => by
    obtain ⟨m, t, e, rfl⟩ := hv 0 u rfl
    cases (show some n = some m from e)
    exact .cons _ _ (intsAre_of (by simpa using h) fun j v e => hv (j + 1) v (by simpa using e))
end
section
variable {K : PySem.W.Frag}
theorem kit_ll : PySem.W.kitOne K (.type "list") (.type "list") = some true := by
  show (if (Value.type "list" == Value.type "list") = true then some true else if PySem.W.kitMeta "list" = true then (fastBuiltinMro "list").map (·.contains (Value.type "list")) else none) = some true
  decide +kernel
end
theorem dts_ints {K : PySem.W.Frag} {H : Hp} : ∀ ms : List Int, Dts K H (ms.map V.int) (ms.map PyData.int)
  | [] => .nil
  | m :: r => .cons (.int m) (dts_ints r)
/-- xs.append(y): the heap behind it by what it has -/
def rAppendA : V → List V → Hp → VK → Prop := fun x vs H Q => ∃ l xs y, x = .ref l ∧ vs = [y] ∧ H l = some (.lst xs) ∧ xs.length < sizeLine ∧ ∀ H', H' l = some (.lst (xs ++ [y])) → (∀ b o, b ≠ l → H b = some o → H' b = some o) → Q .non H'
theorem mt_appendA {X : Cx} : MtM X "list.append" rAppendA := by
  intro pins s σ H x vs v us Q I rx rv h
  obtain ⟨l, xs, y, ex, ev, hH, hz, q⟩ := h
  exact mt_append pins s σ H x vs v us Q I rx rv ⟨l, xs, y, ex, ev, hH, hz, q _ upd_same fun b o n e => by rw [upd_ne n]; exact e⟩
/-- xs[i] = v: the heap behind it by what it has -/
def rSetA : V → V → V → Hp → (Hp → Prop) → Prop := fun o i v H Q => ∃ p xs k j, o = .ref p ∧ i = .int k ∧ H p = some (.lst xs) ∧ ixN xs.length k = some j ∧ ∀ H', H' p = some (.lst (xs.set j v)) → (∀ b o, b ≠ p → H b = some o → H' b = some o) → Q H'
theorem set_listA {X : Cx} : PSet X rSetA := by
  intro pins s σ H o i v ov iv u Q I ro ri rv h
  obtain ⟨p, xs, k, j, eo, ei, hp, hj, q⟩ := h
  exact set_list pins s σ H o i v ov iv u Q I ro ri rv ⟨p, xs, k, j, eo, ei, hp, hj, q _ upd_same fun b o n e => by rw [upd_ne n]; exact e⟩
/-- xs.clear(): likewise -/
def rClearA : V → List V → Hp → VK → Prop := fun x vs H Q => ∃ l xs, x = .ref l ∧ vs = [] ∧ H l = some (.lst xs) ∧ ∀ H', (∀ b o, b ≠ l → H b = some o → H' b = some o) → Q .non H'
theorem mt_clearA {X : Cx} : MtM X "list.clear" rClearA := by
  intro pins s σ H x vs v us Q I rx rv h
  obtain ⟨l, xs, ex, ev, hH, q⟩ := h
  exact mt_clear pins s σ H x vs v us Q I rx rv ⟨l, xs, ex, ev, hH, q _ fun b o n e => by rw [upd_ne n]; exact e⟩
theorem shaped_ints (ms : List Int) : SeqAt.shaped (.list (ms.map PyData.int)) = true := by
  show (PyData.canLayAll0 (ms.map .int) && decide (PyData.depthAll (ms.map .int) + 1 ≤ 64)) = true
  rw [canLayAll_ints ms, depthAll_ints ms]
  rfl
theorem eqv_ints (ms : List Int) : PyData.eqv (.list (ms.map PyData.int)) (.list (ms.map PyData.int)) = true := SeqAt.eqv_refl _ (canLayAll_ints ms)
end My
/-! ### for i, x in enumerate(xs), xs a list -/
namespace My
open PySem PySem.Spec PyProof.Rows L2
def ItE (K : PySem.W.Frag) (a : Addr) : It :=
  ⟨fun i H => ∃ xs x, SqL K H a xs ∧ xs[i]? = some x, fun i H v H' => ∃ p x, (∀ xs, SqL K H a xs → xs[i]? = some x) ∧ v = .ref p ∧ H p = none ∧ H' = upd H p (.tup [.int i, x]), fun i H => ∃ xs, SqL K H a xs ∧ xs.length = i⟩
section
variable {P : Program} {w : World} {K : PySem.W.Frag}
/-- two objects that nobody tracks were written, others made -/
theorem inv_two {X : Cx} {pins : List (Addr × Obj)} {σ : L2.St} {H : Hp} {s : Shared} {e it : Addr} {h' : Heap} {t' : Nat} (I : Inv X pins σ H s) (fe : FpOk X pins H e) (fi : FpOk X pins H it) (oe : ∃ o, h'.get? e = some o) (oi : ∃ o, h'.get? it = some o)
    (k : ∀ b o, b ≠ e → b ≠ it → s.heap.get? b = some o → h'.get? b = some o) : Inv X pins σ H { s with heap := h', toks := t' } := by
  have nb : ∀ b o, H b = some o → b ≠ e ∧ b ≠ it := fun b o q => ⟨fun z => (by rw [z, fe.1] at q; cases q), fun z => (by rw [z, fi.1] at q; cases q)⟩
  refine I.call' (ch := [e, it]) (s' := { s with heap := h', toks := t' }) rfl ⟨fun b o q _ _ hx => ?_, fun b o q _ _ hx => ?_, fun b o q n _ => n, fun b o q hx => ?_, fun b xs q => q, fun b o u q => q, fun b ps (q : H b = _) => ⟨#[], by rw [q]; simp⟩⟩ (fun b u q => ?_) I.bare fun b hb => ?_
  · simp only [List.mem_cons, List.not_mem_nil, or_false, not_or] at hx
    exact k b o hx.1 hx.2 q
  · simp only [List.mem_cons, List.not_mem_nil, or_false, not_or] at hx
    exact ⟨o.slots, k b o hx.1 hx.2 q⟩
  · by_cases z : b = e
    · rw [z]; exact oe
    · by_cases y : b = it
      · rw [y]; exact oi
      · exact ⟨o, k b o z y q⟩
  · refine (I.hok b u q).stay (fun c v hc z => ?_) (fun c z => z) fun c xs z => z
    rcases hc with y | y
    · subst y
      obtain ⟨n1, n2⟩ := nb _ _ q
      exact k _ v n1 n2 z
    · obtain ⟨n1, n2⟩ := nb _ _ y
      exact k _ v n1 n2 z
  · simp only [List.mem_cons, List.not_mem_nil, or_false] at hb
    rcases hb with rfl | rfl
    · exact ⟨fe.2.2.2.1, fe.2.1, fe.2.2.2.2.1, fe.2.2.2.2.2⟩
    · exact ⟨fi.2.2.2.1, fi.2.1, fi.2.2.2.2.1, fi.2.2.2.2.2⟩
end
section
variable {X : Cx}
end
theorem for_enum {K : PySem.W.Frag} {a : Addr} {xs : List V} {g : TG} {tb : TS} {D : Ends} {σ : L2.St} {H : Hp} (Pv : Nat → L2.St → Hp → Prop) (h0 : Pv 0 σ H) (hl : ∀ i σ H, Pv i σ H → SqL K H a xs)
    (hs : ∀ i x σ H p, xs[i]? = some x → Pv i σ H → H p = none → g (.ref p) σ (upd H p (.tup [.int i, x])) fun σ2 H2 => tb { D with nx := Pv (i + 1), ct := Pv (i + 1), bk := D.nx } σ2 H2) (hd : ∀ σ H, Pv xs.length σ H → D.nx σ H) :
    ∃ W : Nat → Nat → L2.St → Hp → Prop, (∃ m, W 0 m σ H) ∧ ∀ i m σ H, W i m σ H →
      ((ItE K a).stop i H ∧ D.nx σ H) ∨ ((ItE K a).go i H ∧ ∃ N : L2.St → Hp → Prop, (∀ σ' H', N σ' H' → ∃ m', m' < m ∧ W (i + 1) m' σ' H') ∧ ∀ x H', (ItE K a).yld i H x H' → g x σ H' fun σ2 H2 => tb { D with nx := N, ct := N, bk := D.nx } σ2 H2) := by
  refine ⟨fun i m σ H => m = xs.length - i ∧ i ≤ xs.length ∧ Pv i σ H, ⟨xs.length, by simp, Nat.zero_le _, h0⟩, ?_⟩
  rintro i m σ H ⟨rfl, hi, p⟩
  by_cases hlt : i < xs.length
  · refine .inr ⟨⟨xs, xs[i], hl i σ H p, by simp [hlt]⟩, Pv (i + 1), fun σ' H' p' => ⟨xs.length - (i + 1), by omega, rfl, hlt, p'⟩, ?_⟩
    rintro x H' ⟨q, y, hy, rfl, hq, rfl⟩
    exact hs i y σ H q (hy xs (hl i σ H p)) p hq
  · have e : i = xs.length := by omega
    subst e
    exact .inl ⟨⟨xs, hl _ σ H p, rfl⟩, hd σ H p⟩
end My
/-! ### try: o.m(..) / except S as n: suite -/
namespace My
open PySem PySem.Spec PyProof.Rows L2
section
variable {X : Cx}
/-- what a call raised is caught -/
theorem caught {ho : Addr → Addr → Option Addr → HO} {S : Addr} {c n : Str} {j : Nat} {b₀ : Stmt} {suite : List Stmt} {th : TS} {np hpos : Pos} {pins : List (Addr × Obj)} {σ : L2.St} {H1 : Hp} {s1 s' : Shared} {D : Ends} {e : Value}
    (I1 : Inv X pins σ H1 s1) (hq : CXW X.prog X.w X.stack H1 s1 (fun cls d H2 => ∃ C, cls = .ref C ∧ PySem.W.subIn X.K (.ref C) (.ref S) = some true ∧ ∀ ea, H2 ea = none → th (gone j D) (σ.set j (some (.ref ea))) (upd H2 ea (ho ea C d))) e s')
    (T : ExcS X.K X.mg c S) (hgc : Gl X c) (hN : X.N.Nodup) (hj : X.N[j]? = some n) (hxn : X.env.scope.names.lookup n = some .local) (hst : X.stack = X.env :: X.outer) (hfr : X.env.frame = some X.env.locals)
    (hs : ∀ ea, PSs (markX X ea) (b₀ :: suite) th) (hho : ∀ (H : Hp) (h : Heap) (ea C : Addr) (d : Option Addr), IsExcK ea C d h → ObjOk X.prog X.w H h ea (ho ea C d)) (hdc : (c == ("__debug__" : Str)) = false) :
    wpAny (model X.prog X.w) X.A (noteFrame e X.env) (fun _ s₂ => wpAny (model X.prog X.w) X.A (setFlight e none) (fun _ s₃ => wpAny (model X.prog X.w) X.A (handleBy e X.env [.ExceptHandler (some (.Name c np)) (some n) (b₀ :: suite) hpos]) (SP X pins D) X.xe s₃) X.xe s₂) X.xe s' := by
  obtain ⟨ea, cls, a0, B, H', d, rfl, os, bare, un, hok, fl, bk, n1, n2, ⟨o0, ho0, hd0⟩, C, hcls, hsub, hth⟩ := hq
  subst hcls
  have fl' := fl
  rw [hst] at fl'
  have hfnn : ∀ b ∈ frs X.stack, ∃ o, s'.heap.get? b = some o ∧ ∀ vs, o.data ≠ .fields vs := fun b hb => (fl.2.2.1.mem hb).2
  refine wpAny_mono (wpAny_calm (calm_noteFrame _ _) (wpAny_looks_onW (Q := fun _ s'' => ∃ h4, s'' = { s' with heap := h4 } ∧ Heap.HeldW B (X.env :: X.outer) ea (.ref C) a0 X.env.locals h4 ∧ s'.heap.UpToSlots h4) (by rw [I1.ok.frames, hst]) hfr fl' fun h4 x1 x2 => ⟨h4, rfl, x1, x2⟩)) (fun _ s'' ⟨⟨h4, e4, held, sm4⟩, dk4⟩ => ?_) fun _ _ z => z.1
  subst e4
  refine wpAny_mono (wpAny_calm (calm_setFlight _ _) (wpAny_landsW (Q := fun _ s'' => ∃ h5, s'' = { s' with heap := h5 } ∧ Heap.FlyingW B (X.env :: X.outer) ea (.ref C) a0 h5 ∧ h4.UpToSlots h5) held fun h5 x1 x2 => ⟨h5, rfl, x1, x2⟩)) (fun _ s'' ⟨⟨h5, e5, fl5, sm5⟩, dk5⟩ => ?_) fun _ _ z => z.1
  subst e5
  obtain ⟨ob, hob, hobc⟩ := fl5.there
  obtain ⟨un5, hok5, _, _⟩ := carry I1 un hok bk fl5.1 (sm4.trans sm5) hfnn
  have I5 : Inv X pins σ H' { s' with heap := h5 } := I1.call' (s' := { s' with heap := h5 }) os un5 hok5 bare (fun b z => absurd z (by simp))
  refine wpAny_handleBy_cons (codeAny_handlers_test (ld_glob (X := markX X ea) (inv_mark I5 ea) hgc T.bound ?_ hdc)) (by intro z; cases z)
  refine exc_matches (K := X.K) I5.kIn hob hobc T.ty T.it T.mB hsub (codeAny_handlers_suite_as ?_)
  refine wpAny_mono (wpAny_calm (calm_setFlight _ _) (lands_againW (Q := fun _ s'' => ∃ h6, s'' = { s' with heap := h6 } ∧ Heap.FlyingW B (X.env :: X.outer) ea (.ref C) a0 h6 ∧ h5.UpToSlots h6) fl5 fun h6 x1 x2 => ⟨h6, rfl, x1, x2⟩)) (fun _ s'' ⟨⟨h6, e6, fl6, sm6⟩, dk6⟩ => ?_) fun _ _ z => z.1
  subst e6
  obtain ⟨ob6, vs6, hob6, hobc6, hdat6, _⟩ := fl6.first
  have isK : IsExcK ea C d h6 := by
    obtain ⟨o4, ho4, hd4⟩ := dk4 ea o0 ho0
    obtain ⟨o5, ho5, hd5⟩ := dk5 ea o4 ho4
    obtain ⟨o6, ho6, hd6⟩ := dk6 ea o5 ho5
    have ho6' : h6.get? ea = some o6 := ho6
    rw [hob6] at ho6'
    cases ho6'
    exact ⟨ob6, hob6, hobc6, by unfold PySem.W.notCls; rw [hdat6], hd6.1.trans (hd5.1.trans (hd4.1.trans hd0.1))⟩
  obtain ⟨un6, hok6, _, _⟩ := carry I1 un hok bk fl6.1 ((sm4.trans sm5).trans sm6) hfnn
  have I6 : Inv X pins σ H' { s' with heap := h6 } := I1.call' (s' := { s' with heap := h6 }) os un6 hok6 bare (fun b z => absurd z (by simp))
  have I7 : Inv X pins σ (upd H' ea (ho ea C d)) { s' with heap := h6 } := inv_track I1 I6 n2 n1 (hho _ _ _ _ _ isK)
  refine store_ok (X := markX X ea) (i := j) (v := .ref ea) (inv_mark I7 ea) hN hj (.inl hxn) rfl (fun s8 I8 => ?_) (.inr hxn)
  refine wpAny_mono (hs ea pins _ _ _ (gone j D) I8 (hth ea n1)) (fun f2 s2 z => ?_) fun _ _ z => z.elim
  have z' := sp_unmark I6.ok z
  cases f2 with
  | next => obtain ⟨σ', H9, I9, q⟩ := z'; exact name_goes I9 hN hj hxn fun s3 I3 => ⟨_, H9, I3, q⟩
  | brk => obtain ⟨σ', H9, I9, q⟩ := z'; exact name_goes I9 hN hj hxn fun s3 I3 => ⟨_, H9, I3, q⟩
  | cont => obtain ⟨σ', H9, I9, q⟩ := z'; exact name_goes I9 hN hj hxn fun s3 I3 => ⟨_, H9, I3, q⟩
  | ret u => obtain ⟨v, σ', H9, I9, r, q⟩ := z'; exact name_goes I9 hN hj hxn fun s3 I3 => ⟨v, _, H9, I3, r, q⟩
end
end My
/-! ### for k, v in d.items(); for x in reversed(xs) -/
namespace My
open PySem PySem.Spec PyProof.Rows L2
section
variable {P : Program} {w : World} {K : PySem.W.Frag}
end
section
variable {X : Cx}
end
/-! ### reversed(xs) -/
section
variable {X : Cx}
end
end My
/-! ### dicts of numbers and None compared, held ones too; isinstance of any tuple -/
namespace My
open PySem PySem.Spec PyProof.Rows L2
section
variable {X : Cx} {pins : List (Addr × Obj)} {σ : L2.St} {H : Hp} {s : Shared} {a b : Addr} {kvs : List (Key × V)}
end
section
variable {X : Cx}
end
end My
/-! ### xs.insert(0, y) -/
namespace My
open PySem PySem.Spec PyProof.Rows L2
end My
/-! ### text.partition(sep) -/
namespace My
open PySem PySem.Spec PyProof.Rows L2 Builtin.Str
end My
/-! ### texts cut at "; " and put together again -/
namespace My
open PySem PySem.Spec PyProof.Rows L2 Builtin.Str PySem.StrLaws
def pre (d : Nat) : List (List Nat) → List (List Nat)
  | [] => []
  | p :: r => p :: r.map (d :: ·)
end My
/-! ### f"{a}lit", f"{a}lit{b}" of texts -/
namespace My
open PySem PySem.Spec PyProof.Rows L2
section
variable {X : Cx}
end
/-! ### what partition finds -/
section
open Builtin.Str PySem.StrLaws
end
end My
/-! ### min(numbers, default=None); comprehensions whose elements are new objects -/
namespace My
open PySem PySem.Spec PyProof.Rows L2 PyProof
section
variable {prog : Program} {w : World} {A : Around}
end
theorem cut_ints (ns : List Int) (lo hi : Option Int) : ∃ ms : List Int, cutV (ns.map V.int) lo hi = ms.map V.int ∧ ms.length ≤ ns.length := by
  refine ⟨(ns.drop (HT.sIx (ns.map V.int).length 0 lo)).take (HT.sIx (ns.map V.int).length (ns.map V.int).length hi - HT.sIx (ns.map V.int).length 0 lo), ?_, ?_⟩
  · unfold cutV
    rw [List.map_take, List.map_drop]
  · rw [List.length_take, List.length_drop]
    omega
end My
/-! ### list(reversed(xs)) -/
namespace My
open PySem PySem.Spec PyProof.Rows L2 PyProof
section
variable {prog : Program} {w : World} {A : Around} {s : Shared}
end
end My
/-! ### own classes without an __init__, a method by the object's class, isinstance of an own instance, try: f(..), texts -/
namespace My
open PySem PySem.Spec PyProof.Rows L2 PyProof
structure MkO (K : PySem.W.Frag) (C : Addr) : Prop where
  makes : PySem.W.makesIn K C = true
  init : PySem.W.findIn K (.ref C) "__init__" = some (some (.builtin "object.__init__"))
  kp : PySem.W.keepIn K (.ref C) = true
section
variable {X : Cx}
/-- a statement that raises nothing, in a def that may -/
theorem ps_nox {st : Stmt} {t : TS} (h : PS X.nox st t) : PS X st t := by
  constructor; intro pins s σ H D I hw
  refine wpAny_mono (h pins s σ H D (I.wish _) hw) (fun f s' z => ?_) fun _ _ z => z.elim
  cases f with
  | next => obtain ⟨σ', H', I', q⟩ := z; exact ⟨σ', H', I'.unwish, q⟩
  | brk => obtain ⟨σ', H', I', q⟩ := z; exact ⟨σ', H', I'.unwish, q⟩
  | cont => obtain ⟨σ', H', I', q⟩ := z; exact ⟨σ', H', I'.unwish, q⟩
  | ret u => obtain ⟨v, σ', H', I', r, q⟩ := z; exact ⟨v, σ', H', I'.unwish, r, q⟩
end
end My
/-! ### the table of a set: its places rise -/
namespace My
open PySem PySem.Spec PyProof.Rows L2 PyProof
def Ris (xs : Array Nat) : Prop := xs.toList.Pairwise (· < ·)
theorem Ris.lt {xs : Array Nat} (h : Ris xs) {i j x y : Nat} (hij : i < j) (hi : xs[i]? = some x) (hj : xs[j]? = some y) : x < y := by
  rw [← Array.getElem?_toList] at hi hj
  obtain ⟨i1, e1⟩ := List.getElem?_eq_some_iff.mp hi
  obtain ⟨j1, e2⟩ := List.getElem?_eq_some_iff.mp hj
  have := List.pairwise_iff_getElem.mp h i j i1 j1 hij
  rw [e1, e2] at this
  exact this
theorem below_go {xs : Array Nat} (h : Ris xs) (j : Nat) : ∀ (fuel lo hi : Nat), hi - lo ≤ fuel → lo ≤ hi → hi ≤ xs.size → (∀ k x, xs[k]? = some x → k < lo → x < j) → (∀ k x, xs[k]? = some x → hi ≤ k → j ≤ x) →
    ∀ k x, xs[k]? = some x → (k < SetTable.below.go xs j fuel lo hi → x < j) ∧ (SetTable.below.go xs j fuel lo hi ≤ k → j ≤ x)
  | 0, lo, hi, hf, hle, hs, h1, h2 => fun k x e => by
    unfold SetTable.below.go
    have : lo = hi := by omega
    subst this
    exact ⟨h1 k x e, h2 k x e⟩
  | fuel + 1, lo, hi, hf, hle, hs, h1, h2 => fun k x e => by
    unfold SetTable.below.go
    by_cases hlt : lo < hi
    · rw [if_pos hlt]
      have hm1 : lo ≤ (lo + hi) / 2 := by omega
      have hm2 : (lo + hi) / 2 < hi := by omega
      have hmx : (lo + hi) / 2 < xs.size := by omega
      have em : xs[(lo + hi) / 2]? = some xs[(lo + hi) / 2] := Array.getElem?_eq_getElem hmx
      have eg : xs.getD ((lo + hi) / 2) j = xs[(lo + hi) / 2] := by simp [Array.getD, hmx]
      dsimp only
      rw [eg]
      by_cases hc : xs[(lo + hi) / 2] < j
      · rw [if_pos hc]
        refine below_go h j fuel _ hi (by omega) (by omega) hs (fun k x e hk => ?_) h2 k x e
        by_cases q : k = (lo + hi) / 2
        · subst q
          rw [em] at e
          cases e
          exact hc
        · have := h.lt (show k < (lo + hi) / 2 by omega) e em
          omega
      · rw [if_neg hc]
        refine below_go h j fuel lo _ (by omega) hm1 (by omega) h1 (fun k x e hk => ?_) k x e
        by_cases q : k = (lo + hi) / 2
        · subst q
          rw [em] at e
          cases e
          omega
        · have := h.lt (show (lo + hi) / 2 < k by omega) em e
          omega
    · rw [if_neg hlt]
      have : lo = hi := by omega
      subst this
      exact ⟨h1 k x e, h2 k x e⟩
theorem below_is {xs : Array Nat} (h : Ris xs) (j : Nat) {k x : Nat} (e : xs[k]? = some x) : (k < SetTable.below xs j → x < j) ∧ (SetTable.below xs j ≤ k → j ≤ x) := by
  unfold SetTable.below
  refine below_go h j xs.size 0 xs.size (by omega) (Nat.zero_le _) (Nat.le_refl _) (fun k x _ hk => absurd hk (Nat.not_lt_zero _)) (fun k x e hk => ?_) k x e
  have := (Array.getElem?_eq_some_iff.mp e).1
  omega
/-- the first place not below j, where all before are: the walk's own step -/
theorem below_at {xs : Array Nat} (h : Ris xs) {i x : Nat} (e : xs[i]? = some x) : SetTable.below xs x = i := by
  have hb := below_is h x e
  by_cases q : SetTable.below xs x ≤ i
  · by_cases q2 : SetTable.below xs x = i
    · exact q2
    · have hlt : SetTable.below xs x < i := by omega
      have hi : i < xs.size := (Array.getElem?_eq_some_iff.mp e).1
      have e2 : xs[SetTable.below xs x]? = some xs[SetTable.below xs x] := Array.getElem?_eq_getElem (by omega)
      have h1 := (below_is h x e2).2 (Nat.le_refl _)
      have h2 := h.lt hlt e2 e
      omega
  · have := hb.1 (by omega)
    omega
theorem not_mem_place {xs : Array Nat} (h : Ris xs) {j : Nat} (e : xs[SetTable.below xs j]? ≠ some j) : j ∉ xs.toList := fun hm => by
  obtain ⟨k, hk, ek⟩ := List.getElem_of_mem hm
  have e1 : xs[k]? = some j := by rw [← Array.getElem?_toList, List.getElem?_eq_getElem hk, ek]
  rw [below_at h e1] at e
  exact e e1
theorem Ris.insert {xs : Array Nat} (h : Ris xs) {j : Nat} (hn : j ∉ xs.toList) : Ris (SetTable.insertAt xs (SetTable.below xs j) j) := by
  unfold Ris
  rw [SetTable.toList_insertAt]
  refine List.pairwise_append.mpr ⟨h.sublist (List.take_sublist _ _), List.pairwise_cons.mpr ⟨fun b hb => ?_, h.sublist (List.drop_sublist _ _)⟩, fun a ha b hb => ?_⟩
  · obtain ⟨k, hk, ek⟩ := List.getElem_of_mem hb
    rw [List.getElem_drop] at ek
    have e1 : xs[SetTable.below xs j + k]? = some b := by rw [← Array.getElem?_toList, List.getElem?_eq_getElem (by rw [List.length_drop] at hk; omega), ek]
    have := (below_is h j e1).2 (by omega)
    have ne : b ≠ j := fun z => hn (z ▸ List.mem_of_mem_drop hb)
    omega
  · obtain ⟨k, hk, ek⟩ := List.getElem_of_mem ha
    rw [List.getElem_take] at ek
    rw [List.length_take] at hk
    have e1 : xs[k]? = some a := by rw [← Array.getElem?_toList, List.getElem?_eq_getElem (by omega), ek]
    have h1 := (below_is h j e1).1 (by omega)
    rcases List.mem_cons.mp hb with z | z
    · omega
    · obtain ⟨k2, hk2, ek2⟩ := List.getElem_of_mem z
      rw [List.getElem_drop] at ek2
      have e2 : xs[SetTable.below xs j + k2]? = some b := by rw [← Array.getElem?_toList, List.getElem?_eq_getElem (by rw [List.length_drop] at hk2; omega), ek2]
      have := (below_is h j e2).2 (by omega)
      omega
/-- a set's table that was only added to -/
structure TOk (t : SetTable) : Prop where
  up : Ris t.place
  nd : t.dummies = #[]
theorem TOk.fresh (f m : Nat) (l : Bool) : TOk (.fresh f m l) := ⟨List.Pairwise.nil, rfl⟩
theorem TOk.noDummy {t : SetTable} (h : TOk t) (j : Nat) : SetTable.has t.dummies j = false := by
  rw [h.nd]
  unfold SetTable.has
  simp
theorem TOk.probed {t : SetTable} (h : TOk t) {f : Nat → Int} {z : Int} : ∀ (fuel : Nat) (p : SetTable.Probe) {j : Nat} {d : Option Nat}, p.dummy = none → SetTable.probe.go t f z fuel p = some (.empty j d) → d = none ∧ j ∉ t.place.toList
  | 0, p, j, d, hp, e => by unfold SetTable.probe.go at e; cases e
  | fuel + 1, p, j, d, hp, e => by
    unfold SetTable.probe.go at e
    have adv : ∀ q : SetTable.Probe, (t.advance q).dummy = q.dummy := fun q => by
      unfold SetTable.advance
      split <;> rfl
    cases hs : t.slot p.j with
    | empty =>
      rw [hs] at e
      cases e
      refine ⟨hp, not_mem_place h.up fun z => ?_⟩
      unfold SetTable.slot at hs
      simp only [z, beq_self_eq_true, if_true] at hs
      cases hs
    | dummy =>
      exfalso
      unfold SetTable.slot at hs
      simp only [h.noDummy] at hs
      split at hs <;> cases hs
    | live i =>
      rw [hs] at e
      dsimp only at e
      split at e
      · cases e
      · exact TOk.probed h fuel _ (by rw [adv]; exact hp) e
theorem TOk.free {t : SetTable} (h : TOk t) {z : Int} {j : Nat} {b : Bool} (e : t.freeSlot z = some (j, b)) : j ∉ t.place.toList := by
  unfold SetTable.freeSlot at e
  cases hp : t.probe (fun _ => z + 1) z (t.probeStart z) with
  | none => rw [hp] at e; cases e
  | some m =>
    rw [hp] at e
    cases m with
    | candidate a b c => cases e
    | empty j' d =>
      obtain ⟨hd, hn⟩ := h.probed _ _ rfl hp
      subst hd
      cases e
      exact hn
theorem TOk.put {t : SetTable} (h : TOk t) {j : Nat} (hn : j ∉ t.place.toList) : TOk (t.put j).1 ∧ (t.put j).1.led = t.led := by
  refine ⟨⟨h.up.insert hn, ?_⟩, rfl⟩
  show (if SetTable.has t.dummies j = true then _ else t.dummies) = #[]
  rw [h.noDummy, if_neg (by simp)]
  exact h.nd
theorem ris_range (n : Nat) : Ris (Array.range n) := by
  unfold Ris
  rw [Array.toList_range]
  exact List.pairwise_lt_range
theorem TOk.stand (t : SetTable) (n : Nat) : TOk (t.standIn n) ∧ (t.standIn n).led = t.led := ⟨⟨ris_range n, rfl⟩, rfl⟩
end My
/-! ### set(numbers): what the set holds, and its table -/
namespace My
open PySem PySem.Spec PyProof.Rows L2 PyProof
def keyI (e : Int × Value) : Int := match e.2 with
  | .int n _ => n
  | _ => 0
section
variable {prog : Program} {w : World} {A : Around} {E : Value → Shared → Prop} {s : Shared}
/-- the set at a holds just ks, in some order -/
def SetG (prog : Program) (w : World) (h : Heap) (a : Addr) (ks : List Int) (led : Bool) : Prop :=
  ∃ o es ep t, h.get? a = some o ∧ o.ExactSet ∧ o.data = .set es ep t ∧ ElemsOf (intKind prog w) es.toList ∧ es.size < scanBound ∧ t.fits es.size = true ∧ TOk t ∧ t.led = led ∧ (es.toList.map keyI).Perm ks
end
end My
/-! ### set(numbers), made -/
namespace My
open PySem PySem.Spec PyProof.Rows L2 PyProof
/-- each number once, in the order in which they come -/
def dd (ns : List Int) : List Int := ns.foldl step_dedup []
section
variable {prog : Program} {w : World} {A : Around} {E : Value → Shared → Prop} {s : Shared}
theorem SetG.keep {h h' : Heap} {a : Addr} {ks : List Int} {led : Bool} (x : SetG prog w h a ks led) (k : ∀ o, h.get? a = some o → h'.get? a = some o) : SetG prog w h' a ks led :=
  let ⟨o, es, ep, t, ho, r⟩ := x
  ⟨o, es, ep, t, k o ho, r⟩
end
end My
/-! ### the walk over a set of numbers -/
namespace My
open PySem PySem.Spec PyProof.Rows L2 PyProof
section
variable {M : Model} {A : Around} {E : Value → Shared → Prop}
end
end My
/-! ### the walk over a set of numbers: one step -/
namespace My
open PySem PySem.Spec PyProof.Rows L2 PyProof
/-- the iterator at I of the set at a -/
def ItAt (h : Heap) (I a : Addr) (first : Value) (i n ep : Nat) : Prop := ∃ o, h.get? I = some o ∧ o.cls = .type "set_iterator" ∧ o.data = .fields #[first, .int i 0, .ref a, .int n 0, .int ep 0]
def SetIs (h : Heap) (a : Addr) (es : Array (Int × Value)) (ep : Nat) (t : SetTable) : Prop := ∃ o, h.get? a = some o ∧ o.ExactSet ∧ o.data = .set es ep t
theorem ItAt.keep {h h' : Heap} {I a : Addr} {v : Value} {i n ep : Nat} (x : ItAt h I a v i n ep) (k : ∀ o, h.get? I = some o → h'.get? I = some o) : ItAt h' I a v i n ep := let ⟨o, ho, r⟩ := x; ⟨o, k o ho, r⟩
theorem SetIs.keep {h h' : Heap} {a : Addr} {es : Array (Int × Value)} {ep : Nat} {t : SetTable} (x : SetIs h a es ep t) (k : ∀ o, h.get? a = some o → h'.get? a = some o) : SetIs h' a es ep t := let ⟨o, ho, r⟩ := x; ⟨o, k o ho, r⟩
section
variable {prog : Program} {w : World} {A : Around} {E : Value → Shared → Prop} {s : Shared} {I a : Addr} {es : Array (Int × Value)} {ep : Nat} {t : SetTable}
theorem ItAt.typeIs {v : Value} {i n : Nat} (x : ItAt s.heap I a v i n ep) : s.TypeIs (.ref I) "set_iterator" := let ⟨o, ho, hc, _⟩ := x; ⟨o, ho, hc⟩
end
end My
/-! ### the walk over a set of numbers: its end, and where its order was drawn -/
namespace My
open PySem PySem.Spec PyProof.Rows L2 PyProof
section
variable {prog : Program} {w : World} {A : Around} {E : Value → Shared → Prop} {s : Shared} {I a : Addr} {es : Array (Int × Value)} {ep : Nat} {t : SetTable}
end
end My
/-! ### the walk over a set of numbers: all of it -/
namespace My
open PySem PySem.Spec PyProof.Rows L2 PyProof
section
variable {prog : Program} {w : World} {A : Around} {E : Value → Shared → Prop} {s : Shared} {I a : Addr} {es : Array (Int × Value)} {ep : Nat} {t : SetTable}
end
end My
/-! ### sorted(set(numbers)) -/
namespace My
open PySem PySem.Spec PyProof.Rows L2 PyProof
section
variable {prog : Program} {w : World} {A : Around} {E : Value → Shared → Prop} {s : Shared} {a : Addr} {ks : List Int} {led : Bool}
theorem SetG.typeIs (x : SetG prog w s.heap a ks led) : s.TypeIs (.ref a) "set" := let ⟨o, _, _, _, ho, hex, _⟩ := x; ⟨o, ho, hex.1⟩
end
end My
/-! ### dict(pairs) -/
namespace My
open PySem PySem.Spec PyProof.Rows L2 PyProof
section
variable {prog : Program} {w : World} {A : Around} {E : Value → Shared → Prop} {s : Shared}
end
/-- a list of pairs -/
inductive Prs2 (K : PySem.W.Frag) (H : Hp) : List V → List (Key × V) → Prop where
  | nil : Prs2 K H [] []
  | cons {t : Addr} {q : Key × V} {ws : List V} {ps : List (Key × V)} (h : SqT K H t [kV q.1, q.2]) (r : Prs2 K H ws ps) : Prs2 K H (.ref t :: ws) (q :: ps)
end My
/-! ### a, b = a list; list(d) -/
namespace My
open PySem PySem.Spec PyProof.Rows L2 PyProof
section
variable {prog : Program} {w : World} {A : Around} {E : Value → Shared → Prop}
end
section
variable {X : Cx} {pos : Pos}
end
end My
/-! ### for k in d -/
namespace My
open PySem PySem.Spec PyProof.Rows L2
section
variable {P : Program} {w : World} {K : PySem.W.Frag}
end
section
variable {X : Cx}
end
end My
/-! ### d.clear() of a dict that was held, d.update(d2), xs[lo:hi:st] -/
namespace My
open PySem PySem.Spec PyProof.Rows L2 PyProof
section
variable {X : Cx} {o e : Expr} {td te : TE} {apos cpos : Pos}
end
section
variable {X : Cx} {e : Expr} {te : TE} {lo hi : Option Expr} {st : Expr} {tl th tk : TO} {pos p2 : Pos}
end
end My
/-! ### list(range(n)), list(reversed(range(n))) -/
namespace My
open PySem PySem.Spec PyProof.Rows L2 PyProof
section
variable {prog : Program} {w : World} {A : Around} {E : Value → Shared → Prop} {s : Shared}
end
theorem vals_ints {ms : List Int} {us : List Value} (hl : us.length = ms.length) (h : ∀ (i : Nat) (v : Value), us[i]? = some v → ∃ z t, ms[i]? = some z ∧ v = .int z t) : Vals (ms.map V.int) us := by
  induction ms generalizing us with
  | nil =>
    cases us with
    | nil => exact .nil
    | cons _ _ => simp at hl
  | cons z r ih =>
    cases us with
    | nil => simp at hl
    | cons u q =>
      obtain ⟨z', t, hz, hu⟩ := h 0 u rfl
      cases hz
      exact .cons ⟨t, hu⟩ (ih (by simpa using hl) fun i v e => by simpa using h (i + 1) v (by simpa using e))
end My
/-! ### dicts of data compared -/
namespace My
open PySem PySem.Spec PyProof.Rows L2
section
variable {X : Cx} {pins : List (Addr × Obj)} {σ : L2.St} {H : Hp} {s : Shared} {a b : Addr} {kvs kvs' : List (Key × V)} {ds : List (Key × PyData)}
end
section
variable {X : Cx}
end
end My
/-! ### max(xs, key=lambda n: d[n]) -/
namespace My
open PySem PySem.Spec PyProof.Rows L2 PyProof
section
variable {prog : Program} {w : World} {A : Around}
end
end My
/-! ### the head of a law whose text makes lambdas: the table of code objects is tracked beside the script -/
namespace My
open PySem PySem.Spec PyProof.Rows L2
section
variable {P : Program} {w : World} {K : PySem.W.Frag} {mg : Str → Option Value} {base : Heap}
end
section
variable {P : Program} {w : World} {K : PySem.W.Frag} {mg mb : Str → Option Value} {CX : CXT} {k : Nat} {fa a c0 P0 : Addr} {fd : FuncData} {x : Str} {sp : Heap → Sp} {s₁ : Shared} {vs : List Value} {ns : List Int}
end
end My
namespace My
open PySem PySem.W PySem.Calls PyProof.Rows L2
end My
/-! ### sorted(xs, key=lambda z: z.f), fewer than 64 things -/
namespace My
open PySem PySem.Spec PyProof.Rows L2 PyProof
/-- all the objects of a heap but one -/
def allBut (L : Addr) (h : Heap) : List (Addr × Obj) := (List.range h.objs.size).filterMap fun b => if b = L then none else (h.get? b).map fun o => (b, o)
theorem allBut_mem {L b : Addr} {h : Heap} {o : Obj} (n : b ≠ L) (e : h.get? b = some o) : (b, o) ∈ allBut L h :=
  List.mem_filterMap.mpr ⟨b, List.mem_range.mpr (Heap.lt_size e), by rw [if_neg n, e]; rfl⟩
theorem allBut_of {L : Addr} {h : Heap} {p : Addr × Obj} (m : p ∈ allBut L h) : p.1 ≠ L ∧ h.get? p.1 = some p.2 := by
  obtain ⟨b, _, e⟩ := List.mem_filterMap.mp m
  by_cases n : b = L
  · rw [if_pos n] at e; cases e
  · rw [if_neg n] at e
    obtain ⟨o, e1, e2⟩ := Option.map_eq_some_iff.mp e
    subst e2
    exact ⟨n, e1⟩
theorem none_empty (b : Addr) : (Heap.get? ({} : Heap) b) = none := by
  cases e : Heap.get? ({} : Heap) b with
  | none => rfl
  | some o => exact absurd (Heap.lt_size e) (Nat.not_lt_zero _)
theorem ns_one {h : Heap} {a : Addr} {m m' : Str → Option Value} (x : h.Ns a m) (y : h.Ns a m') : m = m' := by
  obtain ⟨o, es, ep, e1, e2, e3⟩ := x
  obtain ⟨o', es', ep', f1, f2, f3⟩ := y
  rw [e1] at f1
  cases f1
  rw [e2] at f2
  cases f2
  exact funext fun x => (e3.2 x).symm.trans (f3.2 x)
/-- .. and a new object laid -/
theorem inv_namesD {X : Cx} {pins : List (Addr × Obj)} {σ : L2.St} {H : Hp} {s : Shared} {h' : Heap} {t' : Nat} {D : Addr} {u : HO} (I : Inv X pins σ H s) (keep : ∀ b o, b ≠ X.env.locals → s.heap.get? b = some o → h'.get? b = some o)
    (ns : ∀ m, s.heap.Ns X.env.locals m → h'.Ns X.env.locals m) (hD : s.heap.objs.size ≤ D) (new : ObjOk X.prog X.w (upd H D u) h' D u) : Inv X pins σ (upd H D u) { s with heap := h', toks := t' } := by
  have old : ∀ b o, H b = some o → b ≠ D := fun b o e => Nat.ne_of_lt (Nat.lt_of_lt_of_le (I.hok b o e).lt hD)
  have was : ∀ b o, s.heap.get? b = some o → b ≠ D := fun b o e => Nat.ne_of_lt (Nat.lt_of_lt_of_le (Heap.lt_size e) hD)
  refine I.step (g' := s.gens) (d' := s.drawn) (ch := []) (fun _ z => nomatch z) (fun b o nL hb _ e n => keep b o nL e) (fun b o nL hb _ e n => ⟨o.slots, keep b o nL e⟩) (fun b o _ e n => by rw [upd_ne (was b o e)]; exact n) (fun b o _ e => ?_) (fun b _ e => by rw [upd_ne (old b _ e)]; exact e) (fun b _ _ e => by rw [upd_ne (old b _ e)]; exact e) (fun b ps e => ⟨#[], by rw [upd_ne (old b _ e)]; simpa using e⟩) ns (fun b v q => ?_) I.bare
  · by_cases z : b = X.env.locals
    · obtain ⟨m, hn, _⟩ := I.loc
      obtain ⟨o', _, _, e', _⟩ := ns m hn
      exact ⟨o', z ▸ e'⟩
    · exact ⟨o, keep b o z e⟩
  · by_cases hb : b = D
    · subst hb
      rw [upd_same] at q
      cases q
      exact new
    · rw [upd_ne hb] at q
      refine (I.hok b v q).stay (fun c v hc z => keep c v (fun y => ?_) z) (fun c z => by rw [upd_ne (old c _ z)]; exact z) fun c _ z => by rw [upd_ne (old c _ z)]; exact z
      have fr := I.free
      rcases hc with rfl | hc
      · rw [← y, q] at fr; cases fr
      · rw [← y, hc] at fr; cases fr
/-- sorted(xs), a list of numbers -/
theorem call_sortedL {X : Cx} : CallR X (.builtin "sorted") (fun xs H Q => ∃ (a : Addr) (ks : List Int), xs = [V.ref a] ∧ H a = some (.lst (ks.map V.int)) ∧ ks.length < 64 ∧ ∀ p, H p = none → Q (.ref p) (upd H p (.lst ((risen ks).map V.int)))) := by
  intro pins s σ H xs us Q I r h
  obtain ⟨a, ks, rfl, e, h64, q⟩ := h
  obtain ⟨u, rfl, ru⟩ := vals1 r
  cases ru
  obtain ⟨m, hns, _⟩ := id I.loc
  obtain ⟨its, rv, plst, _⟩ := I.list (SqL.of e)
  have hlen : its.length = ks.length := by rw [← rv.length, List.length_map]
  have hI : IntsAre its ks := intsAre_of hlen fun j v ev => by
    obtain ⟨x, ex, rx⟩ := vals_get' rv ev
    rw [List.getElem?_map] at ex
    obtain ⟨n, en, rfl⟩ := Option.map_eq_some_iff.mp ex
    obtain ⟨tn, rfl⟩ := rx
    exact ⟨n, tn, en, rfl⟩
  refine sorted_N (h₀ := {}) (L := X.env.locals) (m := m) (news := allBut X.env.locals s.heap) ⟨hns, (fun b o e => by rw [none_empty] at e; cases e), Nat.zero_le _⟩ (fun p hp => let ⟨a, b⟩ := allBut_of hp; ⟨b, a, none_empty _⟩) plst.isList hI (by omega) fun h' vs' ns' ep F' N' a1 a2 a3 => ?_
  have keep' : ∀ b o, b ≠ X.env.locals → s.heap.get? b = some o → h'.get? b = some o := fun b o n e => (N' (b, o) (.tail _ (allBut_mem n e))).1
  have en := risen_is a2 a3
  subst en
  have I2 := inv_namesD (t' := s.toks) (D := s.heap.objs.size + 1) (u := .lst ((risen ks).map V.int)) I keep' (fun m' hm => ns_one hns hm ▸ F'.ns) (Nat.le_succ _) ⟨by rw [List.length_map, (risen_perm ks).length_eq, sizeLine_eq]; omega, vs', ep, ints_vals a1, (N' _ (.head _)).1⟩
  exact ⟨.ref _, _, I2, rfl, q _ (I.hok.fresh (Nat.le_succ _))⟩
end My
/-! ### try: y = f(..) / except S: .., no name, S an exception class or one above the one raised -/
namespace My
open PySem PySem.Spec PyProof.Rows L2
section
variable {X : Cx}
end
end My
/-! ### list.sort over fewer than 128 numbers: the model's runs, gallops and merges (its own defs are named by the library's elaborator, nothing of them is written out here) -/
namespace My
open PySem PyProof.Rows
/-- the number by which a thing is sorted -/
def kf (p : Keyed) : Int := numOf p.1
def IntK (p : Keyed) : Prop := ∃ n t, p.1 = .int n t
theorem IntK.is {p : Keyed} (h : IntK p) : ∃ t, p = (.int (kf p) t, p.2) := by
  obtain ⟨n, t, e⟩ := h
  refine ⟨t, ?_⟩
  obtain ⟨x, y⟩ := p
  cases (show x = .int n t from e)
  rfl
section
variable {prog : Program} {w : World} {s : Shared} {A : Around} {E : Value → Shared → Prop}
end
abbrev Upk (l : List Keyed) : Prop := l.Pairwise fun x y => kf x ≤ kf y
/-- two lists woven so far -/
structure LInv (A B out : List Keyed) (ia ib : Nat) : Prop where
  ha : ia ≤ A.length
  hb : ib ≤ B.length
  perm : out.Perm (A.take ia ++ B.take ib)
  up : Upk out
  leA : ∀ x ∈ out, ∀ y ∈ A.drop ia, kf x ≤ kf y
  leB : ∀ x ∈ out, ∀ y ∈ B.drop ib, kf x ≤ kf y
theorem LInv.res {A B out : List Keyed} {ia ib : Nat} (h : LInv A B out ia ib) (e1 : ia = A.length) (e2 : ib = B.length) : out.Perm (A ++ B) ∧ Upk out := by
  have := h.perm
  rw [e1, e2, List.take_length, List.take_length] at this
  exact ⟨this, h.up⟩
structure SameS (st st' : SortSt) : Prop where
  kind : kindOf st' = kindOf st
  arr : arrOf st' = arrOf st
  pend : pendingOf st' = pendingOf st
  fail : failedOf st' = failedOf st
theorem SameS.refl (st : SortSt) : SameS st st := ⟨rfl, rfl, rfl, rfl⟩
theorem SameS.trans {a b c : SortSt} (h : SameS a b) (k : SameS b c) : SameS a c := ⟨k.kind.trans h.kind, k.arr.trans h.arr, k.pend.trans h.pend, k.fail.trans h.fail⟩
section
variable {prog : Program} {w : World} {s : Shared} {A : Around} {E : Value → Shared → Prop}
end
/-- two lists woven so far, from behind -/
structure HInv (A B tl : List Keyed) (na nb : Nat) : Prop where
  ha : na ≤ A.length
  hb : nb ≤ B.length
  perm : tl.Perm (A.drop na ++ B.drop nb)
  up : Upk tl
  leA : ∀ x ∈ A.take na, ∀ y ∈ tl, kf x ≤ kf y
  leB : ∀ x ∈ B.take nb, ∀ y ∈ tl, kf x ≤ kf y
section
variable {prog : Program} {w : World} {s : Shared} {A : Around} {E : Value → Shared → Prop}
end
/-- a state of the sorting: what lies ahead of lo is as xs has it -/
structure Sb (a₀ : Array Keyed) (pd : Array (Nat × Nat × Nat)) (lo : Nat) (xs : Array Keyed) (st : SortSt) : Prop where
  perm : (arrOf st).Perm a₀
  kind : kindOf st = oneType'
  fail : failedOf st = none
  pend : pendingOf st = pd
  low : ∀ k, k < lo → (arrOf st)[k]? = xs[k]?
def Rise (xs : Array Keyed) (lo hi : Nat) : Prop := ∀ i j, lo ≤ i → i ≤ j → j < hi → K xs i ≤ K xs j
def Fall (xs : Array Keyed) (lo hi : Nat) : Prop := ∀ i j, lo ≤ i → i ≤ j → j < hi → K xs j ≤ K xs i
section
variable {prog : Program} {w : World} {s : Shared} {A : Around} {E : Value → Shared → Prop} {a₀ xs : Array Keyed} {pd : Array (Nat × Nat × Nat)} {lo : Nat} {st : SortSt}
theorem Sb.size (h : Sb a₀ pd lo xs st) : (arrOf st).size = a₀.size := h.perm.size_eq
theorem Sb.set (h : Sb a₀ pd lo xs st) {ys : Array Keyed} (p : ys.Perm (arrOf st)) (l : ∀ k, k < lo → ys[k]? = (arrOf st)[k]?) : Sb a₀ pd lo xs (setArr st ys) := ⟨p.trans h.perm, h.kind, h.fail, h.pend, fun k hk => (l k hk).trans (h.low k hk)⟩
theorem Fall.eq {xs ys : Array Keyed} {lo hi : Nat} (h : Fall xs lo hi) (e : ∀ k, K ys k = K xs k) : Fall ys lo hi := fun i j h1 h2 h3 => by
  rw [e, e]
  exact h i j h1 h2 h3
end
section
variable {prog : Program} {w : World} {s : Shared} {A : Around} {E : Value → Shared → Prop} {a₀ xs : Array Keyed} {pd : Array (Nat × Nat × Nat)} {lo : Nat} {st : SortSt}
end
section
variable {prog : Program} {w : World} {s : Shared} {A : Around} {E : Value → Shared → Prop} {a₀ : Array Keyed} {st : SortSt}
end
section
variable {prog : Program} {w : World} {s : Shared} {A : Around} {E : Value → Shared → Prop} {a₀ : Array Keyed} {st : SortSt}
/-- the two runs of fewer than 128 things -/
inductive Two (a₀ : Array Keyed) (N : Nat) (st : SortSt) : Nat → Prop where
  | zero (h : Sb a₀ #[] 0 #[] st) : Two a₀ N st 0
  | one {n1 : Nat} (h : Sb a₀ #[(0, n1, 0)] 0 #[] st) (h1 : 1 ≤ n1) (h2 : n1 ≤ N) (h3 : N / 2 + N % 2 ≤ n1) (hr : Rise (arrOf st) 0 n1) : Two a₀ N st n1
  | two {n1 pw : Nat} (h : Sb a₀ #[(0, n1, pw), (n1, N - n1, 0)] 0 #[] st) (h1 : 1 ≤ n1) (h2 : n1 < N) (hr : Rise (arrOf st) 0 n1) (hr2 : Rise (arrOf st) n1 N) : Two a₀ N st N
theorem Two.le {a₀ : Array Keyed} {N lo : Nat} {st : SortSt} (h : Two a₀ N st lo) : lo ≤ N := by
  cases h with
  | zero => exact Nat.zero_le _
  | one _ _ h2 => exact h2
  | two => exact Nat.le_refl _
end
section
variable {prog : Program} {w : World} {s : Shared} {A : Around} {E : Value → Shared → Prop}
end
end My
/-! ### sorted(d), fewer than 128 keys -/
namespace My
open PySem PySem.Spec PyProof.Rows L2
section
variable {X : Cx}
end
end My
/-! ### xs != [], whatever xs has -/
namespace My
open PySem PySem.Spec PyProof.Rows L2
section
variable {X : Cx}
end
end My
/-! ### an exception out of a comprehension's element -/
namespace My
open PySem PySem.Spec PyProof.Rows L2
section
variable {M : Model} {A : Around} {E : Value → Shared → Prop} {s : Shared} {B : Heap} {l : List Env} {env : Env} {ea L : Addr} {cls a0 : Value}
/-- a block's names go: the exception stays held -/
theorem held_but {C : Addr} {h h' : Heap} {m : Str → Option Value} (x : Heap.HeldW B l ea cls a0 L h) (k : Heap.SameBut C h h') (hn : h.Ns C m) (hC : C ∉ frs l) : Heap.HeldW (PySem.W.hideAll B [C]) l ea cls a0 L h' := by
  obtain ⟨hkb, hb, hl, oe, vs, T, oT, ts, he, hcls, hd, h1, hnT, hTe, hT, hdT, h3⟩ := x
  obtain ⟨oc, es, nc, hoc, hdc, _⟩ := hn
  have nfC : ∀ b o (vs : Array Value), h.get? b = some o → o.data = .fields vs → b ≠ C := fun b o vs e q z => by
    rw [z, hoc] at e; cases e; rw [hdc] at q; cases q
  have hid : ∀ b o, (PySem.W.hideAll B [C]).get? b = some o → B.get? b = some o ∧ b ≠ C := fun b o e => ⟨PySem.W.of_hideAll _ e, fun z => by
    rw [z, PySem.W.hideAll_none _ (List.mem_cons_self)] at e; cases e⟩
  have nn : ∀ b, B.get? b = none → (PySem.W.hideAll B [C]).get? b = none := fun b e => by
    cases q : (PySem.W.hideAll B [C]).get? b with
    | none => rfl
    | some o => rw [(hid b o q).1] at e; cases e
  refine ⟨fun b o e => (k.2 b (hid b o e).2).trans (hkb b o (hid b o e).1), nn _ hb, ?_, oe, vs, T, oT, ts, (k.2 _ (nfC _ _ _ he hd)).trans he, hcls, hd, h1, nn _ hnT, hTe, (k.2 _ (nfC _ _ _ hT hdT)).trans hT, hdT, h3⟩
  have key : ∀ l : List Env, h.FunFrames B l → C ∉ frs l → h'.FunFrames (PySem.W.hideAll B [C]) l := by
    intro l
    induction l with
    | nil => intro _ _; trivial
    | cons env r ih =>
      rintro ⟨z, ⟨Lf, o, hf, hn, ho, hd⟩, hr⟩ hC
      have e : frs (env :: r) = Lf :: frs r := by unfold frs; rw [List.filterMap_cons, hf]
      rw [e] at hC
      exact ⟨z, ⟨Lf, o, hf, nn _ hn, (k.2 _ fun q => hC (q ▸ List.mem_cons_self)).trans ho, hd⟩, ih hr fun q => hC (List.mem_cons_of_mem _ q)⟩
  exact key l hl hC
end
/-- an exception is held over the def's own frame, behind a block that was begun at s with H -/
def HeldE (X : Cx) (fp : List Addr) (H : Hp) (s : Shared) (C : Option Addr) (E1 : XK) : Value → Shared → Prop := fun e s' => ∃ (ea : Addr) (cls a0 : Value) (B : Heap) (H' : Hp) (d : Option Addr), e = .ref ea ∧ s'.os = s.os ∧ AllBare s'.gens ∧ Un (frs X.stack) fp H H' s.heap s'.heap ∧ HOk X.prog X.w H' s'.heap ∧ Heap.HeldW B X.stack ea cls a0 X.env.locals s'.heap ∧
  (∀ b o, s'.heap.get? b = some o → ((s.heap.get? b ≠ none ∧ b ∉ fp) ∨ H' b ≠ none) → b ∉ frs X.stack → B.get? b = some o) ∧ H' ea = none ∧ (s.heap.get? ea = none ∨ ea ∈ fp) ∧ (∃ o, s'.heap.get? ea = some o ∧ o.dict = d ∧ (ctxF o = some .none ∨ ∀ d', E1 cls d' H')) ∧ (∀ c, C = some c → H' c = none ∧ ∃ m, s'.heap.Ns c m) ∧ E1 cls d H'
section
variable {X : Cx} {pins : List (Addr × Obj)} {σ : L2.St} {H : Hp} {s : Shared} {scope : Scope} {N : List Str} {target iter elt : Expr} {pos : Pos} {g : TG} {te : TE} {E1 : XK} {C : Addr} {ex : List Addr}
/-- the block's names go -/
theorem HeldE.gone {e : Value} {s' : Shared} {h' : Heap} (I : Inv X pins σ H s) (x : HeldE X ex H s (some C) E1 e s') (hC : s.heap.objs.size ≤ C) (k : Heap.SameBut C s'.heap h') : HeldE X ex H s none E1 e { s' with heap := h' } := by
  obtain ⟨ea, cls, a0, B, H', d, rfl, os, bare, un, hok, held, bk, n1, new, ⟨o0, ho0, hd0⟩, hc, hE⟩ := x
  obtain ⟨nC, m, hn⟩ := hc C rfl
  have neS : ∀ b o, s.heap.get? b = some o → b ≠ C := fun b o e => Nat.ne_of_lt (Nat.lt_of_lt_of_le (Heap.lt_size e) hC)
  have hCf : C ∉ frs X.stack := fun z => by obtain ⟨o, e⟩ := frs_obj I C z; exact neS C o e rfl
  have neH : ∀ b, H' b ≠ none → b ≠ C := fun b e z => e (z ▸ nC)
  have ned : ∀ b o (vs : Array Value), s'.heap.get? b = some o → o.data = .fields vs → b ≠ C := fun b o vs e q z => by
    obtain ⟨oc, es, nc, hoc, hdc, _⟩ := hn
    rw [z, hoc] at e; cases e; rw [hdc] at q; cases q
  have nea : ea ≠ C := by
    obtain ⟨_, _, _, oe, vs, T, oT, ts, he, hcls, hd, _⟩ := held
    exact ned ea oe vs he hd
  refine ⟨ea, cls, a0, _, H', d, rfl, os, bare, ⟨fun b o e n hb hx => (k.2 b (neS b o e)).trans (un.keep b o e n hb hx), fun b o e n hb hx => ?_, un.free, fun b o e hx => ?_, un.tups, un.frzs, un.tbls⟩, fun b o e => ?_, held_but held k hn hCf, fun b o e q nb => ?_, n1, new, ⟨o0, (k.2 ea nea).trans ho0, hd0⟩, fun c z => (by cases z), hE⟩
  · obtain ⟨sl, e1⟩ := un.slot b o e n hb hx
    exact ⟨sl, (k.2 b (neS b o e)).trans e1⟩
  · obtain ⟨o', e1⟩ := un.there b o e hx
    exact ⟨o', (k.2 b (neS b o e)).trans e1⟩
  · refine (hok b o e).stay (fun c u hc q => (k.2 c ?_).trans q) (fun _ q => q) fun _ _ q => q
    rcases hc with z | z
    · exact neH c (by rw [z, e]; simp)
    · exact neH c (by rw [z]; simp)
  · have nb2 : b ≠ C := by
      rcases q with ⟨q, _⟩ | q
      · cases z : s.heap.get? b with
        | none => exact (q z).elim
        | some u => exact neS b u z
      · exact neH b q
    exact PySem.W.hideAll_get _ (bk b o ((k.2 b nb2).symm.trans e) q nb) (by simpa using nb2)
end
end My
/-! ### raise C(..) from e, within an except suite -/
namespace My
open PySem PySem.Spec PyProof.Rows L2
section
variable {prog : Program} {w : World} {A : Around} {E : Value → Shared → Prop} {s : Shared} {env : Env} {K : PySem.W.Frag} {C ea : Addr} {o : Obj}
end
end My
/-! ### try: y = [..] / except S as n: raise C(..) from n -/
namespace My
open PySem PySem.Spec PyProof.Rows L2
section
variable {X : Cx} {pins : List (Addr × Obj)} {σ : L2.St} {H H' : Hp} {s : Shared} {fp : List Addr} {B h1 h2 : Heap} {ea : Addr}
/-- what is known of the place of an exception that came about behind s -/
structure EaOk (X : Cx) (pins : List (Addr × Obj)) (ea : Addr) : Prop where
  old : X.s₀.heap.get? ea = none
  loc : ea ≠ X.env.locals
  cell : ∀ x c, X.env.cells.lookup x = some c → c ≠ ea
  pin : ∀ p ∈ X.pn ++ pins, p.1 ≠ ea
end
end My
/-! ### behind raise C(..) from e: the suite's name goes, the def is left -/
namespace My
open PySem PySem.Spec PyProof.Rows L2
section
variable {X : Cx} {pins : List (Addr × Obj)} {σ : L2.St} {H : Hp} {s : Shared} {T : Addr} {h' : Heap}
end
section
variable {M : Model} {A : Around} {E : Value → Shared → Prop} {s : Shared} {B : Heap} {l : List Env} {env : Env} {ea L : Addr} {cls a0 : Value}
end
section
variable {X : Cx} {pins : List (Addr × Obj)} {σ : L2.St} {H : Hp} {s : Shared}
end
end My
/-! ### try: y = [..] / except S as n: raise C(..) from n: the rule -/
namespace My
open PySem PySem.Spec PyProof.Rows L2
section
variable {X : Cx} {pins : List (Addr × Obj)} {σ : L2.St} {H : Hp} {s : Shared} {fp : List Addr}
end
end My
/-! ### [..] whose element may raise, in a def that passes the exception on -/
namespace My
open PySem PySem.Spec PyProof.Rows L2
section
variable {X : Cx} {pins : List (Addr × Obj)} {σ : L2.St} {H : Hp} {s : Shared} {fp : List Addr} {E : XK}
end
end My
/-! ### a comprehension some of whose elements raise: what was good so far is kept -/
namespace My
open PySem PySem.Spec PyProof.Rows L2
end My
/-! ### a written number is the text of its value -/
namespace My
open PySem PySem.Spec PyProof.Rows L2 PySem.NumText
end My
/-! ### tokens are never given back -/
namespace My
open PySem PySem.Spec PyProof.Rows L2
end My
/-! ### text.replace(c, d): the tokens of c and d tell them apart where none of them is 0 -/
namespace My
open PySem PySem.Spec PyProof.Rows L2
/-- as PE, PA, PSs, where a token was taken before -/
structure PET (X : Cx) (e : Expr) (t : TE) : Prop where
  run : ∀ (pins : List (Addr × Obj)) (s : Shared) (σ : L2.St) (H : Hp) (Q : VK), 0 < s.toks → Inv X pins σ H s → t σ H Q → wpAny (model X.prog X.w) X.A (eval e X.env) (EP X pins σ Q) X.xe s
structure PAT (X : Cx) (es : List Expr) (t : TA) : Prop where
  run : ∀ (pos : Pos) (pins : List (Addr × Obj)) (s : Shared) (σ : L2.St) (H : Hp) (Q : List V → Hp → Prop), 0 < s.toks → Inv X pins σ H s → t σ H Q → wpAny (model X.prog X.w) X.A (spliced (backTo pos (starEach es X.env))) (AP X pins σ Q) X.xe s
structure PSsT (X : Cx) (st : List Stmt) (t : TS) : Prop where
  run : ∀ (pins : List (Addr × Obj)) (s : Shared) (σ : L2.St) (H : Hp) (D : Ends), 0 < s.toks → Inv X pins σ H s → t D σ H → wpAny (model X.prog X.w) X.A (execs st X.env) (SP X pins D) X.xe s
section
variable {X : Cx} {e a b : Expr} {es : List Expr} {te ta tb : TE} {t : TA} {pos : Pos}
theorem PET.of (h : PE X e te) : PET X e te := ⟨fun pins s σ H Q _ I q => h.run pins s σ H Q I q⟩
end
/-! ### what replace gives -/
theorem mem_join (sep : Str) : ∀ (l : List Str) (p : Str), p ∈ l → ∀ c ∈ p.cps.toList, c ∈ (Str.join sep l).cps.toList
  | [], p, h => by cases h
  | [x], p, h => by cases List.mem_singleton.mp h; exact fun _ h => h
  | x :: y :: r, p, h => by
    have e : (Str.join sep (x :: y :: r)).cps.toList = x.cps.toList ++ sep.cps.toList ++ (Str.join sep (y :: r)).cps.toList := by
      show (x ++ sep ++ Str.join sep (y :: r)).cps.toList = _
      rw [app_codes, app_codes]
    rw [e]
    rcases List.mem_cons.mp h with z | z
    · subst z
      exact fun c hc => by simp [hc]
    · exact fun c hc => by simp [mem_join sep (y :: r) p z c hc]
theorem codes_join (sep : Str) : ∀ (l : List Str) (c : Nat), c ∈ (Str.join sep l).cps.toList → c ∈ sep.cps.toList ∨ ∃ p ∈ l, c ∈ p.cps.toList
  | [], c, h => by
    have e : (Str.join sep []).cps.toList = [] := rfl
    rw [e] at h; cases h
  | [x], c, h => .inr ⟨x, by simp, h⟩
  | x :: y :: r, c, h => by
    have e : (Str.join sep (x :: y :: r)).cps.toList = x.cps.toList ++ sep.cps.toList ++ (Str.join sep (y :: r)).cps.toList := by
      show (x ++ sep ++ Str.join sep (y :: r)).cps.toList = _
      rw [app_codes, app_codes]
    rw [e] at h
    rcases List.mem_append.mp h with z | z
    · rcases List.mem_append.mp z with z | z
      · exact .inr ⟨x, by simp, z⟩
      · exact .inl z
    · rcases codes_join sep (y :: r) c z with z | ⟨p, hp, hc⟩
      · exact .inl z
      · exact .inr ⟨p, by simp [List.mem_cons.mp hp], hc⟩
theorem replace_codes (x y z : Str) (c : Nat) (h : c ∈ (Txt.replace x y z).cps.toList) : c ∈ x.cps.toList ∨ c ∈ z.cps.toList := by
  unfold Txt.replace at h
  split at h
  · exact .inl h
  · rw [PySem.StrLaws.glued_eq_join] at h
    rcases codes_join z _ c h with q | ⟨p, hp, hc⟩
    · exact .inr q
    · have g := PySem.StrLaws.glued_between_self x y (x.length + 1)
      rw [PySem.StrLaws.glued_eq_join] at g
      have m := mem_join y _ p hp c hc
      rw [g] at m
      exact .inl m
theorem replace_len (x y z : Str) : (Txt.replace x y z).length ≤ x.length + (x.length + 1) * z.length := by
  unfold Txt.replace
  split
  · omega
  · have h1 := PySem.StrLaws.occ_length_le x y 0 x.length (x.length + 1)
    have hy : (Builtin.Str.glued y (Builtin.Str.partsBetween x (Builtin.Str.occurrences x y 0 x.length (x.length + 1)) y.length)).length = x.length := by rw [PySem.StrLaws.glued_between_self]
    rw [PySem.size_glued, PySem.length_partsBetween, Nat.add_sub_cancel] at hy
    rw [PySem.size_glued, PySem.length_partsBetween, Nat.add_sub_cancel]
    have h2 : (Builtin.Str.occurrences x y 0 x.length (x.length + 1)).length * z.length ≤ (x.length + 1) * z.length := Nat.mul_le_mul_right _ h1
    omega
theorem Short.repl {n m k : Nat} {x z : Str} (y : Str) (hx : Short n x) (hz : Short m z) (hk : n + (n + 1) * m ≤ k) : Short k (Txt.replace x y z) := by
  refine ⟨?_, fun c hc => ?_⟩
  · have h1 := replace_len x y z
    have h2 := hx.1
    have h3 : (x.length + 1) * z.length ≤ (n + 1) * m := Nat.mul_le_mul (by omega) hz.1
    omega
  · rcases replace_codes x y z c hc with q | q
    · exact hx.2 c q
    · exact hz.2 c q
theorem Short.up {n : Nat} {x : Str} (hx : Short n x) (ha : ∀ c ∈ x.cps.toList, c < 128) : Short n (Txt.upper x) := by
  rw [upper_ascii ha]
  refine ⟨?_, fun c hc => ?_⟩
  · have e : (⟨x.cps.map up1⟩ : Str).length = x.length := by simp [Str.length]
    rw [e]
    exact hx.1
  · have hc' : c ∈ x.cps.toList.map up1 := by simpa using hc
    obtain ⟨d, hd, rfl⟩ := List.mem_map.mp hc'
    have h1 := ha d hd
    have key : ∀ d, d < 128 → up1 d < 16 ^ 8 := by decide +kernel
    exact key d h1
end My
/-! ### text.find(c) -/
namespace My
open PySem PySem.Spec PyProof.Rows L2
end My
/-! ### what histories rest on: rstrip, abs, len(set(numbers)), sep.join(reversed(texts)), what is never reached -/
namespace My
open PySem PySem.Spec PyProof.Rows L2 PyProof
/-! sep.join(reversed(texts)) -/
section
variable {prog : Program} {w : World} {A : Around} {E : Value → Shared → Prop} {s : Shared}
end
/-! isinstance(x, (list, tuple)) -/
/-! ### trees in the heap: numbers and texts in lists and tuples -/
mutual
inductive Tr (H : Hp) : V → PyData → Prop where
  | int (i : Int) : Tr H (.int i) (.int i)
  | str (x : Str) : Tr H (.str x) (.str x)
  | lst {a : Addr} {xs : List V} {ds : List PyData} (h : H a = some (.lst xs)) (r : Trs H xs ds) : Tr H (.ref a) (.list ds)
  | tup {a : Addr} {xs : List V} {ds : List PyData} (h : H a = some (.tup xs)) (r : Trs H xs ds) : Tr H (.ref a) (.tuple ds)
inductive Trs (H : Hp) : List V → List PyData → Prop where
  | nil : Trs H [] []
  | cons {x : V} {d : PyData} {xs : List V} {ds : List PyData} (h : Tr H x d) (r : Trs H xs ds) : Trs H (x :: xs) (d :: ds)
end
mutual
theorem Tr.same {H H' : Hp} (s : Same H H') {v : V} {d : PyData} (h : Tr H v d) : Tr H' v d := by
  cases h with
  | int i => exact .int i
  | str x => exact .str x
  | lst h r => exact .lst (s _ _ h) (Trs.same s r)
  | tup h r => exact .tup (s _ _ h) (Trs.same s r)
theorem Trs.same {H H' : Hp} (s : Same H H') {vs : List V} {ds : List PyData} (h : Trs H vs ds) : Trs H' vs ds := by
  cases h with
  | nil => exact .nil
  | cons h r => exact .cons (Tr.same s h) (Trs.same s r)
end
mutual
theorem Tr.dt {K : PySem.W.Frag} {H : Hp} {v : V} {d : PyData} (h : Tr H v d) : Dt K H v d := by
  cases h with
  | int i => exact .int i
  | str x => exact .str x
  | lst h r => exact .lst (SqL.of h) (Trs.dts r)
  | tup h r => exact .tup (SqT.of h) (Trs.dts r)
theorem Trs.dts {K : PySem.W.Frag} {H : Hp} {vs : List V} {ds : List PyData} (h : Trs H vs ds) : Dts K H vs ds := by
  cases h with
  | nil => exact .nil
  | cons h r => exact .cons (Tr.dt h) (Trs.dts r)
end
theorem Trs.len {H : Hp} : ∀ {vs : List V} {ds : List PyData}, Trs H vs ds → vs.length = ds.length
  | _, _, .nil => rfl
  | _, _, .cons _ r => by simp only [List.length_cons, Trs.len r]
theorem Trs.get {H : Hp} : ∀ {vs : List V} {ds : List PyData}, Trs H vs ds → ∀ {i : Nat} {v : V}, vs[i]? = some v → ∃ d, ds[i]? = some d ∧ Tr H v d
  | _, _, .nil, i, v, e => by simp at e
  | _, _, .cons h r, 0, v, e => by cases e; exact ⟨_, rfl, h⟩
  | _, _, .cons h r, i + 1, v, e => Trs.get r (i := i) (by simpa using e)
theorem Trs.at {H : Hp} : ∀ {vs : List V} {ds : List PyData}, Trs H vs ds → ∀ {i : Nat} {d : PyData}, ds[i]? = some d → ∃ v, vs[i]? = some v ∧ Tr H v d
  | _, _, .nil, i, v, e => by simp at e
  | _, _, .cons h r, 0, v, e => by cases e; exact ⟨_, rfl, h⟩
  | _, _, .cons h r, i + 1, v, e => Trs.at r (i := i) (by simpa using e)
theorem Trs.ints {H : Hp} : ∀ {vs : List V} {ns : List Int}, Trs H vs (ns.map PyData.int) → vs = ns.map V.int
  | _, [], .nil => rfl
  | _, n :: r, .cons h q => by cases h; rw [Trs.ints q]; rfl
end My
/-! ### comprehensions over lists of trees -/
namespace My
open PySem PySem.Spec PyProof.Rows L2
end My
/-! ### what the model's sort of fewer than 64 things asks, answered by a number for each: they come out rising -/
namespace My
open PySem PySem.W PyProof.Rows
/-- what the asking comes to if the thing i has the number f i -/
def outT {α : Type} (f : Nat → Int) : KasT α → α
  | .ret a => a
  | .ask i j k => outT f (k (decide (f i < f j)))
section
open L2
end
theorem us1 {α : Type} {us : List α} (h : us.length = 1) : ∃ a, us = [a] := List.length_eq_one_iff.mp h
theorem us2 {α : Type} {us : List α} (h : us.length = 2) : ∃ a b, us = [a, b] := by
  obtain ⟨a, t, rfl⟩ := List.exists_cons_of_length_eq_add_one h
  obtain ⟨b, rfl⟩ := us1 (Nat.succ.inj h)
  exact ⟨a, b, rfl⟩
end My
/-! ### a set's table, as it is walked: what is laid is found again -/
namespace My
open PySem PySem.SetTable
theorem nodup_sub_len {α : Type} [DecidableEq α] : ∀ {l m : List α}, l.Nodup → (∀ x ∈ l, x ∈ m) → l.length ≤ m.length
  | [], _, _, _ => Nat.zero_le _
  | a :: r, m, h, s => by
    obtain ⟨h1, h2⟩ := List.nodup_cons.mp h
    have ha : a ∈ m := s a List.mem_cons_self
    have := nodup_sub_len (m := m.erase a) h2 fun x hx => (List.mem_erase_of_ne (fun (e : x = a) => h1 (by rw [← e]; exact hx))).mpr (s x (List.mem_cons_of_mem _ hx))
    rw [List.length_erase_of_mem ha] at this
    have := List.length_pos_of_mem ha
    rw [List.length_cons]
    omega
/-- the leaps of a search for the hash h: where each run begins, and what is left of the hash -/
def LS (mask : Nat) (h : Int) : Nat → Nat × Nat
  | 0 => (bits h % (mask + 1), bits h)
  | r + 1 => leap mask (LS mask h r).1 (LS mask h r).2
def rl (mask i : Nat) : Nat := runEnd mask i - i
theorem rl_end {mask i k : Nat} (hi : i ≤ mask) (h : k ≤ rl mask i) : i + k ≤ mask := by
  unfold rl runEnd at h
  split at h <;> omega
theorem ls_le (mask : Nat) (h : Int) : ∀ r, (LS mask h r).1 ≤ mask
  | 0 => Nat.le_of_lt_succ (Nat.mod_lt _ (Nat.succ_pos _))
  | _ + 1 => Nat.le_of_lt_succ (Nat.mod_lt _ (Nat.succ_pos _))
theorem ls_per (mask : Nat) (h : Int) : ∀ r, (LS mask h r).2 = bits h / 32 ^ r
  | 0 => by simp [LS]
  | r + 1 => by
    show (LS mask h r).2 / 32 = _
    rw [ls_per mask h r, Nat.div_div_eq_div_mul, Nat.pow_succ]
theorem bits_lt (h : Int) : bits h < 2 ^ 64 := by
  unfold bits
  have h1 := Int.emod_nonneg h (show (2 ^ 64 : Int) ≠ 0 by decide)
  have h2 := Int.emod_lt_of_pos h (show (0 : Int) < 2 ^ 64 by decide)
  omega
theorem ls_late (mask : Nat) (h : Int) (n : Nat) : (LS mask h (12 + n + 1)).1 = ((LS mask h (12 + n)).1 * 5 + 1) % (mask + 1) := by
  show ((LS mask h (12 + n)).1 * 5 + 1 + (LS mask h (12 + n)).2 / 32) % (mask + 1) = _
  have e : (LS mask h (12 + n)).2 / 32 = 0 := by
    rw [ls_per, Nat.div_div_eq_div_mul, ← Nat.pow_succ]
    refine Nat.div_eq_of_lt (Nat.lt_of_lt_of_le (bits_lt h) ?_)
    exact Nat.le_trans (show 2 ^ 64 ≤ 32 ^ 13 by decide) (Nat.pow_le_pow_right (by decide) (by omega))
  rw [e]
def itN (N : Nat) : Nat → Nat → Nat
  | 0, i => i
  | n + 1, i => itN N n ((i * 5 + 1) % N)
theorem itN_add (N : Nat) : ∀ a b i, itN N (a + b) i = itN N b (itN N a i)
  | 0, b, i => by rw [Nat.zero_add]; rfl
  | a + 1, b, i => by
    rw [show a + 1 + b = (a + b) + 1 by omega]
    exact itN_add N a b _
theorem ls_it (mask : Nat) (h : Int) : ∀ n, (LS mask h (12 + n)).1 = itN (mask + 1) n (LS mask h 12).1
  | 0 => rfl
  | n + 1 => by
    rw [show 12 + (n + 1) = 12 + n + 1 by omega, ls_late, ls_it mask h n, itN_add]
    rfl
def Size (mask : Nat) : Prop := mask = 7 ∨ mask = 31 ∨ mask = 127
theorem it_all {mask : Nat} (hm : Size mask) : (∀ j < mask + 1, ∃ n < mask + 1, itN (mask + 1) n 0 = j) ∧ itN (mask + 1) (mask + 1) 0 = 0 := by
  rcases hm with rfl | rfl | rfl
  · decide +kernel
  · decide +kernel
  · decide +kernel
theorem reach {mask : Nat} (hm : Size mask) (h : Int) {j : Nat} (hj : j ≤ mask) : ∃ r, r < turns mask ∧ (LS mask h r).1 = j := by
  obtain ⟨all, back⟩ := it_all hm
  obtain ⟨a, ha, ea⟩ := all (LS mask h 12).1 (Nat.lt_succ_of_le (ls_le mask h 12))
  obtain ⟨b, hb, eb⟩ := all j (Nat.lt_succ_of_le hj)
  by_cases hab : a ≤ b
  · refine ⟨12 + (b - a), by unfold turns; omega, ?_⟩
    rw [ls_it, ← ea, ← itN_add, show a + (b - a) = b by omega, eb]
  · refine ⟨12 + (b + (mask + 1) - a), by unfold turns; omega, ?_⟩
    rw [ls_it, ← ea, ← itN_add, show a + (b + (mask + 1) - a) = (mask + 1) + b by omega, itN_add, back, eb]
def Ps (mask : Nat) (h : Int) (r k : Nat) : Nat := (LS mask h r).1 + k
/-- all that the search for h meets ahead of the place k of the run r is ok -/
def Bef (mask : Nat) (h : Int) (ok : Nat → Prop) (r k : Nat) : Prop := (∀ r', r' < r → ∀ k', k' ≤ rl mask (LS mask h r').1 → ok (Ps mask h r' k')) ∧ ∀ k', k' < k → ok (Ps mask h r k')
theorem Bef.mono {mask : Nat} {h : Int} {p q : Nat → Prop} {r k : Nat} (b : Bef mask h p r k) (i : ∀ j, p j → q j) : Bef mask h q r k := ⟨fun r' a k' c => i _ (b.1 r' a k' c), fun k' a => i _ (b.2 k' a)⟩
theorem Bef.zero (mask : Nat) (h : Int) (ok : Nat → Prop) : Bef mask h ok 0 0 := ⟨fun _ a => absurd a (Nat.not_lt_zero _), fun _ a => absurd a (Nat.not_lt_zero _)⟩
theorem Bef.more {mask : Nat} {h : Int} {ok : Nat → Prop} {r k : Nat} (b : Bef mask h ok r k) (o : ok (Ps mask h r k)) : Bef mask h ok r (k + 1) :=
  ⟨b.1, fun k' a => by
    rcases Nat.lt_succ_iff_lt_or_eq.mp a with z | z
    · exact b.2 k' z
    · exact z ▸ o⟩
theorem Bef.next {mask : Nat} {h : Int} {ok : Nat → Prop} {r : Nat} (b : Bef mask h ok r (rl mask (LS mask h r).1 + 1)) : Bef mask h ok (r + 1) 0 :=
  ⟨fun r' a k' c => by
    rcases Nat.lt_succ_iff_lt_or_eq.mp a with z | z
    · exact b.1 r' z k' c
    · subst z; exact b.2 k' (Nat.lt_succ_of_le c), fun _ a => absurd a (Nat.not_lt_zero _)⟩
def insL {α : Type} (p : Nat) (x : α) (l : List α) : List α := l.take p ++ x :: l.drop p
theorem ins_toList {α : Type} (xs : Array α) (p : Nat) (x : α) : (insertAt xs p x).toList = insL p x xs.toList := by
  unfold insertAt insL
  simp
  exact List.take_of_length_le (by simp)
theorem insL_zip {α β : Type} {l : List α} {m : List β} (hl : l.length = m.length) (p : Nat) (x : α) (y : β) : (insL p x l).zip (insL p y m) = insL p (x, y) (l.zip m) := by
  unfold insL
  rw [List.zip_append (by simp [hl]), List.zip_cons_cons]
  show List.zipWith Prod.mk (l.take p) (m.take p) ++ (x, y) :: List.zipWith Prod.mk (l.drop p) (m.drop p) = (List.zipWith Prod.mk l m).take p ++ (x, y) :: (List.zipWith Prod.mk l m).drop p
  rw [List.take_zipWith, List.drop_zipWith]
theorem insL_mem {α : Type} {p : Nat} {x z : α} {l : List α} : z ∈ insL p x l ↔ z = x ∨ z ∈ l := by
  unfold insL
  rw [List.mem_append, List.mem_cons]
  constructor
  · rintro (a | a | a)
    · exact .inr (List.mem_of_mem_take a)
    · exact .inl a
    · exact .inr (List.mem_of_mem_drop a)
  · rintro (a | a)
    · exact .inr (.inl a)
    · rw [← List.take_append_drop p l] at a
      rcases List.mem_append.mp a with z | z
      · exact .inl z
      · exact .inr (.inr z)
theorem insL_perm {α : Type} (p : Nat) (x : α) (l : List α) : (insL p x l).Perm (x :: l) := by
  unfold insL
  refine List.perm_middle.trans ?_
  rw [List.take_append_drop]
/-- a table in which each entry stands on the way of its hash, behind entries only -/
structure TT (t : SetTable) (es : List (Int × Value)) : Prop where
  size : Size t.mask
  up : Ris t.place
  nd : t.dummies = #[]
  within : ∀ j ∈ t.place.toList, j ≤ t.mask
  len : t.place.toList.length = es.length
  fnd : ∀ j e, (j, e) ∈ t.place.toList.zip es → ∃ r k, k ≤ rl t.mask (LS t.mask e.1 r).1 ∧ Ps t.mask e.1 r k = j ∧ Bef t.mask e.1 (· ∈ t.place.toList) r k
theorem TT.ok {t : SetTable} {es : List (Int × Value)} (T : TT t es) : TOk t := ⟨T.up, T.nd⟩
theorem TT.fresh (f m : Nat) (l : Bool) : TT (.fresh f m l) [] := ⟨.inl rfl, List.Pairwise.nil, rfl, (fun _ h => by cases h), rfl, (fun _ _ h => by cases h)⟩
theorem TT.room {t : SetTable} {es : List (Int × Value)} (T : TT t es) (h : Int) (few : es.length ≤ t.mask) : ∃ r, r < turns t.mask ∧ (LS t.mask h r).1 ∉ t.place.toList := by
  have : ∃ j, j ≤ t.mask ∧ j ∉ t.place.toList := by
    apply Classical.byContradiction
    intro z
    have := nodup_sub_len (l := List.range (t.mask + 1)) (m := t.place.toList) List.nodup_range fun x hx => Classical.byContradiction fun y => z ⟨x, Nat.le_of_lt_succ (List.mem_range.mp hx), y⟩
    rw [List.length_range, T.len] at this
    omega
  obtain ⟨j, hj, hn⟩ := this
  obtain ⟨r, hr, e⟩ := reach T.size h hj
  exact ⟨r, hr, e ▸ hn⟩
theorem TT.put {t : SetTable} {es : List (Int × Value)} (T : TT t es) {z : Int} {x : Value} {r k : Nat} (hk : k ≤ rl t.mask (LS t.mask z r).1) (b : Bef t.mask z (· ∈ t.place.toList) r k) (hn : Ps t.mask z r k ∉ t.place.toList) :
    TT (t.put (Ps t.mask z r k)).1 (insL (t.put (Ps t.mask z r k)).2 (z, x) es) ∧ (t.put (Ps t.mask z r k)).1.led = t.led := by
  have h1 := T.ok.put hn
  have pl : (t.put (Ps t.mask z r k)).1.place.toList = insL (t.put (Ps t.mask z r k)).2 (Ps t.mask z r k) t.place.toList := ins_toList _ _ _
  have mk : (t.put (Ps t.mask z r k)).1.mask = t.mask := rfl
  have mem : ∀ j, j ∈ t.place.toList → j ∈ (t.put (Ps t.mask z r k)).1.place.toList := fun j hj => by rw [pl]; exact insL_mem.mpr (.inr hj)
  refine ⟨⟨T.size, h1.1.up, h1.1.nd, fun j hj => ?_, ?_, fun j e he => ?_⟩, h1.2⟩
  · rw [pl] at hj
    rcases insL_mem.mp hj with q | q
    · rw [q]; exact rl_end (ls_le _ _ _) hk
    · exact T.within j q
  · rw [pl]
    have a := (insL_perm (t.put (Ps t.mask z r k)).2 (Ps t.mask z r k) t.place.toList).length_eq
    have c := (insL_perm (t.put (Ps t.mask z r k)).2 (z, x) es).length_eq
    rw [a, c, List.length_cons, List.length_cons, T.len]
  · rw [pl, insL_zip T.len] at he
    rcases insL_mem.mp he with q | q
    · cases q
      exact ⟨r, k, hk, rfl, b.mono mem⟩
    · obtain ⟨r', k', a1, a2, a3⟩ := T.fnd j e q
      exact ⟨r', k', a1, a2, a3.mono mem⟩
end My
/-! ### a set's table laid anew: nothing is lost, and all is found again -/
namespace My
open PySem PySem.SetTable
def Occ (ow : Array (Option Nat)) (j : Nat) : Prop := ∃ m, ow[j]? = some (some m)
theorem occ_getD {ow : Array (Option Nat)} {j : Nat} (hj : j < ow.size) : (ow.getD j (some 0)).isNone = true ↔ ¬ Occ ow j := by
  have e : ow[j]? = some ow[j] := Array.getElem?_eq_getElem hj
  have e2 : ow.getD j (some 0) = ow[j] := by simp [Array.getD, hj]
  rw [e2]
  unfold Occ
  rw [e]
  cases ow[j] with
  | none => simp
  | some m => simp
theorem free_at {mask : Nat} {h : Int} {ow : Array (Option Nat)} (hs : ow.size = mask + 1) (room : ∃ r, r < turns mask ∧ ¬ Occ ow (LS mask h r).1) : ∀ (fuel r : Nat), Bef mask h (Occ ow) r 0 → turns mask ≤ fuel + r →
    ∃ r1 k1, k1 ≤ rl mask (LS mask h r1).1 ∧ Bef mask h (Occ ow) r1 k1 ∧ ¬ Occ ow (Ps mask h r1 k1) ∧ layClean.free mask ow fuel (LS mask h r).1 (LS mask h r).2 = some (Ps mask h r1 k1) := by
  obtain ⟨r0, hr0, h0⟩ := room
  intro fuel
  induction fuel with
  | zero =>
    intro r b hf
    exact absurd (b.1 r0 (by omega) 0 (Nat.zero_le _)) h0
  | succ fuel ih =>
    intro r b hf
    have rn : runEnd mask (LS mask h r).1 + 1 - (LS mask h r).1 = rl mask (LS mask h r).1 + 1 := by
      unfold rl runEnd
      split <;> omega
    have inb : ∀ k, k ≤ rl mask (LS mask h r).1 → (LS mask h r).1 + k < ow.size := fun k hk => by rw [hs]; exact Nat.lt_succ_of_le (rl_end (ls_le _ _ _) hk)
    cases hf0 : (List.range (rl mask (LS mask h r).1 + 1)).find? (fun k => (ow.getD ((LS mask h r).1 + k) (some 0)).isNone) with
    | none =>
      have all := List.find?_eq_none.mp hf0
      have oc : ∀ k, k ≤ rl mask (LS mask h r).1 → Occ ow (Ps mask h r k) := fun k hk => by
        have := all k (List.mem_range.mpr (Nat.lt_succ_of_le hk))
        rw [occ_getD (inb k hk)] at this
        exact Classical.not_not.mp this
      have b' : Bef mask h (Occ ow) r (rl mask (LS mask h r).1 + 1) := ⟨b.1, fun k hk => oc k (Nat.le_of_lt_succ hk)⟩
      obtain ⟨r1, k1, a1, a2, a3, a4⟩ := ih (r + 1) b'.next (by omega)
      refine ⟨r1, k1, a1, a2, a3, ?_⟩
      unfold layClean.free
      rw [rn, hf0]
      exact a4
    | some k =>
      obtain ⟨p1, p2, p3⟩ := List.find?_range_eq_some.mp hf0
      have hk : k ≤ rl mask (LS mask h r).1 := Nat.le_of_lt_succ (List.mem_range.mp p2)
      refine ⟨r, k, hk, ⟨b.1, fun k' hk' => ?_⟩, (occ_getD (inb k hk)).mp p1, ?_⟩
      · have := p3 k' hk'
        have n : ¬ (ow.getD ((LS mask h r).1 + k') (some 0)).isNone = true := fun q => by rw [q] at this; cases this
        rw [occ_getD (inb k' (by omega))] at n
        exact Classical.not_not.mp n
      · unfold layClean.free
        rw [rn, hf0]
        rfl
/-- the slots with all of hs laid -/
structure LI (mask : Nat) (hs : List Int) (ow : Array (Option Nat)) : Prop where
  sz : ow.size = mask + 1
  at_ : ∀ (j m : Nat), ow[j]? = some (some m) → ∃ z, hs[m]? = some z ∧ ∃ r k, k ≤ rl mask (LS mask z r).1 ∧ Ps mask z r k = j ∧ Bef mask z (Occ ow) r k
  one : ∀ (j j' m : Nat), ow[j]? = some (some m) → ow[j']? = some (some m) → j = j'
  all : ∀ (m : Nat), m < hs.length → ∃ (j : Nat), ow[j]? = some (some m)
theorem LI.nil (mask : Nat) : LI mask [] (Array.replicate (mask + 1) none) := by
  have no : ∀ (j m : Nat), (Array.replicate (mask + 1) (none : Option Nat))[j]? = some (some m) → False := fun j m e => by
    rw [Array.getElem?_replicate] at e
    split at e <;> cases e
  exact ⟨by simp, fun j m e => (no j m e).elim, fun j j' m e => (no j m e).elim, fun m h => absurd h (Nat.not_lt_zero _)⟩
theorem LI.room {mask : Nat} {hs : List Int} {ow : Array (Option Nat)} (L : LI mask hs ow) (hm : Size mask) (few : hs.length ≤ mask) (z : Int) : ∃ r, r < turns mask ∧ ¬ Occ ow (LS mask z r).1 := by
  have : ∃ j, j ≤ mask ∧ ¬ Occ ow j := by
    apply Classical.byContradiction
    intro n
    have oc : ∀ (j : Nat), j < mask + 1 → ∃ m, ow[j]? = some (some m) := fun j hj => Classical.byContradiction fun y => n ⟨j, Nat.le_of_lt_succ hj, y⟩
    have nd : ((List.range (mask + 1)).map fun j => ((ow[j]?).join).getD 0).Nodup := by
      refine List.pairwise_map.mpr (List.Pairwise.imp_of_mem (fun {a b} ha hb hne e => ?_) (List.nodup_range (n := mask + 1)))
      obtain ⟨m, em⟩ := oc a (List.mem_range.mp ha)
      obtain ⟨m', em'⟩ := oc b (List.mem_range.mp hb)
      rw [em, em'] at e
      have e' : m = m' := by simpa using e
      subst e'
      exact hne (L.one a b m em em')
    have := nodup_sub_len (m := List.range hs.length) nd fun x hx => by
      obtain ⟨j, hj, ej⟩ := List.mem_map.mp hx
      obtain ⟨m, em⟩ := oc j (List.mem_range.mp hj)
      rw [em] at ej
      have : m = x := by simpa using ej
      subst this
      obtain ⟨y, hy, _⟩ := L.at_ j m em
      exact List.mem_range.mpr (List.getElem?_eq_some_iff.mp hy).1
    rw [List.length_map, List.length_range, List.length_range] at this
    omega
  obtain ⟨j, hj, hn⟩ := this
  obtain ⟨r, hr, e⟩ := reach hm z hj
  exact ⟨r, hr, e ▸ hn⟩
theorem LI.snoc {mask : Nat} {hs : List Int} {ow : Array (Option Nat)} (L : LI mask hs ow) (hm : Size mask) (few : hs.length ≤ mask) (z : Int) :
    ∃ j, layClean.free mask ow (turns mask) (bits z % (mask + 1)) (bits z) = some j ∧ LI mask (hs ++ [z]) (ow.setIfInBounds j (some hs.length)) := by
  obtain ⟨r1, k1, a1, a2, a3, a4⟩ := free_at (h := z) L.sz (L.room hm few z) (turns mask) 0 (Bef.zero _ _ _) (by omega)
  refine ⟨_, a4, ?_⟩
  have inb : Ps mask z r1 k1 < ow.size := by rw [L.sz]; exact Nat.lt_succ_of_le (rl_end (ls_le _ _ _) a1)
  have get : ∀ (j : Nat), (ow.setIfInBounds (Ps mask z r1 k1) (some hs.length))[j]? = if Ps mask z r1 k1 = j then some (some hs.length) else ow[j]? := fun j => by
    rw [Array.getElem?_setIfInBounds]
    by_cases e : Ps mask z r1 k1 = j
    · rw [if_pos e, if_pos e, if_pos inb]
    · rw [if_neg e, if_neg e]
  have mono : ∀ j, Occ ow j → Occ (ow.setIfInBounds (Ps mask z r1 k1) (some hs.length)) j := fun j ⟨m, em⟩ => by
    refine ⟨m, ?_⟩
    rw [get, if_neg (fun (e : Ps mask z r1 k1 = j) => a3 ⟨m, by rw [e]; exact em⟩)]
    exact em
  have lt : ∀ (j m : Nat), ow[j]? = some (some m) → m < hs.length := fun j m em => by
    obtain ⟨y, hy, _⟩ := L.at_ j m em
    exact (List.getElem?_eq_some_iff.mp hy).1
  refine ⟨by simp [L.sz], fun j m em => ?_, fun j j' m em em' => ?_, fun m hmm => ?_⟩
  · rw [get] at em
    by_cases e : Ps mask z r1 k1 = j
    · rw [if_pos e] at em
      have e' : hs.length = m := by simpa using em
      subst e'
      exact ⟨z, by simp, r1, k1, a1, e, a2.mono mono⟩
    · rw [if_neg e] at em
      obtain ⟨y, hy, r, k, c1, c2, c3⟩ := L.at_ j m em
      exact ⟨y, by rw [List.getElem?_append_left (lt j m em)]; exact hy, r, k, c1, c2, c3.mono mono⟩
  · rw [get] at em em'
    by_cases e : Ps mask z r1 k1 = j
    · by_cases e2 : Ps mask z r1 k1 = j'
      · exact e.symm.trans e2
      · rw [if_pos e] at em
        rw [if_neg e2] at em'
        have e' : hs.length = m := by simpa using em
        have := lt _ _ em'
        omega
    · rw [if_neg e] at em
      by_cases e2 : Ps mask z r1 k1 = j'
      · rw [if_pos e2] at em'
        have e' : hs.length = m := by simpa using em'
        have := lt _ _ em
        omega
      · rw [if_neg e2] at em'
        exact L.one j j' m em em'
  · rw [List.length_append, List.length_singleton] at hmm
    rcases Nat.lt_succ_iff_lt_or_eq.mp hmm with q | q
    · obtain ⟨j, ej⟩ := L.all m q
      refine ⟨j, ?_⟩
      rw [get, if_neg (fun (e : Ps mask z r1 k1 = j) => a3 ⟨m, by rw [e]; exact ej⟩)]
      exact ej
    · exact ⟨_, by rw [get, if_pos rfl, q]⟩
end My
/-! ### things with a hash by value: numbers, and tuples of two such -/
namespace My
open PySem PySem.Spec PyProof.Rows L2 PyProof PySem.SeqAt
/-- all tuples of h are in h' -/
def KpT (h h' : Heap) : Prop := ∀ b o xs n, h.get? b = some o → o.cls = .type "tuple" → o.data = .seq xs n → h'.get? b = some o
structure HVK (K : Type) [DecidableEq K] where
  is : Heap → K → Value → Prop
  hash : K → Int
  d : Nat
  inj : ∀ {h : Heap} {x y : K} {v : Value}, is h x v → is h y v → x = y
  keep : ∀ {h h' : Heap} {k : K} {v : Value}, is h k v → KpT h h' → is h' k v
  pyHash : ∀ {prog : Program} {w : World} {A : Around} {E : Value → Shared → Prop} {s : Shared} {k : K} {v : Value} {Q : Int → Shared → Prop}, A.units + d < cLine → is s.heap k v → (∀ tk, Q (hash k) { s with toks := tk }) → wpAny (model prog w) A (PySem.pyHash v) Q E s
  eq : ∀ {A : Around} {s : Shared} {x y : K} {u v : Value}, A.units + d < cLine → is s.heap x u → is s.heap y v → EqAt A s u v (decide (x = y))
  quiet : ∀ {prog : Program} {w : World} {A : Around} {E : Value → Shared → Prop} {s : Shared} {k : K} {v : Value} {Q : Bool → Shared → Prop} (n : Nat), d ≤ n → is s.heap k v → Q true s → wpAny (model prog w) A (eqIsQuiet n v) Q E s
  cls : ∀ {prog : Program} {w : World} {A : Around} {E : Value → Shared → Prop} {s : Shared} {k : K} {v : Value} {Q : Bool → Shared → Prop} (n : Nat), d ≤ n → is s.heap k v → Q false s → wpAny (model prog w) A (ofAClassStatement n v) Q E s
  byv : ∀ {prog : Program} {w : World} {A : Around} {E : Value → Shared → Prop} {s : Shared} {k : K} {v : Value} {Q : Bool → Shared → Prop} (n : Nat), d ≤ n → is s.heap k v → Q true s → wpAny (model prog w) A (hashByValue n v) Q E s
def HVK.int : HVK Int where
  is := fun _ k v => ∃ t, v = .int k t
  hash := hashInt
  d := 0
  inj := fun ⟨t, e⟩ ⟨t', e'⟩ => by subst e; cases e'; rfl
  keep := fun x _ => x
  pyHash := fun _ ⟨t, e⟩ h => by subst e; exact wpAny_pyHash_int (h _)
  eq := fun _ ⟨t, e⟩ ⟨t', e'⟩ prog w E Q h => by subst e; subst e'; exact wpAny_eqBool_int h
  quiet := fun n _ ⟨t, e⟩ h => by
    subst e
    rw [eqIsQuiet_byValue n rfl]
    exact wpAny_pure h
  cls := fun n _ ⟨t, e⟩ h => by
    subst e
    unfold ofAClassStatement
    exact wpAny_pure h
  byv := fun n _ ⟨t, e⟩ h => by
    subst e
    unfold hashByValue
    exact wpAny_pure h
section
variable {K L : Type} [DecidableEq K] [DecidableEq L]
def TupOf (h : Heap) (v u u' : Value) : Prop := ∃ a o n, v = .ref a ∧ h.get? a = some o ∧ o.cls = .type "tuple" ∧ o.data = .seq #[u, u'] n
theorem HVK.pair_hash (V : HVK K) (W : HVK L) {prog : Program} {w : World} {A : Around} {E : Value → Shared → Prop} {s : Shared} {x : K} {y : L} {v u u' : Value} {Q : Int → Shared → Prop} (hu : A.units + (max V.d W.d + 1) < cLine) (T : TupOf s.heap v u u') (hx : V.is s.heap x u) (hy : W.is s.heap y u')
    (h : ∀ tk, Q (reduceHash (Builtin.Tuple.tupleHashOf [V.hash x, W.hash y])) { s with toks := tk }) : wpAny (model prog w) A (PySem.pyHash v) Q E s := by
  obtain ⟨a, o, n, rfl, ho, hc, hd⟩ := T
  have hT : s.TypeIs (.ref a) "tuple" := ⟨o, ho, hc⟩
  have h1 : A.in1.units + V.d < cLine := by show A.units + 1 + V.d < cLine; have := Nat.le_max_left V.d W.d; omega
  have h2 : A.in1.units + W.d < cLine := by show A.units + 1 + W.d < cLine; have := Nat.le_max_right V.d W.d; omega
  unfold PySem.pyHash
  unfold pyHashByItsType; refine wpAny_bind (wpAny_cRoomFor_or (.inr (show A.units < cLine by omega)) (wpAny_bind (wpAny_specialOf hT PySem.F.slot_tuple_hash.lookup ?_)))
  rw [if_neg (show ¬ (some (Value.builtin "tuple.__hash__") == some Value.none) = true by rw [beq_builtin_none]; exact Bool.false_ne_true)]
  refine wpAny_bind (wpAny_specialOf hT PySem.F.slot_tuple_hash.lookup ?_)
  show wpAny _ _ (callSpecialIfBoundUnlessNone? (.ref a) (Str.ofString "__hash__") _ >>= _) _ _ _
  refine wpAny_bind (wpAny_callSpecialIfBoundUnlessNone?_slot hT PySem.F.slot_tuple_hash (wpAny_call_entry PySem.F.slot_tuple_hash hT PySem.F.entry_tuple_hash ?_ (PySem.F.args_tuple_hash_1 _)))
  show wpAny _ _ (Builtin.Tuple.tupleItemsOf (.ref a) >>= fun its => _) _ _ _
  refine wpAny_bind (wpAny_tupleItemsOf ho hd (wpAny_bind ?_))
  rw [← Array.forIn_toList, show (#[u, u'] : Array Value).toList = [u, u'] from rfl, List.forIn_cons]
  refine wpAny_bind (wpAny_bind (V.pyHash h1 hx fun tk1 => wpAny_pure ?_))
  show wpAny _ _ (forIn [u'] _ _) _ _ _
  rw [List.forIn_cons]
  refine wpAny_bind (wpAny_bind (W.pyHash h2 hy fun tk2 => wpAny_pure ?_))
  refine wpAny_pure (show wpAny _ _ (retInt (Builtin.Tuple.tupleHashOf [V.hash x, W.hash y])) _ _ _ from ?_)
  refine wpAny_ret_mkInt (show wpAny _ _ (if (decide (-(2 : Int) ^ 63 ≤ Builtin.Tuple.tupleHashOf [V.hash x, W.hash y]) && decide (Builtin.Tuple.tupleHashOf [V.hash x, W.hash y] < 2 ^ 63)) = true then _ else _) Q E _ from ?_)
  unfold reduceHash at h
  by_cases hr : (decide (-(2 : Int) ^ 63 ≤ Builtin.Tuple.tupleHashOf [V.hash x, W.hash y]) && decide (Builtin.Tuple.tupleHashOf [V.hash x, W.hash y] < 2 ^ 63)) = true
  · rw [if_pos hr] at h ⊢; exact wpAny_pure (h _)
  · rw [if_neg hr] at h ⊢; exact wpAny_bind (wpAny_rule (wpAny_pure (h _)))
theorem HVK.pair_eq (V : HVK K) (W : HVK L) {A : Around} {s : Shared} {x x' : K} {y y' : L} {v v' u1 u2 u1' u2' : Value} (hu : A.units + (max V.d W.d + 1) < cLine) (T : TupOf s.heap v u1 u2) (T' : TupOf s.heap v' u1' u2') (hx : V.is s.heap x u1) (hy : W.is s.heap y u2) (hx' : V.is s.heap x' u1') (hy' : W.is s.heap y' u2') :
    EqAt A s v v' (decide ((x, y) = (x', y'))) := by
  obtain ⟨a, o, n, rfl, ho, hc, hd⟩ := T
  obtain ⟨a', o', n', rfl, ho', hc', hd'⟩ := T'
  have h1 : A.in1.units + V.d < cLine := by show A.units + 1 + V.d < cLine; have := Nat.le_max_left V.d W.d; omega
  have h2 : A.in1.units + W.d < cLine := by show A.units + 1 + W.d < cLine; have := Nat.le_max_right V.d W.d; omega
  by_cases haa : a = a'
  · subst haa
    obtain rfl : o = o' := Option.some.inj (ho.symm.trans ho')
    rw [hd] at hd'
    injection hd' with e _
    obtain ⟨e1, e2⟩ : u1 = u1' ∧ u2 = u2' := by simpa using e
    subst e1; subst e2
    rw [V.inj hx hx', W.inj hy hy', decide_eq_true rfl]
    exact EqAt.same _
  · have key := RcAt.tuples (A := A) (s := s) (e := fun j => if j = 0 then decide (x = x') else decide (y = y')) ⟨o, ho, hc, n, hd⟩ ⟨o', ho', hc', n', hd'⟩ (by omega) fun j j1 j2 => by
      have : j = 0 ∨ j = 1 := by have : j < 2 := j1; omega
      rcases this with rfl | rfl
      · exact V.eq h1 hx hx'
      · exact W.eq h2 hy hy'
    have e : ((List.range (min (#[u1, u2] : Array Value).size (#[u1', u2'] : Array Value).size)).all (fun j => if j = 0 then decide (x = x') else decide (y = y')) && ((#[u1, u2] : Array Value).size == (#[u1', u2'] : Array Value).size)) = decide ((x, y) = (x', y')) := by
      show ((List.range 2).all _ && true) = _
      rw [show List.range 2 = [0, 1] from rfl]
      simp [Bool.decide_and]
    rw [e] at key
    exact EqAt.of_refs haa key
theorem HVK.pair_quiet (V : HVK K) (W : HVK L) {prog : Program} {w : World} {A : Around} {E : Value → Shared → Prop} {s : Shared} {x : K} {y : L} {v u u' : Value} {Q : Bool → Shared → Prop} (n : Nat) (hn : max V.d W.d + 1 ≤ n) (T : TupOf s.heap v u u') (hx : V.is s.heap x u) (hy : W.is s.heap y u') (h : Q true s) : wpAny (model prog w) A (eqIsQuiet n v) Q E s := by
  obtain ⟨a, o, c, rfl, ho, hc, hd⟩ := T
  have hT : s.TypeIs (.ref a) "tuple" := ⟨o, ho, hc⟩
  obtain ⟨m, rfl⟩ : ∃ m, n = m + 1 := ⟨n - 1, by omega⟩
  have h1 : V.d ≤ m := by have := Nat.le_max_left V.d W.d; omega
  have h2 : W.d ≤ m := by have := Nat.le_max_right V.d W.d; omega
  unfold eqIsQuiet
  refine wpAny_bind (wpAny_specialOf hT PySem.F.slot_tuple_eq.lookup (show wpAny _ _ (isInstance (.ref a) (.type "tuple") >>= fun _ => _) _ _ _ from wpAny_bind (wpAny_isInstance hT isSubtype_tuple_tuple ?_)))
  simp only [Bool.not_true, Bool.false_eq_true, if_false]; refine wpAny_bind (wpAny_seqItems ho hd (wpAny_bind ?_))
  show wpAny _ _ (forIn (#[u, u'] : Array Value) _ _) _ _ _
  rw [← Array.forIn_toList, show (#[u, u'] : Array Value).toList = [u, u'] from rfl, List.forIn_cons]
  refine wpAny_bind (wpAny_bind (V.quiet m h1 hx (wpAny_pure ?_)))
  show wpAny _ _ (forIn [u'] _ _) _ _ _
  rw [List.forIn_cons]
  exact wpAny_bind (wpAny_bind (W.quiet m h2 hy (wpAny_pure (wpAny_pure (wpAny_pure h)))))
theorem HVK.pair_cls (V : HVK K) (W : HVK L) {prog : Program} {w : World} {A : Around} {E : Value → Shared → Prop} {s : Shared} {x : K} {y : L} {v u u' : Value} {Q : Bool → Shared → Prop} (n : Nat) (hn : max V.d W.d + 1 ≤ n) (T : TupOf s.heap v u u') (hx : V.is s.heap x u) (hy : W.is s.heap y u') (h : Q false s) : wpAny (model prog w) A (ofAClassStatement n v) Q E s := by
  obtain ⟨a, o, c, rfl, ho, hc, hd⟩ := T
  have hT : s.TypeIs (.ref a) "tuple" := ⟨o, ho, hc⟩
  obtain ⟨m, rfl⟩ : ∃ m, n = m + 1 := ⟨n - 1, by omega⟩
  have h1 : V.d ≤ m := by have := Nat.le_max_left V.d W.d; omega
  have h2 : W.d ≤ m := by have := Nat.le_max_right V.d W.d; omega
  unfold ofAClassStatement
  refine wpAny_bind (wpAny_typeOf hT ?_)
  refine wpAny_bind (wpAny_pure (show wpAny _ _ (seqItems? (.ref a) >>= fun _ => _) _ _ _ from wpAny_bind (wpAny_seqItems ho hd (wpAny_bind ?_))))
  show wpAny _ _ (forIn (#[u, u'] : Array Value) _ _) _ _ _
  rw [← Array.forIn_toList, show (#[u, u'] : Array Value).toList = [u, u'] from rfl, List.forIn_cons]
  refine wpAny_bind (wpAny_bind (V.cls m h1 hx (wpAny_pure ?_)))
  show wpAny _ _ (forIn [u'] _ _) _ _ _
  rw [List.forIn_cons]
  exact wpAny_bind (wpAny_bind (W.cls m h2 hy (wpAny_pure (wpAny_pure (wpAny_pure h)))))
theorem HVK.pair_byv (V : HVK K) (W : HVK L) {prog : Program} {w : World} {A : Around} {E : Value → Shared → Prop} {s : Shared} {x : K} {y : L} {v u u' : Value} {Q : Bool → Shared → Prop} (n : Nat) (hn : max V.d W.d + 1 ≤ n) (T : TupOf s.heap v u u') (hx : V.is s.heap x u) (hy : W.is s.heap y u') (h : Q true s) : wpAny (model prog w) A (hashByValue n v) Q E s := by
  obtain ⟨a, o, c, rfl, ho, hc, hd⟩ := T
  have hT : s.TypeIs (.ref a) "tuple" := ⟨o, ho, hc⟩
  obtain ⟨m, rfl⟩ : ∃ m, n = m + 1 := ⟨n - 1, by omega⟩
  have h1 : V.d ≤ m := by have := Nat.le_max_left V.d W.d; omega
  have h2 : W.d ≤ m := by have := Nat.le_max_right V.d W.d; omega
  unfold hashByValue
  refine wpAny_bind (wpAny_specialOf hT PySem.F.slot_tuple_hash.lookup (show wpAny _ _ (seqItems? (.ref a) >>= fun _ => _) _ _ _ from wpAny_bind (wpAny_seqItems ho hd (wpAny_bind ?_))))
  show wpAny _ _ (forIn (#[u, u'] : Array Value) _ _) _ _ _
  rw [← Array.forIn_toList, show (#[u, u'] : Array Value).toList = [u, u'] from rfl, List.forIn_cons]
  refine wpAny_bind (wpAny_bind (V.byv m h1 hx (wpAny_pure ?_)))
  show wpAny _ _ (forIn [u'] _ _) _ _ _
  rw [List.forIn_cons]
  exact wpAny_bind (wpAny_bind (W.byv m h2 hy (wpAny_pure (wpAny_pure (wpAny_pure h)))))
def HVK.pair (V : HVK K) (W : HVK L) : HVK (K × L) where
  is := fun h k v => ∃ u u', TupOf h v u u' ∧ V.is h k.1 u ∧ W.is h k.2 u'
  hash := fun k => reduceHash (Builtin.Tuple.tupleHashOf [V.hash k.1, W.hash k.2])
  d := max V.d W.d + 1
  inj := fun {h x y v} ⟨u, u', ⟨a, o, n, e, ho, hc, hd⟩, hx, hy⟩ ⟨z, z', ⟨a', o', n', e', ho', hc', hd'⟩, hx', hy'⟩ => by
    subst e
    cases e'
    obtain rfl : o = o' := Option.some.inj (ho.symm.trans ho')
    rw [hd] at hd'
    injection hd' with e _
    obtain ⟨e1, e2⟩ : u = z ∧ u' = z' := by simpa using e
    subst e1; subst e2
    exact Prod.ext (V.inj hx hx') (W.inj hy hy')
  keep := fun {h h' k v} ⟨u, u', ⟨a, o, n, e, ho, hc, hd⟩, hx, hy⟩ kp => ⟨u, u', ⟨a, o, n, e, kp a o _ _ ho hc hd, hc, hd⟩, V.keep hx kp, W.keep hy kp⟩
  pyHash := fun hu ⟨_, _, T, hx, hy⟩ h => V.pair_hash W hu T hx hy h
  eq := fun {_ _ x y _ _} hu ⟨_, _, T, hx, hy⟩ ⟨_, _, T', hx', hy'⟩ => V.pair_eq W hu T T' hx hy hx' hy'
  quiet := fun n hn ⟨_, _, T, hx, hy⟩ h => V.pair_quiet W n hn T hx hy h
  cls := fun n hn ⟨_, _, T, hx, hy⟩ h => V.pair_cls W n hn T hx hy h
  byv := fun n hn ⟨_, _, T, hx, hy⟩ h => V.pair_byv W n hn T hx hy h
end
end My
/-! ### a set of things with a hash by value, none of them a plain value: one put in -/
namespace My
open PySem PySem.Spec PyProof.Rows L2 PyProof PySem.SeqAt PySem.SetTable
section
variable {K : Type} [DecidableEq K]
/-- the set at a holds just ks, in some order; its things are some of us, with the keys that kf tells -/
def SetV (V : HVK K) (kf : Value → K) (us : List Value) (h : Heap) (a : Addr) (ks : List K) (led : Bool) : Prop :=
  ∃ o es ep t, h.get? a = some o ∧ o.ExactSet ∧ o.data = .set es ep t ∧ TT t es.toList ∧ t.led = led ∧ 5 * es.size < 3 * t.mask ∧ (∀ e ∈ es.toList, e.2 ∈ us ∧ e.1 = V.hash (kf e.2)) ∧ (es.toList.map fun e => kf e.2).Perm ks
theorem TT.fits {t : SetTable} {es : Array (Int × Value)} (T : TT t es.toList) (few : es.size ≤ t.mask) : t.fits es.size = true := by
  have e : t.place.size = es.size := by have := T.len; simpa using this
  unfold SetTable.fits SetTable.fill
  rw [T.nd, e]
  simp [few]
variable {prog : Program} {w : World} {A : Around} {E : Value → Shared → Prop} {s : Shared} {V : HVK K} {kf : Value → K} {us : List Value}
end
end My
/-! ### a set of things with a hash by value: one put in, the table laid anew where it is full -/
namespace My
open PySem PySem.Spec PyProof.Rows L2 PyProof PySem.SeqAt PySem.SetTable
section
variable {K : Type} [DecidableEq K]
variable {prog : Program} {w : World} {A : Around} {E : Value → Shared → Prop} {s : Shared} {V : HVK K} {kf : Value → K} {us : List Value}
end
end My
/-! ### set(things with a hash by value), made, and its walk -/
namespace My
open PySem PySem.Spec PyProof.Rows L2 PyProof PySem.SeqAt
section
variable {K : Type} [DecidableEq K]
variable {prog : Program} {w : World} {A : Around} {E : Value → Shared → Prop} {s : Shared} {V : HVK K} {kf : Value → K} {us : List Value}
theorem SetV.keep {h h' : Heap} {a : Addr} {ks : List K} {led : Bool} (x : SetV V kf us h a ks led) (k : ∀ o, h.get? a = some o → h'.get? a = some o) : SetV V kf us h' a ks led :=
  let ⟨o, es, ep, t, ho, r⟩ := x
  ⟨o, es, ep, t, k o ho, r⟩
end
end My
/-! ### sorting tuples of two things that have an order -/
namespace My
open PySem PySem.Spec PySem.W PyProof.Rows L2 PyProof PySem.SeqAt
/-- all that is asked is below n, and what comes of it is P -/
def InP {α : Type} (n : Nat) (P : α → Prop) : KasT α → Prop
  | .ret a => P a
  | .ask i j k => i < n ∧ j < n ∧ ∀ b, InP n P (k b)
theorem InP.bind {α β : Type} {n : Nat} {P : α → Prop} {R : β → Prop} {g : α → KasT β} (hg : ∀ a, P a → InP n R (g a)) : ∀ t : KasT α, InP n P t → InP n R (t.bind g)
  | .ret a, h => hg a h
  | .ask _ _ k, h => ⟨h.1, h.2.1, fun b => InP.bind hg (k b) (h.2.2 b)⟩
theorem InP.wp {α : Type} {n : Nat} {P : α → Prop} {f : Nat → Int} {cmp : Nat → Nat → (Bool → Shared → Prop) → Shared → Prop} {Q : α → Shared → Prop} {s : Shared} (hc : ∀ i j (R : Bool → Shared → Prop), i < n → j < n → R (decide (f i < f j)) s → cmp i j R s) :
    ∀ t : KasT α, InP n P t → Q (outT f t) s → t.kasWp cmp Q s
  | .ret _, _, h => h
  | .ask i j k, p, h => hc i j _ p.1 p.2.1 (InP.wp hc (k _) (p.2.2 _) h)
def Low (n : Nat) (p : Array Nat) : Prop := 0 < n ∧ ∀ x ∈ p.toList, x < n
theorem Low.at {n : Nat} {p : Array Nat} (l : Low n p) (i : Nat) : p.getD i 0 < n := by
  by_cases h : i < p.size
  · have e : p.getD i 0 = p[i] := by simp [Array.getD, h]
    rw [e]
    exact l.2 _ (by simp)
  · have e : p.getD i 0 = 0 := by simp [Array.getD, h]
    rw [e]
    exact l.1
theorem Low.perm {n : Nat} {p q : Array Nat} (l : Low n p) (h : q.Perm p) : Low n q := ⟨l.1, fun x hx => l.2 x (h.toList.mem_iff.mp hx)⟩
/-- things with a hash by value and an order -/
structure VO (K : Type) [DecidableEq K] extends HVK K where
  lt : K → K → Bool
  irr : ∀ x, lt x x = false
  tr : ∀ x y z, lt x y = true → lt y z = true → lt x z = true
  tot : ∀ x y, x ≠ y → lt x y = false → lt y x = true
  T : Value
  rfT : (T == T) = true
  typ : ∀ {h : Heap} {k : K} {v : Value} (M : Model), is h k v → Looks M h (typeOf v) T
  one : ∀ {prog : Program} {w : World} {A : Around} {E : Value → Shared → Prop} {s : Shared} {x y : K} {u v : Value} {Q : Bool → Shared → Prop} (b : Bool), (b = true → (T != Value.type "tuple") = true) → A.units + d < cLine → is s.heap x u → is s.heap y v → Q (lt x y) s → wpAny (model prog w) A (oneLt' b u v) Q E s
def ltP {K L : Type} [DecidableEq K] [DecidableEq L] (f : K → K → Bool) (g : L → L → Bool) (a b : K × L) : Bool := if a.1 = b.1 then g a.2 b.2 else f a.1 b.1
section
variable {K L : Type} [DecidableEq K] [DecidableEq L]
theorem ltP_irr (V : VO K) (W : VO L) (x : K × L) : ltP V.lt W.lt x x = false := by unfold ltP; rw [if_pos rfl]; exact W.irr _
theorem ltP_tr (V : VO K) (W : VO L) (x y z : K × L) (h : ltP V.lt W.lt x y = true) (h' : ltP V.lt W.lt y z = true) : ltP V.lt W.lt x z = true := by
  unfold ltP at *
  by_cases e : x.1 = y.1
  · rw [if_pos e] at h
    by_cases e' : y.1 = z.1
    · rw [if_pos e'] at h'
      rw [if_pos (e.trans e')]
      exact W.tr _ _ _ h h'
    · rw [if_neg e'] at h'
      rw [if_neg (fun q => e' (e.symm.trans q)), e]
      exact h'
  · rw [if_neg e] at h
    by_cases e' : y.1 = z.1
    · rw [if_neg (fun q => e (q.trans e'.symm)), ← e']
      exact h
    · rw [if_neg e'] at h'
      have t := V.tr _ _ _ h h'
      rw [if_neg fun q => ?_]
      · exact t
      · rw [q, V.irr] at t; cases t
theorem ltP_tot (V : VO K) (W : VO L) (x y : K × L) (n : x ≠ y) (h : ltP V.lt W.lt x y = false) : ltP V.lt W.lt y x = true := by
  unfold ltP at *
  by_cases e : x.1 = y.1
  · rw [if_pos e] at h
    rw [if_pos e.symm]
    exact W.tot _ _ (fun q => n (Prod.ext e q)) h
  · rw [if_neg e] at h
    rw [if_neg (fun q => e q.symm)]
    exact V.tot _ _ e h
def VO.int : VO Int where
  toHVK := HVK.int
  lt := fun a b => decide (a < b)
  irr := fun x => by simp
  tr := fun x y z h h' => by simp only [decide_eq_true_eq] at *; omega
  tot := fun x y n h => by simp only [decide_eq_true_eq, decide_eq_false_iff_not] at *; omega
  T := .type "int"
  rfT := by decide
  typ := fun M ⟨t, e⟩ => by
    subst e
    intro A Q E s _ q
    exact wpAny_typeOf (T := "int") rfl q
  one := fun b _ _ ⟨t, e⟩ ⟨t', e'⟩ h => by
    subst e; subst e'
    cases b with
    | true => exact oneLt_int h
    | false => exact kat_one _ _ (lt_int h)
def VO.node : VO (Int × Int) where
  toHVK := HVK.int.pair HVK.int
  lt := ltP VO.int.lt VO.int.lt
  irr := ltP_irr VO.int VO.int
  tr := ltP_tr VO.int VO.int
  tot := ltP_tot VO.int VO.int
  T := .type "tuple"
  rfT := by decide
  typ := fun M ⟨u, u', ⟨a, o, n, e, ho, hc, hd⟩, _⟩ => by
    subst e
    intro A Q E s k q
    exact wpAny_typeOf (T := "tuple") ⟨o, k a o ho, hc⟩ q
  one := fun {prog w A E s x y u v Q} b hb hu ⟨u1, u2, ⟨a, o, n, e, ho, hc, hd⟩, ⟨t1, e1⟩, ⟨t2, e2⟩⟩ ⟨v1, v2, ⟨a', o', n', e', ho', hc', hd'⟩, ⟨t1', e1'⟩, ⟨t2', e2'⟩⟩ h => by
    subst e; subst e'; subst e1; subst e2; subst e1'; subst e2'
    cases b with
    | true => exact absurd (hb rfl) (by decide)
    | false =>
      refine kat_one _ _ (HT.lt_tupInts (ns := [x.1, x.2]) (ms := [y.1, y.2]) ⟨o, ho, hc, n, hd⟩ ⟨o', ho', hc', n', hd'⟩ (.cons _ _ (.cons _ _ .nil)) (.cons _ _ (.cons _ _ .nil)) (by omega) ?_)
      have el : HT.lexLt [x.1, x.2] [y.1, y.2] = ltP VO.int.lt VO.int.lt x y := by
        unfold ltP
        rw [HT.lexLt_cons, HT.lexLt_cons, HT.lexLt_nil_nil]
        by_cases q : x.1 = y.1
        · rw [if_pos q, if_pos q]
          by_cases q2 : x.2 = y.2
          · rw [if_pos q2, q2]; exact (VO.int.irr _).symm
          · rw [if_neg q2]; rfl
        · rw [if_neg q, if_neg q]; rfl
      rw [el]
      exact h
end
end My
/-! ### the walk over a set of things with a hash by value -/
namespace My
open PySem PySem.Spec PyProof.Rows L2 PyProof PySem.SeqAt
section
variable {K : Type} [DecidableEq K] {V : HVK K} {kf : Value → K} {us : List Value}
variable {prog : Program} {w : World} {A : Around} {E : Value → Shared → Prop} {s : Shared} {I a : Addr} {es : Array (Int × Value)} {ep : Nat} {t : SetTable}
end
section
variable {K : Type} [DecidableEq K] {V : HVK K} {kf : Value → K} {us : List Value}
variable {prog : Program} {w : World} {A : Around} {E : Value → Shared → Prop} {s : Shared} {a : Addr} {ks : List K} {led : Bool}
theorem SetV.typeIs (x : SetV V kf us s.heap a ks led) : s.TypeIs (.ref a) "set" := let ⟨o, _, _, _, ho, hex, _⟩ := x; ⟨o, ho, hex.1⟩
end
end My
/-! ### list.sort of tuples of two; sorted(list of nodes), sorted(set(pairs of nodes)) -/
namespace My
open PySem PySem.Spec PySem.W PyProof.Rows L2 PyProof PySem.SeqAt
section
variable {K L : Type} [DecidableEq K] [DecidableEq L]
end
section
variable {X : Cx} {pins : List (Addr × Obj)} {σ : L2.St} {H : Hp} {s : Shared}
end
end My
/-! ### a dict of any keys, walked by its keys and by its values -/
namespace My
open PySem PySem.Spec PyProof.Rows L2 PyProof
def RawD (h : Heap) (d : Addr) (es : Array DictEntry) (ep : Nat) : Prop := ∃ o, h.get? d = some o ∧ o.ExactDict ∧ o.data = .dict es ep
section
variable {prog : Program} {w : World} {A : Around} {E : Value → Shared → Prop} {s : Shared} {it d v : Addr} {es : Array DictEntry} {i ep : Nat}
theorem RawD.typeIs (x : RawD s.heap d es ep) : s.TypeIs (.ref d) "dict" := let ⟨o, ho, hc, _⟩ := x; ⟨o, ho, hc.1⟩
end
section
variable {P : Program} {w : World} {K : PySem.W.Frag}
end
end My
/-! ### min(nodes), xs.remove(node), node in nodes; walks over dicts with tuples for keys; dict(pairs) with such keys -/
namespace My
open PySem PySem.Spec PySem.W PyProof.Rows L2 PyProof PySem.SeqAt
section
variable {prog : Program} {w : World} {A : Around}
end
section
variable {X : Cx} {pins : List (Addr × Obj)} {σ : L2.St} {H : Hp} {s : Shared}
end
theorem vals_erase : ∀ {xs : List V} {us : List Value}, Vals xs us → ∀ j, Vals (xs.eraseIdx j) (us.eraseIdx j)
  | _, _, .nil, _ => .nil
  | _, _, .cons _ t, 0 => t
  | _, _, .cons r t, j + 1 => .cons r (vals_erase t j)
section
variable {X : Cx} {pins : List (Addr × Obj)} {σ : L2.St} {H : Hp} {s : Shared}
end
section
variable {X : Cx}
end
end My
/-! ### dict(pairs), the keys tuples -/
namespace My
open PySem PySem.Spec PyProof.Rows L2 PyProof
section
variable {prog : Program} {w : World} {A : Around} {E : Value → Shared → Prop} {s : Shared}
end
/-- a list of pairs whose first things are tuples -/
inductive PrsT (K : PySem.W.Frag) (H : Hp) : List V → List (List Key × V) → Prop where
  | nil : PrsT K H [] []
  | cons {t b : Addr} {q : List Key × V} {ws : List V} {ps : List (List Key × V)} (h : SqT K H t [.ref b, q.2]) (hb : H b = some (.tup (q.1.map kV))) (r : PrsT K H ws ps) : PrsT K H (.ref t :: ws) (q :: ps)
theorem u16 {A : Around} (h : A.units + 64 < cLine) : A.units + 16 < cLine := by omega
end My
/-! ### min(lists, key=len, default=None) -/
namespace My
open PySem PySem.Spec PyProof.Rows L2 PyProof
section
variable {prog : Program} {w : World} {A : Around}
end
end My
/-! ### nodes compared, len(set(nodes)), {node: x}, walks over a dict's nodes -/
namespace My
open PySem PySem.Spec PySem.W PyProof.Rows L2 PyProof PySem.SeqAt
end My
/-! ### sorted(list of tuples of three numbers); xs.insert(i, y); xs.index(number); d != {} -/
namespace My
open PySem PySem.Spec PySem.W PyProof.Rows L2 PyProof PySem.SeqAt
abbrev Tk := Int × Int × Int
/-- a tuple of three numbers among the objects -/
def IsT (h : Heap) (k : Tk) (v : Value) : Prop := ∃ (a : Addr) (o : Obj) (n : Nat) (t1 t2 t3 : Tok), v = .ref a ∧ h.get? a = some o ∧ o.cls = .type "tuple" ∧ o.data = .seq #[.int k.1 t1, .int k.2.1 t2, .int k.2.2 t3] n
theorem IsT.keep {h h' : Heap} {k : Tk} {v : Value} (x : IsT h k v) (kp : KpT h h') : IsT h' k v := let ⟨a, o, n, t1, t2, t3, e, ho, hc, hd⟩ := x; ⟨a, o, n, t1, t2, t3, e, kp a o _ n ho hc hd, hc, hd⟩
section
variable {X : Cx} {pins : List (Addr × Obj)} {σ : L2.St} {H : Hp} {s : Shared}
end
end My
/-! ### trees of data with the objects that they stand in (footprints) -/
namespace My
open PySem PySem.Spec PySem.W PyProof.Rows L2 PyProof PySem.SeqAt
mutual
inductive TF (H : Hp) : V → PyData → List Addr → Prop where
  | int (i : Int) : TF H (.int i) (.int i) []
  | str (x : Str) : TF H (.str x) (.str x) []
  | lst {a : Addr} {xs : List V} {ds : List PyData} {f : List Addr} (h : H a = some (.lst xs)) (r : TFs H xs ds f) : TF H (.ref a) (.list ds) (a :: f)
  | tup {a : Addr} {xs : List V} {ds : List PyData} {f : List Addr} (h : H a = some (.tup xs)) (r : TFs H xs ds f) : TF H (.ref a) (.tuple ds) (a :: f)
inductive TFs (H : Hp) : List V → List PyData → List Addr → Prop where
  | nil : TFs H [] [] []
  | cons {x : V} {d : PyData} {xs : List V} {ds : List PyData} {f g : List Addr} (h : TF H x d f) (r : TFs H xs ds g) : TFs H (x :: xs) (d :: ds) (f ++ g)
end
mutual
theorem TF.tr {H : Hp} {v : V} {d : PyData} {f : List Addr} (h : TF H v d f) : Tr H v d := by
  cases h with
  | int i => exact .int i
  | str x => exact .str x
  | lst h r => exact .lst h (TFs.trs r)
  | tup h r => exact .tup h (TFs.trs r)
theorem TFs.trs {H : Hp} {vs : List V} {ds : List PyData} {f : List Addr} (h : TFs H vs ds f) : Trs H vs ds := by
  cases h with
  | nil => exact .nil
  | cons h r => exact .cons (TF.tr h) (TFs.trs r)
end
mutual
theorem TF.fr {H H' : Hp} {v : V} {d : PyData} {f : List Addr} (h : TF H v d f) (k : ∀ b ∈ f, ∀ o, H b = some o → H' b = some o) : TF H' v d f := by
  cases h with
  | int i => exact .int i
  | str x => exact .str x
  | lst h r => exact .lst (k _ List.mem_cons_self _ h) (TFs.fr r fun b hb => k b (List.mem_cons_of_mem _ hb))
  | tup h r => exact .tup (k _ List.mem_cons_self _ h) (TFs.fr r fun b hb => k b (List.mem_cons_of_mem _ hb))
theorem TFs.fr {H H' : Hp} {vs : List V} {ds : List PyData} {f : List Addr} (h : TFs H vs ds f) (k : ∀ b ∈ f, ∀ o, H b = some o → H' b = some o) : TFs H' vs ds f := by
  cases h with
  | nil => exact .nil
  | cons h r => exact .cons (TF.fr h fun b hb => k b (List.mem_append_left _ hb)) (TFs.fr r fun b hb => k b (List.mem_append_right _ hb))
end
mutual
theorem TF.live {H : Hp} {v : V} {d : PyData} {f : List Addr} (h : TF H v d f) : ∀ b ∈ f, (∃ xs, H b = some (.lst xs)) ∨ ∃ xs, H b = some (.tup xs) := by
  cases h with
  | int i => intro b hb; cases hb
  | str x => intro b hb; cases hb
  | lst h r =>
    intro b hb
    rcases List.mem_cons.mp hb with z | z
    · exact .inl ⟨_, z ▸ h⟩
    · exact TFs.live r b z
  | tup h r =>
    intro b hb
    rcases List.mem_cons.mp hb with z | z
    · exact .inr ⟨_, z ▸ h⟩
    · exact TFs.live r b z
theorem TFs.live {H : Hp} {vs : List V} {ds : List PyData} {f : List Addr} (h : TFs H vs ds f) : ∀ b ∈ f, (∃ xs, H b = some (.lst xs)) ∨ ∃ xs, H b = some (.tup xs) := by
  cases h with
  | nil => intro b hb; cases hb
  | cons h r =>
    intro b hb
    rcases List.mem_append.mp hb with z | z
    · exact TF.live h b z
    · exact TFs.live r b z
end
theorem TF.same {H H' : Hp} (s : Same H H') {v : V} {d : PyData} {f : List Addr} (h : TF H v d f) : TF H' v d f := h.fr fun b _ o e => s b o e
theorem TFs.same {H H' : Hp} (s : Same H H') {vs : List V} {ds : List PyData} {f : List Addr} (h : TFs H vs ds f) : TFs H' vs ds f := h.fr fun b _ o e => s b o e
theorem TF.not {H : Hp} {v : V} {d : PyData} {f : List Addr} (h : TF H v d f) {b : Addr} (e : H b = none) : b ∉ f := fun hb => by
  rcases h.live b hb with ⟨xs, q⟩ | ⟨xs, q⟩ <;> rw [e] at q <;> cases q
theorem TFs.not {H : Hp} {vs : List V} {ds : List PyData} {f : List Addr} (h : TFs H vs ds f) {b : Addr} (e : H b = none) : b ∉ f := fun hb => by
  rcases h.live b hb with ⟨xs, q⟩ | ⟨xs, q⟩ <;> rw [e] at q <;> cases q
theorem TFs.one {H : Hp} {v : V} {d : PyData} {f : List Addr} (h : TF H v d f) : TFs H [v] [d] f := by
  have := TFs.cons h .nil
  rw [List.append_nil] at this
  exact this
theorem TFs.ints {H : Hp} : ∀ ns : List Int, TFs H (ns.map V.int) (ns.map PyData.int) []
  | [] => .nil
  | n :: r => TFs.cons (f := []) (g := []) (.int n) (TFs.ints r)
theorem TFs.len {H : Hp} {vs : List V} {ds : List PyData} {f : List Addr} (h : TFs H vs ds f) : vs.length = ds.length := h.trs.len
end My
/-! ### a def with a parameter that has a default -/
namespace My
open PySem PySem.Spec PySem.W PyProof.Rows L2 PyProof PySem.SeqAt
structure FunD (K : PySem.W.Frag) (x qual : Str) (st : Stmt) (f : Addr) (fd : FuncData) : Prop where
  ex : ∃ (oc : Value) (od : Option Addr) (dV kV doc pm : Value) (an : Option Addr) (cdv ct : Value) (osl : Array (Option Value)),
    fd = PySem.W.fnOf x qual (defArgs st) (defBody st) (defScope st) dV kV doc pm an cdv ct ∧ K.lookup f = some ⟨oc, od, .func fd, osl⟩ ∧ PySem.W.codeIn K cdv qual = true
  kp : PySem.W.keepIn K (.ref f) = true
section
variable {P : Program} {w : World} {K : PySem.W.Frag} {mg : Str → Option Value} {base : Heap}
theorem FunD.ok {x qual : Str} {st : Stmt} {f : Addr} {fd : FuncData} {N ps : List Str} {k : Nat} {sp : Sp} (F : FunD K x qual st f fd) (S : FnScope N ps (defScope st)) (len : ∀ vs H Q E, sp vs H Q E → vs.length = ps.length)
    (hbody : ∀ (cdv : Value) (A : Around) (outer : List Env) (s : Shared) (H : Hp) (vs : List V) (Q : VK) (E : XK), Room k (A.deeper (envOfC qual (defScope st) s.heap.objs.size f cdv)) → sp vs H Q E →
      ∃ t, PSs (cxOf CX0 P w K mg base N qual (defScope st) f cdv A outer s H E).nox (defBody st) t ∧ t { nx := fun _ H' => Q .non H', rt := Q } (start N vs) H) : FnOk P w K mg base CX0 (k + 1) f fd ps sp := by
  obtain ⟨oc, od, dV, kV, doc, pm, an, cdv, ct, osl, rfl, lk, hcd⟩ := F.ex
  refine fn_of lk hcd S len fun A outer s H vs Q E hr hsp => ?_
  obtain ⟨t, h, q⟩ := hbody cdv A outer s H vs Q E hr hsp
  exact ⟨t, h.nox, q⟩
end
end My
/-! ### try: if c: f(..) else: g(..) / except S as n: suite -/
namespace My
open PySem PySem.Spec PySem.W PyProof.Rows L2 PyProof PySem.SeqAt
section
variable {X : Cx}
end
end My
/-! ### comprehensions whose elements are told by what is no list -/
namespace My
open PySem PySem.Spec PySem.W PyProof.Rows L2 PyProof PySem.SeqAt
/-- all that is no list is kept -/
def KN (H H' : Hp) : Prop := ∀ b o, (∀ xs, o ≠ HO.lst xs) → H b = some o → H' b = some o
theorem KN.of {H H' : Hp} (s : Same H H') : KN H H' := fun b o _ e => s b o e
theorem KN.trans {A B C : Hp} (a : KN A B) (b : KN B C) : KN A C := fun x o n e => b x o n (a x o n e)
theorem KN.but {H H' : Hp} {D : Addr} {ys : List V} (h : H D = some (.lst ys)) (k : ∀ b o, b ≠ D → H b = some o → H' b = some o) : KN H H' := fun b o n e => k b o (fun z => by rw [z, h] at e; exact n _ (Option.some.inj e).symm) e
theorem KN.upd {H : Hp} {D : Addr} {ys : List V} {o : HO} (h : H D = some (.lst ys)) : KN H (upd H D o) := KN.but h fun b o n e => by rw [upd_ne n]; exact e
end My
/-! ### xs == []; [.. for x in range(n)] of new trees -/
namespace My
open PySem PySem.Spec PySem.W PyProof.Rows L2 PyProof PySem.SeqAt
section
variable {X : Cx}
end
end My
namespace My
open PySem PySem.Spec PyProof.Rows L2
/-! ### what is walked is a list or a tuple; isinstance by a K of one's own -/
end My
/-! ### min of a list or a tuple of numbers -/
namespace My
open PySem PySem.Spec PyProof.Rows L2 PyProof
theorem argBest_le (val : Nat → Int) : ∀ k, argBest (fun i j => decide (val i < val j)) k ≤ k
  | 0 => Nat.le_refl _
  | k + 1 => by
    have ih := argBest_le val k
    show (if decide (val (k + 1) < val (argBest _ k)) = true then k + 1 else argBest _ k) ≤ k + 1
    split <;> omega
theorem argBest_low (val : Nat → Int) : ∀ k j, j ≤ k → val (argBest (fun i j => decide (val i < val j)) k) ≤ val j
  | 0, j, h => by
    have : j = 0 := by omega
    subst this
    exact Int.le_refl _
  | k + 1, j, h => by
    have ih := argBest_low val k
    show val (if decide (val (k + 1) < val (argBest (fun i j => decide (val i < val j)) k)) = true then k + 1 else argBest (fun i j => decide (val i < val j)) k) ≤ val j
    by_cases hb : val (k + 1) < val (argBest (fun i j => decide (val i < val j)) k)
    · rw [if_pos (decide_eq_true hb)]
      rcases Nat.lt_succ_iff_lt_or_eq.mp (Nat.lt_succ_of_le h) with z | z
      · have := ih j (by omega); omega
      · rw [z]; exact Int.le_refl _
    · rw [if_neg (fun z => hb (of_decide_eq_true z))]
      rcases Nat.lt_succ_iff_lt_or_eq.mp (Nat.lt_succ_of_le h) with z | z
      · exact ih j (by omega)
      · rw [z]; omega
theorem call_minI {X : Cx} {K : PySem.W.Frag} (hK : X.K = K) (hc : X.calm = true) : CallR X (.builtin "min") (fun xs H Q => ∃ (a : Addr) (ns : List Int), xs = [V.ref a] ∧ (SqL K H a (ns.map V.int) ∨ SqT K H a (ns.map V.int)) ∧ ns ≠ [] ∧ ∀ m ∈ ns, (∀ n ∈ ns, m ≤ n) → Q (.int m) H) := by
  subst hK
  intro pins s σ H xs us Q I r h
  obtain ⟨l, ns, rfl, e, hne, q⟩ := h
  obtain ⟨u, rfl, ru⟩ := vals1 r
  cases ru
  have hh := I.ok.hd hc
  have main : ∀ {its : List Value}, Vals (ns.map V.int) its → its.toArray.size = ns.length ∧ (∀ (i : Nat) (v : Value), its.toArray[i]? = some v → ∃ t, v = Value.int (ns.getD i 0) t) := fun {its} rv => by
    refine ⟨by rw [List.size_toArray, ← rv.length, List.length_map], fun i v hv => ?_⟩
    have hv' : its[i]? = some v := by simpa using hv
    obtain ⟨x, hx1, rx⟩ := vals_get' rv hv'
    rw [List.getElem?_map] at hx1
    cases en : ns[i]? with
    | none => rw [en] at hx1; cases hx1
    | some n =>
      rw [en] at hx1
      cases hx1
      rw [List.getD_eq_getElem?_getD, en]
      exact rx
  have npos : 0 < ns.length := by
    cases ns with
    | nil => exact absurd rfl hne
    | cons a r => exact Nat.succ_pos _
  have fin : ∀ (its : List Value), Vals (ns.map V.int) its → ∀ v h' tk, its.toArray[argBest (fun i j => decide (ns.getD i 0 < ns.getD j 0)) (its.toArray.size - 1)]? = some v → (∀ b o, s.heap.get? b = some o → h'.get? b = some o) → EP X pins σ Q v { s with heap := h', toks := tk } := fun its rv v h' tk hv hk => by
    obtain ⟨hsz, hval⟩ := main rv
    obtain ⟨t, rfl⟩ := hval _ v hv
    rw [hsz]
    have hb := argBest_le (fun i => ns.getD i 0) (ns.length - 1)
    have hlow := argBest_low (fun i => ns.getD i 0) (ns.length - 1)
    generalize argBest (fun i j => decide (ns.getD i 0 < ns.getD j 0)) (ns.length - 1) = b at hb hlow
    have hlt : b < ns.length := by omega
    have eb : ns.getD b 0 = ns[b] := by rw [List.getD_eq_getElem?_getD, List.getElem?_eq_getElem hlt]; rfl
    refine ⟨.int (ns.getD b 0), H, I.kept (t' := tk) hk, ⟨_, rfl⟩, q _ (by rw [eb]; exact List.getElem_mem hlt) fun n hn => ?_⟩
    obtain ⟨j, hj, rfl⟩ := List.mem_iff_getElem.mp hn
    have := hlow j (by omega)
    rw [show ns.getD j 0 = ns[j] by rw [List.getD_eq_getElem?_getD, List.getElem?_eq_getElem hj]; rfl] at this
    exact this
  refine call_min_walk ?_
  rcases e with e | e
  · obtain ⟨its, rv, pl, _⟩ := I.list e
    obtain ⟨hsz, hval⟩ := main rv
    have hl := pl.isList
    have hlt : l < s.heap.objs.size := by obtain ⟨_, e, _⟩ := hl; exact Heap.lt_size e
    refine wpAny_pyIter_list hl ?_
    refine ⟨s.heap.objs.size, _, _, _, _, _, fun i j => decide (ns.getD i 0 < ns.getD j 0), rfl, Walks.list (A := X.A.in1) hh s.heap.objs.size l (Nat.ne_of_lt hlt) its.toArray, ⟨⟨_, Heap.get?_push_size _ rfl, rfl, rfl⟩, hl.push _⟩, fun b hb => ?_, by omega, CmpOf.ints_lt (fun i => ns.getD i 0) hval, fun v h' tk hv hk => fin its rv v h' tk hv fun b o eb => hk b o (fun z => Nat.ne_of_lt (Heap.lt_size eb) (List.mem_singleton.mp z)) (Heap.get?_push_of_some _ eb)⟩
    show b < (s.heap.push _).objs.size
    rw [size_push']
    simp only [List.mem_cons, List.not_mem_nil, or_false] at hb
    rcases hb with rfl | rfl
    · exact Nat.lt_succ_self _
    · exact Nat.lt_succ_of_lt hlt
  · obtain ⟨its, rv, pl, _⟩ := I.tuple e
    obtain ⟨hsz, hval⟩ := main rv
    have hl : s.heap.IsTuple l its.toArray := pl
    have hlt : l < s.heap.objs.size := by obtain ⟨_, e, _⟩ := hl; exact Heap.lt_size e
    refine wpAny_pyIter_tuple hl ?_
    refine ⟨s.heap.objs.size, _, _, _, _, _, fun i j => decide (ns.getD i 0 < ns.getD j 0), rfl, Walks.tuple (A := X.A.in1) hh s.heap.objs.size l (Nat.ne_of_lt hlt) its.toArray, ⟨⟨_, Heap.get?_push_size _ rfl, rfl, rfl⟩, hl.push _⟩, fun b hb => ?_, by omega, CmpOf.ints_lt (fun i => ns.getD i 0) hval, fun v h' tk hv hk => fin its rv v h' tk hv fun b o eb => hk b o (fun z => Nat.ne_of_lt (Heap.lt_size eb) (List.mem_singleton.mp z)) (Heap.get?_push_of_some _ eb)⟩
    show b < (s.heap.push _).objs.size
    rw [size_push']
    simp only [List.mem_cons, List.not_mem_nil, or_false] at hb
    rcases hb with rfl | rfl
    · exact Nat.lt_succ_self _
    · exact Nat.lt_succ_of_lt hlt
end My
/-! ### comprehensions without names of the def, whose elements are told by a relation; a step may raise -/
namespace My
open PySem PySem.Spec PyProof.Rows L2
section
variable {X : Cx}
end
end My
/-! ### try: calls that leave the names as they are / except S as n: .. / except S2 as n: .. -/
namespace My
open PySem PySem.Spec PySem.W PyProof.Rows L2 PyProof PySem.SeqAt
abbrev TB := L2.St → Hp → (Hp → Prop) → XK → Prop
/-- statements that leave the names as they are, whatever is wanted of their exceptions -/
structure PB (X : Cx) (body : List Stmt) (t : TB) : Prop where
  run : ∀ (pins : List (Addr × Obj)) (s : Shared) (σ : L2.St) (H : Hp) (Q : Hp → Prop) (E : XK), Inv X pins σ H s → t σ H Q E → wpAny (model X.prog X.w) X.A (execs body X.env) (fun f s' => f = .next ∧ ∃ H', Inv X pins σ H' s' ∧ Q H') (fun e s' => ∃ H1 s1, Inv X pins σ H1 s1 ∧ CXW X.prog X.w X.stack H1 s1 E e s') s
section
variable {X : Cx}
end
end My
/-! ### for i, x in enumerate(xs, start=1), xs a list -/
namespace My
open PySem PySem.Spec PyProof.Rows L2 PyProof
open Sem (wp)
set_option maxRecDepth 100000
theorem meets_enum1 (l : Addr) (items : Array Value) (n : Nat) (t : Tok) :
    Meets (Builtin.«enumerate.__new__» ⟨[.type "enumerate", .ref l], [("start", .int 1 t)]⟩) (fun _ R s => s.heap.get? l = some { cls := .type "list", dict := none, data := .seq items n, slots := #[] } ∧
      R (.ok (.ret (.ref (s.heap.push { cls := .type "list_iterator", data := .fields #[.ref l, .int 0 0] }).objs.size)))
        { s with heap := (s.heap.push { cls := .type "list_iterator", data := .fields #[.ref l, .int 0 0] }).push { cls := .type "enumerate", data := .fields #[.none, .bool false, .ref s.heap.objs.size, rawInt 1, .none, .none] } }) :=
  .of_wp fun prog w A R s h => by
    obtain ⟨hp, g, d, tk, os⟩ := s; obtain ⟨hl, h⟩ := h
    have hsub := sub_enumerate
    have hL : Heap.IsList (Shared.heap ⟨hp, g, d, tk, os⟩) l items := ⟨_, hl, rfl, n, rfl⟩
    wp_walk using wpAny_loadPart' hl
    refine wpAny_stack_any fun st => wpAny_pure ?_
    split
    · rename_i c _ _ _ _ _
      cases (c == Value.type "enumerate") <;> (wp_walk using wpAny_loadPart' hl, wpAny_pyIter_list hL; exact ⟨_, rfl, h⟩)
    · wp_walk using wpAny_loadPart' hl, wpAny_pyIter_list hL
      exact ⟨_, rfl, h⟩
theorem oinit_kw {T newId : String} {self a : Value} {rest : List Value} {kw : List (Str × Value)} (hl : typeLookup (.type T) "__init__" = pure (some (.builtin "object.__init__")))
    (hm : Bind.madeBy (.type T) = pure (some newId)) (hne : (some newId != some "object.__new__") = true) :
    Meets (Builtin.«object.__init__» ⟨self :: a :: rest, kw⟩) (fun _ R s => s.TypeIs self T ∧ R (.ok (.ret .none)) s) := by
  refine Meets.of_wp fun prog w A R s hs => ?_
  obtain ⟨hT, hq⟩ := hs
  repeat (any_goals (first | assumption | wp_step))
  exact ⟨_, rfl, hq⟩
theorem tc_enum1 (a b : Value) : checkTypeCall "enumerate" ⟨[a], [("start", b)]⟩ = pure () := by kernel_rfl
theorem nc_enum1 (a b : Value) : checkBuiltinCall "enumerate.__new__" ⟨[.type "enumerate", a], [("start", b)]⟩ = pure () := by kernel_rfl
theorem ao_init_kw (o a b : Value) : argsOk "object.__init__" ⟨[o, a], [("start", b)]⟩ := by
  unfold argsOk; rw [signature?_of (id := "object.__init__") (n := ['_', '_', 't', 'i', 'n', 'i', '_', '_']) (o := ['t', 'c', 'e', 'j', 'b', 'o']) (by kernel_rfl) F.owner_object]; kernel_rfl
section
variable {prog : Program} {w : World} {A : Around} {E : Value → Shared → Prop} {s : Shared}
/-- enumerate(l, start=1) is made -/
theorem call_enum1 {l : Addr} {items : Array Value} {n : Nat} {t : Tok} {Q : Value → Shared → Prop}
    (hl : s.heap.get? l = some { cls := .type "list", dict := none, data := .seq items n, slots := #[] })
    (h : ∀ h', IsEnum h' (s.heap.objs.size + 1) s.heap.objs.size 1 .none → h'.IsListIter s.heap.objs.size l 0 → (∀ b o, s.heap.get? b = some o → h'.get? b = some o) → Q (.ref (s.heap.objs.size + 1)) { s with heap := h' }) :
    wpAny (model prog w) A (call (.type "enumerate") [.ref l] [("start", .int 1 t)]) Q E s := by
  have ft := F.called_enumerate
  obtain ⟨c, tl, hmro⟩ := ft.mro
  have hmade := ft.made
  have hsub := ft.sub
  refine wpAny_call (codeAny_of_tree ?_)
  show wpAny _ _ (callAny (.type "enumerate") _) _ _ _
  refine wpAny_pure ⟨Code.quiet_builtin _ (by decide +kernel), codeAny_builtin F.entry_type_call ?_⟩
  rw [Around.under_plain (weight_type_call_type "enumerate" _ _) (units_type_call_type "enumerate" _ _)]
  have h1 := ft.notType
  have h2 := ft.canCreate
  have hct := tc_enum1 (.ref l) (.int 1 t)
  repeat (any_goals (first | assumption | wp_step))
  have hz : (s.heap.push { cls := .type "list_iterator", data := .fields #[.ref l, .int 0 0] }).objs.size = s.heap.objs.size + 1 := Heap.size_push ..
  refine codeAny_mono (codeAny_call_builtin ft.plain F.entry_enumerate_new (wpAny_of_eq (nc_enum1 (.ref l) (.int 1 t)) (meets_enum1 l items n t prog w A.in1 (wants (fun obj s₁ => obj = .ref (s.heap.objs.size + 1) ∧ IsEnum s₁.heap (s.heap.objs.size + 1) s.heap.objs.size 1 .none ∧ Q obj s₁) E) s ⟨hl, ?_⟩))) fun r s₁ hr => ?_
  · show _ ∧ _ ∧ _
    rw [hz]
    have he : IsEnum ((s.heap.push { cls := .type "list_iterator", data := .fields #[.ref l, .int 0 0] }).push
        { cls := .type "enumerate", data := .fields #[.none, .bool false, .ref s.heap.objs.size, rawInt 1, .none, .none] }) (s.heap.objs.size + 1) s.heap.objs.size 1 .none := by
      have := Heap.get?_push_size (s.heap.push { cls := .type "list_iterator", data := .fields #[.ref l, .int 0 0] })
        (o := { cls := .type "enumerate", data := .fields #[.none, .bool false, .ref s.heap.objs.size, rawInt 1, .none, .none] }) rfl
      rw [hz] at this; exact this
    exact ⟨rfl, he, h _ he ⟨_, Heap.get?_push_of_some _ (Heap.get?_push_size _ rfl), rfl, rfl⟩ fun b o x => Heap.get?_push_of_some _ (Heap.get?_push_of_some _ x)⟩
  cases r with
  | error e => exact hr
  | ok fl =>
    cases fl with
    | ret obj =>
      obtain ⟨rfl, he, hq⟩ := hr
      have hT : s₁.TypeIs (.ref (s.heap.objs.size + 1)) "enumerate" := ⟨_, he, rfl⟩
      have hli := ft.init.lookup
      have hbi := ft.init.bind (.ref (s.heap.objs.size + 1))
      repeat (any_goals (first | assumption | wp_step))
      refine codeAny_mono (codeAny_call_builtin ft.init.plain F.entry_object_init (ft.init.check _ _ _ _ _ _ _ _ hT (ao_init_kw _ _ _) ((oinit_kw ft.init.lookup ft.made (by decide)) prog w A.in1 (wants (fun r s₂ => r = .none ∧ Q (.ref (s.heap.objs.size + 1)) s₂) E) s₁ ⟨hT, rfl, hq⟩))) fun r₂ s₂ hr₂ => ?_
      cases r₂ with
      | error e => exact hr₂
      | ok fl₂ =>
        cases fl₂ with
        | ret r =>
          obtain ⟨rfl, hq⟩ := hr₂
          repeat (any_goals (first | assumption | wp_step))
        | _ => exact hr₂.elim
    | _ => exact hr.elim
end
/-- a row of draws whose first has the number 1 -/
theorem draws_up {prog : Program} {w : World} {A : Around} {it : Addr} {fp : List Addr} {n : Nat} {P : Nat → Value → Prop} {St : Nat → Heap → Prop} (D : Draws prog w A it fp n P St) :
    Draws prog w A it fp (n + 1) (fun i v => ∃ j, i = j + 1 ∧ P j v) (fun i h => ∃ j, i = j + 1 ∧ St j h) where
  live := fun i h ⟨j, _, st⟩ => D.live j h st
  frame := fun i h h' ⟨j, e, st⟩ k => ⟨j, e, D.frame j h h' st k⟩
  item := fun i s Q E hi ⟨j, e, st⟩ hQ => by
    subst e
    exact D.item j s Q E (by omega) st fun x h' tk hp st' sb => hQ x h' tk ⟨j, rfl, hp⟩ ⟨j + 1, rfl, st'⟩ sb
  done := fun s Q E ⟨j, e, st⟩ hE => by
    obtain rfl : j = n := by omega
    exact D.done s Q E st hE
def ItE1 (K : PySem.W.Frag) (a : Addr) : It :=
  ⟨fun i H => ∃ xs x, SqL K H a xs ∧ xs[i]? = some x, fun i H v H' => ∃ p x, (∀ xs, SqL K H a xs → xs[i]? = some x) ∧ v = .ref p ∧ H p = none ∧ H' = upd H p (.tup [.int ((i : Int) + 1), x]), fun i H => ∃ xs, SqL K H a xs ∧ xs.length = i⟩
section
variable {P : Program} {w : World} {K : PySem.W.Frag}
theorem turn_enum1 (a e it : Addr) (hei : e ≠ it) {elts : List Expr} {kk : Nat} {tpos : Pos} : Turn P w K (.Tuple elts kk tpos) (ItE1 K a) [e, it] e (fun i h => (∃ old, IsEnum h e it ((i : Int) + 1) old) ∧ h.IsListIter it a i) where
  mem := by simp
  obj := fun i h ⟨⟨old, he⟩, hi⟩ c hc => by
    simp only [List.mem_cons, List.not_mem_nil, or_false] at hc
    rcases hc with z | z
    · rw [z]; exact ⟨_, he, fun v z => by simp at z⟩
    · rw [z]
      obtain ⟨o, eo, c, d⟩ := hi
      exact ⟨o, eo, fun v z => by rw [d] at z; cases z⟩
  keep := fun i h h' ⟨⟨old, he⟩, hi⟩ k => ⟨⟨old, k e (by simp) _ he⟩, hi.at fun o eo => k it (by simp) o eo⟩
  item := by
    intro X hP hw hK hc i pins s σ H E I hf st hg
    subst hP hw hK
    obtain ⟨⟨old, he⟩, hi⟩ := st
    obtain ⟨xs, x, hq, hx⟩ := hg
    obtain ⟨its, rv, p, hz⟩ := I.list hq
    obtain ⟨u, hu, ru⟩ := rv.get hx
    have hlt : i < its.toArray.size := by rw [List.size_toArray]; exact (List.getElem?_eq_some_iff.mp hu).1
    have hai : a ≠ it := fun z => by
      obtain ⟨o, e1, c1, _⟩ := p.isList
      obtain ⟨o2, e2, c2, _⟩ := hi
      rw [z, e2] at e1
      cases e1
      rw [c2] at c1
      exact absurd c1 (by decide)
    have hae : e ≠ a := fun z => by
      obtain ⟨o, e1, c1, _⟩ := p.isList
      rw [← z, he] at e1
      cases e1
      exact absurd c1 (show ¬ (Value.type "enumerate" = Value.type "list") from by decide)
    have he' : IsEnum s.heap e it ((i + 1 : Nat) : Int) old := by rw [Int.natCast_add]; exact he
    refine wpAny_pyNext_enum_itemD (draws_up (Draws.list (A := X.A.in1) (I.ok.hd hc) it a hai its.toArray)) he' ⟨i, rfl, hi, p.isList⟩ (by omega) hei ?_ fun x' h' tk hx' ho' st' ht' hz' k' => ?_
    · simp only [List.mem_cons, List.not_mem_nil, or_false, not_or]
      exact ⟨hei, hae⟩
    obtain ⟨j, ej, hx'⟩ := hx'
    obtain rfl : j = i := by omega
    obtain ⟨j2, ej2, st', _⟩ := st'
    obtain rfl : j2 = j + 1 := by omega
    have ex : x' = u := by
      have : its[j]? = some x' := by simpa using hx'
      rw [hu] at this
      exact (Option.some.inj this).symm
    subst ex
    refine ⟨_, rfl, wpAny_letOwnedTupleGo_enum ho' fun h2 he2 hs2 => ?_⟩
    have helt : e < s.heap.objs.size := Heap.lt_size he
    have hilt : it < s.heap.objs.size := let ⟨o, eo, _⟩ := hi; Heap.lt_size eo
    have nT : s.heap.get? s.heap.objs.size = none := Heap.get?_none_of_le (Nat.le_refl _)
    have hT : h2.get? s.heap.objs.size = some { cls := .type "tuple", data := .seq #[.int ((j + 1 : Nat) : Int) tk, x'] } := hs2.extBut _ _ (Nat.ne_of_gt helt) ht'
    have st2 := st'.at fun o eo => hs2.extBut _ _ (Ne.symm hei) eo
    have I2 : Inv X pins σ H { s with heap := h2, toks := tk + 1 } := inv_two I (hf e (by simp)) (hf it (by simp)) ⟨_, he2⟩ (let ⟨o, eo, _⟩ := st2; ⟨o, eo⟩) fun b o n1 n2 q => hs2.extBut _ _ n1 (k' b o n1 n2 q)
    have HT : H s.heap.objs.size = none := inv_none I nT
    have I3 : Inv X pins σ (upd H s.heap.objs.size (.tup [.int ((j : Int) + 1), x])) { s with heap := h2, toks := tk + 1 } := inv_track I I2 nT HT ⟨by show 2 ≤ sizeLine; decide, [.int ((j + 1 : Nat) : Int) tk, x'], .cons ⟨_, by rw [Int.natCast_add]; rfl⟩ (.cons ru .nil), _, hT, rfl, _, rfl⟩
    refine ⟨.ref s.heap.objs.size, _, I3, rfl, ⟨s.heap.objs.size, x, fun ys hy => by rw [I.list_inj hy hq]; exact hx, rfl, HT, rfl⟩, ⟨⟨_, by rw [Int.natCast_add] at he2; rw [Int.natCast_add]; exact he2⟩, st2⟩, fun c hcm => ?_⟩
    simp only [List.mem_cons, List.not_mem_nil, or_false] at hcm
    rcases hcm with z | z
    · rw [z, upd_ne (Nat.ne_of_lt helt)]; exact (hf e (by simp)).1
    · rw [z, upd_ne (Nat.ne_of_lt hilt)]; exact (hf it (by simp)).1
  done := by
    intro X hP hw hK hc i pins s σ H E I hf st hg
    subst hP hw hK
    obtain ⟨⟨old, he⟩, hi⟩ := st
    obtain ⟨xs, hq, hx⟩ := hg
    obtain ⟨its, rv, p, hz⟩ := I.list hq
    have hai : a ≠ it := fun z => by
      obtain ⟨o, e1, c1, _⟩ := p.isList
      obtain ⟨o2, e2, c2, _⟩ := hi
      rw [z, e2] at e1
      cases e1
      rw [c2] at c1
      exact absurd c1 (by decide)
    have hn : its.toArray.size = i := by rw [List.size_toArray, ← rv.length]; exact hx
    subst hn
    refine wpAny_pyNext_enum_endD (Draws.list (A := X.A.in1) (I.ok.hd hc) it a hai its.toArray) he ⟨hi, p.isList⟩ fun h' k => ⟨rfl, ?_⟩
    obtain ⟨f0, f1, f2, f3, f4, f5⟩ := hf it (by simp)
    exact I.turned (t' := s.toks) (fun b o hb eo => k b o hb eo) f0 f1 f3 f4 f5
  self := fun _ _ _ _ _ st h => let ⟨⟨_, he⟩, _⟩ := st; wpAny_pyIter_enum he h
end
section
variable {M : Model} {A : Around} {E : Value → Shared → Prop} {s : Shared} {env : Env}
/-- T(e, .., k=e): a type of the builtins called with keywords -/
theorem callWith_tkw {pos : Pos} {T : String} {e : Expr} {rest : List Expr} {kws : List Keyword} {Q : Value → Shared → Prop}
    (h : wpAny M A (spliced (backTo pos (starEach (e :: rest) env))) (fun vs s₁ => wpAny M A (evalAll ((backToKw pos (keywordEach kws env)).map (·.2)))
      (fun kvs s₂ => wpAny M A (call (.type T) vs (((backToKw pos (keywordEach kws env)).filterMap (·.1)).zip kvs)) Q E s₂) E s₁) E s)
    (he : backTo pos (starEach (e :: rest) env) = (false, eval e env) :: backTo pos (starEach rest env) := by rfl)
    (hplain : (backTo pos (starEach (e :: rest) env)).any (·.1) = false := by rfl) (hall : (backToKw pos (keywordEach kws env)).all (·.1.isSome) = true := by rfl) (hkw : (backToKw pos (keywordEach kws env)).any (·.1.isNone) = false := by rfl) :
    wpAny M A (callWith pos (.type T) [] (backTo pos (starEach (e :: rest) env)) (backToKw pos (keywordEach kws env))) Q E s := by
  have key : wpAny M A (evalArgs (.type T) true (backTo pos (starEach (e :: rest) env)) (backToKw pos (keywordEach kws env))) (fun a s₁ => wpAny M A (call (.type T) ([] ++ a.pos) a.kw) Q E s₁) E s := by
    rw [he] at h ⊢
    exact evalArgs_kwB hall h
  unfold callWith
  refine wpAny_bind (wpAny_holding (wpAny_mono key (fun a s₁ h₁ => wpAny_bind (wpAny_standAt ?_)) fun _ _ x => x))
  simp only [hplain, hkw, Bool.or_false]
  refine wpAny_bind (wpAny_pure ?_)
  exact wpAny_bind (wpAny_mono h₁ (fun r s₂ hr => wpAny_bind (wpAny_holding (wpAny_point (wpAny_pure hr)))) fun _ _ x => x)
end
section
variable {X : Cx}
def iEnum1 (K : PySem.W.Frag) (ta tk : TA) : TI := fun σ H R => ta σ H fun vs H1 => tk σ H1 fun zs H2 => ∃ a xs, vs = [.ref a] ∧ zs = [.int 1] ∧ H2 a = some (.lst xs) ∧ R (ItE1 K a) H2
theorem pi_enum1 {a d : Expr} {ta tk : TA} {p pos kpos : Pos} {elts : List Expr} {kk : Nat} {tpos : Pos} (hg : Gl X "enumerate") (hm : X.mg "enumerate" = none) (ha : PA X [a] ta) (hkw : PK X [⟨some "start", d, kpos⟩] tk)
    (he : backTo pos (starEach [a] X.env) = (false, eval a X.env) :: backTo pos (starEach [] X.env) := by rfl) (hpl : (backTo pos (starEach [a] X.env)).any (·.1) = false := by rfl) :
    PI X (.Tuple elts kk tpos) (.Call (.Name "enumerate" p) [a] [⟨some "start", d, kpos⟩] pos) (iEnum1 X.K ta tk) := by
  constructor; intro pins s σ H R I h
  refine wpAny_Call_Name_kw (ld_blt I hg hm boot_enumerate ?_ (by decide) (by decide))
  refine callWith_tkw (thn (ha pos pins s σ H _ I h) fun us s1 ⟨vs, H1, I1, r1, q1⟩ => thn (hkw pos pins s1 σ H1 _ I1 q1) fun ws s2 ⟨zs, H2, I2, r2, q2⟩ => ?_) he hpl
  obtain ⟨l, xs, rfl, rfl, hl, q⟩ := q2
  obtain ⟨u, rfl, ru⟩ := vals1 r1
  obtain ⟨z, rfl, rz⟩ := vals1 r2
  cases ru
  obtain ⟨t, rfl⟩ := rz
  obtain ⟨z, its, n, rv, e⟩ := (show ObjOk X.prog X.w H2 s2.heap l (.lst xs) from I2.hok l _ hl)
  refine call_enum1 e fun h' he hi k => ?_
  have I3 : Inv X pins σ H2 { s2 with heap := h' } := I2.kept (t' := s2.toks) k
  refine wpAny_pyIter_enum (s := { s2 with heap := h' }) he ⟨s2.heap.objs.size + 1, [s2.heap.objs.size + 1, s2.heap.objs.size], _, ItE1 X.K l, H2, rfl, I3, turn_enum1 l _ _ (Nat.ne_of_gt (Nat.lt_succ_self _)), ⟨⟨_, he⟩, hi⟩, fun b hb => ?_, q⟩
  have hb' : s2.heap.objs.size ≤ b := by
    simp only [List.mem_cons, List.not_mem_nil, or_false] at hb
    rcases hb with z | z <;> (rw [z]; first | exact Nat.le_succ _ | exact Nat.le_refl _)
  exact I2.fpOk hb' (I2.hok.fresh hb')
end
end My
/-! ### [elt for target in iter if test] with names of the def around it, whose element may raise, in a def that passes the exception on -/
namespace My
open PySem PySem.Spec PyProof.Rows L2
section
variable {X : Cx} {pins : List (Addr × Obj)} {σ : L2.St} {H : Hp} {s : Shared} {scope : Scope} {fv : List Str} {js : List Nat} {N : List Str} {cl : List (Str × Addr)} {target iter elt : Expr} {ifs : List Expr} {pos : Pos} {g : TG} {tc : L2.TT} {te : TE} {E1 : XK} {C : Addr} {ex : List Addr}
end
end My
/-! ### defs called within an except suite: no exception of theirs leaves, nothing in them is walked -/
namespace My
open PySem PySem.Spec PySem.W PyProof.Rows L2 PyProof PySem.SeqAt
structure RoomM (k : Nat) (A : Around) : Prop where
  dp : A.depth + 3 * k + 5 < recursionLimit
  un : A.units + 16 * k + 200 < cLine
theorem _root_.L2.Room.m {k : Nat} {A : Around} {x : Option Value} (r : Room k A) : RoomM k (A.mark x) := ⟨r.dp, r.un⟩
theorem RoomM.mono {j k : Nat} {A : Around} (r : RoomM k A) (h : j ≤ k) : RoomM j A := ⟨by have := r.dp; omega, by have := r.un; omega⟩
theorem RoomM.units {k : Nat} {A : Around} (r : RoomM k A) : A.units + 64 < cLine := by have := r.un; omega
theorem RoomM.depth {k : Nat} {A : Around} (r : RoomM k A) : A.depth < recursionLimit := by have := r.dp; omega
theorem RoomM.deeper {k : Nat} {A : Around} (r : RoomM (k + 1) A) (env : Env) : RoomM k (A.deeper env) :=
  ⟨by have := r.dp; show A.depth + 1 + 3 * k + 5 < _; omega, by have := r.un; show A.units + 3 + 16 * k + 200 < _; omega⟩
structure FnOkM (P : Program) (w : World) (K : PySem.W.Frag) (mg : Str → Option Value) (base : Heap) (k : Nat) (f : Addr) (fd : FuncData) (ps : List Str) (sp : Sp) : Prop where
  len : ∀ vs H Q E, sp vs H Q E → vs.length = ps.length
  run : ∀ (A : Around) (outer : List Env) (s : Shared) (H : Hp) (args : Args) (us : List Value) (vs : List V) (Q : VK) (E : XK), RoomM k A → Env0 P w K mg base A outer s H → BindsTo s fd args (ps.zip us) → Vals vs us → sp vs H Q E →
    codeAny (model P w) A (.call (.ref f) args) (CR CX0 outer P w H s Q E) s
section
variable {P : Program} {w : World} {K : PySem.W.Frag} {mg : Str → Option Value} {base : Heap}
theorem FnOkM.mono {j k : Nat} {f : Addr} {fd : FuncData} {ps : List Str} {sp : Sp} (F : FnOkM P w K mg base j f fd ps sp) (h : j ≤ k) : FnOkM P w K mg base k f fd ps sp := ⟨F.len, fun A outer s H args us vs Q E hr => F.run A outer s H args us vs Q E (hr.mono h)⟩
/-- it may be called elsewhere too -/
theorem FnOkM.ok {k : Nat} {f : Addr} {fd : FuncData} {ps : List Str} {sp : Sp} (F : FnOkM P w K mg base k f fd ps sp) : FnOk P w K mg base CX0 k f fd ps sp := ⟨F.len, fun A outer s H args us vs Q E hr => F.run A outer s H args us vs Q E ⟨hr.dp, hr.un⟩⟩
end
section
variable {X : Cx} {k : Nat} {f C : Addr} {fd : FuncData} {ps : List Str} {sp : Sp} {x m : Str} {p pos apos : Pos} {e o : Expr} {es : List Expr} {ta : TE} {t : TA}
end
end My
/-! ### comprehensions whose elements are new objects: a word of one's own over the heap without the list that grows -/
namespace My
open PySem PySem.Spec PyProof.Rows L2
theorem del_none {H : Hp} {a : Addr} : del H a a = none := by simp [del]
theorem Same.del {H H' : Hp} (s : Same H H') (a : Addr) : Same (del H a) (del H' a) := fun b o e => by
  by_cases z : b = a
  · rw [z, del_none] at e; cases e
  · rw [del_ne z] at e ⊢; exact s b o e
end My
/-! ### sorted(d), d a dict with numbers for keys that was walked before -/
namespace My
open PySem PySem.Spec PyProof.Rows L2 PyProof PySem.W
section
variable {X : Cx}
end
end My
/-! ### // by a great divisor; xs.extend(ys); xs.remove(number); lists of numbers compared by >= -/
namespace My
open PySem PySem.Spec PySem.W PyProof.Rows L2 PyProof PySem.SeqAt
theorem op_fdivB {X : Cx} : OpR X (binaryOp .FloorDiv) (rI (fun _ j => 0 < j ∧ j.natAbs.log2 < 9000) fun i j => .int (i / j)) := opI fun i j _ _ _ _ _ hc q => by
  have h1 : (0 : Int) < j := hc.1
  exact floordiv_int (by omega) (by rw [Int.fdiv_eq_ediv_of_nonneg i (by omega)]; exact q) (.inl (PyProof.noPylong_of_log2 hc.2))
/-- xs.extend(ys), two lists -/
def rExtendL : V → List V → Hp → VK → Prop := fun x vs H Q => ∃ (l b : Addr) (xs zs : List V), x = .ref l ∧ vs = [.ref b] ∧ H l = some (.lst xs) ∧ H b = some (.lst zs) ∧ xs.length + zs.length ≤ sizeLine ∧ Q .non (upd H l (.lst (xs ++ zs)))
theorem mt_extendL {X : Cx} : MtM X "list.extend" rExtendL := by
  intro pins s σ H x vs v us Q I rx rv h
  obtain ⟨l, b, xs, zs, rfl, rfl, hH, hB, hz, q⟩ := h
  cases rx
  obtain ⟨u, rfl, ru⟩ := rv.one
  cases ru
  obtain ⟨z, its, n, r, hl, e⟩ := I.lstM hH
  obtain ⟨z2, its2, n2, r2, hl2, e2⟩ := I.lstM hB
  have hs : its.toArray.size + its2.toArray.size ≤ sizeLine := by rw [List.size_toArray, List.size_toArray]; omega
  refine call_meets F.slot_list_extend ⟨_, e, rfl⟩ F.entry_list_extend (F.args_list_extend_2 _ _) (AutoSeq1.list_extend_list_list_0 l its.toArray n b its2.toArray n2 (by rw [show Builtin.List.listTooLong (its.toArray.size + its2.toArray.size) = false from decide_eq_false (by omega), Bool.and_false]; exact Bool.false_ne_true) (by omega) (by omega)) ⟨e, e2, ?_⟩
  refine ⟨.non, _, I.lset (its' := its ++ its2) (ys := xs ++ zs) hH e (by simp) (r.append r2) (by rw [List.length_append]; omega), rfl, q⟩
/-- xs.remove(number) -/
def rRemoveI : V → List V → Hp → VK → Prop := fun x vs H Q => ∃ (l : Addr) (ks : List Int) (k : Int) (j : Nat), x = .ref l ∧ vs = [.int k] ∧ H l = some (.lst (ks.map V.int)) ∧ ks[j]? = some k ∧ (∀ i, i < j → ks[i]? ≠ some k) ∧ Q .non (upd H l (.lst ((ks.eraseIdx j).map V.int)))
theorem ints_get {ks : List Int} {its : List Value} (r : Vals (ks.map V.int) its) {i : Nat} {u : Value} (h : its[i]? = some u) : ∃ (k : Int) (t : Tok), ks[i]? = some k ∧ u = .int k t := by
  obtain ⟨x, hx, rx⟩ := vals_get' r h
  rw [List.getElem?_map] at hx
  obtain ⟨k, hk, rfl⟩ := Option.map_eq_some_iff.mp hx
  obtain ⟨t, rfl⟩ := rx
  exact ⟨k, t, hk, rfl⟩
theorem map_erase {ks : List Int} : ∀ {j : Nat}, (ks.eraseIdx j).map V.int = (ks.map V.int).eraseIdx j := by
  induction ks with
  | nil => intro j; rfl
  | cons k ks ih =>
    intro j
    cases j with
    | zero => rfl
    | succ j => show V.int k :: _ = V.int k :: _; rw [ih]
theorem mt_removeI {X : Cx} (hu : X.A.units + 16 < cLine) : MtM X "list.remove" rRemoveI := by
  intro pins s σ H x vs v us Q I rx rv h
  obtain ⟨l, ks, k, j, rfl, rfl, hH, hj, hno, q⟩ := h
  cases rx
  obtain ⟨u, rfl, ru⟩ := rv.one
  obtain ⟨t, rfl⟩ := ru
  obtain ⟨z, its, n, r, hl, e⟩ := I.lstM hH
  have hlk : its.length = ks.length := by rw [← r.length, List.length_map]
  have hjl : j < its.length := by rw [hlk]; exact (List.getElem?_eq_some_iff.mp hj).1
  have key : ∀ (m i : Nat) (R : Result → Shared → Prop), j - i = m → i ≤ j → R (.ok (.ret .none)) { s with heap := s.heap.update l (Obj.mapSeq (·.eraseIdxIfInBounds j)) } →
      codeAny (model X.prog X.w) X.A (.builtin "list.remove.loop" ⟨[.ref l, .int k t, rawInt i], []⟩) R s := by
    intro m
    induction m with
    | zero =>
      intro i R hm hi hR
      have : i = j := by omega
      subst this
      refine codeAny_builtin MeetsSeq.entry_remove_loop ?_
      rw [Around.under_plainId MeetsSeq.plain_remove_loop _]
      show wpAny _ _ (Builtin.List.listItems (.ref l) >>= _) _ _ _
      refine wpAny_bind (listItems_at e rfl ?_)
      obtain ⟨w', hw⟩ : ∃ w', its[i]? = some w' := ⟨_, List.getElem?_eq_getElem hjl⟩
      obtain ⟨k', t', hk', rfl⟩ := ints_get r hw
      rw [hj] at hk'
      cases hk'
      have hg : its.toArray[((i : Nat) : Int).toNat]? = some (.int k t') := by rw [Int.toNat_natCast]; simpa using hw
      rw [hg]
      refine wpAny_bind (EqAt.int_int k t' k t X.prog X.w _ _ ?_)
      rw [if_pos (beq_self_eq_true k)]
      exact wpAny_bind (listUpdate_at e rfl (by rw [Int.toNat_natCast]; exact wpAny_pure hR) (by rw [List.size_toArray]; omega) (by
        have : (its.toArray.eraseIdxIfInBounds ((i : Nat) : Int).toNat).size ≤ its.toArray.size := by
          unfold Array.eraseIdxIfInBounds
          split
          · rw [Array.size_eraseIdx]; omega
          · exact Nat.le_refl _
        have h2 : its.toArray.size = its.length := by simp
        have h3 : (its.toArray.eraseIdxIfInBounds ((i : Nat) : Int).toNat).size ≤ its.toArray.size := this
        show (its.toArray.eraseIdxIfInBounds ((i : Nat) : Int).toNat).size ≤ sizeLine + 1
        omega))
    | succ m ih =>
      intro i R hm hi hR
      have hil : i < its.length := by omega
      refine codeAny_builtin MeetsSeq.entry_remove_loop ?_
      rw [Around.under_plainId MeetsSeq.plain_remove_loop _]
      show wpAny _ _ (Builtin.List.listItems (.ref l) >>= _) _ _ _
      refine wpAny_bind (listItems_at e rfl ?_)
      obtain ⟨w', hw⟩ : ∃ w', its[i]? = some w' := ⟨_, List.getElem?_eq_getElem hil⟩
      obtain ⟨k', t', hk', rfl⟩ := ints_get r hw
      have hg : its.toArray[((i : Nat) : Int).toNat]? = some (.int k' t') := by rw [Int.toNat_natCast]; simpa using hw
      rw [hg]
      refine wpAny_bind (EqAt.int_int k' t' k t X.prog X.w _ _ ?_)
      have hne : k' ≠ k := fun z => hno i (by omega) (by rw [hk', z])
      rw [if_neg (fun z => hne (eq_of_beq z))]
      have en : rawInt (((i : Nat) : Int) + 1) = rawInt ((i + 1 : Nat) : Int) := by rw [Int.natCast_add]; rfl
      rw [en]
      exact wpAny_pure ⟨plainId_quiet MeetsSeq.plain_remove_loop _, ih (i + 1) R (by omega) (by omega) hR⟩
  refine wpAny_call (codeAny_call_builtin PySem.F.slot_list_remove.plain PySem.F.entry_list_remove (PySem.F.slot_list_remove.check _ _ _ _ _ _ _ _ ⟨_, e, rfl⟩ (PySem.F.args_list_remove_2 _ _) ?_))
  refine wpAny_bind (wpAny_pure (wpAny_pure ⟨plainId_quiet MeetsSeq.plain_remove_loop _, key j 0 _ (by omega) (Nat.zero_le _) ?_⟩))
  refine ⟨.non, _, I.lset (t' := s.toks) (its' := its.eraseIdx j) (ys := (ks.eraseIdx j).map V.int) hH e (by rw [Array.eraseIdxIfInBounds, dif_pos (by simpa using hjl)]; simp) ?_ ?_, rfl, q⟩
  · rw [map_erase]
    exact vals_erase r j
  · have := List.length_eraseIdx_le ks j
    rw [List.length_map]
    rw [List.length_map] at hl z
    omega
/-- two lists of numbers that part at k, compared by >= -/
theorem ge_loopAt (l b : Addr) (items items2 : Array Value) (n n2 : Nat) (dd dd2 : Option Addr) (sl sl2 : Array (Option Value)) (k : Nat) (x y : Int) (tx ty : Tok) (hx : items[k]? = some (.int x tx)) (hy : items2[k]? = some (.int y ty)) (hxy : x ≠ y) (m : Nat) :
    ∀ i : Nat, k - i = m → i ≤ k → Meets (Builtin.«list.__eq__.loop» ⟨[.ref l, .ref b, rawInt i, rawInt 5], []⟩)
      (fun A R s => s.heap.get? l = some { cls := .type "list", dict := dd, data := .seq items n, slots := sl } ∧ s.heap.get? b = some { cls := .type "list", dict := dd2, data := .seq items2 n2, slots := sl2 } ∧
        (∀ j, j < k → ∃ u v, items[j]? = some u ∧ items2[j]? = some v ∧ EqAt A.in1 s u v true) ∧
        R (.ok (.ret (.bool (decide (y ≤ x))))) s) := by
  induction m with
  | zero =>
    intro i hk hi prog w A R s h
    have : i = k := by omega
    subst this
    obtain ⟨hp, g, d, tk, os⟩ := s; obtain ⟨hl, hb, he, h⟩ := h
    wp_walk using AutoSeq1.wpAny_loadPart' hl, AutoSeq1.wpAny_loadPart' hb
    have hi1 : items[((i : Nat) : Int).toNat]? = some (.int x tx) := hx
    have hi2 : items2[((i : Nat) : Int).toNat]? = some (.int y ty) := hy
    rw [hi1, hi2]
    refine wpAny_bind (EqAt.int_int x tx y ty prog w _ _ ?_)
    rw [show (x == y) = false from beq_eq_false_iff_ne.mpr hxy]
    wp_walk using AutoSeq1.wpAny_loadPart' hl, AutoSeq1.wpAny_loadPart' hb
    rw [hi1, hi2]
    refine wpAny_bind (ge_int ?_)
    wp_walk
    exact h
  | succ m ih =>
    intro i hk hi prog w A R s h
    obtain ⟨hp, g, d, tk, os⟩ := s; obtain ⟨hl, hb, he, h⟩ := h
    wp_walk using AutoSeq1.wpAny_loadPart' hl, AutoSeq1.wpAny_loadPart' hb
    obtain ⟨u, v, hi1, hi2, huv⟩ := he i (by omega)
    have hi1 : items[((i : Nat) : Int).toNat]? = some u := hi1
    have hi2 : items2[((i : Nat) : Int).toNat]? = some v := hi2
    have hc : ((i : Int) + 1) = ((i + 1 : Nat) : Int) := by push_cast; rfl
    rw [hi1, hi2]
    refine wpAny_bind (huv prog w _ _ ?_)
    wp_walk
    rw [hc]
    exact ⟨plainId_quiet MeetsSeq3.plain_eq_loop _, codeAny_builtin MeetsSeq3.entry_eq_loop (by
      rw [Around.under_plainId MeetsSeq3.plain_eq_loop _]
      exact ih (i + 1) (by omega) (by omega) prog w A R _ ⟨hl, hb, he, h⟩)⟩
theorem list_geAt (l b : Addr) (items items2 : Array Value) (n n2 : Nat) (dd dd2 : Option Addr) (sl sl2 : Array (Option Value)) (k : Nat) (x y : Int) (tx ty : Tok) (hx : items[k]? = some (.int x tx)) (hy : items2[k]? = some (.int y ty)) (hxy : x ≠ y) :
    Meets (Builtin.«list.__ge__» ⟨[.ref l, .ref b], []⟩)
      (fun A R s => s.heap.get? l = some { cls := .type "list", dict := dd, data := .seq items n, slots := sl } ∧ s.heap.get? b = some { cls := .type "list", dict := dd2, data := .seq items2 n2, slots := sl2 } ∧
        (∀ j, j < k → ∃ u v, items[j]? = some u ∧ items2[j]? = some v ∧ EqAt A.in1 s u v true) ∧
        R (.ok (.ret (.bool (decide (y ≤ x))))) s) := by
  intro prog w A R s h
  obtain ⟨hp, g, d, tk, os⟩ := s; obtain ⟨hl, hb, he, h⟩ := h
  have f3 := AutoSeq1.sub_list_list
  wp_walk using AutoSeq1.wpAny_loadPart' hl, AutoSeq1.wpAny_loadPart' hb
  exact ⟨plainId_quiet MeetsSeq3.plain_eq_loop _, codeAny_builtin MeetsSeq3.entry_eq_loop (by
    rw [Around.under_plainId MeetsSeq3.plain_eq_loop _]
    exact ge_loopAt l b items items2 n n2 dd dd2 sl sl2 k x y tx ty hx hy hxy _ 0 rfl (Nat.zero_le _) prog w A R _ ⟨hl, hb, he, h⟩)⟩
/-- xs >= ys, lists of numbers that part at k -/
def rGeL (K : PySem.W.Frag) : R2 := fun x y H Q => ∃ (a b : Addr) (xs ys : List Int) (k : Nat) (p q : Int), x = .ref a ∧ y = .ref b ∧ SqL K H a (xs.map V.int) ∧ SqL K H b (ys.map V.int) ∧ xs[k]? = some p ∧ ys[k]? = some q ∧ p ≠ q ∧ (∀ j, j < k → xs[j]? = ys[j]?) ∧ Q (.bl (decide (q ≤ p))) H
theorem op_geL {X : Cx} {K : PySem.W.Frag} (hK : X.K = K) (hu : X.A.units + 64 < cLine) : OpR X (compareOp .GtE) (rGeL K) := by
  intro pins s σ H x y v u Q I rx ry h
  obtain ⟨a, b, xs, ys, k, p, q, rfl, rfl, ha, hb, hp, hq, hne, hj, hQ⟩ := h
  subst hK
  cases rx
  cases ry
  obtain ⟨its, rv, hl, _⟩ := I.list ha
  obtain ⟨jts, rw', hl2, _⟩ := I.list hb
  obtain ⟨⟨cls, dd, data, sl⟩, n, e, c, d0, d⟩ := id hl
  obtain ⟨⟨cls2, dd2, data2, sl2⟩, n2, e2, c2, d02, d2⟩ := id hl2
  simp only at c d c2 d2
  subst c d c2 d2
  have get : ∀ {ks : List Int} {us : List Value}, Vals (ks.map V.int) us → ∀ {i : Nat} {m : Int}, ks[i]? = some m → ∃ t, us[i]? = some (.int m t) := fun {ks us} r {i m} h => by
    have hlt : i < us.length := by rw [← r.length, List.length_map]; exact (List.getElem?_eq_some_iff.mp h).1
    obtain ⟨k', t, hk, e⟩ := ints_get r (List.getElem?_eq_getElem hlt)
    rw [h] at hk
    cases hk
    exact ⟨t, by rw [List.getElem?_eq_getElem hlt, e]⟩
  obtain ⟨tx, hx⟩ := get rv hp
  obtain ⟨ty, hy⟩ := get rw' hq
  show wpAny _ _ (richCompare .GtE _ _) _ _ _
  refine richCompare_meets_room (op := .GtE) ⟨_, e, rfl⟩ ⟨_, e2, rfl⟩ F.slot_list_ge F.entry_list_ge (F.args_list_ge_2 _ _) (list_geAt a b its.toArray jts.toArray n n2 dd dd2 sl sl2 k p q tx ty (by simpa using hx) (by simpa using hy) hne) ⟨e, e2, fun j hjk => ?_, show Value.bool (decide (q ≤ p)) ≠ Value.notImplemented ∧ _ from ⟨(fun x => nomatch x), ⟨.bl (decide (q ≤ p)), H, I, rfl, hQ⟩⟩⟩ (by omega)
  have hlt : j < xs.length := Nat.lt_trans hjk (List.getElem?_eq_some_iff.mp hp).1
  obtain ⟨m, hm⟩ : ∃ m, xs[j]? = some m := ⟨_, List.getElem?_eq_getElem hlt⟩
  obtain ⟨t1, h1⟩ := get rv hm
  obtain ⟨t2, h2⟩ := get rw' (by rw [← hj j hjk]; exact hm)
  refine ⟨_, _, by simpa using h1, by simpa using h2, ?_⟩
  have := EqAt.int_int (A := X.A.in1) (s := s) m t1 m t2
  rwa [beq_self_eq_true] at this
end My
/-! ### for i, x in enumerate(xs, start=1), as for_enum -/
namespace My
open PySem PySem.Spec PyProof.Rows L2 PyProof
theorem for_enum1 {K : PySem.W.Frag} {a : Addr} {xs : List V} {g : TG} {tb : TS} {D : Ends} {σ : L2.St} {H : Hp} (Pv : Nat → L2.St → Hp → Prop) (h0 : Pv 0 σ H) (hl : ∀ i σ H, Pv i σ H → SqL K H a xs)
    (hs : ∀ i x σ H p, xs[i]? = some x → Pv i σ H → H p = none → g (.ref p) σ (upd H p (.tup [.int ((i : Int) + 1), x])) fun σ2 H2 => tb { D with nx := Pv (i + 1), ct := Pv (i + 1), bk := D.nx } σ2 H2) (hd : ∀ σ H, Pv xs.length σ H → D.nx σ H) :
    ∃ W : Nat → Nat → L2.St → Hp → Prop, (∃ m, W 0 m σ H) ∧ ∀ i m σ H, W i m σ H →
      ((ItE1 K a).stop i H ∧ D.nx σ H) ∨ ((ItE1 K a).go i H ∧ ∃ N : L2.St → Hp → Prop, (∀ σ' H', N σ' H' → ∃ m', m' < m ∧ W (i + 1) m' σ' H') ∧ ∀ x H', (ItE1 K a).yld i H x H' → g x σ H' fun σ2 H2 => tb { D with nx := N, ct := N, bk := D.nx } σ2 H2) := by
  refine ⟨fun i m σ H => m = xs.length - i ∧ i ≤ xs.length ∧ Pv i σ H, ⟨xs.length, by simp, Nat.zero_le _, h0⟩, ?_⟩
  rintro i m σ H ⟨rfl, hi, p⟩
  by_cases hlt : i < xs.length
  · refine .inr ⟨⟨xs, xs[i], hl i σ H p, by simp [hlt]⟩, Pv (i + 1), fun σ' H' p' => ⟨xs.length - (i + 1), by omega, rfl, hlt, p'⟩, ?_⟩
    rintro x H' ⟨q, y, hy, rfl, hq, rfl⟩
    exact hs i y σ H q (hy xs (hl i σ H p)) p hq
  · have e : i = xs.length := by omega
    subst e
    exact .inl ⟨⟨xs, hl _ σ H p, by simp⟩, hd σ H p⟩
end My

namespace Lw
open PySem PySem.Spec PyProof.Rows L2 My
set_option maxHeartbeats 4000000
def top (i : Nat) : Stmt := PySem.Challenge.pw_skewhouse_k72_all_weavings.main.body.getD i (.Pass ⟨0, 0, 0, 0⟩)
abbrev s_howmany : Stmt := top 5
abbrev s_leastweaving : Stmt := top 6
abbrev s_nextweaving : Stmt := top 7
abbrev s_weavings : Stmt := top 8
abbrev s_Lcell : Stmt := top 10
abbrev s_Lcounts : Stmt := top 11
abbrev s_Lfactorial : Stmt := top 12
abbrev s_Lmany : Stmt := top 13
abbrev s_Lisone : Stmt := top 14
abbrev s_Lall : Stmt := top 15
abbrev s_law : Stmt := top 16
set_option genInjectivity false in
set_option genSizeOf false in
structure Tx (K : PySem.W.Frag) (mg : Str → Option Value) where
  f_howmany : Addr
  d_howmany : FuncData
  F_howmany : Fun K "how_many" "how_many" s_howmany f_howmany d_howmany
  b_howmany : Binds K d_howmany ["counts"] []
  m_howmany : mg "how_many" = some (.ref f_howmany)
  f_leastweaving : Addr
  d_leastweaving : FuncData
  F_leastweaving : Fun K "least_weaving" "least_weaving" s_leastweaving f_leastweaving d_leastweaving
  b_leastweaving : Binds K d_leastweaving ["counts"] []
  m_leastweaving : mg "least_weaving" = some (.ref f_leastweaving)
  f_nextweaving : Addr
  d_nextweaving : FuncData
  F_nextweaving : Fun K "next_weaving" "next_weaving" s_nextweaving f_nextweaving d_nextweaving
  b_nextweaving : Binds K d_nextweaving ["weaving"] []
  m_nextweaving : mg "next_weaving" = some (.ref f_nextweaving)
  f_weavings : Addr
  d_weavings : FuncData
  F_weavings : Fun K "weavings" "weavings" s_weavings f_weavings d_weavings
  b_weavings : Binds K d_weavings ["counts"] []
  m_weavings : mg "weavings" = some (.ref f_weavings)
  f_Lcell : Addr
  d_Lcell : FuncData
  F_Lcell : Fun K "_law_cell" "_law_cell" s_Lcell f_Lcell d_Lcell
  b_Lcell : Binds K d_Lcell ["_law_script", "_law_k"] []
  m_Lcell : mg "_law_cell" = some (.ref f_Lcell)
  f_Lcounts : Addr
  d_Lcounts : FuncData
  F_Lcounts : Fun K "_law_counts" "_law_counts" s_Lcounts f_Lcounts d_Lcounts
  b_Lcounts : Binds K d_Lcounts ["_law_script"] []
  m_Lcounts : mg "_law_counts" = some (.ref f_Lcounts)
  f_Lfactorial : Addr
  d_Lfactorial : FuncData
  F_Lfactorial : Fun K "_law_factorial" "_law_factorial" s_Lfactorial f_Lfactorial d_Lfactorial
  b_Lfactorial : Binds K d_Lfactorial ["_law_number"] []
  m_Lfactorial : mg "_law_factorial" = some (.ref f_Lfactorial)
  f_Lmany : Addr
  d_Lmany : FuncData
  F_Lmany : Fun K "_law_many" "_law_many" s_Lmany f_Lmany d_Lmany
  b_Lmany : Binds K d_Lmany ["_law_counts_here"] []
  m_Lmany : mg "_law_many" = some (.ref f_Lmany)
  f_Lisone : Addr
  d_Lisone : FuncData
  F_Lisone : Fun K "_law_is_one" "_law_is_one" s_Lisone f_Lisone d_Lisone
  b_Lisone : Binds K d_Lisone ["_law_turns", "_law_counts_here"] []
  m_Lisone : mg "_law_is_one" = some (.ref f_Lisone)
  f_Lall : Addr
  d_Lall : FuncData
  F_Lall : Fun K "_law_all" "_law_all" s_Lall f_Lall d_Lall
  b_Lall : Binds K d_Lall ["_law_found", "_law_counts_here"] []
  m_Lall : mg "_law_all" = some (.ref f_Lall)
  f_law : Addr
  d_law : FuncData
  F_law : Fun K "law" "law" s_law f_law d_law
  b_law : Binds K d_law ["_law_script"] []
  m_law : mg "law" = some (.ref f_law)
  c_SkewError : Addr
  m_SkewError : mg "SkewError" = some (.ref c_SkewError)
  c_TooMany : Addr
  m_TooMany : mg "TooMany" = some (.ref c_TooMany)
  x_TooMany : ExcC K mg "TooMany" c_TooMany
  kx_TooMany : ExcK K c_TooMany
  ks_TooMany : ExcS K mg "TooMany" c_TooMany
  kv_TooMany : PySem.W.subIn K (.ref c_TooMany) (.type "ValueError") = some true
  kp_TooMany_SkewError : KitP K c_TooMany c_SkewError true
  t_MOST_WEAVINGS : Tok
  m_MOST_WEAVINGS : mg "MOST_WEAVINGS" = some (.int (2000) t_MOST_WEAVINGS)
  z_ValueError : mg "ValueError" = none
  z_bool : mg "bool" = none
  z_enumerate : mg "enumerate" = none
  z_int : mg "int" = none
  z_isinstance : mg "isinstance" = none
  z_len : mg "len" = none
  z_list : mg "list" = none
  z_min : mg "min" = none
  z_range : mg "range" = none
  z_sorted : mg "sorted" = none
  z_sum : mg "sum" = none
  z_zip : mg "zip" = none
theorem sc_howmany : FnScope ["counts", "many", "turns", "count", "place"] ["counts"] (defScope s_howmany) := ⟨rfl, rfl, rfl, by decide +kernel, rfl, by decide +kernel, by decide +kernel⟩
theorem sc_leastweaving : FnScope ["counts", "weaving", "number", "count"] ["counts"] (defScope s_leastweaving) := ⟨rfl, rfl, rfl, by decide +kernel, rfl, by decide +kernel, by decide +kernel⟩
theorem sc_nextweaving : FnScope ["weaving", "place", "tail", "greater"] ["weaving"] (defScope s_nextweaving) := ⟨rfl, rfl, rfl, by decide +kernel, rfl, by decide +kernel, by decide +kernel⟩
theorem sc_weavings : FnScope ["counts", "found", "weaving"] ["counts"] (defScope s_weavings) := ⟨rfl, rfl, rfl, by decide +kernel, rfl, by decide +kernel, by decide +kernel⟩
theorem sc_Lcell : FnScope ["_law_script", "_law_k"] ["_law_script", "_law_k"] (defScope s_Lcell) := ⟨rfl, rfl, rfl, by decide +kernel, rfl, by decide +kernel, by decide +kernel⟩
theorem sc_Lcounts : FnScope ["_law_script", "_law_way", "_law_some"] ["_law_script"] (defScope s_Lcounts) := ⟨rfl, rfl, rfl, by decide +kernel, rfl, by decide +kernel, by decide +kernel⟩
theorem sc_Lfactorial : FnScope ["_law_number", "_law_found", "_law_k"] ["_law_number"] (defScope s_Lfactorial) := ⟨rfl, rfl, rfl, by decide +kernel, rfl, by decide +kernel, by decide +kernel⟩
theorem sc_Lmany : FnScope ["_law_counts_here", "_law_found", "_law_count"] ["_law_counts_here"] (defScope s_Lmany) := ⟨rfl, rfl, rfl, by decide +kernel, rfl, by decide +kernel, by decide +kernel⟩
theorem sc_Lisone : FnScope ["_law_turns", "_law_counts_here", "_law_seen", "_law_number"] ["_law_turns", "_law_counts_here"] (defScope s_Lisone) := ⟨rfl, rfl, rfl, by decide +kernel, rfl, by decide +kernel, by decide +kernel⟩
theorem sc_Lall : FnScope ["_law_found", "_law_counts_here", "_law_turns", "_law_one", "_law_other"] ["_law_found", "_law_counts_here"] (defScope s_Lall) := ⟨rfl, rfl, rfl, by decide +kernel, rfl, by decide +kernel, by decide +kernel⟩
theorem sc_law : FnScope ["_law_script", "_law_counts_here", "_law_many_here", "_law_handed", "_law_found", "_law_kinds", "e", "_law_again"] ["_law_script"] (defScope s_law) := ⟨rfl, rfl, rfl, by decide +kernel, rfl, by decide +kernel, by decide +kernel⟩
def ch : Nat → Nat → Nat
  | _, 0 => 1
  | 0, _ + 1 => 0
  | n + 1, k + 1 => ch n k + ch n (k + 1)
theorem ch_zero : ∀ {n : Nat}, ch n 0 = 1
  | 0 => rfl
  | _ + 1 => rfl
theorem ch_step : ∀ (n k : Nat), ch (n + 1) (k + 1) * (k + 1) = (n + 1) * ch n k
  | 0, 0 => rfl
  | 0, k + 1 => by show (0 + 0) * _ = _ * 0; rw [Nat.mul_zero, Nat.zero_add, Nat.zero_mul]
  | n + 1, 0 => by
    have h := ch_step n 0
    have e : ch (n + 1 + 1) (0 + 1) = ch (n + 1) 0 + ch (n + 1) (0 + 1) := rfl
    rw [ch_zero] at e h
    rw [ch_zero, e]
    omega
  | n + 1, k + 1 => by
    have h1 := ch_step n k
    have h2 := ch_step n (k + 1)
    have e : ch (n + 1 + 1) (k + 1 + 1) = ch (n + 1) (k + 1) + ch (n + 1) (k + 1 + 1) := rfl
    have e2 : ch (n + 1) (k + 1) = ch n k + ch n (k + 1) := rfl
    rw [e, Nat.add_mul, h2, Nat.mul_add (ch (n + 1) (k + 1)) (k + 1) 1, h1, Nat.mul_one, Nat.add_mul (n + 1) 1, Nat.one_mul, e2, Nat.mul_add]
    omega
def fac : Nat → Nat
  | 0 => 1
  | n + 1 => fac n * (n + 1)
theorem fac_pos : ∀ n, 0 < fac n
  | 0 => Nat.one_pos
  | n + 1 => Nat.mul_pos (fac_pos n) (Nat.succ_pos n)
theorem ch_fac (t : Nat) : ∀ p, ch (t + p) p * (fac t * fac p) = fac (t + p)
  | 0 => by rw [Nat.add_zero, ch_zero, Nat.one_mul]; exact Nat.mul_one _
  | p + 1 => by
    have h := ch_fac t p
    have s := ch_step (t + p) p
    show ch (t + p + 1) (p + 1) * (fac t * (fac p * (p + 1))) = fac (t + p) * (t + p + 1)
    rw [← h, show fac t * (fac p * (p + 1)) = (p + 1) * (fac t * fac p) by rw [← Nat.mul_assoc, Nat.mul_comm], ← Nat.mul_assoc, s, Nat.mul_comm (t + p + 1), Nat.mul_assoc, Nat.mul_assoc, Nat.mul_comm (t + p + 1)]
def facs (cs : List Nat) : Nat := cs.foldr (fun c a => fac c * a) 1
theorem facs_snoc {cs : List Nat} {c : Nat} : facs (cs ++ [c]) = facs cs * fac c := by
  induction cs with
  | nil => show fac c * 1 = 1 * fac c; omega
  | cons d cs ih => show fac d * facs (cs ++ [c]) = fac d * facs cs * fac c; rw [ih, Nat.mul_assoc]
theorem facs_pos : ∀ cs, 0 < facs cs
  | [] => Nat.one_pos
  | c :: cs => Nat.mul_pos (fac_pos c) (facs_pos cs)
theorem fac_le : ∀ n, n ≤ 512 → fac n ≤ 512 ^ n
  | 0, _ => Nat.le_refl _
  | n + 1, h => by
    show fac n * (n + 1) ≤ 512 ^ n * 512
    exact Nat.mul_le_mul (fac_le n (by omega)) h
/-- many weavings of c and turns: one count more -/
theorem many_step {many t p : Nat} : many * ch (t + p) p * (t + p + 1) / (p + 1) = many * ch (t + (p + 1)) (p + 1) := by
  have s := ch_step (t + p) p
  rw [Nat.mul_assoc, Nat.mul_comm (ch (t + p) p), ← s, ← Nat.mul_assoc]
  exact Nat.mul_div_cancel _ (Nat.succ_pos p)
theorem many_next {cs : List Nat} {i c many : Nat} (hc : cs[i]? = some c) (h : many * facs (cs.take i) = fac (cs.take i).sum) : (many * ch ((cs.take i).sum + c) c) * facs (cs.take (i + 1)) = fac (cs.take (i + 1)).sum := by
  have e : cs.take (i + 1) = cs.take i ++ [c] := by rw [List.take_add_one, hc]; rfl
  have f := ch_fac (cs.take i).sum c
  rw [e, facs_snoc, List.sum_append, show ([c] : List Nat).sum = c by simp, ← f, ← h, Nat.mul_assoc, Nat.mul_left_comm, Nat.mul_assoc]
def spHow (K : PySem.W.Frag) : Sp := fun vs H Q _ => ∃ (p : Addr) (cs : List Nat), vs = [.ref p] ∧ SqL K H p (cs.map fun c : Nat => V.int (c : Int)) ∧ cs.length ≤ 8 ∧ (∀ c ∈ cs, c ≤ 41) ∧ ∀ m : Nat, m * facs cs = fac cs.sum → Q (.int (m : Int)) H
def spFac : Sp := fun vs H Q _ => ∃ n : Nat, vs = [.int (n : Int)] ∧ n ≤ 512 ∧ Q (.int ((fac n : Nat) : Int)) H
theorem sum_take_le {cs : List Nat} (hm : ∀ c ∈ cs, c ≤ 41) (hl : cs.length ≤ 8) (i : Nat) : (cs.take i).sum ≤ 328 := by
  have : ∀ ds : List Nat, (∀ c ∈ ds, c ≤ 41) → ds.sum ≤ ds.length * 41 := by
    intro ds
    induction ds with
    | nil => intro _; exact Nat.zero_le _
    | cons d ds ih =>
      intro h
      rw [List.sum_cons, List.length_cons, Nat.add_mul, Nat.one_mul, Nat.add_comm]
      exact Nat.add_le_add (ih fun c hc => h c (List.mem_cons_of_mem _ hc)) (h d List.mem_cons_self)
  have h2 := this (cs.take i) fun c hc => hm c (List.mem_of_mem_take hc)
  rw [List.length_take] at h2
  have : min i cs.length ≤ 8 := by omega
  have := Nat.mul_le_mul_right 41 this
  omega
theorem sum_cast (cs : List Nat) : (cs.map fun c : Nat => (c : Int)).sum = ((cs.sum : Nat) : Int) := by
  induction cs with
  | nil => rfl
  | cons c cs ih => rw [List.map_cons, List.sum_cons, List.sum_cons, ih, Int.natCast_add]
theorem cut_from1 {xs : List V} : cutV xs (some 1) none = xs.drop 1 := by
  unfold cutV
  rw [show (1 : Int) = ((1 : Nat) : Int) from rfl, HT.sIx_nat, show HT.sIx xs.length xs.length none = xs.length from rfl]
  cases xs with
  | nil => rfl
  | cons x xs => rw [Nat.min_eq_left (by simp), List.take_of_length_le (by simp)]
/-- a sum over numbers -/
def sm (zs : List Nat) (f : Nat → Nat) : Nat := (zs.map f).sum
theorem sm_cons {z : Nat} {zs : List Nat} {f : Nat → Nat} : sm (z :: zs) f = f z + sm zs f := by unfold sm; rw [List.map_cons, List.sum_cons]
theorem sm_congr {zs : List Nat} {f g : Nat → Nat} (h : ∀ z ∈ zs, f z = g z) : sm zs f = sm zs g := by unfold sm; rw [List.map_congr_left h]
theorem sm_zero {zs : List Nat} {f : Nat → Nat} (h : ∀ z ∈ zs, f z = 0) : sm zs f = 0 := by
  induction zs with
  | nil => rfl
  | cons z zs ih => rw [sm_cons, h z List.mem_cons_self, ih fun y hy => h y (List.mem_cons_of_mem _ hy)]
theorem sm_mul {zs : List Nat} {f : Nat → Nat} {c : Nat} : sm zs f * c = sm zs fun z => f z * c := by
  induction zs with
  | nil => exact Nat.zero_mul c
  | cons z zs ih => rw [sm_cons, sm_cons, Nat.add_mul, ih]
theorem sm_split {zs : List Nat} {g h : Nat → Nat} {x : Nat} (nd : zs.Nodup) (hx : x ∈ zs) (h0 : h x = 0) (hg : ∀ z ∈ zs, z ≠ x → g z = h z) : sm zs g = g x + sm zs h := by
  induction zs with
  | nil => cases hx
  | cons z zs ih =>
    obtain ⟨n1, n2⟩ := List.nodup_cons.mp nd
    rw [sm_cons, sm_cons]
    by_cases e : z = x
    · subst e
      rw [h0, sm_congr (g := h) fun y hy => hg y (List.mem_cons_of_mem _ hy) fun q => n1 (q ▸ hy)]
      omega
    · rw [ih n2 ((List.mem_cons.mp hx).resolve_left fun q => e q.symm) fun y hy => hg y (List.mem_cons_of_mem _ hy), hg z List.mem_cons_self e]
      omega
def Mw (zs : List Nat) : Nat → List Nat → Nat
  | 0, _ => 1
  | n + 1, w => sm zs fun z => if z ∈ w then Mw zs n (w.erase z) else 0
def cv (zs w : List Nat) : List Nat := zs.map fun z => w.count z
theorem cv_erase {zs w : List Nat} {j : Nat} (nd : zs.Nodup) (hj : j ∈ zs) (hw : j ∈ w) : facs (cv zs (w.erase j)) * w.count j = facs (cv zs w) := by
  have hp : 0 < w.count j := List.count_pos_iff.mpr hw
  have hf : fac (w.count j - 1) * w.count j = fac (w.count j) := by
    obtain ⟨c, e⟩ : ∃ c, w.count j = c + 1 := ⟨w.count j - 1, by omega⟩
    rw [e]; rfl
  induction zs with
  | nil => cases hj
  | cons z zs ih =>
    obtain ⟨n1, n2⟩ := List.nodup_cons.mp nd
    show fac ((w.erase j).count z) * facs (cv zs (w.erase j)) * w.count j = fac (w.count z) * facs (cv zs w)
    by_cases e : z = j
    · subst e
      have : cv zs (w.erase z) = cv zs w := List.map_congr_left fun y hy => List.count_erase_of_ne fun (q : y = z) => n1 (q ▸ hy)
      rw [this, List.count_erase_self, Nat.mul_right_comm, hf]
    · rw [List.count_erase_of_ne e, Nat.mul_assoc, ih n2 ((List.mem_cons.mp hj).resolve_left fun q => e q.symm)]
theorem sm_one {zs : List Nat} {a : Nat} (nd : zs.Nodup) (ha : a ∈ zs) : (sm zs fun z => if a = z then 1 else 0) = 1 := by
  rw [sm_split (x := a) (h := fun _ => 0) nd ha rfl fun z _ hz => if_neg fun q => hz q.symm, sm_zero fun _ _ => rfl, if_pos rfl]
theorem sm_add {zs : List Nat} {f g : Nat → Nat} : (sm zs fun z => f z + g z) = sm zs f + sm zs g := by
  induction zs with
  | nil => rfl
  | cons z zs ih => rw [sm_cons, sm_cons, sm_cons, ih]; omega
theorem sm_count {zs : List Nat} (nd : zs.Nodup) : ∀ {w : List Nat}, (∀ y ∈ w, y ∈ zs) → (sm zs fun z => w.count z) = w.length
  | [], _ => sm_zero fun _ _ => rfl
  | a :: w, h => by
    have e : (sm zs fun z => (a :: w).count z) = sm zs fun z => w.count z + if a = z then 1 else 0 := sm_congr fun z _ => by
      rw [List.count_cons]
      by_cases q : a = z
      · rw [if_pos q, if_pos (by rw [q]; exact beq_self_eq_true z)]
      · rw [if_neg q, if_neg fun r => q (eq_of_beq r)]
    rw [e, sm_add, sm_count nd fun y hy => h y (List.mem_cons_of_mem _ hy), sm_one nd (h a List.mem_cons_self), List.length_cons]
theorem Mw_facs {zs : List Nat} (nd : zs.Nodup) : ∀ {n : Nat} {w : List Nat}, w.length = n → (∀ y ∈ w, y ∈ zs) → Mw zs n w * facs (cv zs w) = fac n
  | 0, w, hn, _ => by
    obtain rfl := List.eq_nil_of_length_eq_zero hn
    have : ∀ zs : List Nat, facs (cv zs []) = 1 := fun zs => by
      induction zs with
      | nil => rfl
      | cons z zs ih => show fac 0 * facs (cv zs []) = 1; rw [ih]; rfl
    rw [this]; rfl
  | n + 1, w, hn, h => by
    show (sm zs fun z => if z ∈ w then Mw zs n (w.erase z) else 0) * facs (cv zs w) = fac n * (n + 1)
    rw [sm_mul, ← hn, ← sm_count nd h, Nat.mul_comm (fac n), sm_mul]
    refine sm_congr fun z hz => ?_
    by_cases q : z ∈ w
    · rw [if_pos q, ← cv_erase nd hz q, ← Nat.mul_assoc, Mw_facs nd (by rw [List.length_erase_of_mem q]; omega) (fun y hy => h y (List.mem_of_mem_erase hy)), Nat.mul_comm]
    · rw [if_neg q, List.count_eq_zero_of_not_mem q, Nat.zero_mul, Nat.zero_mul]
theorem Mw_eq {zs w v : List Nat} (nd : zs.Nodup) (hc : ∀ z, w.count z = v.count z) (hw : ∀ y ∈ w, y ∈ zs) (hl : w.length = v.length) : Mw zs w.length w = Mw zs v.length v := by
  have e : cv zs w = cv zs v := List.map_congr_left fun z _ => hc z
  have h1 := Mw_facs nd rfl hw
  have h2 := Mw_facs nd rfl (w := v) fun y hy => hw y (List.count_pos_iff.mp (by rw [hc]; exact List.count_pos_iff.mpr hy))
  rw [e, hl, ← h2] at h1
  rw [hl]
  exact Nat.eq_of_mul_eq_mul_right (facs_pos _) h1
/-- how many words there are from this one on -/
def cnt (zs : List Nat) : List Nat → Nat
  | [] => 1
  | x :: r => cnt zs r + sm zs fun z => if x < z ∧ z ∈ x :: r then Mw zs r.length ((x :: r).erase z) else 0
theorem len_of_count {zs w v : List Nat} (nd : zs.Nodup) (hc : ∀ z, w.count z = v.count z) (hw : ∀ y ∈ w, y ∈ zs) : w.length = v.length := by
  have hv : ∀ y ∈ v, y ∈ zs := fun y hy => hw y (List.count_pos_iff.mp (by rw [hc]; exact List.count_pos_iff.mpr hy))
  rw [← sm_count nd hw, ← sm_count nd hv]
  exact sm_congr fun z _ => hc z
theorem mem_of_count {w v : List Nat} (hc : ∀ z, w.count z = v.count z) {y : Nat} : y ∈ w ↔ y ∈ v := by
  rw [← List.count_pos_iff, ← List.count_pos_iff, hc]
theorem erase_count {w v : List Nat} (hc : ∀ z, w.count z = v.count z) (y : Nat) : ∀ z, (w.erase y).count z = (v.erase y).count z := fun z => by
  by_cases e : z = y
  · subst e; rw [List.count_erase_self, List.count_erase_self, hc]
  · rw [List.count_erase_of_ne e, List.count_erase_of_ne e, hc]
theorem sm_same {zs w v : List Nat} {x : Nat} (nd : zs.Nodup) (hc : ∀ z, (x :: w).count z = (x :: v).count z) (hw : ∀ y ∈ x :: w, y ∈ zs) : (sm zs fun z => if x < z ∧ z ∈ x :: w then Mw zs w.length ((x :: w).erase z) else 0) = sm zs fun z => if x < z ∧ z ∈ x :: v then Mw zs v.length ((x :: v).erase z) else 0 := by
  refine sm_congr fun z _ => ?_
  by_cases q : x < z ∧ z ∈ x :: w
  · have q2 : x < z ∧ z ∈ x :: v := ⟨q.1, (mem_of_count hc).mp q.2⟩
    rw [if_pos q, if_pos q2]
    have l1 : ((x :: w).erase z).length = w.length := by rw [List.length_erase_of_mem q.2]; rfl
    have l2 : ((x :: v).erase z).length = v.length := by rw [List.length_erase_of_mem q2.2]; rfl
    have hm : ∀ y ∈ (x :: w).erase z, y ∈ zs := fun y hy => hw y (List.mem_of_mem_erase hy)
    have := Mw_eq nd (erase_count hc z) hm (len_of_count nd (erase_count hc z) hm)
    rw [l1, l2] at this
    exact this
  · rw [if_neg q, if_neg fun q2 => q ⟨q2.1, (mem_of_count hc).mpr q2.2⟩]
theorem cnt_pre {zs s t : List Nat} (nd : zs.Nodup) (hc : ∀ z, s.count z = t.count z) : ∀ {p : List Nat}, (∀ y ∈ p ++ s, y ∈ zs) → cnt zs (p ++ s) + cnt zs t = cnt zs (p ++ t) + cnt zs s
  | [], _ => Nat.add_comm _ _
  | x :: p, h => by
    have ih := cnt_pre nd hc (p := p) fun y hy => h y (List.mem_cons_of_mem _ hy)
    have e := sm_same (x := x) (w := p ++ s) (v := p ++ t) nd (fun z => by rw [List.count_cons, List.count_cons, List.count_append, List.count_append, hc]) h
    show cnt zs (p ++ s) + (sm zs fun z => if x < z ∧ z ∈ x :: (p ++ s) then Mw zs (p ++ s).length ((x :: (p ++ s)).erase z) else 0) + _ = cnt zs (p ++ t) + (sm zs fun z => if x < z ∧ z ∈ x :: (p ++ t) then Mw zs (p ++ t).length ((x :: (p ++ t)).erase z) else 0) + _
    rw [e]
    omega
theorem cnt_last {zs : List Nat} : ∀ {w : List Nat}, w.Pairwise (fun a b => b ≤ a) → cnt zs w = 1
  | [], _ => rfl
  | x :: r, h => by
    obtain ⟨h1, h2⟩ := List.pairwise_cons.mp h
    show cnt zs r + _ = 1
    rw [cnt_last h2, sm_zero]
    intro z _
    refine if_neg fun ⟨q1, q2⟩ => ?_
    rcases List.mem_cons.mp q2 with q | q
    · omega
    · have := h1 z q; omega
theorem cnt_least {zs : List Nat} (nd : zs.Nodup) : ∀ {w : List Nat}, w.Pairwise (fun a b => a ≤ b) → (∀ y ∈ w, y ∈ zs) → cnt zs w = Mw zs w.length w
  | [], _, _ => rfl
  | x :: r, h, hz => by
    obtain ⟨h1, h2⟩ := List.pairwise_cons.mp h
    show cnt zs r + _ = sm zs fun z => if z ∈ x :: r then Mw zs r.length ((x :: r).erase z) else 0
    rw [cnt_least nd h2 fun y hy => hz y (List.mem_cons_of_mem _ hy), sm_split (g := fun z => if z ∈ x :: r then Mw zs r.length ((x :: r).erase z) else 0) (x := x) (h := fun z => if x < z ∧ z ∈ x :: r then Mw zs r.length ((x :: r).erase z) else 0) nd (hz x List.mem_cons_self) (if_neg fun q => Nat.lt_irrefl _ q.1) ?_]
    · show _ = (if x ∈ x :: r then _ else _) + _
      rw [if_pos List.mem_cons_self, List.erase_cons_head]
    · intro z _ hne
      by_cases q : z ∈ x :: r
      · have : x < z := by
          have := h1 z ((List.mem_cons.mp q).resolve_left hne)
          omega
        show (if z ∈ x :: r then _ else _) = if x < z ∧ z ∈ x :: r then _ else _
        rw [if_pos q, if_pos ⟨this, q⟩]
      · show (if z ∈ x :: r then _ else _) = if x < z ∧ z ∈ x :: r then _ else _
        rw [if_neg q, if_neg fun q2 => q q2.2]
theorem cnt_next {zs p r t : List Nat} {x g : Nat} (nd : zs.Nodup) (hz : ∀ y ∈ p ++ x :: r, y ∈ zs) (hr : r.Pairwise (fun a b => b ≤ a)) (hg : g ∈ r) (hx : x < g) (hm : ∀ z ∈ r, x < z → g ≤ z) (ht : t.Pairwise (fun a b => a ≤ b)) (hc : ∀ z, (x :: r).count z = (g :: t).count z) : cnt zs (p ++ x :: r) = cnt zs (p ++ g :: t) + 1 := by
  have hz2 : ∀ y ∈ x :: r, y ∈ zs := fun y hy => hz y (List.mem_append_right _ hy)
  have hz3 : ∀ y ∈ g :: t, y ∈ zs := fun y hy => hz2 y ((mem_of_count hc).mpr hy)
  have pre := cnt_pre nd hc hz
  have hl : r.length = t.length := by have := len_of_count nd hc hz2; simpa using this
  have he : ∀ z, z ∈ x :: r → Mw zs r.length ((x :: r).erase z) = Mw zs t.length ((g :: t).erase z) := fun z q => by
    have q2 := (mem_of_count hc).mp q
    have l1 : ((x :: r).erase z).length = r.length := by rw [List.length_erase_of_mem q]; rfl
    have l2 : ((g :: t).erase z).length = t.length := by rw [List.length_erase_of_mem q2]; rfl
    have := Mw_eq nd (erase_count hc z) (fun y hy => hz2 y (List.mem_of_mem_erase hy)) (by rw [l1, l2, hl])
    rw [l1, l2] at this
    exact this
  have main : cnt zs (x :: r) = cnt zs (g :: t) + 1 := by
    show cnt zs r + (sm zs fun z => if x < z ∧ z ∈ x :: r then Mw zs r.length ((x :: r).erase z) else 0) = cnt zs t + (sm zs fun z => if g < z ∧ z ∈ g :: t then Mw zs t.length ((g :: t).erase z) else 0) + 1
    rw [cnt_last hr, cnt_least nd ht fun y hy => hz3 y (List.mem_cons_of_mem _ hy), sm_split (x := g) (h := fun z => if g < z ∧ z ∈ g :: t then Mw zs t.length ((g :: t).erase z) else 0) nd (hz3 g List.mem_cons_self) (if_neg fun q => Nat.lt_irrefl _ q.1) ?_]
    · show 1 + ((if x < g ∧ g ∈ x :: r then _ else _) + _) = _
      rw [if_pos ⟨hx, List.mem_cons_of_mem _ hg⟩, he g (List.mem_cons_of_mem _ hg), List.erase_cons_head]
      omega
    · intro z _ hne
      show (if x < z ∧ z ∈ x :: r then _ else _) = if g < z ∧ z ∈ g :: t then _ else _
      by_cases q : x < z ∧ z ∈ x :: r
      · have zr : z ∈ r := (List.mem_cons.mp q.2).resolve_left (by omega)
        have := hm z zr q.1
        rw [if_pos q, if_pos ⟨by omega, (mem_of_count hc).mp q.2⟩, he z q.2]
      · rw [if_neg q, if_neg fun q2 => q ⟨by omega, (mem_of_count hc).mpr q2.2⟩]
  omega
/-- the numbers 1 .. k, and the least word of counts -/
def zs (k : Nat) : List Nat := List.range' 1 k
theorem zs_nd {k : Nat} : (zs k).Nodup := List.nodup_range'
theorem zs_mem {k z : Nat} : z ∈ zs k ↔ 1 ≤ z ∧ z ≤ k := by
  unfold zs
  rw [List.mem_range'_1]
  omega
def lw : Nat → List Nat → List Nat
  | _, [] => []
  | i, c :: cs => List.replicate c i ++ lw (i + 1) cs
theorem lw_snoc {c : Nat} : ∀ {cs : List Nat} {i : Nat}, lw i (cs ++ [c]) = lw i cs ++ List.replicate c (i + cs.length)
  | [], i => by show List.replicate c i ++ [] = [] ++ _; simp
  | d :: cs, i => by
    show List.replicate d i ++ lw (i + 1) (cs ++ [c]) = List.replicate d i ++ lw (i + 1) cs ++ _
    rw [lw_snoc, List.append_assoc, List.length_cons, show i + 1 + cs.length = i + (cs.length + 1) by omega]
theorem lw_len : ∀ {cs : List Nat} {i : Nat}, (lw i cs).length = cs.sum
  | [], _ => rfl
  | d :: cs, i => by
    show (List.replicate d i ++ lw (i + 1) cs).length = _
    rw [List.length_append, List.length_replicate, lw_len, List.sum_cons]
theorem lw_mem : ∀ {cs : List Nat} {i z : Nat}, z ∈ lw i cs → i ≤ z ∧ z < i + cs.length
  | [], _, _, h => by cases h
  | d :: cs, i, z, h => by
    rcases List.mem_append.mp (show z ∈ List.replicate d i ++ lw (i + 1) cs from h) with q | q
    · have := (List.mem_replicate.mp q).2
      rw [List.length_cons]; omega
    · have := lw_mem q
      rw [List.length_cons]; omega
theorem lw_count : ∀ {cs : List Nat} {i j c : Nat}, cs[j]? = some c → (lw i cs).count (i + j) = c
  | [], _, _, _, h => by simp at h
  | d :: cs, i, j, c, h => by
    show (List.replicate d i ++ lw (i + 1) cs).count (i + j) = c
    rw [List.count_append, List.count_replicate]
    cases j with
    | zero =>
      have : d = c := by simpa using h
      rw [if_pos (by simp), List.count_eq_zero_of_not_mem fun q => by have := lw_mem q; omega, this]; omega
    | succ j =>
      rw [if_neg (by simp), show i + (j + 1) = i + 1 + j by omega, lw_count (c := c) (by simpa using h)]; omega
theorem lw_sorted : ∀ {cs : List Nat} {i : Nat}, (lw i cs).Pairwise (fun a b => a ≤ b)
  | [], _ => .nil
  | d :: cs, i => by
    show (List.replicate d i ++ lw (i + 1) cs).Pairwise _
    refine List.pairwise_append.mpr ⟨?_, lw_sorted, fun a ha b hb => ?_⟩
    · refine List.pairwise_replicate.mpr (.inr (Nat.le_refl _))
    · have h1 := (List.mem_replicate.mp ha).2
      have h2 := lw_mem hb
      omega
theorem lw_zs {cs : List Nat} : ∀ y ∈ lw 1 cs, y ∈ zs cs.length := fun y h => by
  have := lw_mem h
  exact zs_mem.mpr ⟨by omega, by omega⟩
theorem cv_lw {cs : List Nat} : cv (zs cs.length) (lw 1 cs) = cs := by
  refine List.ext_getElem? fun j => ?_
  unfold cv zs
  rw [List.getElem?_map]
  by_cases h : j < cs.length
  · rw [List.getElem?_range' h, List.getElem?_eq_getElem h]
    rw [Nat.one_mul]
    exact congrArg some (lw_count (List.getElem?_eq_getElem h))
  · rw [List.getElem?_eq_none (by rw [List.length_range']; omega), List.getElem?_eq_none (by omega)]
    rfl
theorem many_lw {cs : List Nat} : cnt (zs cs.length) (lw 1 cs) * facs cs = fac cs.sum := by
  have h := Mw_facs (zs_nd (k := cs.length)) (lw_len (cs := cs) (i := 1)) lw_zs
  rw [cv_lw] at h
  have e := cnt_least zs_nd (lw_sorted (cs := cs) (i := 1)) lw_zs
  rw [lw_len] at e
  rw [e, h]
theorem many_uniq {cs : List Nat} {m : Nat} (h : m * facs cs = fac cs.sum) : m = cnt (zs cs.length) (lw 1 cs) := Nat.eq_of_mul_eq_mul_right (facs_pos cs) (h.trans many_lw.symm)
def zi (w : List Nat) : List Int := w.map fun n : Nat => (n : Int)
/-- one word and a greater one -/
def Lex (w v : List Nat) : Prop := ∃ p x r g t, w = p ++ x :: r ∧ v = p ++ g :: t ∧ x < g
abbrev ci (cs : List Nat) : List V := cs.map fun c : Nat => V.int (c : Int)
abbrev wi (w : List Nat) : List V := (zi w).map V.int
/-- counts that are not too many, or whose words are short -/
def Few (cs : List Nat) : Prop := cs.length ≤ 8 ∧ (∀ c ∈ cs, c ≤ 41) ∧ ((∀ m, m * facs cs = fac cs.sum → 2000 < m) ∨ cs.sum < 64)
def spLeast : Sp := fun vs H Q _ => ∃ (p : Addr) (cs : List Nat), vs = [.ref p] ∧ H p = some (.lst (ci cs)) ∧ cs.length ≤ 8 ∧ (∀ c ∈ cs, c ≤ 41) ∧ ∀ q H', H q = none → Same H H' → H' q = some (.lst (wi (lw 1 cs))) → Q (.ref q) H'
def spNext : Sp := fun vs H Q _ => ∃ (p : Addr) (w : List Nat), vs = [.ref p] ∧ H p = some (.lst (wi w)) ∧ w.length < 64 ∧ (w.Pairwise (fun a b => b ≤ a) → ∀ H', Same H H' → Q .non H') ∧
  ∀ pre x r g t, w = pre ++ x :: r → r.Pairwise (fun a b => b ≤ a) → g ∈ r → x < g → (∀ z ∈ r, x < z → g ≤ z) → t.Pairwise (fun a b => a ≤ b) → (∀ z, (x :: r).count z = (g :: t).count z) → ∀ q H', H q = none → Same H H' → H' q = some (.lst (wi (pre ++ g :: t))) → Q (.ref q) H'
/-- the words told, in their order -/
structure Wds (H0 H : Hp) (cs : List Nat) (ps : List Addr) (ws : List (List Nat)) : Prop where
  len : ps.length = ws.length
  at' : ∀ (i : Nat) p w, ps[i]? = some p → ws[i]? = some w → H0 p = none ∧ H p = some (.lst (wi w))
  cnt : ∀ w ∈ ws, ∀ z, w.count z = (lw 1 cs).count z
  lex : ∀ (i : Nat) w v, ws[i]? = some w → ws[i + 1]? = some v → Lex w v
def spWeav (N : Addr) : Sp := fun vs H Q E => ∃ (p : Addr) (cs : List Nat), vs = [.ref p] ∧ H p = some (.lst (ci cs)) ∧ Few cs ∧
  (2000 < cnt (zs cs.length) (lw 1 cs) → ∀ H', Same H H' → E (.ref N) none H') ∧
  (cnt (zs cs.length) (lw 1 cs) ≤ 2000 → ∀ q H' ps ws, H q = none → Same H H' → H' q = some (.lst (ps.map V.ref)) → Wds H H' cs ps ws → ws.length = cnt (zs cs.length) (lw 1 cs) → Q (.ref q) H')
def spMany (K : PySem.W.Frag) : Sp := fun vs H Q _ => ∃ (p : Addr) (cs : List Nat), vs = [.ref p] ∧ SqL K H p (ci cs) ∧ cs.length ≤ 8 ∧ (∀ c ∈ cs, c ≤ 41) ∧ Q (.int ((cnt (zs cs.length) (lw 1 cs) : Nat) : Int)) H
def spCounts (K : PySem.W.Frag) : Sp := fun vs H Q _ => ∃ (a : Addr) (ns : List Int), vs = [.ref a] ∧ SqL K H a (ns.map V.int) ∧ ns.length ≤ 63 ∧ ∀ cs q H', Few cs → H q = none → Same H H' → H' q = some (.lst (ci cs)) → Q (.ref q) H'
def spOne (K : PySem.W.Frag) : Sp := fun vs H Q _ => ∃ (p d : Addr) (w cs : List Nat), vs = [.ref p, .ref d] ∧ H p = some (.lst (wi w)) ∧ SqL K H d (ci cs) ∧ cs.length ≤ 8 ∧ (∀ c ∈ cs, c ≤ 41) ∧ (∀ z, w.count z = (lw 1 cs).count z) ∧ ∀ H', Same H H' → Q (.bl true) H'
def spAll (K : PySem.W.Frag) : Sp := fun vs H Q _ => ∃ (p d : Addr) (cs : List Nat) (ps : List Addr) (ws : List (List Nat)) (H0 : Hp), vs = [.ref p, .ref d] ∧ H p = some (.lst (ps.map V.ref)) ∧ SqL K H d (ci cs) ∧ Wds H0 H cs ps ws ∧ cs.length ≤ 8 ∧ (∀ c ∈ cs, c ≤ 41) ∧ ws.length ≤ 2000 ∧ ∀ H', Same H H' → Q (.bl true) H'
def spCell (K : PySem.W.Frag) : Sp := fun vs H Q _ => ∃ (a : Addr) (ns : List Int) (k : Nat), vs = [.ref a, .int (k : Int)] ∧ SqL K H a (ns.map V.int) ∧ ns.length ≤ 63 ∧ k ≤ 1000 ∧ ∀ v : Int, Q (.int v) H
def spLaw (K : PySem.W.Frag) : Sp := fun vs H Q _ => ∃ (a : Addr) (ns : List Int), vs = [.ref a] ∧ SqL K H a (ns.map V.int) ∧ ns.length ≤ 63 ∧ (∀ m ∈ ns, Builtin.Int.intBits m ≤ 1048576) ∧ ∀ H', Q (.bl true) H'
theorem range_gather {α β : Type} (l : List α) (d : α) (g : α → Option β) : (List.range l.length).filterMap (fun i => g (l.getD i d)) = l.filterMap g := by
  have e : (List.range l.length).map (fun i => l.getD i d) = l := by
    refine List.ext_getElem (by simp) fun i h1 h2 => ?_
    simp only [List.getElem_map, List.getElem_range]
    rw [List.getD_eq_getElem?_getD, List.getElem?_eq_getElem h2]
    rfl
  conv => rhs; rw [← e]
  rw [List.filterMap_map]
  rfl
theorem gather_filter {α : Type} (l : List α) (p : α → Bool) (f : α → V) : l.filterMap (fun x => if p x = true then some (f x) else none) = (l.filter p).map f := by
  induction l with
  | nil => rfl
  | cons x r ih =>
    rw [List.filterMap_cons, List.filter_cons]
    by_cases h : p x = true
    · simp only [h, if_true, List.map_cons, ih]
    · simp only [h, if_false, ih, Bool.false_eq_true]
theorem gather_all {α β : Type} (l : List α) (f : α → β) : l.filterMap (fun x => some (f x)) = l.map f := by
  induction l with
  | nil => rfl
  | cons x r ih => simp only [List.filterMap_cons, List.map_cons, ih]
theorem cut_from {xs : List V} {j : Nat} (h : j ≤ xs.length) : cutV xs (some (j : Int)) none = xs.drop j := by
  unfold cutV
  rw [HT.sIx_nat, show HT.sIx xs.length xs.length none = xs.length from rfl, Nat.min_eq_left h, List.take_of_length_le (by simp)]
theorem cut_to {xs : List V} {j : Nat} (h : j ≤ xs.length) : cutV xs none (some (j : Int)) = xs.take j := by
  unfold cutV
  rw [HT.sIx_nat, show HT.sIx xs.length 0 none = 0 from rfl, Nat.min_eq_left h, List.drop_zero, Nat.sub_zero]
theorem wi_len {w : List Nat} : (wi w).length = w.length := by simp [wi, zi]
theorem wi_at {w : List Nat} {i x : Nat} (h : w[i]? = some x) : (wi w)[i]? = some (.int (x : Int)) := by
  simp [wi, zi, h]
theorem pw_short {l : List Nat} {R : Nat → Nat → Prop} (h : l.length ≤ 1) : l.Pairwise R := by
  match l, h with
  | [], _ => exact .nil
  | [a], _ => exact List.pairwise_singleton _ _
  | _ :: _ :: _, h => simp at h
/-- the first place of a number in a list -/
theorem first_at : ∀ {l : List Nat} {g : Nat}, g ∈ l → ∃ j, l[j]? = some g ∧ (∀ i, i < j → l[i]? ≠ some g) ∧ l.eraseIdx j = l.erase g
  | [], _, h => by cases h
  | x :: l, g, h => by
    by_cases e : x = g
    · subst e
      exact ⟨0, rfl, fun i hi => by omega, by rw [List.erase_cons_head]; rfl⟩
    · obtain ⟨j, h1, h2, h3⟩ := first_at ((List.mem_cons.mp h).resolve_left fun q => e q.symm)
      refine ⟨j + 1, h1, fun i hi => ?_, ?_⟩
      · cases i with
        | zero => exact fun q => e (Option.some.inj q)
        | succ i => exact h2 i (by omega)
      · rw [List.erase_cons_tail (by simpa using e), ← h3]
        rfl
theorem zi_erase {l : List Nat} : ∀ {j : Nat}, (zi l).eraseIdx j = zi (l.eraseIdx j) := by
  induction l with
  | nil => intro j; rfl
  | cons x l ih =>
    intro j
    cases j with
    | zero => rfl
    | succ j => show (x : Int) :: _ = (x : Int) :: _; rw [show (List.map (fun n : Nat => (n : Int)) l).eraseIdx j = _ from ih]; rfl
/-- sorted, as numbers from 0 on -/
theorem risen_zi (l : List Nat) : ∃ t : List Nat, risen (zi l) = zi t ∧ t.Perm l ∧ t.Pairwise (fun a b => a ≤ b) := by
  have hp := risen_perm (zi l)
  have hn : ∀ k ∈ risen (zi l), ((k.toNat : Nat) : Int) = k := fun k hk => by
    obtain ⟨n, _, rfl⟩ := List.mem_map.mp (hp.mem_iff.mp hk)
    rfl
  have e : risen (zi l) = zi ((risen (zi l)).map Int.toNat) := by
    unfold zi at hn ⊢
    rw [List.map_map]
    conv => lhs; rw [← List.map_id (risen _)]
    exact List.map_congr_left fun k hk => (hn k hk).symm
  refine ⟨_, e, ?_, ?_⟩
  · have := hp.map Int.toNat
    refine this.trans ?_
    unfold zi
    rw [List.map_map]
    have : (Int.toNat ∘ fun n : Nat => (n : Int)) = id := funext fun n => Int.toNat_natCast n
    rw [this, List.map_id]
  · have hr := risen_rises (zi l)
    refine List.pairwise_map.mpr (hr.imp fun h => by omega)
section
variable {P : Program} {w : World} {K : PySem.W.Frag} {mg : Str → Option Value} {base : Heap}
theorem ok_howmany (T : Tx K mg) : FnOk P w K mg base CX0 1 T.f_howmany T.d_howmany ["counts"] (spHow K) := by
  refine T.F_howmany.ok sc_howmany (fun vs H Q E h => ?_) (fun cdv A outer s H vs Q E hr h => ?_)
  · obtain ⟨p, cs, rfl, _⟩ := h
    rfl
  · obtain ⟨p, cs, rfl, hS, hl, hm, q⟩ := h
    refine ⟨_, (pss_cons (ps_set (i := 1) sc_howmany.nd rfl (Or.inl rfl) pe_int)
      (pss_cons (ps_set (i := 2) sc_howmany.nd rfl (Or.inl rfl) pe_int)
      (pss_cons (ps_for PassesOwn.never rfl (pi_list (pv 0)) (pg_name (i := 3) sc_howmany.nd rfl (Or.inl rfl))
      (pss_one (ps_for PassesOwn.never rfl (pi_range2 rfl T.z_range (pa_cons pe_int (pa_cons (pe_op op_add (pv 3) pe_int) pa_nil))) (pg_name (i := 4) sc_howmany.nd rfl (Or.inl rfl))
      (pss_cons (ps_aug (i := 2) sc_howmany.nd rfl (Or.inl rfl) pe_int ip_add)
      (pss_one (ps_set (i := 1) sc_howmany.nd rfl (Or.inl rfl) (pe_op op_fdiv (pe_op op_mul (pv 1) (pv 2)) (pv 4))))))))
      (pss_one (ps_ret (pv 1)))))), ?_⟩
    refine ⟨_, rfl, p, rfl, ⟨_, hS⟩, for_list (K := K) (a := p) (xs := cs.map fun c : Nat => V.int (c : Int)) (fun i σ H2 => H2 = H ∧ ∃ (many : Nat) (x3 x4 : Option V), σ = [some (.ref p), some (.int (many : Int)), some (.int (((cs.take i).sum : Nat) : Int)), x3, x4] ∧ many * facs (cs.take i) = fac (cs.take i).sum) ⟨rfl, 1, none, none, rfl, rfl⟩ (fun i σ H2 _ ⟨e, _⟩ => e ▸ hS) ?_ ?_⟩
    · rintro i y σ H2 hy ⟨rfl, many, x3, x4, rfl, hm2⟩
      rw [List.getElem?_map] at hy
      obtain ⟨c, hc, rfl⟩ := Option.map_eq_some_iff.mp hy
      have c41 := hm c (List.mem_of_getElem? hc)
      have t328 := sum_take_le hm hl i
      have nx := many_next hc hm2
      have sx : (cs.take (i + 1)).sum = (cs.take i).sum + c := by rw [List.take_add_one, hc, List.sum_append]; simp
      rw [sx] at nx
      generalize (cs.take i).sum = t at hm2 t328 nx sx
      refine ⟨_, rfl, _, _, rfl, rfl, 1, (c : Int) + 1, rfl, ⟨by decide, by decide, by omega, by omega⟩, for_range (lo := 1) (n := ((c : Int) + 1 - 1).toNat) (fun j σ H3 => H3 = H2 ∧ ∃ x4 : Option V, σ = [some (.ref p), some (.int ((many * ch (t + j) j : Nat) : Int)), some (.int ((t + j : Nat) : Int)), some (.int (c : Int)), x4]) ⟨rfl, x4, by rw [ch_zero, Nat.mul_one]; rfl⟩ ?_ ?_⟩
      · rintro j σ H3 hj ⟨rfl, x4, rfl⟩
        have hj2 : j < c := by omega
        refine ⟨_, rfl, _, _, rfl, rfl, ?_⟩
        refine ⟨_, rfl, _, rfl, _, _, rfl, rfl, .inr (show -(2 ^ 64) < (((t + j : Nat) : Int) + 1) ∧ (((t + j : Nat) : Int) + 1) < 2 ^ 64 from ⟨by omega, by omega⟩), _, rfl, _, _, rfl, rfl, ⟨by omega, by omega⟩, rfl, some (.int (1 + (j : Int))), ?_⟩
        have e : (((many * ch (t + j) j : Nat) : Int) * (((t + j : Nat) : Int) + 1)) / (1 + (j : Int)) = ((many * ch (t + (j + 1)) (j + 1) : Nat) : Int) := by
          rw [← many_step, Int.natCast_ediv, Int.natCast_mul (many * ch (t + j) j) (t + j + 1), Int.add_comm 1 (j : Int)]
          rfl
        rw [← e]
        rfl
      · rintro σ H3 ⟨rfl, x4, rfl⟩
        rw [show ((c : Int) + 1 - 1).toNat = c by omega]
        exact ⟨rfl, _, _, _, by rw [sx], by rw [sx]; exact nx⟩
    · rintro σ H2 ⟨rfl, many, x3, x4, rfl, hm2⟩
      rw [List.length_map, List.take_length] at hm2
      exact ⟨_, rfl, q many hm2⟩
theorem ok_Lfactorial (T : Tx K mg) : FnOk P w K mg base CX0 1 T.f_Lfactorial T.d_Lfactorial ["_law_number"] spFac := by
  refine T.F_Lfactorial.ok sc_Lfactorial (fun vs H Q E h => ?_) (fun cdv A outer s H vs Q E hr h => ?_)
  · obtain ⟨n, rfl, _⟩ := h
    rfl
  · obtain ⟨n, rfl, hn, q⟩ := h
    refine ⟨_, (pss_cons (ps_set (i := 1) sc_Lfactorial.nd rfl (Or.inl rfl) pe_int)
      (pss_cons (ps_for PassesOwn.never rfl (pi_range1 rfl T.z_range (pa_cons (pv 0) pa_nil)) (pg_name (i := 2) sc_Lfactorial.nd rfl (Or.inl rfl))
      (pss_one (ps_set (i := 1) sc_Lfactorial.nd rfl (Or.inl rfl) (pe_op op_mul (pv 1) (pe_op op_add (pv 2) pe_int)))))
      (pss_one (ps_ret (pv 1))))), ?_⟩
    refine ⟨_, rfl, (n : Int), rfl, by omega, by omega, for_range (lo := 0) (n := (n : Int).toNat) (fun j σ H3 => H3 = H ∧ ∃ x2 : Option V, σ = [some (.int (n : Int)), some (.int ((fac j : Nat) : Int)), x2]) ⟨rfl, none, rfl⟩ ?_ ?_⟩
    · rintro j σ H3 hj ⟨rfl, x2, rfl⟩
      refine ⟨_, rfl, _, rfl, _, _, rfl, rfl, _, _, rfl, rfl, .inr ⟨by omega, by omega⟩, rfl, some (.int (0 + (j : Int))), ?_⟩
      rw [show ((fac (j + 1) : Nat) : Int) = ((fac j : Nat) : Int) * (0 + (j : Int) + 1) by rw [show fac (j + 1) = fac j * (j + 1) from rfl, Int.natCast_mul, Int.zero_add]; rfl]
      rfl
    · rintro σ H3 ⟨rfl, x2, rfl⟩
      rw [show (n : Int).toNat = n by omega]
      exact ⟨_, rfl, q⟩
--@STAGE
theorem ok_leastweaving (T : Tx K mg) : FnOk P w K mg base CX0 1 T.f_leastweaving T.d_leastweaving ["counts"] spLeast := by
  refine T.F_leastweaving.ok sc_leastweaving (fun vs H Q E h => ?_) (fun cdv A outer s H vs Q E hr h => ?_)
  · obtain ⟨p, cs, rfl, _⟩ := h
    rfl
  · obtain ⟨p, cs, rfl, hS, hl, hm, q⟩ := h
    have hu := hu_of hr
    refine ⟨_, (pss_cons (ps_set (i := 1) sc_leastweaving.nd rfl (Or.inl rfl) (pe_lst pa_nil))
      (pss_cons (ps_for PassesOwn.never rfl (pi_enum1 rfl T.z_enumerate (pa_cons (pv 0) pa_nil) (pk_cons pe_int pk_nil)) (pg_tup rfl (pgs_cons (pg_name (i := 2) sc_leastweaving.nd rfl (Or.inl rfl)) (pgs_cons (pg_name (i := 3) sc_leastweaving.nd rfl (Or.inl rfl)) pgs_nil)))
      (pss_one (ps_expr (pe_bm PySem.F.plainAttrs_list PySem.F.slot_list_extend PySem.F.type_list_extend mt_extendL (pv 1) (pa_cons (pe_op op_rep (pe_lst (pa_cons (pv 2) pa_nil)) (pv 3)) pa_nil)))))
      (pss_one (ps_ret (pv 1))))), ?_⟩
    refine ⟨(by show 0 ≤ sizeLine; decide), fun a ha => ?_⟩
    have s1 := Same.upd (o := HO.lst []) ha
    have a1 := upd_same (H := H) (a := a) (o := HO.lst [])
    generalize upd H a (.lst []) = H1 at s1 a1 ⊢
    refine ⟨_, rfl, p, ci cs, rfl, rfl, s1 _ _ hS, for_enum1 (K := K) (a := p) (xs := ci cs) (fun i σ H2 => ∃ x2 x3 : Option V, σ = [some (.ref p), some (.ref a), x2, x3] ∧ Same H H2 ∧ H2 a = some (.lst (wi (lw 1 (cs.take i))))) ⟨none, none, rfl, s1, a1⟩ (fun i σ H2 ⟨_, _, _, s2, _⟩ => SqL.of (s2 _ _ hS)) ?_ ?_⟩
    · rintro i y σ H2 e hy ⟨x2, x3, rfl, s2, a2⟩ he
      rw [List.getElem?_map] at hy
      obtain ⟨c, hc, rfl⟩ := Option.map_eq_some_iff.mp hy
      have c41 := hm c (List.mem_of_getElem? hc)
      have hi : i < cs.length := (List.getElem?_eq_some_iff.mp hc).1
      have sE := Same.upd (o := HO.tup [V.int ((i : Int) + 1), V.int (c : Int)]) he
      have eE := upd_same (H := H2) (a := e) (o := HO.tup [V.int ((i : Int) + 1), V.int (c : Int)])
      generalize upd H2 e (HO.tup [V.int ((i : Int) + 1), V.int (c : Int)]) = H3 at sE eE ⊢
      refine ⟨e, _, rfl, SqT.of eE, rfl, _, _, rfl, _, _, rfl, rfl, ?_⟩
      refine ⟨_, rfl, .inl ⟨rfl, _, SqL.of (sE _ _ a2)⟩, _, rfl, (by show 1 ≤ sizeLine; decide), fun n hn => ?_⟩
      have sN := Same.upd (o := HO.lst [V.int ((i : Int) + 1)]) hn
      have nN := upd_same (H := H3) (a := n) (o := HO.lst [V.int ((i : Int) + 1)])
      generalize upd H3 n (HO.lst [V.int ((i : Int) + 1)]) = H4 at sN nN ⊢
      have z24 : sizeLine = 2 ^ 24 := rfl
      refine ⟨_, rfl, n, (c : Int), _, rfl, rfl, nN, by omega, by omega, (by show 1 * (c : Int).toNat ≤ sizeLine; omega), fun r hr' => ?_⟩
      have er : (List.replicate (c : Int).toNat [V.int ((i : Int) + 1)]).flatten = wi (List.replicate c (i + 1)) := by
        rw [Int.toNat_natCast]
        clear hc c41 hy eE sE
        induction c with
        | zero => rfl
        | succ c ih =>
          rw [List.replicate_succ, List.flatten_cons, ih, List.replicate_succ]
          rfl
      rw [er]
      have sR := Same.upd (o := HO.lst (wi (List.replicate c (i + 1)))) hr'
      have rR := upd_same (H := H4) (a := r) (o := HO.lst (wi (List.replicate c (i + 1))))
      generalize upd H4 r (HO.lst (wi (List.replicate c (i + 1)))) = H5 at sR rR ⊢
      have sA : Same H2 H5 := sE.trans (sN.trans sR)
      have et : cs.take (i + 1) = cs.take i ++ [c] := by rw [List.take_add_one, hc]; rfl
      have lt := sum_take_le hm hl i
      refine ⟨a, r, _, _, rfl, rfl, sA _ _ a2, rR, ?_, _, _, rfl, ?_, ?_⟩
      · simp only [wi, zi, List.length_map, lw_len, List.length_replicate]
        omega
      · intro b o hb
        rw [upd_ne fun z => by rw [z, ha] at hb; cases hb]
        exact (s2.trans sA) _ _ hb
      · rw [upd_same, et, lw_snoc, List.length_take, Nat.min_eq_left (by omega), show 1 + i = i + 1 by omega]
        simp only [wi, zi, List.map_append]
    · rintro σ H2 ⟨x2, x3, rfl, s2, a2⟩
      rw [List.length_map, List.take_length] at a2
      exact ⟨_, rfl, q a H2 ha s2 a2⟩
--@STAGE
theorem ok_nextweaving (T : Tx K mg) : FnOk P w K mg base CX0 1 T.f_nextweaving T.d_nextweaving ["weaving"] spNext := by
  refine T.F_nextweaving.ok sc_nextweaving (fun vs H Q E h => ?_) (fun cdv A outer s H vs Q E hr h => ?_)
  · obtain ⟨p, w, rfl, _⟩ := h
    rfl
  · obtain ⟨p, w, rfl, hp, hl, qN, qS⟩ := h
    have hu := hu_of hr
    refine ⟨_, (pss_cons (ps_set (i := 1) sc_nextweaving.nd rfl (Or.inl rfl) (pe_op op_sub (pe_callB call_len (by rfl) T.z_len boot_len (pa_cons (pv 0) pa_nil)) pe_int))
      (pss_cons (ps_while PassesOwn.never (PW.pt (pw_and (pt_cmpR op_ge (pv 1) pe_int (nomark _)) (pw_and1 (pt_cmpR op_ge (pe_ix ix_list (pv 0) (pv 1) (fun _ _ => rfl)) (pe_ix ix_list (pv 0) (pe_op op_add (pv 1) pe_int) (fun _ _ => rfl)) (nomark _)))))
      (pss_one (ps_aug (i := 1) sc_nextweaving.nd rfl (Or.inl rfl) pe_int ip_sub)))
      (pss_cons (ps_if (pt_cmpR op_lt (pv 1) pe_int (nomark _))
      (pss_one (ps_ret pe_non))
      pss_nil)
      (pss_cons (ps_set (i := 2) sc_nextweaving.nd rfl (Or.inr rfl) (pe_slice sl_list (pv 0) (po_some (pv 1)) po_none))
      (pss_cons (ps_set (i := 3) sc_nextweaving.nd rfl (Or.inl rfl) (pe_callB (call_minI rfl rfl) (by rfl) T.z_min boot_min (pa_cons (pe_compF ["number"] rfl (CompSc.mk (fv := ["tail"]) (js := [2]) rfl (by decide +kernel) (by decide +kernel) (by decide +kernel) (allc_cons (Or.inl rfl) allc_nil) rfl (by decide +kernel)) (pi_list (pv 2)) (fun _ _ _ _ _ => (pg_name (i := 0) (show (["number", "tail"] : List Str).Nodup by decide +kernel) rfl (Or.inl rfl))) (fun _ _ _ _ _ => (pf_one (pt_cmpR op_gt (pv 0) (pe_ix (ix_listK (K := K) rfl) (pv 1) pe_int (fun _ _ => rfl)) (nomark _)))) (fun _ _ _ _ _ => (pv 0))) pa_nil)))
      (pss_cons (ps_expr (pe_bm PySem.F.plainAttrs_list PySem.F.slot_list_remove PySem.F.type_list_remove (mt_removeI (u16 hr.units)) (pv 2) (pa_cons (pv 3) pa_nil)))
      (pss_one (ps_ret (pe_op op_cat (pe_op op_cat (pe_slice sl_list (pv 0) po_none (po_some (pv 1))) (pe_lst (pa_cons (pv 3) pa_nil))) (pe_callB call_sortedL (by rfl) T.z_sorted boot_sorted (pa_cons (pv 2) pa_nil))))))))))), ?_⟩
    refine ⟨_, rfl, _, _, rfl, .inl ⟨_, SqL.of hp, rfl⟩, _, _, rfl, rfl, ?_⟩
    rw [show ((((wi w).length : Nat) : Int)) = (w.length : Int) by simp [wi, zi]]
    refine ⟨fun m σ H2 => H2 = H ∧ ∃ j : Int, m = (j + 1).toNat ∧ -2 ≤ j ∧ j + 2 ≤ w.length ∧ (w.drop (j + 1).toNat).Pairwise (fun a b => b ≤ a) ∧ σ = [some (.ref p), some (.int j), none, none], ⟨_, rfl, (w.length : Int) - 2, rfl, by omega, by omega, pw_short (by rw [List.length_drop]; omega), rfl⟩, ?_⟩
    rintro m σ H2 ⟨rfl, j, rfl, j0, j1, hd, rfl⟩
    refine ⟨_, rfl, _, _, rfl, rfl, _, rfl, ?_⟩
    by_cases hj : 0 ≤ j
    · obtain ⟨i, rfl⟩ : ∃ i : Nat, j = (i : Int) := ⟨j.toNat, by omega⟩
      have hi1 : i + 1 < w.length := by omega
      obtain ⟨x, hx⟩ : ∃ x, w[i]? = some x := ⟨_, List.getElem?_eq_getElem (by omega)⟩
      obtain ⟨y, hy⟩ : ∃ y, w[i + 1]? = some y := ⟨_, List.getElem?_eq_getElem hi1⟩
      have e1 : w.drop i = x :: w.drop (i + 1) := by rw [List.drop_eq_getElem_cons (by omega), ← (List.getElem?_eq_some_iff.mp hx).2]
      have e2 : w.drop (i + 1) = y :: w.drop (i + 1 + 1) := by rw [List.drop_eq_getElem_cons hi1, ← (List.getElem?_eq_some_iff.mp hy).2]
      rw [show (((i : Int)) + 1).toNat = i + 1 by omega] at hd
      rw [decide_eq_true hj, if_pos rfl]
      refine ⟨_, rfl, _, rfl, p, _, (i : Int), _, rfl, rfl, SqL.of hp, atI_nat (wi_at hx), _, rfl, _, rfl, _, _, rfl, rfl, p, _, (i : Int) + 1, _, rfl, rfl, SqL.of hp, atI_nat (j := i + 1) (wi_at hy), _, _, rfl, rfl, _, rfl, ite2 (fun e => ?_) (fun e => ?_)⟩
      · have hxy : y ≤ x := by have := of_decide_eq_true e; omega
        refine ⟨fun σ' H' => H' = H2 ∧ σ' = [some (.ref p), some (.int ((i : Int) - 1)), none, none], ?_, ⟨_, rfl, _, _, rfl, rfl, rfl, rfl⟩⟩
        rintro σ' H' ⟨rfl, rfl⟩
        refine ⟨i, by omega, rfl, (i : Int) - 1, by omega, by omega, by omega, ?_, rfl⟩
        rw [show ((i : Int) - 1 + 1).toNat = i by omega, e1]
        refine List.pairwise_cons.mpr ⟨fun z hz => ?_, hd⟩
        rw [e2] at hz hd
        rcases List.mem_cons.mp hz with q | q
        · omega
        · have := (List.pairwise_cons.mp hd).1 z q
          omega
      · have hxy : x < y := by
          have : ¬ ((y : Int) ≤ (x : Int)) := fun z => e (decide_eq_true z)
          omega
        refine ⟨_, rfl, _, _, rfl, rfl, _, rfl, ?_⟩
        rw [decide_eq_false (show ¬ ((i : Int) < 0) by omega)]
        refine iteF (A := False) ?_
        refine ⟨_, rfl, _, rfl, (i : Int), rfl, p, _, rfl, SqL.of hp, fun tl htl => ?_⟩
        generalize hr' : w.drop (i + 1) = r at e1 e2 hd
        have hw : w = w.take i ++ x :: r := by rw [← e1, List.take_append_drop]
        have hyr : y ∈ r := by rw [e2]; exact List.mem_cons_self
        rw [cut_from (by rw [wi_len]; omega), show (wi w).drop i = wi (x :: r) by simp only [wi, zi, ← List.map_drop]; rw [e1]]
        have sT := Same.upd (o := HO.lst (wi (x :: r))) htl
        have tT := upd_same (H := H2) (a := tl) (o := HO.lst (wi (x :: r)))
        generalize upd H2 tl (HO.lst (wi (x :: r))) = H3 at sT tT ⊢
        have rl : r.length < 64 := by rw [← hr', List.length_drop]; omega
        have z24 : sizeLine = 2 ^ 24 := rfl
        refine ⟨_, rfl, tl, rfl, ⟨_, SqL.of tT⟩, ?_⟩
        refine compQF_map (k := 1) (fs := [some (.ref tl)]) (x :: r).length (fun i => if (decide (x < (x :: r).getD i 0)) = true then some (.int (((x :: r).getD i 0 : Nat) : Int)) else none) rfl (by rw [List.length_cons]; omega) (fun i H4 ss hi => (gives_list (SqL.of (ss _ _ tT))).go i (by rw [wi_len]; exact hi)) (fun H4 ss => (gives_list (SqL.of (ss _ _ tT))).stop _ (Nat.le_of_eq wi_len)) ?_ ?_
        · rintro k H4 ts v H5 R ss hi' hts ⟨rfl, hy'⟩ cb
          obtain ⟨t, rfl⟩ := List.length_eq_one_iff.mp hts
          have ev := hy' _ (SqL.of (ss _ _ tT))
          rw [wi_at (List.getElem?_eq_getElem hi')] at ev
          have e0 : (x :: r).getD k 0 = (x :: r)[k] := by rw [List.getD_eq_getElem?_getD, List.getElem?_eq_getElem hi']; rfl
          cases ev
          have hcb := cb [some (.int ((x :: r)[k] : Nat))] H5 rfl (Same.refl _)
          simp only [e0] at hcb
          refine ⟨_, rfl, _, rfl, tl, _, 0, _, rfl, rfl, SqL.of (ss _ _ tT), atI_nat (j := 0) rfl, _, _, rfl, rfl, _, rfl, ite2 (fun e => ⟨_, rfl, ?_⟩) (fun e => ?_)⟩
          · have e3 : (x : Int) < (((x :: r)[k] : Nat) : Int) := of_decide_eq_true e
            rw [if_pos (decide_eq_true (by omega))] at hcb
            exact hcb
          · rw [if_neg (fun q => e (decide_eq_true (show (x : Int) < (((x :: r)[k] : Nat) : Int) by have := of_decide_eq_true q; omega)))] at hcb
            exact hcb
        · intro D1 H4 hD1 ss hl4
          rw [range_gather (x :: r) 0 (fun k => if (decide (x < k)) = true then some (V.int ((k : Nat) : Int)) else none), gather_filter (x :: r) (fun k => decide (x < k)) (fun k : Nat => V.int (k : Int))] at hl4
          generalize hF : ((x :: r).filter fun k => decide (x < k)) = F at hl4
          have hl5 : H4 D1 = some (.lst (wi F)) := by rw [hl4]; simp only [wi, zi, List.map_map]; rfl
          have memF : ∀ z, z ∈ F ↔ z ∈ x :: r ∧ x < z := fun z => by rw [← hF, List.mem_filter]; simp
          have hyF : y ∈ F := (memF y).mpr ⟨List.mem_cons_of_mem _ hyr, hxy⟩
          refine ⟨D1, zi F, rfl, .inl (SqL.of hl5), fun z => ?_, fun gi hgi hgm => ?_⟩
          · unfold zi at z
            rw [List.map_eq_nil_iff.mp z] at hyF
            cases hyF
          obtain ⟨g, hgF, rfl⟩ := List.mem_map.mp hgi
          obtain ⟨hg1, hg2⟩ := (memF g).mp hgF
          have hgr : g ∈ r := (List.mem_cons.mp hg1).resolve_left (by omega)
          have hgl : ∀ z ∈ r, x < z → g ≤ z := fun z hz hxz => by
            have := hgm (z : Int) (List.mem_map.mpr ⟨z, (memF z).mpr ⟨List.mem_cons_of_mem _ hz, hxz⟩, rfl⟩)
            omega
          obtain ⟨k, k1, k2, k3⟩ := first_at hg1
          have t4 := ss _ _ tT
          have s24 := sT.trans ss
          refine ⟨_, rfl, .inl ⟨rfl, _, SqL.of t4⟩, _, rfl, tl, zi (x :: r), (g : Int), k, rfl, rfl, t4, ?_, ?_, ?_⟩
          · show ((x :: r).map fun n : Nat => (n : Int))[k]? = _
            rw [List.getElem?_map, k1]; rfl
          · intro i' hi' z
            have z' : ((x :: r).map fun n : Nat => (n : Int))[i']? = some (g : Int) := z
            rw [List.getElem?_map] at z'
            obtain ⟨g', e', e''⟩ := Option.map_eq_some_iff.mp z'
            exact k2 i' hi' (by rw [e', show g' = g by omega])
          rw [zi_erase, k3]
          obtain ⟨t, ht1, ht2, ht3⟩ := risen_zi ((x :: r).erase g)
          have s5 : Same H2 (upd H4 tl (.lst (wi ((x :: r).erase g)))) := fun b o hb => by
            rw [upd_ne fun z => by rw [z, htl] at hb; cases hb]
            exact s24 _ _ hb
          have t5 := upd_same (H := H4) (a := tl) (o := HO.lst (wi ((x :: r).erase g)))
          generalize upd H4 tl (.lst (wi ((x :: r).erase g))) = H5 at s5 t5 ⊢
          refine ⟨_, rfl, _, rfl, (i : Int), rfl, p, _, rfl, SqL.of (s5 _ _ hp), fun a1 h1 => ?_⟩
          rw [cut_to (by rw [wi_len]; omega), show (wi w).take i = wi (w.take i) by simp only [wi, zi, ← List.map_take]]
          have s6 := s5.trans (Same.upd (o := HO.lst (wi (w.take i))) h1)
          have a6 := upd_same (H := H5) (a := a1) (o := HO.lst (wi (w.take i)))
          have t6 := Same.upd (o := HO.lst (wi (w.take i))) h1 _ _ t5
          generalize upd H5 a1 (HO.lst (wi (w.take i))) = H6 at s6 a6 t6 ⊢
          refine ⟨_, rfl, (by show 1 ≤ sizeLine; decide), fun a2 h2 => ?_⟩
          have s7 := s6.trans (Same.upd (o := HO.lst [V.int (g : Int)]) h2)
          have a7 := Same.upd (o := HO.lst [V.int (g : Int)]) h2 _ _ a6
          have t7 := Same.upd (o := HO.lst [V.int (g : Int)]) h2 _ _ t6
          have b7 := upd_same (H := H6) (a := a2) (o := HO.lst [V.int (g : Int)])
          generalize upd H6 a2 (HO.lst [V.int (g : Int)]) = H7 at s7 a7 t7 b7 ⊢
          have tl1 : (w.take i).length ≤ 64 := by rw [List.length_take]; omega
          refine ⟨a1, a2, _, _, rfl, rfl, a7, b7, ?_, fun a3 h3 => ?_⟩
          · rw [wi_len]
            show _ + 1 ≤ sizeLine
            omega
          have s8 := s7.trans (Same.upd (o := HO.lst (wi (w.take i) ++ [V.int (g : Int)])) h3)
          have a8 := upd_same (H := H7) (a := a3) (o := HO.lst (wi (w.take i) ++ [V.int (g : Int)]))
          have t8 := Same.upd (o := HO.lst (wi (w.take i) ++ [V.int (g : Int)])) h3 _ _ t7
          generalize upd H7 a3 (HO.lst (wi (w.take i) ++ [V.int (g : Int)])) = H8 at s8 a8 t8 ⊢
          have el : ((x :: r).erase g).length = r.length := by rw [List.length_erase_of_mem hg1]; rfl
          refine ⟨_, rfl, tl, zi ((x :: r).erase g), rfl, t8, by unfold zi; rw [List.length_map, el]; exact rl, fun a4 h4 => ?_⟩
          rw [ht1]
          have s9 := s8.trans (Same.upd (o := HO.lst ((zi t).map V.int)) h4)
          have a9 := Same.upd (o := HO.lst ((zi t).map V.int)) h4 _ _ a8
          have b9 := upd_same (H := H8) (a := a4) (o := HO.lst ((zi t).map V.int))
          generalize upd H8 a4 (HO.lst ((zi t).map V.int)) = H9 at s9 a9 b9 ⊢
          refine ⟨a3, a4, _, _, rfl, rfl, a9, b9, ?_, fun a5 h5 => ?_⟩
          · rw [List.length_append, wi_len, show ((zi t).map V.int).length = t.length from wi_len, ht2.length_eq, el]
            show _ + 1 + _ ≤ sizeLine
            omega
          refine qS (w.take i) x r g t hw hd hgr hg2 hgl ht3 (fun z => ?_) a5 _ ?_ (s9.trans (Same.upd h5)) ?_
          · exact ((List.perm_cons_erase hg1).trans (ht2.symm.cons g)).count_eq z
          · cases e9 : H2 a5 with
            | none => rfl
            | some o => rw [s9 _ _ e9] at h5; cases h5
          · rw [upd_same]
            simp [wi, zi]
    · rw [decide_eq_false hj]
      refine iteF (A := False) ?_
      refine ⟨_, rfl, _, _, rfl, rfl, _, rfl, ?_⟩
      rw [decide_eq_true (show j < 0 by omega)]
      refine iteT (B := False) ?_
      rw [show (j + 1).toNat = 0 by omega, List.drop_zero] at hd
      exact qN hd H2 (Same.refl _)
--@STAGE
theorem cnt_pos (zs : List Nat) : ∀ w, 0 < cnt zs w
  | [] => Nat.one_pos
  | x :: r => Nat.lt_of_lt_of_le (cnt_pos zs r) (Nat.le_add_right _ _)
theorem Wds.same {H0 H H' : Hp} {cs : List Nat} {ps : List Addr} {ws : List (List Nat)} (h : Wds H0 H cs ps ws) (s : Same H H') : Wds H0 H' cs ps ws := ⟨h.len, fun i p w e1 e2 => ⟨(h.at' i p w e1 e2).1, s _ _ (h.at' i p w e1 e2).2⟩, h.cnt, h.lex⟩
theorem ok_weavings (T : Tx K mg) : FnOk P w K mg base (CXW P w) 2 T.f_weavings T.d_weavings ["counts"] (spWeav T.c_TooMany) := by
  refine fun_okW T.F_weavings sc_weavings (fun vs H Q E h => ?_) (fun cdv A outer s H vs Q E hr h => ?_)
  · obtain ⟨p, cs, rfl, _⟩ := h
    rfl
  · obtain ⟨p, cs, rfl, hp, ⟨hl, hm, few⟩, kE, kQ⟩ := h
    have hu := hu_of hr
    refine ⟨_, (pss_cons (ps_if (pt_cmpR op_gt (pe_call ((ok_howmany T).mono (by decide)) hr rfl T.m_howmany T.F_howmany.kp T.b_howmany .nil pass0 (pa_cons (pv 0) pa_nil)) (pe_glob (v := V.int (2000)) rfl T.m_MOST_WEAVINGS ⟨_, rfl⟩) (nomark _))
      (pss_one (ps_raise T.x_TooMany rfl pe_str))
      pss_nil)
      (pss_cons (ps_set (i := 1) sc_weavings.nd rfl (Or.inl rfl) (pe_lst pa_nil))
      (pss_cons (ps_set (i := 2) sc_weavings.nd rfl (Or.inl rfl) (pe_call ((ok_leastweaving T).mono (by decide)) hr rfl T.m_leastweaving T.F_leastweaving.kp T.b_leastweaving .nil pass0 (pa_cons (pv 0) pa_nil)))
      (pss_cons (ps_nox (ps_while PassesOwn.never (pt_cmpR op_notN (pv 2) pe_non (nomark _))
      (pss_cons (ps_expr (pe_bm PySem.F.plainAttrs_list PySem.F.slot_list_append PySem.F.type_list_append mt_appendA (pv 1) (pa_cons (pv 2) pa_nil)))
      (pss_one (ps_set (i := 2) sc_weavings.nd rfl (Or.inl rfl) (pe_call ((ok_nextweaving T).mono (by decide)) hr rfl T.m_nextweaving T.F_nextweaving.kp T.b_nextweaving .nil pass0 (pa_cons (pv 2) pa_nil)))))))
      (pss_one (ps_ret (pv 1))))))), ?_⟩
    refine ⟨_, rfl, p, cs, rfl, SqL.of hp, hl, hm, fun m hmf => ?_⟩
    have em := many_uniq hmf
    refine ⟨_, _, rfl, rfl, _, rfl, ite2 (fun e => ?_) (fun e => ?_)⟩
    · exact kE (by have := of_decide_eq_true e; omega) H (Same.refl _)
    have m2 : m ≤ 2000 := by
      have : ¬ ((2000 : Int) < (m : Int)) := fun z => e (decide_eq_true z)
      omega
    have hs : cs.sum < 64 := few.resolve_left fun z => by have := z m hmf; omega
    clear few kE e
    refine ⟨(by show 0 ≤ sizeLine; decide), fun F hF => ?_⟩
    have s1 := Same.upd (o := HO.lst []) hF
    have f1 := upd_same (H := H) (a := F) (o := HO.lst [])
    generalize upd H F (.lst []) = H1 at s1 f1 ⊢
    refine ⟨_, rfl, p, cs, rfl, s1 _ _ hp, hl, hm, fun a H2 ha s2 a2 => ?_⟩
    have haH : H a = none := by
      cases e9 : H a with
      | none => rfl
      | some o => rw [s1 _ _ e9] at ha; cases ha
    refine ⟨fun n σ H3 => ∃ ps ws v, σ = [some (.ref p), some (.ref F), some v] ∧ Same H H3 ∧ H3 F = some (.lst (ps.map V.ref)) ∧ F ∉ ps ∧ Wds H H3 cs ps ws ∧ ((v = .non ∧ ws.length = m ∧ n = 0) ∨ ∃ b wd, v = .ref b ∧ H b = none ∧ b ≠ F ∧ H3 b = some (.lst (wi wd)) ∧ (∀ z, wd.count z = (lw 1 cs).count z) ∧ ws.length + cnt (zs cs.length) wd = m ∧ n = cnt (zs cs.length) wd ∧ ∀ i u, ws[i]? = some u → i + 1 = ws.length → Lex u wd), ⟨_, [], [], .ref a, rfl, s1.trans s2, s2 _ _ f1, List.not_mem_nil, ⟨rfl, fun i p w e => by simp at e, fun w hw => (by cases hw), fun i w v e => (by simp at e)⟩, .inr ⟨a, lw 1 cs, rfl, haH, fun z => (by rw [z, f1] at ha; cases ha), a2, fun _ => rfl, by rw [← em]; exact Nat.zero_add m, rfl, fun i u e => by simp at e⟩⟩, ?_⟩
    rintro n σ H3 ⟨ps, ws, v, rfl, s3, f3, hFp, W, ⟨rfl, hn, rfl⟩ | ⟨b, wd, rfl, hb, hbF, b3, hc, hn, rfl, hlx⟩⟩
    · refine ⟨_, rfl, rfl, _, rfl, iteF (A := False) ?_⟩
      exact ⟨_, rfl, kQ (by omega) F H3 ps ws hF s3 f3 W (by omega)⟩
    · refine ⟨_, rfl, rfl, _, rfl, iteT (B := False) ?_⟩
      have hz : ∀ y ∈ wd, y ∈ zs cs.length := fun y hy => lw_zs y ((mem_of_count hc).mp hy)
      have hlen : wd.length = cs.sum := by rw [len_of_count zs_nd hc hz, lw_len]
      have wl : ws.length < m := by
        have := cnt_pos (zs cs.length) wd
        omega
      have pl := W.len
      have z24 : sizeLine = 2 ^ 24 := rfl
      refine ⟨fun σ' H' => ∃ m', m' < cnt (zs cs.length) wd ∧ _, fun _ _ h => h, ?_⟩
      refine ⟨_, rfl, .inl ⟨rfl, _, SqL.of f3⟩, _, rfl, F, _, _, rfl, rfl, f3, by rw [List.length_map]; omega, fun H4 f4 k4 => ?_⟩
      have s4 : Same H H4 := fun c o e => k4 _ _ (fun z => by rw [z, hF] at e; cases e) (s3 _ _ e)
      have b4 := k4 _ _ hbF b3
      have W4 : Wds H H4 cs (ps ++ [b]) (ws ++ [wd]) := by
        refine ⟨by simp [pl], fun i p' w' e1 e2 => ?_, fun w' hw' => ?_, fun i w' v' e1 e2 => ?_⟩
        · rcases Nat.lt_or_ge i ps.length with q | q
          · rw [List.getElem?_append_left q] at e1
            rw [List.getElem?_append_left (by omega)] at e2
            obtain ⟨h1, h2⟩ := W.at' i p' w' e1 e2
            exact ⟨h1, k4 _ _ (fun z => hFp (z ▸ List.mem_of_getElem? e1)) h2⟩
          · rw [List.getElem?_append_right q] at e1
            rw [List.getElem?_append_right (by omega)] at e2
            rw [← pl] at e2
            cases hk : i - ps.length with
            | zero =>
              rw [hk] at e1 e2
              cases e1
              cases e2
              exact ⟨hb, b4⟩
            | succ k => rw [hk] at e1; simp at e1
        · rcases List.mem_append.mp hw' with q | q
          · exact W.cnt w' q
          · rw [List.mem_singleton.mp q]; exact hc
        · rcases Nat.lt_or_ge (i + 1) ws.length with q | q
          · rw [List.getElem?_append_left (by omega)] at e1
            rw [List.getElem?_append_left q] at e2
            exact W.lex i w' v' e1 e2
          · rw [List.getElem?_append_right q] at e2
            cases hk : i + 1 - ws.length with
            | zero =>
              rw [hk] at e2
              cases e2
              rw [List.getElem?_append_left (by omega)] at e1
              exact hlx i w' e1 (by omega)
            | succ k => rw [hk] at e2; simp at e2
      have f4' : H4 F = some (.lst ((ps ++ [b]).map V.ref)) := by rw [f4, List.map_append]; rfl
      have hFp4 : F ∉ ps ++ [b] := fun z => by
        rcases List.mem_append.mp z with q | q
        · exact hFp q
        · exact hbF (List.mem_singleton.mp q).symm
      refine ⟨_, rfl, b, wd, rfl, b4, by omega, fun hpw H5 s5 => ?_, fun pre x r g t ew hr' hg hx hm' ht hct q H5 hq s5 q5 => ?_⟩
      · have c1 := cnt_last (zs := zs cs.length) hpw
        exact ⟨0, by omega, ps ++ [b], ws ++ [wd], .non, rfl, s4.trans s5, s5 _ _ f4', hFp4, W4.same s5, .inl ⟨rfl, by rw [List.length_append]; show ws.length + 1 = m; omega, rfl⟩⟩
      · subst ew
        have cn := cnt_next (p := pre) zs_nd hz hr' hg hx hm' ht hct
        have hqH : H q = none := by
          cases e9 : H q with
          | none => rfl
          | some o => rw [s4 _ _ e9] at hq; cases hq
        refine ⟨_, by omega, ps ++ [b], ws ++ [pre ++ x :: r], .ref q, rfl, s4.trans s5, s5 _ _ f4', hFp4, W4.same s5, .inr ⟨q, pre ++ g :: t, rfl, hqH, fun z => (by rw [z, f4] at hq; cases hq), q5, fun z => ?_, ?_, rfl, fun i u e1 e2 => ?_⟩⟩
        · rw [← hc, List.count_append, List.count_append, hct]
        · rw [List.length_append]
          show ws.length + 1 + _ = m
          omega
        · rw [List.length_append] at e2
          have e2 : i + 1 = ws.length + 1 := e2
          have : i = ws.length := by omega
          subst this
          rw [List.getElem?_append_right (Nat.le_refl _), Nat.sub_self] at e1
          cases e1
          exact ⟨pre, x, r, g, t, rfl, rfl, hx⟩
--@STAGE
theorem few_of {cs : List Nat} {k b : Nat} (hl : cs.length ≤ k) (hb : ∀ c ∈ cs, c ≤ b) (hk : k ≤ 8) (hb2 : b ≤ 41) (hkb : k * b < 64) : Few cs := by
  refine ⟨by omega, fun c hc => by have := hb c hc; omega, .inr ?_⟩
  have : ∀ ds : List Nat, (∀ c ∈ ds, c ≤ b) → ds.sum ≤ ds.length * b := by
    intro ds
    induction ds with
    | nil => intro _; exact Nat.zero_le _
    | cons d ds ih =>
      intro h
      rw [List.sum_cons, List.length_cons, Nat.add_mul, Nat.one_mul, Nat.add_comm]
      exact Nat.add_le_add (ih fun c hc => h c (List.mem_cons_of_mem _ hc)) (h d List.mem_cons_self)
  have h1 := this cs hb
  have h2 := Nat.mul_le_mul_right b hl
  omega
theorem few_41 : Few [41, 41, 41] := by
  refine ⟨by decide, by decide, .inl fun m h => ?_⟩
  have h1 : 2000 * facs [41, 41, 41] < fac 123 := by decide +kernel
  have h2 : m * facs [41, 41, 41] = fac 123 := h
  rcases Nat.lt_or_ge 2000 m with q | q
  · exact q
  · have := Nat.mul_le_mul_right (facs [41, 41, 41]) q
    omega
theorem cut_ints {ns : List Int} {a b : Nat} : ∃ ms : List Int, cutV (ns.map V.int) (some (a : Int)) (some (b : Int)) = ms.map V.int ∧ ms.length ≤ b - a := by
  unfold cutV
  rw [HT.sIx_nat, HT.sIx_nat, List.length_map]
  refine ⟨(ns.drop (min a ns.length)).take (min b ns.length - min a ns.length), by rw [List.map_take, List.map_drop], ?_⟩
  rw [List.length_take, List.length_drop]
  omega
theorem ok_Lcell (T : Tx K mg) : FnOk P w K mg base CX0 1 T.f_Lcell T.d_Lcell ["_law_script", "_law_k"] (spCell K) := by
  refine T.F_Lcell.ok sc_Lcell (fun vs H Q E h => ?_) (fun cdv A outer s H vs Q E hr h => ?_)
  · obtain ⟨a, ns, k, rfl, _⟩ := h
    rfl
  · obtain ⟨a, ns, k, rfl, hS, hl, h1, q⟩ := h
    refine ⟨_, (pss_cons (ps_if (pt_cmpR op_lt (pv 1) (pe_callB call_len (by rfl) T.z_len boot_len (pa_cons (pv 0) pa_nil)) (nomark _))
      (pss_one (ps_ret (pe_ix ix_list (pv 0) (pv 1) (fun _ _ => rfl))))
      pss_nil)
      (pss_one (ps_ret (pe_op op_mod (pe_op op_mul (pe_op op_add (pv 1) pe_int) pe_int) pe_int)))), ?_⟩
    refine ⟨_, rfl, _, rfl, _, _, rfl, .inl ⟨_, hS, rfl⟩, _, _, rfl, rfl, _, rfl, ite2 (fun e => ?_) (fun e => ?_)⟩
    · have e1 : (k : Int) < ((ns.map V.int).length : Int) := of_decide_eq_true e
      obtain ⟨v, hv⟩ : ∃ v, atI (ns.map V.int) (k : Int) = some v := atI_lt (by omega) e1
      obtain ⟨z, hz, rfl⟩ := List.mem_map.mp (atI_mem hv)
      exact ⟨_, rfl, _, rfl, a, _, _, _, rfl, rfl, hS, hv, q z⟩
    · exact ⟨_, rfl, _, _, rfl, rfl, _, _, rfl, rfl, .inr ⟨by decide, by decide⟩, _, _, rfl, rfl, (by show (0 : Int) < 65537; decide), q _⟩
theorem ok_Lcounts (T : Tx K mg) : FnOk P w K mg base CX0 2 T.f_Lcounts T.d_Lcounts ["_law_script"] (spCounts K) := by
  refine T.F_Lcounts.ok sc_Lcounts (fun vs H Q E h => ?_) (fun cdv A outer s H vs Q E hr h => ?_)
  · obtain ⟨a, ns, rfl, _⟩ := h
    rfl
  · obtain ⟨a, ns, rfl, hS, hl, q⟩ := h
    refine ⟨_, (pss_cons (ps_set (i := 1) sc_Lcounts.nd rfl (Or.inl rfl) (pe_op op_mod (pe_call ((ok_Lcell T).mono (by decide)) hr rfl T.m_Lcell T.F_Lcell.kp T.b_Lcell .nil pass0 (pa_cons (pv 0) (pa_cons pe_int pa_nil))) pe_int))
      (pss_cons (ps_if (pt_cmpR op_eq (pv 1) pe_int (nomark _))
      (pss_one (ps_ret (pe_compF ["_law_cell_here"] rfl (CompSc.mk (fv := []) (js := []) rfl (by decide +kernel) (by decide +kernel) (by decide +kernel) allc_nil rfl (by decide +kernel)) (pi_list (pe_slice sl_list (pv 0) (po_some pe_int) (po_some pe_int))) (fun _ _ _ _ _ => (pg_name (i := 0) (show (["_law_cell_here"] : List Str).Nodup by decide +kernel) rfl (Or.inl rfl))) (fun _ _ _ _ _ => pf_nil) (fun _ _ _ _ _ => (pe_op op_mod (pv 0) pe_int)))))
      pss_nil)
      (pss_cons (ps_if (pt_cmpR op_eq (pv 1) pe_int (nomark _))
      (pss_one (ps_ret (pe_compF ["_law_cell_here"] rfl (CompSc.mk (fv := []) (js := []) rfl (by decide +kernel) (by decide +kernel) (by decide +kernel) allc_nil rfl (by decide +kernel)) (pi_list (pe_slice sl_list (pv 0) (po_some pe_int) (po_some pe_int))) (fun _ _ _ _ _ => (pg_name (i := 0) (show (["_law_cell_here"] : List Str).Nodup by decide +kernel) rfl (Or.inl rfl))) (fun _ _ _ _ _ => pf_nil) (fun _ _ _ _ _ => (pe_op op_mod (pv 0) pe_int)))))
      pss_nil)
      (pss_cons (ps_if (pt_cmpR op_eq (pv 1) pe_int (nomark _))
      (pss_one (ps_ret (pe_compF ["_law_cell_here"] rfl (CompSc.mk (fv := []) (js := []) rfl (by decide +kernel) (by decide +kernel) (by decide +kernel) allc_nil rfl (by decide +kernel)) (pi_list (pe_slice sl_list (pv 0) (po_some pe_int) (po_some pe_int))) (fun _ _ _ _ _ => (pg_name (i := 0) (show (["_law_cell_here"] : List Str).Nodup by decide +kernel) rfl (Or.inl rfl))) (fun _ _ _ _ _ => pf_nil) (fun _ _ _ _ _ => (pe_op op_mod (pv 0) pe_int)))))
      pss_nil)
      (pss_cons (ps_if (pt_cmpR op_eq (pv 1) pe_int (nomark _))
      (pss_one (ps_ret (pe_lst (pa_cons (pe_op op_mod (pe_call ((ok_Lcell T).mono (by decide)) hr rfl T.m_Lcell T.F_Lcell.kp T.b_Lcell .nil pass0 (pa_cons (pv 0) (pa_cons pe_int pa_nil))) pe_int) (pa_cons (pe_op op_mod (pe_call ((ok_Lcell T).mono (by decide)) hr rfl T.m_Lcell T.F_Lcell.kp T.b_Lcell .nil pass0 (pa_cons (pv 0) (pa_cons pe_int pa_nil))) pe_int) pa_nil)))))
      pss_nil)
      (pss_cons (ps_set (i := 2) sc_Lcounts.nd rfl (Or.inl rfl) (pe_lst (pa_cons (pe_tup (pa_cons pe_int (pa_cons pe_int pa_nil))) (pa_cons (pe_tup (pa_cons pe_int (pa_cons pe_int pa_nil))) (pa_cons (pe_tup (pa_cons pe_int (pa_cons pe_int (pa_cons pe_int pa_nil)))) (pa_cons (pe_tup (pa_cons pe_int (pa_cons pe_int pa_nil))) (pa_cons (pe_tup (pa_cons pe_int (pa_cons pe_int pa_nil))) (pa_cons (pe_tup (pa_cons pe_int (pa_cons pe_int (pa_cons pe_int (pa_cons pe_int pa_nil))))) (pa_cons (pe_tup (pa_cons pe_int (pa_cons pe_int (pa_cons pe_int pa_nil)))) (pa_cons (pe_tup (pa_cons pe_int (pa_cons pe_int (pa_cons pe_int (pa_cons pe_int pa_nil))))) (pa_cons (pe_tup (pa_cons pe_int (pa_cons pe_int (pa_cons pe_int (pa_cons pe_int (pa_cons pe_int (pa_cons pe_int pa_nil))))))) pa_nil)))))))))))
      (pss_one (ps_ret (pe_callTy call_list_of (by rfl) T.z_list boot_list (pa_cons (pe_ix ix_list (pe_op op_cat (pv 2) (pe_lst (pa_cons (pe_tup (pa_cons pe_int (pa_cons pe_int (pa_cons pe_int pa_nil)))) pa_nil))) (pe_op op_mod (pe_call ((ok_Lcell T).mono (by decide)) hr rfl T.m_Lcell T.F_Lcell.kp T.b_Lcell .nil pass0 (pa_cons (pv 0) (pa_cons pe_int pa_nil))) pe_int) (fun _ _ => rfl)) pa_nil)))))))))), ?_⟩
    refine ⟨_, rfl, a, ns, 0, rfl, hS, hl, by decide, fun c0 => ⟨_, _, rfl, rfl, (by show (0 : Int) < 5; decide), ?_⟩⟩
    refine ⟨_, rfl, rfl, _, rfl, ite2 (fun e => ?_) (fun e => ?_)⟩
    · skip
      obtain ⟨ms, ems, lms⟩ := cut_ints (ns := ns) (a := 1) (b := 9)
      have ems : cutV (ns.map V.int) (some 1) (some 9) = ms.map V.int := ems
      refine ⟨_, rfl, 1, rfl, 9, rfl, a, _, rfl, hS, fun ct hct => ?_⟩
      rw [ems]
      have sC := Same.upd (o := HO.lst (ms.map V.int)) hct
      have uC := upd_same (H := H) (a := ct) (o := HO.lst (ms.map V.int))
      generalize upd H ct (HO.lst (ms.map V.int)) = H1 at sC uC ⊢
      have z24 : sizeLine = 2 ^ 24 := rfl
      refine ⟨ct, rfl, ⟨_, SqL.of uC⟩, compQF_map (k := 1) (fs := []) ms.length (fun i => some (.int (ms.getD i 0 % 3))) rfl (by omega) (fun i H4 ss hi => (gives_list (SqL.of (ss _ _ uC))).go i (by rw [List.length_map]; exact hi)) (fun H4 ss => (gives_list (SqL.of (ss _ _ uC))).stop _ (by rw [List.length_map]; exact Nat.le_refl _)) ?_ ?_⟩
      · rintro k H4 ts v H5 R ss hi' hts ⟨rfl, hy'⟩ cb
        obtain ⟨t, rfl⟩ := List.length_eq_one_iff.mp hts
        have ev := hy' _ (SqL.of (ss _ _ uC))
        rw [List.getElem?_map, List.getElem?_eq_getElem hi'] at ev
        have e0 : ms.getD k 0 = ms[k] := by rw [List.getD_eq_getElem?_getD, List.getElem?_eq_getElem hi']; rfl
        cases ev
        have hcb := cb [some (.int ms[k])] H5 rfl (Same.refl _)
        simp only [e0] at hcb
        exact ⟨_, rfl, _, _, rfl, rfl, (by show (0 : Int) < 3; decide), hcb⟩
      · intro D1 H4 hD1 ss hl4
        rw [range_gather ms 0 (fun k => some (V.int (k % 3))), gather_all] at hl4
        refine q (ms.map fun c => (c % 3).toNat) D1 H4 (few_of (k := 9 - 1) (b := 3 - 1) (by rw [List.length_map]; omega) (fun c hc => ?_) (by decide) (by decide) (by decide)) ?_ (sC.trans ss) ?_
        · obtain ⟨z, _, rfl⟩ := List.mem_map.mp hc
          omega
        · cases e9 : H D1 with
          | none => rfl
          | some o => rw [sC _ _ e9] at hD1; cases hD1
        · rw [hl4]
          simp only [ci, List.map_map]
          refine congrArg (fun l => some (HO.lst l)) (List.map_congr_left fun z _ => ?_)
          show V.int (z % 3) = V.int (((z % 3).toNat : Nat) : Int)
          rw [Int.toNat_of_nonneg (Int.emod_nonneg _ (by decide))]
    clear e
    refine ⟨_, rfl, rfl, _, rfl, ite2 (fun e => ?_) (fun e => ?_)⟩
    · skip
      obtain ⟨ms, ems, lms⟩ := cut_ints (ns := ns) (a := 1) (b := 4)
      have ems : cutV (ns.map V.int) (some 1) (some 4) = ms.map V.int := ems
      refine ⟨_, rfl, 1, rfl, 4, rfl, a, _, rfl, hS, fun ct hct => ?_⟩
      rw [ems]
      have sC := Same.upd (o := HO.lst (ms.map V.int)) hct
      have uC := upd_same (H := H) (a := ct) (o := HO.lst (ms.map V.int))
      generalize upd H ct (HO.lst (ms.map V.int)) = H1 at sC uC ⊢
      have z24 : sizeLine = 2 ^ 24 := rfl
      refine ⟨ct, rfl, ⟨_, SqL.of uC⟩, compQF_map (k := 1) (fs := []) ms.length (fun i => some (.int (ms.getD i 0 % 5))) rfl (by omega) (fun i H4 ss hi => (gives_list (SqL.of (ss _ _ uC))).go i (by rw [List.length_map]; exact hi)) (fun H4 ss => (gives_list (SqL.of (ss _ _ uC))).stop _ (by rw [List.length_map]; exact Nat.le_refl _)) ?_ ?_⟩
      · rintro k H4 ts v H5 R ss hi' hts ⟨rfl, hy'⟩ cb
        obtain ⟨t, rfl⟩ := List.length_eq_one_iff.mp hts
        have ev := hy' _ (SqL.of (ss _ _ uC))
        rw [List.getElem?_map, List.getElem?_eq_getElem hi'] at ev
        have e0 : ms.getD k 0 = ms[k] := by rw [List.getD_eq_getElem?_getD, List.getElem?_eq_getElem hi']; rfl
        cases ev
        have hcb := cb [some (.int ms[k])] H5 rfl (Same.refl _)
        simp only [e0] at hcb
        exact ⟨_, rfl, _, _, rfl, rfl, (by show (0 : Int) < 5; decide), hcb⟩
      · intro D1 H4 hD1 ss hl4
        rw [range_gather ms 0 (fun k => some (V.int (k % 5))), gather_all] at hl4
        refine q (ms.map fun c => (c % 5).toNat) D1 H4 (few_of (k := 4 - 1) (b := 5 - 1) (by rw [List.length_map]; omega) (fun c hc => ?_) (by decide) (by decide) (by decide)) ?_ (sC.trans ss) ?_
        · obtain ⟨z, _, rfl⟩ := List.mem_map.mp hc
          omega
        · cases e9 : H D1 with
          | none => rfl
          | some o => rw [sC _ _ e9] at hD1; cases hD1
        · rw [hl4]
          simp only [ci, List.map_map]
          refine congrArg (fun l => some (HO.lst l)) (List.map_congr_left fun z _ => ?_)
          show V.int (z % 5) = V.int (((z % 5).toNat : Nat) : Int)
          rw [Int.toNat_of_nonneg (Int.emod_nonneg _ (by decide))]
    clear e
    refine ⟨_, rfl, rfl, _, rfl, ite2 (fun e => ?_) (fun e => ?_)⟩
    · skip
      obtain ⟨ms, ems, lms⟩ := cut_ints (ns := ns) (a := 1) (b := 3)
      have ems : cutV (ns.map V.int) (some 1) (some 3) = ms.map V.int := ems
      refine ⟨_, rfl, 1, rfl, 3, rfl, a, _, rfl, hS, fun ct hct => ?_⟩
      rw [ems]
      have sC := Same.upd (o := HO.lst (ms.map V.int)) hct
      have uC := upd_same (H := H) (a := ct) (o := HO.lst (ms.map V.int))
      generalize upd H ct (HO.lst (ms.map V.int)) = H1 at sC uC ⊢
      have z24 : sizeLine = 2 ^ 24 := rfl
      refine ⟨ct, rfl, ⟨_, SqL.of uC⟩, compQF_map (k := 1) (fs := []) ms.length (fun i => some (.int (ms.getD i 0 % 10))) rfl (by omega) (fun i H4 ss hi => (gives_list (SqL.of (ss _ _ uC))).go i (by rw [List.length_map]; exact hi)) (fun H4 ss => (gives_list (SqL.of (ss _ _ uC))).stop _ (by rw [List.length_map]; exact Nat.le_refl _)) ?_ ?_⟩
      · rintro k H4 ts v H5 R ss hi' hts ⟨rfl, hy'⟩ cb
        obtain ⟨t, rfl⟩ := List.length_eq_one_iff.mp hts
        have ev := hy' _ (SqL.of (ss _ _ uC))
        rw [List.getElem?_map, List.getElem?_eq_getElem hi'] at ev
        have e0 : ms.getD k 0 = ms[k] := by rw [List.getD_eq_getElem?_getD, List.getElem?_eq_getElem hi']; rfl
        cases ev
        have hcb := cb [some (.int ms[k])] H5 rfl (Same.refl _)
        simp only [e0] at hcb
        exact ⟨_, rfl, _, _, rfl, rfl, (by show (0 : Int) < 10; decide), hcb⟩
      · intro D1 H4 hD1 ss hl4
        rw [range_gather ms 0 (fun k => some (V.int (k % 10))), gather_all] at hl4
        refine q (ms.map fun c => (c % 10).toNat) D1 H4 (few_of (k := 3 - 1) (b := 10 - 1) (by rw [List.length_map]; omega) (fun c hc => ?_) (by decide) (by decide) (by decide)) ?_ (sC.trans ss) ?_
        · obtain ⟨z, _, rfl⟩ := List.mem_map.mp hc
          omega
        · cases e9 : H D1 with
          | none => rfl
          | some o => rw [sC _ _ e9] at hD1; cases hD1
        · rw [hl4]
          simp only [ci, List.map_map]
          refine congrArg (fun l => some (HO.lst l)) (List.map_congr_left fun z _ => ?_)
          show V.int (z % 10) = V.int (((z % 10).toNat : Nat) : Int)
          rw [Int.toNat_of_nonneg (Int.emod_nonneg _ (by decide))]
    clear e
    refine ⟨_, rfl, rfl, _, rfl, ite2 (fun e => ?_) (fun e => ?_)⟩
    · refine ⟨_, rfl, a, ns, 1, rfl, hS, hl, by decide, fun c1 => ⟨_, _, rfl, rfl, (by show (0 : Int) < 42; decide), _, rfl, a, ns, 2, rfl, hS, hl, by decide, fun c2 => ⟨_, _, rfl, rfl, (by show (0 : Int) < 3; decide), (by show 2 ≤ sizeLine; decide), fun b hb => ?_⟩⟩⟩
      have x0 : 0 ≤ c1 % 42 := Int.emod_nonneg _ (by decide)
      have x1 : c1 % 42 < 42 := Int.emod_lt_of_pos _ (by decide)
      have y0 : 0 ≤ c2 % 3 := Int.emod_nonneg _ (by decide)
      have y1 : c2 % 3 < 3 := Int.emod_lt_of_pos _ (by decide)
      refine q [(c1 % 42).toNat, (c2 % 3).toNat] b _ ⟨by show 2 ≤ 8; decide, fun c hc => ?_, .inr ?_⟩ hb (Same.upd hb) ?_
      · simp only [List.mem_cons, List.not_mem_nil, or_false] at hc
        omega
      · simp only [List.sum_cons, List.sum_nil]
        omega
      · rw [upd_same]
        show some (HO.lst [V.int (c1 % 42), V.int (c2 % 3)]) = some (HO.lst [V.int (((c1 % 42).toNat : Nat) : Int), V.int (((c2 % 3).toNat : Nat) : Int)])
        rw [Int.toNat_of_nonneg x0, Int.toNat_of_nonneg y0]
    clear e
    refine ⟨(by show 2 ≤ sizeLine; decide), fun t0 ht0 => ?_⟩
    have st0 := Same.upd (o := HO.tup [V.int 20, V.int 3]) ht0
    have ut0 := upd_same (H := H) (a := t0) (o := HO.tup [V.int 20, V.int 3])
    generalize upd H t0 (HO.tup [V.int 20, V.int 3]) = H0 at st0 ut0 ⊢
    refine ⟨(by show 2 ≤ sizeLine; decide), fun t1 ht1 => ?_⟩
    have st1 := Same.upd (o := HO.tup [V.int 12, V.int 4]) ht1
    have ut1 := upd_same (H := H0) (a := t1) (o := HO.tup [V.int 12, V.int 4])
    generalize upd H0 t1 (HO.tup [V.int 12, V.int 4]) = H1 at st1 ut1 ⊢
    refine ⟨(by show 3 ≤ sizeLine; decide), fun t2 ht2 => ?_⟩
    have st2 := Same.upd (o := HO.tup [V.int 8, V.int 3, V.int 1]) ht2
    have ut2 := upd_same (H := H1) (a := t2) (o := HO.tup [V.int 8, V.int 3, V.int 1])
    generalize upd H1 t2 (HO.tup [V.int 8, V.int 3, V.int 1]) = H2 at st2 ut2 ⊢
    refine ⟨(by show 2 ≤ sizeLine; decide), fun t3 ht3 => ?_⟩
    have st3 := Same.upd (o := HO.tup [V.int 9, V.int 5]) ht3
    have ut3 := upd_same (H := H2) (a := t3) (o := HO.tup [V.int 9, V.int 5])
    generalize upd H2 t3 (HO.tup [V.int 9, V.int 5]) = H3 at st3 ut3 ⊢
    refine ⟨(by show 2 ≤ sizeLine; decide), fun t4 ht4 => ?_⟩
    have st4 := Same.upd (o := HO.tup [V.int 21, V.int 3]) ht4
    have ut4 := upd_same (H := H3) (a := t4) (o := HO.tup [V.int 21, V.int 3])
    generalize upd H3 t4 (HO.tup [V.int 21, V.int 3]) = H4 at st4 ut4 ⊢
    refine ⟨(by show 4 ≤ sizeLine; decide), fun t5 ht5 => ?_⟩
    have st5 := Same.upd (o := HO.tup [V.int 1, V.int 0, V.int 3, V.int 8]) ht5
    have ut5 := upd_same (H := H4) (a := t5) (o := HO.tup [V.int 1, V.int 0, V.int 3, V.int 8])
    generalize upd H4 t5 (HO.tup [V.int 1, V.int 0, V.int 3, V.int 8]) = H5 at st5 ut5 ⊢
    refine ⟨(by show 3 ≤ sizeLine; decide), fun t6 ht6 => ?_⟩
    have st6 := Same.upd (o := HO.tup [V.int 3, V.int 3, V.int 3]) ht6
    have ut6 := upd_same (H := H5) (a := t6) (o := HO.tup [V.int 3, V.int 3, V.int 3])
    generalize upd H5 t6 (HO.tup [V.int 3, V.int 3, V.int 3]) = H6 at st6 ut6 ⊢
    refine ⟨(by show 4 ≤ sizeLine; decide), fun t7 ht7 => ?_⟩
    have st7 := Same.upd (o := HO.tup [V.int 2, V.int 2, V.int 2, V.int 2]) ht7
    have ut7 := upd_same (H := H6) (a := t7) (o := HO.tup [V.int 2, V.int 2, V.int 2, V.int 2])
    generalize upd H6 t7 (HO.tup [V.int 2, V.int 2, V.int 2, V.int 2]) = H7 at st7 ut7 ⊢
    refine ⟨(by show 6 ≤ sizeLine; decide), fun t8 ht8 => ?_⟩
    have st8 := Same.upd (o := HO.tup [V.int 1, V.int 1, V.int 1, V.int 1, V.int 1, V.int 1]) ht8
    have ut8 := upd_same (H := H7) (a := t8) (o := HO.tup [V.int 1, V.int 1, V.int 1, V.int 1, V.int 1, V.int 1])
    generalize upd H7 t8 (HO.tup [V.int 1, V.int 1, V.int 1, V.int 1, V.int 1, V.int 1]) = H8 at st8 ut8 ⊢
    refine ⟨(by show 9 ≤ sizeLine; decide), fun L hL => ?_⟩
    have sL := Same.upd (o := HO.lst [V.ref t0, V.ref t1, V.ref t2, V.ref t3, V.ref t4, V.ref t5, V.ref t6, V.ref t7, V.ref t8]) hL
    have uL := upd_same (H := H8) (a := L) (o := HO.lst [V.ref t0, V.ref t1, V.ref t2, V.ref t3, V.ref t4, V.ref t5, V.ref t6, V.ref t7, V.ref t8])
    generalize upd H8 L (HO.lst [V.ref t0, V.ref t1, V.ref t2, V.ref t3, V.ref t4, V.ref t5, V.ref t6, V.ref t7, V.ref t8]) = HL at sL uL ⊢
    refine ⟨_, rfl, ?_⟩
    refine ⟨(by show 3 ≤ sizeLine; decide), fun t9 ht9 => ?_⟩
    have st9 := Same.upd (o := HO.tup [V.int 41, V.int 41, V.int 41]) ht9
    have ut9 := upd_same (H := HL) (a := t9) (o := HO.tup [V.int 41, V.int 41, V.int 41])
    generalize upd HL t9 (HO.tup [V.int 41, V.int 41, V.int 41]) = H9 at st9 ut9 ⊢
    refine ⟨(by show 1 ≤ sizeLine; decide), fun M hM => ?_⟩
    have sM := Same.upd (o := HO.lst [V.ref t9]) hM
    have uM := upd_same (H := H9) (a := M) (o := HO.lst [V.ref t9])
    generalize upd H9 M (HO.lst [V.ref t9]) = HM at sM uM ⊢
    have kM : Same HM HM := Same.refl _
    have kt9 : Same H9 HM := sM.trans kM
    have kL : Same HL HM := st9.trans kt9
    have kt8 : Same H8 HM := sL.trans kL
    have kt7 : Same H7 HM := st8.trans kt8
    have kt6 : Same H6 HM := st7.trans kt7
    have kt5 : Same H5 HM := st6.trans kt6
    have kt4 : Same H4 HM := st5.trans kt5
    have kt3 : Same H3 HM := st4.trans kt4
    have kt2 : Same H2 HM := st3.trans kt3
    have kt1 : Same H1 HM := st2.trans kt2
    have kt0 : Same H0 HM := st1.trans kt1
    have s0 : Same H HM := st0.trans kt0
    refine ⟨L, M, _, _, rfl, rfl, kL _ _ uL, uM, (by show 9 + 1 ≤ sizeLine; decide), fun C hC => ?_⟩
    have sC := Same.upd (o := HO.lst ([V.ref t0, V.ref t1, V.ref t2, V.ref t3, V.ref t4, V.ref t5, V.ref t6, V.ref t7, V.ref t8] ++ [V.ref t9])) hC
    have uC := upd_same (H := HM) (a := C) (o := HO.lst ([V.ref t0, V.ref t1, V.ref t2, V.ref t3, V.ref t4, V.ref t5, V.ref t6, V.ref t7, V.ref t8] ++ [V.ref t9]))
    generalize upd HM C (HO.lst ([V.ref t0, V.ref t1, V.ref t2, V.ref t3, V.ref t4, V.ref t5, V.ref t6, V.ref t7, V.ref t8] ++ [V.ref t9])) = HC at sC uC ⊢
    refine ⟨_, rfl, a, ns, 1, rfl, (s0.trans sC).seq hS, hl, by decide, fun c1 => ⟨_, _, rfl, rfl, (by show (0 : Int) < 10; decide), ?_⟩⟩
    have x0 : 0 ≤ c1 % 10 := Int.emod_nonneg _ (by decide)
    have x1 : c1 % 10 < 10 := Int.emod_lt_of_pos _ (by decide)
    obtain ⟨tk, cs, h1, h2, h3⟩ : ∃ (tk : Addr) (cs : List Nat), atI ([V.ref t0, V.ref t1, V.ref t2, V.ref t3, V.ref t4, V.ref t5, V.ref t6, V.ref t7, V.ref t8] ++ [V.ref t9]) (c1 % 10) = some (.ref tk) ∧ HC tk = some (.tup (ci cs)) ∧ Few cs := by
      have : c1 % 10 = 0 ∨ c1 % 10 = 1 ∨ c1 % 10 = 2 ∨ c1 % 10 = 3 ∨ c1 % 10 = 4 ∨ c1 % 10 = 5 ∨ c1 % 10 = 6 ∨ c1 % 10 = 7 ∨ c1 % 10 = 8 ∨ c1 % 10 = 9 := by omega
      rcases this with z | z | z | z | z | z | z | z | z | z <;> rw [z]
      · exact ⟨t0, [20, 3], rfl, sC _ _ (kt0 _ _ ut0), ⟨by decide, by decide, .inr (by decide)⟩⟩
      · exact ⟨t1, [12, 4], rfl, sC _ _ (kt1 _ _ ut1), ⟨by decide, by decide, .inr (by decide)⟩⟩
      · exact ⟨t2, [8, 3, 1], rfl, sC _ _ (kt2 _ _ ut2), ⟨by decide, by decide, .inr (by decide)⟩⟩
      · exact ⟨t3, [9, 5], rfl, sC _ _ (kt3 _ _ ut3), ⟨by decide, by decide, .inr (by decide)⟩⟩
      · exact ⟨t4, [21, 3], rfl, sC _ _ (kt4 _ _ ut4), ⟨by decide, by decide, .inr (by decide)⟩⟩
      · exact ⟨t5, [1, 0, 3, 8], rfl, sC _ _ (kt5 _ _ ut5), ⟨by decide, by decide, .inr (by decide)⟩⟩
      · exact ⟨t6, [3, 3, 3], rfl, sC _ _ (kt6 _ _ ut6), ⟨by decide, by decide, .inr (by decide)⟩⟩
      · exact ⟨t7, [2, 2, 2, 2], rfl, sC _ _ (kt7 _ _ ut7), ⟨by decide, by decide, .inr (by decide)⟩⟩
      · exact ⟨t8, [1, 1, 1, 1, 1, 1], rfl, sC _ _ (kt8 _ _ ut8), ⟨by decide, by decide, .inr (by decide)⟩⟩
      · exact ⟨t9, [41, 41, 41], rfl, sC _ _ (kt9 _ _ ut9), few_41⟩
    refine ⟨C, _, _, _, rfl, rfl, SqL.of uC, h1, tk, _, rfl, .inr (SqT.of h2), fun b hb => ?_⟩
    refine q cs b _ h3 ?_ ((s0.trans sC).trans (Same.upd hb)) upd_same
    cases e9 : H b with
    | none => rfl
    | some o => rw [(s0.trans sC) _ _ e9] at hb; cases hb
--@STAGE
theorem ixN_nat {n j : Nat} (h : j < n) : ixN n (j : Int) = some j := by
  unfold ixN
  rw [if_pos (by omega), if_pos (by omega)]
  simp
theorem cv_at {k j : Nat} {v : List Nat} (h : j < k) : (cv (zs k) v)[j]? = some (v.count (1 + j)) := by
  unfold cv zs
  rw [List.getElem?_map, List.getElem?_range' h, Nat.one_mul]
  rfl
theorem cv_len {k : Nat} {v : List Nat} : (cv (zs k) v).length = k := by
  unfold cv zs
  rw [List.length_map, List.length_range']
theorem cv_set {k x : Nat} {v : List Nat} (h1 : 1 ≤ x) (h2 : x ≤ k) : (ci (cv (zs k) v)).set (x - 1) (V.int ((v.count x : Nat) + 1)) = ci (cv (zs k) (v ++ [x])) := by
  refine List.ext_getElem? fun j => ?_
  by_cases hj : j < k
  · rw [List.getElem?_set, List.getElem?_map, List.getElem?_map, cv_at hj, cv_at hj]
    by_cases e : x - 1 = j
    · have : 1 + j = x := by omega
      rw [if_pos e, if_pos (by rw [List.length_map, cv_len]; omega), this, List.count_append, List.count_singleton_self]
      rfl
    · rw [if_neg e, List.count_append, List.count_eq_zero_of_not_mem (a := 1 + j) (l := [x]) (fun q => by have := List.mem_singleton.mp q; omega)]
      rfl
  · rw [List.getElem?_eq_none (by rw [List.length_set, List.length_map, cv_len]; omega), List.getElem?_eq_none (by rw [List.length_map, cv_len]; omega)]
theorem ok_Lmany (T : Tx K mg) : FnOk P w K mg base CX0 2 T.f_Lmany T.d_Lmany ["_law_counts_here"] (spMany K) := by
  refine T.F_Lmany.ok sc_Lmany (fun vs H Q E h => ?_) (fun cdv A outer s H vs Q E hr h => ?_)
  · obtain ⟨p, cs, rfl, _⟩ := h
    rfl
  · obtain ⟨p, cs, rfl, hS, hl, hm, q⟩ := h
    refine ⟨_, (pss_cons (ps_set (i := 1) sc_Lmany.nd rfl (Or.inl rfl) (pe_call ((ok_Lfactorial T).mono (by decide)) hr rfl T.m_Lfactorial T.F_Lfactorial.kp T.b_Lfactorial .nil pass0 (pa_cons (pe_callB (call_sumL rfl) (by rfl) T.z_sum boot_sum (pa_cons (pv 0) pa_nil)) pa_nil)))
      (pss_cons (ps_for PassesOwn.never rfl (pi_list (pv 0)) (pg_name (i := 2) sc_Lmany.nd rfl (Or.inl rfl))
      (pss_one (ps_set (i := 1) sc_Lmany.nd rfl (Or.inl rfl) (pe_op op_fdivB (pv 1) (pe_call ((ok_Lfactorial T).mono (by decide)) hr rfl T.m_Lfactorial T.F_Lfactorial.kp T.b_Lfactorial .nil pass0 (pa_cons (pv 2) pa_nil))))))
      (pss_one (ps_ret (pv 1))))), ?_⟩
    have t3 := sum_take_le hm hl cs.length
    rw [List.take_length] at t3
    have cie : ci cs = (cs.map fun c : Nat => (c : Int)).map V.int := by rw [List.map_map]; rfl
    have ml := many_lw (cs := cs)
    generalize cnt (zs cs.length) (lw 1 cs) = m at ml q
    refine ⟨_, rfl, p, cs.map fun c : Nat => (c : Int), rfl, by rw [← cie]; exact hS, cs.sum, by rw [sum_cast]; rfl, by omega, ?_⟩
    refine ⟨_, rfl, p, rfl, ⟨_, hS⟩, for_list (K := K) (a := p) (xs := ci cs) (fun i σ H2 => H2 = H ∧ ∃ x2 : Option V, σ = [some (.ref p), some (.int ((m * facs (cs.drop i) : Nat) : Int)), x2]) ⟨rfl, none, by rw [List.drop_zero, ml]; rfl⟩ (fun i σ H2 _ ⟨e, _⟩ => e ▸ hS) ?_ ?_⟩
    · rintro i y σ H2 hy ⟨rfl, x2, rfl⟩
      rw [List.getElem?_map] at hy
      obtain ⟨c, hc, rfl⟩ := Option.map_eq_some_iff.mp hy
      have c41 := hm c (List.mem_of_getElem? hc)
      have hd : cs.drop i = c :: cs.drop (i + 1) := by rw [List.drop_eq_getElem_cons (List.getElem?_eq_some_iff.mp hc).1, (List.getElem?_eq_some_iff.mp hc).2]
      have fl : fac c < 2 ^ 8999 := by
        have h1 := fac_le c (by omega)
        have h2 : (512 : Nat) ^ c = 2 ^ (9 * c) := by rw [Nat.pow_mul]
        have h3 : (2 : Nat) ^ (9 * c) < 2 ^ 8999 := Nat.pow_lt_pow_right (by decide) (by omega)
        omega
      refine ⟨_, rfl, _, rfl, c, rfl, by omega, _, _, rfl, rfl, ⟨?_, ?_⟩, rfl, some (.int (c : Int)), ?_⟩
      · have := fac_pos c
        show (0 : Int) < ((fac c : Nat) : Int)
        omega
      · show (((fac c : Nat) : Int)).natAbs.log2 < 9000
        rw [Int.natAbs_natCast]
        have := (Nat.log2_lt (k := 8999) (Nat.pos_iff_ne_zero.mp (fac_pos c))).mpr fl
        omega
      · have e : ((m * facs (cs.drop i) : Nat) : Int) / ((fac c : Nat) : Int) = ((m * facs (cs.drop (i + 1)) : Nat) : Int) := by
          rw [← Int.natCast_ediv, hd, show facs (c :: cs.drop (i + 1)) = fac c * facs (cs.drop (i + 1)) from rfl, Nat.mul_left_comm, Nat.mul_div_cancel_left _ (fac_pos c)]
        rw [← e]
        rfl
    · rintro σ H2 ⟨rfl, x2, rfl⟩
      refine ⟨_, rfl, ?_⟩
      rw [List.length_map, List.drop_length, show facs [] = 1 from rfl, Nat.mul_one]
      exact q
theorem ok_Lisone (T : Tx K mg) : FnOk P w K mg base CX0 1 T.f_Lisone T.d_Lisone ["_law_turns", "_law_counts_here"] (spOne K) := by
  refine T.F_Lisone.ok sc_Lisone (fun vs H Q E h => ?_) (fun cdv A outer s H vs Q E hr h => ?_)
  · obtain ⟨p, d, wd, cs, rfl, _⟩ := h
    rfl
  · obtain ⟨p, d, wd, cs, rfl, hp, hS, hl, hm, hc, q⟩ := h
    refine ⟨_, (pss_cons (ps_if (PW.pt (pw_or (pt_not (pt_val (pe_callB call_isi (by rfl) T.z_isinstance boot_isinstance (pa_cons (pv 0) (pa_cons (pe_bltn (v := V.ty "list") rfl T.z_list boot_list rfl) pa_nil))))) (pw_or1 (pt_cmpR op_ne (pe_callB call_len (by rfl) T.z_len boot_len (pa_cons (pv 0) pa_nil)) (pe_callB (call_sumL rfl) (by rfl) T.z_sum boot_sum (pa_cons (pv 1) pa_nil)) (nomark _)))))
      (pss_one (ps_ret pe_bl))
      pss_nil)
      (pss_cons (ps_set (i := 2) sc_Lisone.nd rfl (Or.inl rfl) (pe_op op_rep (pe_lst (pa_cons pe_int pa_nil)) (pe_callB call_len (by rfl) T.z_len boot_len (pa_cons (pv 1) pa_nil))))
      (pss_cons (ps_for PassesOwn.never rfl (pi_list (pv 0)) (pg_name (i := 3) sc_Lisone.nd rfl (Or.inl rfl))
      (pss_cons (ps_if (PW.pt (pw_or (pt_not (pt_val (pe_callB call_isi (by rfl) T.z_isinstance boot_isinstance (pa_cons (pv 3) (pa_cons (pe_bltn (v := V.ty "int") rfl T.z_int boot_int rfl) pa_nil))))) (pw_or (pt_val (pe_callB call_isi (by rfl) T.z_isinstance boot_isinstance (pa_cons (pv 3) (pa_cons (pe_bltn (v := V.ty "bool") rfl T.z_bool boot_bool rfl) pa_nil)))) (pw_or (pt_cmpR op_lt (pv 3) pe_int (nomark _)) (pw_or1 (pt_cmpR op_gt (pv 3) (pe_callB call_len (by rfl) T.z_len boot_len (pa_cons (pv 1) pa_nil)) (nomark _)))))))
      (pss_one (ps_ret pe_bl))
      pss_nil)
      (pss_one (ps_asg (pe_op op_add (pe_ix ix_list (pv 2) (pe_op op_sub (pv 3) pe_int) (fun _ _ => rfl)) pe_int) (pg_sub (pv 2) (pe_op op_sub (pv 3) pe_int) set_listA)))))
      (pss_one (ps_ret (pe_cmpR (op_eqS hr.units) (pv 2) (pv 1) (nomark _))))))), ?_⟩
    have hz : ∀ y ∈ wd, y ∈ zs cs.length := fun y hy => lw_zs y ((mem_of_count hc).mp hy)
    have hlen : wd.length = cs.sum := by rw [len_of_count zs_nd hc hz, lw_len]
    have cie : ci cs = (cs.map fun c : Nat => (c : Int)).map V.int := by rw [List.map_map]; rfl
    have z24 : sizeLine = 2 ^ 24 := rfl
    refine ⟨_, rfl, _, _, _, _, rfl, .lst hp, kit_ll, _, rfl, iteF (A := False) ?_⟩
    refine ⟨_, rfl, _, _, rfl, .inl ⟨_, SqL.of hp, rfl⟩, _, rfl, d, cs.map fun c : Nat => (c : Int), rfl, by rw [← cie]; exact hS, ?_⟩
    refine ⟨rfl, _, rfl, ?_⟩
    rw [sum_cast, wi_len, hlen]
    refine iteNS rfl ?_
    refine ⟨(by show 1 ≤ sizeLine; decide), fun n hn => ?_⟩
    have s1 := Same.upd (o := HO.lst [V.int 0]) hn
    have n1 := upd_same (H := H) (a := n) (o := HO.lst [V.int 0])
    generalize upd H n (HO.lst [V.int 0]) = H1 at s1 n1 ⊢
    refine ⟨_, rfl, _, _, rfl, .inl ⟨_, s1.seq hS, rfl⟩, ?_⟩
    rw [show (ci cs).length = cs.length by simp [ci]]
    refine ⟨n, (cs.length : Int), _, rfl, rfl, n1, by omega, by omega, (by show 1 * ((cs.length : Nat) : Int).toNat ≤ sizeLine; omega), fun S hS' => ?_⟩
    have er : (List.replicate ((cs.length : Nat) : Int).toNat [V.int 0]).flatten = ci (cv (zs cs.length) ([] : List Nat)) := by
      rw [Int.toNat_natCast]
      unfold cv zs ci
      generalize cs.length = k
      have : ∀ (k j : Nat), (List.replicate k [V.int 0]).flatten = ((List.range' j k).map fun z => ([] : List Nat).count z).map fun c : Nat => V.int (c : Int) := by
        intro k
        induction k with
        | zero => intro j; rfl
        | succ k ih => intro j; rw [List.replicate_succ, List.flatten_cons, ih (j + 1), List.range'_succ]; rfl
      exact this k 1
    rw [er]
    have s2 := s1.trans (Same.upd (o := HO.lst (ci (cv (zs cs.length) ([] : List Nat)))) hS')
    have u2 := upd_same (H := H1) (a := S) (o := HO.lst (ci (cv (zs cs.length) ([] : List Nat))))
    have SH : H S = none := by
      cases e9 : H S with
      | none => rfl
      | some o => rw [s1 _ _ e9] at hS'; cases hS'
    generalize upd H1 S (HO.lst (ci (cv (zs cs.length) ([] : List Nat)))) = H2 at s2 u2 ⊢
    refine ⟨_, rfl, p, rfl, ⟨_, SqL.of (s2 _ _ hp)⟩, for_list (K := K) (a := p) (xs := wi wd) (fun i σ H3 => ∃ x3 : Option V, σ = [some (.ref p), some (.ref d), some (.ref S), x3] ∧ Same H H3 ∧ H3 S = some (.lst (ci (cv (zs cs.length) (wd.take i))))) ⟨none, rfl, s2, u2⟩ (fun i σ H3 _ ⟨_, _, s3, _⟩ => SqL.of (s3 _ _ hp)) ?_ ?_⟩
    · rintro i y σ H3 hy ⟨x3, rfl, s3, u3⟩
      have hil : i < wd.length := by
        have := (List.getElem?_eq_some_iff.mp hy).1
        rwa [wi_len] at this
      obtain ⟨x, hx⟩ : ∃ x, wd[i]? = some x := ⟨_, List.getElem?_eq_getElem hil⟩
      rw [wi_at hx] at hy
      cases hy
      obtain ⟨x1, x2⟩ := zs_mem.mp (hz x (List.mem_of_getElem? hx))
      refine ⟨_, rfl, _, _, _, _, rfl, TyOf.int _, kit_ii, _, rfl, iteF (A := False) ?_⟩
      refine ⟨_, rfl, _, _, _, _, rfl, TyOf.int _, kit_ib, _, rfl, iteF (A := False) ?_⟩
      refine ⟨_, rfl, _, _, rfl, rfl, _, rfl, ?_⟩
      rw [decide_eq_false (show ¬ ((x : Int) < 1) by omega)]
      refine iteF (A := False) ?_
      refine ⟨_, rfl, _, rfl, _, _, rfl, .inl ⟨_, s3.seq hS, rfl⟩, ?_⟩
      rw [show (ci cs).length = cs.length by simp [ci]]
      refine ⟨_, _, rfl, rfl, _, rfl, ?_⟩
      rw [decide_eq_false (show ¬ ((cs.length : Int) < (x : Int)) by omega)]
      refine iteF (A := False) ?_
      have ex : (x : Int) - 1 = ((x - 1 : Nat) : Int) := by omega
      have at1 : (cv (zs cs.length) (wd.take i))[x - 1]? = some ((wd.take i).count x) := by
        rw [cv_at (by omega), show 1 + (x - 1) = x by omega]
      refine ⟨_, rfl, _, rfl, _, _, rfl, rfl, S, _, ((x - 1 : Nat) : Int), V.int ((wd.take i).count x : Nat), rfl, congrArg V.int ex, SqL.of u3, atI_nat (by rw [List.getElem?_map, at1]; rfl), _, _, rfl, rfl, ?_⟩
      refine ⟨_, rfl, _, rfl, _, _, rfl, rfl, S, _, ((x - 1 : Nat) : Int), x - 1, rfl, congrArg V.int ex, u3, ixN_nat (by rw [List.length_map, cv_len]; omega), fun H4 u4 k4 => ?_⟩
      refine ⟨_, rfl, fun b o e => k4 _ _ (fun z => by rw [z, SH] at e; cases e) (s3 _ _ e), ?_⟩
      rw [u4, cv_set x1 x2, List.take_add_one, hx]
      rfl
    · rintro σ H3 ⟨x3, rfl, s3, u3⟩
      rw [wi_len, List.take_length, show cv (zs cs.length) wd = cs by rw [← cv_lw (cs := cs)]; simp only [cv_lw]; exact (List.map_congr_left fun z _ => hc z).trans cv_lw] at u3
      refine ⟨_, rfl, _, rfl, _, _, .lst (SqL.of u3) (by rw [cie]; exact dts_ints _), .lst (s3.seq hS) (by rw [cie]; exact dts_ints _), shaped_ints _, shaped_ints _, ?_⟩
      rw [eqv_ints]
      exact q _ s3
--@STAGE
theorem cut_most {xs : List V} : cutV xs none (some (-1)) = xs.take (xs.length - 1) := by
  unfold cutV
  have e : HT.sIx xs.length xs.length (some (-1)) = xs.length - 1 := by
    show (if (-1 : Int) < 0 then ((-1 : Int) + (xs.length : Nat)).toNat else min (-1 : Int).toNat xs.length) = _
    rw [if_pos (by decide)]
    omega
  rw [e, show HT.sIx xs.length 0 none = 0 from rfl, List.drop_zero, Nat.sub_zero]
theorem ok_Lall (T : Tx K mg) : FnOk P w K mg base CX0 2 T.f_Lall T.d_Lall ["_law_found", "_law_counts_here"] (spAll K) := by
  refine T.F_Lall.ok sc_Lall (fun vs H Q E h => ?_) (fun cdv A outer s H vs Q E hr h => ?_)
  · obtain ⟨p, d, cs, ps, ws, H0, rfl, _⟩ := h
    rfl
  · obtain ⟨p, d, cs, ps, ws, H0, rfl, hp, hS, W, hl, hm, hn, q⟩ := h
    refine ⟨_, (pss_cons (ps_for PassesOwn.never rfl (pi_list (pv 0)) (pg_name (i := 2) sc_Lall.nd rfl (Or.inl rfl))
      (pss_one (ps_if (pt_not (pt_val (pe_call ((ok_Lisone T).mono (by decide)) hr rfl T.m_Lisone T.F_Lisone.kp T.b_Lisone .nil pass0 (pa_cons (pv 2) (pa_cons (pv 1) pa_nil)))))
      (pss_one (ps_ret pe_bl))
      pss_nil)))
      (pss_cons (ps_for PassesOwn.never rfl (pi_zip rfl T.z_zip (pa_cons (pe_slice sl_list (pv 0) po_none (po_some (pe_un un_neg pe_int))) (pa_cons (pe_slice sl_list (pv 0) (po_some pe_int) po_none) pa_nil))) (pg_tup rfl (pgs_cons (pg_name (i := 3) sc_Lall.nd rfl (Or.inl rfl)) (pgs_cons (pg_name (i := 4) sc_Lall.nd rfl (Or.inl rfl)) pgs_nil)))
      (pss_one (ps_if (pt_cmpR (op_geL rfl hr.units) (pv 3) (pv 4) (nomark _))
      (pss_one (ps_ret pe_bl))
      pss_nil)))
      (pss_one (ps_ret pe_bl)))), ?_⟩
    have pl := W.len
    refine ⟨_, rfl, p, rfl, ⟨_, SqL.of hp⟩, for_list (K := K) (a := p) (xs := ps.map V.ref) (fun i σ H3 => ∃ x2 : Option V, σ = [some (.ref p), some (.ref d), x2, none, none] ∧ Same H H3) ⟨none, rfl, Same.refl _⟩ (fun i σ H3 _ ⟨_, _, s3⟩ => SqL.of (s3 _ _ hp)) ?_ ?_⟩
    · rintro i y σ H3 hy ⟨x2, rfl, s3⟩
      rw [List.getElem?_map] at hy
      obtain ⟨b, hb, rfl⟩ := Option.map_eq_some_iff.mp hy
      obtain ⟨wd, hw⟩ : ∃ wd, ws[i]? = some wd := ⟨_, List.getElem?_eq_getElem (by rw [← pl]; exact (List.getElem?_eq_some_iff.mp hb).1)⟩
      obtain ⟨_, hb3⟩ := W.at' i b wd hb hw
      exact ⟨_, rfl, _, rfl, b, d, wd, cs, rfl, s3 _ _ hb3, s3.seq hS, hl, hm, W.cnt wd (List.mem_of_getElem? hw), fun H4 s4 => ⟨_, rfl, iteF (A := False) ⟨_, rfl, s3.trans s4⟩⟩⟩
    · rintro σ H3 ⟨x2, rfl, s3⟩
      have p3 := s3 _ _ hp
      have W3 := W.same s3
      refine ⟨_, rfl, 1, rfl, -1, rfl, p, _, rfl, SqL.of p3, fun a1 h1 => ?_⟩
      rw [cut_most]
      have s4 := s3.trans (Same.upd (o := HO.lst ((ps.map V.ref).take ((ps.map V.ref).length - 1))) h1)
      have p4 := Same.upd (o := HO.lst ((ps.map V.ref).take ((ps.map V.ref).length - 1))) h1 _ _ p3
      have a4 := upd_same (H := H3) (a := a1) (o := HO.lst ((ps.map V.ref).take ((ps.map V.ref).length - 1)))
      generalize upd H3 a1 (HO.lst ((ps.map V.ref).take ((ps.map V.ref).length - 1))) = H4 at s4 p4 a4 ⊢
      refine ⟨_, rfl, 1, rfl, p, _, rfl, SqL.of p4, fun a2 h2 => ?_⟩
      rw [cut_from1]
      have s5 := s4.trans (Same.upd (o := HO.lst ((ps.map V.ref).drop 1)) h2)
      have a5 := Same.upd (o := HO.lst ((ps.map V.ref).drop 1)) h2 _ _ a4
      have b5 := upd_same (H := H4) (a := a2) (o := HO.lst ((ps.map V.ref).drop 1))
      generalize upd H4 a2 (HO.lst ((ps.map V.ref).drop 1)) = H5 at s5 a5 b5 ⊢
      refine ⟨_, _, _, _, rfl, .list (SqL.of a5), .list (SqL.of b5), for_zip (xs := (ps.map V.ref).take ((ps.map V.ref).length - 1)) (ys := (ps.map V.ref).drop 1) (fun i σ H6 => ∃ x3 x4 : Option V, σ = [some (.ref p), some (.ref d), x2, x3, x4] ∧ Same H5 H6) ⟨none, none, rfl, Same.refl _⟩ (fun i σ H6 ⟨_, _, _, s6⟩ => ⟨gives_list (SqL.of (s6 _ _ a5)), gives_list (SqL.of (s6 _ _ b5))⟩) ?_ ?_⟩
      · rintro i y z σ H6 e hy hz ⟨x3, x4, rfl, s6⟩ he
        rw [List.getElem?_drop, Nat.add_comm, List.getElem?_map] at hz
        have hy' : (ps.map V.ref)[i]? = some y := by
          rw [List.getElem?_take] at hy
          split at hy
          · exact hy
          · cases hy
        rw [List.getElem?_map] at hy'
        obtain ⟨b, hb, rfl⟩ := Option.map_eq_some_iff.mp hy'
        obtain ⟨c, hc, rfl⟩ := Option.map_eq_some_iff.mp hz
        obtain ⟨wd, hw⟩ : ∃ wd, ws[i]? = some wd := ⟨_, List.getElem?_eq_getElem (by rw [← pl]; exact (List.getElem?_eq_some_iff.mp hb).1)⟩
        obtain ⟨vd, hv⟩ : ∃ vd, ws[i + 1]? = some vd := ⟨_, List.getElem?_eq_getElem (by rw [← pl]; exact (List.getElem?_eq_some_iff.mp hc).1)⟩
        obtain ⟨_, hb3⟩ := W.at' i b wd hb hw
        obtain ⟨_, hc3⟩ := W.at' (i + 1) c vd hc hv
        obtain ⟨pre, x, r, g, t, rfl, rfl, hxg⟩ := W.lex i wd vd hw hv
        have s7 := s6.trans (Same.upd (o := HO.tup [V.ref b, V.ref c]) he)
        have s07 := s5.trans s7
        refine ⟨e, _, rfl, SqT.of upd_same, rfl, _, _, rfl, _, _, rfl, rfl, ?_⟩
        refine ⟨_, rfl, _, rfl, b, c, zi (pre ++ x :: r), zi (pre ++ g :: t), pre.length, (x : Int), (g : Int), rfl, rfl, SqL.of (s07 _ _ hb3), SqL.of (s07 _ _ hc3), ?_, ?_, by omega, fun j hj => ?_, _, rfl, ?_⟩
        · unfold zi
          rw [List.getElem?_map, List.getElem?_append_right (Nat.le_refl _), Nat.sub_self]; rfl
        · unfold zi
          rw [List.getElem?_map, List.getElem?_append_right (Nat.le_refl _), Nat.sub_self]; rfl
        · unfold zi
          rw [List.getElem?_map, List.getElem?_map, List.getElem?_append_left hj, List.getElem?_append_left hj]
        · rw [decide_eq_false (show ¬ ((g : Int) ≤ (x : Int)) by omega)]
          exact iteF (A := False) ⟨_, _, rfl, s7⟩
      · rintro σ H6 ⟨x3, x4, rfl, s6⟩
        exact q _ (s5.trans s6)
--@STAGE
theorem ok_law (T : Tx K mg) : FnOk P w K mg base CX0 3 T.f_law T.d_law ["_law_script"] (spLaw K) := by
  refine T.F_law.ok sc_law (fun vs H Q E h => ?_) (fun cdv A outer s H vs Q E hr h => ?_)
  · obtain ⟨a, ns, rfl, _⟩ := h
    rfl
  · obtain ⟨a, ns, rfl, hS, hlen, hb, q⟩ := h
    have hu := hu_of hr
    refine ⟨_, (pss_cons (ps_set (i := 1) sc_law.nd rfl (Or.inl rfl) (pe_call ((ok_Lcounts T).mono (by decide)) hr rfl T.m_Lcounts T.F_Lcounts.kp T.b_Lcounts .nil pass0 (pa_cons (pv 0) pa_nil)))
      (pss_cons (ps_set (i := 2) sc_law.nd rfl (Or.inl rfl) (pe_call ((ok_Lmany T).mono (by decide)) hr rfl T.m_Lmany T.F_Lmany.kp T.b_Lmany .nil pass0 (pa_cons (pv 1) pa_nil)))
      (pss_cons (ps_set (i := 3) sc_law.nd rfl (Or.inl rfl) (pe_callTy call_list_of (by rfl) T.z_list boot_list (pa_cons (pv 1) pa_nil)))
      (pss_cons (ps_set (i := 4) sc_law.nd rfl (Or.inl rfl) pe_non)
      (pss_cons (ps_set (i := 5) sc_law.nd rfl (Or.inl rfl) pe_non)
      (pss_cons (ps_tryE (i := 4) (j := 6) ((ok_weavings T).mono (by decide)) hr rfl T.m_weavings T.F_weavings.kp T.b_weavings (pa_cons (pv 3) pa_nil) T.ks_TooMany rfl sc_law.nd rfl (Or.inl rfl) rfl rfl rfl rfl rfl (fun ea => (pss_one (ps_set (i := 5) sc_law.nd rfl (Or.inl rfl) (pe_lst (pa_cons (pe_callB (call_isxK (K := K) rfl) (by rfl) T.z_isinstance boot_isinstance (pa_cons (pv 6) (pa_cons (pe_glob (v := V.ref T.c_SkewError) rfl T.m_SkewError rfl) pa_nil))) (pa_cons (pe_callB (call_isxK (K := K) rfl) (by rfl) T.z_isinstance boot_isinstance (pa_cons (pv 6) (pa_cons (pe_bltn (v := V.ty "ValueError") rfl T.z_ValueError (by decide +kernel) rfl) pa_nil))) pa_nil)))))))
      (pss_cons (ps_if (pt_cmpR (op_neS hr.units) (pv 3) (pv 1) (nomark _))
      (pss_one (ps_ret pe_bl))
      pss_nil)
      (pss_cons (ps_if (pt_cmpR op_gt (pv 2) pe_int (nomark _))
      (pss_one (ps_ret (pe_cmpR (op_eqS hr.units) (pv 5) (pe_lst (pa_cons pe_bl (pa_cons pe_bl pa_nil))) (nomark _))))
      pss_nil)
      (pss_cons (ps_if (PW.pt (pw_or (pt_not (pt_val (pe_callB call_isi (by rfl) T.z_isinstance boot_isinstance (pa_cons (pv 4) (pa_cons (pe_bltn (v := V.ty "list") rfl T.z_list boot_list rfl) pa_nil))))) (pw_or (pt_cmpR op_ne (pe_callB call_len (by rfl) T.z_len boot_len (pa_cons (pv 4) pa_nil)) (pv 2) (nomark _)) (pw_or1 (pt_not (pt_val (pe_call ((ok_Lall T).mono (by decide)) hr rfl T.m_Lall T.F_Lall.kp T.b_Lall .nil pass0 (pa_cons (pv 4) (pa_cons (pv 1) pa_nil)))))))))
      (pss_one (ps_ret pe_bl))
      pss_nil)
      (pss_cons (ps_expr (pe_bm PySem.F.plainAttrs_list PySem.F.slot_list_append PySem.F.type_list_append mt_appendA (pe_ix ix_list (pv 4) pe_int (fun _ _ => rfl)) (pa_cons pe_int pa_nil)))
      (pss_cons (ps_expr (pe_bm0 PySem.F.plainAttrs_list PySem.F.slot_list_clear PySem.F.type_list_clear mt_clearA (pe_ix ix_list (pv 4) (pe_un un_neg pe_int) (fun _ _ => rfl))))
      (pss_cons (ps_expr (pe_bm0 PySem.F.plainAttrs_list PySem.F.slot_list_clear PySem.F.type_list_clear mt_clearA (pv 4)))
      (pss_cons (ps_set (i := 7) sc_law.nd rfl (Or.inl rfl) (pe_call ((ok_weavings T).mono (by decide)) hr rfl T.m_weavings T.F_weavings.kp T.b_weavings .nil passF (pa_cons (pv 3) pa_nil)))
      (pss_one (ps_ret (pe_and (pe_cmpR op_eq (pe_callB call_len (by rfl) T.z_len boot_len (pa_cons (pv 7) pa_nil)) (pv 2) (nomark _)) (pe_one (pe_call ((ok_Lall T).mono (by decide)) hr rfl T.m_Lall T.F_Lall.kp T.b_Lall .nil pass0 (pa_cons (pv 7) (pa_cons (pv 1) pa_nil)))))))))))))))))))), ?_⟩
    refine ⟨_, rfl, a, ns, rfl, hS, hlen, fun cs c H1 few hc s1 c1 => ?_⟩
    obtain ⟨hl, hm, hf⟩ := id few
    refine ⟨_, rfl, c, cs, rfl, SqL.of c1, hl, hm, ?_⟩
    refine ⟨_, rfl, c, _, rfl, .inl (SqL.of c1), fun h hh => ?_⟩
    have s2 := s1.trans (Same.upd (o := HO.lst (ci cs)) hh)
    have c2 := Same.upd (o := HO.lst (ci cs)) hh _ _ c1
    have h2 := upd_same (H := H1) (a := h) (o := HO.lst (ci cs))
    generalize upd H1 h (HO.lst (ci cs)) = H2 at s2 c2 h2 ⊢
    generalize em : cnt (zs cs.length) (lw 1 cs) = m
    have cie : ci cs = (cs.map fun c : Nat => (c : Int)).map V.int := by rw [List.map_map]; rfl
    refine ⟨_, rfl, h, cs, rfl, h2, few, fun hbig H3 s3 => ⟨_, rfl, T.kp_TooMany_SkewError.self, fun ea he => ?_⟩, fun hsm F H3 ps ws hF s3 f3 W hw => ?_⟩
    · rw [em] at hbig
      refine ⟨_, rfl, ea, _, true, _, rfl, upd_same, T.kx_TooMany, .inl ⟨_, rfl, T.kp_TooMany_SkewError.one⟩, _, rfl, ea, _, true, _, rfl, upd_same, T.kx_TooMany, .inr ⟨_, rfl, kit_ve T.kv_TooMany⟩, (by show 2 ≤ sizeLine; decide), fun kl hk => ?_⟩
      have s4 := s3.trans ((Same.upd he).trans (Same.upd (o := HO.lst [V.bl true, V.bl true]) hk))
      have k4 := upd_same (H := upd H3 ea (excO ea T.c_TooMany)) (a := kl) (o := HO.lst [V.bl true, V.bl true])
      generalize upd (upd H3 ea (excO ea T.c_TooMany)) kl (HO.lst [V.bl true, V.bl true]) = H4 at s4 k4 ⊢
      refine ⟨_, rfl, _, rfl, _, _, .lst (SqL.of (s4 _ _ h2)) (by rw [cie]; exact dts_ints _), .lst (SqL.of (s4 _ _ c2)) (by rw [cie]; exact dts_ints _), shaped_ints _, shaped_ints _, ?_⟩
      rw [eqv_ints]
      refine ⟨_, rfl, iteF (A := False) ?_⟩
      refine ⟨_, rfl, _, _, rfl, rfl, _, rfl, ?_⟩
      rw [decide_eq_true (show (2000 : Int) < (m : Int) by omega)]
      refine iteT (B := False) ?_
      refine ⟨_, rfl, (by show 2 ≤ sizeLine; decide), fun n hn => ?_⟩
      exact ⟨.list [.bool true, .bool true], .list [.bool true, .bool true], .lst (SqL.of (Same.upd hn _ _ k4)) (.cons (.bl true) (.cons (.bl true) .nil)), .lst (SqL.of upd_same) (.cons (.bl true) (.cons (.bl true) .nil)), rfl, rfl, q _⟩
    · rw [em] at hsm hw
      have pl := W.len
      have mp : 0 < m := by rw [← em]; exact cnt_pos _ _
      refine ⟨_, rfl, _, rfl, _, _, .lst (SqL.of (s3 _ _ h2)) (by rw [cie]; exact dts_ints _), .lst (SqL.of (s3 _ _ c2)) (by rw [cie]; exact dts_ints _), shaped_ints _, shaped_ints _, ?_⟩
      rw [eqv_ints]
      refine ⟨_, rfl, iteF (A := False) ?_⟩
      refine ⟨_, rfl, _, _, rfl, rfl, _, rfl, ?_⟩
      rw [decide_eq_false (show ¬ ((2000 : Int) < (m : Int)) by omega)]
      refine iteF (A := False) ?_
      refine ⟨_, rfl, _, _, _, _, rfl, .lst f3, kit_ll, _, rfl, iteF (A := False) ?_⟩
      refine ⟨_, rfl, _, _, rfl, .inl ⟨_, SqL.of f3, rfl⟩, _, rfl, rfl, _, rfl, ?_⟩
      rw [List.length_map, pl, hw]
      refine iteNS rfl ?_
      refine ⟨_, rfl, _, rfl, F, c, cs, ps, ws, H2, rfl, f3, SqL.of (s3 _ _ c2), W, hl, hm, by omega, fun H4 s4 => ⟨_, rfl, iteF (A := False) ?_⟩⟩
      have f4 := s4 _ _ f3
      have W4 := W.same s4
      have s24 := s3.trans s4
      have nps : ps ≠ [] := fun z => by rw [z] at pl; simp at pl; omega
      have facts : ∀ b ∈ ps, H2 b = none ∧ b ≠ F ∧ ∃ wd, H4 b = some (.lst (wi wd)) ∧ wd.length ≤ 328 := fun b hb => by
        obtain ⟨i, hi⟩ := List.mem_iff_getElem?.mp hb
        obtain ⟨wd, hw'⟩ : ∃ wd, ws[i]? = some wd := ⟨_, List.getElem?_eq_getElem (by rw [← pl]; exact (List.getElem?_eq_some_iff.mp hi).1)⟩
        obtain ⟨x1, x2⟩ := W4.at' i b wd hi hw'
        refine ⟨x1, fun z => ?_, wd, x2, ?_⟩
        rotate_left
        · have hcn := W.cnt wd (List.mem_of_getElem? hw')
          rw [len_of_count zs_nd hcn (fun y hy => lw_zs y ((mem_of_count hcn).mp hy)), lw_len]
          have := sum_take_le hm hl cs.length
          rwa [List.take_length] at this
        rw [z, f4] at x2
        have x3 : ps.map V.ref = wi wd := by
          have := Option.some.inj x2
          injection this
        cases ps with
        | nil => exact nps rfl
        | cons b0 ps' =>
          cases wd with
          | nil => cases x3
          | cons y wd' =>
            have := (List.cons.inj x3).1
            cases this
      obtain ⟨b0, ps', e0⟩ := List.exists_cons_of_ne_nil nps
      obtain ⟨ini, bl, e1⟩ : ∃ ini bl, ps = ini ++ [bl] := ⟨_, _, (List.dropLast_concat_getLast nps).symm⟩
      have hb0 : b0 ∈ ps := by rw [e0]; exact List.mem_cons_self
      have hbl : bl ∈ ps := by rw [e1]; exact List.mem_append_right _ List.mem_cons_self
      obtain ⟨n0, nF0, w0, x0, l0⟩ := facts b0 hb0
      obtain ⟨nl, nFl, wl, xl, _⟩ := facts bl hbl
      have z24 : sizeLine = 2 ^ 24 := rfl
      refine ⟨_, rfl, F, _, 0, .ref b0, rfl, rfl, SqL.of f4, atI_nat (j := 0) (by rw [e0]; rfl), .inl ⟨rfl, _, SqL.of x0⟩, b0, _, _, rfl, rfl, x0, by rw [wi_len]; omega, fun H5 x5 k5 => ?_⟩
      have f5 := k5 _ _ (fun z => nF0 z.symm) f4
      have k25 : ∀ b o, H2 b = some o → H5 b = some o := fun b o e => k5 _ _ (fun z => by rw [z, n0] at e; cases e) (s24 _ _ e)
      obtain ⟨yl, xl5⟩ : ∃ yl, H5 bl = some (.lst yl) := by
        by_cases z : bl = b0
        · exact ⟨_, by rw [z]; exact x5⟩
        · exact ⟨_, k5 _ _ z xl⟩
      refine ⟨_, rfl, 1, rfl, F, _, -1, .ref bl, rfl, rfl, SqL.of f5, by rw [e1, List.map_append]; exact atI_last _ _, .inl ⟨rfl, _, SqL.of xl5⟩, bl, _, rfl, rfl, xl5, fun H6 k6 => ?_⟩
      have f6 := k6 _ _ (fun z => nFl z.symm) f5
      have k26 : ∀ b o, H2 b = some o → H6 b = some o := fun b o e => k6 _ _ (fun z => by rw [z, nl] at e; cases e) (k25 _ _ e)
      refine ⟨_, rfl, .inl ⟨rfl, _, SqL.of f6⟩, F, _, rfl, rfl, f6, fun H7 k7 => ?_⟩
      have k27 : ∀ b o, H2 b = some o → H7 b = some o := fun b o e => k7 _ _ (fun z => by rw [z, hF] at e; cases e) (k26 _ _ e)
      refine ⟨_, rfl, h, cs, rfl, k27 _ _ h2, few, fun hbig => (by rw [em] at hbig; omega), fun _ F2 H8 ps2 ws2 hF2 s8 f8 W8 hw8 => ?_⟩
      rw [em] at hw8
      have pl8 := W8.len
      refine ⟨_, rfl, _, _, rfl, .inl ⟨_, SqL.of f8, rfl⟩, _, rfl, rfl, _, rfl, ?_⟩
      rw [List.length_map, pl8, hw8, decide_eq_true rfl]
      refine iteT (B := False) ?_
      exact ⟨_, rfl, _, rfl, F2, c, cs, ps2, ws2, H7, rfl, f8, SqL.of (s8 _ _ (k27 _ _ c2)), W8, hl, hm, by omega, fun H9 _ => q H9⟩
end
theorem all_mk {l : PySem.W.OpenLaw} {w : World} {K : PySem.W.Frag} {h : Heap} {mg : Str → Option Value} {fa : Addr} (X : K.In h) (G : h.Ns mainGlobals mg) (hfa : mg "law" = some (.ref fa))
    {ec0 : Addr} (e0 : PySem.W.nsIn K mainGlobals "SkewError" = some (some (.ref ec0)))
    {ec1 : Addr} (e1 : PySem.W.nsIn K mainGlobals "TooMany" = some (some (.ref ec1)))
    {f0 : Addr} {od0 an0 : Option Addr} {sl0 : Array (Option Value)} {oc0 kV0 dc0 pm0 cd0 ct0 : Value}
    (a0 : PySem.W.nsIn K mainGlobals "how_many" = some (some (.ref f0))) (l0 : K.lookup f0 = some ⟨oc0, od0, .func (PySem.W.fnOf "how_many" "how_many" (defArgs s_howmany) (defBody s_howmany) (defScope s_howmany) .none kV0 dc0 pm0 an0 cd0 ct0), sl0⟩) (c0 : PySem.W.codeIn K cd0 "how_many" = true) (k0 : PySem.W.keepIn K (.ref f0) = true)
    {f1 : Addr} {od1 an1 : Option Addr} {sl1 : Array (Option Value)} {oc1 kV1 dc1 pm1 cd1 ct1 : Value}
    (a1 : PySem.W.nsIn K mainGlobals "least_weaving" = some (some (.ref f1))) (l1 : K.lookup f1 = some ⟨oc1, od1, .func (PySem.W.fnOf "least_weaving" "least_weaving" (defArgs s_leastweaving) (defBody s_leastweaving) (defScope s_leastweaving) .none kV1 dc1 pm1 an1 cd1 ct1), sl1⟩) (c1 : PySem.W.codeIn K cd1 "least_weaving" = true) (k1 : PySem.W.keepIn K (.ref f1) = true)
    {f2 : Addr} {od2 an2 : Option Addr} {sl2 : Array (Option Value)} {oc2 kV2 dc2 pm2 cd2 ct2 : Value}
    (a2 : PySem.W.nsIn K mainGlobals "next_weaving" = some (some (.ref f2))) (l2 : K.lookup f2 = some ⟨oc2, od2, .func (PySem.W.fnOf "next_weaving" "next_weaving" (defArgs s_nextweaving) (defBody s_nextweaving) (defScope s_nextweaving) .none kV2 dc2 pm2 an2 cd2 ct2), sl2⟩) (c2 : PySem.W.codeIn K cd2 "next_weaving" = true) (k2 : PySem.W.keepIn K (.ref f2) = true)
    {f3 : Addr} {od3 an3 : Option Addr} {sl3 : Array (Option Value)} {oc3 kV3 dc3 pm3 cd3 ct3 : Value}
    (a3 : PySem.W.nsIn K mainGlobals "weavings" = some (some (.ref f3))) (l3 : K.lookup f3 = some ⟨oc3, od3, .func (PySem.W.fnOf "weavings" "weavings" (defArgs s_weavings) (defBody s_weavings) (defScope s_weavings) .none kV3 dc3 pm3 an3 cd3 ct3), sl3⟩) (c3 : PySem.W.codeIn K cd3 "weavings" = true) (k3 : PySem.W.keepIn K (.ref f3) = true)
    {f4 : Addr} {od4 an4 : Option Addr} {sl4 : Array (Option Value)} {oc4 kV4 dc4 pm4 cd4 ct4 : Value}
    (a4 : PySem.W.nsIn K mainGlobals "_law_cell" = some (some (.ref f4))) (l4 : K.lookup f4 = some ⟨oc4, od4, .func (PySem.W.fnOf "_law_cell" "_law_cell" (defArgs s_Lcell) (defBody s_Lcell) (defScope s_Lcell) .none kV4 dc4 pm4 an4 cd4 ct4), sl4⟩) (c4 : PySem.W.codeIn K cd4 "_law_cell" = true) (k4 : PySem.W.keepIn K (.ref f4) = true)
    {f5 : Addr} {od5 an5 : Option Addr} {sl5 : Array (Option Value)} {oc5 kV5 dc5 pm5 cd5 ct5 : Value}
    (a5 : PySem.W.nsIn K mainGlobals "_law_counts" = some (some (.ref f5))) (l5 : K.lookup f5 = some ⟨oc5, od5, .func (PySem.W.fnOf "_law_counts" "_law_counts" (defArgs s_Lcounts) (defBody s_Lcounts) (defScope s_Lcounts) .none kV5 dc5 pm5 an5 cd5 ct5), sl5⟩) (c5 : PySem.W.codeIn K cd5 "_law_counts" = true) (k5 : PySem.W.keepIn K (.ref f5) = true)
    {f6 : Addr} {od6 an6 : Option Addr} {sl6 : Array (Option Value)} {oc6 kV6 dc6 pm6 cd6 ct6 : Value}
    (a6 : PySem.W.nsIn K mainGlobals "_law_factorial" = some (some (.ref f6))) (l6 : K.lookup f6 = some ⟨oc6, od6, .func (PySem.W.fnOf "_law_factorial" "_law_factorial" (defArgs s_Lfactorial) (defBody s_Lfactorial) (defScope s_Lfactorial) .none kV6 dc6 pm6 an6 cd6 ct6), sl6⟩) (c6 : PySem.W.codeIn K cd6 "_law_factorial" = true) (k6 : PySem.W.keepIn K (.ref f6) = true)
    {f7 : Addr} {od7 an7 : Option Addr} {sl7 : Array (Option Value)} {oc7 kV7 dc7 pm7 cd7 ct7 : Value}
    (a7 : PySem.W.nsIn K mainGlobals "_law_many" = some (some (.ref f7))) (l7 : K.lookup f7 = some ⟨oc7, od7, .func (PySem.W.fnOf "_law_many" "_law_many" (defArgs s_Lmany) (defBody s_Lmany) (defScope s_Lmany) .none kV7 dc7 pm7 an7 cd7 ct7), sl7⟩) (c7 : PySem.W.codeIn K cd7 "_law_many" = true) (k7 : PySem.W.keepIn K (.ref f7) = true)
    {f8 : Addr} {od8 an8 : Option Addr} {sl8 : Array (Option Value)} {oc8 kV8 dc8 pm8 cd8 ct8 : Value}
    (a8 : PySem.W.nsIn K mainGlobals "_law_is_one" = some (some (.ref f8))) (l8 : K.lookup f8 = some ⟨oc8, od8, .func (PySem.W.fnOf "_law_is_one" "_law_is_one" (defArgs s_Lisone) (defBody s_Lisone) (defScope s_Lisone) .none kV8 dc8 pm8 an8 cd8 ct8), sl8⟩) (c8 : PySem.W.codeIn K cd8 "_law_is_one" = true) (k8 : PySem.W.keepIn K (.ref f8) = true)
    {f9 : Addr} {od9 an9 : Option Addr} {sl9 : Array (Option Value)} {oc9 kV9 dc9 pm9 cd9 ct9 : Value}
    (a9 : PySem.W.nsIn K mainGlobals "_law_all" = some (some (.ref f9))) (l9 : K.lookup f9 = some ⟨oc9, od9, .func (PySem.W.fnOf "_law_all" "_law_all" (defArgs s_Lall) (defBody s_Lall) (defScope s_Lall) .none kV9 dc9 pm9 an9 cd9 ct9), sl9⟩) (c9 : PySem.W.codeIn K cd9 "_law_all" = true) (k9 : PySem.W.keepIn K (.ref f9) = true)
    {f10 : Addr} {od10 an10 : Option Addr} {sl10 : Array (Option Value)} {oc10 kV10 dc10 pm10 cd10 ct10 : Value}
    (a10 : PySem.W.nsIn K mainGlobals "law" = some (some (.ref f10))) (l10 : K.lookup f10 = some ⟨oc10, od10, .func (PySem.W.fnOf "law" "law" (defArgs s_law) (defBody s_law) (defScope s_law) .none kV10 dc10 pm10 an10 cd10 ct10), sl10⟩) (c10 : PySem.W.codeIn K cd10 "law" = true) (k10 : PySem.W.keepIn K (.ref f10) = true)
    (x0 : PySem.W.excIn K ec1 [.type "ValueError", .type "Exception", .type "BaseException", .type "object"] "ValueError.__new__" = true)
    (kxTooMany_it : PySem.W.isClsIn K ec1 = true)
    (kxTooMany_ga : PySem.W.findIn K (.ref ec1) "__getattribute__" = some (some (.builtin "BaseException.__getattribute__")))
    (kxTooMany_gt : PySem.W.findIn K (.ref ec1) "__getattr__" = some none)
    (kxTooMany_cl : PySem.W.findIn K (.ref ec1) "__class__" = some (some (.builtin "object.__class__")))
    (kxTooMany_mB : PySem.W.mroIn K ec1 (.type "BaseException") = some true)
    (kxTooMany_mO : PySem.W.mroIn K ec1 (.type "object") = some true)
    (ksTooMany_ty : PySem.W.typeIn K (.ref ec1) = some (.type "type"))
    (ksTooMany_it : PySem.W.isClsIn K ec1 = true)
    (ksTooMany_mB : PySem.W.mroIn K ec1 (.type "BaseException") = some true)
    (kvTooMany : PySem.W.subIn K (.ref ec1) (.type "ValueError") = some true)
    (kpTooManySkewError_it : PySem.W.isClsIn K ec0 = true)
    (kpTooManySkewError_ty : PySem.W.typeIn K (.ref ec0) = some (.type "type"))
    (kpTooManySkewError_se : PySem.W.subIn K (.ref ec1) (.ref ec1) = some true)
    (kpTooManySkewError_su : PySem.W.subIn K (.ref ec1) (.ref ec0) = some true)
    {ct100 : Tok} (n0 : PySem.W.nsIn K mainGlobals "MOST_WEAVINGS" = some (some (.int (2000) ct100)))
    (z_ValueError : PySem.W.nsIn K mainGlobals "ValueError" = some none)
    (z_bool : PySem.W.nsIn K mainGlobals "bool" = some none)
    (z_enumerate : PySem.W.nsIn K mainGlobals "enumerate" = some none)
    (z_int : PySem.W.nsIn K mainGlobals "int" = some none)
    (z_isinstance : PySem.W.nsIn K mainGlobals "isinstance" = some none)
    (z_len : PySem.W.nsIn K mainGlobals "len" = some none)
    (z_list : PySem.W.nsIn K mainGlobals "list" = some none)
    (z_min : PySem.W.nsIn K mainGlobals "min" = some none)
    (z_range : PySem.W.nsIn K mainGlobals "range" = some none)
    (z_sorted : PySem.W.nsIn K mainGlobals "sorted" = some none)
    (z_sum : PySem.W.nsIn K mainGlobals "sum" = some none)
    (z_zip : PySem.W.nsIn K mainGlobals "zip" = some none)
    : ∃ fd : FuncData, (∀ (s : Shared) (v : Value), BindsTo s fd ⟨[v], []⟩ [("_law_script", v)]) ∧ ∀ base : Heap, K.In base → base.Ns mainGlobals mg → FnOk l.prog w K mg base CX0 3 fa fd ["_law_script"] (spLaw K) := by
  have e := hfa.symm.trans (PySem.W.mg_of X G a10)
  cases e
  let T : Tx K mg := {
    f_howmany := f0
    d_howmany := _
    F_howmany := fun_mk (st := s_howmany) l0 c0 k0
    b_howmany := (fun_mk (st := s_howmany) l0 c0 k0).binds (ps := ["counts"]) fun _ _ _ _ _ _ us hl => by obtain ⟨_, rfl⟩ := My.us1 hl; rfl
    m_howmany := PySem.W.mg_of X G a0
    f_leastweaving := f1
    d_leastweaving := _
    F_leastweaving := fun_mk (st := s_leastweaving) l1 c1 k1
    b_leastweaving := (fun_mk (st := s_leastweaving) l1 c1 k1).binds (ps := ["counts"]) fun _ _ _ _ _ _ us hl => by obtain ⟨_, rfl⟩ := My.us1 hl; rfl
    m_leastweaving := PySem.W.mg_of X G a1
    f_nextweaving := f2
    d_nextweaving := _
    F_nextweaving := fun_mk (st := s_nextweaving) l2 c2 k2
    b_nextweaving := (fun_mk (st := s_nextweaving) l2 c2 k2).binds (ps := ["weaving"]) fun _ _ _ _ _ _ us hl => by obtain ⟨_, rfl⟩ := My.us1 hl; rfl
    m_nextweaving := PySem.W.mg_of X G a2
    f_weavings := f3
    d_weavings := _
    F_weavings := fun_mk (st := s_weavings) l3 c3 k3
    b_weavings := (fun_mk (st := s_weavings) l3 c3 k3).binds (ps := ["counts"]) fun _ _ _ _ _ _ us hl => by obtain ⟨_, rfl⟩ := My.us1 hl; rfl
    m_weavings := PySem.W.mg_of X G a3
    f_Lcell := f4
    d_Lcell := _
    F_Lcell := fun_mk (st := s_Lcell) l4 c4 k4
    b_Lcell := (fun_mk (st := s_Lcell) l4 c4 k4).binds (ps := ["_law_script", "_law_k"]) fun _ _ _ _ _ _ us hl => by obtain ⟨_, _, rfl⟩ := My.us2 hl; rfl
    m_Lcell := PySem.W.mg_of X G a4
    f_Lcounts := f5
    d_Lcounts := _
    F_Lcounts := fun_mk (st := s_Lcounts) l5 c5 k5
    b_Lcounts := (fun_mk (st := s_Lcounts) l5 c5 k5).binds (ps := ["_law_script"]) fun _ _ _ _ _ _ us hl => by obtain ⟨_, rfl⟩ := My.us1 hl; rfl
    m_Lcounts := PySem.W.mg_of X G a5
    f_Lfactorial := f6
    d_Lfactorial := _
    F_Lfactorial := fun_mk (st := s_Lfactorial) l6 c6 k6
    b_Lfactorial := (fun_mk (st := s_Lfactorial) l6 c6 k6).binds (ps := ["_law_number"]) fun _ _ _ _ _ _ us hl => by obtain ⟨_, rfl⟩ := My.us1 hl; rfl
    m_Lfactorial := PySem.W.mg_of X G a6
    f_Lmany := f7
    d_Lmany := _
    F_Lmany := fun_mk (st := s_Lmany) l7 c7 k7
    b_Lmany := (fun_mk (st := s_Lmany) l7 c7 k7).binds (ps := ["_law_counts_here"]) fun _ _ _ _ _ _ us hl => by obtain ⟨_, rfl⟩ := My.us1 hl; rfl
    m_Lmany := PySem.W.mg_of X G a7
    f_Lisone := f8
    d_Lisone := _
    F_Lisone := fun_mk (st := s_Lisone) l8 c8 k8
    b_Lisone := (fun_mk (st := s_Lisone) l8 c8 k8).binds (ps := ["_law_turns", "_law_counts_here"]) fun _ _ _ _ _ _ us hl => by obtain ⟨_, _, rfl⟩ := My.us2 hl; rfl
    m_Lisone := PySem.W.mg_of X G a8
    f_Lall := f9
    d_Lall := _
    F_Lall := fun_mk (st := s_Lall) l9 c9 k9
    b_Lall := (fun_mk (st := s_Lall) l9 c9 k9).binds (ps := ["_law_found", "_law_counts_here"]) fun _ _ _ _ _ _ us hl => by obtain ⟨_, _, rfl⟩ := My.us2 hl; rfl
    m_Lall := PySem.W.mg_of X G a9
    f_law := fa
    d_law := _
    F_law := fun_mk (st := s_law) l10 c10 k10
    b_law := (fun_mk (st := s_law) l10 c10 k10).binds (ps := ["_law_script"]) fun _ _ _ _ _ _ us hl => by obtain ⟨_, rfl⟩ := My.us1 hl; rfl
    m_law := PySem.W.mg_of X G a10
    c_SkewError := ec0
    m_SkewError := PySem.W.mg_of X G e0
    c_TooMany := ec1
    m_TooMany := PySem.W.mg_of X G e1
    x_TooMany := ⟨PySem.W.mg_of X G e1, x0⟩
    kx_TooMany := ⟨kxTooMany_it, kxTooMany_ga, kxTooMany_gt, kxTooMany_cl, kxTooMany_mB, kxTooMany_mO⟩
    ks_TooMany := ⟨PySem.W.mg_of X G e1, ksTooMany_ty, ksTooMany_it, ksTooMany_mB⟩
    kv_TooMany := kvTooMany
    kp_TooMany_SkewError := ⟨kpTooManySkewError_it, kpTooManySkewError_ty, kpTooManySkewError_se, kpTooManySkewError_su⟩
    t_MOST_WEAVINGS := _
    m_MOST_WEAVINGS := PySem.W.mg_of X G n0
    z_ValueError := PySem.W.mg_none_of X G z_ValueError
    z_bool := PySem.W.mg_none_of X G z_bool
    z_enumerate := PySem.W.mg_none_of X G z_enumerate
    z_int := PySem.W.mg_none_of X G z_int
    z_isinstance := PySem.W.mg_none_of X G z_isinstance
    z_len := PySem.W.mg_none_of X G z_len
    z_list := PySem.W.mg_none_of X G z_list
    z_min := PySem.W.mg_none_of X G z_min
    z_range := PySem.W.mg_none_of X G z_range
    z_sorted := PySem.W.mg_none_of X G z_sorted
    z_sum := PySem.W.mg_none_of X G z_sum
    z_zip := PySem.W.mg_none_of X G z_zip }
  exact ⟨PySem.W.fnOf "law" "law" (defArgs s_law) (defBody s_law) (defScope s_law) .none kV10 dc10 pm10 an10 cd10 ct10, fun s v => .of_eq rfl, fun base _ _ => ok_law T⟩
theorem walk {l : PySem.W.OpenLaw} {q : Program} {loose : List Str} {XP : (Str → Option Value) → Heap → Prop} {YP : World → Heap → Prop} {d : DefRec} {K : Params → PySem.W.Frag} (hn : l.most = some 63) (hdf : d.params.defaults = [])
    (hY : ∀ (w : World) (h : Heap), YP w h → (K w.params).In h)
    (F : ∀ (w : World) (mg : Str → Option Value) (fa : Addr) (h : Heap), (K w.params).In h → h.Ns mainGlobals mg → mg d.name = some (.ref fa) →
      ∃ fd : FuncData, (∀ (s : Shared) (u : Value), BindsTo s fd ⟨[u], []⟩ [("_law_script", u)]) ∧ ∀ base : Heap, (K w.params).In base → base.Ns mainGlobals mg → FnOk l.prog w (K w.params) mg base CX0 3 fa fd ["_law_script"] (spLaw (K w.params))) :
    PySem.W.WalkO q loose XP YP l.row.toRowW d [] (fun f vs => PySem.call f vs) :=
  My.walk_ofB (n := 63) (k := 3) (x := "_law_script") (CX := fun _ => CX0) (sp := fun w => spLaw (K w.params)) hn (by decide) hdf ⟨rfl, by decide, by decide⟩ hY F (fun _ _ a ns hl hb _ hS => ⟨a, ns, rfl, hS, hl, hb, fun _ => rfl⟩) fun _ _ _ _ _ z => z
end Lw
open PySem PySem.W PyProof.Rows
set_option maxRecDepth 100000 in
set_option maxHeartbeats 0 in
theorem PySem.Challenge.cw_skewhouse_k72_all_weavings_holds : PySem.Challenge.rw_skewhouse_k72_all_weavings.Holds := by
  w_on; o_law; k_head; (case hw => w_witness2)
  k_fill
  refine Lw.walk (l := PySem.Challenge.rw_skewhouse_k72_all_weavings) rfl rfl (fun w h Y => PySem.W.kIn_of Y) ?F
  case F =>
    intro w mg fa h KX G hmg
    refine' Lw.all_mk KX G hmg ?e0 ?e1 ?a0 ?l0 ?c0 ?k0 ?a1 ?l1 ?c1 ?k1 ?a2 ?l2 ?c2 ?k2 ?a3 ?l3 ?c3 ?k3 ?a4 ?l4 ?c4 ?k4 ?a5 ?l5 ?c5 ?k5 ?a6 ?l6 ?c6 ?k6 ?a7 ?l7 ?c7 ?k7 ?a8 ?l8 ?c8 ?k8 ?a9 ?l9 ?c9 ?k9 ?a10 ?l10 ?c10 ?k10 ?x0 ?kxTooMany_it ?kxTooMany_ga ?kxTooMany_gt ?kxTooMany_cl ?kxTooMany_mB ?kxTooMany_mO ?ksTooMany_ty ?ksTooMany_it ?ksTooMany_mB ?kvTooMany ?kpTooManySkewError_it ?kpTooManySkewError_ty ?kpTooManySkewError_se ?kpTooManySkewError_su ?n0 ?z0 ?z1 ?z2 ?z3 ?z4 ?z5 ?z6 ?z7 ?z8 ?z9 ?z10 ?z11
    (case e0 => k_is)
    (case e1 => k_is)
    (case a0 => k_is); (case l0 => k_is); (case c0 => k_is); (case k0 => k_is)
    (case a1 => k_is); (case l1 => k_is); (case c1 => k_is); (case k1 => k_is)
    (case a2 => k_is); (case l2 => k_is); (case c2 => k_is); (case k2 => k_is)
    (case a3 => k_is); (case l3 => k_is); (case c3 => k_is); (case k3 => k_is)
    (case a4 => k_is); (case l4 => k_is); (case c4 => k_is); (case k4 => k_is)
    (case a5 => k_is); (case l5 => k_is); (case c5 => k_is); (case k5 => k_is)
    (case a6 => k_is); (case l6 => k_is); (case c6 => k_is); (case k6 => k_is)
    (case a7 => k_is); (case l7 => k_is); (case c7 => k_is); (case k7 => k_is)
    (case a8 => k_is); (case l8 => k_is); (case c8 => k_is); (case k8 => k_is)
    (case a9 => k_is); (case l9 => k_is); (case c9 => k_is); (case k9 => k_is)
    (case a10 => k_is); (case l10 => k_is); (case c10 => k_is); (case k10 => k_is)
    (case x0 => k_exc)
    (case kxTooMany_it => k_is)
    (case kxTooMany_ga => k_is)
    (case kxTooMany_gt => k_is)
    (case kxTooMany_cl => k_is)
    (case kxTooMany_mB => k_is)
    (case kxTooMany_mO => k_is)
    (case ksTooMany_ty => k_is)
    (case ksTooMany_it => k_is)
    (case ksTooMany_mB => k_is)
    (case kvTooMany => k_is)
    (case kpTooManySkewError_it => k_is)
    (case kpTooManySkewError_ty => k_is)
    (case kpTooManySkewError_se => k_is)
    (case kpTooManySkewError_su => k_is)
    (case n0 => k_is)
    (case z0 => k_is)
    (case z1 => k_is)
    (case z2 => k_is)
    (case z3 => k_is)
    (case z4 => k_is)
    (case z5 => k_is)
    (case z6 => k_is)
    (case z7 => k_is)
    (case z8 => k_is)
    (case z9 => k_is)
    (case z10 => k_is)
    (case z11 => k_is)

