import PyProof.Rows.All
import Wide.All
import OpenK.AllK
import Wide.FinOn
import Lean
import PyProof.EqAt
import PyProof.EqKinds
import PyProof.TupleCall
import PySem.Challenge.RW_skewhouse_k40_the_tree_of_levels
set_option Elab.async false
set_option linter.all false
set_option maxRecDepth 100000
/-! THE HAND LAYER, for ints, bools, texts, own classes, LISTS and tuples (index, slices, in, append, pop ..), calls, loops. Paste it whole ahead of your own text; what your proof does not reach may be deleted. -/
namespace L2
open PySem PySem.Spec PyProof.Rows

/-- a key: an int or a str -/
abbrev Key := Sum Int Str
def keyIs : Key → Value → Bool
  | .inl k, v => Value.isInt k v
  | .inr x, v => Value.isStrOf x v
def keyH (w : World) : Key → Int
  | .inl k => hashInt k
  | .inr x => hashStr w x
theorem keyIs_shape : ∀ {k : Key} {v : Value}, keyIs k v = true → (∃ i t, k = Sum.inl i ∧ v = Value.int i t) ∨ (∃ x t, k = Sum.inr x ∧ v = Value.str x t)
  | .inl i, v, h => by
    obtain ⟨t, e⟩ := Value.isInt_shape (k := i) (v := v) h
    exact .inl ⟨i, t, rfl, e⟩
  | .inr x, v, h => by
    obtain ⟨t, e⟩ := Value.isStrOf_shape (x := x) (v := v) h
    exact .inr ⟨x, t, rfl, e⟩
theorem key_ll (a b : Int) : decide ((Sum.inl a : Key) = Sum.inl b) = (a == b) := by
  by_cases e : a = b
  · subst e; simp
  · have h : ¬ (Sum.inl a : Key) = Sum.inl b := fun q => e (Sum.inl.inj q)
    rw [decide_eq_false h]
    exact (beq_eq_false_iff_ne.mpr e).symm
theorem key_rr (a b : Str) : decide ((Sum.inr a : Key) = Sum.inr b) = decide (a = b) := by
  by_cases e : a = b
  · subst e; simp
  · have h : ¬ (Sum.inr a : Key) = Sum.inr b := fun q => e (Sum.inr.inj q)
    rw [decide_eq_false h, decide_eq_false e]
theorem key_lr (a : Int) (b : Str) : decide ((Sum.inl a : Key) = Sum.inr b) = false := decide_eq_false (fun q => nomatch q)
theorem key_rl (a : Str) (b : Int) : decide ((Sum.inr a : Key) = Sum.inl b) = false := decide_eq_false (fun q => nomatch q)

def mixKind (prog : Program) (w : World) : PySem.KeyKind prog w Key where
  is := keyIs
  hash := keyH w
  inj := fun v a b ha hb => by
    rcases keyIs_shape ha with ⟨i, t, rfl, rfl⟩ | ⟨x, t, rfl, rfl⟩
    · rcases keyIs_shape hb with ⟨j, u, rfl, e⟩ | ⟨y, u, rfl, e⟩
      · injection e with e1 _; rw [e1]
      · exact nomatch e
    · rcases keyIs_shape hb with ⟨j, u, rfl, e⟩ | ⟨y, u, rfl, e⟩
      · exact nomatch e
      · injection e with e1 _; rw [e1]
  byValue := fun k v h => by
    rcases keyIs_shape h with ⟨i, t, rfl, rfl⟩ | ⟨x, t, rfl, rfl⟩ <;> rfl
  pyHash := fun hv h => by
    rcases keyIs_shape hv with ⟨i, t, rfl, rfl⟩ | ⟨x, t, rfl, rfl⟩
    · exact wpAny_pyHash_int h
    · exact wpAny_pyHash_str h
  eqBool := fun hu hv h => by
    rcases keyIs_shape hu with ⟨i, t, rfl, rfl⟩ | ⟨x, t, rfl, rfl⟩
    · rcases keyIs_shape hv with ⟨j, u, rfl, rfl⟩ | ⟨y, u, rfl, rfl⟩
      · rw [key_ll] at h; exact wpAny_eqBool_int h
      · rw [key_lr] at h; exact SeqAt.EqAt.int_str i t y u _ _ _ _ h
    · rcases keyIs_shape hv with ⟨j, u, rfl, rfl⟩ | ⟨y, u, rfl, rfl⟩
      · rw [key_rl] at h; exact SeqAt.EqAt.str_int x t j u _ _ _ _ h
      · rw [key_rr] at h; exact wpAny_eqBool_str h
  «strs» := fun k x t v h => by
    rcases keyIs_shape h with ⟨i, u, rfl, e⟩ | ⟨y, u, rfl, e⟩
    · exact nomatch e
    · injection e with e1 _
      subst e1
      cases v <;> rfl

end L2

namespace L2
open PySem PySem.Spec PyProof.Rows

/-- a value, without the heap -/
inductive V where
  | non | bl (b : Bool) | int (i : Int) | str (x : Str) | byt (b : Array UInt8) | flt (b : UInt64) | ref (a : Addr) | ty (n : String)
  deriving DecidableEq

def RelV : V → Value → Prop
  | .non, u => u = Value.none
  | .bl b, u => u = Value.bool b
  | .int i, u => ∃ t, u = Value.int i t
  | .str x, u => ∃ t, u = Value.str x t
  | .byt b, u => ∃ t, u = Value.bytes b t
  | .flt b, u => ∃ t, u = Value.float b t
  | .ref a, u => u = Value.ref a
  | .ty n, u => u = Value.type n

abbrev Vals : List V → List Value → Prop := Paired RelV
theorem Vals.length {xs : List V} {us : List Value} (r : Vals xs us) : xs.length = us.length := Paired.length r
theorem Vals.get : ∀ {xs : List V} {us : List Value} {i : Nat} {x : V}, Vals xs us → xs[i]? = some x → ∃ u, us[i]? = some u ∧ RelV x u
  | _, _, _, _, .nil, e => by simp at e
  | _, _, 0, _, .cons r _, e => by simp at e; subst e; exact ⟨_, rfl, r⟩
  | _, _, i + 1, x, .cons _ t, e => by
    obtain ⟨u, h1, h2⟩ := Vals.get (i := i) (x := x) t (by simpa using e)
    exact ⟨u, by simpa using h1, h2⟩
theorem Vals.append : ∀ {xs ys : List V} {us ws : List Value}, Vals xs us → Vals ys ws → Vals (xs ++ ys) (us ++ ws)
  | _, _, _, _, .nil, s => s
  | _, _, _, _, .cons r t, s => .cons r (Vals.append t s)
def RelO : Option V → Option Value → Prop
  | some v, some u => RelV v u
  | none, none => True
  | _, _ => False
def KV {κ : Type} : List (κ × V) → List (κ × Value) → Prop := Paired fun (p : κ × V) (q : κ × Value) => p.1 = q.1 ∧ RelV p.2 q.2

/-- a key of a dict (00_mix): an int or a text -/
def kV : Key → V
  | .inl i => .int i
  | .inr x => .str x

/-- what stands at a tracked address -/
inductive HO where
  /-- a list -/
  | lst (xs : List V)
  /-- a tuple (never changes) -/
  | tup (xs : List V)
  /-- a dict whose keys are ints and texts; one whose keys are tuples of ints and texts (the empty one is both) -/
  | dK (kvs : List (Key × V)) | dT (kvs : List (List Key × V))
  /-- a set of ints: its members, its size -/
  | set (S : Int → Bool) (n : Nat)
  /-- an instance of the class at C, its dict at dx, its attributes -/
  | ins (C dx : Addr) (fs : List (Str × V))
  /-- the dict of the instance at x -/
  | own (x : Addr)
  /-- the dict of an exception -/
  | xd (fs : List (Str × V))
  /-- a bound method, f of x -/
  | met (f x : Addr)
  /-- a range object lo, lo + 1, .. below hi -/
  | rng (lo hi : Int)
  /-- a thing that is known to the object (the script; a dict while a loop walks it): read, never written while it is so -/
  | frz (o : Obj) (u : HO)
  /-- a code object's table -/
  | tbl (ps : Array Value)
  /-- any other thing, by what is true of its one object (a def of one's own: SetO a S n := HO.ext fun h => ..) -/
  | ext (φ : Heap → Prop)

abbrev Hp := Addr → Option HO
def upd (H : Hp) (a : Addr) (o : HO) : Hp := fun b => if b = a then some o else H b
theorem upd_same {H : Hp} {a : Addr} {o : HO} : upd H a o a = some o := by unfold upd; rw [if_pos rfl]
theorem upd_ne {H : Hp} {a b : Addr} {o : HO} (h : b ≠ a) : upd H a o b = H b := by unfold upd; rw [if_neg h]
theorem ne_of_none {H : Hp} {a b : Addr} {o : HO} (h : H a = some o) (h' : H b = none) : a ≠ b := by
  intro e; subst e; rw [h] at h'; cases h'

section
variable (P : Program) (w : World)
def ObjOk (H : Hp) (h : Heap) (a : Addr) : HO → Prop
  | .lst xs => xs.length ≤ sizeLine ∧ ∃ (its : List Value) (n : Nat), Vals xs its ∧ h.get? a = some { cls := .type "list", data := .seq its.toArray n }
  | .tup xs => xs.length ≤ sizeLine ∧ ∃ its : List Value, Vals xs its ∧ IsTup h a its.toArray
  | .dK kvs => kvs.length ≤ sizeLine ∧ (a == sysModules) = false ∧ ∃ vs, KV kvs vs ∧ h.DictOf (mixKind P w) a vs
  | .dT kvs => kvs.length ≤ sizeLine ∧ (a == sysModules) = false ∧ ∃ xs : List (List Key × Addr × Value),
      Paired (fun (p : List Key × V) (q : List Key × Addr × Value) => p.1 = q.1 ∧ H q.2.1 = some (.tup (p.1.map kV)) ∧ RelV p.2 q.2.2) kvs xs ∧
      ∃ o es ep, h.get? a = some o ∧ o.ExactDict ∧ o.data = .dict es ep ∧ es.toList = xs.map (entryOfKey (tupleKind (mixKind P w))) ∧ (xs.map (·.1)).Nodup
  | .set S n => h.SetOf (intKind P w) a S n
  | .ins C dx fs => H dx = some (.own a) ∧ fs.length ≤ 1000 ∧ dx ≠ a ∧ h.get? a = some (PySem.W.instObj C dx) ∧
      ∃ mA, h.Ns1 dx mA ∧ (∀ f, RelO (fs.lookup f) (mA f)) ∧ PySem.Within mA (fs.map (·.1))
  | .own _ => ∃ o, h.get? a = some o
  | .xd fs => ∃ mA, h.Ns1 a mA ∧ ∀ f, RelO (fs.lookup f) (mA f)
  | .rng lo hi => ∃ t u v, h.get? a = some { cls := .type "range", data := .fields #[.int lo t, .int hi u, .int 1 v] }
  | .frz o u => h.get? a = some o ∧ ObjOk H h a u
  | .tbl ps => h.get? a = some { cls := .none, data := .fields ps }
  | .met f x => h.get? a = some (PySem.W.methodObj (.ref f) (.ref x))
  | .ext φ => φ h ∧ (∃ o, h.get? a = some o) ∧ ∀ h1 h2 : Heap, φ h1 → (∀ o, h1.get? a = some o → h2.get? a = some o) → φ h2
/-- the abstract heap is held -/
def HOk (H : Hp) (h : Heap) : Prop := ∀ a o, H a = some o → ObjOk P w H h a o
end

section
variable {P : Program} {w : World} {H H' : Hp} {h h' : Heap} {a : Addr} {o : HO}
theorem ObjOk.lt (x : ObjOk P w H h a o) : a < h.objs.size := by
  cases o with
  | lst xs => obtain ⟨_, _, _, _, e⟩ := x; exact Heap.lt_size e
  | tup xs => obtain ⟨_, _, _, p⟩ := x; exact p.lt
  | dK kvs => obtain ⟨_, _, _, _, o, _, _, e, _⟩ := x; exact Heap.lt_size e
  | dT kvs => obtain ⟨_, _, _, _, o, _, _, e, _⟩ := x; exact Heap.lt_size e
  | set S n => obtain ⟨o, _, _, _, e, _⟩ := x; exact Heap.lt_size e
  | ins C dx fs => obtain ⟨_, _, _, e, _⟩ := x; exact Heap.lt_size e
  | own y => obtain ⟨_, e⟩ := x; exact Heap.lt_size e
  | xd fs => obtain ⟨_, ⟨_, _, _, e, _⟩, _⟩ := x; exact Heap.lt_size e
  | rng lo hi => obtain ⟨_, _, _, e⟩ := x; exact Heap.lt_size e
  | frz ob u => obtain ⟨e, _⟩ := x; exact Heap.lt_size e
  | tbl ps => exact Heap.lt_size (show h.get? a = some _ from x)
  | met f y => exact Heap.lt_size (show h.get? a = some _ from x)
  | ext φ => obtain ⟨_, ⟨_, e⟩, _⟩ := x; exact Heap.lt_size e
theorem Paired.mapP {α β : Type} {F G : α → β → Prop} : ∀ {l₁ : List α} {l₂ : List β}, Paired F l₁ l₂ → (∀ a b, F a b → G a b) → Paired G l₁ l₂
  | _, _, .nil, _ => .nil
  | _, _, .cons r t, f => .cons (f _ _ r) (Paired.mapP t f)
/-- what an object's description leans on: its own object, its own dict, the tuples -/
theorem ObjOk.stay (x : ObjOk P w H h a o) (k : ∀ b u, (b = a ∨ H b = some (.own a)) → h.get? b = some u → h'.get? b = some u)
    (ho : ∀ b, H b = some (.own a) → H' b = some (.own a)) (ht : ∀ b xs, H b = some (.tup xs) → H' b = some (.tup xs)) : ObjOk P w H' h' a o := by
  induction o with
  | lst xs => obtain ⟨z, its, n, r, e⟩ := x; exact ⟨z, its, n, r, k _ _ (.inl rfl) e⟩
  | tup xs => obtain ⟨z, its, r, ob, e, c⟩ := x; exact ⟨z, its, r, ob, k _ _ (.inl rfl) e, c⟩
  | dK kvs => obtain ⟨z, y, vs, r, ob, es, ep, e, c⟩ := x; exact ⟨z, y, vs, r, ob, es, ep, k _ _ (.inl rfl) e, c⟩
  | dT kvs =>
    obtain ⟨z, y, xs, r, ob, es, ep, e, c⟩ := x
    exact ⟨z, y, xs, Paired.mapP r fun p q z => ⟨z.1, ht _ _ z.2.1, z.2.2⟩, ob, es, ep, k _ _ (.inl rfl) e, c⟩
  | set S n => obtain ⟨ob, es, ep, t, e, c⟩ := x; exact ⟨ob, es, ep, t, k _ _ (.inl rfl) e, c⟩
  | ins C dx fs =>
    obtain ⟨d, z, ne, e, mA, ⟨od, es, ep, e2, c⟩, r⟩ := x
    exact ⟨ho _ d, z, ne, k _ _ (.inl rfl) e, mA, ⟨od, es, ep, k _ _ (.inr d) e2, c⟩, r⟩
  | own y => obtain ⟨ob, e⟩ := x; exact ⟨ob, k _ _ (.inl rfl) e⟩
  | xd fs => obtain ⟨mA, ⟨od, es, ep, e, c⟩, r⟩ := x; exact ⟨mA, ⟨od, es, ep, k _ _ (.inl rfl) e, c⟩, r⟩
  | rng lo hi => obtain ⟨t, u, v, e⟩ := x; exact ⟨t, u, v, k _ _ (.inl rfl) e⟩
  | frz ob u ih => obtain ⟨e, q⟩ := x; exact ⟨k _ _ (.inl rfl) e, ih q⟩
  | tbl ps =>
    have e : h.get? a = some { cls := .none, data := .fields ps } := x
    show h'.get? a = some { cls := .none, data := .fields ps }
    exact k a _ (.inl rfl) e
  | met f y =>
    have e : h.get? a = some (PySem.W.methodObj (.ref f) (.ref y)) := x
    show h'.get? a = some (PySem.W.methodObj (.ref f) (.ref y))
    exact k a _ (.inl rfl) e
  | ext φ => obtain ⟨p, ⟨o, e⟩, st⟩ := x; exact ⟨st _ _ p fun o q => k _ _ (.inl rfl) q, ⟨o, k _ _ (.inl rfl) e⟩, st⟩
theorem HOk.lt (x : HOk P w H h) (e : H a = some o) : a < h.objs.size := (x a o e).lt
theorem HOk.fresh (x : HOk P w H h) (e : h.objs.size ≤ a) : H a = none := by
  cases q : H a with
  | none => rfl
  | some u => exact absurd (Nat.lt_of_lt_of_le (x.lt q) e) (Nat.lt_irrefl _)
/-- every object of the heap is kept -/
theorem HOk.kept (x : HOk P w H h) (k : ∀ b u, h.get? b = some u → h'.get? b = some u) : HOk P w H h' := fun a o e =>
  (x a o e).stay (fun b u _ q => k b u q) (fun _ q => q) fun _ _ q => q
/-- a new object is laid and tracked -/
theorem HOk.laid (x : HOk P w H h) (k : ∀ b u, h.get? b = some u → h'.get? b = some u) (hp : h.objs.size ≤ a) (new : ObjOk P w (upd H a o) h' a o) : HOk P w (upd H a o) h' := fun b u e => by
  have hn := x.fresh hp
  by_cases hb : b = a
  · subst hb; rw [upd_same] at e; cases e; exact new
  · rw [upd_ne hb] at e
    exact (x b u e).stay (fun c v _ q => k c v q) (fun c q => by rw [upd_ne (ne_of_none q hn)]; exact q) fun c xs q => by rw [upd_ne (ne_of_none q hn)]; exact q
end

/-- what may be read as u: it is u, or a known u -/
def Rd (H : Hp) (a : Addr) (u : HO) : Prop := H a = some u ∨ ∃ o, H a = some (.frz o u)
theorem Rd.ok {P : Program} {w : World} {H : Hp} {h : Heap} {a : Addr} {u : HO} (r : Rd H a u) (x : HOk P w H h) : ObjOk P w H h a u := by
  rcases r with r | ⟨o, r⟩
  · exact x a u r
  · obtain ⟨_, q⟩ := x a _ r
    exact q
/-- what may be written -/
def Mut : Option HO → Prop
  | some (.lst _) => True
  | some (.dK _) => True
  | some (.dT _) => True
  | some (.set _ _) => True
  | some (.ins _ _ _) => True
  | some (.ext _) => True
  | _ => False
section
variable {P : Program} {w : World} {H : Hp} {h h' : Heap} {x e : Addr} {o' : HO}
/-- the object at e is changed: x itself, or the dict of the instance x -/
theorem HOk.write (ok : HOk P w H h) (mu : Mut (H x)) (he : e = x ∨ H e = some (.own x)) (k : ∀ b u, b ≠ e → h.get? b = some u → h'.get? b = some u) (heo : ∃ u, h'.get? e = some u)
    (new : ObjOk P w (upd H x o') h' x o') : HOk P w (upd H x o') h' := fun b u q => by
  have nown : ∀ c y, H c = some (.own y) → c ≠ x := fun c y r z => by subst z; rw [r] at mu; exact mu
  have ntup : ∀ c xs, H c = some (.tup xs) → c ≠ x := fun c xs r z => by subst z; rw [r] at mu; exact mu
  by_cases hb : b = x
  · subst hb; rw [upd_same] at q; cases q; exact new
  · rw [upd_ne hb] at q
    by_cases hbe : b = e
    · have q' : H b = some (.own x) := by
        rcases he with z | z
        · exact absurd (hbe.trans z) hb
        · rw [hbe]; exact z
      rw [q] at q'; cases q'
      obtain ⟨v, hv⟩ := heo
      exact ⟨v, by rw [hbe]; exact hv⟩
    · refine (ok b u q).stay (fun c v hc r => k c v ?_ r) (fun c r => by rw [upd_ne (nown c b r)]; exact r) fun c xs r => by rw [upd_ne (ntup c xs r)]; exact r
      rcases hc with rfl | hc
      · exact hbe
      · rintro rfl
        rcases he with z | z
        · exact nown c b hc z
        · rw [hc] at z; cases z; exact hb rfl
end

/-! ### kept unless tracked; of the frames at fs (the callers') the slots may change (an exception that passes writes there); of the records at ex (iterators) nothing is said -/
structure Un (fs ex : List Addr) (H H' : Hp) (h h' : Heap) : Prop where
  keep : ∀ b o, h.get? b = some o → H b = none → b ∉ fs → b ∉ ex → h'.get? b = some o
  slot : ∀ b o, h.get? b = some o → H b = none → b ∈ fs → b ∉ ex → ∃ sl, h'.get? b = some { o with slots := sl }
  free : ∀ b o, h.get? b = some o → H b = none → b ∉ ex → H' b = none
  there : ∀ b o, h.get? b = some o → b ∉ ex → ∃ o', h'.get? b = some o'
  tups : ∀ b xs, H b = some (.tup xs) → H' b = some (.tup xs)
  frzs : ∀ b o u, H b = some (.frz o u) → H' b = some (.frz o u)
  tbls : ∀ b ps, H b = some (.tbl ps) → ∃ more, H' b = some (.tbl (ps ++ more))
section
variable {fs fs' ex ex' : List Addr} {H H1 H2 : Hp} {h h1 h2 h' : Heap} {a x e : Addr} {o : HO}
theorem Un.any (u : Un fs ex H H1 h h1) {b : Addr} {ob : Obj} (q : h.get? b = some ob) (n : H b = none) (hx : b ∉ ex) : ∃ sl, h1.get? b = some { ob with slots := sl } := by
  by_cases hb : b ∈ fs
  · exact u.slot b ob q n hb hx
  · exact ⟨ob.slots, u.keep b ob q n hb hx⟩
theorem Un.kept (k : ∀ b u, h.get? b = some u → h'.get? b = some u) : Un fs ex H H h h' :=
  ⟨fun b ob q _ _ _ => k b ob q, fun b ob q _ _ _ => ⟨ob.slots, k b ob q⟩, fun _ _ _ n _ => n, fun b ob q _ => ⟨ob, k b ob q⟩, fun _ _ q => q, fun _ _ _ q => q, fun _ ps q => ⟨#[], by rw [q]; simp⟩⟩
theorem Un.refl : Un fs ex H H h h := Un.kept fun _ _ q => q
theorem Un.laid (k : ∀ b u, h.get? b = some u → h'.get? b = some u) (hp : h.objs.size ≤ a) (hn : H a = none) : Un fs ex H (upd H a o) h h' where
  keep := fun b u q _ _ _ => k b u q
  slot := fun b u q _ _ _ => ⟨u.slots, k b u q⟩
  free := fun b u q n _ => by rw [upd_ne (Nat.ne_of_lt (Nat.lt_of_lt_of_le (Heap.lt_size q) hp))]; exact n
  there := fun b u q _ => ⟨u, k b u q⟩
  tups := fun b xs q => by rw [upd_ne (ne_of_none q hn)]; exact q
  frzs := fun b u xs q => by rw [upd_ne (ne_of_none q hn)]; exact q
  tbls := fun b ps q => ⟨#[], by rw [upd_ne (ne_of_none q hn), q]; simp⟩
theorem Un.write (mu : Mut (H x)) (he : e = x ∨ H e = some (.own x)) (k : ∀ b u, b ≠ e → h.get? b = some u → h'.get? b = some u) (heo : ∃ u, h'.get? e = some u) : Un fs ex H (upd H x o) h h' := by
  have hx : ∀ b, H b = none → b ≠ x := fun b n z => by subst z; rw [n] at mu; exact mu
  have hb : ∀ b, H b = none → b ≠ e := fun b n z => by
    subst z
    rcases he with r | r
    · exact hx b n r
    · rw [n] at r; cases r
  have hm : ∀ b u, H b = some u → ¬ Mut (some u) → b ≠ x := fun b u q nm z => by subst z; rw [q] at mu; exact nm mu
  refine ⟨fun b u q n _ _ => k b u (hb b n) q, fun b u q n _ _ => ⟨u.slots, k b u (hb b n) q⟩, fun b u q n _ => by rw [upd_ne (hx b n)]; exact n, fun b u q _ => ?_,
    fun b xs q => by rw [upd_ne (hm b _ q fun z => z)]; exact q, fun b u xs q => by rw [upd_ne (hm b _ q fun z => z)]; exact q, fun b ps q => ⟨#[], by rw [upd_ne (hm b _ q fun z => z), q]; simp⟩⟩
  by_cases hbe : b = e
  · subst hbe; exact heo
  · exact ⟨u, k b u hbe q⟩
end

/-! ### the heap without what is tracked -/
def trk (h : Heap) (H : Hp) : List Addr := (List.range h.objs.size).filter fun a => (H a).isSome
def hidT (h : Heap) (H : Hp) : Heap := PySem.W.hideAll h (trk h H)
theorem hidT_size (h : Heap) (H : Hp) : (hidT h H).objs.size = h.objs.size := PySem.W.hideAll_size _ _
theorem hidT_get {h : Heap} {H : Hp} {b : Addr} {o : Obj} (e : h.get? b = some o) (n : H b = none) : (hidT h H).get? b = some o :=
  PySem.W.hideAll_get _ e fun hm => by
    have q : (H b).isSome = true := (List.mem_filter.mp hm).2
    rw [n] at q; simp at q
theorem of_hidT {h : Heap} {H : Hp} {b : Addr} {o : Obj} (e : (hidT h H).get? b = some o) : h.get? b = some o ∧ H b = none := by
  have e' : h.get? b = some o := PySem.W.of_hideAll (trk h H) e
  refine ⟨e', ?_⟩
  cases q : H b with
  | none => rfl
  | some x =>
    have hm : b ∈ trk h H := List.mem_filter.mpr ⟨List.mem_range.mpr (Heap.lt_size e'), by simp [q]⟩
    have z : (hidT h H).get? b = none := PySem.W.hideAll_none (trk h H) hm
    rw [z] at e; cases e

/-! ### OpenK's ledger, filled with every new object but one -/
def allNews (g h : Heap) (L : Addr) : List (Addr × Obj) := (List.range h.objs.size).filterMap fun a => if a = L ∨ (g.get? a).isSome = true then none else (h.get? a).map fun o => (a, o)
def rest (g h : Heap) (L d : Addr) : List (Addr × Obj) := (allNews g h L).filter fun p => decide (p.1 ≠ d)
end L2

namespace L2
open PySem PySem.Spec PyProof.Rows

/-- the module's facts, over the base: the heap at the law's entry without what is tracked there -/
structure Mod (K : PySem.W.Frag) (mg : Str → Option Value) (base : Heap) : Prop where
  kin : K.In base
  glob : base.Ns mainGlobals mg
  blt : ∃ mb, base.Ns builtinsNs mb ∧ ∀ x : Str, x ≠ "__name__" → mb x = bootBuiltins x
  nolimit : base.NoLimit

/-- the context: a def's body (or a comprehension's block) running. base: fixed through the whole law; s₀, H₀: the entry; outer: the frames whose slots others may change (a def's callers); stack: all frames that run;
   ex: iterators that were made ahead of the entry and are walked here (a comprehension's); fn: the names whose cells were made at the entry (a def: all; a comprehension's block: its own); calm: not within an except suite; pn: pins that every state bears; xe: what is wanted of an exception that leaves the code -/
structure Cx where
  prog : Program
  w : World
  K : PySem.W.Frag
  mg : Str → Option Value
  base : Heap
  A : Around
  N : List Str
  s₀ : Shared
  H₀ : Hp
  env : Env
  outer : List Env
  stack : List Env
  ex : List Addr
  fn : Str → Bool
  calm : Bool
  pn : List (Addr × Obj)
  xe : Value → Shared → Prop
/-- the callers' frames -/
def frs (l : List Env) : List Addr := l.filterMap (·.frame)
abbrev Cx.fs (X : Cx) : List Addr := frs X.outer

def Vis (sc : Scope) (x : Str) : Prop := sc.names.lookup x = some .local ∨ sc.names.lookup x = some .cell ∨ sc.names.lookup x = some .free
def Loc (sc : Scope) (x : Str) : Prop := sc.names.lookup x = some .local ∨ sc.names.lookup x = some .cell
def Look (env : Env) (h : Heap) (m : Str → Option Value) (x : Str) (u : Value) : Prop :=
  (env.kindOf x = some .local ∧ m x = some u) ∨ ((env.kindOf x = some .cell ∨ env.kindOf x = some .free) ∧ ∃ c, env.cells.lookup x = some c ∧ h.IsCell c (some u))

structure Cx.Ok (X : Cx) : Prop where
  mod : Mod X.K X.mg X.base
  kind : X.env.scope.kind = .function
  glob : X.env.globals = mainGlobals
  blt : X.env.builtins = builtinsNs
  above : X.s₀.heap.objs.size ≤ X.env.locals
  inj : ∀ x y c, X.env.cells.lookup x = some c → X.env.cells.lookup y = some c → x = y
  has : ∀ x, (X.env.kindOf x = some .cell ∨ X.env.kindOf x = some .free) → ∃ c, X.env.cells.lookup x = some c
  cab : ∀ x c, X.fn x = true → X.env.cells.lookup x = some c → X.s₀.heap.objs.size ≤ c
  hd : X.calm = true → X.A.handled = none
  frames : X.A.frames = some X.stack
  stk : X.stack = X.outer ∨ (X.stack = X.env :: X.outer ∧ X.env.frame = some X.env.locals)
  exf : ∀ b ∈ X.ex, b ≠ X.env.locals ∧ ∀ x c, X.env.cells.lookup x = some c → c ≠ b
  bs : ∀ b o, X.base.get? b = some o → X.s₀.heap.get? b = some o ∧ X.H₀ b = none
  bsz : X.base.objs.size ≤ X.s₀.heap.objs.size
  noex : ∀ b o, X.base.get? b = some o → b ∉ X.ex
  exfs : ∀ b ∈ X.ex, b ∉ X.fs
  funs : X.s₀.heap.FunFrames X.base X.outer
  frf : ∀ b ∈ X.fs, X.H₀ b = none

structure Inv (X : Cx) (pins : List (Addr × Obj)) (σ : List (Option V)) (H : Hp) (s : Shared) : Prop where
  ok : X.Ok
  os : s.os = X.s₀.os
  bare : AllBare s.gens
  base : Un X.fs X.ex X.H₀ H X.s₀.heap s.heap
  loc : ∃ m, s.heap.Ns X.env.locals m ∧ ∀ (i : Nat) (x : Str) (v : V), X.N[i]? = some x → σ[i]? = some (some v) → Vis X.env.scope x → ∃ u, RelV v u ∧ Look X.env s.heap m x u
  cell : ∀ x c, X.env.cells.lookup x = some c → ∃ v, s.heap.IsCell c v
  free : H X.env.locals = none
  freeC : ∀ x c, X.env.cells.lookup x = some c → H c = none
  pin : ∀ p ∈ X.pn ++ pins, s.heap.get? p.1 = some p.2 ∧ H p.1 = none ∧ p.1 ≠ X.env.locals ∧ p.1 ∉ X.fs ∧ ∀ v, p.2.data ≠ .cell v
  hok : HOk X.prog X.w H s.heap
  len : σ.length = X.N.length

section
variable {X : Cx} {pins : List (Addr × Obj)} {σ : List (Option V)} {H H' : Hp} {s : Shared} {h' : Heap}

theorem Cx.Ok.nofr (ok : X.Ok) {b : Addr} {o : Obj} (e : X.base.get? b = some o) : b ∉ X.fs := fun hb => by
  have := (ok.funs.mem hb).1
  rw [e] at this; cases this
theorem Inv.bs (I : Inv X pins σ H s) : ∀ b o, X.base.get? b = some o → s.heap.get? b = some o ∧ H b = none := fun b o e =>
  ⟨I.base.keep b o (I.ok.bs b o e).1 (I.ok.bs b o e).2 (I.ok.nofr e) (I.ok.noex b o e), I.base.free b o (I.ok.bs b o e).1 (I.ok.bs b o e).2 (I.ok.noex b o e)⟩
theorem Inv.bk (I : Inv X pins σ H s) : ∀ b o, X.base.get? b = some o → s.heap.get? b = some o := fun b o e => (I.bs b o e).1
theorem Inv.mod (I : Inv X pins σ H s) : Mod X.K X.mg X.base := I.ok.mod
theorem Inv.kIn (I : Inv X pins σ H s) : X.K.In s.heap := I.ok.mod.kin.keeps I.bk
theorem Inv.lt (I : Inv X pins σ H s) : X.env.locals < s.heap.objs.size := let ⟨_, hn, _⟩ := I.loc; hn.lt
theorem Inv.sz (I : Inv X pins σ H s) : X.s₀.heap.objs.size ≤ s.heap.objs.size := Nat.le_trans I.ok.above (Nat.le_of_lt I.lt)
theorem Inv.nofs (I : Inv X pins σ H s) {a : Addr} (h : s.heap.objs.size ≤ a) : a ∉ X.fs := fun hb => by
  obtain ⟨_, o, ho, _⟩ := I.ok.funs.mem hb
  exact absurd (Nat.lt_of_lt_of_le (Heap.lt_size ho) (Nat.le_trans I.sz h)) (Nat.lt_irrefl _)
theorem Inv.cne (I : Inv X pins σ H s) : ∀ x c, X.env.cells.lookup x = some c → c ≠ X.env.locals := fun x c e z => by
  obtain ⟨v, o, ho, hd⟩ := I.cell x c e
  obtain ⟨m, ⟨o', es, ep, ho', hd', _⟩, _⟩ := I.loc
  rw [z, ho'] at ho; cases ho; rw [hd'] at hd; cases hd
theorem Inv.funs (I : Inv X pins σ H s) : s.heap.FunFrames X.base X.outer := by
  have all : ∀ (l : List Env), (∀ b ∈ frs l, b ∈ X.fs) → X.s₀.heap.FunFrames X.base l → s.heap.FunFrames X.base l := by
    intro l
    induction l with
    | nil => intro _ _; trivial
    | cons env r ih =>
      intro hs hl
      obtain ⟨hk, ⟨L, o, hf, hn, ho, hd⟩, hr⟩ := hl
      have hL : L ∈ X.fs := hs L (by unfold frs; rw [List.filterMap_cons, hf]; exact List.mem_cons_self)
      obtain ⟨sl, e⟩ := I.base.slot L o ho (I.ok.frf L hL) hL fun z => I.ok.exfs L z hL
      exact ⟨hk, ⟨L, _, hf, hn, e, hd⟩, ih (fun b hb => hs b (by unfold frs; rw [List.filterMap_cons, hf]; exact List.mem_cons_of_mem _ hb)) hr⟩
  exact all X.outer (fun _ hb => hb) I.ok.funs

/-- the frames that run, for a call -/
theorem Inv.stack (I : Inv X pins σ H s) : s.heap.FunFrames X.base X.stack := by
  rcases I.ok.stk with e | ⟨e, hf⟩
  · rw [e]; exact I.funs
  · rw [e]
    obtain ⟨m, hn, _⟩ := I.loc
    refine .cons (by rw [I.ok.kind]; decide) hf hn ?_ I.funs
    exact Heap.get?_none_of_le (Nat.le_trans I.ok.bsz I.ok.above)
theorem Inv.stkSub (I : Inv X pins σ H s) : ∀ b ∈ frs X.stack, b ∈ X.env.locals :: X.fs := fun b hb => by
  rcases I.ok.stk with e | ⟨e, hf⟩
  · rw [e] at hb; exact List.mem_cons_of_mem _ hb
  · rw [e] at hb
    unfold frs at hb
    rw [List.filterMap_cons, hf] at hb
    exact hb
theorem Inv.stkFree (I : Inv X pins σ H s) : ∀ b ∈ frs X.stack, H b = none := fun b hb => by
  rcases List.mem_cons.mp (I.stkSub b hb) with e | hb
  · rw [e]; exact I.free
  · obtain ⟨_, o, ho, _⟩ := I.ok.funs.mem hb
    exact I.base.free b o ho (I.ok.frf b hb) fun z => I.ok.exfs b z hb

/-- THE STEP: the untracked objects but the frame and the records at ch are kept (the callers' frames up to slots), the frame's map is kept, the new abstract heap is held -/
theorem Inv.step {g' : Array GenState} {t' : Nat} {d' : Drawn} {ch : List Addr} (I : Inv X pins σ H s)
    (hch : ∀ b ∈ ch, (b ∈ X.ex ∨ X.s₀.heap.objs.size ≤ b) ∧ b ≠ X.env.locals ∧ (∀ x c, X.env.cells.lookup x = some c → c ≠ b) ∧ ∀ p ∈ X.pn ++ pins, p.1 ≠ b)
    (keep : ∀ b o, b ≠ X.env.locals → b ∉ X.fs → b ∉ ch → s.heap.get? b = some o → H b = none → h'.get? b = some o)
    (slot : ∀ b o, b ≠ X.env.locals → b ∈ X.fs → b ∉ ch → s.heap.get? b = some o → H b = none → ∃ sl, h'.get? b = some { o with slots := sl }) (free : ∀ b o, b ∉ ch → s.heap.get? b = some o → H b = none → H' b = none)
    (there : ∀ b o, b ∉ ch → s.heap.get? b = some o → ∃ o', h'.get? b = some o')
    (tups : ∀ b xs, H b = some (.tup xs) → H' b = some (.tup xs)) (frzs : ∀ b o u, H b = some (.frz o u) → H' b = some (.frz o u)) (tbls : ∀ b ps, H b = some (.tbl ps) → ∃ more, H' b = some (.tbl (ps ++ more)))
    (ns : ∀ m, s.heap.Ns X.env.locals m → h'.Ns X.env.locals m) (hok : HOk X.prog X.w H' h') (hg : AllBare g') :
    Inv X pins σ H' { s with heap := h', gens := g', drawn := d', toks := t' } := by
  have neL : ∀ b o, X.s₀.heap.get? b = some o → b ≠ X.env.locals := fun b o e => Nat.ne_of_lt (Nat.lt_of_lt_of_le (Heap.lt_size e) I.ok.above)
  have neC : ∀ b o, X.s₀.heap.get? b = some o → b ∉ X.ex → b ∉ ch := fun b o e hx hb => by
    rcases (hch b hb).1 with z | z
    · exact hx z
    · exact absurd (Nat.lt_of_lt_of_le (Heap.lt_size e) z) (Nat.lt_irrefl _)
  have cellK : ∀ x c, X.env.cells.lookup x = some c → ∀ v, s.heap.IsCell c v → h'.IsCell c v := fun x c e v ⟨o, ho, hd⟩ => by
    have nch : c ∉ ch := fun z => (hch c z).2.2.1 x c e rfl
    by_cases hc : c ∈ X.fs
    · obtain ⟨sl, q⟩ := slot c o (I.cne x c e) hc nch ho (I.freeC x c e)
      exact ⟨_, q, hd⟩
    · exact ⟨o, keep c o (I.cne x c e) hc nch ho (I.freeC x c e), hd⟩
  refine ⟨I.ok, I.os, hg, ⟨fun b o e n hb hx => ?_, fun b o e n hb hx => ?_, fun b o e n hx => ?_, fun b o e hx => ?_, fun b xs e => tups b xs (I.base.tups b xs e), fun b o xs e => frzs b o xs (I.base.frzs b o xs e), fun b ps e => ?_⟩, ?_, fun x c e => ?_, ?_, fun x c e => ?_, fun p hp => ?_, hok, I.len⟩
  · exact keep b o (neL b o e) hb (neC b o e hx) (I.base.keep b o e n hb hx) (I.base.free b o e n hx)
  · obtain ⟨sl, e1⟩ := I.base.slot b o e n hb hx
    obtain ⟨sl', e2⟩ := slot b _ (neL b o e) hb (neC b o e hx) e1 (I.base.free b o e n hx)
    exact ⟨sl', e2⟩
  · obtain ⟨o', e1⟩ := I.base.there b o e hx
    exact free b o' (neC b o e hx) e1 (I.base.free b o e n hx)
  · obtain ⟨o', e1⟩ := I.base.there b o e hx
    exact there b o' (neC b o e hx) e1
  · obtain ⟨m1, e1⟩ := I.base.tbls b ps e
    obtain ⟨m2, e2⟩ := tbls b _ e1
    exact ⟨m1 ++ m2, by rw [e2, Array.append_assoc]⟩
  · obtain ⟨m, hn, hl⟩ := I.loc
    refine ⟨m, ns m hn, fun i x v e1 e2 e3 => ?_⟩
    obtain ⟨u, r, l⟩ := hl i x v e1 e2 e3
    refine ⟨u, r, ?_⟩
    rcases l with l | ⟨k, c, e, z⟩
    · exact .inl l
    · exact .inr ⟨k, c, e, cellK x c e _ z⟩
  · obtain ⟨v, z⟩ := I.cell x c e
    exact ⟨v, cellK x c e v z⟩
  · obtain ⟨m, ⟨o, _, _, ho, _⟩, _⟩ := I.loc
    exact free _ o (fun z => (hch _ z).2.1 rfl) ho I.free
  · obtain ⟨v, o, ho, hd⟩ := I.cell x c e
    exact free c o (fun z => (hch c z).2.2.1 x c e rfl) ho (I.freeC x c e)
  · obtain ⟨e, n, ne, nf, d⟩ := I.pin p hp
    have nch : p.1 ∉ ch := fun z => (hch p.1 z).2.2.2 p hp rfl
    exact ⟨keep p.1 p.2 ne nf nch e n, free p.1 p.2 nch e n, ne, nf, d⟩
/-- .. where the frame's own object is kept too -/
theorem Inv.un {t' : Nat} (I : Inv X pins σ H s) (u : Un X.fs [] H H' s.heap h') (hok : HOk X.prog X.w H' h') : Inv X pins σ H' { s with heap := h', toks := t' } := by
  obtain ⟨m, ⟨o, es, ep, ho, r⟩, _⟩ := id I.loc
  obtain ⟨sl, hL⟩ := u.any ho I.free (by simp)
  exact I.step (g' := s.gens) (d' := s.drawn) (ch := []) (fun _ z => nomatch z) (fun b o _ hb _ e n => u.keep b o e n hb (by simp)) (fun b o _ hb _ e n => u.slot b o e n hb (by simp)) (fun b o _ e n => u.free b o e n (by simp)) (fun b o _ e => u.there b o e (by simp)) u.tups u.frzs u.tbls (fun m' hm => by
    obtain ⟨o', es', ep', ho', r'⟩ := hm
    rw [ho] at ho'; cases ho'
    exact ⟨_, es', ep', hL, r'⟩) hok I.bare
/-- behind a call (or a comprehension's block): the slots of this frame may have changed too, the records at ch may have turned -/
theorem Inv.call {g' : Array GenState} {t' : Nat} {d' : Drawn} {ch : List Addr} (I : Inv X pins σ H s) (u : Un (frs X.stack) ch H H' s.heap h') (hok : HOk X.prog X.w H' h') (hg : AllBare g')
    (hch : ∀ b ∈ ch, (b ∈ X.ex ∨ X.s₀.heap.objs.size ≤ b) ∧ b ≠ X.env.locals ∧ (∀ x c, X.env.cells.lookup x = some c → c ≠ b) ∧ ∀ p ∈ X.pn ++ pins, p.1 ≠ b) :
    Inv X pins σ H' { s with heap := h', gens := g', drawn := d', toks := t' } := by
  obtain ⟨m, ⟨o, es, ep, ho, r⟩, _⟩ := id I.loc
  obtain ⟨sl, hL⟩ := u.any ho I.free fun z => (hch _ z).2.1 rfl
  exact I.step (ch := ch) hch (fun b o hL hb hc e n => u.keep b o e n (fun z => (List.mem_cons.mp (I.stkSub b z)).elim hL hb) hc) (fun b o _ _ hc e n => u.any e n hc) (fun b o hc e n => u.free b o e n hc) (fun b o hc e => u.there b o e hc) u.tups u.frzs u.tbls (fun m' hm => by
    obtain ⟨o', es', ep', ho', r'⟩ := hm
    rw [ho] at ho'; cases ho'
    exact ⟨_, es', ep', hL, r'⟩) hok hg
/-- an untracked record of ours (an iterator) has turned -/
theorem Inv.turned {t' : Nat} {it : Addr} (I : Inv X pins σ H s) (k : ∀ b o, b ≠ it → s.heap.get? b = some o → h'.get? b = some o) (hn : H it = none) (hL : it ≠ X.env.locals)
    (h1 : it ∈ X.ex ∨ X.s₀.heap.objs.size ≤ it) (h2 : ∀ x c, X.env.cells.lookup x = some c → c ≠ it) (h3 : ∀ p ∈ X.pn ++ pins, p.1 ≠ it) : Inv X pins σ H { s with heap := h', toks := t' } := by
  have nit : ∀ b u, H b = some u → b ≠ it := fun b u e z => by rw [z, hn] at e; cases e
  refine I.step (g' := s.gens) (d' := s.drawn) (ch := [it]) (fun b hb => ?_) (fun b o _ _ hc e _ => k b o (fun z => hc (by simp [z])) e) (fun b o _ _ hc e _ => ⟨o.slots, k b o (fun z => hc (by simp [z])) e⟩) (fun _ _ _ _ n => n)
    (fun b o hc e => ⟨o, k b o (fun z => hc (by simp [z])) e⟩) (fun _ _ e => e) (fun _ _ _ e => e) (fun b ps e => ⟨#[], by rw [e]; simp⟩) (fun m hm => ?_) (fun b u e => ?_) I.bare
  · have e : b = it := by simpa using hb
    subst e
    exact ⟨h1, hL, h2, h3⟩
  · obtain ⟨o, es, ep, ho, r⟩ := hm
    exact ⟨o, es, ep, k _ o (Ne.symm hL) ho, r⟩
  · refine (I.hok b u e).stay (fun c v hc q => k c v ?_ q) (fun _ q => q) fun _ _ q => q
    rcases hc with z | z
    · rw [z]; exact nit b u e
    · exact nit c _ z
theorem Inv.tok (I : Inv X pins σ H s) (t : Nat) : Inv X pins σ H { s with toks := t } := I.un (h' := s.heap) (t' := t) Un.refl I.hok
/-- all objects kept -/
theorem Inv.kept {t' : Nat} (I : Inv X pins σ H s) (k : ∀ b u, s.heap.get? b = some u → h'.get? b = some u) : Inv X pins σ H { s with heap := h', toks := t' } := I.un (Un.kept k) (I.hok.kept k)
/-- a new object laid and tracked -/
theorem Inv.laid {a : Addr} {o : HO} {t' : Nat} (I : Inv X pins σ H s) (k : ∀ b u, s.heap.get? b = some u → h'.get? b = some u) (hp : s.heap.objs.size ≤ a) (new : ObjOk X.prog X.w (upd H a o) h' a o) :
    Inv X pins σ (upd H a o) { s with heap := h', toks := t' } := I.un (Un.laid k hp (I.hok.fresh hp)) (I.hok.laid k hp new)
/-- an object written -/
theorem Inv.write {x e : Addr} {o : HO} {t' : Nat} (I : Inv X pins σ H s) (mu : Mut (H x)) (he : e = x ∨ H e = some (.own x)) (k : ∀ b u, b ≠ e → s.heap.get? b = some u → h'.get? b = some u) (heo : ∃ u, h'.get? e = some u)
    (new : ObjOk X.prog X.w (upd H x o) h' x o) : Inv X pins σ (upd H x o) { s with heap := h', toks := t' } := I.un (Un.write mu he k heo) (I.hok.write mu he k heo new)
theorem Inv.pins_of {pins' : List (Addr × Obj)} (I : Inv X pins σ H s) (h : ∀ p ∈ pins', s.heap.get? p.1 = some p.2 ∧ H p.1 = none ∧ p.1 ≠ X.env.locals ∧ p.1 ∉ X.fs ∧ ∀ v, p.2.data ≠ .cell v) : Inv X pins' σ H s :=
  ⟨I.ok, I.os, I.bare, I.base, I.loc, I.cell, I.free, I.freeC, fun p hp => (List.mem_append.mp hp).elim (fun z => I.pin p (List.mem_append_left _ z)) (h p), I.hok, I.len⟩

theorem nodup_ix {N : List Str} (hN : N.Nodup) {i j : Nat} {x : Str} (a : N[i]? = some x) (b : N[j]? = some x) : i = j := by
  obtain ⟨h1, e1⟩ := List.getElem?_eq_some_iff.mp a
  obtain ⟨h2, e2⟩ := List.getElem?_eq_some_iff.mp b
  exact (List.getElem_inj hN).mp (e1.trans e2.symm)

/-- a name is stored; what changed -/
theorem store_ok2 {M : Model} {A : Around} {E : Value → Shared → Prop} {i : Nat} {x : Str} {v : V} {u : Value} {Q : Unit → Shared → Prop} (I : Inv X pins σ H s) (hN : X.N.Nodup) (hi : X.N[i]? = some x) (hx : Loc X.env.scope x) (r : RelV v u)
    (h : ∀ s', Inv X pins (σ.set i (some v)) H s' → (∃ a, Heap.SameBut a s.heap s'.heap ∧ (a = X.env.locals ∨ X.env.cells.lookup x = some a)) → Q () s') (hf : X.fn x = true ∨ X.env.scope.names.lookup x = some .local := by first | exact .inl rfl | exact .inr rfl | assumption) : wpAny M A (storeName X.env x u) Q E s := by
  obtain ⟨m, hn, hl⟩ := id I.loc
  have hcls : (X.env.scope.kind == .class || (X.env.scope.kind == .module && X.env.locals != X.env.globals)) = false := by rw [I.ok.kind]; rfl
  have hiσ : i < σ.length := by rw [I.len]; exact (List.getElem?_eq_some_iff.mp hi).1
  have cne := I.cne
  have tracked : ∀ {a : Addr} {h' : Heap}, (∃ o, s.heap.get? a = some o ∧ H a = none) → Heap.SameBut a s.heap h' → HOk X.prog X.w H h' := fun {a h'} ha hs b ob e => by
    obtain ⟨_, _, hfree⟩ := ha
    refine (I.hok b ob e).stay (fun c w' hc q => (hs.2 c ?_).trans q) (fun _ q => q) fun _ _ q => q
    rintro rfl
    rcases hc with rfl | hc
    · rw [hfree] at e; cases e
    · rw [hfree] at hc; cases hc
  rcases hx with hk | hk
  · refine wpAny_storeName_local hk hn (fun h' hn' hs => ?_) hcls
    obtain ⟨oL, _, _, hoL, _⟩ := id hn
    refine h _ ⟨I.ok, I.os, I.bare, ⟨fun b o e n hb hx => ?_, fun b o e n hb hx => ?_, I.base.free, fun b o e hx => ?_, I.base.tups, I.base.frzs, I.base.tbls⟩, ⟨_, hn', fun j y v' e1 e2 e3 => ?_⟩, fun y c e => ?_, I.free, I.freeC, fun p hp => ?_, tracked ⟨oL, hoL, I.free⟩ hs, by simpa using I.len⟩ ⟨_, hs, .inl rfl⟩
    · exact (hs.2 b (Nat.ne_of_lt (Nat.lt_of_lt_of_le (Heap.lt_size e) I.ok.above))).trans (I.base.keep b o e n hb hx)
    · obtain ⟨sl, e1⟩ := I.base.slot b o e n hb hx
      exact ⟨sl, (hs.2 b (Nat.ne_of_lt (Nat.lt_of_lt_of_le (Heap.lt_size e) I.ok.above))).trans e1⟩
    · obtain ⟨o', e1⟩ := I.base.there b o e hx
      exact ⟨o', (hs.2 b (Nat.ne_of_lt (Nat.lt_of_lt_of_le (Heap.lt_size e) I.ok.above))).trans e1⟩
    · by_cases hj : j = i
      · subst hj
        rw [hi] at e1; cases e1
        rw [List.getElem?_set_self hiσ] at e2
        cases e2
        exact ⟨u, r, .inl ⟨hk, by simp⟩⟩
      · rw [List.getElem?_set_ne (Ne.symm hj)] at e2
        obtain ⟨u', r', q⟩ := hl j y v' e1 e2 e3
        refine ⟨u', r', ?_⟩
        rcases q with ⟨k, e⟩ | ⟨k, c, e, z⟩
        · refine .inl ⟨k, ?_⟩
          have : y ≠ x := fun e => hj (nodup_ix hN e1 (e ▸ hi))
          simp [this, e]
        · exact .inr ⟨k, c, e, z.sameBut hs (cne y c e)⟩
    · obtain ⟨w', z⟩ := I.cell y c e
      exact ⟨w', z.sameBut hs (cne y c e)⟩
    · obtain ⟨e, n, ne, nf, d⟩ := I.pin p hp
      exact ⟨(hs.2 p.1 ne).trans e, n, ne, nf, d⟩
  · have hfn : X.fn x = true := by
      rcases hf with z | z
      · exact z
      · rw [z] at hk; cases hk
    obtain ⟨c, hc⟩ := I.ok.has x (.inl hk)
    obtain ⟨w', z⟩ := I.cell x c hc
    refine wpAny_storeName_cell I.ok.kind hk hc z (fun h' hc' hs => ?_)
    obtain ⟨oc, hoc, hocd⟩ := id z
    refine h { s with heap := h' } ⟨I.ok, I.os, I.bare, ⟨fun b o e n hb hx => ?_, fun b o e n hb hx => ?_, I.base.free, fun b o e hx => ?_, I.base.tups, I.base.frzs, I.base.tbls⟩, ⟨m, hn.sameBut hs (Ne.symm (cne x c hc)), fun j y v' e1 e2 e3 => ?_⟩, fun y c' e => ?_, I.free, I.freeC, fun p hp => ?_, tracked ⟨oc, hoc, I.freeC x c hc⟩ hs, by simpa using I.len⟩ ⟨c, hs, .inr hc⟩
    · exact (hs.2 b (Nat.ne_of_lt (Nat.lt_of_lt_of_le (Heap.lt_size e) (I.ok.cab x c hfn hc)))).trans (I.base.keep b o e n hb hx)
    · obtain ⟨sl, e1⟩ := I.base.slot b o e n hb hx
      exact ⟨sl, (hs.2 b (Nat.ne_of_lt (Nat.lt_of_lt_of_le (Heap.lt_size e) (I.ok.cab x c hfn hc)))).trans e1⟩
    · obtain ⟨o', e1⟩ := I.base.there b o e hx
      exact ⟨o', (hs.2 b (Nat.ne_of_lt (Nat.lt_of_lt_of_le (Heap.lt_size e) (I.ok.cab x c hfn hc)))).trans e1⟩
    · by_cases hj : j = i
      · subst hj
        rw [hi] at e1; cases e1
        rw [List.getElem?_set_self hiσ] at e2
        cases e2
        exact ⟨u, r, .inr ⟨.inl hk, c, hc, hc'⟩⟩
      · rw [List.getElem?_set_ne (Ne.symm hj)] at e2
        obtain ⟨u', r', q⟩ := hl j y v' e1 e2 e3
        refine ⟨u', r', ?_⟩
        rcases q with q | ⟨k, c', e, z'⟩
        · exact .inl q
        · refine .inr ⟨k, c', e, z'.sameBut hs ?_⟩
          rintro rfl
          exact hj (nodup_ix hN e1 (I.ok.inj _ _ _ e hc ▸ hi))
    · by_cases hcc : c' = c
      · subst hcc; exact ⟨_, hc'⟩
      · obtain ⟨w2, z2⟩ := I.cell y c' e
        exact ⟨w2, z2.sameBut hs hcc⟩
    · obtain ⟨e, n, ne, nf, d⟩ := I.pin p hp
      refine ⟨(hs.2 p.1 ?_).trans e, n, ne, nf, d⟩
      intro q
      rw [q, hoc] at e
      have q' : oc = p.2 := Option.some.inj e
      exact d w' (by rw [← q']; exact hocd)
theorem store_ok {M : Model} {A : Around} {E : Value → Shared → Prop} {i : Nat} {x : Str} {v : V} {u : Value} {Q : Unit → Shared → Prop} (I : Inv X pins σ H s) (hN : X.N.Nodup) (hi : X.N[i]? = some x) (hx : Loc X.env.scope x) (r : RelV v u)
    (h : ∀ s', Inv X pins (σ.set i (some v)) H s' → Q () s') (hf : X.fn x = true ∨ X.env.scope.names.lookup x = some .local := by first | exact .inl rfl | exact .inr rfl | assumption) : wpAny M A (storeName X.env x u) Q E s :=
  store_ok2 I hN hi hx r (fun s' I' _ => h s' I') hf
/-- behind a call or a block, the state as it is -/
theorem Inv.call' {s' : Shared} {ch : List Addr} (I : Inv X pins σ H s) (ho : s'.os = s.os) (u : Un (frs X.stack) ch H H' s.heap s'.heap) (hok : HOk X.prog X.w H' s'.heap) (hg : AllBare s'.gens)
    (hch : ∀ b ∈ ch, (b ∈ X.ex ∨ X.s₀.heap.objs.size ≤ b) ∧ b ≠ X.env.locals ∧ (∀ x c, X.env.cells.lookup x = some c → c ≠ b) ∧ ∀ p ∈ X.pn ++ pins, p.1 ≠ b) : Inv X pins σ H' s' := by
  obtain ⟨h', g', d', t', o'⟩ := s'
  have e : o' = s.os := ho
  subst e
  exact I.call (g' := g') (t' := t') (d' := d') u hok hg hch
end

/-! ### the judgements -/
/-- an exception: its class, its own dict's address (where it has one), the abstract heap behind it -/
abbrev XK := Value → Option Addr → Hp → Prop
abbrev St := List (Option V)
abbrev VK := V → Hp → Prop
/-- an expression's reading; a test's; an argument list's -/
abbrev TE := St → Hp → VK → Prop
abbrev TT := St → Hp → (Bool → Hp → Prop) → Prop
abbrev TA := St → Hp → (List V → Hp → Prop) → Prop
/-- what is wanted behind a statement -/
structure Ends where
  nx : St → Hp → Prop
  rt : VK
  bk : St → Hp → Prop := fun _ _ => False
  ct : St → Hp → Prop := fun _ _ => False
abbrev TS := Ends → St → Hp → Prop

def EP (X : Cx) (pins : List (Addr × Obj)) (σ : St) (Q : VK) (u : Value) (s' : Shared) : Prop := ∃ v H', Inv X pins σ H' s' ∧ RelV v u ∧ Q v H'
def TP (X : Cx) (pins : List (Addr × Obj)) (σ : St) (Q : Bool → Hp → Prop) (b : Bool) (s' : Shared) : Prop := ∃ H', Inv X pins σ H' s' ∧ Q b H'
def AP (X : Cx) (pins : List (Addr × Obj)) (σ : St) (Q : List V → Hp → Prop) (us : List Value) (s' : Shared) : Prop := ∃ vs H', Inv X pins σ H' s' ∧ Vals vs us ∧ Q vs H'
def SP (X : Cx) (pins : List (Addr × Obj)) (D : Ends) (f : Flow) (s' : Shared) : Prop :=
  match f with
  | .next => ∃ σ' H', Inv X pins σ' H' s' ∧ D.nx σ' H'
  | .brk => ∃ σ' H', Inv X pins σ' H' s' ∧ D.bk σ' H'
  | .cont => ∃ σ' H', Inv X pins σ' H' s' ∧ D.ct σ' H'
  | .ret u => ∃ v σ' H', Inv X pins σ' H' s' ∧ RelV v u ∧ D.rt v H'

structure PE (X : Cx) (e : Expr) (t : TE) : Prop where
  run : ∀ (pins : List (Addr × Obj)) (s : Shared) (σ : St) (H : Hp) (Q : VK), Inv X pins σ H s → t σ H Q → wpAny (model X.prog X.w) X.A (eval e X.env) (EP X pins σ Q) X.xe s
instance {X : Cx} {e : Expr} {t : TE} : CoeFun (PE X e t) fun _ => ∀ (pins : List (Addr × Obj)) (s : Shared) (σ : St) (H : Hp) (Q : VK), Inv X pins σ H s → t σ H Q → wpAny (model X.prog X.w) X.A (eval e X.env) (EP X pins σ Q) X.xe s := ⟨PE.run⟩
structure PT (X : Cx) (e : Expr) (t : TT) : Prop where
  run : ∀ (pins : List (Addr × Obj)) (s : Shared) (σ : St) (H : Hp) (Q : Bool → Hp → Prop), Inv X pins σ H s → t σ H Q → wpAny (model X.prog X.w) X.A (isTrue e X.env (eval e X.env)) (TP X pins σ Q) X.xe s
instance {X : Cx} {e : Expr} {t : TT} : CoeFun (PT X e t) fun _ => ∀ (pins : List (Addr × Obj)) (s : Shared) (σ : St) (H : Hp) (Q : Bool → Hp → Prop), Inv X pins σ H s → t σ H Q → wpAny (model X.prog X.w) X.A (isTrue e X.env (eval e X.env)) (TP X pins σ Q) X.xe s := ⟨PT.run⟩
/-- a test whatever its 'whole' is (and, or) -/
structure PW (X : Cx) (e : Expr) (t : TT) : Prop where
  run : ∀ (whole : Sem Value) (pins : List (Addr × Obj)) (s : Shared) (σ : St) (H : Hp) (Q : Bool → Hp → Prop), Inv X pins σ H s → t σ H Q → wpAny (model X.prog X.w) X.A (isTrue e X.env whole) (TP X pins σ Q) X.xe s
instance {X : Cx} {e : Expr} {t : TT} : CoeFun (PW X e t) fun _ => ∀ (whole : Sem Value) (pins : List (Addr × Obj)) (s : Shared) (σ : St) (H : Hp) (Q : Bool → Hp → Prop), Inv X pins σ H s → t σ H Q → wpAny (model X.prog X.w) X.A (isTrue e X.env whole) (TP X pins σ Q) X.xe s := ⟨PW.run⟩
theorem PW.pt {X : Cx} {e : Expr} {t : TT} (h : PW X e t) : PT X e t := ⟨h.run _⟩
/-- an argument list (no star), from the left -/
structure PA (X : Cx) (es : List Expr) (t : TA) : Prop where
  run : ∀ (pos : Pos) (pins : List (Addr × Obj)) (s : Shared) (σ : St) (H : Hp) (Q : List V → Hp → Prop), Inv X pins σ H s → t σ H Q → wpAny (model X.prog X.w) X.A (spliced (backTo pos (starEach es X.env))) (AP X pins σ Q) X.xe s
instance {X : Cx} {es : List Expr} {t : TA} : CoeFun (PA X es t) fun _ => ∀ (pos : Pos) (pins : List (Addr × Obj)) (s : Shared) (σ : St) (H : Hp) (Q : List V → Hp → Prop), Inv X pins σ H s → t σ H Q → wpAny (model X.prog X.w) X.A (spliced (backTo pos (starEach es X.env))) (AP X pins σ Q) X.xe s := ⟨PA.run⟩
structure PS (X : Cx) (st : Stmt) (t : TS) : Prop where
  run : ∀ (pins : List (Addr × Obj)) (s : Shared) (σ : St) (H : Hp) (D : Ends), Inv X pins σ H s → t D σ H → wpAny (model X.prog X.w) X.A (exec st X.env) (SP X pins D) X.xe s
instance {X : Cx} {st : Stmt} {t : TS} : CoeFun (PS X st t) fun _ => ∀ (pins : List (Addr × Obj)) (s : Shared) (σ : St) (H : Hp) (D : Ends), Inv X pins σ H s → t D σ H → wpAny (model X.prog X.w) X.A (exec st X.env) (SP X pins D) X.xe s := ⟨PS.run⟩
structure PSs (X : Cx) (st : List Stmt) (t : TS) : Prop where
  run : ∀ (pins : List (Addr × Obj)) (s : Shared) (σ : St) (H : Hp) (D : Ends), Inv X pins σ H s → t D σ H → wpAny (model X.prog X.w) X.A (execs st X.env) (SP X pins D) X.xe s
instance {X : Cx} {st : List Stmt} {t : TS} : CoeFun (PSs X st t) fun _ => ∀ (pins : List (Addr × Obj)) (s : Shared) (σ : St) (H : Hp) (D : Ends), Inv X pins σ H s → t D σ H → wpAny (model X.prog X.w) X.A (execs st X.env) (SP X pins D) X.xe s := ⟨PSs.run⟩
/-- weaken the end -/
theorem thn {α : Type} {t : Sem α} {Q Q' : α → Shared → Prop} {M : Model} {A : Around} {E : Value → Shared → Prop} {s : Shared} (h : wpAny M A t Q E s) (hQ : ∀ a s, Q a s → Q' a s) : wpAny M A t Q' E s := wpAny_mono h hQ fun _ _ x => x
end L2

namespace L2
open PySem PySem.Spec PyProof.Rows
section
variable {X : Cx}

/-! ### names and constants -/
def tVar (i : Nat) : TE := fun σ H Q => ∃ v, σ[i]? = some (some v) ∧ Q v H
def tC (v : V) : TE := fun _ H Q => Q v H
theorem pe_var {i : Nat} {x : Str} {pos : Pos} (hN : X.N[i]? = some x) (hv : Vis X.env.scope x) (hd : (x == ("__debug__" : Str)) = false := by decide) (hcd : (x == ("__classdict__" : Str)) = false := by decide) : PE X (.Name x pos) (tVar i) := by
  constructor; intro pins s σ H Q I h
  obtain ⟨v, e, h⟩ := h
  obtain ⟨m, hn, hl⟩ := I.loc
  obtain ⟨u, r, l⟩ := hl i x v hN e hv
  have fin : EP X pins σ Q u s := ⟨v, H, I, r, h⟩
  rcases l with ⟨hk, hm⟩ | ⟨hk, c, hc, hcell⟩
  · exact wpAny_Name (wpAny_loadName_local I.ok.kind hk hn hm fin) hd
  · rcases hk with hk | hk
    · exact wpAny_Name (wpAny_loadName_cell I.ok.kind hk hc hcell fin) hd
    · exact wpAny_Name (wpAny_loadName_free I.ok.kind hk hc hcell fin hcd) hd
theorem pe_int {i j pos} : PE X (.Constant (.int i) j pos) (tC (.int i)) := ⟨fun _ _ _ H _ I h => wpAny_Constant_int ⟨.int i, H, I.tok _, ⟨_, rfl⟩, h⟩⟩
theorem pe_bl {b j pos} : PE X (.Constant (.bool b) j pos) (tC (.bl b)) := ⟨fun _ _ _ H _ I h => Constant_bool ⟨.bl b, H, I, rfl, h⟩⟩
theorem pe_non {j pos} : PE X (.Constant .none j pos) (tC .non) := ⟨fun _ _ _ H _ I h => Constant_none ⟨.non, H, I, rfl, h⟩⟩
theorem pe_str {x j pos} : PE X (.Constant (.str x) j pos) (tC (.str x)) := ⟨fun _ _ _ H _ I h => Calls.Constant_str ⟨.str x, H, I.tok _, ⟨_, rfl⟩, h⟩⟩

/-- a global name of the def -/
def Gl (X : Cx) (x : Str) : Prop := X.env.kindOf x = some .globalImplicit
theorem ld_glob {E : Value → Shared → Prop} {pins : List (Addr × Obj)} {s : Shared} {σ : St} {H : Hp} {x : Str} {u : Value} {pos : Pos} {Q : Value → Shared → Prop} (I : Inv X pins σ H s) (hg : Gl X x) (hm : X.mg x = some u) (h : Q u s)
    (hd : (x == ("__debug__" : Str)) = false := by decide) : wpAny (model X.prog X.w) X.A (eval (.Name x pos) X.env) Q E s :=
  Calls.Name_function_global I.ok.kind hg (Calls.loadGlobal_global (by rw [I.ok.glob]; exact I.mod.glob.keeps I.bk) hm h) hd
theorem ld_blt {E : Value → Shared → Prop} {pins : List (Addr × Obj)} {s : Shared} {σ : St} {H : Hp} {x : Str} {u : Value} {pos : Pos} {Q : Value → Shared → Prop} (I : Inv X pins σ H s) (hg : Gl X x) (hm : X.mg x = none) (hv : bootBuiltins x = some u) (h : Q u s)
    (hn : x ≠ "__name__" := by decide) (hd : (x == ("__debug__" : Str)) = false := by decide) : wpAny (model X.prog X.w) X.A (eval (.Name x pos) X.env) Q E s := by
  obtain ⟨mb, h1, h2⟩ := I.mod.blt
  exact Calls.Name_function_global I.ok.kind hg (Calls.loadGlobal_builtin (by rw [I.ok.glob]; exact I.mod.glob.keeps I.bk) hm (by rw [I.ok.blt]; exact h1.keeps I.bk) ((h2 x hn).trans hv) h) hd
/-- a module's constant, a class, a function, as a value -/
theorem pe_glob {x : Str} {v : V} {u : Value} {pos : Pos} (hg : Gl X x) (hm : X.mg x = some u) (r : RelV v u) (hd : (x == ("__debug__" : Str)) = false := by decide) : PE X (.Name x pos) (tC v) :=
  ⟨fun _ _ _ H _ I h => ld_glob I hg hm ⟨v, H, I, r, h⟩ hd⟩
theorem pe_bltn {x : Str} {v : V} {u : Value} {pos : Pos} (hg : Gl X x) (hm : X.mg x = none) (hv : bootBuiltins x = some u) (r : RelV v u) (hn : x ≠ "__name__" := by decide) (hd : (x == ("__debug__" : Str)) = false := by decide) : PE X (.Name x pos) (tC v) :=
  ⟨fun _ _ _ H _ I h => ld_blt I hg hm hv ⟨v, H, I, r, h⟩ hn hd⟩

/-! ### arithmetic -/
variable {a b : Expr} {ta tb : TE} {pos : Pos}
/-! ### comparisons -/
structure PC (X : Cx) (op : CmpOp) (a b : Expr) (t : TE) : Prop where
  run : ∀ (pins : List (Addr × Obj)) (s : Shared) (σ : St) (H : Hp) (Q : VK), Inv X pins σ H s → t σ H Q →
    wpAny (model X.prog X.w) X.A (eval a X.env) (fun v s₁ => wpAny (model X.prog X.w) X.A (eval b X.env) (fun u s₂ => wpAny (model X.prog X.w) X.A (compareOp op v u) (EP X pins σ Q) X.xe s₂) X.xe s₁) X.xe s
instance {X : Cx} {op : CmpOp} {a b : Expr} {t : TE} : CoeFun (PC X op a b t) fun _ => ∀ (pins : List (Addr × Obj)) (s : Shared) (σ : St) (H : Hp) (Q : VK), Inv X pins σ H s → t σ H Q →
    wpAny (model X.prog X.w) X.A (eval a X.env) (fun v s₁ => wpAny (model X.prog X.w) X.A (eval b X.env) (fun u s₂ => wpAny (model X.prog X.w) X.A (compareOp op v u) (EP X pins σ Q) X.xe s₂) X.xe s₁) X.xe s := ⟨PC.run⟩
/-- a comparison as a value, as a test -/
def tB (t : TE) : TT := fun σ H Q => t σ H fun x H1 => ∃ c, x = .bl c ∧ Q c H1
/-- an expression whose value is a bool, as a test -/
theorem pt_val {e : Expr} {t : TE} (h : PE X e t) (he : ∀ whole, isTrue e X.env whole = (do let v ← whole; standAt e.pos; holding [v] (truthy v)) := by intro _; rfl) : PT X e (tB t) := by
  constructor; intro pins s σ H Q I hw
  refine isTrue_plain (thn (h pins s σ H _ I hw) fun v s1 ⟨x, H1, I1, r1, q1⟩ => ?_) (he _)
  obtain ⟨d, rfl, q⟩ := q1
  cases r1
  exact wpAny_truthy_bool ⟨H1, I1, q⟩

/-! ### and, or, not -/
variable {tA tB' : TT} {rest : List Expr}
def tAnd (t u : TT) : TT := fun σ H Q => t σ H fun c H1 => if c = true then u σ H1 Q else Q false H1
def tOr (t u : TT) : TT := fun σ H Q => t σ H fun c H1 => if c = true then Q true H1 else u σ H1 Q
def tNot (t : TT) : TT := fun σ H Q => t σ H fun c H1 => Q (!c) H1
theorem pw_and1 (ha : PT X a tA) : PW X (.BoolOp .And [a] pos) tA := by
  constructor; intro wh pins s σ H Q I h
  refine isTrue_and (thn (ha pins s σ H Q I h) fun c s1 e => ?_)
  cases c with
  | true => exact isTrue_and_nil e
  | false => exact e
theorem pw_or1 (ha : PT X a tA) : PW X (.BoolOp .Or [a] pos) tA := by
  constructor; intro wh pins s σ H Q I h
  refine isTrue_or (thn (ha pins s σ H Q I h) fun c s1 e => ?_)
  cases c with
  | false => exact isTrue_or_nil e
  | true => exact e
theorem pw_and (ha : PT X a tA) (hb : PW X (.BoolOp .And (b :: rest) pos) tB') : PW X (.BoolOp .And (a :: b :: rest) pos) (tAnd tA tB') := by
  constructor; intro wh pins s σ H Q I h
  refine isTrue_and (thn (ha pins s σ H _ I h) fun c s1 ⟨H1, I1, q1⟩ => ?_)
  cases c with
  | true => exact hb wh pins s1 σ H1 Q I1 q1
  | false => exact ⟨H1, I1, q1⟩
theorem pw_or (ha : PT X a tA) (hb : PW X (.BoolOp .Or (b :: rest) pos) tB') : PW X (.BoolOp .Or (a :: b :: rest) pos) (tOr tA tB') := by
  constructor; intro wh pins s σ H Q I h
  refine isTrue_or (thn (ha pins s σ H _ I h) fun c s1 ⟨H1, I1, q1⟩ => ?_)
  cases c with
  | true => exact ⟨H1, I1, q1⟩
  | false => exact hb wh pins s1 σ H1 Q I1 q1
theorem pt_not (ha : PT X a tA) : PT X (.UnaryOp .Not a pos) (tNot tA) := by
  constructor; intro pins s σ H Q I h
  exact isTrue_not (ha pins s σ H (fun c H1 => Q (!c) H1) I h)
/-- .. as values (bools) -/
def tAndV (ta tb : TE) : TE := fun σ H Q => ta σ H fun x H1 => ∃ c, x = .bl c ∧ if c = true then tb σ H1 Q else Q (.bl false) H1
def tNotV (ta : TE) : TE := fun σ H Q => ta σ H fun x H1 => ∃ c, x = .bl c ∧ Q (.bl (!c)) H1
theorem pe_one {op} {t : TE} (h : PE X a t) : PE X (.BoolOp op [a] pos) t := ⟨fun pins s σ H Q I hw => BoolOp_one (h pins s σ H Q I hw)⟩
theorem pe_and (ha : PE X a ta) (hb : PE X (.BoolOp .And (b :: rest) pos) tb) : PE X (.BoolOp .And (a :: b :: rest) pos) (tAndV ta tb) := by
  constructor; intro pins s σ H Q I h
  refine BoolOp_and (thn (ha pins s σ H _ I h) fun v s1 ⟨x, H1, I1, r1, q1⟩ => ?_)
  obtain ⟨c, rfl, q1⟩ := q1
  cases r1
  refine wpAny_truthy_bool ?_
  cases c with
  | true => exact hb pins s1 σ H1 Q I1 q1
  | false => exact ⟨.bl false, H1, I1, rfl, q1⟩
theorem pe_not (ha : PE X a ta) : PE X (.UnaryOp .Not a pos) (tNotV ta) := by
  constructor; intro pins s σ H Q I h
  refine UnaryOp_ (thn (ha pins s σ H _ I h) fun v s1 ⟨x, H1, I1, r1, q1⟩ => ?_)
  obtain ⟨c, rfl, q1⟩ := q1
  cases r1
  exact not_of (wpAny_truthy_bool ⟨.bl (!c), H1, I1, rfl, q1⟩)
/-- a if t else b -/
def tIf (t : TT) (ta tb : TE) : TE := fun σ H Q => t σ H fun c H1 => if c = true then ta σ H1 Q else tb σ H1 Q
theorem pe_ifExp {c : Expr} (hc : PT X c tA) (ha : PE X a ta) (hb : PE X b tb) : PE X (.IfExp c a b pos) (tIf tA ta tb) := by
  constructor; intro pins s σ H Q I h
  refine wpAny_IfExp (thn (hc pins s σ H _ I h) fun d s1 ⟨H1, I1, q1⟩ => ?_)
  cases d with
  | true => exact ha pins s1 σ H1 Q I1 q1
  | false => exact hb pins s1 σ H1 Q I1 q1
end
end L2

namespace L2
open PySem PySem.Spec PyProof.Rows

/-! ### a list, a tuple that is read: tracked, frozen, or an object of the module -/
def SqL (K : PySem.W.Frag) (H : Hp) (a : Addr) (xs : List V) : Prop :=
  Rd H a (.lst xs) ∨
    ∃ (o : Obj) (its : Array Value) (n : Nat), K.lookup a = some o ∧ o.cls = .type "list" ∧ o.dict = none ∧ o.data = .seq its n ∧ its.size ≤ sizeLine ∧ Vals xs its.toList
def SqT (K : PySem.W.Frag) (H : Hp) (a : Addr) (xs : List V) : Prop :=
  Rd H a (.tup xs) ∨
    ∃ (o : Obj) (its : Array Value) (n : Nat), K.lookup a = some o ∧ o.cls = .type "tuple" ∧ o.data = .seq its n ∧ its.size ≤ sizeLine ∧ Vals xs its.toList
def absV : Value → Option V
  | .none => some .non
  | .bool b => some (.bl b)
  | .int i _ => some (.int i)
  | .str x _ => some (.str x)
  | .bytes b _ => some (.byt b)
  | .float b _ => some (.flt b)
  | .ref a => some (.ref a)
  | .type n => some (.ty n)
  | _ => none
theorem RelV.abs {x : V} {u : Value} (r : RelV x u) : absV u = some x := by
  cases x with
  | non => cases r; rfl
  | bl _ => cases r; rfl
  | int _ => obtain ⟨t, rfl⟩ := r; rfl
  | str _ => obtain ⟨t, rfl⟩ := r; rfl
  | byt _ => obtain ⟨t, rfl⟩ := r; rfl
  | flt _ => obtain ⟨t, rfl⟩ := r; rfl
  | ref _ => cases r; rfl
  | ty _ => cases r; rfl
theorem RelV.inj {x y : V} {u : Value} (r : RelV x u) (q : RelV y u) : x = y := Option.some.inj (r.abs.symm.trans q.abs)
theorem Vals.inj : ∀ {xs ys : List V} {us : List Value}, Vals xs us → Vals ys us → xs = ys
  | _, _, _, .nil, .nil => rfl
  | _, _, _, .cons r t, .cons r' t' => by rw [r.inj r', Vals.inj t t']
section
variable {X : Cx} {pins : List (Addr × Obj)} {σ : St} {H : Hp} {s : Shared} {a : Addr} {xs ys : List V}
theorem SqL.of {K : PySem.W.Frag} (h : H a = some (.lst xs)) : SqL K H a xs := .inl (.inl h)
theorem SqT.of {K : PySem.W.Frag} (h : H a = some (.tup xs)) : SqT K H a xs := .inl (.inl h)
theorem Inv.list (I : Inv X pins σ H s) (h : SqL X.K H a xs) : ∃ its : List Value, Vals xs its ∧ PlainL s.heap a its.toArray ∧ xs.length ≤ sizeLine := by
  rcases h with h | ⟨o, its, n, hk, hc, hd, hs, hz, r⟩
  · obtain ⟨z, its, n, r, e⟩ := h.ok I.hok
    exact ⟨its, r, ⟨_, n, e, rfl, rfl, rfl⟩, z⟩
  · refine ⟨its.toList, r, ⟨o, n, I.kIn a o hk, hc, hd, by simpa using hs⟩, ?_⟩
    have e := r.length
    simp only [Array.length_toList] at e
    omega
theorem Inv.tuple (I : Inv X pins σ H s) (h : SqT X.K H a xs) : ∃ its : List Value, Vals xs its ∧ IsTup s.heap a its.toArray ∧ xs.length ≤ sizeLine := by
  rcases h with h | ⟨o, its, n, hk, hc, hs, hz, r⟩
  · obtain ⟨z, its, r, p⟩ := h.ok I.hok
    exact ⟨its, r, p, z⟩
  · refine ⟨its.toList, r, ⟨o, I.kIn a o hk, hc, n, by simpa using hs⟩, ?_⟩
    have e := r.length
    simp only [Array.length_toList] at e
    omega
theorem Inv.list_inj (I : Inv X pins σ H s) (h : SqL X.K H a xs) (h' : SqL X.K H a ys) : xs = ys := by
  obtain ⟨its, r, ⟨o, n, e, _, _, d⟩, _⟩ := I.list h
  obtain ⟨its', r', ⟨o', n', e', _, _, d'⟩, _⟩ := I.list h'
  rw [e] at e'; cases e'
  rw [d] at d'
  injection d' with d1 _
  have : its = its' := by simpa using congrArg Array.toList d1
  subst this
  exact r.inj r'
theorem Inv.tuple_inj (I : Inv X pins σ H s) (h : SqT X.K H a xs) (h' : SqT X.K H a ys) : xs = ys := by
  obtain ⟨its, r, ⟨o, e, _, n, d⟩, _⟩ := I.tuple h
  obtain ⟨its', r', ⟨o', e', _, n', d'⟩, _⟩ := I.tuple h'
  rw [e] at e'; cases e'
  rw [d] at d'
  injection d' with d1 _
  have : its = its' := by simpa using congrArg Array.toList d1
  subst this
  exact r.inj r'
end

/-! ### another wish about exceptions -/
abbrev Cx.wish (X : Cx) (E : Value → Shared → Prop) : Cx := { X with xe := E }
/-- no exception leaves -/
abbrev Cx.nox (X : Cx) : Cx := X.wish fun _ _ => False
theorem Cx.Ok.wish {X : Cx} (ok : X.Ok) (E : Value → Shared → Prop) : (X.wish E).Ok :=
  ⟨ok.mod, ok.kind, ok.glob, ok.blt, ok.above, ok.inj, ok.has, ok.cab, ok.hd, ok.frames, ok.stk, ok.exf, ok.bs, ok.bsz, ok.noex, ok.exfs, ok.funs, ok.frf⟩
theorem Cx.Ok.unwish {X : Cx} {E : Value → Shared → Prop} (ok : (X.wish E).Ok) : X.Ok :=
  ⟨ok.mod, ok.kind, ok.glob, ok.blt, ok.above, ok.inj, ok.has, ok.cab, ok.hd, ok.frames, ok.stk, ok.exf, ok.bs, ok.bsz, ok.noex, ok.exfs, ok.funs, ok.frf⟩
section
variable {X : Cx} {pins : List (Addr × Obj)} {σ : St} {H : Hp} {s : Shared} {E : Value → Shared → Prop}
theorem Inv.wish (I : Inv X pins σ H s) (E : Value → Shared → Prop) : Inv (X.wish E) pins σ H s := ⟨I.ok.wish E, I.os, I.bare, I.base, I.loc, I.cell, I.free, I.freeC, I.pin, I.hok, I.len⟩
theorem Inv.unwish (I : Inv (X.wish E) pins σ H s) : Inv X pins σ H s := ⟨I.ok.unwish, I.os, I.bare, I.base, I.loc, I.cell, I.free, I.freeC, I.pin, I.hok, I.len⟩
theorem SP.unwish {D : Ends} {f : Flow} {s' : Shared} (h : SP (X.wish E) pins D f s') : SP X pins D f s' := by
  cases f with
  | next => obtain ⟨σ', H', I, q⟩ := h; exact ⟨σ', H', I.unwish, q⟩
  | brk => obtain ⟨σ', H', I, q⟩ := h; exact ⟨σ', H', I.unwish, q⟩
  | cont => obtain ⟨σ', H', I, q⟩ := h; exact ⟨σ', H', I.unwish, q⟩
  | ret u => obtain ⟨v, σ', H', I, r, q⟩ := h; exact ⟨v, σ', H', I.unwish, r, q⟩
theorem PSs.nox {st : List Stmt} {t : TS} (h : PSs X.nox st t) : PSs X st t := ⟨fun pins s σ H D I hw =>
  wpAny_mono (h pins s σ H D (I.wish _) hw) (fun _ _ q => q.unwish) fun _ _ z => False.elim z⟩
end

/-! ### blocks and small statements -/
section
variable {X : Cx} {st : Stmt} {rest : List Stmt} {t u : TS} {e : Expr} {te : TE} {pos : Pos}
def tNext : TS := fun D σ H => D.nx σ H
def tSeq (t u : TS) : TS := fun D σ H => t { D with nx := u D } σ H
theorem pss_nil : PSs X [] tNext := ⟨fun _ _ σ H _ I h => wpAny_execs_nil ⟨σ, H, I, h⟩⟩
theorem pss_cons (h1 : PS X st t) (h2 : PSs X rest u) : PSs X (st :: rest) (tSeq t u) := by
  constructor; intro pins s σ H D I h
  refine wpAny_execs_cons (thn (h1 pins s σ H { D with nx := u D } I h) fun f s1 q => ?_)
  cases f with
  | next =>
    obtain ⟨σ', H', I', q⟩ := q
    exact h2 pins s1 σ' H' D I' q
  | ret v => exact q
  | brk => exact q
  | cont => exact q
theorem pss_one (h1 : PS X st t) : PSs X [st] t := by
  constructor; intro pins s σ H D I h
  refine wpAny_execs_cons (thn (h1 pins s σ H D I h) fun f s1 q => ?_)
  cases f with
  | next => exact wpAny_execs_nil q
  | ret v => exact q
  | brk => exact q
  | cont => exact q
/-- in a def's body nothing is shown -/
theorem Inv.quiet {pins : List (Addr × Obj)} {σ : St} {H : Hp} {s : Shared} (I : Inv X pins σ H s) : interactive X.env = false := by simp [interactive, I.ok.kind]
/-- an expression whose value is dropped -/
def tDrop (te : TE) : TS := fun D σ H => te σ H fun _ H1 => D.nx σ H1
theorem ps_expr (he : PE X e te) (hs : swapsWith e none pos.line X.env = pure false := by rfl) : PS X (.Expr e pos) (tDrop te) := by
  constructor; intro pins s σ H D I h
  exact wpAny_Expr_any (thn (he pins s σ H _ I h) fun v s1 ⟨x, H1, I1, r1, q1⟩ => ⟨σ, H1, I1, q1⟩) I.quiet hs
def tRet (te : TE) : TS := fun D σ H => te σ H D.rt
theorem ps_ret (he : PE X e te) : PS X (.Return (some e) pos) (tRet te) := by
  constructor; intro pins s σ H D I h
  exact wpAny_Return_some (thn (he pins s σ H _ I h) fun v s1 ⟨x, H1, I1, r1, q1⟩ => ⟨x, σ, H1, I1, r1, q1⟩)
def tIfS (c : TT) (t u : TS) : TS := fun D σ H => c σ H fun b H1 => if b = true then t D σ H1 else u D σ H1
theorem ps_if {c : Expr} {a b : List Stmt} {tc : TT} (hc : PT X c tc) (ha : PSs X a t) (hb : PSs X b u) : PS X (.If c a b pos) (tIfS tc t u) := by
  constructor; intro pins s σ H D I h
  refine wpAny_If (thn (hc pins s σ H _ I h) fun d s1 ⟨H1, I1, q1⟩ => ?_)
  cases d with
  | true => exact ha pins s1 σ H1 D I1 q1
  | false => exact hb pins s1 σ H1 D I1 q1
end

/-! ### targets -/
abbrev TG := V → St → Hp → (St → Hp → Prop) → Prop
abbrev TGs := List V → St → Hp → (St → Hp → Prop) → Prop
structure PG (X : Cx) (target : Expr) (t : TG) : Prop where
  run : ∀ (pins : List (Addr × Obj)) (s : Shared) (σ : St) (H : Hp) (v : V) (u : Value) (Q : St → Hp → Prop), Inv X pins σ H s → RelV v u → t v σ H Q →
    wpAny (model X.prog X.w) X.A (assign target X.env u) (fun _ s' => ∃ σ' H', Inv X pins σ' H' s' ∧ Q σ' H') X.xe s
instance {X : Cx} {target : Expr} {t : TG} : CoeFun (PG X target t) fun _ => ∀ (pins : List (Addr × Obj)) (s : Shared) (σ : St) (H : Hp) (v : V) (u : Value) (Q : St → Hp → Prop), Inv X pins σ H s → RelV v u → t v σ H Q →
    wpAny (model X.prog X.w) X.A (assign target X.env u) (fun _ s' => ∃ σ' H', Inv X pins σ' H' s' ∧ Q σ' H') X.xe s := ⟨PG.run⟩
/-- several targets, one after another -/
structure PGs (X : Cx) (ts : List Expr) (t : TGs) : Prop where
  run : ∀ (pins : List (Addr × Obj)) (s : Shared) (σ : St) (H : Hp) (vs : List V) (us : List Value) (Q : St → Hp → Prop), Inv X pins σ H s → Vals vs us → t vs σ H Q →
    wpAny (model X.prog X.w) X.A (assignInOrder ((assignEach ts X.env).map (·.2)) us) (fun _ s' => ∃ σ' H', Inv X pins σ' H' s' ∧ Q σ' H') X.xe s
instance {X : Cx} {ts : List Expr} {t : TGs} : CoeFun (PGs X ts t) fun _ => ∀ (pins : List (Addr × Obj)) (s : Shared) (σ : St) (H : Hp) (vs : List V) (us : List Value) (Q : St → Hp → Prop), Inv X pins σ H s → Vals vs us → t vs σ H Q →
    wpAny (model X.prog X.w) X.A (assignInOrder ((assignEach ts X.env).map (·.2)) us) (fun _ s' => ∃ σ' H', Inv X pins σ' H' s' ∧ Q σ' H') X.xe s := ⟨PGs.run⟩
section
variable {X : Cx} {pos : Pos}
def gName (i : Nat) : TG := fun v σ H Q => Q (σ.set i (some v)) H
theorem pg_name {i : Nat} {x : Str} (hN : X.N.Nodup) (hi : X.N[i]? = some x) (hx : Loc X.env.scope x) (hf : X.fn x = true ∨ X.env.scope.names.lookup x = some .local := by first | exact .inl rfl | exact .inr rfl | assumption) : PG X (.Name x pos) (gName i) := by
  constructor; intro pins s σ H v u Q I r h
  exact wpAny_assign_Name (store_ok I hN hi hx r (fun s' I' => ⟨_, H, I', h⟩) hf)
def gNil : TGs := fun vs σ H Q => vs = [] ∧ Q σ H
def gCons (t : TG) (u : TGs) : TGs := fun vs σ H Q => ∃ v r, vs = v :: r ∧ t v σ H fun σ' H' => u r σ' H' Q
theorem pgs_nil : PGs X [] gNil := by
  constructor; intro pins s σ H vs us Q I r h
  obtain ⟨e, h⟩ := h
  subst e
  cases r
  exact assignInOrder_nil ⟨σ, H, I, h⟩
theorem pgs_cons {e : Expr} {es : List Expr} {t : TG} {u : TGs} (h1 : PG X e t) (h2 : PGs X es u)
    (hs : (assignEach (e :: es) X.env).map (·.2) = assign e X.env :: (assignEach es X.env).map (·.2) := by rfl) : PGs X (e :: es) (gCons t u) := by
  constructor; intro pins s σ H vs us Q I r h
  obtain ⟨v, vr, e1, h⟩ := h
  subst e1
  cases r with
  | cons r rr =>
    rw [hs]
    refine assignInOrder_cons (thn (h1 pins s σ H _ _ _ I r h) fun _ s1 ⟨σ1, H1, I1, q1⟩ => ?_)
    exact h2 pins s1 σ1 H1 _ _ Q I1 rr q1
/-- (a, b, ..) = a tuple of that length -/
def gTup (K : PySem.W.Frag) (n : Nat) (t : TGs) : TG := fun v σ H Q => ∃ a xs, v = .ref a ∧ SqT K H a xs ∧ xs.length = n ∧ t xs σ H Q
theorem pg_tup {es : List Expr} {k : Nat} {t : TGs} {n : Nat} (hc : X.calm = true) (h : PGs X es t)
    (hn : (assignEach es X.env).length = n := by rfl) (hst : (assignEach es X.env).findIdx? (·.1) = none := by rfl) : PG X (.Tuple es k pos) (gTup X.K n t) := by
  constructor; intro pins s σ H v u Q I r hw
  obtain ⟨a, xs, e1, hq, hl, hw⟩ := hw
  subst e1
  cases r
  obtain ⟨its, rv, ht, hz⟩ := I.tuple hq
  refine assign_Tuple_tuple (I.ok.hd hc) ht (by simp [hn, ← hl, rv.length]) hst fun h' hx => ?_
  have I1 : Inv X pins σ H { s with heap := h' } := I.kept (t' := s.toks) fun b o e => hx b o (Nat.ne_of_lt (Heap.lt_size e)) e
  exact h pins _ σ H xs _ Q I1 (by simpa using rv) hw
/-- target = value -/
def tAsg (te : TE) (g : TG) : TS := fun D σ H => te σ H fun x H1 => g x σ H1 D.nx
/-- name = value -/
theorem ps_set {i : Nat} {x : Str} {e : Expr} {te : TE} {pos' : Pos} (hN : X.N.Nodup) (hi : X.N[i]? = some x) (hx : Loc X.env.scope x) (he : PE X e te) (hs : swapsWith e (some (.Name x pos')) pos.line X.env = pure false := by rfl) (hf : X.fn x = true ∨ X.env.scope.names.lookup x = some .local := by first | exact .inl rfl | exact .inr rfl | assumption) :
    PS X (.Assign [.Name x pos'] e pos) (tAsg te (gName i)) := by
  constructor; intro pins s σ H D I h
  refine wpAny_Assign_Name (thn (he pins s σ H _ I h) fun v s1 ⟨y, H1, I1, r1, q1⟩ => ?_) hs
  exact store_ok I1 hN hi hx r1 (fun s2 I2 => ⟨_, H1, I2, q1⟩) hf
end

/-! ### while -/
section
variable {X : Cx} {pos : Pos}
end

/-! ### what a loop or a comprehension walks -/
/-- at turn i: it yields x (the heap may grow), or it stops -/
structure It where
  go : Nat → Hp → Prop
  yld : Nat → Hp → V → Hp → Prop
  stop : Nat → Hp → Prop
/-- the iterator's own objects may turn: they are not the frame's, not pinned, younger than the entry (or a comprehension's own) -/
def FpOk (X : Cx) (pins : List (Addr × Obj)) (H : Hp) (b : Addr) : Prop :=
  H b = none ∧ b ≠ X.env.locals ∧ b ∉ X.fs ∧ (b ∈ X.ex ∨ X.s₀.heap.objs.size ≤ b) ∧ (∀ x c, X.env.cells.lookup x = some c → c ≠ b) ∧ ∀ p ∈ X.pn ++ pins, p.1 ≠ b
theorem Inv.fpOk {X : Cx} {pins : List (Addr × Obj)} {σ : St} {H H' : Hp} {s : Shared} {b : Addr} (I : Inv X pins σ H s) (hb : s.heap.objs.size ≤ b) (hn : H' b = none) : FpOk X pins H' b := by
  refine ⟨hn, Nat.ne_of_gt (Nat.lt_of_lt_of_le I.lt hb), I.nofs hb, .inr (Nat.le_trans I.sz hb), fun x c e z => ?_, fun p hp z => ?_⟩
  · obtain ⟨v, q⟩ := I.cell x c e
    exact absurd (Nat.lt_of_lt_of_le q.lt (by rw [z]; exact hb)) (Nat.lt_irrefl _)
  · exact absurd (Nat.lt_of_lt_of_le (Heap.lt_size (I.pin p hp).1) (by rw [z]; exact hb)) (Nat.lt_irrefl _)
structure Turn (P : Program) (w : World) (K : PySem.W.Frag) (tg : Expr) (J : It) (fp : List Addr) (it : Addr) (tn : Nat → Heap → Prop) : Prop where
  mem : it ∈ fp
  obj : ∀ i h, tn i h → ∀ b ∈ fp, ∃ o, h.get? b = some o ∧ ∀ v, o.data ≠ .cell v
  keep : ∀ i h h', tn i h → (∀ b ∈ fp, ∀ o, h.get? b = some o → h'.get? b = some o) → tn i h'
  item : ∀ (X : Cx), X.prog = P → X.w = w → X.K = K → X.calm = true → ∀ (i : Nat) (pins : List (Addr × Obj)) (s : Shared) (σ : St) (H : Hp) (E : Value → Shared → Prop), Inv X pins σ H s → (∀ b ∈ fp, FpOk X pins H b) → tn i s.heap → J.go i H →
    wpAny (model P w) X.A (pyNext (.ref it)) (fun r s1 => ∃ u, r = some u ∧
      wpAny (model P w) X.A (letOwnedTupleGo tg (.ref it) u) (fun _ s2 => ∃ x H', Inv X pins σ H' s2 ∧ RelV x u ∧ J.yld i H x H' ∧ tn (i + 1) s2.heap ∧ ∀ b ∈ fp, H' b = none) E s1) E s
  done : ∀ (X : Cx), X.prog = P → X.w = w → X.K = K → X.calm = true → ∀ (i : Nat) (pins : List (Addr × Obj)) (s : Shared) (σ : St) (H : Hp) (E : Value → Shared → Prop), Inv X pins σ H s → (∀ b ∈ fp, FpOk X pins H b) → tn i s.heap → J.stop i H →
    wpAny (model P w) X.A (pyNext (.ref it)) (fun r s1 => r = none ∧ Inv X pins σ H s1) E s
  self : ∀ (A : Around) (i : Nat) (s : Shared) (Q : Value → Shared → Prop) (E : Value → Shared → Prop), tn i s.heap → Q (.ref it) s → wpAny (model P w) A (pyIter (.ref it)) Q E s
abbrev TI := St → Hp → (It → Hp → Prop) → Prop
/-- an iterator has come -/
def PIE (X : Cx) (pins : List (Addr × Obj)) (σ : St) (tg : Expr) (R : It → Hp → Prop) (itv : Value) (s2 : Shared) : Prop :=
  ∃ (it : Addr) (fp : List Addr) (tn : Nat → Heap → Prop) (J : It) (H' : Hp), itv = .ref it ∧ Inv X pins σ H' s2 ∧ Turn X.prog X.w X.K tg J fp it tn ∧ tn 0 s2.heap ∧ (∀ b ∈ fp, FpOk X pins H' b) ∧ R J H'
structure PI (X : Cx) (tg iter : Expr) (wi : TI) : Prop where
  run : ∀ (pins : List (Addr × Obj)) (s : Shared) (σ : St) (H : Hp) (R : It → Hp → Prop), Inv X pins σ H s → wi σ H R →
    wpAny (model X.prog X.w) X.A (eval iter X.env) (fun v s1 => wpAny (model X.prog X.w) X.A (pyIter v) (PIE X pins σ tg R) X.xe s1) X.xe s
instance {X : Cx} {tg iter : Expr} {wi : TI} : CoeFun (PI X tg iter wi) fun _ => ∀ (pins : List (Addr × Obj)) (s : Shared) (σ : St) (H : Hp) (R : It → Hp → Prop), Inv X pins σ H s → wi σ H R →
    wpAny (model X.prog X.w) X.A (eval iter X.env) (fun v s1 => wpAny (model X.prog X.w) X.A (pyIter v) (PIE X pins σ tg R) X.xe s1) X.xe s := ⟨PI.run⟩

/-- the step ahead of the store is nothing for an iterator that keeps no tuple -/
theorem go_of {M : Model} {A : Around} {E : Value → Shared → Prop} {s : Shared} {tg : Expr} {it : Addr} {u : Value} {o : Obj} {n : String} {vs : Array Value} {Q : Unit → Shared → Prop} (ho : s.heap.get? it = some o) (hc : o.cls = .type n) (hd : o.data = .fields vs)
    (hn : ["enumerate", "zip", "dict_itemiterator", "dict_reverseitemiterator", "odict_iterator", "itertools.zip_longest", "itertools.pairwise"].contains n = false) (hQ : Q () s) : wpAny M A (letOwnedTupleGo tg (.ref it) u) Q E s := by
  unfold letOwnedTupleGo
  cases tg <;> first
    | exact wpAny_pure hQ
    | (cases u <;> first
        | exact wpAny_pure hQ
        | (refine wpAny_bind (wpAny_load ho ?_)
           rw [hc, hd]
           show wpAny M A (if (["enumerate", "zip", "dict_itemiterator", "dict_reverseitemiterator", "odict_iterator", "itertools.zip_longest", "itertools.pairwise"].contains n && vs[0]? == some (rawInt _)) = true then _ else _) Q E s
           rw [if_neg (by intro h; rw [hn, Bool.false_and] at h; cases h)]
           exact wpAny_pure hQ))

/-- the list at a, as it stands at each turn (a loop may append to it) -/
def Itl (K : PySem.W.Frag) (a : Addr) : It :=
  ⟨fun i H => ∃ xs x, SqL K H a xs ∧ xs[i]? = some x, fun i H x H' => H' = H ∧ ∀ xs, SqL K H a xs → xs[i]? = some x, fun i H => ∃ xs, SqL K H a xs ∧ xs.length ≤ i⟩
def Itt (K : PySem.W.Frag) (a : Addr) : It :=
  ⟨fun i H => ∃ xs x, SqT K H a xs ∧ xs[i]? = some x, fun i H x H' => H' = H ∧ ∀ xs, SqT K H a xs → xs[i]? = some x, fun i H => ∃ xs, SqT K H a xs ∧ xs.length ≤ i⟩
/-- lo, lo + 1, .. (n of them) -/
def Itr (lo : Int) (n : Nat) : It := ⟨fun i _ => i < n, fun i H x H' => H' = H ∧ x = .int (lo + i), fun i _ => n ≤ i⟩
theorem turn_list {P : Program} {w : World} {K : PySem.W.Frag} {tg : Expr} (a it : Addr) : Turn P w K tg (Itl K a) [it] it (fun i h => h.IsListIter it a i) where
  mem := by simp
  obj := fun i h st b hb => by
    have e : b = it := by simpa using hb
    subst e
    obtain ⟨o, e, c, d⟩ := st
    exact ⟨o, e, fun v z => by rw [d] at z; cases z⟩
  keep := fun i h h' st k => st.at fun o e => k it (by simp) o e
  item := by
    intro X hP hw hK hc i pins s σ H E I hf st hg
    subst hP hw hK
    obtain ⟨xs, x, hq, hx⟩ := hg
    obtain ⟨its, rv, p, hz⟩ := I.list hq
    obtain ⟨u, hu, ru⟩ := rv.get hx
    obtain ⟨f0, f1, f2, f3, f4, f5⟩ := hf it (by simp)
    refine wpAny_pyNext_list_item st p.isList (x := u) (by simpa using hu) fun h' st' sb => ?_
    have I1 : Inv X pins σ H { s with heap := h' } := I.turned (t' := s.toks) (fun b o hb e => (sb.2 b hb).trans e) f0 f1 f3 f4 f5
    obtain ⟨o, e, c, d⟩ := id st'
    exact ⟨u, rfl, go_of (s := { s with heap := h' }) e c d (by decide) ⟨x, H, I1, ru, ⟨rfl, fun ys hy => by rw [I.list_inj hy hq]; exact hx⟩, st', fun b hb => (hf b hb).1⟩⟩
  done := by
    intro X hP hw hK hc i pins s σ H E I hf st hg
    subst hP hw hK
    obtain ⟨xs, hq, hx⟩ := hg
    obtain ⟨its, rv, p, hz⟩ := I.list hq
    obtain ⟨f0, f1, f2, f3, f4, f5⟩ := hf it (by simp)
    have hl := rv.length
    exact wpAny_pyNext_list_end (I.ok.hd hc) st p.isList (by simp; omega) fun h' eb => ⟨rfl, I.turned (t' := s.toks) (fun b o hb e => eb b o hb e) f0 f1 f3 f4 f5⟩
  self := fun _ _ _ _ _ st h => wpAny_pyIter_listiter st h
theorem turn_range {P : Program} {w : World} {K : PySem.W.Frag} {tg : Expr} (it : Addr) (lo : Int) (n : Nat) : Turn P w K tg (Itr lo n) [it] it (fun i h => IsRangeIter h it (lo + (i : Nat) * 1) ((n : Int) - (i : Nat)) 1) where
  mem := by simp
  obj := fun i h st b hb => by
    have e : b = it := by simpa using hb
    subst e
    exact ⟨_, st, fun v z => by
      have z' : Data.fields _ = Data.cell v := z
      cases z'⟩
  keep := fun i h h' st k => k it (by simp) _ st
  item := by
    intro X hP hw hK hc i pins s σ H E I hf st hg
    subst hP hw hK
    obtain ⟨f0, f1, f2, f3, f4, f5⟩ := hf it (by simp)
    have W := Walks.range (prog := X.prog) (w := X.w) (I.ok.hd hc) it lo 1 n
    refine W.item i s _ _ hg st fun v h' tk hv st' kk => ?_
    obtain ⟨t, rfl⟩ := hv
    have I1 : Inv X pins σ H { s with heap := h', toks := tk } := I.turned (fun b o hb e => kk b o (by simpa using hb) e) f0 f1 f3 f4 f5
    refine ⟨_, rfl, go_of (s := { s with heap := h', toks := tk }) (n := "range_iterator") st' rfl rfl (by decide) ⟨.int (lo + i), H, I1, ⟨t, ?_⟩, ⟨rfl, rfl⟩, st', fun b hb => (hf b hb).1⟩⟩
    rw [Int.mul_one]
  done := by
    intro X hP hw hK hc i pins s σ H E I hf st hg
    subst hP hw hK
    obtain ⟨f0, f1, f2, f3, f4, f5⟩ := hf it (by simp)
    exact wpAny_pyNext_range_end (I.ok.hd hc) st (by have : n ≤ i := hg; omega) fun h' eb => ⟨rfl, I.turned (t' := s.toks) (fun b o hb e => eb b o hb e) f0 f1 f3 f4 f5⟩
  self := fun _ _ _ _ _ st h => wpAny_pyIter_rangeiter st h
end L2

namespace L2
open PySem PySem.Spec PyProof.Rows
section
variable {X : Cx} {tg : Expr}
def iList (K : PySem.W.Frag) (tl : TE) : TI := fun σ H R => tl σ H fun x H1 => ∃ a, x = .ref a ∧ (∃ xs, SqL K H1 a xs) ∧ R (Itl K a) H1
theorem pi_list {l : Expr} {tl : TE} (hl : PE X l tl) : PI X tg l (iList X.K tl) := by
  constructor; intro pins s σ H R I h
  refine thn (hl pins s σ H _ I h) fun v s1 ⟨x, H1, I1, r1, q1⟩ => ?_
  obtain ⟨a, e, ⟨xs, hq⟩, q⟩ := q1
  subst e
  cases r1
  obtain ⟨its, rv, p, hz⟩ := I1.list hq
  refine wpAny_pyIter_list p.isList ?_
  refine ⟨s1.heap.objs.size, [s1.heap.objs.size], _, _, H1, rfl, I1.kept (t' := s1.toks) fun b o e => Heap.get?_push_of_some _ e, turn_list a _, ⟨_, Heap.get?_push_size _ rfl, rfl, rfl⟩, fun b hb => ?_, q⟩
  have e : b = s1.heap.objs.size := by simpa using hb
  subst e
  exact I1.fpOk (Nat.le_refl _) (I1.hok.fresh (Nat.le_refl _))
/-- a range object just made, walked -/
theorem range_it {pins : List (Addr × Obj)} {σ : St} {H : Hp} {s : Shared} {R : It → Hp → Prop} {E : Value → Shared → Prop} {lo hi : Int} {t u v : Tok} {tk : Nat} (I : Inv X pins σ H s) (h1 : -(2 ^ 62) ≤ lo) (h2 : lo < 2 ^ 62) (h3 : -(2 ^ 62) ≤ hi) (h4 : hi < 2 ^ 62)
    (q : R (Itr lo (hi - lo).toNat) H) : wpAny (model X.prog X.w) X.A (pyIter (.ref s.heap.objs.size)) (PIE X pins σ tg R) E { s with heap := s.heap.push { cls := .type "range", data := .fields #[.int lo t, .int hi u, .int 1 v] }, toks := tk } := by
  refine wpAny_pyIter_range (IsRange.new ..) (small_one h1 h2 h3 h4) ?_
  have I1 : Inv X pins σ H { s with heap := s.heap.push { cls := .type "range", data := .fields #[.int lo t, .int hi u, .int 1 v] }, toks := tk } := I.kept fun b o e => Heap.get?_push_of_some _ e
  refine ⟨(s.heap.push { cls := .type "range", data := .fields #[.int lo t, .int hi u, .int 1 v] }).objs.size, [(s.heap.push { cls := .type "range", data := .fields #[.int lo t, .int hi u, .int 1 v] }).objs.size], _, _, H, rfl,
    I1.kept (t' := tk) fun b o e => Heap.get?_push_of_some _ e, turn_range _ lo (hi - lo).toNat, ?_, fun b hb => ?_, q⟩
  · have e1 : lo + ((0 : Nat) : Int) * 1 = lo := by simp
    have e2 : (((hi - lo).toNat : Nat) : Int) - ((0 : Nat) : Int) = Builtin.Range.rangeSize lo hi 1 := by rw [rangeSize_one]; split <;> omega
    show IsRangeIter _ _ (lo + ((0 : Nat) : Int) * 1) ((((hi - lo).toNat : Nat) : Int) - ((0 : Nat) : Int)) 1
    rw [e1, e2]
    exact Heap.get?_push_size _ rfl
  · have e : b = (s.heap.push { cls := .type "range", data := .fields #[.int lo t, .int hi u, .int 1 v] }).objs.size := by simpa using hb
    subst e
    exact I1.fpOk (Nat.le_refl _) (I1.hok.fresh (Nat.le_refl _))
def iRng1 (ta : TA) : TI := fun σ H R => ta σ H fun vs H1 => ∃ j : Int, vs = [.int j] ∧ -(2 ^ 62) ≤ j ∧ j < 2 ^ 62 ∧ R (Itr 0 j.toNat) H1
theorem pi_range1 {a : Expr} {ta : TA} {p pos : Pos} (hg : Gl X "range") (hm : X.mg "range" = none) (ha : PA X [a] ta) (hs : starEach [a] X.env = [(false, eval a X.env)] := by rfl) : PI X tg (.Call (.Name "range" p) [a] [] pos) (iRng1 ta) := by
  constructor; intro pins s σ H R I h
  refine Call_ (ld_blt I hg hm boot_range (PyProof.Rows.callWith_type1 (thn (ha pos pins s σ H _ I h) fun us s1 ⟨vs, H1, I1, r1, q1⟩ => ?_) hs rfl))
  obtain ⟨j, e, q1, q2, q⟩ := q1
  subst e
  cases r1 with
  | cons r rr =>
    cases rr
    obtain ⟨t, rfl⟩ := r
    exact call_range_1 (range_it I1 (by omega) (by omega) q1 q2 (by simpa using q))
/-! ### for -/
/-- W: the invariant by the turn and a measure; N: what the body is to reach -/
def tFor (wi : TI) (g : TG) (tb : TS) : TS := fun D σ H => wi σ H fun J H1 => ∃ W : Nat → Nat → St → Hp → Prop, (∃ m, W 0 m σ H1) ∧ ∀ i m σ H, W i m σ H →
  (J.stop i H ∧ D.nx σ H) ∨ (J.go i H ∧ ∃ N : St → Hp → Prop, (∀ σ' H', N σ' H' → ∃ m', m' < m ∧ W (i + 1) m' σ' H') ∧ ∀ x H', J.yld i H x H' → g x σ H' fun σ2 H2 => tb { D with nx := N, ct := N, bk := D.nx } σ2 H2)
/-- the records at fp as they stand -/
def pinsAt (fp : List Addr) (h : Heap) : List (Addr × Obj) := fp.filterMap fun b => (h.get? b).map fun o => (b, o)
theorem mem_pinsAt {fp : List Addr} {h : Heap} {b : Addr} {o : Obj} (hb : b ∈ fp) (e : h.get? b = some o) : (b, o) ∈ pinsAt fp h := List.mem_filterMap.mpr ⟨b, hb, by rw [e]; rfl⟩
theorem of_pinsAt {fp : List Addr} {h : Heap} {p : Addr × Obj} (hp : p ∈ pinsAt fp h) : p.1 ∈ fp ∧ h.get? p.1 = some p.2 := by
  obtain ⟨b, hb, e⟩ := List.mem_filterMap.mp hp
  cases q : h.get? b with
  | none => rw [q] at e; cases e
  | some o =>
    rw [q] at e
    have e' : (b, o) = p := Option.some.inj e
    subst e'
    exact ⟨hb, q⟩
theorem Inv.pinned {pins : List (Addr × Obj)} {σ : St} {H : Hp} {s : Shared} {fp : List Addr} (I : Inv X pins σ H s) (hf : ∀ b ∈ fp, FpOk X pins H b) (ho : ∀ b ∈ fp, ∃ o, s.heap.get? b = some o ∧ ∀ v, o.data ≠ .cell v) : Inv X (pins ++ pinsAt fp s.heap) σ H s :=
  I.pins_of fun p hp => (List.mem_append.mp hp).elim (fun z => I.pin p (List.mem_append_right _ z)) fun z => by
    obtain ⟨hb, e⟩ := of_pinsAt z
    obtain ⟨f0, f1, f2, _⟩ := hf p.1 hb
    obtain ⟨o, e', d⟩ := ho p.1 hb
    rw [e] at e'; cases e'
    exact ⟨e, f0, f1, f2, d⟩
theorem Inv.unpinned {pins pl : List (Addr × Obj)} {σ : St} {H : Hp} {s : Shared} (I : Inv X (pins ++ pl) σ H s) : Inv X pins σ H s := I.pins_of fun p hp => I.pin p (List.mem_append_right _ (List.mem_append_left _ hp))
theorem ps_for {iter : Expr} {body : List Stmt} {wi : TI} {g : TG} {tb : TS} {pos : Pos} (hp : PassesOwn (model X.prog X.w) X.A X.env X.xe) (hc : X.calm = true) (hi : PI X tg iter wi) (hg : PG X tg g) (hb : PSs X body tb)
    (hs : ∀ x, foldedSetIterable iter X.env x = pure x := by intro _; rfl) : PS X (.For tg iter body [] pos) (tFor wi g tb) := by
  constructor; intro pins s σ H D I h
  refine wpAny_For (thn (hi pins s σ H _ I h) fun v s1 h1 => thn h1 fun itv s2 h2 => ?_) hs
  obtain ⟨it, fp, tn, J, H2, e, I2, T, st2, f2, W, ⟨m0, w0⟩, turn⟩ := h2
  subst e
  -- what stays true of the iterator's objects through the loop
  have stat : ∀ {H' : Hp}, (∀ b ∈ fp, H' b = none) → ∀ b ∈ fp, FpOk X pins H' b := fun hn b hb => ⟨hn b hb, (f2 b hb).2⟩
  refine codeAny_forLoop_any (fun n s' => ∃ i σ' H', Inv X pins σ' H' s' ∧ tn i s'.heap ∧ (∀ b ∈ fp, H' b = none) ∧ W i n σ' H') ?_ m0 ⟨0, σ, H2, I2, st2, fun b hb => (f2 b hb).1, w0⟩
  rintro n s3 ⟨i, σ3, H3, I3, st3, fr3, w3⟩
  rcases turn i n σ3 H3 w3 with ⟨stop, qn⟩ | ⟨go, N, hN, step⟩
  · refine wpAny_passesOwn hp (thn (T.done X rfl rfl rfl hc i pins s3 σ3 H3 X.xe I3 (stat fr3) st3 stop) fun r s4 ⟨hr, I4⟩ => ?_)
    subst hr
    exact wpAny_execs_nil ⟨σ3, H3, I4, qn⟩
  · refine wpAny_passesOwn hp (thn (T.item X rfl rfl rfl hc i pins s3 σ3 H3 X.xe I3 (stat fr3) st3 go) fun r s4 ⟨u, hr, h4⟩ => ?_)
    subst hr
    refine wpAny_passesOwn hp (thn h4 fun _ s5 ⟨x, H5, I5, r5, y5, st5, fr5⟩ => ?_)
    have I5' := I5.pinned (stat fr5) (T.obj _ _ st5)
    refine wpAny_passesOwn hp (thn (hg _ s5 σ3 H5 x u _ I5' r5 (step x H5 y5)) fun _ s6 ⟨σ6, H6, I6, q6⟩ => ?_)
    refine wpAny_passesOwn hp (thn (hb _ s6 σ6 H6 _ I6 q6) fun f s7 q7 => ?_)
    have again : ∀ {σ7 : St} {H7 : Hp}, Inv X (pins ++ pinsAt fp s5.heap) σ7 H7 s7 → N σ7 H7 → ∃ m, m < n ∧ ∃ i σ' H', Inv X pins σ' H' s7 ∧ tn i s7.heap ∧ (∀ b ∈ fp, H' b = none) ∧ W i m σ' H' := fun {σ7 H7} I7 n7 => by
      obtain ⟨m', hm, w7⟩ := hN σ7 H7 n7
      refine ⟨m', hm, i + 1, σ7, H7, I7.unpinned, T.keep _ _ _ st5 fun b hb o e => (I7.pin (b, o) (List.mem_append_right _ (List.mem_append_right _ (mem_pinsAt hb e)))).1, fun b hb => ?_, w7⟩
      obtain ⟨o, e, d⟩ := T.obj _ _ st5 b hb
      exact (I7.pin (b, o) (List.mem_append_right _ (List.mem_append_right _ (mem_pinsAt hb e)))).2.1
    cases f with
    | next => obtain ⟨σ7, H7, I7, n7⟩ := q7; exact again I7 n7
    | cont => obtain ⟨σ7, H7, I7, n7⟩ := q7; exact again I7 n7
    | brk => obtain ⟨σ7, H7, I7, q7⟩ := q7; exact ⟨σ7, H7, I7.unpinned, q7⟩
    | ret v => obtain ⟨x7, σ7, H7, I7, r7, q7⟩ := q7; exact ⟨x7, σ7, H7, I7.unpinned, r7, q7⟩
end

/-! ### the forms one uses -/
/-- over a list that the body leaves as it is -/
theorem for_list {K : PySem.W.Frag} {a : Addr} {xs : List V} {g : TG} {tb : TS} {D : Ends} {σ : St} {H : Hp} (Pv : Nat → St → Hp → Prop) (h0 : Pv 0 σ H) (hl : ∀ i σ H, i ≤ xs.length → Pv i σ H → SqL K H a xs)
    (hs : ∀ i x σ H, xs[i]? = some x → Pv i σ H → g x σ H fun σ2 H2 => tb { D with nx := Pv (i + 1), ct := Pv (i + 1), bk := D.nx } σ2 H2) (hd : ∀ σ H, Pv xs.length σ H → D.nx σ H) :
    ∃ W : Nat → Nat → St → Hp → Prop, (∃ m, W 0 m σ H) ∧ ∀ i m σ H, W i m σ H →
      ((Itl K a).stop i H ∧ D.nx σ H) ∨ ((Itl K a).go i H ∧ ∃ N : St → Hp → Prop, (∀ σ' H', N σ' H' → ∃ m', m' < m ∧ W (i + 1) m' σ' H') ∧ ∀ x H', (Itl K a).yld i H x H' → g x σ H' fun σ2 H2 => tb { D with nx := N, ct := N, bk := D.nx } σ2 H2) := by
  refine ⟨fun i m σ H => m = xs.length - i ∧ i ≤ xs.length ∧ Pv i σ H, ⟨xs.length, by simp, Nat.zero_le _, h0⟩, ?_⟩
  rintro i m σ H ⟨rfl, hi, p⟩
  have q := hl i σ H hi p
  by_cases hlt : i < xs.length
  · refine .inr ⟨⟨xs, xs[i], q, by simp [hlt]⟩, Pv (i + 1), fun σ' H' p' => ⟨xs.length - (i + 1), by omega, rfl, hlt, p'⟩, fun x H' y => ?_⟩
    obtain ⟨e, y⟩ := y
    subst e
    exact hs i x σ _ (y xs q) p
  · have e : i = xs.length := by omega
    subst e
    exact .inl ⟨⟨xs, q, Nat.le_refl _⟩, hd σ H p⟩
end L2

namespace L2
open PySem PySem.Spec PyProof.Rows

abbrev R2 := V → V → Hp → VK → Prop
/-- a two-place operation on values: f is binaryOp op, inplaceOp op or compareOp op -/
def OpR (X : Cx) (f : Value → Value → Sem Value) (r : R2) : Prop :=
  ∀ (pins : List (Addr × Obj)) (s : Shared) (σ : St) (H : Hp) (x y : V) (v u : Value) (Q : VK), Inv X pins σ H s → RelV x v → RelV y u → r x y H Q →
    wpAny (model X.prog X.w) X.A (f v u) (EP X pins σ Q) X.xe s
/-- a one-place operation -/
def UnR (X : Cx) (f : Value → Sem Value) (r : V → Hp → VK → Prop) : Prop :=
  ∀ (pins : List (Addr × Obj)) (s : Shared) (σ : St) (H : Hp) (x : V) (v : Value) (Q : VK), Inv X pins σ H s → RelV x v → r x H Q →
    wpAny (model X.prog X.w) X.A (f v) (EP X pins σ Q) X.xe s
/-- a call of a value that is known (a builtin, a type) with values -/
def CallR (X : Cx) (f : Value) (r : List V → Hp → VK → Prop) : Prop :=
  ∀ (pins : List (Addr × Obj)) (s : Shared) (σ : St) (H : Hp) (xs : List V) (us : List Value) (Q : VK), Inv X pins σ H s → Vals xs us → r xs H Q →
    wpAny (model X.prog X.w) X.A (call f us) (EP X pins σ Q) X.xe s
def tOp (r : R2) (ta tb : TE) : TE := fun σ H Q => ta σ H fun x H1 => tb σ H1 fun y H2 => r x y H2 Q
def tUn (r : V → Hp → VK → Prop) (ta : TE) : TE := fun σ H Q => ta σ H fun x H1 => r x H1 Q
/-- ints in, under C, and a value out -/
def rI (C : Int → Int → Prop) (g : Int → Int → V) : R2 := fun x y H Q => ∃ i j, x = .int i ∧ y = .int j ∧ C i j ∧ Q (g i j) H
def rI0 (g : Int → Int → V) : R2 := fun x y H Q => ∃ i j, x = .int i ∧ y = .int j ∧ Q (g i j) H
def rU (g : Int → V) : V → Hp → VK → Prop := fun x H Q => ∃ i, x = .int i ∧ Q (g i) H

section
variable {X : Cx} {a b c : Expr} {ta tb tc : TE} {pos : Pos}

theorem binT (ha : PE X a ta) (hb : PE X b tb) {pins : List (Addr × Obj)} {s : Shared} {σ : St} {H : Hp} {R : V → V → Hp → Prop} (I : Inv X pins σ H s)
    (h : ta σ H fun x H1 => tb σ H1 fun y H2 => R x y H2) {Q : Value → Shared → Prop} {f : Value → Value → Sem Value}
    (hf : ∀ v u s2 x y H2, Inv X pins σ H2 s2 → RelV x v → RelV y u → R x y H2 → wpAny (model X.prog X.w) X.A (f v u) Q X.xe s2) :
    wpAny (model X.prog X.w) X.A (eval a X.env) (fun v s₁ => wpAny (model X.prog X.w) X.A (eval b X.env) (fun u s₂ => wpAny (model X.prog X.w) X.A (f v u) Q X.xe s₂) X.xe s₁) X.xe s := by
  refine thn (ha pins s σ H _ I h) fun v s1 ⟨x, H1, I1, r1, q1⟩ => ?_
  refine thn (hb pins s1 σ H1 _ I1 q1) fun u s2 ⟨y, H2, I2, r2, q2⟩ => ?_
  exact hf v u s2 x y H2 I2 r1 r2 q2

theorem pe_op {op : Operator} {r : R2} (ho : OpR X (binaryOp op) r) (ha : PE X a ta) (hb : PE X b tb) : PE X (.BinOp a op b pos) (tOp r ta tb) := by
  constructor; intro pins s σ H Q I h
  exact wpAny_BinOp (binT ha hb I h fun v u s2 x y H2 I2 rx ry q => ho pins s2 σ H2 x y v u Q I2 rx ry q)
theorem pe_un {op : UnaryOp} {r : V → Hp → VK → Prop} (ho : UnR X (unaryOp op) r) (ha : PE X a ta) : PE X (.UnaryOp op a pos) (tUn r ta) := by
  constructor; intro pins s σ H Q I h
  exact UnaryOp_ (thn (ha pins s σ H _ I h) fun v s1 ⟨x, H1, I1, r1, q1⟩ => ho pins s1 σ H1 x v Q I1 r1 q1)
/-! ### ints -/
theorem opI {f : Value → Value → Sem Value} {C : Int → Int → Prop} {g : Int → Int → Int}
    (rule : ∀ (i j : Int) (t u : Tok) (s : Shared) (Q : Value → Shared → Prop) (E : Value → Shared → Prop), C i j → Q (.int (g i j) s.toks) { s with toks := s.toks + 1 } → wpAny (model X.prog X.w) X.A (f (.int i t) (.int j u)) Q E s) :
    OpR X f (rI C fun i j => .int (g i j)) := by
  intro pins s σ H x y v u Q I rx ry h
  obtain ⟨i, j, rfl, rfl, hc, q⟩ := h
  obtain ⟨t, rfl⟩ := rx
  obtain ⟨t', rfl⟩ := ry
  exact rule i j t t' s _ _ hc ⟨.int (g i j), H, I.tok _, ⟨_, rfl⟩, q⟩
theorem opI0 {f : Value → Value → Sem Value} {g : Int → Int → Int}
    (rule : ∀ (i j : Int) (t u : Tok) (s : Shared) (Q : Value → Shared → Prop) (E : Value → Shared → Prop), Q (.int (g i j) s.toks) { s with toks := s.toks + 1 } → wpAny (model X.prog X.w) X.A (f (.int i t) (.int j u)) Q E s) :
    OpR X f (rI0 fun i j => .int (g i j)) := by
  intro pins s σ H x y v u Q I rx ry h
  obtain ⟨i, j, rfl, rfl, q⟩ := h
  obtain ⟨t, rfl⟩ := rx
  obtain ⟨t', rfl⟩ := ry
  exact rule i j t t' s _ _ ⟨.int (g i j), H, I.tok _, ⟨_, rfl⟩, q⟩
theorem opB0 {f : Value → Value → Sem Value} {g : Int → Int → Bool}
    (rule : ∀ (i j : Int) (t u : Tok) (s : Shared) (Q : Value → Shared → Prop) (E : Value → Shared → Prop), Q (.bool (g i j)) s → wpAny (model X.prog X.w) X.A (f (.int i t) (.int j u)) Q E s) :
    OpR X f (rI0 fun i j => .bl (g i j)) := by
  intro pins s σ H x y v u Q I rx ry h
  obtain ⟨i, j, rfl, rfl, q⟩ := h
  obtain ⟨t, rfl⟩ := rx
  obtain ⟨t', rfl⟩ := ry
  exact rule i j t t' s _ _ ⟨.bl (g i j), H, I, rfl, q⟩

def CDiv (i j : Int) : Prop := 0 < j ∧ j < 1073741824
def CPow (i j : Int) : Prop := 0 ≤ j ∧ j ≤ 1000000 ∧ i.natAbs < 2 ^ 64
def CMul (i j : Int) : Prop := (-(2 ^ 64) < i ∧ i < 2 ^ 64) ∨ (-(2 ^ 64) < j ∧ j < 2 ^ 64)
theorem CMul.ok {i j : Int} (h : CMul i j) : IntMulOk i j := by
  rcases h with ⟨h1, h2⟩ | ⟨h1, h2⟩
  · exact .of_left (intBits_le_64 h1 h2)
  · exact .of_right (intBits_le_64 h1 h2)
theorem op_add : OpR X (binaryOp .Add) (rI0 fun i j => .int (i + j)) := opI0 fun _ _ _ _ _ _ _ q => add_int q
theorem op_sub : OpR X (binaryOp .Sub) (rI0 fun i j => .int (i - j)) := opI0 fun _ _ _ _ _ _ _ q => sub_int q
theorem op_mul : OpR X (binaryOp .Mult) (rI CMul fun i j => .int (i * j)) := opI fun _ _ _ _ _ _ _ hc q => mul_int q hc.ok
/-- // by a positive divisor -/
theorem op_fdiv : OpR X (binaryOp .FloorDiv) (rI CDiv fun i j => .int (i / j)) := opI fun i j _ _ _ _ _ hc q => by
  have h1 : (0 : Int) < j := hc.1
  have h2 : j < 1073741824 := hc.2
  exact floordiv_int (by omega) (by rw [Int.fdiv_eq_ediv_of_nonneg i (by omega)]; exact q) (.inl (PyProof.noPylong_small (by omega)))
/-- % by a positive divisor of any size -/
theorem op_mod : OpR X (binaryOp .Mod) (rI (fun _ j => 0 < j) fun i j => .int (i % j)) := opI fun i j _ _ _ _ _ hc q => by
  have h1 : (0 : Int) < j := hc
  exact mod_int' (by omega) (by rw [Int.fmod_eq_emod_of_nonneg i (by omega)]; exact q)
theorem op_pow : OpR X (binaryOp .Pow) (rI CPow fun i j => .int (i ^ j.toNat)) := opI fun _ _ _ _ _ _ _ hc q => pow_int_small hc.1 hc.2.1 hc.2.2 q
theorem unI {f : Value → Sem Value} {g : Int → Int}
    (rule : ∀ (i : Int) (t : Tok) (s : Shared) (Q : Value → Shared → Prop) (E : Value → Shared → Prop), Q (.int (g i) s.toks) { s with toks := s.toks + 1 } → wpAny (model X.prog X.w) X.A (f (.int i t)) Q E s) :
    UnR X f (rU fun i => .int (g i)) := by
  intro pins s σ H x v Q I rx h
  obtain ⟨i, rfl, q⟩ := h
  obtain ⟨t, rfl⟩ := rx
  exact rule i t s _ _ ⟨.int (g i), H, I.tok _, ⟨_, rfl⟩, q⟩
theorem un_neg : UnR X (unaryOp .USub) (rU fun i => .int (-i)) := unI fun _ _ _ _ _ q => neg_int q
/-! ### bools among ints: n += (a < b) -/
end

/-! ### comparisons -/
/-- the scalars that == tells apart as data does -/
def scal : V → V → Bool
  | .non, .non => true | .non, .int _ => true | .int _, .non => true | .non, .bl _ => true | .bl _, .non => true | .non, .str _ => true | .str _, .non => true
  | .int _, .int _ => true | .bl _, .bl _ => true | .str _, .str _ => true | .byt _, .byt _ => true
  | .int _, .str _ => true | .str _, .int _ => true | .bl _, .str _ => true | .str _, .bl _ => true
  | _, _ => false
def rEq : R2 := fun x y H Q => scal x y = true ∧ Q (.bl (decide (x = y))) H
def rNe : R2 := fun x y H Q => scal x y = true ∧ Q (.bl (!decide (x = y))) H

theorem dec_int {i j : Int} : decide (V.int i = V.int j) = (i == j) := by
  rw [Bool.eq_iff_iff]
  simp
theorem dec_bl {i j : Bool} : decide (V.bl i = V.bl j) = (i == j) := by
  rw [Bool.eq_iff_iff]
  simp
theorem dec_str {i j : Str} : decide (V.str i = V.str j) = (i == j) := by
  rw [Bool.eq_iff_iff]
  simp
theorem dec_byt {i j : Array UInt8} : decide (V.byt i = V.byt j) = (i.toList == j.toList) := by
  rw [Bool.eq_iff_iff]
  cases i
  cases j
  simp

section
variable {X : Cx} {a b c : Expr} {ta tb tc : TE} {pos : Pos}
theorem fin_bl {pins : List (Addr × Obj)} {σ : St} {H : Hp} {s : Shared} {Q : VK} {k k' : Bool} (I : Inv X pins σ H s) (q : Q (.bl k) H) (e : k = k') : EP X pins σ Q (.bool k') s := by
  subst e
  exact ⟨.bl k, H, I, rfl, q⟩
theorem op_eq : OpR X (compareOp .Eq) rEq := by
  intro pins s σ H x y v u Q I rx ry h
  obtain ⟨hs, q⟩ := h
  cases x with
  | non =>
    cases rx
    cases y with
    | non => cases ry; exact PySem.EqNone.eq_none_none (fin_bl I q (by simp))
    | bl j => cases ry; exact PySem.EqNone.eq_none_bool (fin_bl I q (by simp))
    | int j => obtain ⟨t', rfl⟩ := ry; exact PySem.EqNone.eq_none_int (fin_bl I q (by simp))
    | str j => obtain ⟨t', rfl⟩ := ry; exact PySem.EqNone.eq_none_str (fin_bl I q (by simp))
    | _ => exact absurd (show false = true from hs) Bool.false_ne_true
  | bl i =>
    cases rx
    cases y with
    | non => cases ry; exact PySem.EqNone.eq_bool_none (fin_bl I q (by simp))
    | bl j => cases ry; exact eq_bool (fin_bl I q dec_bl)
    | str j => obtain ⟨t', rfl⟩ := ry; exact PySem.EqMixed.eq_bool_str (fin_bl I q (by simp))
    | _ => exact absurd (show false = true from hs) Bool.false_ne_true
  | int i =>
    obtain ⟨t, rfl⟩ := rx
    cases y with
    | non => cases ry; exact PySem.EqNone.eq_int_none (fin_bl I q (by simp))
    | int j => obtain ⟨t', rfl⟩ := ry; exact eq_int (fin_bl I q dec_int)
    | str j => obtain ⟨t', rfl⟩ := ry; exact PySem.EqMixed.eq_int_str (fin_bl I q (by simp))
    | _ => exact absurd (show false = true from hs) Bool.false_ne_true
  | str i =>
    obtain ⟨t, rfl⟩ := rx
    cases y with
    | non => cases ry; exact PySem.EqNone.eq_str_none (fin_bl I q (by simp))
    | bl j => cases ry; exact PySem.EqMixed.eq_str_bool (fin_bl I q (by simp))
    | int j => obtain ⟨t', rfl⟩ := ry; exact PySem.EqMixed.eq_str_int (fin_bl I q (by simp))
    | str j => obtain ⟨t', rfl⟩ := ry; exact eq_str (fin_bl I q dec_str)
    | _ => exact absurd (show false = true from hs) Bool.false_ne_true
  | byt i =>
    obtain ⟨t, rfl⟩ := rx
    cases y with
    | byt j => obtain ⟨t', rfl⟩ := ry; exact PySem.W.eq_bytes (fin_bl I q dec_byt)
    | _ => exact absurd (show false = true from hs) Bool.false_ne_true
  | _ => cases y <;> exact absurd (show false = true from hs) Bool.false_ne_true
theorem op_ne : OpR X (compareOp .NotEq) rNe := by
  intro pins s σ H x y v u Q I rx ry h
  obtain ⟨hs, q⟩ := h
  cases x with
  | non =>
    cases rx
    cases y with
    | non => cases ry; exact PySem.EqNone.ne_none_none (fin_bl I q (by simp))
    | bl j => cases ry; exact PySem.EqNone.ne_none_bool (fin_bl I q (by simp))
    | int j => obtain ⟨t', rfl⟩ := ry; exact PySem.EqNone.ne_none_int (fin_bl I q (by simp))
    | str j => obtain ⟨t', rfl⟩ := ry; exact PySem.EqNone.ne_none_str (fin_bl I q (by simp))
    | _ => exact absurd (show false = true from hs) Bool.false_ne_true
  | bl i =>
    cases rx
    cases y with
    | non => cases ry; exact PySem.EqNone.ne_bool_none (fin_bl I q (by simp))
    | bl j => cases ry; exact ne_bool (fin_bl I q (congrArg not dec_bl))
    | str j => obtain ⟨t', rfl⟩ := ry; exact PySem.EqMixed.ne_bool_str (fin_bl I q (by simp))
    | _ => exact absurd (show false = true from hs) Bool.false_ne_true
  | int i =>
    obtain ⟨t, rfl⟩ := rx
    cases y with
    | non => cases ry; exact PySem.EqNone.ne_int_none (fin_bl I q (by simp))
    | int j => obtain ⟨t', rfl⟩ := ry; exact ne_int (fin_bl I q (congrArg not dec_int))
    | str j => obtain ⟨t', rfl⟩ := ry; exact PySem.EqMixed.ne_int_str (fin_bl I q (by simp))
    | _ => exact absurd (show false = true from hs) Bool.false_ne_true
  | str i =>
    obtain ⟨t, rfl⟩ := rx
    cases y with
    | non => cases ry; exact PySem.EqNone.ne_str_none (fin_bl I q (by simp))
    | bl j => cases ry; exact PySem.EqMixed.ne_str_bool (fin_bl I q (by simp))
    | int j => obtain ⟨t', rfl⟩ := ry; exact PySem.EqMixed.ne_str_int (fin_bl I q (by simp))
    | str j => obtain ⟨t', rfl⟩ := ry; exact ne_str (fin_bl I q (congrArg not dec_str))
    | _ => exact absurd (show false = true from hs) Bool.false_ne_true
  | byt i =>
    obtain ⟨t, rfl⟩ := rx
    cases y with
    | byt j => obtain ⟨t', rfl⟩ := ry; exact PySem.W.ne_bytes (fin_bl I q (congrArg not dec_byt))
    | _ => exact absurd (show false = true from hs) Bool.false_ne_true
  | _ => cases y <;> exact absurd (show false = true from hs) Bool.false_ne_true

theorem op_lt : OpR X (compareOp .Lt) (rI0 fun i j => .bl (decide (i < j))) := opB0 fun _ _ _ _ _ _ _ q => lt_int q
theorem op_gt : OpR X (compareOp .Gt) (rI0 fun i j => .bl (decide (j < i))) := opB0 fun _ _ _ _ _ _ _ q => gt_int q
/-- is None, is not None: the right side a value none -/
theorem op_isN : OpR X (compareOp .Is) (fun x y H Q => y = .non ∧ Q (.bl (decide (x = .non))) H) := by
  intro pins s σ H x y v u Q I rx ry h
  obtain ⟨rfl, q⟩ := h
  cases ry
  refine is_none_gen (fin_bl I q ?_)
  cases x <;> first
    | (cases rx; rfl)
    | (obtain ⟨t, rfl⟩ := rx; rfl)
theorem nomark (b : Expr) {op : CmpOp} (h : op ≠ .In := by decide) (h2 : op ≠ .NotIn := by decide) : behindInMarks op b = false := by
  have e1 : (op == CmpOp.In) = false := by cases op <;> first | rfl | exact absurd rfl h
  have e2 : (op == CmpOp.NotIn) = false := by cases op <;> first | rfl | exact absurd rfl h2
  cases b <;> simp [behindInMarks, e1, e2]
/-- a comparison as a value; hm: nomark b, or (for in, not in) by with_unfolding_all rfl -/
theorem pe_cmpR {op : CmpOp} {r : R2} (ho : OpR X (compareOp op) r) (ha : PE X a ta) (hb : PE X b tb) (hm : behindInMarks op b = false) : PE X (.Compare a [op] [b] pos) (tOp r ta tb) := by
  constructor; intro pins s σ H Q I h
  exact wpAny_Compare1 (binT ha hb I h fun v u s2 x y H2 I2 rx ry q => ho pins s2 σ H2 x y v u Q I2 rx ry q) hm
/-- a reading of a value as a test -/
def tTest (t : TE) : TT := fun σ H Q => t σ H fun x H' => ∃ k, x = .bl k ∧ Q k H'
theorem pt_cmpR {op : CmpOp} {r : R2} (ho : OpR X (compareOp op) r) (ha : PE X a ta) (hb : PE X b tb) (hm : behindInMarks op b = false) : PT X (.Compare a [op] [b] pos) (tTest (tOp r ta tb)) := by
  constructor; intro pins s σ H Q I h
  refine wpAny_isTrue_Compare1 (thn (ha pins s σ H _ I h) fun v s1 ⟨x, H1, I1, r1, q1⟩ => thn (hb pins s1 σ H1 _ I1 q1) fun u s2 ⟨y, H2, I2, r2, q2⟩ =>
    thn (ho pins s2 σ H2 x y v u _ I2 r1 r2 q2) fun c s3 ⟨z, H3, I3, r3, k, e, q3⟩ => ?_) hm
  subst e
  cases r3
  exact wpAny_truthy_bool ⟨H3, I3, q3⟩
/-! ### truth -/
theorem line63 : (sizeLine : Nat) < 2 ^ 63 := by rw [sizeLine_eq]; decide
/-! ### strs and bytes -/
theorem op_add_str : OpR X (binaryOp .Add) (fun x y H Q => ∃ i j, x = .str i ∧ y = .str j ∧ i.length + j.length ≤ sizeLine ∧ Q (.str (i ++ j)) H) := by
  intro pins s σ H x y v u Q I rx ry h
  obtain ⟨i, j, rfl, rfl, hz, q⟩ := h
  obtain ⟨t, rfl⟩ := rx
  obtain ⟨t', rfl⟩ := ry
  exact add_str (fun t' tk => ⟨.str (i ++ j), H, I.tok _, ⟨_, rfl⟩, q⟩) hz
/-! ### scalar builtins, by CallR -/
theorem vals1 {x : V} {us : List Value} (r : Vals [x] us) : ∃ u, us = [u] ∧ RelV x u := by
  cases r with
  | cons r1 r2 => cases r2; exact ⟨_, rfl, r1⟩
theorem vals2 {x y : V} {us : List Value} (r : Vals [x, y] us) : ∃ u w', us = [u, w'] ∧ RelV x u ∧ RelV y w' := by
  cases r with
  | cons r1 r2 =>
    cases r2 with
    | cons r3 r4 => cases r4; exact ⟨_, _, rfl, r1, r3⟩
theorem call_max2 (hc : X.calm = true) : CallR X (.builtin "max") (fun xs H Q => ∃ i j, xs = [.int i, .int j] ∧ Q (.int (if j > i then j else i)) H) := by
  intro pins s σ H xs us Q I r h
  obtain ⟨i, j, rfl, q⟩ := h
  obtain ⟨u, w', rfl, ⟨t, rfl⟩, ⟨t', rfl⟩⟩ := vals2 r
  refine max_two_ints (I.ok.hd hc) fun h' tk k => ⟨_, H, I.kept k, ?_, q⟩
  by_cases hj : j > i
  · rw [if_pos hj, if_pos hj]; exact ⟨_, rfl⟩
  · rw [if_neg hj, if_neg hj]; exact ⟨_, rfl⟩
/-- len of a str, a bytes, a list, a tuple -/
def LenV (K : PySem.W.Frag) (x : V) (H : Hp) (n : Nat) : Prop :=
  match x with
  | .str y => y.length ≤ sizeLine ∧ n = y.length
  | .byt y => y.size ≤ sizeLine ∧ n = y.size
  | .ref p => (∃ xs, SqL K H p xs ∧ n = xs.length) ∨ ∃ xs, SqT K H p xs ∧ n = xs.length
  | _ => False
theorem call_len : CallR X (.builtin "len") (fun xs H Q => ∃ x n, xs = [x] ∧ LenV X.K x H n ∧ Q (.int n) H) := by
  intro pins s σ H xs us Q I r h
  obtain ⟨x, n, rfl, e, q⟩ := h
  obtain ⟨u, rfl, rx⟩ := vals1 r
  have hl := line63
  have hs : sizeLine = 16777216 := sizeLine_eq
  cases x with
  | str y =>
    obtain ⟨t, rfl⟩ := rx
    obtain ⟨hy, e'⟩ : y.length ≤ sizeLine ∧ n = y.length := e
    subst e'
    exact len_str (by omega) ⟨.int _, H, I.tok _, ⟨_, rfl⟩, q⟩
  | byt y =>
    obtain ⟨t, rfl⟩ := rx
    obtain ⟨hy, e'⟩ : y.size ≤ sizeLine ∧ n = y.size := e
    subst e'
    exact PySem.W.len_bytes (by omega) ⟨.int _, H, I.tok _, ⟨_, rfl⟩, q⟩
  | ref p =>
    cases rx
    have e' : (∃ xs, SqL X.K H p xs ∧ n = xs.length) ∨ ∃ xs, SqT X.K H p xs ∧ n = xs.length := e
    rcases e' with ⟨xs, hx, e'⟩ | ⟨xs, hx, e'⟩
    · subst e'
      obtain ⟨its, r', pl, hz⟩ := I.list hx
      have hlen := r'.length
      exact Calls.call_len_list pl.isList (by simp only [List.size_toArray]; omega) ⟨.int xs.length, H, I.tok _, ⟨_, by simp only [List.size_toArray]; rw [hlen]⟩, q⟩
    · subst e'
      obtain ⟨its, r', pl, hz⟩ := I.tuple hx
      have hlen := r'.length
      exact len_tuple pl (by simp only [List.size_toArray]; omega) ⟨.int xs.length, H, I.tok _, ⟨_, by simp only [List.size_toArray]; rw [hlen]⟩, q⟩
  | _ => exact (show False from e).elim
end
end L2

namespace L2
open PySem PySem.Spec PyProof.Rows

/-! ### an instance, its attributes a map -/
structure ObjM (h : Heap) (x dx C : Addr) (mA : Str → Option Value) : Prop where
  obj : h.get? x = some (PySem.W.instObj C dx)
  ns : h.Ns1 dx mA
  ne : dx ≠ x

theorem lookIn_ns {h : Heap} {dx : Addr} {mA : Str → Option Value} (n : h.Ns1 dx mA) : ∃ od, h.get? dx = some od ∧ ∀ name, PySem.W.lookIn name od = some (mA name) := by
  obtain ⟨o, es, ep, ho, hd, hk, _, hm⟩ := n
  refine ⟨o, ho, fun name => ?_⟩
  have e := hm name
  unfold nsFind findBy at e
  rw [← Array.find?_toList] at e
  unfold PySem.W.lookIn
  rw [hd]
  dsimp only
  split
  · rename_i y q
    rw [q] at e
    exact congrArg some e
  · rename_i q
    rw [q] at e
    have a : es.toList.any (·.refKey) = false := by
      rw [List.any_eq_false]
      intro y hy
      obtain ⟨z, t, hkey⟩ := hk y (Array.mem_toList_iff.mp hy)
      simp [DictEntry.refKey, hkey]
    have a' : ¬ es.toList.any (·.refKey) = true := by rw [a]; exact Bool.false_ne_true
    rw [if_neg a']
    exact congrArg some e

theorem ObjM.look {h : Heap} {x dx C : Addr} {mA : Str → Option Value} (I : ObjM h x dx C mA) : ∃ od, PySem.W.InstAt h x (PySem.W.instObj C dx) C (some od) ∧ ∀ name, PySem.W.lookIn name od = some (mA name) :=
  let ⟨od, ho, hl⟩ := lookIn_ns I.ns
  ⟨od, ⟨I.obj, rfl, rfl, ho⟩, hl⟩

section
variable {prog : Program} {w : World} {A : Around} {E : Value → Shared → Prop} {s : Shared} {K : PySem.W.Frag} {x dx C f : Addr} {mA : Str → Option Value} {name : Str} {v : Value}

theorem get_meth {pl : Sem Bool} {Q : Value × List Value → Shared → Prop} (X : K.In s.heap) (I : ObjM s.heap x dx C mA) (hg : PySem.W.plainGet K C name = true)
    (hf : PySem.W.findIn K (.ref C) name = some (some (.ref f))) (ht : PySem.W.isFn K (.ref f) = true) (hv : mA name = none) (h : Q (.ref f, [.ref x]) s) :
    wpAny (model prog w) A (getMethod (.ref x) name pl) Q E s := by
  obtain ⟨od, J, hl⟩ := I.look
  exact PySem.W.method_fn X J (PySem.W.plainGet_of hg).1 (PySem.W.plainGet_of hg).2 hf (beq_iff_eq.mp ht) (by show (PySem.W.lookIn name od).map (·.isSome) = some false; rw [hl, hv]; rfl) h

/-- C() where there is no __init__ but object's -/
theorem make_map0 {R : Result → Shared → Prop} (X : K.In s.heap) (hm : PySem.W.makesIn K C = true)
    (hi : PySem.W.findIn K (.ref C) "__init__" = some (some (.builtin "object.__init__")))
    (hb : ∀ self, PySem.W.Looks (model prog w) s.heap (bindSpecial (.builtin "object.__init__") self) (.builtin "object.__init__", [self]))
    (h : codeAny (model prog w) (A.under (.builtin "type.__call__" ⟨[.ref C], []⟩)) (.call (.builtin "object.__init__") ⟨[.ref (s.heap.objs.size + 1)], []⟩) (PySem.W.InitBack (s.heap.objs.size + 1) R)
      { s with heap := (s.heap.push PySem.W.emptyDict).push (PySem.W.instObj C s.heap.objs.size) }) :
    codeAny (model prog w) A (.call (.ref C) ⟨[], []⟩) R s := by
  obtain ⟨hh, g, d, t, os⟩ := s
  exact PySem.W.make_core (PySem.W.makes_of X hm) (PySem.W.looks_findIn X hi) hb (.inr ⟨rfl, rfl⟩) h
end

/-! ### the attributes as a list of pairs -/
theorem RelO.none_of {o : Option Value} (r : RelO none o) : o = none := by
  cases o with
  | none => rfl
  | some u => exact (show False from r).elim
section
variable {P : Program} {w : World} {H H' : Hp} {h h' : Heap} {a C dx : Addr} {fs fs' : List (Str × V)}
theorem ins_get (hok : HOk P w H h) (e : H a = some (.ins C dx fs)) : ∃ mA, ObjM h a dx C mA ∧ (∀ f, RelO (fs.lookup f) (mA f)) ∧ PySem.Within mA (fs.map (·.1)) ∧ fs.length ≤ 1000 ∧ H dx = some (.own a) := by
  obtain ⟨d, z, ne, ob, mA, n, r, q⟩ := (show ObjOk P w H h a (.ins C dx fs) from hok a _ e)
  exact ⟨mA, ⟨ob, n, ne⟩, r, q, z, d⟩
end

/-! ### what of the text a class must have -/
structure Cls (K : PySem.W.Frag) (C : Addr) : Prop where
  pg : PySem.W.plainGet K C Str.empty = true
  hd : PySem.W.hasDictIn K C = true
  po : PySem.W.plainOver K C = true
  sa : PySem.W.findIn K (.ref C) "__setattr__" = some (some (.builtin "object.__setattr__"))
theorem Cls.get {K : PySem.W.Frag} {C : Addr} (c : Cls K C) (f : Str) : PySem.W.plainGet K C f = true := c.pg
/-- a constant of the class -/
structure Con (K : PySem.W.Frag) (C : Addr) (f : Str) (v : V) (u : Value) : Prop where
  at_ : PySem.W.findIn K (.ref C) f = some (some u)
  rel : RelV v u
  get : PySem.W.specialIn K u "__get__" = some none
  cp : PySem.W.copiedNames.contains f = false
/-- a method: a plain def of the class or of one above it -/
structure Meth (K : PySem.W.Frag) (C : Addr) (m : Str) (f : Addr) : Prop where
  at_ : PySem.W.findIn K (.ref C) m = some (some (.ref f))
  fn : PySem.W.isFn K (.ref f) = true
  kp : PySem.W.keepIn K (.ref f) = true

section
variable {X : Cx} {pins : List (Addr × Obj)} {σ : St} {H : Hp} {s : Shared} {a C dx : Addr} {fs : List (Str × V)} {f : Str} {v : V} {A : Around} {E : Value → Shared → Prop}

theorem getmeth_ok {m : Str} {g : Addr} {pl : Sem Bool} {Q : Value × List Value → Shared → Prop} (I : Inv X pins σ H s) (e : H a = some (.ins C dx fs)) (c : Cls X.K C) (k : Meth X.K C m g) (l : fs.lookup m = none)
    (h : Q (.ref g, [.ref a]) s) : wpAny (model X.prog X.w) A (getMethod (.ref a) m pl) Q E s := by
  obtain ⟨mA, O, r, _, _, _⟩ := ins_get I.hok e
  have hn : mA m = none := RelO.none_of (by rw [← l]; exact r m)
  exact get_meth I.kIn O (c.get m) k.at_ k.fn hn h

/-- a new instance, tracked, without attributes -/
theorem Inv.made (I : Inv X pins σ H s) : Inv X pins σ (upd (upd H s.heap.objs.size (.own (s.heap.objs.size + 1))) (s.heap.objs.size + 1) (.ins C s.heap.objs.size []))
    { s with heap := (s.heap.push PySem.W.emptyDict).push (PySem.W.instObj C s.heap.objs.size) } := by
  have e1 : (s.heap.push PySem.W.emptyDict).get? s.heap.objs.size = some PySem.W.emptyDict := Heap.get?_push_size s.heap rfl
  have e2 : ((s.heap.push PySem.W.emptyDict).push (PySem.W.instObj C s.heap.objs.size)).get? (s.heap.objs.size + 1) = some (PySem.W.instObj C s.heap.objs.size) := by
    have := Heap.get?_push_size (s.heap.push PySem.W.emptyDict) (o := PySem.W.instObj C s.heap.objs.size) rfl
    rwa [Heap.size_push] at this
  have e3 : (s.heap.push PySem.W.emptyDict).Ns s.heap.objs.size (fun _ => none) := ⟨PySem.W.emptyDict, #[], _, e1, rfl, (fun e he => absurd he (by simp)), fun _ => rfl⟩
  have I1 := I.laid (a := s.heap.objs.size) (o := .own (s.heap.objs.size + 1)) (h' := s.heap.push PySem.W.emptyDict) (t' := s.toks) (fun b u q => Heap.get?_push_of_some _ q) (Nat.le_refl _) ⟨_, e1⟩
  refine I1.laid (a := s.heap.objs.size + 1) (o := .ins C s.heap.objs.size []) (t' := s.toks) (fun b u q => Heap.get?_push_of_some _ q) (Nat.le_of_eq (Heap.size_push _ _)) ?_
  have ne : s.heap.objs.size ≠ s.heap.objs.size + 1 := Nat.ne_of_lt (Nat.lt_succ_self _)
  refine ⟨by rw [upd_ne ne, upd_same], Nat.zero_le _, ne, e2, fun _ => none, (Heap.Ns1.of_empty e3).at fun o q => Heap.get?_push_of_some _ q, fun _ => True.intro, fun y hy => absurd rfl hy⟩

end

/-! ### readings and rules -/
section
variable {X : Cx} {o e value : Expr} {f : Str} {pos pos' tpos : Pos} {ta tv : TE}
end

/-! ### isinstance -/
section
variable {X : Cx} {pins : List (Addr × Obj)} {σ : St} {H : Hp} {s : Shared} {A : Around} {E : Value → Shared → Prop} {Q : Value → Shared → Prop} {c : Value} {b : Bool}
/-- the type of a value, as the fragment's deciders take it; for an instance its class -/
inductive TyOf (K : PySem.W.Frag) (H : Hp) : V → Value → Prop where
  | non : TyOf K H .non (.type "NoneType")
  | bl (x : Bool) : TyOf K H (.bl x) (.type "bool")
  | int (i : Int) : TyOf K H (.int i) (.type "int")
  | str (x : Str) : TyOf K H (.str x) (.type "str")
  | flt (x : UInt64) : TyOf K H (.flt x) (.type "float")
  | lst {a : Addr} {xs : List V} (e : H a = some (.lst xs)) : TyOf K H (.ref a) (.type "list")
  | frz {a : Addr} {o : Obj} {xs : List V} (e : H a = some (.frz o (.lst xs))) : TyOf K H (.ref a) (.type "list")
  | tup {a : Addr} {xs : List V} (e : H a = some (.tup xs)) : TyOf K H (.ref a) (.type "tuple")
  | dK {a : Addr} {kvs : List (Key × V)} (e : H a = some (.dK kvs)) : TyOf K H (.ref a) (.type "dict")
  | dT {a : Addr} {kvs : List (List Key × V)} (e : H a = some (.dT kvs)) : TyOf K H (.ref a) (.type "dict")
  | ins {a C dx : Addr} {fs : List (Str × V)} (e : H a = some (.ins C dx fs)) (cl : Cls K C) (ha : PySem.W.findIn K (.ref C) "__class__" = some (some (.builtin "object.__class__")))
      (hn : PySem.W.specialIn K (.builtin "object.__class__") "__get__" = some (some (.builtin "getset_descriptor.__get__"))) (htk : PySem.W.takesIn K (.builtin "object.__class__") = some true)
      (hm : PySem.W.mroIn K C (.type "object") = some true) : TyOf K H (.ref a) (.ref C)
/-- isinstance(x, c) for one class c, a built-in or an own one: kitOne's answer -/
theorem isinst_ok {x : V} {u t : Value} (I : Inv X pins σ H s) (rx : RelV x u) (ty : TyOf X.K H x t) (e : PySem.W.kitOne X.K t c = some b) (h : ∀ tk, Q (.bool b) { s with toks := tk }) :
    wpAny (model X.prog X.w) A (call (.builtin "isinstance") [u, c]) Q E s := by
  cases ty with
  | non => cases (show u = Value.none from rx); exact PySem.W.kia_one PySem.W.kitx_none I.kIn True.intro e (fun z => nomatch z) h
  | bl y => cases (show u = Value.bool y from rx); exact PySem.W.kia_one PySem.W.kitx_bool I.kIn True.intro e (fun z => nomatch z) h
  | int i => obtain ⟨t, q⟩ := (show ∃ t, u = Value.int i t from rx); cases q; exact PySem.W.kia_one PySem.W.kitx_int I.kIn True.intro e (fun z => nomatch z) h
  | str y => obtain ⟨t, q⟩ := (show ∃ t, u = Value.str y t from rx); cases q; exact PySem.W.kia_one PySem.W.kitx_str I.kIn True.intro e (fun z => nomatch z) h
  | flt y => obtain ⟨t, q⟩ := (show ∃ t, u = Value.float y t from rx); cases q; exact PySem.W.kia_one PySem.W.kitx_float I.kIn True.intro e (fun z => nomatch z) h
  | @lst a xs ea =>
    cases (show u = Value.ref a from rx)
    obtain ⟨_, _, n, _, h1⟩ := (show ObjOk X.prog X.w H s.heap a (.lst xs) from I.hok a _ ea)
    exact PySem.W.kia_one PySem.W.kitx_list I.kIn ⟨_, h1, rfl⟩ e (fun z => nomatch z) h
  | @frz a ob xs ea =>
    cases (show u = Value.ref a from rx)
    obtain ⟨_, _, _, n, _, h1⟩ := (show ObjOk X.prog X.w H s.heap a (.frz ob (.lst xs)) from I.hok a _ ea)
    exact PySem.W.kia_one PySem.W.kitx_list I.kIn ⟨_, h1, rfl⟩ e (fun z => nomatch z) h
  | @tup a xs ea =>
    cases (show u = Value.ref a from rx)
    obtain ⟨_, _, _, p⟩ := (show ObjOk X.prog X.w H s.heap a (.tup xs) from I.hok a _ ea)
    obtain ⟨o, h1, h2, _⟩ := p
    exact PySem.W.kia_one PySem.W.kitx_tuple I.kIn ⟨o, h1, h2⟩ e (fun z => nomatch z) h
  | @dK a kvs ea =>
    cases (show u = Value.ref a from rx)
    obtain ⟨_, _, vs, _, p⟩ := (show ObjOk X.prog X.w H s.heap a (.dK kvs) from I.hok a _ ea)
    obtain ⟨o, es, ep, h1, h2, _⟩ := p
    exact PySem.W.kia_one PySem.W.kitx_dict I.kIn ⟨o, h1, h2.1⟩ e (fun z => nomatch z) h
  | @dT a kvs ea =>
    cases (show u = Value.ref a from rx)
    obtain ⟨_, _, xs, _, o, es, ep, h1, h2, _⟩ := (show ObjOk X.prog X.w H s.heap a (.dT kvs) from I.hok a _ ea)
    exact PySem.W.kia_one PySem.W.kitx_dict I.kIn ⟨o, h1, h2.1⟩ e (fun z => nomatch z) h
  | @ins a C dx fs ea cl ha hn htk hm =>
    cases (show u = Value.ref a from rx)
    obtain ⟨mA, O, _⟩ := ins_get I.hok ea
    obtain ⟨od, J, _⟩ := O.look
    exact PySem.W.kia_one (PySem.W.kitx_own (cl.get _) cl.hd ha hn htk hm) I.kIn J e (fun z => nomatch z) h
end
end L2

namespace L2
open PySem PySem.Spec PyProof.Rows

/-! ### room -/
structure Room (k : Nat) (A : Around) : Prop where
  hd : A.handled = none
  dp : A.depth + 3 * k + 5 < recursionLimit
  un : A.units + 16 * k + 200 < cLine
theorem Room.mono {j k : Nat} {A : Around} (r : Room k A) (h : j ≤ k) : Room j A := ⟨r.hd, by have := r.dp; omega, by have := r.un; omega⟩
theorem Room.deeper {k : Nat} {A : Around} (r : Room (k + 1) A) (env : Env) : Room k (A.deeper env) :=
  ⟨r.hd, by have := r.dp; show A.depth + 1 + 3 * k + 5 < _; omega, by have := r.un; show A.units + 3 + 16 * k + 200 < _; omega⟩
theorem Room.depth {k : Nat} {A : Around} (r : Room k A) : A.depth < recursionLimit := by have := r.dp; omega
theorem Room.units {k : Nat} {A : Around} (r : Room k A) : A.units + 64 < cLine := by have := r.un; omega
/-! ### argument lists and displays -/
def tNil : TA := fun _ H Q => Q [] H
def tCons (ta : TE) (tr : TA) : TA := fun σ H Q => ta σ H fun x H1 => tr σ H1 fun xs H2 => Q (x :: xs) H2
section
variable {X : Cx} {e : Expr} {es : List Expr} {te : TE} {t : TA} {pos : Pos}
theorem pa_nil : PA X [] tNil := ⟨fun _ _ _ _ H Q I h => Calls.spliced_nil ⟨[], H, I, .nil, h⟩⟩
theorem pa_cons (ha : PE X e te) (hr : PA X es t) (hs : starEach (e :: es) X.env = (false, eval e X.env) :: starEach es X.env := by rfl) : PA X (e :: es) (tCons te t) := by
  constructor; intro pos pins s σ H Q I h
  rw [hs]
  show wpAny _ _ (spliced ((false, eval e X.env) :: backTo pos (starEach es X.env))) _ _ s
  refine Calls.spliced_cons (thn (ha pins s σ H _ I h) fun u s1 ⟨x, H1, I1, r1, q1⟩ => ?_)
  exact thn (hr pos pins s1 σ H1 _ I1 q1) fun us s2 ⟨xs, H2, I2, r2, q2⟩ => ⟨x :: xs, H2, I2, .cons r1 r2, q2⟩

/-- a tuple, a list of written items -/
def tTup (t : TA) : TE := fun σ H Q => t σ H fun xs H1 => xs.length ≤ sizeLine ∧ ∀ p, H1 p = none → Q (.ref p) (upd H1 p (.tup xs))
def tLst (t : TA) : TE := fun σ H Q => t σ H fun xs H1 => xs.length ≤ sizeLine ∧ ∀ p, H1 p = none → Q (.ref p) (upd H1 p (.lst xs))
theorem pe_tup {x1} (h : PA X es t) : PE X (.Tuple es x1 pos) (tTup t) := by
  constructor; intro pins s σ H Q I hq
  refine wpAny_Tuple_spliced (thn (h pos pins s σ H _ I hq) fun us s1 ⟨xs, H1, I1, r, z, q⟩ => ⟨by rw [← r.length]; exact z, ?_⟩)
  have hf : H1 s1.heap.objs.size = none := I1.hok.fresh (Nat.le_refl _)
  refine ⟨.ref s1.heap.objs.size, upd H1 s1.heap.objs.size (.tup xs), I1.laid (t' := s1.toks) (fun b u e => Heap.get?_push_of_some _ e) (Nat.le_refl _) ?_, rfl, q _ hf⟩
  exact ⟨z, us, r, ⟨_, Heap.get?_push_size _ rfl, rfl, _, rfl⟩⟩
theorem pe_lst (h : PA X es t) : PE X (.List es pos) (tLst t) := by
  constructor; intro pins s σ H Q I hq
  refine wpAny_List_spliced (thn (h pos pins s σ H _ I hq) fun us s1 ⟨xs, H1, I1, r, z, q⟩ => ⟨by rw [← r.length]; exact z, ?_⟩)
  have hf : H1 s1.heap.objs.size = none := I1.hok.fresh (Nat.le_refl _)
  refine ⟨.ref s1.heap.objs.size, upd H1 s1.heap.objs.size (.lst xs), I1.laid (t' := s1.toks) (fun b u e => Heap.get?_push_of_some _ e) (Nat.le_refl _) ?_, rfl, q _ hf⟩
  exact ⟨z, us, 0, r, Heap.get?_push_size _ rfl⟩
end

/-! ### what a def promises -/
/-- a def's promise: the bound arguments in the parameters' order, the heap, the wanted end, the wanted exception -/
abbrev Sp := List V → Hp → VK → XK → Prop
/-- how an exception lies behind a call (file 08 gives it): the callers' frames, abstract heap and state ahead of the call, the wish, the exception, the state -/
abbrev CXT := List Env → Hp → Shared → XK → Value → Shared → Prop

/-- the state at a call -/
structure Env0 (P : Program) (w : World) (K : PySem.W.Frag) (mg : Str → Option Value) (base : Heap) (A : Around) (outer : List Env) (s : Shared) (H : Hp) : Prop where
  frames : A.frames = some outer
  mod : Mod K mg base
  bs : ∀ b o, base.get? b = some o → s.heap.get? b = some o ∧ H b = none
  bsz : base.objs.size ≤ s.heap.objs.size
  funs : s.heap.FunFrames base outer
  frf : ∀ b ∈ frs outer, H b = none
  hok : HOk P w H s.heap
  bare : AllBare s.gens
/-- a call's end -/
def CE (outer : List Env) (P : Program) (w : World) (H : Hp) (s : Shared) (Q : VK) (u : Value) (s' : Shared) : Prop :=
  ∃ v H', s'.os = s.os ∧ AllBare s'.gens ∧ Un (frs outer) [] H H' s.heap s'.heap ∧ HOk P w H' s'.heap ∧ RelV v u ∧ Q v H'
def CR (CX : CXT) (outer : List Env) (P : Program) (w : World) (H : Hp) (s : Shared) (Q : VK) (E : XK) (r : Result) (s' : Shared) : Prop :=
  match r with
  | .ok (.ret u) => CE outer P w H s Q u s'
  | .ok _ => False
  | .error e => CX outer H s E e s'
structure FnOk (P : Program) (w : World) (K : PySem.W.Frag) (mg : Str → Option Value) (base : Heap) (CX : CXT) (k : Nat) (f : Addr) (fd : FuncData) (ps : List Str) (sp : Sp) : Prop where
  len : ∀ vs H Q E, sp vs H Q E → vs.length = ps.length
  run : ∀ (A : Around) (outer : List Env) (s : Shared) (H : Hp) (args : Args) (us : List Value) (vs : List V) (Q : VK) (E : XK), Room k A → Env0 P w K mg base A outer s H → BindsTo s fd args (ps.zip us) → Vals vs us → sp vs H Q E →
    codeAny (model P w) A (.call (.ref f) args) (CR CX outer P w H s Q E) s
theorem FnOk.mono {P : Program} {w : World} {K : PySem.W.Frag} {mg : Str → Option Value} {base : Heap} {CX : CXT} {j k : Nat} {f : Addr} {fd : FuncData} {ps : List Str} {sp : Sp} (F : FnOk P w K mg base CX j f fd ps sp) (h : j ≤ k) :
    FnOk P w K mg base CX k f fd ps sp := ⟨F.len, fun A outer s H args us vs Q E hr => F.run A outer s H args us vs Q E (hr.mono h)⟩
section
variable {X : Cx} {pins : List (Addr × Obj)} {σ : St} {H : Hp} {s s' : Shared}
/-- from a body: what a callee wants -/
theorem Inv.env0 (I : Inv X pins σ H s) : Env0 X.prog X.w X.K X.mg X.base X.A X.stack s H :=
  ⟨I.ok.frames, I.ok.mod, I.bs, Nat.le_trans I.ok.bsz I.sz, I.stack, I.stkFree, I.hok, I.bare⟩
/-- behind a call -/
theorem Inv.after {Q : VK} {u : Value} (I : Inv X pins σ H s) (h : CE X.stack X.prog X.w H s Q u s') : EP X pins σ Q u s' := by
  obtain ⟨v, H', os, bare, un, hok, r, q⟩ := h
  obtain ⟨hh, g, d, t, os'⟩ := s'
  obtain rfl : os' = s.os := os
  exact ⟨v, H', I.call (h' := hh) (g' := g) (d' := d) (t' := t) (ch := []) un hok bare (fun b z => absurd z (by simp)), r, q⟩
end

/-! ### calls -/
/-- f(..): the written arguments, then the defaults dvs; E: what is wanted of an exception -/
def tCall (sp : Sp) (dvs : List V) (E : XK) (t : TA) : TE := fun σ H Q => t σ H fun vs H1 => sp (vs ++ dvs) H1 Q E
/-- how the parameters are bound: us the positional arguments, kw the keywords' values by name, ds the defaults that fill up -/
def Binds (K : PySem.W.Frag) (fd : FuncData) (ps : List Str) (ds : List Value) : Prop :=
  ∀ (s : Shared) (us : List Value), K.In s.heap → (us ++ ds).length = ps.length → BindsTo s fd ⟨us, []⟩ (ps.zip (us ++ ds))
/-- every parameter is given -/
theorem Binds.all {K : PySem.W.Frag} {fd : FuncData} {ps : List Str} (h : ∀ us : List Value, us.length = ps.length → bindArgs fd ⟨us, []⟩ = pure (ps.zip us)) : Binds K fd ps [] := fun s us _ hl => by
  rw [List.append_nil] at hl ⊢
  exact .of_eq (h us hl)

/-- an exception of a callee reaches what this body wants of exceptions -/
def Passes (CX : CXT) (X : Cx) (E : XK) : Prop := ∀ (pins : List (Addr × Obj)) (σ : St) (H : Hp) (s : Shared) (e : Value) (s' : Shared), Inv X pins σ H s → CX X.stack H s E e s' → X.xe e s'

section
variable {X : Cx} {CX : CXT} {k : Nat} {f C : Addr} {fd : FuncData} {ps : List Str} {sp : Sp} {dvs : List V} {ds : List Value} {E : XK} {x m : Str} {p pos apos : Pos} {e o : Expr} {es : List Expr} {ta : TE} {t : TA}

/-- the callee runs -/
theorem run_fn {pins : List (Addr × Obj)} {σ : St} {H : Hp} {s : Shared} {Q : VK} {us : List Value} {vs : List V} (F : FnOk X.prog X.w X.K X.mg X.base CX k f fd ps sp) (hr : Room k X.A) (hb : Binds X.K fd ps ds) (hd : Vals dvs ds) (hx : Passes CX X E)
    (I : Inv X pins σ H s) (r : Vals vs us) (h : sp (vs ++ dvs) H Q E) : wpAny (model X.prog X.w) X.A (call (.ref f) us) (EP X pins σ Q) X.xe s := by
  have r2 : Vals (vs ++ dvs) (us ++ ds) := r.append hd
  have hl : (us ++ ds).length = ps.length := by rw [← r2.length]; exact F.len _ _ _ _ h
  refine wpAny_call (codeAny_mono (F.run X.A X.stack s H ⟨us, []⟩ (us ++ ds) (vs ++ dvs) Q E hr I.env0 (hb s us I.kIn hl) r2 h) fun r s' hq => ?_)
  cases r with
  | error e => exact hx pins σ H s e s' I hq
  | ok fl =>
    cases fl with
    | ret u => exact I.after hq
    | next => exact False.elim hq
    | brk => exact False.elim hq
    | cont => exact False.elim hq

theorem pe_call (F : FnOk X.prog X.w X.K X.mg X.base CX k f fd ps sp) (hr : Room k X.A) (hg : Gl X x) (hm : X.mg x = some (.ref f)) (hk : PySem.W.keepIn X.K (.ref f) = true) (hb : Binds X.K fd ps ds) (hd : Vals dvs ds) (hx : Passes CX X E)
    (ha : PA X (e :: es) t) (hdb : (x == ("__debug__" : Str)) = false := by decide) (he : starEach (e :: es) X.env = (false, eval e X.env) :: starEach es X.env := by rfl) (hpl : (backTo pos (starEach es X.env)).any (·.1) = false := by rfl) :
    PE X (.Call (.Name x p) (e :: es) [] pos) (tCall sp dvs E t) := by
  constructor; intro pins s σ H Q I h
  refine wpAny_Call_Name_kw (ld_glob I hg hm ?_ hdb)
  refine PySem.W.callWith_K (h₀ := X.base) I.ok.mod.kin hk (thn (ha pos pins s σ H _ I h) fun us s1 ⟨vs, H1, I1, r, q⟩ => ⟨I1.kIn, ?_⟩) he hpl
  exact run_fn F hr hb hd hx I1 r q
/-- what a class must have to be made -/
structure Mk (K : PySem.W.Frag) (C f : Addr) : Prop where
  makes : PySem.W.makesIn K C = true
  init : PySem.W.findIn K (.ref C) "__init__" = some (some (.ref f))
  fn : PySem.W.isFn K (.ref f) = true
  kp : PySem.W.keepIn K (.ref C) = true

end

/-! ### keywords -/
/-- the values of the keywords, from the left -/
structure PK (X : Cx) (kws : List Keyword) (t : TA) : Prop where
  run : ∀ (pos : Pos) (pins : List (Addr × Obj)) (s : Shared) (σ : St) (H : Hp) (Q : List V → Hp → Prop), Inv X pins σ H s → t σ H Q → wpAny (model X.prog X.w) X.A (evalAll ((backToKw pos (keywordEach kws X.env)).map (·.2))) (AP X pins σ Q) X.xe s
instance {X : Cx} {kws : List Keyword} {t : TA} : CoeFun (PK X kws t) fun _ => ∀ (pos : Pos) (pins : List (Addr × Obj)) (s : Shared) (σ : St) (H : Hp) (Q : List V → Hp → Prop), Inv X pins σ H s → t σ H Q → wpAny (model X.prog X.w) X.A (evalAll ((backToKw pos (keywordEach kws X.env)).map (·.2))) (AP X pins σ Q) X.xe s := ⟨PK.run⟩
section
variable {X : Cx} {CX : CXT} {k : Nat} {f C : Addr} {fd : FuncData} {ps ks : List Str} {sp : Sp} {E : XK} {x m : Str} {p pos apos kpos : Pos} {e o : Expr} {es : List Expr} {kws : List Keyword} {te ta : TE} {t tk : TA} {nm : Option Str}
/-- how a call with keywords binds: g puts the positional values us and the keywords' values ws (names ks) in the parameters' order, defaults among them -/
structure KBinds (K : PySem.W.Frag) (fd : FuncData) (ps ks : List Str) (g : List Value → List Value → List Value) (gV : List V → List V → List V) : Prop where
  to : ∀ (s : Shared) (us ws : List Value), K.In s.heap → (g us ws).length = ps.length → BindsTo s fd ⟨us, ks.zip ws⟩ (ps.zip (g us ws))
  rel : ∀ {vs : List V} {us : List Value} {zs : List V} {ws : List Value}, Vals vs us → Vals zs ws → Vals (gV vs zs) (g us ws)
variable {g : List Value → List Value → List Value} {gV : List V → List V → List V}
end

/-! ### a def's body keeps its promise -/
/-- names: the parameters first -/
structure FnScope (N P : List Str) (sc : Scope) : Prop where
  kind : sc.kind = .function
  co : sc.isCoroutine = false
  gen : sc.isGenerator = false
  nd : N.Nodup
  pre : N.take P.length = P
  par : ∀ x ∈ P, sc.names.lookup x = some .local ∨ sc.names.lookup x = some .cell
  nofree : ∀ y ∈ sc.names, y.2 ≠ .free

theorem bindL_out {kindOf : Str → Option NameKind} {x : Str} : ∀ {binds : List (Str × Value)} {m : Str → Option Value}, (∀ v, (x, v) ∉ binds) → bindL kindOf binds m x = m x
  | [], _, _ => rfl
  | (n, v) :: r, m, h => by
    unfold bindL
    rw [bindL_out fun w hw => h w (List.mem_cons_of_mem _ hw)]
    split
    · have : x ≠ n := by rintro rfl; exact h v List.mem_cons_self
      simp [this]
    · rfl
theorem bindC_out {kindOf : Str → Option NameKind} {x : Str} : ∀ {binds : List (Str × Value)} {m : Str → Option Value}, (∀ v, (x, v) ∉ binds) → bindC kindOf binds m x = m x
  | [], _, _ => rfl
  | (n, v) :: r, m, h => by
    unfold bindC
    rw [bindC_out fun w hw => h w (List.mem_cons_of_mem _ hw)]
    split
    · rfl
    · have : x ≠ n := by rintro rfl; exact h v List.mem_cons_self
      simp [this]
theorem bindL_get {kindOf : Str → Option NameKind} {x : Str} {v : Value} : ∀ {P : List Str} {vs : List Value} {i : Nat} {m : Str → Option Value}, P.Nodup → P[i]? = some x → vs[i]? = some v → kindOf x = some .local →
    bindL kindOf (P.zip vs) m x = some v
  | [], _, _, _, _, h, _, _ => by simp at h
  | _ :: _, [], _, _, _, _, h, _ => by simp at h
  | p :: P, w :: vs, 0, m, nd, h1, h2, hk => by
    simp at h1 h2; subst h1; subst h2
    show bindL kindOf ((p, w) :: P.zip vs) m p = _
    unfold bindL
    rw [bindL_out fun v hv => (List.nodup_cons.mp nd).1 (List.of_mem_zip hv).1, if_pos hk]
    simp
  | p :: P, w :: vs, i + 1, m, nd, h1, h2, hk => by
    show bindL kindOf ((p, w) :: P.zip vs) m x = _
    unfold bindL
    exact bindL_get (i := i) (List.nodup_cons.mp nd).2 (by simpa using h1) (by simpa using h2) hk
theorem bindC_get {kindOf : Str → Option NameKind} {x : Str} {v : Value} : ∀ {P : List Str} {vs : List Value} {i : Nat} {m : Str → Option Value}, P.Nodup → P[i]? = some x → vs[i]? = some v → kindOf x ≠ some .local →
    bindC kindOf (P.zip vs) m x = some v
  | [], _, _, _, _, h, _, _ => by simp at h
  | _ :: _, [], _, _, _, _, h, _ => by simp at h
  | p :: P, w :: vs, 0, m, nd, h1, h2, hk => by
    simp at h1 h2; subst h1; subst h2
    show bindC kindOf ((p, w) :: P.zip vs) m p = _
    unfold bindC
    rw [bindC_out fun v hv => (List.nodup_cons.mp nd).1 (List.of_mem_zip hv).1, if_neg hk]
    simp
  | p :: P, w :: vs, i + 1, m, nd, h1, h2, hk => by
    show bindC kindOf ((p, w) :: P.zip vs) m x = _
    unfold bindC
    exact bindC_get (i := i) (List.nodup_cons.mp nd).2 (by simpa using h1) (by simpa using h2) hk

/-- the names' values at the entry -/
def start (N : List Str) (vs : List V) : St := vs.map some ++ List.replicate (N.length - vs.length) none

/-- the context of a def's body, at its entry; an exception leaves the frame, then lies as CX says -/
def cxOf (CX : CXT) (P : Program) (w : World) (K : PySem.W.Frag) (mg : Str → Option Value) (base : Heap) (N : List Str) (qual : Str) (scope : Scope) (f : Addr) (cd : Value) (A : Around) (outer : List Env) (s : Shared) (H : Hp) (E : XK) : Cx where
  prog := P
  w := w
  K := K
  mg := mg
  base := base
  A := A.deeper (envOfC qual scope s.heap.objs.size f cd)
  N := N
  s₀ := s
  H₀ := H
  env := envOfC qual scope s.heap.objs.size f cd
  outer := outer
  stack := envOfC qual scope s.heap.objs.size f cd :: outer
  ex := []
  calm := true
  fn := fun _ => true
  pn := []
  xe := fun e s' => wpAny (model P w) (A.deeper (envOfC qual scope s.heap.objs.size f cd)) (leaving (envOfC qual scope s.heap.objs.size f cd) e) (fun _ s'' => CX outer H s E e s'') (fun e' s'' => CX outer H s E e' s'') s'

theorem cell_has {sc : Scope} {n : Nat} {x : Str} (h : sc.names.lookup x = some .cell) : ∃ c, (cellsFrom n sc.names []).lookup x = some c := by
  have q := PySem.W.cellsFrom_some sc.names n [] (.inl h)
  exact Option.isSome_iff_exists.mp q

theorem inv_start {CX : CXT} {P : Program} {w : World} {K : PySem.W.Frag} {mg : Str → Option Value} {base : Heap} {N ps : List Str} {qual : Str} {scope : Scope} {f : Addr} {cd : Value} {A : Around} {outer : List Env} {s s1 : Shared} {H : Hp} {E : XK} {us : List Value} {vs : List V}
    (S : FnScope N ps scope) (hd : A.handled = none) (e0 : Env0 P w K mg base A outer s H) (hl : vs.length = ps.length) (r : Vals vs us)
    (x : InCallC s s.heap.objs.size (bindL (envOfC qual scope s.heap.objs.size f cd).kindOf (ps.zip us) fun _ => none) (cellsFrom (s.heap.objs.size + 1) scope.names []) (bindC (envOfC qual scope s.heap.objs.size f cd).kindOf (ps.zip us) fun _ => none) s1) :
    Inv (cxOf CX P w K mg base N qual scope f cd A outer s H E) [] (start N vs) H s1 := by
  have hpl : ps.length ≤ N.length := by have := congrArg List.length S.pre; rw [List.length_take] at this; omega
  obtain ⟨h1, tk, rfl, hk⟩ := x.done
  have noA : ∀ b : Addr, b ∉ (cxOf CX P w K mg base N qual scope f cd A outer s H E).ex := fun b z => absurd (show b ∈ ([] : List Addr) from z) (by simp)
  refine ⟨⟨e0.mod, S.kind, rfl, rfl, Nat.le_refl _, fun y z c h1 h2 => ?_, fun y hy => ?_, fun y c _ h => ?_, fun _ => hd, Around.frames_deeper e0.frames, .inr ⟨rfl, rfl⟩, fun b z => absurd z (noA b), e0.bs, e0.bsz, fun b _ _ => noA b, fun b z => absurd z (noA b), e0.funs, e0.frf⟩,
    rfl, e0.bare, Un.kept hk, ⟨_, x.toInCall.ns, fun i y v h1 h2 h3 => ?_⟩, fun y c h => ⟨_, x.cell y c h⟩, e0.hok.fresh (Nat.le_refl _), fun y c h => ?_, fun p hp => absurd (show p ∈ ([] : List (Addr × Obj)) from hp) (by simp), e0.hok.kept hk, ?_⟩
  · exact name_of_addr x.apart (PySem.mem_of_lookup h1) (PySem.mem_of_lookup h2)
  · have hy : scope.names.lookup y = some .cell ∨ scope.names.lookup y = some .free := hy
    rcases hy with hy | hy
    · exact cell_has hy
    · exact absurd rfl (S.nofree _ (PySem.mem_of_lookup hy))
  · exact Nat.le_of_lt (x.above y c (PySem.mem_of_lookup h))
  · have hi : i < vs.length := by
      unfold start at h2
      by_cases hi : i < vs.length
      · exact hi
      · rw [List.getElem?_append_right (by simpa using hi)] at h2
        rw [List.getElem?_replicate] at h2
        split at h2 <;> cases h2
    have ha : vs[i]? = some v := by
      unfold start at h2
      rw [List.getElem?_append_left (by simpa using hi), List.getElem?_map] at h2
      cases e : vs[i]? with
      | none => rw [e] at h2; cases h2
      | some a => rw [e] at h2; cases h2; rfl
    obtain ⟨u, hu, rv⟩ := r.get ha
    have hp : ps[i]? = some y := by
      rw [← S.pre, List.getElem?_take_of_lt (by omega)]; exact h1
    have ndP : ps.Nodup := by rw [← S.pre]; exact S.nd.sublist (List.take_sublist _ _)
    refine ⟨u, rv, ?_⟩
    rcases S.par y (List.mem_of_getElem? hp) with k | k
    · exact .inl ⟨k, bindL_get ndP hp hu k⟩
    · obtain ⟨c, e⟩ := cell_has (n := s.heap.objs.size + 1) k
      refine .inr ⟨.inl k, c, e, ?_⟩
      have q := x.cell y c e
      rw [bindC_get ndP hp hu (by show scope.names.lookup y ≠ _; rw [k]; decide)] at q
      exact q
  · exact e0.hok.fresh (Nat.le_of_lt (x.above y c (PySem.mem_of_lookup h)))
  · unfold start
    show _ = N.length
    rw [List.length_append, List.length_map, List.length_replicate]
    omega

/-- THE RULE: a def (or a method) of the text, by its body. The body's reading t is chosen for each entry; it is run at the parameters' values -/
theorem fn_of {CX : CXT} {P : Program} {w : World} {K : PySem.W.Frag} {mg : Str → Option Value} {base : Heap} {k : Nat} {f : Addr} {name qual : Str} {params : Arguments} {body : List Stmt} {scope : Scope} {dV kV doc pm cdv ct oc : Value} {an od : Option Addr}
    {osl : Array (Option Value)} {N ps : List Str} {sp : Sp} (lk : K.lookup f = some ⟨oc, od, .func (PySem.W.fnOf name qual params body scope dV kV doc pm an cdv ct), osl⟩) (hcd : PySem.W.codeIn K cdv qual = true) (S : FnScope N ps scope)
    (len : ∀ vs H Q E, sp vs H Q E → vs.length = ps.length)
    (hbody : ∀ (A : Around) (outer : List Env) (s : Shared) (H : Hp) (vs : List V) (Q : VK) (E : XK), Room k (A.deeper (envOfC qual scope s.heap.objs.size f cdv)) → sp vs H Q E →
      ∃ t, PSs (cxOf CX P w K mg base N qual scope f cdv A outer s H E) body t ∧ t { nx := fun _ H' => Q .non H', rt := Q } (start N vs) H) :
    FnOk P w K mg base CX (k + 1) f (PySem.W.fnOf name qual params body scope dV kV doc pm an cdv ct) ps sp := by
  refine ⟨len, fun A outer s H args us vs Q E hr e0 hb r hsp => ?_⟩
  have hl := len _ _ _ _ hsp
  have KX : K.In s.heap := e0.mod.kin.keeps fun b o e => (e0.bs b o e).1
  have lim : s.heap.NoLimit := e0.mod.nolimit.keeps fun b o e => (e0.bs b o e).1
  have hkind : ∀ y ∈ ps.zip us, scope.names.lookup y.1 = some .local ∨ (scope.names.lookup y.1 = some .cell ∧ ((cellsFrom (s.heap.objs.size + 1) scope.names []).lookup y.1).isSome = true) := fun ⟨n, v⟩ hy => by
    rcases S.par n (List.of_mem_zip hy).1 with q | q
    · exact .inl q
    · exact .inr ⟨q, PySem.W.cellsFrom_some _ _ _ (.inl q)⟩
  refine codeAny_call_function hr.depth (KX _ _ lk) rfl S.co S.gen rfl (PySem.W.codeRec_of KX hcd) (hb _ _ _ _ ?_)
  refine wpAny_newFunctionEnv_cells S.kind hkind fun env he s1 x => ?_
  subst he
  refine ⟨lim.keeps x.toInCall.keep, codeAny_func ?_⟩
  obtain ⟨t, ht, hq⟩ := hbody A outer s H vs Q E (hr.deeper _) hsp
  have I : Inv (cxOf CX P w K mg base N qual scope f cdv A outer s H E) [] (start N vs) H s1 := inv_start S hr.hd e0 hl r x
  refine wpAny_mono (ht [] s1 (start N vs) H _ I hq) (fun fl s' hs => ?_) fun e s' hs => hs
  have fin : ∀ {σ' : St} {H' : Hp} {v : V} {u : Value}, Inv (cxOf CX P w K mg base N qual scope f cdv A outer s H E) [] σ' H' s' → RelV v u → Q v H' → CE outer P w H s Q u s' :=
    fun {σ' H' v u} J rv q => ⟨v, H', J.os, J.bare, J.base, J.hok, rv, q⟩
  cases fl with
  | ret u =>
    obtain ⟨v, σ', H', J, rv, q⟩ := hs
    exact fin J rv q
  | next =>
    obtain ⟨σ', H', J, q⟩ := hs
    exact fin (v := V.non) (u := Value.none) J rfl q
  | brk =>
    obtain ⟨_, _, _, q⟩ := hs
    exact False.elim q
  | cont =>
    obtain ⟨_, _, _, q⟩ := hs
    exact False.elim q
end L2

namespace L2
open PySem PySem.Spec PyProof.Rows
section
variable {X : Cx} {x : Str} {p pos : Pos} {e : Expr} {es : List Expr} {t : TA} {id T : String} {r : List V → Hp → VK → Prop}

def tCB (r : List V → Hp → VK → Prop) (t : TA) : TE := fun σ H Q => t σ H fun vs H1 => r vs H1 Q
/-- f(e, ..), f a built-in function -/
theorem pe_callB (hc : CallR X (.builtin id) r) (hg : Gl X x) (hm : X.mg x = none) (hv : bootBuiltins x = some (.builtin id)) (ha : PA X (e :: es) t) (hn : x ≠ "__name__" := by decide) (hdb : (x == ("__debug__" : Str)) = false := by decide)
    (he : starEach (e :: es) X.env = (false, eval e X.env) :: starEach es X.env := by rfl) (hpl : (backTo pos (starEach es X.env)).any (·.1) = false := by rfl) : PE X (.Call (.Name x p) (e :: es) [] pos) (tCB r t) := by
  constructor; intro pins s σ H Q I h
  refine wpAny_Call_Name_kw (ld_blt I hg hm hv ?_ hn hdb)
  exact PyProof.Rows.callWith_builtin1 (thn (ha pos pins s σ H _ I h) fun us s1 ⟨vs, H1, I1, r1, q1⟩ => hc pins s1 σ H1 vs us Q I1 r1 q1) he hpl
/-- T(e, ..), T a built-in type -/
theorem pe_callTy (hc : CallR X (.type T) r) (hg : Gl X x) (hm : X.mg x = none) (hv : bootBuiltins x = some (.type T)) (ha : PA X (e :: es) t) (hn : x ≠ "__name__" := by decide) (hdb : (x == ("__debug__" : Str)) = false := by decide)
    (he : starEach (e :: es) X.env = (false, eval e X.env) :: starEach es X.env := by rfl) (hpl : (backTo pos (starEach es X.env)).any (·.1) = false := by rfl) : PE X (.Call (.Name x p) (e :: es) [] pos) (tCB r t) := by
  constructor; intro pins s σ H Q I h
  refine wpAny_Call_Name_kw (ld_blt I hg hm hv ?_ hn hdb)
  exact PyProof.Rows.callWith_type1 (thn (ha pos pins s σ H _ I h) fun us s1 ⟨vs, H1, I1, r1, q1⟩ => hc pins s1 σ H1 vs us Q I1 r1 q1) he hpl
end
end L2

namespace HT
open PySem PyProof.Rows

section
open PySem.SeqAt
open PySem.AutoSeq1 (wpAny_loadPart')
open PySem.MeetsSeq PySem.MeetsSeq2 PySem.MeetsSeq3

end

section
variable {prog : Program} {w : World} {A : Around} {E : Value → Shared → Prop} {s : Shared}

/-! ### t[a:b], not the whole -/
end
end HT

namespace L2
open PySem PySem.Spec PyProof.Rows

/-! ### the parts of a slice -/
abbrev TO := St → Hp → (Option Int → Hp → Prop) → Prop
/-- a slice's part (left out, or an int) -/
structure PO (X : Cx) (e : Option Expr) (t : TO) : Prop where
  run : ∀ (pins : List (Addr × Obj)) (s : Shared) (σ : St) (H : Hp) (Q : Option Int → Hp → Prop), Inv X pins σ H s → t σ H Q →
    wpAny (model X.prog X.w) X.A (evalPart e X.env) (fun u s' => ∃ o H', Inv X pins σ H' s' ∧ IsPart u o ∧ Q o H') X.xe s
instance {X : Cx} {e : Option Expr} {t : TO} : CoeFun (PO X e t) fun _ => ∀ (pins : List (Addr × Obj)) (s : Shared) (σ : St) (H : Hp) (Q : Option Int → Hp → Prop), Inv X pins σ H s → t σ H Q →
    wpAny (model X.prog X.w) X.A (evalPart e X.env) (fun u s' => ∃ o H', Inv X pins σ H' s' ∧ IsPart u o ∧ Q o H') X.xe s := ⟨PO.run⟩
def tNoPart : TO := fun _ H Q => Q none H
def tPart (t : TE) : TO := fun σ H Q => t σ H fun x H1 => ∃ i, x = .int i ∧ Q (some i) H1

section
variable {X : Cx} {e : Expr} {te : TE} {lo hi : Option Expr} {tl th : TO} {pos p2 : Pos}

theorem po_none : PO X none tNoPart := by
  constructor; intro pins s σ H Q I h
  rw [evalPart_none]
  exact wpAny_pure ⟨none, H, I, .none, h⟩
theorem po_some (h : PE X e te) : PO X (some e) (tPart te) := by
  constructor; intro pins s σ H Q I hw
  rw [evalPart_some]
  refine thn (h pins s σ H _ I hw) fun u s1 ⟨x, H1, I1, r1, q1⟩ => ?_
  obtain ⟨i, rfl, q⟩ := q1
  obtain ⟨t, rfl⟩ := r1
  exact ⟨some i, H1, I1, .int i t, q⟩

/-- what a slice of a value is, by values: the slice object stands at sl -/
def SlR (X : Cx) (r : V → Option Int → Option Int → Hp → VK → Prop) : Prop :=
  ∀ (pins : List (Addr × Obj)) (s : Shared) (σ : St) (H : Hp) (x : V) (v vl vu : Value) (lo hi : Option Int) (sl : Addr) (Q : VK), Inv X pins σ H s → RelV x v → s.heap.IsSliceOf sl vl vu .none → IsPart vl lo → IsPart vu hi → r x lo hi H Q →
    ∃ T id, typeLookup (.type T) "__getitem__" = pure (some (.builtin id)) ∧ s.TypeIs v T ∧ wpAny (model X.prog X.w) X.A (getItem v (.ref sl)) (EP X pins σ Q) X.xe s
def tSl (r : V → Option Int → Option Int → Hp → VK → Prop) (te : TE) (tl th : TO) : TE := fun σ H Q => te σ H fun x H1 => tl σ H1 fun l H2 => th σ H2 fun u H3 => r x l u H3 Q
/-- a[lo:hi], any a -/
theorem pe_slice {r : V → Option Int → Option Int → Hp → VK → Prop} (hr : SlR X r) (he : PE X e te) (hl : PO X lo tl) (hu : PO X hi th) : PE X (.Subscript e (.Slice lo hi none p2) pos) (tSl r te tl th) := by
  constructor; intro pins s σ H Q I h
  refine Subscript_ (thn (he pins s σ H _ I h) fun v s1 ⟨x, H1, I1, r1, q1⟩ => ?_)
  refine wpAny_Slice (thn (hl pins s1 σ H1 _ I1 q1) fun vl s2 ⟨l, H2, I2, pl, q2⟩ => thn (hu pins s2 σ H2 _ I2 q2) fun vu s3 ⟨u, H3, I3, pu, q3⟩ => ?_)
  rw [evalPart_none]
  refine wpAny_pure ?_
  have I4 : Inv X pins σ H3 { s3 with heap := s3.heap.push { cls := .type "slice", data := .fields #[vl, vu, .none] } } := I3.kept (t' := s3.toks) fun b ob q => Heap.get?_push_of_some _ q
  obtain ⟨T, id, hT, ht, hg⟩ := hr pins { s3 with heap := s3.heap.push { cls := .type "slice", data := .fields #[vl, vu, .none] } } σ H3 x v vl vu l u s3.heap.objs.size Q I4 r1 (Heap.IsSliceOf.new ..) pl pu q3
  show wpAny (model X.prog X.w) X.A (subscriptTail e (.Slice lo hi none p2) v (.ref s3.heap.objs.size)) (EP X pins σ Q) X.xe { s3 with heap := s3.heap.push { cls := .type "slice", data := .fields #[vl, vu, .none] } }
  exact tail_any (ops := [.ref s3.heap.objs.size, v]) ht hT hg (by with_unfolding_all rfl)

/-! ### t < u, t + u -/
end
end L2

namespace L2
open PySem PySem.Spec PyProof.Rows

/-! ### places -/
/-- the place that an index of any sign means -/
def ixN (n : Nat) (i : Int) : Option Nat := if 0 ≤ i then (if i < n then some i.toNat else none) else if -(n : Int) ≤ i then some (i + n).toNat else none
def atI {α : Type} (xs : List α) (i : Int) : Option α := (ixN xs.length i).bind fun j => xs[j]?
theorem ixN_seq {n : Nat} {i : Int} {j : Nat} (h : ixN n i = some j) : seqIndex? i n = some j ∧ j < n ∧ -(n : Int) ≤ i ∧ i < n := by
  unfold ixN at h
  by_cases h0 : 0 ≤ i
  · rw [if_pos h0] at h
    by_cases h1 : i < n
    · rw [if_pos h1] at h
      have e : i.toNat = j := Option.some.inj h
      exact ⟨by rw [seqIndex_of h0 h1, e], by omega, by omega, h1⟩
    · rw [if_neg h1] at h; cases h
  · rw [if_neg h0] at h
    by_cases h1 : -(n : Int) ≤ i
    · rw [if_pos h1] at h
      have e : (i + n).toNat = j := Option.some.inj h
      exact ⟨by rw [seqIndex_neg (by omega) h1, e], by omega, h1, by omega⟩
    · rw [if_neg h1] at h; cases h
theorem atI_get {α : Type} {xs : List α} {i : Int} {v : α} (h : atI xs i = some v) : ∃ j, seqIndex? i xs.length = some j ∧ xs[j]? = some v ∧ j < xs.length ∧ -(xs.length : Int) ≤ i ∧ i < xs.length := by
  unfold atI at h
  cases e : ixN xs.length i with
  | none => rw [e] at h; cases h
  | some j =>
    rw [e] at h
    obtain ⟨h1, h2, h3, h4⟩ := ixN_seq e
    exact ⟨j, h1, h, h2, h3, h4⟩
theorem atI_nat {α : Type} {xs : List α} {j : Nat} {v : α} (h : xs[j]? = some v) : atI xs (j : Int) = some v := by
  have hj : j < xs.length := (List.getElem?_eq_some_iff.mp h).1
  have e : ixN xs.length (j : Int) = some j := by
    unfold ixN
    rw [if_pos (by omega), if_pos (by omega)]; simp
  unfold atI; rw [e]; exact h
/-! ### what may be subscripted -/
/-- what stands as an index of a plain subscript -/
def PlainIx (b : Expr) : Prop := ∀ o i, subscripted b false o i = operate [o, i] (getItem o i)
/-- a subscript by values -/
def IxR (X : Cx) (r : R2) : Prop :=
  ∀ (value slice : Expr) (pins : List (Addr × Obj)) (s : Shared) (σ : St) (H : Hp) (x y : V) (v u : Value) (Q : VK), Inv X pins σ H s → RelV x v → RelV y u → r x y H Q →
    subscripted slice false v u = operate [v, u] (getItem v u) → wpAny (model X.prog X.w) X.A (subscriptTail value slice v u) (EP X pins σ Q) X.xe s
/-- a call of a builtin's method by values: the receiver, the arguments -/
def MtR (X : Cx) (id : String) (r : V → List V → Hp → VK → Prop) : Prop :=
  ∀ (pins : List (Addr × Obj)) (s : Shared) (σ : St) (H : Hp) (x : V) (xs : List V) (v : Value) (us : List Value) (Q : VK), Inv X pins σ H s → RelV x v → Vals xs us → r x xs H Q →
    wpAny (model X.prog X.w) X.A (call (.builtin id) (v :: us)) (EP X pins σ Q) X.xe s
section
variable {X : Cx} {a b : Expr} {ta tb : TE} {pos : Pos}
/-- a[b] -/
theorem pe_ix {r : R2} (hr : IxR X r) (ha : PE X a ta) (hb : PE X b tb) (hs : PlainIx b) : PE X (.Subscript a b pos) (tOp r ta tb) := by
  constructor; intro pins s σ H Q I h
  exact Subscript_ (binT ha hb I h fun v u s2 x y H2 I2 rx ry q => hr a b pins s2 σ H2 x y v u Q I2 rx ry q (hs _ _))

def rIxL (K : PySem.W.Frag) : R2 := fun x y H Q => ∃ p xs i v, x = .ref p ∧ y = .int i ∧ SqL K H p xs ∧ atI xs i = some v ∧ Q v H
def rIxS : R2 := fun x y H Q => ∃ z i c, x = .str z ∧ y = .int i ∧ z.length ≤ sizeLine ∧ atI z.cps.toList i = some c ∧ Q (.str ⟨#[c]⟩) H
theorem ix_list : IxR X (rIxL X.K) := by
  intro value slice pins s σ H x y v u Q I rx ry h hs
  obtain ⟨p, xs, i, z, rfl, rfl, hq, he, q⟩ := h
  cases rx
  obtain ⟨t, rfl⟩ := ry
  obtain ⟨its, r, pl, hz⟩ := I.list hq
  obtain ⟨j, h1, h2, h3, h4, h5⟩ := atI_get he
  obtain ⟨w, ew, rw'⟩ := r.get h2
  have hl := r.length
  have hn := line63
  have fin : EP X pins σ Q w s := ⟨z, H, I, rw', q⟩
  by_cases h0 : 0 ≤ i
  · have hj : i.toNat = j := by
      rw [seqIndex_of h0 h5] at h1
      exact Option.some.inj h1
    exact item_listR pl.isList h0 (by omega) (by rw [hj]; simpa using ew) fin hs
  · have hj : (i + (its.toArray.size : Int)).toNat = j := by
      rw [seqIndex_neg (by omega) h4] at h1
      rw [List.size_toArray, ← hl]
      exact Option.some.inj h1
    exact subscriptTail_builtinR (x := w) pl.isList.typeIs slot_list_getitem.lookup
      (wpAny_getItem_list_neg (Q := fun r s' => r = w ∧ EP X pins σ Q r s') pl.isList (by omega) (by rw [List.size_toArray] <;> omega) (by omega) (by rw [hj]; simpa using ew) ⟨rfl, fin⟩) hs
theorem ix_str : IxR X rIxS := by
  intro value slice pins s σ H x y v u Q I rx ry h hs
  obtain ⟨z, i, c, rfl, rfl, hz, he, q⟩ := h
  obtain ⟨t, rfl⟩ := rx
  obtain ⟨t', rfl⟩ := ry
  obtain ⟨j, h1, h2, h3, h4, h5⟩ := atI_get he
  have hl : z.cps.toList.length = z.length := by simp [Str.length]
  rw [hl] at h1 h4 h5
  have hn := line63
  exact tail_any (typeIs_str s z t) slot_str_getitem.lookup (getItem_str (c := c) (by
    have e1 : decide (i < -(2 ^ 63 : Int)) = false := decide_eq_false (by omega)
    have e2 : decide (i ≥ 2 ^ 63) = false := decide_eq_false (by omega)
    rw [e1, e2, Bool.or_false]) (by rw [h1]; simpa using h2) ⟨.str ⟨#[c]⟩, H, I.tok _, ⟨_, rfl⟩, q⟩) hs
/-! ### xs[i] = v, any sign -/
/-! ### slices -/
/-! ### in, not in: flat items -/
def flatV : V → Bool
  | .non => true
  | .bl _ => true
  | .int _ => true
  | .str _ => true
  | _ => false
/-- == of flat values -/
def eqV : V → V → Bool
  | .non, .non => true
  | .bl a, .bl b => a == b
  | .bl a, .int b => (if a then 1 else 0) == b
  | .int a, .bl b => a == (if b then 1 else 0)
  | .int a, .int b => a == b
  | .str a, .str b => a == b
  | _, _ => false
theorem eqAt_V {A : Around} {s : Shared} {y x : V} {u v : Value} (ry : RelV y u) (rx : RelV x v) (fy : flatV y = true) (fx : flatV x = true) : SeqAt.EqAt A s u v (eqV y x) := by
  cases y with
  | non =>
    cases ry
    cases x with
    | non => cases rx; exact SeqAt.EqAt.same _
    | bl b => cases rx; exact SeqAt.EqAt.none_bool b
    | int b => obtain ⟨t, rfl⟩ := rx; exact SeqAt.EqAt.none_int b t
    | str b => obtain ⟨t, rfl⟩ := rx; exact SeqAt.EqAt.none_str b t
    | _ => exact absurd (show false = true from fx) Bool.false_ne_true
  | bl a =>
    cases ry
    cases x with
    | non => cases rx; exact SeqAt.EqAt.bool_none a
    | bl b => cases rx; exact SeqAt.EqAt.bool_bool a b
    | int b => obtain ⟨t, rfl⟩ := rx; exact SeqAt.EqAt.bool_int a b t
    | str b => obtain ⟨t, rfl⟩ := rx; exact SeqAt.EqAt.bool_str a b t
    | _ => exact absurd (show false = true from fx) Bool.false_ne_true
  | int a =>
    obtain ⟨t', rfl⟩ := ry
    cases x with
    | non => cases rx; exact SeqAt.EqAt.int_none a t'
    | bl b => cases rx; exact SeqAt.EqAt.int_bool a t' b
    | int b => obtain ⟨t, rfl⟩ := rx; exact SeqAt.EqAt.int_int a t' b t
    | str b => obtain ⟨t, rfl⟩ := rx; exact SeqAt.EqAt.int_str a t' b t
    | _ => exact absurd (show false = true from fx) Bool.false_ne_true
  | str a =>
    obtain ⟨t', rfl⟩ := ry
    cases x with
    | non => cases rx; exact SeqAt.EqAt.str_none a t'
    | bl b => cases rx; exact SeqAt.EqAt.str_bool a t' b
    | int b => obtain ⟨t, rfl⟩ := rx; exact SeqAt.EqAt.str_int a t' b t
    | str b => obtain ⟨t, rfl⟩ := rx; exact SeqAt.EqAt.str_str a t' b t
    | _ => exact absurd (show false = true from fx) Bool.false_ne_true
  | _ => exact absurd (show false = true from fy) Bool.false_ne_true
/-- the items' answers, read off the values (a value's own answer does not lean on its token) -/
def eqU (x : V) (u : Value) : Bool := match u with
  | .none => eqV .non x
  | .bool b => eqV (.bl b) x
  | .int i _ => eqV (.int i) x
  | .str z _ => eqV (.str z) x
  | _ => false
theorem eqU_of {x y : V} {u : Value} (r : RelV y u) (f : flatV y = true) : eqU x u = eqV y x := by
  cases y with
  | non => cases r; rfl
  | bl b => cases r; rfl
  | int i => obtain ⟨t, rfl⟩ := r; rfl
  | str z => obtain ⟨t, rfl⟩ := r; rfl
  | _ => exact absurd (show false = true from f) Bool.false_ne_true
theorem any_eqU {x : V} : ∀ {xs : List V} {us : List Value}, Vals xs us → xs.all flatV = true → us.any (eqU x) = xs.any fun y => eqV y x
  | _, _, .nil, _ => rfl
  | y :: xs, u :: us, .cons r t, f => by
    rw [List.all_cons, Bool.and_eq_true] at f
    rw [List.any_cons, List.any_cons, eqU_of r f.1, any_eqU t f.2]
theorem mem_eqAt {A : Around} {s : Shared} {x : V} {v : Value} (rx : RelV x v) (fx : flatV x = true) : ∀ {xs : List V} {us : List Value}, Vals xs us → xs.all flatV = true → ∀ u ∈ us, SeqAt.EqAt A s u v (eqU x u)
  | _, _, .nil, _ => fun u hu => by cases hu
  | y :: xs, u :: us, .cons r t, f => fun u' hu => by
    rw [List.all_cons, Bool.and_eq_true] at f
    rcases List.mem_cons.mp hu with rfl | hu
    · rw [eqU_of r f.1]; exact eqAt_V r rx f.1 fx
    · exact mem_eqAt rx fx t f.2 u' hu
def inV (x : V) (xs : List V) : Bool := xs.any fun y => eqV y x
/-- x in a list or tuple of flat items -/
def rIn (K : PySem.W.Frag) (neg : Bool) : R2 := fun x y H Q => ∃ p xs, y = .ref p ∧ (SqL K H p xs ∨ SqT K H p xs) ∧ flatV x = true ∧ xs.all flatV = true ∧ Q (.bl (if neg then !inV x xs else inV x xs)) H
theorem op_in_seq : OpR X (compareOp .In) (rIn X.K false) := by
  intro pins s σ H x y v u Q I rx ry h
  obtain ⟨p, xs, rfl, hq, fx, fs, q⟩ := h
  cases ry
  rcases hq with hq | hq
  · obtain ⟨its, r, pl, hz⟩ := I.list hq
    refine SeqAt.in_listAt (eqU x) pl.isList (fun w hw => mem_eqAt rx fx r fs w (by simpa using hw)) ⟨.bl _, H, I, rfl, ?_⟩
    rw [show its.toArray.any (eqU x) = its.any (eqU x) by simp, any_eqU r fs]
    exact q
  · obtain ⟨its, r, pl, hz⟩ := I.tuple hq
    refine SeqAt.in_tupleAt (eqU x) pl (fun w hw => mem_eqAt rx fx r fs w (by simpa using hw)) ⟨.bl _, H, I, rfl, ?_⟩
    rw [show its.toArray.any (eqU x) = its.any (eqU x) by simp, any_eqU r fs]
    exact q
/-! ### len, list(x), tuple(x) of any list or tuple that is read -/
theorem call_list_of : CallR X (.type "list") (fun xs H Q => ∃ p ys, xs = [.ref p] ∧ (SqL X.K H p ys ∨ SqT X.K H p ys) ∧ ∀ l, H l = none → Q (.ref l) (upd H l (.lst ys))) := by
  intro pins s σ H xs us Q I r h
  obtain ⟨p, ys, rfl, hq, q⟩ := h
  obtain ⟨u, rfl, rx⟩ := vals1 r
  cases rx
  have fin : ∀ (its : List Value), Vals ys its → ys.length ≤ sizeLine → ∀ (h' : Heap) (c' : Nat), (∀ b o', s.heap.get? b = some o' → h'.get? b = some o') →
      h'.get? s.heap.objs.size = some { cls := .type "list", dict := none, data := .seq its.toArray c', slots := #[] } → EP X pins σ Q (.ref s.heap.objs.size) { s with heap := h' } := fun its r' hz h' c' kp e =>
    ⟨.ref s.heap.objs.size, _, I.laid (t' := s.toks) kp (Nat.le_refl _) (show ObjOk X.prog X.w _ h' _ (.lst ys) from ⟨hz, its, c', r', e⟩), rfl, q _ (I.hok.fresh (Nat.le_refl _))⟩
  rcases hq with hq | hq
  · obtain ⟨its, r', pl, hz⟩ := I.list hq
    have hlen := r'.length
    obtain ⟨o, ho, hc, n, hd⟩ := pl.isList
    exact call_list_seq p (.inl rfl) ho hc hd (fun h' c' kp e => fin its r' hz h' c' kp e) (by simp only [List.size_toArray] <;> omega)
  · obtain ⟨its, r', pl, hz⟩ := I.tuple hq
    have hlen := r'.length
    obtain ⟨o, ho, hc, n, hd⟩ := pl
    exact call_list_seq p (.inr rfl) ho hc hd (fun h' c' kp e => fin its r' hz h' c' kp e) (by simp only [List.size_toArray] <;> omega)
/-! ### the call of a builtin's method: o.m(..) -/
/-- the value is of that builtin type -/
def tyV (K : PySem.W.Frag) (T : String) (x : V) (H : Hp) : Prop := match x with
  | .str _ => T = "str"
  | .int _ => T = "int"
  | .ref p => (T = "list" ∧ ∃ xs, SqL K H p xs) ∨ (T = "tuple" ∧ ∃ o, K.lookup p = some o ∧ o.cls = .type "tuple" ∧ o.dict = none) ∨
      (T = "dict" ∧ ((∃ kvs, H p = some (.dK kvs)) ∨ ∃ kvs, H p = some (.dT kvs))) ∨ (T = "set" ∧ ∃ S n, H p = some (.set S n))
  | _ => False
theorem tyV_is {pins : List (Addr × Obj)} {σ : St} {H : Hp} {s : Shared} {T : String} {x : V} {v : Value} (I : Inv X pins σ H s) (r : RelV x v) (ty : tyV X.K T x H) :
    s.TypeIs v T ∧ ∀ a, v = .ref a → ∃ ob, s.heap.get? a = some ob ∧ ob.dict = none := by
  cases x with
  | str z =>
    obtain ⟨t, rfl⟩ := r
    cases (show T = "str" from ty)
    exact ⟨typeIs_str s z t, fun _ e => nomatch e⟩
  | int i =>
    obtain ⟨t, rfl⟩ := r
    cases (show T = "int" from ty)
    exact ⟨typeIs_int s i t, fun _ e => nomatch e⟩
  | ref p =>
    cases r
    rcases ty with ⟨rfl, xs, hq⟩ | ⟨rfl, o, hk, hc, hd⟩ | ⟨rfl, hk⟩ | ⟨rfl, S, n, hk⟩
    · obtain ⟨its, _, pl, _⟩ := I.list hq
      refine ⟨pl.isList.typeIs, fun a e => ?_⟩
      cases e
      obtain ⟨o, n, e, c, hd, _⟩ := pl
      exact ⟨o, e, hd⟩
    · refine ⟨⟨o, I.kIn p o hk, hc⟩, fun a e => ?_⟩
      cases e
      exact ⟨o, I.kIn _ o hk, hd⟩
    · have z : ∃ o, s.heap.get? p = some o ∧ o.ExactDict := by
        rcases hk with ⟨kvs, hk⟩ | ⟨kvs, hk⟩
        · obtain ⟨_, _, _, _, o, _, _, e, ex, _⟩ := I.hok p _ hk
          exact ⟨o, e, ex⟩
        · obtain ⟨_, _, _, _, o, _, _, e, ex, _⟩ := I.hok p _ hk
          exact ⟨o, e, ex⟩
      obtain ⟨o, e, ex⟩ := z
      refine ⟨⟨o, e, ex.1⟩, fun a e2 => ?_⟩
      cases e2
      exact ⟨o, e, ex.2.1⟩
    · obtain ⟨o, _, _, _, e, ex, _⟩ := I.hok p _ hk
      refine ⟨⟨o, e, ex.1⟩, fun a e2 => ?_⟩
      cases e2
      exact ⟨o, e, ex.2.1⟩
  | _ => exact False.elim ty
def tBM0 (K : PySem.W.Frag) (T : String) (r : V → List V → Hp → VK → Prop) (to : TE) : TE := fun σ H Q => to σ H fun x H1 => tyV K T x H1 ∧ r x [] H1 Q
def tBM (K : PySem.W.Frag) (T : String) (r : V → List V → Hp → VK → Prop) (to : TE) (t : TA) : TE := fun σ H Q => to σ H fun x H1 => tyV K T x H1 ∧ t σ H1 fun xs H2 => r x xs H2 Q
variable {o e : Expr} {es : List Expr} {to : TE} {t : TA} {name : Str} {apos cpos : Pos} {T id : String} {r : V → List V → Hp → VK → Prop}
theorem pe_bm0 (pa : PlainAttrs T) (slot : Slot T name id) (hty : typeOf (.builtin id) = pure (.type "method_descriptor")) (hm : MtR X id r) (ho : PE X o to)
    (hbase : attributeBase o name X.env (eval o X.env) = eval o X.env := by rfl) (hline : (apos.endLine == cpos.line) = true := by rfl) : PE X (.Call (.Attribute o name apos) [] [] cpos) (tBM0 X.K T r to) := by
  constructor; intro pins s σ H Q I h
  refine wpAny_Call_method0_late hbase hline (thn (ho pins s σ H _ I h) fun v s1 ⟨x, H1, I1, r1, ty, q1⟩ => ?_)
  obtain ⟨h1, h2⟩ := tyV_is I1 r1 ty
  exact ⟨T, id, pa, slot, hty, h1, h2, Calls.callWith_builtin rfl (PySem.evalArgs_none (hm pins s1 σ H1 x [] v [] Q I1 r1 .nil q1))⟩
theorem pe_bm (pa : PlainAttrs T) (slot : Slot T name id) (hty : typeOf (.builtin id) = pure (.type "method_descriptor")) (hm : MtR X id r) (ho : PE X o to) (ha : PA X (e :: es) t)
    (hbase : attributeBase o name X.env (eval o X.env) = eval o X.env := by rfl)
    (hfew : ((backTo cpos (starEach (e :: es) X.env)).all (fun x => !x.1) && (backToKw cpos (keywordEach [] X.env)).all (fun x => x.1.isSome)
      && decide ((e :: es).length + ([] : List Keyword).length + (if ([] : List Keyword).isEmpty then 0 else 1) < 30)) = true := by rfl)
    (hline : (apos.endLine == cpos.line) = true := by rfl) (hs : starEach (e :: es) X.env = (false, eval e X.env) :: starEach es X.env := by rfl) (hplain : (backTo cpos (starEach es X.env)).any (·.1) = false := by rfl) :
    PE X (.Call (.Attribute o name apos) (e :: es) [] cpos) (tBM X.K T r to t) := by
  constructor; intro pins s σ H Q I h
  refine wpAny_Call_method_late hbase hfew hline rfl (thn (ho pins s σ H _ I h) fun v s1 ⟨x, H1, I1, r1, ty, q1⟩ => ?_)
  obtain ⟨h1, h2⟩ := tyV_is I1 r1 ty
  refine ⟨T, id, pa, slot, hty, h1, h2, ?_⟩
  have hA := ha cpos pins s1 σ H1 _ I1 q1
  rw [hs] at hA ⊢
  refine Calls.callWith_builtin (by show (false || (backTo cpos (starEach es X.env)).any (·.1)) = false; rw [hplain] <;> rfl) (Calls.evalArgs_plain ?_)
  exact thn hA fun us s2 ⟨vs, H2, I2, r2, q2⟩ => hm pins s2 σ H2 x vs v us Q I2 r1 r2 q2
/- xs.append(e), list.index on a module's tuple .. are MtR facts of 06m -/
end
end L2

namespace L2
open PySem PySem.Spec PyProof.Rows

def MtM (X : Cx) (id : String) (r : V → List V → Hp → VK → Prop) : Prop :=
  ∀ (pins : List (Addr × Obj)) (s : Shared) (σ : St) (H : Hp) (x : V) (xs : List V) (v : Value) (us : List Value) (Q : VK), Inv X pins σ H s → RelV x v → Vals xs us → r x xs H Q →
    wpAny (model X.prog X.w) X.A (call (.builtin id) (v :: us)) (EP X pins σ Q) X.xe s

/-! ### lists of values -/
theorem Vals.one : ∀ {x : V} {us : List Value}, Vals [x] us → ∃ u, us = [u] ∧ RelV x u
  | _, _, .cons r .nil => ⟨_, rfl, r⟩
section
variable {X : Cx} {pins : List (Addr × Obj)} {σ : St} {H : Hp} {s : Shared} {l b : Addr} {xs ys zs : List V}

/-! ### the two steps: a tracked list is rewritten, a new list is laid -/
theorem Inv.lset {its its' : List Value} {n : Nat} {f : Array Value → Array Value} {t' : Nat} (I : Inv X pins σ H s) (hH : H l = some (.lst xs))
    (e : s.heap.get? l = some { cls := .type "list", data := .seq its.toArray n }) (hf : f its.toArray = its'.toArray) (hv : Vals ys its') (hz : ys.length ≤ sizeLine) :
    Inv X pins σ (upd H l (.lst ys)) { s with heap := s.heap.update l (Obj.mapSeq f), toks := t' } := by
  have q := PySem.IsL.update e f
  rw [hf] at q
  refine I.write (x := l) (e := l) (by rw [hH]; exact trivial) (.inl rfl) (fun b' u hb hu => (Heap.get?_update_other s.heap (Obj.mapSeq f) (Ne.symm hb)).trans hu) ⟨_, q⟩ ?_
  exact ⟨hz, its', _, hv, q⟩
theorem Inv.lnew {its : List Value} {t' : Nat} (I : Inv X pins σ H s) (hv : Vals ys its) (hz : ys.length ≤ sizeLine) :
    Inv X pins σ (upd H s.heap.objs.size (.lst ys)) { s with heap := s.heap.push { cls := .type "list", data := .seq its.toArray }, toks := t' } :=
  I.laid (fun _ _ q => Heap.get?_push_of_some _ q) (Nat.le_refl _) ⟨hz, its, 0, hv, Heap.get?_push_size _ rfl⟩
theorem Inv.fresh (I : Inv X pins σ H s) : H s.heap.objs.size = none := I.hok.fresh (Nat.le_refl _)
theorem Inv.lstM (I : Inv X pins σ H s) (hH : H l = some (.lst xs)) : xs.length ≤ sizeLine ∧ ∃ (its : List Value) (n : Nat), Vals xs its ∧ xs.length = its.length ∧ s.heap.get? l = some { cls := .type "list", data := .seq its.toArray n } := by
  obtain ⟨z, its, n, r, e⟩ := I.hok l _ hH
  exact ⟨z, its, n, r, r.length, e⟩

end

section
variable {X : Cx}

/-! ### methods -/
def rAppend : V → List V → Hp → VK → Prop := fun x vs H Q => ∃ l xs y, x = .ref l ∧ vs = [y] ∧ H l = some (.lst xs) ∧ xs.length < sizeLine ∧ Q .non (upd H l (.lst (xs ++ [y])))
theorem mt_append : MtM X "list.append" rAppend := by
  intro pins s σ H x vs v us Q I rx rv h
  obtain ⟨l, xs, y, rfl, rfl, hH, hz, q⟩ := h
  cases rx
  obtain ⟨u, rfl, ru⟩ := rv.one
  obtain ⟨z, its, n, r, hl, e⟩ := I.lstM hH
  refine call_meets F.slot_list_append ⟨_, e, rfl⟩ F.entry_list_append (F.args_list_append_2 _ _) (PySem.list_append l its.toArray n u (by rw [List.size_toArray]; omega)) ⟨e, ?_⟩
  refine ⟨.non, _, I.lset (its' := its ++ [u]) hH e (by simp) (r.append (.cons ru .nil)) ?_, rfl, q⟩
  rw [List.length_append, List.length_singleton]
  omega

/-! ### list + list, list += list, list * int -/
def rCat : R2 := fun x y H Q => ∃ l b xs zs, x = .ref l ∧ y = .ref b ∧ H l = some (.lst xs) ∧ H b = some (.lst zs) ∧ xs.length + zs.length ≤ sizeLine ∧ ∀ p, H p = none → Q (.ref p) (upd H p (.lst (xs ++ zs)))
theorem op_cat : OpR X (binaryOp .Add) rCat := by
  intro pins s σ H x y v u Q I rx ry h
  obtain ⟨l, b, xs, zs, rfl, rfl, hH, hB, hz, q⟩ := h
  cases rx
  cases ry
  obtain ⟨z, its, n, r, hl, e⟩ := I.lstM hH
  obtain ⟨z2, its2, n2, r2, hl2, e2⟩ := I.lstM hB
  refine PySem.P.add_list e e2 ?_ (by rw [List.size_toArray, List.size_toArray]; omega)
  have ea : its.toArray ++ its2.toArray = (its ++ its2).toArray := by simp
  rw [ea]
  exact ⟨.ref _, _, I.lnew (t' := s.toks) (r.append r2) (by rw [List.length_append]; omega), rfl, q _ I.fresh⟩
/-! ### del xs[i] -/
end

/-! ### xs[a:b] = ys -/
section
variable {prog : Program} {w : World} {A : Around} {E : Value → Shared → Prop} {s : Shared}
end

section
variable {X : Cx}
end
end L2

namespace L2
open PySem PySem.Spec PyProof.Rows

/-! ### lists of pairs as tables -/
section
variable {κ : Type} [DecidableEq κ]
def valV (kvs : List (κ × V)) (k : κ) : Option V := (kvs.find? fun kv => decide (kv.1 = k)).map (·.2)
/-- in its place, or at the end -/
def putK (kvs : List (κ × V)) (k : κ) (v : V) : List (κ × V) :=
  if (kvs.any fun kv => decide (kv.1 = k)) = true then kvs.map (fun kv => if kv.1 = k then (kv.1, v) else kv) else kvs ++ [(k, v)]
end


/-! ### a tracked dict, its keys ints and texts or tuples of these -/
/-- raw entries of a dict with tuple keys -/
abbrev KT (H : Hp) : List (List Key × V) → List (List Key × Addr × Value) → Prop := Paired fun p q => p.1 = q.1 ∧ H q.2.1 = some (.tup (p.1.map kV)) ∧ RelV p.2 q.2.2
section
variable {P : Program} {w : World} {H : Hp} {h : Heap} {a : Addr}
end

/-- what the dict at a holds at the key y -/
def DGet (H : Hp) (a : Addr) (y : V) (r : Option V) : Prop :=
  (∃ kvs k, Rd H a (.dK kvs) ∧ y = kV k ∧ r = valV kvs k) ∨ ∃ kvs k b, Rd H a (.dT kvs) ∧ y = .ref b ∧ H b = some (.tup (k.map kV)) ∧ r = valV kvs k
/-- the heap behind a[y] = v -/
def DPut (H : Hp) (a : Addr) (y v : V) (H' : Hp) : Prop :=
  (∃ kvs k, H a = some (.dK kvs) ∧ y = kV k ∧ kvs.length < sizeLine ∧ H' = upd H a (.dK (putK kvs k v))) ∨
  ∃ kvs k b, H a = some (.dT kvs) ∧ y = .ref b ∧ H b = some (.tup (k.map kV)) ∧ kvs.length < sizeLine ∧ H' = upd H a (.dT (putK kvs k v))
section
variable {X : Cx} {pins : List (Addr × Obj)} {σ : St} {H : Hp} {s : Shared} {a : Addr} {y v : V} {u r : Value} {o : Option V} {A : Around} {E : Value → Shared → Prop}

end

section
variable {X : Cx} {pins : List (Addr × Obj)} {σ : St} {H : Hp} {s : Shared} {a : Addr} {kvs : List (Key × V)} {k : Key} {u : Value} {A : Around} {E : Value → Shared → Prop}
end


/-! ### readings and rules -/
section
variable {X : Cx} {o i e value : Expr} {pos pos' tpos : Pos} {td ty tv : TE}
end


/-! ### displays -/
section
variable {X : Cx} {pos : Pos}
end

/-! ### methods -/
/-- a method call o.m(e) of a built-in, with one argument: what must be seen of the text -/
structure M1 (X : Cx) (o : Expr) (m : Str) (apos : Pos) (e : Expr) (cpos : Pos) : Prop where
  base : attributeBase o m X.env (eval o X.env) = eval o X.env
  few : ((backTo cpos (starEach [e] X.env)).all (fun x => !x.1) && (backToKw cpos (keywordEach [] X.env)).all (fun x => x.1.isSome)
    && decide (([e] : List Expr).length + ([] : List Keyword).length + (if ([] : List Keyword).isEmpty then 0 else 1) < 30)) = true
  line : (apos.endLine == cpos.line) = true
  trees : backTo cpos (starEach [e] X.env) = [(false, eval e X.env)]
structure M2 (X : Cx) (o : Expr) (m : Str) (apos : Pos) (e f : Expr) (cpos : Pos) : Prop where
  base : attributeBase o m X.env (eval o X.env) = eval o X.env
  few : ((backTo cpos (starEach [e, f] X.env)).all (fun x => !x.1) && (backToKw cpos (keywordEach [] X.env)).all (fun x => x.1.isSome)
    && decide (([e, f] : List Expr).length + ([] : List Keyword).length + (if ([] : List Keyword).isEmpty then 0 else 1) < 30)) = true
  line : (apos.endLine == cpos.line) = true
  trees : backTo cpos (starEach [e, f] X.env) = [(false, eval e X.env), (false, eval f X.env)]

section
variable {X : Cx} {pins : List (Addr × Obj)} {σ : St} {H : Hp} {s : Shared} {a : Addr} {y d : V} {u r : Value} {o : Option V} {A : Around} {E : Value → Shared → Prop}
end

section
variable {X : Cx} {o e f : Expr} {apos cpos : Pos} {td ty tx : TE}
end

/-! ### dict(d): a copy -/
section
variable {X : Cx} {pins : List (Addr × Obj)} {σ : St} {H : Hp} {s : Shared} {a : Addr} {kvs : List (Key × V)} {A : Around} {E : Value → Shared → Prop}
end


section
variable {X : Cx} {pins : List (Addr × Obj)} {σ : St} {H : Hp} {s : Shared} {a : Addr} {y : V} {u : Value} {A : Around} {E : Value → Shared → Prop}
end
end L2

namespace Att
open PySem PySem.W PySem.Calls PyProof.Rows

/-! ### the script -/
theorem ints_of_wellAll {P : Params} {h : Heap} : ∀ (ns : List Int) (vs : List Value), WellAll P h vs (ns.map WData.int) → IntsAre vs ns := by
  intro ns
  induction ns with
  | nil =>
    intro vs w
    rw [List.map_nil] at w
    cases w
    exact .nil
  | cons n ns ih =>
    intro vs w
    rw [List.map_cons] at w
    cases w with
    | cons a b =>
      cases a
      exact .cons _ _ (ih _ b)

theorem script_of {l : OpenLaw} {n : Nat} (hn : l.most = some n) {P : Params} {h : Heap} {args : List WData} {vals : List Value}
    (hpre : l.row.toRowW.claim.pre args = true) (hwl : WellAll P h vals args) :
    ∃ a vs ns, vals = [Value.ref a] ∧ args = [WData.list (ns.map WData.int)] ∧ h.get? a = some { cls := .type "list", data := .seq vs.toArray } ∧ IntsAre vs ns ∧ ns.length ≤ n := by
  have hsh : WShape.hasAll [] args [.list .int] = true := (pre_splitW hpre).1
  have hc : l.pre.holds [] { args := args } = true := (pre_splitW hpre).2
  obtain ⟨d, r, rfl, h1, h2⟩ := hasAllW_cons hsh
  obtain rfl := hasAllW_nil h2
  obtain ⟨xs, rfl, h3⟩ := hasW_list h1
  obtain ⟨ns, rfl⟩ := items_int h3
  have hlen : ns.length ≤ n := by
    unfold OpenLaw.pre at hc
    have h4 : (WTm.not (.lt (.lit (.int (n : Int))) (.len (.arg 0)))).holds [] { args := [.list (ns.map .int)] } = true := by
      have h4 := (holds_andW hc).1
      rw [hn] at h4
      exact h4
    have h5 := condW_of h4 (w_not (w_lt w_lit (w_len_list (w_arg rfl))))
    rw [List.length_map] at h5
    refine Nat.le_of_not_lt fun q => ?_
    have q' : (n : Int) < ((ns.length : Nat) : Int) := by omega
    first
      | (rw [decide_eq_true q'] at h5; exact absurd h5 (by decide))
      | (simp at h5; omega)
  cases hwl with
  | cons w1 w2 =>
    cases w2
    cases w1 with
    | list ho hall => exact ⟨_, _, ns, rfl, rfl, ho, ints_of_wellAll ns _ hall, hlen⟩

theorem post_true (l : OpenLaw) (args : List WData) : l.row.toRowW.claim.post args (.bool true) args = true :=
  postW_of (r := l.row.toRowW) (X := (true == true))
    (show WShape.has [] (.bool true) .bool = true by first | rfl | decide | simp [WShape.has, WShape.arms, WShape.armsAll])
    (show (WTm.eq .res (.lit (.bool true))).value [] { args := args, res := some (.bool true), after := args } = some (.bool (true == true)) from w_eq_bool (w_res rfl) w_lit) rfl

/-! ### the attachment: holds_open's last premise (the goal 'hc' behind k_head) from a wpAny of the law's body -/
/-! ### rules over ANY heap (no ledger) from facts about the written part K: the library's own take a ledger (News) for what they write -/
section
variable {prog : Program} {w : World} {A : Around} {E : Value → Shared → Prop} {s : Shared} {K : Frag}

/-! the whole heap as the ledger: makes every rule that writes through a ledger a rule over any heap -/
def ledger (h : Heap) (L d : Addr) : List (Addr × Obj) := (List.range h.objs.size).filterMap fun a => if a = L ∨ a = d then none else (h.get? a).map fun o => (a, o)
end
end Att

namespace L2
open PySem PySem.Spec PyProof.Rows

theorem vals_ints : ∀ {vs : List Value} {ns : List Int}, IntsAre vs ns → Vals (ns.map V.int) vs
  | _, _, .nil => .nil
  | _, _, .cons n t h => .cons ⟨t, rfl⟩ (vals_ints h)

/-- nothing is tracked but the script, known to the object (or it is an object of the module) -/
def Only (H : Hp) : Prop := ∀ b, H b = none ∨ ∃ o xs, H b = some (.frz o (.lst xs))

/-- THE HEAD: the law's promise, at the heap behind the top. F, the promise of the law's def, may use that base is part of the heap (so K.In base, base.Ns mainGlobals mg stand in Mod) -/
theorem law_call {P : Program} {w : World} {K : PySem.W.Frag} {mg mb : Str → Option Value} {CX : CXT} {k : Nat} {fa a : Addr} {fd : FuncData} {x : Str} {sp : Sp} {s₁ : Shared} {vs : List Value} {ns : List Int}
    (KX : K.In s₁.heap) (hns : s₁.heap.Ns mainGlobals mg) (hb : s₁.heap.Ns builtinsNs mb) (hbb : ∀ x : Str, x ≠ "__name__" → mb x = bootBuiltins x) (hlim : s₁.heap.NoLimit) (hg : s₁.gens = #[])
    (ha : s₁.heap.get? a = some { cls := .type "list", data := .seq vs.toArray }) (hi : IntsAre vs ns) (hl : ns.length ≤ sizeLine) (hr : Room k callerA)
    (F : ∀ base : Heap, K.In base → base.Ns mainGlobals mg → FnOk P w K mg base CX k fa fd [x] sp) (hbind : ∀ (s : Shared) (u : Value), BindsTo s fd ⟨[u], []⟩ [(x, u)])
    (hsp : ∀ H : Hp, Only H → SqL K H a (ns.map V.int) → sp [.ref a] H (fun v _ => v = .bl true) fun _ _ _ => False)
    (hCX : ∀ H e s', CX [] H s₁ (fun _ _ _ => False) e s' → False) :
    codeAny (model P w) callerA (.call (.ref fa) ⟨[.ref a], []⟩) (fun r s' => r = .ok (.ret (.bool true)) ∧ OldK s₁.heap s'.heap ∧ s'.os = s₁.os ∧ AllBare s'.gens) s₁ := by
  have rv := vals_ints hi
  have lenV := hi.length
  -- from an abstract heap in which nothing but the script may be tracked
  have core : ∀ H : Hp, Only H → SqL K H a (ns.map V.int) → HOk P w H s₁.heap → (∀ b, H b ≠ none → b = a) → (H a ≠ none → K.lookup a = none) →
      codeAny (model P w) callerA (.call (.ref fa) ⟨[.ref a], []⟩) (fun r s' => r = .ok (.ret (.bool true)) ∧ OldK s₁.heap s'.heap ∧ s'.os = s₁.os ∧ AllBare s'.gens) s₁ := by
    intro H hO hS hok hA hK
    have base_of : ∀ {b : Addr} {o : Obj}, s₁.heap.get? b = some o → H b = none → (hidT s₁.heap H).get? b = some o := fun e n => hidT_get e n
    have noA : ∀ {b : Addr} {o : Obj} {es : Array DictEntry} {ep : Nat}, s₁.heap.get? b = some o → o.data = .dict es ep → H b = none := fun {b o es ep} e d => by
      cases q : H b with
      | none => rfl
      | some u =>
        have e' : b = a := hA b (by rw [q]; simp)
        subst e'
        rw [ha] at e; cases e
        have d' : Data.seq vs.toArray _ = Data.dict es ep := d
        cases d'
    have nsK : ∀ {b : Addr} {m : Str → Option Value}, s₁.heap.Ns b m → (hidT s₁.heap H).Ns b m := fun {b m} ⟨o, es, ep, e, d, r⟩ => ⟨o, es, ep, base_of e (noA e d), d, r⟩
    have hKb : K.In (hidT s₁.heap H) := fun b o e => base_of (KX b o e) (by
      cases q : H b with
      | none => rfl
      | some u =>
        have e' : b = a := hA b (by rw [q]; simp)
        subst e'
        rw [hK (by rw [q]; simp)] at e; cases e)
    have hM : Mod K mg (hidT s₁.heap H) := ⟨hKb, nsK hns, ⟨mb, nsK hb, hbb⟩, let ⟨mc, h1, h2⟩ := hlim; ⟨mc, nsK h1, h2⟩⟩
    have e0 : Env0 P w K mg (hidT s₁.heap H) callerA [] s₁ H := ⟨rfl, hM, fun b o e => of_hidT e, Nat.le_of_eq (hidT_size _ _), trivial, fun b hb => absurd (show b ∈ ([] : List Addr) from hb) (by simp), hok, .of_eq hg⟩
    refine codeAny_mono ((F _ hKb (nsK hns)).run callerA [] s₁ H ⟨[.ref a], []⟩ [.ref a] [.ref a] _ _ hr e0 (hbind s₁ (.ref a)) (.cons rfl .nil) (hsp H hO hS)) fun r s' h => ?_
    cases r with
    | error e => exact (hCX H e s' h).elim
    | ok fl =>
      cases fl with
      | next => exact False.elim h
      | brk => exact False.elim h
      | cont => exact False.elim h
      | ret u =>
        obtain ⟨v, H', os, bare, un, hok', r', q⟩ := h
        have q' : v = .bl true := q
        subst q'
        obtain rfl : u = Value.bool true := r'
        refine ⟨rfl, OldK.of_keep fun b o e => ?_, os, bare⟩
        cases q : H b with
        | none => exact un.keep b o e q (by intro z; exact absurd (show b ∈ ([] : List Addr) from z) (by simp)) (by simp)
        | some u =>
          rcases hO b with z | ⟨ob, xs, z⟩
          · rw [q] at z; cases z
          · have z2 := un.frzs b ob _ z
            obtain ⟨e1, _⟩ := hok b _ z
            obtain ⟨e2, _⟩ := hok' b _ z2
            rw [e] at e1; cases e1
            exact e2
  cases hk : K.lookup a with
  | some o =>
    -- the script is one of the module's own objects
    have e := KX a o hk
    rw [ha] at e
    cases e
    refine core (fun _ => none) (fun _ => .inl rfl) (.inr ⟨_, vs.toArray, _, hk, rfl, rfl, rfl, by rw [List.size_toArray, lenV]; exact hl, by simpa using rv⟩) (fun b u z => by have z' : (none : Option HO) = some u := z; cases z') (fun b z => absurd rfl z) fun z => absurd rfl z
  | none =>
    refine core (fun b => if b = a then some (.frz { cls := .type "list", data := .seq vs.toArray } (.lst (ns.map V.int))) else none) (fun b => ?_) (.inl (.inr ⟨{ cls := .type "list", data := .seq vs.toArray }, if_pos rfl⟩)) (fun b u z => ?_) (fun b z => ?_) fun _ => hk
    · by_cases hb : b = a
      · exact .inr ⟨_, _, if_pos hb⟩
      · exact .inl (if_neg hb)
    · by_cases hb : b = a
      · have z' := (if_pos hb).symm.trans z
        cases z'
        subst hb
        exact ⟨ha, by rw [List.length_map]; exact hl, vs, _, rv, ha⟩
      · have z' := (if_neg hb).symm.trans z
        cases z'
    · by_cases hb : b = a
      · exact hb
      · exact absurd (if_neg hb) z
end L2

namespace L2
open PySem PySem.Spec PyProof.Rows

abbrev KOf {K : PySem.W.Frag} {h : Heap} (_ : K.In h) : PySem.W.Frag := K

end L2

/- THE LAST THEOREM (shape; LID, My.* are yours):
   My.Adr: a structure of the addresses that your layer names (classes, functions); My.Txt K t: a structure (Prop) of the equations over K;
   My.txt_mk : {K} {implicit addresses ..} (e1 : nsIn K mainGlobals "law" = some (some (.ref f))) (e2 : K.lookup f = some ⟨oc, od, .func (fnOf "law" "law" params body scope dV kV doc pm an cdv ct), sl⟩) (e3 : codeIn K cdv "law" = true) .. : ∃ t, My.Txt K t

set_option maxRecDepth 100000 in
set_option maxHeartbeats 0 in
theorem PySem.Challenge.cw_LID_holds : PySem.Challenge.rw_LID.Holds := by
  w_on; o_law; k_head; (case hw => w_witness2)
  k_fill
  refine L2.walk_of (l := PySem.Challenge.rw_LID) (n := 63) (k := 40) (x := "script") (CX := fun w => ..) (sp := fun _ => My.sp_law) rfl (by decide) rfl ⟨rfl, by decide, by decide⟩ (fun w h Y => PySem.W.kIn_of Y) ?F ?S ?C
  case F =>
    intro w mg fa h KX G hmg
    have T : ∃ t, My.Txt (L2.KOf KX) t := by
      dsimp only [L2.KOf]                          -- K must stand as «<heap const> w.params» for k_is
      refine' My.txt_mk ?e1 ?e2 ?e3 ..
      (case e1 => PySem.W.k_is)                    -- in the order: a name -> its address -> its object -> its parts
      (case e2 => PySem.W.k_is)
      ..
    obtain ⟨t, T⟩ := T
    have e0 := hmg.symm.trans (PySem.W.mg_of KX G T.law)
    cases e0                                       -- fa is the law's own address
    exact ⟨_, fun s u => .of_eq rfl, fun base kb nb => My.law_fn T kb nb⟩     -- if «.of_eq rfl» comes too early: refine' ⟨_, ?b, fun base kb nb => My.law_fn T kb nb⟩; exact fun s u => .of_eq rfl
  case S => exact fun w H a ns hl hO hS => ..
  case C => exact ..
(the tactic k_is has no namespace: write k_is) -/

/-! SHORT WORDS over the layer: a def of the text, its body, what a loop and a test want. -/
namespace L2
open PySem PySem.Spec PyProof.Rows

/-! ### the text by places -/
def defArgs (s : Stmt) : Arguments := match s with
  | .FunctionDef _ a _ _ _ _ _ _ _ _ => a
  | _ => { posonlyargs := [], args := [], vararg := none, kwonlyargs := [], kw_defaults := [], kwarg := none, defaults := [] }
def defBody (s : Stmt) : List Stmt := match s with
  | .FunctionDef _ _ b _ _ _ _ _ _ _ => b
  | _ => []
def defScope (s : Stmt) : Scope := match s with
  | .FunctionDef _ _ _ _ _ _ sc _ _ _ => sc
  | _ => { kind := .function, names := [], isGenerator := false, isCoroutine := false }

/-! ### no exception leaves a def -/
abbrev CX0 : CXT := fun _ _ _ _ _ _ => False
abbrev E0 : XK := fun _ _ _ => False
theorem pass0 {X : Cx} : Passes CX0 X E0 := fun _ _ _ _ _ _ _ h => h.elim

/-! ### a def (or method) of the text as it stands behind the top -/
structure Fun (K : PySem.W.Frag) (x qual : Str) (st : Stmt) (f : Addr) (fd : FuncData) : Prop where
  ex : ∃ (oc : Value) (od : Option Addr) (kV doc pm : Value) (an : Option Addr) (cdv ct : Value) (osl : Array (Option Value)),
    fd = PySem.W.fnOf x qual (defArgs st) (defBody st) (defScope st) .none kV doc pm an cdv ct ∧ K.lookup f = some ⟨oc, od, .func fd, osl⟩ ∧ PySem.W.codeIn K cdv qual = true
  kp : PySem.W.keepIn K (.ref f) = true
section
variable {P : Program} {w : World} {K : PySem.W.Frag} {mg : Str → Option Value} {base : Heap}
/-- THE RULE for a def: its body as a term of rules, and the reading of that term -/
theorem Fun.ok {x qual : Str} {st : Stmt} {f : Addr} {fd : FuncData} {N ps : List Str} {k : Nat} {sp : Sp} (F : Fun K x qual st f fd) (S : FnScope N ps (defScope st)) (len : ∀ vs H Q E, sp vs H Q E → vs.length = ps.length)
    (hbody : ∀ (cdv : Value) (A : Around) (outer : List Env) (s : Shared) (H : Hp) (vs : List V) (Q : VK) (E : XK), Room k (A.deeper (envOfC qual (defScope st) s.heap.objs.size f cdv)) → sp vs H Q E →
      ∃ t, PSs (cxOf CX0 P w K mg base N qual (defScope st) f cdv A outer s H E).nox (defBody st) t ∧ t { nx := fun _ H' => Q .non H', rt := Q } (start N vs) H) : FnOk P w K mg base CX0 (k + 1) f fd ps sp := by
  obtain ⟨oc, od, kV, doc, pm, an, cdv, ct, osl, rfl, lk, hcd⟩ := F.ex
  refine fn_of lk hcd S len fun A outer s H vs Q E hr hsp => ?_
  obtain ⟨t, h, q⟩ := hbody cdv A outer s H vs Q E hr hsp
  exact ⟨t, h.nox, q⟩
/-- how its arguments bind (no defaults): h is «fun _ _ _ _ _ _ us hl => match us, hl with | [_, _], _ => rfl», one _ a parameter -/
theorem Fun.binds {x qual : Str} {st : Stmt} {f : Addr} {fd : FuncData} {ps : List Str} (F : Fun K x qual st f fd)
    (h : ∀ (kV doc pm : Value) (an : Option Addr) (cdv ct : Value) (us : List Value), us.length = ps.length → bindArgs (PySem.W.fnOf x qual (defArgs st) (defBody st) (defScope st) .none kV doc pm an cdv ct) ⟨us, []⟩ = pure (ps.zip us)) : Binds K fd ps [] := by
  obtain ⟨oc, od, kV, doc, pm, an, cdv, ct, osl, rfl, lk, hcd⟩ := F.ex
  exact .all (h kV doc pm an cdv ct)
theorem fun_mk {x qual : Str} {st : Stmt} {f : Addr} {oc : Value} {od an : Option Addr} {osl : Array (Option Value)} {kV doc pm cdv ct : Value} (l : K.lookup f = some ⟨oc, od, .func (PySem.W.fnOf x qual (defArgs st) (defBody st) (defScope st) .none kV doc pm an cdv ct), osl⟩)
    (c : PySem.W.codeIn K cdv qual = true) (k : PySem.W.keepIn K (.ref f) = true) : Fun K x qual st f (PySem.W.fnOf x qual (defArgs st) (defBody st) (defScope st) .none kV doc pm an cdv ct) := ⟨⟨oc, od, kV, doc, pm, an, cdv, ct, osl, rfl, l, c⟩, k⟩
end
/-! ### expressions in short: the name that stands in the i-th slot -/
section
variable {X : Cx}
theorem pv (i : Nat) {x : Str} {pos : Pos} (hN : X.N[i]? = some x := by rfl) (hv : Vis X.env.scope x := by first | exact Or.inl rfl | exact Or.inr (Or.inl rfl) | exact Or.inr (Or.inr rfl)) (hd : (x == ("__debug__" : Str)) = false := by decide)
    (hcd : (x == ("__classdict__" : Str)) = false := by decide) : PE X (.Name x pos) (tVar i) := pe_var hN hv hd hcd
end

/-! ### tests -/
theorem iteF {A B : Prop} (h : B) : if false = true then A else B := by
  rw [if_neg Bool.false_ne_true]
  exact h
theorem iteT {A B : Prop} (h : A) : if true = true then A else B := by
  rw [if_pos rfl]
  exact h
theorem ite2 {c A B : Prop} [Decidable c] (h1 : c → A) (h2 : ¬ c → B) : if c then A else B := by
  by_cases h : c
  · rw [if_pos h]
    exact h1 h
  · rw [if_neg h]
    exact h2 h
theorem iteNS {c A B : Prop} [Decidable c] (hc : c) (h : B) : if (!decide c) = true then A else B := by
  rw [decide_eq_true hc]
  exact iteF h

/-! ### heaps -/
/-- all that was tracked is as it was -/
def Same (H H' : Hp) : Prop := ∀ b o, H b = some o → H' b = some o
theorem Same.refl (H : Hp) : Same H H := fun _ _ h => h
theorem Same.trans {H H1 H2 : Hp} (a : Same H H1) (b : Same H1 H2) : Same H H2 := fun c o h => b c o (a c o h)
theorem Same.free {H H' : Hp} (e : Same H H') {l : Addr} (h : H' l = Option.none) : H l = Option.none := by
  cases q : H l with
  | none => rfl
  | some o =>
    rw [e l o q] at h
    cases h
theorem Same.seq {K : PySem.W.Frag} {H H' : Hp} {a : Addr} {xs : List V} (e : Same H H') (h : SqL K H a xs) : SqL K H' a xs := by
  rcases h with (h | ⟨o, h⟩) | h
  · exact .inl (.inl (e _ _ h))
  · exact .inl (.inr ⟨o, e _ _ h⟩)
  · exact .inr h

end L2

namespace L2
open PySem PySem.Spec PyProof.Rows
section
variable {X : Cx}
end
/-! ### a dict's pairs: keys that differ -/
section
variable {κ : Type} [DecidableEq κ]
end
end L2

/-! ### own rules above the hand layer (namespace My): products of great ints, isinstance, dict(d), d == e of equal dicts, the head with the script's bits -/
namespace My
open PySem PySem.Spec PyProof.Rows L2
section
variable {X : Cx}
theorem call_isi : CallR X (.builtin "isinstance") (fun xs H Q => ∃ x t c b, xs = [x, V.ty c] ∧ TyOf X.K H x t ∧ PySem.W.kitOne X.K t (.type c) = some b ∧ Q (.bl b) H) := by
  intro pins s σ H xs us Q I r h
  obtain ⟨x, t, c, b, rfl, ty, e, q⟩ := h
  obtain ⟨u, w', rfl, ru, rw'⟩ := vals2 r
  cases rw'
  exact isinst_ok I ru ty e fun tk => ⟨.bl b, H, I.tok tk, rfl, q⟩
end
section
variable {K : PySem.W.Frag}
theorem kit_ii : PySem.W.kitOne K (.type "int") (.type "int") = some true := by
  show (if (Value.type "int" == Value.type "int") = true then some true else if PySem.W.kitMeta "int" = true then (fastBuiltinMro "int").map (·.contains (Value.type "int")) else none) = some true
  decide +kernel
theorem kit_ib : PySem.W.kitOne K (.type "int") (.type "bool") = some false := by
  show (if (Value.type "int" == Value.type "bool") = true then some true else if PySem.W.kitMeta "bool" = true then (fastBuiltinMro "int").map (·.contains (Value.type "bool")) else none) = some false
  decide +kernel
theorem kit_ss : PySem.W.kitOne K (.type "str") (.type "str") = some true := by
  show (if (Value.type "str" == Value.type "str") = true then some true else if PySem.W.kitMeta "str" = true then (fastBuiltinMro "str").map (·.contains (Value.type "str")) else none) = some true
  decide +kernel
theorem kit_bb : PySem.W.kitOne K (.type "bool") (.type "bool") = some true := by
  show (if (Value.type "bool" == Value.type "bool") = true then some true else if PySem.W.kitMeta "bool" = true then (fastBuiltinMro "bool").map (·.contains (Value.type "bool")) else none) = some true
  decide +kernel
end
/-! ### d == e -/
def AllInt (kvs : List (Key × V)) : Prop := ∀ kv ∈ kvs, ∃ n, kv.2 = V.int n
/-! ### items -/
theorem atI_lt {α : Type} {xs : List α} {i : Int} (h0 : 0 ≤ i) (h1 : i < xs.length) : ∃ v, atI xs i = some v := by
  have e : ixN xs.length i = some i.toNat := by
    unfold ixN
    rw [if_pos h0, if_pos h1]
  have hl : i.toNat < xs.length := by omega
  refine ⟨xs[i.toNat], ?_⟩
  unfold atI
  rw [e]
  exact List.getElem?_eq_getElem hl
theorem atI_mem {α : Type} {xs : List α} {i : Int} {v : α} (h : atI xs i = some v) : v ∈ xs := by
  obtain ⟨j, _, e, _⟩ := atI_get h
  exact List.mem_of_getElem? e
theorem iteDT {c A B : Prop} [Decidable c] (hc : c) (h : A) : if decide c = true then A else B := by
  rw [if_pos (decide_eq_true hc)]
  exact h
theorem iteDF {c A B : Prop} [Decidable c] (hc : ¬ c) (h : B) : if decide c = true then A else B := by
  rw [if_neg (fun z => hc (of_decide_eq_true z))]
  exact h
theorem int_of_map {ns : List Int} {i : Nat} {y : V} (h : (ns.map V.int)[i]? = some y) : ∃ z, y = V.int z ∧ z ∈ ns := by
  rw [List.getElem?_map] at h
  cases e : ns[i]? with
  | none => rw [e] at h; cases h
  | some z => rw [e] at h; exact ⟨z, (Option.some.inj h).symm, List.mem_of_getElem? e⟩
theorem _root_.L2.Same.upd {H : Hp} {p : Addr} {o : HO} (h : H p = none) : Same H (upd H p o) := fun b u e => by
  rw [upd_ne (ne_of_none e h)]
  exact e
theorem _root_.L2.Same.again {H H' : Hp} {p : Addr} {o : HO} (s : Same H H') (h : H p = none) : Same H (L2.upd H' p o) := fun b u e => by
  rw [upd_ne (ne_of_none e h)]
  exact s b u e
/-! ### bits -/
open Builtin.Int (intBits)
theorem bits_item : ∀ {ns : List Int} {m : Int}, m ∈ ns → intBits m ≤ PySem.W.WData.weightAll (ns.map PySem.W.WData.int)
  | n :: r, m, h => by
    rcases List.mem_cons.mp h with e | e
    · subst e
      simp only [List.map_cons, PySem.W.WData.weightAll, PySem.W.WData.weight, Builtin.Int.intBits]
      omega
    · have z := bits_item e
      simp only [List.map_cons, PySem.W.WData.weightAll]
      omega
theorem bits_of {ns : List Int} (h : PySem.W.WData.layableAll [PySem.W.WData.list (ns.map .int)] = true) : ∀ m ∈ ns, intBits m ≤ 1048576 := fun m hm => by
  have h1 := (PySem.W.layW_cons h).1
  have h2 : PySem.W.WData.weight (.list (ns.map .int)) ≤ 2 ^ 20 := of_decide_eq_true (Bool.and_eq_true_iff.mp h1).2
  have h3 := bits_item hm
  have h4 : PySem.W.WData.weight (.list (ns.map .int)) = PySem.W.WData.weightAll (ns.map .int) := by simp only [PySem.W.WData.weight]
  have e : (2 : Nat) ^ 20 = 1048576 := by decide
  omega
end My
namespace My
open PySem PySem.W PySem.Calls PyProof.Rows L2
theorem walk_ofB {l : PySem.W.OpenLaw} {n k : Nat} {q : Program} {loose : List Str} {XP : (Str → Option Value) → Heap → Prop} {YP : World → Heap → Prop} {d : DefRec} {K : Params → PySem.W.Frag} {CX : World → CXT} {sp : World → Sp} {x : Str}
    (hn : l.most = some n) (hn2 : n ≤ sizeLine) (hdf : d.params.defaults = []) (hr : Room k callerA)
    (hY : ∀ (w : World) (h : Heap), YP w h → (K w.params).In h)
    (F : ∀ (w : World) (mg : Str → Option Value) (fa : Addr) (h : Heap), (K w.params).In h → h.Ns mainGlobals mg → mg d.name = some (.ref fa) →
      ∃ fd : FuncData, (∀ (s : Shared) (u : Value), BindsTo s fd ⟨[u], []⟩ [(x, u)]) ∧
        ∀ base : Heap, (K w.params).In base → base.Ns mainGlobals mg → FnOk l.prog w (K w.params) mg base (CX w) k fa fd [x] (sp w))
    (hsp : ∀ (w : World) (H : Hp) (a : Addr) (ns : List Int), ns.length ≤ n → (∀ m ∈ ns, Builtin.Int.intBits m ≤ 1048576) → Only H → SqL (K w.params) H a (ns.map V.int) → sp w [.ref a] H (fun v _ => v = .bl true) fun _ _ _ => False)
    (hCX : ∀ (w : World) (H : Hp) (s : Shared) (e : Value) (s' : Shared), CX w [] H s (fun _ _ _ => False) e s' → False) :
    PySem.W.WalkO q loose XP YP l.row.toRowW d [] (fun f vs => PySem.call f vs) := by
  intro w s₀ s₁ mg mb G Y fa o pm cd doc dV kV ho hd hcd hD hmg hg args vals as hpre hlay hrd hwl hlo
  obtain rfl : dV = .none := Dflts.none hD hdf
  obtain rfl : kV = .none := Dflts.noKw hD
  obtain ⟨a, vs, ns, rfl, rfl, hobj, hints, hlen⟩ := Att.script_of hn hpre hwl
  have KX := hY w _ Y
  obtain ⟨fd, hb, hF⟩ := F w mg fa _ KX G.T.g hmg
  refine enter_call (codeAny_mono (law_call KX G.T.g G.T.b G.T.builtins G.T.nolimit hg hobj hints (Nat.le_trans hlen hn2) hr hF hb (fun H hO hS => hsp w H a ns hlen (bits_of hlay) hO hS) fun H e s' => hCX w H s₁ e s') fun r s' hq => ?_)
  obtain ⟨rfl, h2, h3, h4⟩ := hq
  exact ⟨.inl ⟨.bool true, .bool true, [], rfl, fun _ => rfl, .bool true, Att.post_true l _, fun _ => ⟨List.Pairwise.nil, fun _ hm => (nomatch hm)⟩⟩, h2, h3, h4⟩
end My
/-! ### data of the abstract heap, compared whatever its depth; sum of a list of ints -/
namespace My
open PySem PySem.Spec PyProof.Rows L2
mutual
inductive Dt (K : PySem.W.Frag) (H : Hp) : V → PyData → Prop where
  | non : Dt K H .non .none
  | bl (b : Bool) : Dt K H (.bl b) (.bool b)
  | int (i : Int) : Dt K H (.int i) (.int i)
  | str (x : Str) : Dt K H (.str x) (.str x)
  | lst {a : Addr} {xs : List V} {ds : List PyData} (h : SqL K H a xs) (r : Dts K H xs ds) : Dt K H (.ref a) (.list ds)
  | tup {a : Addr} {xs : List V} {ds : List PyData} (h : SqT K H a xs) (r : Dts K H xs ds) : Dt K H (.ref a) (.tuple ds)
inductive Dts (K : PySem.W.Frag) (H : Hp) : List V → List PyData → Prop where
  | nil : Dts K H [] []
  | cons {x : V} {d : PyData} {xs : List V} {ds : List PyData} (h : Dt K H x d) (r : Dts K H xs ds) : Dts K H (x :: xs) (d :: ds)
end
section
variable {X : Cx} {pins : List (Addr × Obj)} {σ : L2.St} {H : Hp} {s : Shared}
mutual
theorem Dt.reads (I : Inv X pins σ H s) {v : V} {d : PyData} (h : Dt X.K H v d) {u : Value} (r : RelV v u) : ∃ as, Reads s.heap u d as := by
  cases h with
  | non => cases r; exact ⟨_, .none⟩
  | bl b => cases r; exact ⟨_, .bool b⟩
  | int i => obtain ⟨t, rfl⟩ := r; exact ⟨_, .int i t⟩
  | str x => obtain ⟨t, rfl⟩ := r; exact ⟨_, .str x t⟩
  | lst h q =>
    cases r
    obtain ⟨its, rv, ⟨o, n, e, c, _, dd⟩, _⟩ := I.list h
    obtain ⟨as, z⟩ := Dts.reads I q rv
    exact ⟨_, .list e c dd (by simpa using z)⟩
  | tup h q =>
    cases r
    obtain ⟨its, rv, ⟨o, e, c, n, dd⟩, _⟩ := I.tuple h
    obtain ⟨as, z⟩ := Dts.reads I q rv
    exact ⟨_, .tuple e c dd (by simpa using z)⟩
theorem Dts.reads (I : Inv X pins σ H s) {vs : List V} {ds : List PyData} (h : Dts X.K H vs ds) {us : List Value} (r : Vals vs us) : ∃ as, ReadsAll s.heap us ds as := by
  cases h with
  | nil => cases r; exact ⟨_, .nil⟩
  | cons h q =>
    cases r with
    | cons r1 r2 =>
      obtain ⟨as, z⟩ := Dt.reads I h r1
      obtain ⟨bs, y⟩ := Dts.reads I q r2
      exact ⟨_, .cons z y⟩
end
end
section
variable {X : Cx}
def rEqD (K : PySem.W.Frag) : R2 := fun x y H Q => ∃ da db, Dt K H x da ∧ Dt K H y db ∧ SeqAt.shaped da = true ∧ SeqAt.shaped db = true ∧ Q (.bl (PyData.eqv da db)) H
def rNeD (K : PySem.W.Frag) : R2 := fun x y H Q => ∃ da db, Dt K H x da ∧ Dt K H y db ∧ SeqAt.shaped da = true ∧ SeqAt.shaped db = true ∧ Q (.bl (!PyData.eqv da db)) H
theorem op_eqS (hu : X.A.units + 64 < cLine) : OpR X (compareOp .Eq) (rEqD X.K) := by
  intro pins s σ H x y v u Q I rx ry h
  obtain ⟨da, db, ha, hb, sa, sb, q⟩ := h
  obtain ⟨as, ra⟩ := ha.reads I rx
  obtain ⟨bs, rb⟩ := hb.reads I ry
  exact SeqAt.compareEq_shaped ra rb sa sb hu ⟨.bl _, H, I, rfl, q⟩
theorem op_neS (hu : X.A.units + 64 < cLine) : OpR X (compareOp .NotEq) (rNeD X.K) := by
  intro pins s σ H x y v u Q I rx ry h
  obtain ⟨da, db, ha, hb, sa, sb, q⟩ := h
  obtain ⟨as, ra⟩ := ha.reads I rx
  obtain ⟨bs, rb⟩ := hb.reads I ry
  exact SeqAt.compareNe_shaped ra rb sa sb hu ⟨.bl _, H, I, rfl, q⟩
end
end My
/-! ### y = [elt for x in rows], elt quiet: the rule, and elt = x[1] over a list of tuples -/
namespace My
open PySem PySem.Spec PyProof.Rows L2
theorem obj_some {P : Program} {w : World} {H : Hp} {h : Heap} {a : Addr} {o : HO} (x : ObjOk P w H h a o) : ∃ ob, h.get? a = some ob := by
  cases o with
  | lst xs => obtain ⟨_, _, _, _, e⟩ := x; exact ⟨_, e⟩
  | tup xs => obtain ⟨_, _, _, ob, e, _⟩ := x; exact ⟨_, e⟩
  | dK kvs => obtain ⟨_, _, _, _, o, _, _, e, _⟩ := x; exact ⟨_, e⟩
  | dT kvs => obtain ⟨_, _, _, _, o, _, _, e, _⟩ := x; exact ⟨_, e⟩
  | set S n => obtain ⟨o, _, _, _, e, _⟩ := x; exact ⟨_, e⟩
  | ins C dx fs => obtain ⟨_, _, _, e, _⟩ := x; exact ⟨_, e⟩
  | own y => exact x
  | xd fs => obtain ⟨_, ⟨_, _, _, e, _⟩, _⟩ := x; exact ⟨_, e⟩
  | rng lo hi => obtain ⟨_, _, _, e⟩ := x; exact ⟨_, e⟩
  | frz ob u => obtain ⟨e, _⟩ := x; exact ⟨_, e⟩
  | tbl ps => exact ⟨_, (show h.get? a = some _ from x)⟩
  | met f y => exact ⟨_, (show h.get? a = some _ from x)⟩
  | ext φ => obtain ⟨_, e, _⟩ := x; exact e
section
variable {X : Cx} {pins : List (Addr × Obj)} {σ : L2.St} {H : Hp} {s : Shared}
theorem inv_none (I : Inv X pins σ H s) {D : Addr} (h : s.heap.get? D = none) : H D = none := by
  cases q : H D with
  | none => rfl
  | some u =>
    obtain ⟨ob, e⟩ := obj_some (I.hok D u q)
    rw [h] at e
    cases e
end
end My
/-! ### what noting a frame leaves as it is: the objects' dicts -/
namespace My
open PySem PySem.Spec PyProof.Rows L2
/-- trees that leave every object's dict as it is, and run no code -/
inductive Calm {α : Type} : Sem α → Prop
  | pure (a : α) : Calm (.pure a)
  | raise (e : Value) : Calm (.raise e)
  | stop (x : String) : Calm (.unsupported x)
  | rule {t k} : (∀ u, Calm (k u)) → Calm (.rule t k)
  | at {p k} : (∀ u, Calm (k u)) → Calm (.at p k)
  | load {a p k} : (∀ o, Calm (k o)) → Calm (.load a p k)
  | update {a p f k} : (∀ o : Obj, (f o).dict = o.dict ∧ (o.isFreed = false → (f o).isFreed = false)) → (∀ u, Calm (k u)) → Calm (.update a p f k)
  | alloc {o k} : (∀ a, Calm (k a)) → Calm (.alloc o k)
  | point {l k} : (∀ u, Calm (k u)) → Calm (.point l k)
  | fresh {k} : (∀ u, Calm (k u)) → Calm (.fresh k)
  | stack {k} : (∀ u, Calm (k u)) → Calm (.stack k)
theorem Calm.bind {α β : Type} {t : Sem α} {f : α → Sem β} (h : Calm t) (hf : ∀ a, Calm (f a)) : Calm (t >>= f) := by
  induction h with
  | pure a => exact hf a
  | raise e => exact .raise e
  | stop x => exact .stop x
  | rule _ ih => exact .rule ih
  | «at» _ ih => exact .at ih
  | load _ ih => exact .load ih
  | update h _ ih => exact .update h ih
  | alloc _ ih => exact .alloc ih
  | point _ ih => exact .point ih
  | fresh _ ih => exact .fresh ih
  | stack _ ih => exact .stack ih
/-- the objects' dicts are as they were -/
def DK (h h' : Heap) : Prop := ∀ b o, h.get? b = some o → ∃ o', h'.get? b = some o' ∧ o'.dict = o.dict
theorem DK.refl (h : Heap) : DK h h := fun _ o e => ⟨o, e, rfl⟩
theorem DK.trans {h1 h2 h3 : Heap} (x : DK h1 h2) (y : DK h2 h3) : DK h1 h3 := fun b o e => let ⟨o1, e1, d1⟩ := x b o e; let ⟨o2, e2, d2⟩ := y b o1 e1; ⟨o2, e2, d2.trans d1⟩
theorem DK.upd {h : Heap} {a : Addr} {f : Obj → Obj} (hf : ∀ o : Obj, (f o).dict = o.dict ∧ (o.isFreed = false → (f o).isFreed = false)) : DK h (h.update a f) := fun b o e => by
  by_cases q : b = a
  · subst q
    exact ⟨f o, Heap.get?_update_self _ e ((hf o).2 (Heap.get?_some_iff.mp e).2), (hf o).1⟩
  · exact ⟨o, (Heap.get?_update_ne _ _ _ _ q).trans e, rfl⟩
theorem wp_calm {α : Type} {M : Model} {Γ : PySem.Ctx} {t : Sem α} (c : Calm t) : ∀ {Q : α → Pos → Shared → Prop} {E : Value → Pos → Shared → Prop} {p : Pos} {s : Shared},
    Sem.wp M Γ t Q E p s → Sem.wp M Γ t (fun a p' s' => Q a p' s' ∧ DK s.heap s'.heap) (fun e p' s' => E e p' s' ∧ DK s.heap s'.heap) p s := by
  induction c with
  | pure a => intro Q E p s h; exact ⟨h, .refl _⟩
  | raise e => intro Q E p s h; exact ⟨h, .refl _⟩
  | stop x => intro Q E p s h; exact h
  | rule _ ih => intro Q E p s h; exact ih () h
  | «at» _ ih => intro Q E p s h; exact ih () h
  | load _ ih => intro Q E p s h; obtain ⟨o, e, h⟩ := h; exact ⟨o, e, ih o h⟩
  | update hf _ ih =>
    intro Q E p s h
    obtain ⟨e, h⟩ := h
    refine ⟨e, ?_⟩
    exact Sem.wp_mono M Γ _ (fun a p' s' ⟨q, d⟩ => ⟨q, DK.trans (DK.upd hf) d⟩) (fun e p' s' ⟨q, d⟩ => ⟨q, DK.trans (DK.upd hf) d⟩) _ _ (ih () h)
  | alloc _ ih => intro Q E p s h; exact Sem.wp_mono M Γ _ (fun a p' s' ⟨q, d⟩ => ⟨q, DK.trans (fun b o e => ⟨o, Heap.get?_push_of_some _ e, rfl⟩) d⟩) (fun e p' s' ⟨q, d⟩ => ⟨q, DK.trans (fun b o e => ⟨o, Heap.get?_push_of_some _ e, rfl⟩) d⟩) _ _ (ih _ h)
  | point _ ih => intro Q E p s h; exact ih () h
  | fresh _ ih => intro Q E p s h; exact ih _ h
  | stack _ ih => intro Q E p s h; exact ih _ h
theorem wpAny_calm {α : Type} {M : Model} {A : Around} {t : Sem α} {Q : α → Shared → Prop} {E : Value → Shared → Prop} {s : Shared} (c : Calm t) (h : wpAny M A t Q E s) :
    wpAny M A t (fun a s' => Q a s' ∧ DK s.heap s'.heap) (fun e s' => E e s' ∧ DK s.heap s'.heap) s := fun Γ p hΓ => wp_calm c (h Γ p hΓ)

theorem calm_load (a : Addr) : Calm (load a) := .load fun _ => .pure _
theorem calm_fieldsOf (v : Value) : Calm (fieldsOf v) := by
  unfold fieldsOf
  cases v <;> first | exact .stop _ | skip
  refine Calm.bind (calm_load _) fun o => ?_
  split <;> first | exact .stop _ | exact .pure _
theorem calm_field (v : Value) (i : Nat) : Calm (field v i) := by
  unfold field
  refine Calm.bind (calm_fieldsOf _) fun vs => ?_
  split <;> first | exact .stop _ | exact .pure _
theorem mapFields_calm (f : Array Value → Array Value) (o : Obj) : (Obj.mapFields f o).dict = o.dict ∧ (o.isFreed = false → (Obj.mapFields f o).isFreed = false) := by
  obtain ⟨c, d, da, sl⟩ := o
  cases da <;> exact ⟨rfl, fun h => h⟩
theorem calm_setField (v : Value) (i : Nat) (x : Value) : Calm (setField v i x) := by
  unfold setField
  cases v <;> first | exact .stop _ | skip
  show Calm (updateField _ _ _)
  unfold updateField
  refine Calm.bind (calm_load _) fun o => ?_
  split
  · split
    · exact .update (mapFields_calm _) fun _ => .pure _
    · exact .stop _
  · exact .stop _
theorem calm_setFlight (e : Value) (f : Option Addr) : Calm (setFlight e f) := by
  unfold setFlight
  refine Calm.bind (calm_field _ _) fun tb => ?_
  split
  · exact calm_setField _ _ _
  · exact .pure _
theorem calm_under : Calm underTheClaimsCaller := .stack fun _ => .pure _
theorem calm_ready : ∀ l : List Env, Calm (readyFrames l)
  | [] => .pure _
  | env :: outer => by
    unfold readyFrames
    split
    · refine Calm.bind (calm_load _) fun o => ?_
      split
      · exact .pure _
      · refine Calm.bind ?_ fun imp => Calm.bind ?_ fun back => Calm.bind ?_ fun _ => calm_ready outer
        · unfold behindIsImport
          split
          · exact .pure _
          · split
            · exact .pure _
            · exact Calm.bind (calm_field _ _) fun _ => .pure _
        · unfold keptBack
          split
          · split
            · exact .pure _
            · exact Calm.bind calm_under fun _ => .pure _
          · exact .pure _
        · refine .update (fun o => ⟨rfl, fun h => ?_⟩) fun _ => .pure _
          obtain ⟨c, d, da, sl⟩ := o
          cases da <;> exact h
    · exact .stop _
theorem calm_frameOf (env : Env) : Calm (PySem.frameOf env) := by
  unfold PySem.frameOf
  refine Calm.bind (.stack fun _ => .pure _) fun l => Calm.bind ?_ fun r => ?_
  · unfold frameObject
    split
    · exact .pure _
    · exact Calm.bind (calm_ready _) fun _ => .pure _
  · split
    · exact .pure _
    · exact .stop _
theorem calm_asIs (ty : String) (da : Data) : Calm (newObjAsIs (.type ty) da) := .alloc fun _ => .pure _
theorem calm_newFields (ty : String) (vs : List Value) : Calm (newFields ty vs) := by
  unfold newFields newObj
  dsimp only
  split
  · exact Calm.bind (.stop _) fun _ => calm_asIs _ _
  · exact calm_asIs _ _
theorem calm_newEntry (a b c d e : Value) (pl : List Value) : Calm (EntryCells.newEntry a b c d e pl) := calm_newFields _ _
theorem calm_place (f : Addr) (b : Bool) : Calm (entryPlaceOf f b) := by
  unfold entryPlaceOf
  refine Calm.bind (.stack fun _ => .pure _) fun acts => ?_
  split <;> exact .pure _
theorem calm_noteFrame (e : Value) (env : Env) : Calm (noteFrame e env) := by
  unfold noteFrame
  have last : ∀ (f : Addr) (head : Value), Calm (do setField e 1 (← EntryCells.newEntry head (← PySem.frameOf env) .none (rawInt f) .none (← entryPlaceOf f (head != .none)))) := fun f head =>
    Calm.bind (calm_frameOf _) fun a => Calm.bind (calm_place _ _) fun pl => Calm.bind (calm_newEntry _ _ _ _ _ _) fun b => calm_setField _ _ _
  split
  · refine Calm.bind (calm_field _ _) fun head => ?_
    split
    · refine Calm.bind (calm_field _ _) fun x => ?_
      split
      · exact .pure _
      · exact Calm.bind (calm_setField _ _ _) fun _ => last _ _
    · exact last _ _
  · exact .stop _
theorem calm_leaving (e : Value) (env : Env) : Calm (leaving env e) := Calm.bind (calm_noteFrame _ _) fun _ => calm_setFlight _ _
end My
/-! ### exceptions: raised in a def, passed on by a def, caught by a try around one call -/
namespace My
open PySem PySem.Spec PyProof.Rows L2
/-- how an exception lies behind a call: in flight over B, the objects that B has stay as they are -/
def CXW (P : Program) (w : World) : CXT := fun outer H s E e s' =>
  ∃ (ea : Addr) (cls a0 : Value) (B : Heap) (H' : Hp) (d : Option Addr), e = .ref ea ∧ s'.os = s.os ∧ AllBare s'.gens ∧ Un (frs outer) [] H H' s.heap s'.heap ∧ HOk P w H' s'.heap ∧ Heap.FlyingW B outer ea cls a0 s'.heap ∧
    (∀ b o, s'.heap.get? b = some o → (s.heap.get? b ≠ none ∨ H' b ≠ none) → b ∉ frs outer → B.get? b = some o) ∧ H' ea = none ∧ s.heap.get? ea = none ∧ (∃ o, s'.heap.get? ea = some o ∧ o.dict = d) ∧ E cls d H'
section
variable {X : Cx} {pins : List (Addr × Obj)} {σ : L2.St} {H H' : Hp} {s : Shared} {h1 h2 B : Heap}
theorem frs_obj (I : Inv X pins σ H s) : ∀ b ∈ frs X.stack, ∃ o, s.heap.get? b = some o := fun b hb => let ⟨_, o, e, _⟩ := I.stack.mem hb; ⟨o, e⟩
/-- behind a call that raised: what the state keeps while the exception is noted -/
theorem carry (I : Inv X pins σ H s) (un : Un (frs X.stack) [] H H' s.heap h1) (hok : HOk X.prog X.w H' h1) (bk : ∀ b o, h1.get? b = some o → (s.heap.get? b ≠ none ∨ H' b ≠ none) → b ∉ frs X.stack → B.get? b = some o)
    (hst : ∀ b o, B.get? b = some o → h2.get? b = some o) (hsm : h1.UpToSlots h2) (hfn : ∀ b ∈ frs X.stack, ∃ o, h1.get? b = some o ∧ ∀ vs, o.data ≠ .fields vs) :
    Un (frs X.stack) [] H H' s.heap h2 ∧ HOk X.prog X.w H' h2 ∧ (∀ b o, h2.get? b = some o → (s.heap.get? b ≠ none ∨ H' b ≠ none) → b ∉ frs X.stack → B.get? b = some o) ∧ ∀ b ∈ frs X.stack, H' b = none := by
  have nf : ∀ b ∈ frs X.stack, H' b = none := fun b hb => by
    obtain ⟨o, e⟩ := frs_obj I b hb
    exact un.free b o e (I.stkFree b hb) (by simp)
  have keep : ∀ b o, h1.get? b = some o → (s.heap.get? b ≠ none ∨ H' b ≠ none) → b ∉ frs X.stack → h2.get? b = some o := fun b o e k n => hst b o (bk b o e k n)
  refine ⟨⟨fun b o e n hb _ => ?_, fun b o e n hb _ => ?_, un.free, fun b o e _ => ?_, un.tups, un.frzs, un.tbls⟩, fun a o e => ?_, fun b o e k n => ?_, nf⟩
  · exact keep b o (un.keep b o e n hb (by simp)) (.inl (by rw [e]; simp)) hb
  · obtain ⟨sl, e1⟩ := un.slot b o e n hb (by simp)
    obtain ⟨o', e2, hd⟩ := hfn b hb
    rw [e1] at e2
    cases e2
    obtain ⟨sl', e3⟩ := hsm b _ e1 hd
    exact ⟨sl', e3⟩
  · obtain ⟨o', e1⟩ := un.there b o e (by simp)
    by_cases hb : b ∈ frs X.stack
    · obtain ⟨o2, e2, hd⟩ := hfn b hb
      obtain ⟨sl', e3⟩ := hsm b _ e2 hd
      exact ⟨_, e3⟩
    · exact ⟨o', keep b o' e1 (.inl (by rw [e]; simp)) hb⟩
  · refine (hok a o e).stay (fun b u hb q => keep b u q (.inr ?_) (fun z => ?_)) (fun _ q => q) fun _ _ q => q
    · rcases hb with z | z
      · rw [z, e]; simp
      · rw [z]; simp
    · have q' := nf b z
      rcases hb with z | z
      · rw [z, e] at q'; cases q'
      · rw [z] at q'; cases q'
  · have there1 : ∃ o', h1.get? b = some o' := by
      rcases k with k | k
      · cases q : s.heap.get? b with
        | none => exact (k q).elim
        | some o0 => exact un.there b o0 q (by simp)
      · cases q : H' b with
        | none => exact (k q).elim
        | some u => exact obj_some (hok b u q)
    obtain ⟨o', e1⟩ := there1
    have e2 := bk b o' e1 k n
    have e3 := hst b o' e2
    rw [e] at e3
    cases e3
    exact e2
end
section
variable {P : Program} {w : World} {K : PySem.W.Frag} {mg : Str → Option Value} {base : Heap} {N : List Str} {qual : Str} {scope : Scope} {f : Addr} {cd : Value} {A : Around} {outer : List Env} {s₀ : Shared} {H₀ : Hp} {E : XK}
  {pins : List (Addr × Obj)} {σ : L2.St} {H H' : Hp} {s : Shared}
/-- the frame is left -/
theorem leave_fin {ea : Addr} {d : Option Addr} {cls a0 : Value} {B h1 h2 : Heap} {s1 : Shared} (I : Inv (cxOf (CXW P w) P w K mg base N qual scope f cd A outer s₀ H₀ E) pins σ H s) (hos : s1.os = s.os) (hb : AllBare s1.gens)
    (un : Un (frs (envOfC qual scope s₀.heap.objs.size f cd :: outer)) [] H H' s.heap h1) (hok : HOk P w H' h1)
    (bk : ∀ b o, h1.get? b = some o → (s.heap.get? b ≠ none ∨ H' b ≠ none) → b ∉ frs (envOfC qual scope s₀.heap.objs.size f cd :: outer) → B.get? b = some o)
    (fl : Heap.FlyingW B outer ea cls a0 h2) (hsm : h1.UpToSlots h2) (hfn : ∀ b ∈ frs (envOfC qual scope s₀.heap.objs.size f cd :: outer), ∃ o, h1.get? b = some o ∧ ∀ vs, o.data ≠ .fields vs)
    (n1 : H' ea = none) (n2 : s.heap.get? ea = none) (dd : ∃ o, h2.get? ea = some o ∧ o.dict = d) (hE : E cls d H') : CXW P w outer H₀ s₀ E (.ref ea) { s1 with heap := h2 } := by
  obtain ⟨un2, hok2, bk2, nf⟩ := carry I un hok bk fl.1 hsm hfn
  have sub : ∀ b ∈ frs outer, b ∈ frs (envOfC qual scope s₀.heap.objs.size f cd :: outer) := fun b hb => by
    obtain ⟨env, he, hf⟩ := List.mem_filterMap.mp hb
    exact List.mem_filterMap.mpr ⟨env, List.mem_cons_of_mem _ he, hf⟩
  have notin : ∀ b o, s₀.heap.get? b = some o → b ∉ frs outer → b ∉ frs (envOfC qual scope s₀.heap.objs.size f cd :: outer) := fun b o e hb hm => by
    rcases List.mem_cons.mp (I.stkSub b hm) with z | z
    · exact absurd (Nat.lt_of_lt_of_le (Heap.lt_size e) (z ▸ I.ok.above)) (Nat.lt_irrefl _)
    · exact hb z
  refine ⟨ea, cls, a0, B, H', d, rfl, hos.trans I.os, hb, ⟨fun b o e n hb _ => ?_, fun b o e n hb _ => ?_, fun b o e n _ => ?_, fun b o e _ => ?_, fun b xs e => un2.tups b xs (I.base.tups b xs e), fun b o u e => un2.frzs b o u (I.base.frzs b o u e), fun b ps e => ?_⟩, hok2, fl, fun b o e k hb => ?_, n1, ?_, dd, hE⟩
  · exact un2.keep b o (I.base.keep b o e n hb (by simp [cxOf])) (I.base.free b o e n (by simp [cxOf])) (notin b o e hb) (by simp)
  · obtain ⟨sl, e1⟩ := I.base.slot b o e n hb (by simp [cxOf])
    obtain ⟨sl', e2⟩ := un2.slot b _ e1 (I.base.free b o e n (by simp [cxOf])) (sub b hb) (by simp)
    exact ⟨sl', e2⟩
  · obtain ⟨o', e1⟩ := I.base.there b o e (by simp [cxOf])
    exact un2.free b o' e1 (I.base.free b o e n (by simp [cxOf])) (by simp)
  · obtain ⟨o', e1⟩ := I.base.there b o e (by simp [cxOf])
    exact un2.there b o' e1 (by simp)
  · obtain ⟨m1, e1⟩ := I.base.tbls b ps e
    obtain ⟨m2, e2⟩ := un2.tbls b _ e1
    exact ⟨m1 ++ m2, by rw [e2, Array.append_assoc]⟩
  · rcases k with k | k
    · cases q : s₀.heap.get? b with
      | none => exact (k q).elim
      | some o0 =>
        obtain ⟨o', e1⟩ := I.base.there b o0 q (by simp [cxOf])
        exact bk2 b o e (.inl (by rw [e1]; simp)) (notin b o0 q hb)
    · exact bk2 b o e (.inr k) fun z => k (nf b z)
  · cases q : s₀.heap.get? ea with
    | none => rfl
    | some o0 =>
      obtain ⟨o', e1⟩ := I.base.there ea o0 q (by simp [cxOf])
      rw [n2] at e1
      cases e1
/-- an exception was made in the body, and leaves it -/
theorem raise_leaves {ea : Addr} {cls : Value} {vs : List Value} {h1 : Heap} (I : Inv (cxOf (CXW P w) P w K mg base N qual scope f cd A outer s₀ H₀ E) pins σ H s) (hm : Heap.MadeExcOf s.heap h1 ea cls vs) (hE : E cls none H) :
    (cxOf (CXW P w) P w K mg base N qual scope f cd A outer s₀ H₀ E).xe (.ref ea) { s with heap := h1 } := by
  have hin : ∀ env ∈ (envOfC qual scope s₀.heap.objs.size f cd :: outer), ∀ b, env.frame = some b → b ∈ frs (envOfC qual scope s₀.heap.objs.size f cd :: outer) := fun env he b hb => List.mem_filterMap.mpr ⟨env, he, hb⟩
  have hl := PySem.W.funFrames_hide I.stack hin
  refine wpAny_mono (wpAny_calm (calm_leaving _ _) (wpAny_leaves_madeW (Q := fun _ s' => ∃ h2 t, s' = { s with heap := h2 } ∧ Heap.FlyingW (PySem.W.hideAll s.heap (frs (envOfC qual scope s₀.heap.objs.size f cd :: outer))) outer ea cls (.ref t) h2 ∧ h1.UpToSlots h2)
    (base := PySem.W.hideAll s.heap (frs (envOfC qual scope s₀.heap.objs.size f cd :: outer))) (h := s.heap) I.ok.frames rfl (fun b o q => PySem.W.of_hideAll _ q) hl hm fun h2 t x1 _ _ x4 => ⟨h2, t, rfl, x1, x4⟩)) (fun _ s' ⟨⟨h2, t, e, x1, x4⟩, dk⟩ => ?_) fun _ _ z => z.1
  subst e
  obtain ⟨t', he', _⟩ := hm.there
  refine leave_fin (s1 := { s with heap := h1 }) I rfl I.bare (Un.kept fun b u q => hm.keeps b u q) (I.hok.kept fun b u q => hm.keeps b u q) (fun b o e k n => ?_) x1 x4 (fun b hb => ?_) (inv_none I hm.new) hm.new (dk ea _ he') hE
  · have e1 : ∃ o', s.heap.get? b = some o' := by
      rcases k with k | k
      · cases q : s.heap.get? b with
        | none => exact (k q).elim
        | some o0 => exact ⟨o0, rfl⟩
      · cases q : H b with
        | none => exact (k q).elim
        | some u => exact obj_some (I.hok b u q)
    obtain ⟨o', e1⟩ := e1
    have e2 := hm.keeps b o' e1
    rw [e] at e2
    cases e2
    exact PySem.W.hideAll_get _ e1 n
  · obtain ⟨_, o, e, hd⟩ := I.stack.mem hb
    exact ⟨o, hm.keeps b o e, hd⟩
/-- THE RULE for a def that may raise -/
theorem fun_okW {x qual : Str} {st : Stmt} {f : Addr} {fd : FuncData} {N ps : List Str} {k : Nat} {sp : Sp} (F : Fun K x qual st f fd) (S : FnScope N ps (defScope st)) (len : ∀ vs H Q E, sp vs H Q E → vs.length = ps.length)
    (hbody : ∀ (cdv : Value) (A : Around) (outer : List Env) (s : Shared) (H : Hp) (vs : List V) (Q : VK) (E : XK), Room k (A.deeper (envOfC qual (defScope st) s.heap.objs.size f cdv)) → sp vs H Q E →
      ∃ t, PSs (cxOf (CXW P w) P w K mg base N qual (defScope st) f cdv A outer s H E) (defBody st) t ∧ t { nx := fun _ H' => Q .non H', rt := Q } (start N vs) H) : FnOk P w K mg base (CXW P w) (k + 1) f fd ps sp := by
  obtain ⟨oc, od, kV, doc, pm, an, cdv, ct, osl, rfl, lk, hcd⟩ := F.ex
  exact fn_of lk hcd S len fun A outer s H vs Q E hr hsp => hbody cdv A outer s H vs Q E hr hsp
/-- an own class of exceptions of the text, right or further under ValueError, without an __init__ -/
structure ExcC (K : PySem.W.Frag) (mg : Str → Option Value) (x : Str) (C : Addr) : Prop where
  bound : mg x = some (.ref C)
  ok : PySem.W.excIn K C [.type "ValueError", .type "Exception", .type "BaseException", .type "object"] "ValueError.__new__" = true
end
end My
/-! ### raise, f"{x!r} ..", try around one call: the rules -/
namespace My
open PySem PySem.Spec PyProof.Rows L2
/-- what excIn tells of the class, over a heap that has the written part -/
theorem exc_obj {K : PySem.W.Frag} {h : Heap} {C : Addr} {bmB : List Value} {nid : String} (X : K.In h) (q : PySem.W.excIn K C bmB nid = true) :
    ∃ bm N nm qn bs hd sn sub ab col dd k0 k1 k2 k3 k5, ∃ mN : Str → Option Value, h.get? C = some (excClassObj nm qn C N bs bm hd sn sub ab col dd k0 k1 k2 k3 k5 nid) ∧ h.Ns N mN ∧ mN "__init__" = none ∧ OwnTail h bmB bm := by
  unfold PySem.W.excIn at q
  split at q
  · next dd cdat slots lk =>
    split at q
    · next C2 rest a0 a1 a2 a3 n a5 em es =>
      simp only [Bool.and_eq_true, beq_iff_eq, Bool.not_eq_true'] at q
      obtain ⟨⟨⟨⟨⟨e1, e2⟩, e3⟩, e4⟩, e5⟩, e6⟩ := q
      subst e1 e2
      obtain ⟨c1, c2, c3, c4, c5, c6, c7, c8, c9, c10, c11⟩ := cdat
      dsimp only at em e3 e5 e6
      subst em e3
      obtain ⟨lst⟩ := slots
      have el : lst = [a0, a1, a2, a3, some (.builtin n), a5] := es
      subst el
      refine ⟨rest, _, _, _, _, _, _, _, _, _, dd, a0, a1, a2, a3, a5, h.nsMap c4, X _ _ lk, ?_, ?_, PySem.W.tail_of_in X e4⟩
      · exact .of_isNs (PySem.W.isNs_of_in X e5)
      · exact PySem.W.nsMap_none_of_in X e5 e6
    · cases q
  · cases q
section
variable {P : Program} {w : World} {K : PySem.W.Frag} {mg : Str → Option Value} {base : Heap} {N : List Str} {qual : Str} {scope : Scope} {f : Addr} {cd : Value} {A : Around} {outer : List Env} {s₀ : Shared} {H₀ : Hp} {E : XK}
/-- raise C(e) in a def's body -/
theorem ps_raise {x : Str} {C : Addr} {e₀ : Expr} {te : TE} {np cpos pos : Pos} (T : ExcC K mg x C) (hg : Gl (cxOf (CXW P w) P w K mg base N qual scope f cd A outer s₀ H₀ E) x)
    (he : PE (cxOf (CXW P w) P w K mg base N qual scope f cd A outer s₀ H₀ E) e₀ te) (hd : (x == ("__debug__" : Str)) = false := by decide)
    (ht : backTo cpos (starEach [e₀] (envOfC qual scope s₀.heap.objs.size f cd)) = [(false, eval e₀ (envOfC qual scope s₀.heap.objs.size f cd))] := by rfl) :
    PS (cxOf (CXW P w) P w K mg base N qual scope f cd A outer s₀ H₀ E) (.Raise (some (.Call (.Name x np) [e₀] [] cpos)) none pos) (fun _ σ H => te σ H fun _ H1 => E (.ref C) none H1) := by
  constructor; intro pins s σ H D I h
  obtain ⟨bm, Nn, nm, qn, bs, hdc, sn, sub, ab, col, dd, k0, k1, k2, k3, k5, mN, hC, hN, hni, TL⟩ := exc_obj I.ok.mod.kin T.ok
  refine wpAny_Raise_call_subT (C := C) (nm := nm) (q := qn) (N := Nn) (bs := bs) (bm := bm) (hdct := hdc) (sn := sn) (sub := sub) (ab := ab) (col := col) (dd := dd) (k0 := k0) (k1 := k1) (k2 := k2) (k3 := k3) (k5 := k5)
    PySem.F.excBase_ValueError (mN := mN) (TL.hasType PySem.F.excBase_ValueError.hasBase) (I.ok.hd rfl) ?_ hni (ld_glob I hg T.bound ⟨rfl, ?_⟩ hd)
  · show (backTo cpos (starEach [e₀] (envOfC qual scope s₀.heap.objs.size f cd))).any (·.1) = false
    rw [ht]
    rfl
  · show wpAny _ _ (evalArgs (.ref C) true (backTo cpos (starEach [e₀] (envOfC qual scope s₀.heap.objs.size f cd))) []) _ _ _
    rw [ht]
    refine Calls.evalArgs_plain (Calls.spliced_cons (thn (he pins s σ H _ I h) fun u s1 ⟨v, H1, I1, r1, q1⟩ => Calls.spliced_nil ?_))
    refine ⟨rfl, (by show 1 ≤ sizeLine; decide), I1.bk _ _ hC, hN.keeps I1.bk, TL.keeps I1.bk, fun h' ea hm => raise_leaves I1 hm q1⟩
end
section
variable {X : Cx}
/-- the context within an except suite -/
abbrev markX (X : Cx) (ea : Addr) : Cx := { X with A := X.A.mark (some (.ref ea)), calm := false, xe := fun _ _ => False }
theorem inv_mark {pins : List (Addr × Obj)} {σ : L2.St} {H : Hp} {s : Shared} (I : Inv X pins σ H s) (ea : Addr) : Inv (markX X ea) pins σ H s :=
  ⟨⟨I.ok.mod, I.ok.kind, I.ok.glob, I.ok.blt, I.ok.above, I.ok.inj, I.ok.has, I.ok.cab, (fun z => nomatch z), I.ok.frames, I.ok.stk, I.ok.exf, I.ok.bs, I.ok.bsz, I.ok.noex, I.ok.exfs, I.ok.funs, I.ok.frf⟩, I.os, I.bare, I.base, I.loc, I.cell, I.free, I.freeC, I.pin, I.hok, I.len⟩
theorem inv_unmark {pins : List (Addr × Obj)} {σ : L2.St} {H : Hp} {s : Shared} {ea : Addr} (ok : X.Ok) (I : Inv (markX X ea) pins σ H s) : Inv X pins σ H s :=
  ⟨ok, I.os, I.bare, I.base, I.loc, I.cell, I.free, I.freeC, I.pin, I.hok, I.len⟩
theorem sp_unmark {pins : List (Addr × Obj)} {D : Ends} {fl : Flow} {s : Shared} {ea : Addr} (ok : X.Ok) (h : SP (markX X ea) pins D fl s) : SP X pins D fl s := by
  cases fl with
  | next => obtain ⟨σ', H', I, q⟩ := h; exact ⟨σ', H', inv_unmark ok I, q⟩
  | brk => obtain ⟨σ', H', I, q⟩ := h; exact ⟨σ', H', inv_unmark ok I, q⟩
  | cont => obtain ⟨σ', H', I, q⟩ := h; exact ⟨σ', H', inv_unmark ok I, q⟩
  | ret u => obtain ⟨v, σ', H', I, r, q⟩ := h; exact ⟨v, σ', H', inv_unmark ok I, r, q⟩
end
end My
/-! ### texts: slices, startswith, upper, * n, <=, int(text), [elt for c in text], all(list) -/
namespace My
open PySem PySem.Spec PyProof.Rows L2
section
variable {X : Cx}
theorem sl_str : SlR X (fun x lo hi H Q => ∃ z : Str, x = .str z ∧ z.length ≤ sizeLine ∧ Q (.str (Txt.slice z lo hi)) H) := by
  intro pins s σ H x v vl vu lo hi sl Q I rx hs pl pu h
  obtain ⟨z, rfl, hz, q⟩ := h
  obtain ⟨t, rfl⟩ := rx
  refine ⟨"str", _, PySem.F.slot_str_getitem.lookup, typeIs_str _ _ _, ?_⟩
  have fin : ∀ lo hi, Q (.str (Txt.slice z lo hi)) H → (Txt.slice z lo hi).length ≤ sizeLine ∧ ∀ (t' : Tok) (k : Nat), EP X pins σ Q (.str (Txt.slice z lo hi) t') { s with toks := k } := fun lo hi q =>
    ⟨Nat.le_trans (Txt.slice_le z _ _) hz, fun t' k => ⟨.str _, H, I.tok _, ⟨_, rfl⟩, q⟩⟩
  cases pl with
  | none =>
    cases pu with
    | none => exact wpAny_getItem_str_slice (l := none) (u := none) (st := none) hs rfl (post_val_or_str (fin _ _ q))
    | int j uj => exact wpAny_getItem_str_slice (l := none) (u := some (j, uj)) (st := none) hs rfl (post_val_or_str (fin _ _ q))
  | int i ui =>
    cases pu with
    | none => exact wpAny_getItem_str_slice (l := some (i, ui)) (u := none) (st := none) hs rfl (post_val_or_str (fin _ _ q))
    | int j uj => exact wpAny_getItem_str_slice (l := some (i, ui)) (u := some (j, uj)) (st := none) hs rfl (post_val_or_str (fin _ _ q))
/-- a new object where nothing stood; all else is kept -/
theorem inv_new {pins : List (Addr × Obj)} {σ : L2.St} {H : Hp} {s : Shared} {D : Addr} {h' : Heap} {o : HO} {t' : Nat} (I : Inv X pins σ H s) (k : ∀ b u, s.heap.get? b = some u → h'.get? b = some u) (hD : s.heap.get? D = none)
    (new : ObjOk X.prog X.w (upd H D o) h' D o) : Inv X pins σ (upd H D o) { s with heap := h', toks := t' } := by
  have nD := inv_none I hD
  have neD : ∀ b u, s.heap.get? b = some u → b ≠ D := fun b u e z => by rw [z, hD] at e; cases e
  refine I.un ⟨fun b u q _ _ _ => k b u q, fun b u q _ _ _ => ⟨u.slots, k b u q⟩, fun b u q n _ => by rw [upd_ne (neD b u q)]; exact n, fun b u q _ => ⟨u, k b u q⟩, fun b xs q => by rw [upd_ne (ne_of_none q nD)]; exact q,
    fun b u xs q => by rw [upd_ne (ne_of_none q nD)]; exact q, fun b ps q => ⟨#[], by rw [upd_ne (ne_of_none q nD), q]; simp⟩⟩ fun b u e => ?_
  by_cases hb : b = D
  · subst hb
    rw [upd_same] at e
    cases e
    exact new
  · rw [upd_ne hb] at e
    exact (I.hok b u e).stay (fun c v _ q => k c v q) (fun c q => by rw [upd_ne (ne_of_none q nD)]; exact q) fun c xs q => by rw [upd_ne (ne_of_none q nD)]; exact q
end
end My
namespace My
open PySem PySem.Spec PyProof.Rows L2
section
variable {X : Cx}
theorem mt_upper : MtR X "str.upper" (fun x xs H Q => ∃ z : Str, x = .str z ∧ xs = [] ∧ z.length ≤ 1000 ∧ Q (.str (Txt.upper z)) H) := by
  intro pins s σ H x xs v us Q I rx rv h
  obtain ⟨z, rfl, rfl, hl, q⟩ := h
  obtain ⟨t, rfl⟩ := rx
  cases rv
  exact PyProof.Rows.SCL.upper (Nat.le_trans hl (by decide)) fun _ => ⟨.str _, H, I.tok _, ⟨_, rfl⟩, q⟩
end
end My
/-! ### written numbers and letters, over the signs of a text -/
namespace My
open PySem PySem.Spec PyProof.Rows L2 PySem.NumText
def dig (c : Nat) : Bool := decide (48 ≤ c ∧ c ≤ 57)
def figsL : List Nat → List Nat
  | [] => []
  | c :: r => if c = 45 then r else c :: r
def isFigs : List Nat → Bool
  | [] => false
  | c :: r => !decide (c = 48) && (decide ((c :: r).length ≤ 30) && (c :: r).all dig)
def isNumL (cs : List Nat) : Bool := decide (cs = [48]) || isFigs (figsL cs)
def isLetL : List Nat → Bool
  | [c] => decide (97 ≤ c ∧ c ≤ 122)
  | _ => false
end My
namespace My
open PySem PySem.Spec PyProof.Rows L2 PySem.NumText
def Bad (tx : Str) : Prop := isNumL tx.cps.toList = false ∧ isLetL tx.cps.toList = false ∧ tx.length ≤ 100 ∧ ∀ c ∈ tx.cps.toList, c < 16 ^ 8
end My
/-! ### isinstance(e, C) of an own exception e -/
namespace My
open PySem PySem.Spec PyProof.Rows L2 Builtin Builtin.ObjectAttr Builtin.Getset_descriptor
/-- what the lookups tell along an own class of exceptions -/
structure ExcK (K : PySem.W.Frag) (C : Addr) : Prop where
  it : PySem.W.isClsIn K C = true
  ga : PySem.W.findIn K (.ref C) "__getattribute__" = some (some (.builtin "BaseException.__getattribute__"))
  gt : PySem.W.findIn K (.ref C) "__getattr__" = some none
  cl : PySem.W.findIn K (.ref C) "__class__" = some (some (.builtin "object.__class__"))
  mB : PySem.W.mroIn K C (.type "BaseException") = some true
  mO : PySem.W.mroIn K C (.type "object") = some true
/-- the object at a is of the class at C -/
def IsExc (a C : Addr) (h : Heap) : Prop := ∃ o, h.get? a = some o ∧ o.cls = .ref C
section
variable {prog : Program} {w : World} {A : Around} {E : Value → Shared → Prop} {h : Heap} {g : Array GenState} {d : Drawn} {t : Nat} {os : OsState} {a C : Addr} {o : Obj} {K : PySem.W.Frag}
theorem ec_get {R : Result → Shared → Prop} (X : K.In h) (T : ExcK K C) (hx : h.get? a = some o) (hc : o.cls = .ref C) (hq : R (.ok (.ret (.ref C))) ⟨h, g, d, t, os⟩) :
    codeAny (model prog w) A (.call (.builtin "getset_descriptor.__get__") ⟨[.builtin "object.__class__", .ref a, .ref C], []⟩) R ⟨h, g, d, t, os⟩ := by
  have L0 : PySem.W.Looks (model prog w) h (typeOf (.ref a)) (.ref C) := hc ▸ (PySem.W.Looks.ld hx).andThen .now
  have L1 := PySem.W.looks_mroIn (M := model prog w) X T.mO
  refine codeAny_call_builtin PySem.W.KF.slot_gs.plain PySem.W.KF.entry_gs (PySem.W.KF.slot_gs.check _ _ _ _ _ _ _ _ PySem.W.KF.type_class (PySem.W.KF.args_gs _ _ _) ?_)
  unfold Builtin.«getset_descriptor.__get__» descrGet
  rw [PySem.W.dga_obj]
  refine wpAny_bind (wpAny_pure ?_)
  unfold descrGetter descrCheckInstance descrNameAndClass isInstance
  simp only [PySem.W.KF.owner_class]
  repeat lk
  refine ⟨Code.quiet_builtin _ (by decide +kernel), codeAny_builtin PySem.W.KF.entry_class ?_⟩
  unfold Builtin.«object.__class__» shownTypeOf
  repeat lk
  exact hq
theorem ec_entry {tk : Tok} {Q : Fin → Shared → Prop} (X : K.In h) (T : ExcK K C) (hx : h.get? a = some o) (hc : o.cls = .ref C) (hq : Q (.done (.ret (.ref C))) ⟨h, g, d, t, os⟩) :
    wpAny (model prog w) A (Builtin.«object.__getattribute__» ⟨[.ref a, .str "__class__" tk], []⟩) Q E ⟨h, g, d, t, os⟩ := by
  have hT5 : (⟨h, g, d, t, os⟩ : Shared).TypeIs (.builtin "object.__class__") "getset_descriptor" := F.typeOf_object_class
  have f5 := F.typeOf_object_class
  have f6 := F.slot_gs_get.lookup
  have f7 := F.slot_gs_set.lookup
  have L2 := PySem.W.looks_findIn (M := model prog w) X T.cl
  repeat (any_goals (first | assumption | (with_reducible refine wpAny_loadPart_at hx ?_; rw [hc]) | with_reducible refine PySem.W.Looks.at L2 ?_ | wp_step))
  refine ec_get X T hx hc ?_
  repeat (any_goals (first | assumption | wp_step))
theorem ec_check {M : Model} {nameV : Value} {Q : Unit → Shared → Prop} (X : K.In h) (T : ExcK K C) (hx : h.get? a = some o) (hc : o.cls = .ref C) (hq : Q () ⟨h, g, d, t, os⟩) : wpAny M A (checkBuiltinCall "BaseException.__getattribute__" ⟨[.ref a, nameV], []⟩) Q E ⟨h, g, d, t, os⟩ := by
  have hk : builtinKind "BaseException.__getattribute__" = some .slot := by decide +kernel
  have hsplit : splitId "BaseException.__getattribute__" = some ("BaseException", "__getattribute__") := by decide +kernel
  have L1 := PySem.W.looks_mroIn (M := M) X T.mB
  have ha := F.args_bexc_ga (.ref a) nameV
  simp only [checkBuiltinCall, hk, hsplit]
  refine wpAny_bind ?_
  unfold isInstance
  repeat (first | (with_reducible refine wpAny_loadPart_at hx ?_; rw [hc]) | with_reducible refine PySem.W.Looks.at L1 ?_ | wp_step)
  exact hq
theorem ec_call {tk : Tok} {R : Result → Shared → Prop} (X : K.In h) (T : ExcK K C) (hx : h.get? a = some o) (hc : o.cls = .ref C) (hq : R (.ok (.ret (.ref C))) ⟨h, g, d, t, os⟩) :
    codeAny (model prog w) A (.call (.builtin "BaseException.__getattribute__") ⟨[.ref a, .str "__class__" tk], []⟩) R ⟨h, g, d, t, os⟩ :=
  codeAny_call_builtin PySem.F.attr_ValueError.ga.plain F.entry_bexc_ga (ec_check X T hx hc (ec_entry X T hx hc hq))
theorem ec_by {tk : Tok} {fill expr : Bool} {Q : Value → Shared → Prop} (X : K.In h) (T : ExcK K C) (hx : h.get? a = some o) (hc : o.cls = .ref C) (hq : Q (.ref C) ⟨h, g, d, t, os⟩) :
    wpAny (model prog w) A (getAttrBy (.ref a) (.str "__class__" tk) fill expr) Q E ⟨h, g, d, t, os⟩ := by
  have f3 := PySem.F.attr_ValueError.ga.bind (.ref a)
  have hx0 : (expr && onTheHeap (Value.builtin "BaseException.__getattribute__")) = false := by cases expr <;> rfl
  have hx2 : (Value.builtin "BaseException.__getattribute__" == Value.builtin "object.__getattribute__") = false := by decide +kernel
  have hx1 : (onTheHeap (Value.ref C) && Value.builtin "BaseException.__getattribute__" == Value.builtin "object.__getattribute__") = false := by rw [hx2]; rfl
  have L1 := PySem.W.looks_findIn (M := model prog w) X T.ga
  have L2 := PySem.W.looks_findIn (M := model prog w) X T.gt
  repeat (any_goals (first | assumption | (with_reducible refine wpAny_loadPart_at hx ?_; rw [hc]) | with_reducible refine PySem.W.Looks.at L1 ?_ | with_reducible refine PySem.W.Looks.at L2 ?_ | wp_step))
  refine ec_call X T hx hc ?_
  repeat (any_goals (first | assumption | wp_step))
end
theorem kitx_exc {K : PySem.W.Frag} {a C : Addr} (T : ExcK K C) : PySem.W.KitX K (.ref a) (.ref C) (IsExc a C) where
  ty := fun _ _ _ ⟨_, hx, hc⟩ => hc ▸ (PySem.W.Looks.ld hx).andThen .now
  it := fun _ h X _ => by
    have z0 := T.it
    unfold PySem.W.isClsIn PySem.W.clsIn at z0
    split at z0
    · rename_i c' d' cd' sl' ho
      intro A' Q' E' s' k q
      unfold isType loadHead
      exact wpAny_bind (wpAny_loadPart (k _ _ (X _ _ ho)) (wpAny_pure q))
    · cases z0
  ne := fun h tp dd its n sl X htp => by
    have z0 := T.it
    refine Bool.eq_false_iff.mpr fun q => ?_
    have e : C = tp := Value.ref.inj (beq_iff_eq.mp q)
    subst e
    unfold PySem.W.isClsIn PySem.W.clsIn at z0
    split at z0
    · rename_i c' d' cd' sl' ho
      have z := (X _ _ ho).symm.trans htp
      cases z
    · cases z0
  ca := fun {prog w A E Q s} X ⟨o, hx, hc⟩ k => by
    obtain ⟨h, g, d, t, os⟩ := s
    unfold getAttr? getAttrBy?
    refine wpAny_bind (wpAny_mkText (wpAny_bind (wpAny_attempt (ec_by X T hx hc ?_))))
    exact wpAny_pure k
end My
/-! ### try: y = f(..) / except S as e: .., S a class above the one that was raised; isinstance of e -/
namespace My
open PySem PySem.Spec PyProof.Rows L2
/-- an exception of the class at C stands at a -/
abbrev excO (a C : Addr) : HO := .ext (IsExc a C)
theorem excO_ok {P : Program} {w : World} {H : Hp} {h : Heap} {a C : Addr} {o : Obj} (e : h.get? a = some o) (hc : o.cls = .ref C) : ObjOk P w H h a (excO a C) :=
  ⟨⟨o, e, hc⟩, ⟨o, e⟩, fun _ _ ⟨o, e, hc⟩ k => ⟨o, k o e, hc⟩⟩
section
variable {X : Cx}
theorem isExc_of {pins : List (Addr × Obj)} {σ : L2.St} {H : Hp} {s : Shared} {a C : Addr} (I : Inv X pins σ H s) (h : H a = some (excO a C)) : IsExc a C s.heap :=
  (show ObjOk X.prog X.w H s.heap a (excO a C) from I.hok a _ h).1
/-- how two own classes stand: D's object, whether C is under D -/
structure KitP (K : PySem.W.Frag) (C D : Addr) (b : Bool) : Prop where
  it : PySem.W.isClsIn K D = true
  ty : PySem.W.typeIn K (.ref D) = some (.type "type")
  self : PySem.W.subIn K (.ref C) (.ref C) = some true
  sub : PySem.W.subIn K (.ref C) (.ref D) = some b
theorem KitP.one {K : PySem.W.Frag} {C D : Addr} {b : Bool} (p : KitP K C D b) : PySem.W.kitOne K (.ref C) (.ref D) = some b := by
  unfold PySem.W.kitOne
  by_cases e : (Value.ref C == Value.ref D) = true
  · rw [if_pos e]
    have e1 : C = D := Value.ref.inj (beq_iff_eq.mp e)
    have h1 := p.self
    have h2 := p.sub
    rw [← e1, h1] at h2
    exact h2
  · rw [if_neg e]
    show (if ((PySem.W.clsIn K D).isSome && PySem.W.typeIn K (.ref D) == some (.type "type")) = true then PySem.W.subIn K (.ref C) (.ref D) else none) = some b
    have h1 : (PySem.W.clsIn K D).isSome = true := p.it
    rw [h1, p.ty, if_pos (by simp), p.sub]
theorem kit_ve {K : PySem.W.Frag} {C : Addr} {b : Bool} (h : PySem.W.subIn K (.ref C) (.type "ValueError") = some b) : PySem.W.kitOne K (.ref C) (.type "ValueError") = some b := by
  have e : (Value.ref C == Value.type "ValueError") = false := Bool.eq_false_iff.mpr fun q => by cases beq_iff_eq.mp q
  unfold PySem.W.kitOne
  rw [e, if_neg (by simp)]
  show (if PySem.W.kitMeta "ValueError" = true then PySem.W.subIn K (.ref C) (.type "ValueError") else none) = some b
  rw [if_pos (by decide +kernel), h]
/-- isinstance(e, D), D an own class or a built-in one -/
theorem call_isx : CallR X (.builtin "isinstance") (fun xs H Q => ∃ a C b c, xs = [V.ref a, c] ∧ H a = some (excO a C) ∧ ExcK X.K C ∧ ((∃ D, c = V.ref D ∧ PySem.W.kitOne X.K (.ref C) (.ref D) = some b) ∨ ∃ T, c = V.ty T ∧ PySem.W.kitOne X.K (.ref C) (.type T) = some b) ∧ Q (.bl b) H) := by
  intro pins s σ H xs us Q I r h
  obtain ⟨a, C, b, c, rfl, ha, T, hc, q⟩ := h
  obtain ⟨u, w', rfl, ru, rw'⟩ := vals2 r
  cases ru
  rcases hc with ⟨D, rfl, e⟩ | ⟨n, rfl, e⟩
  · cases rw'
    exact PySem.W.kia_one (kitx_exc T) I.kIn (isExc_of I ha) e (fun z => nomatch z) fun tk => ⟨.bl b, H, I.tok tk, rfl, q⟩
  · cases rw'
    exact PySem.W.kia_one (kitx_exc T) I.kIn (isExc_of I ha) e (fun z => nomatch z) fun tk => ⟨.bl b, H, I.tok tk, rfl, q⟩
/-- the clause's test -/
theorem exc_matches {M : Model} {A : Around} {E : Value → Shared → Prop} {K : PySem.W.Frag} {h : Heap} {g : Array GenState} {d : Drawn} {t : Nat} {os : OsState} {e C S : Addr} {oe : Obj} {b : Bool} {Q : Bool → Shared → Prop} (X : K.In h) (he : h.get? e = some oe) (hcls : oe.cls = .ref C)
    (hty : PySem.W.typeIn K (.ref S) = some (.type "type")) (hit : PySem.W.isClsIn K S = true) (hB : PySem.W.mroIn K S (.type "BaseException") = some true) (hs : PySem.W.subIn K (.ref C) (.ref S) = some b) (hq : Q b ⟨h, g, d, t, os⟩) : wpAny M A (excMatches (.ref e) (.ref S)) Q E ⟨h, g, d, t, os⟩ := by
  have f := tc_notTuple
  have L0 := PySem.W.looks_typeIn (M := M) X hty
  have L1 := PySem.W.looks_mroIn (M := M) X hB
  have L2 := PySem.W.looks_subIn (M := M) X hs
  have L3 : PySem.W.Looks M h (isType (.ref S)) true := by
    unfold PySem.W.isClsIn PySem.W.clsIn at hit
    split at hit
    · rename_i c' d' cd' sl' ho
      intro A' Q' E' s' k q
      unfold isType loadHead
      exact wpAny_bind (wpAny_loadPart (k _ _ (X _ _ ho)) (wpAny_pure q))
    · cases hit
  unfold excMatches isInstance
  repeat (first | (with_reducible refine wpAny_loadPart_at he ?_; rw [hcls]) | with_reducible refine PySem.W.Looks.at L0 ?_ | with_reducible refine PySem.W.Looks.at L1 ?_ | with_reducible refine PySem.W.Looks.at L2 ?_ | with_reducible refine PySem.W.Looks.at L3 ?_ | wp_step)
  cases b <;> (wp_walk; exact hq)
end
end My
/-! ### try: y = f(..) / except S as n: .. -/
namespace My
open PySem PySem.Spec PyProof.Rows L2
section
variable {X : Cx} {pins : List (Addr × Obj)} {σ : L2.St} {H : Hp} {s : Shared}
theorem name_goes {M : Model} {A : Around} {E : Value → Shared → Prop} {j : Nat} {n : Str} {pos : Pos} {Q : Unit → Shared → Prop} (I : Inv X pins σ H s) (hN : X.N.Nodup) (hj : X.N[j]? = some n) (hk : X.env.scope.names.lookup n = some .local)
    (h : ∀ s', Inv X pins (σ.set j none) H s' → Q () s') : wpAny M A (do bindName X.env n .none; unbindBehindTheSuite X.env n pos) Q E s := by
  obtain ⟨m, hn, hl⟩ := id I.loc
  have hcls : (X.env.scope.kind == .class || (X.env.scope.kind == .module && X.env.locals != X.env.globals)) = false := by rw [I.ok.kind]; rfl
  have hjσ : j < σ.length := by rw [I.len]; exact (List.getElem?_eq_some_iff.mp hj).1
  have cne := I.cne
  refine wpAny_nameGoes_keeps hk hn hcls fun h' v hn' hs => ?_
  obtain ⟨oL, _, _, hoL, _⟩ := id hn
  refine h _ ⟨I.ok, I.os, I.bare, ⟨fun b o e n hb hx => ?_, fun b o e n hb hx => ?_, I.base.free, fun b o e hx => ?_, I.base.tups, I.base.frzs, I.base.tbls⟩, ⟨_, hn', fun i y v' e1 e2 e3 => ?_⟩, fun y c e => ?_, I.free, I.freeC, fun p hp => ?_, fun b ob e => ?_, by simpa using I.len⟩
  · exact (hs.2 b (Nat.ne_of_lt (Nat.lt_of_lt_of_le (Heap.lt_size e) I.ok.above))).trans (I.base.keep b o e n hb hx)
  · obtain ⟨sl, e1⟩ := I.base.slot b o e n hb hx
    exact ⟨sl, (hs.2 b (Nat.ne_of_lt (Nat.lt_of_lt_of_le (Heap.lt_size e) I.ok.above))).trans e1⟩
  · obtain ⟨o', e1⟩ := I.base.there b o e hx
    exact ⟨o', (hs.2 b (Nat.ne_of_lt (Nat.lt_of_lt_of_le (Heap.lt_size e) I.ok.above))).trans e1⟩
  · by_cases hi : i = j
    · subst hi
      rw [List.getElem?_set_self hjσ] at e2
      cases e2
    · rw [List.getElem?_set_ne (Ne.symm hi)] at e2
      obtain ⟨u', r', q⟩ := hl i y v' e1 e2 e3
      refine ⟨u', r', ?_⟩
      rcases q with ⟨k, e⟩ | ⟨k, c, e, z⟩
      · refine .inl ⟨k, ?_⟩
        have : y ≠ n := fun e => hi (nodup_ix hN e1 (e ▸ hj))
        simp [this, e]
      · exact .inr ⟨k, c, e, z.sameBut hs (cne y c e)⟩
  · obtain ⟨w', z⟩ := I.cell y c e
    exact ⟨w', z.sameBut hs (cne y c e)⟩
  · obtain ⟨e, n, ne, nf, d⟩ := I.pin p hp
    exact ⟨(hs.2 p.1 ne).trans e, n, ne, nf, d⟩
  · refine (I.hok b ob e).stay (fun c w' hc q => (hs.2 c ?_).trans q) (fun _ q => q) fun _ _ q => q
    rintro rfl
    rcases hc with rfl | hc
    · rw [I.free] at e; cases e
    · rw [I.free] at hc; cases hc
/-- an object that was made since is tracked -/
theorem inv_track {s1 : Shared} {H1 : Hp} {a : Addr} {o : HO} (I1 : Inv X pins σ H1 s1) (I : Inv X pins σ H s) (hn : s1.heap.get? a = none) (ha : H a = none) (ok : ObjOk X.prog X.w (upd H a o) s.heap a o) : Inv X pins σ (upd H a o) s := by
  have ne : ∀ b u, s1.heap.get? b = some u → b ≠ a := fun b u e z => by rw [z, hn] at e; cases e
  refine ⟨I.ok, I.os, I.bare, ⟨I.base.keep, I.base.slot, fun b u e n hx => ?_, I.base.there, fun b xs e => ?_, fun b u v e => ?_, fun b ps e => ?_⟩, I.loc, I.cell, ?_, fun x c e => ?_, fun p hp => ?_, fun b u e => ?_, I.len⟩
  · obtain ⟨u', e1⟩ := I1.base.there b u e hx
    rw [upd_ne (ne b u' e1)]
    exact I.base.free b u e n hx
  · have q := I.base.tups b xs e
    rw [upd_ne (ne_of_none q ha)]
    exact q
  · have q := I.base.frzs b u v e
    rw [upd_ne (ne_of_none q ha)]
    exact q
  · obtain ⟨more, q⟩ := I.base.tbls b ps e
    exact ⟨more, by rw [upd_ne (ne_of_none q ha)]; exact q⟩
  · obtain ⟨m0, ⟨u, _, _, hu, _⟩, _⟩ := I1.loc
    rw [upd_ne (ne _ u hu)]
    exact I.free
  · obtain ⟨v, u, hu, _⟩ := I1.cell x c e
    rw [upd_ne (ne c u hu)]
    exact I.freeC x c e
  · obtain ⟨e, n, n2, nf, d⟩ := I.pin p hp
    obtain ⟨e1, _⟩ := I1.pin p hp
    exact ⟨e, by rw [upd_ne (ne _ _ e1)]; exact n, n2, nf, d⟩
  · by_cases hb : b = a
    · subst hb
      rw [upd_same] at e
      cases e
      exact ok
    · rw [upd_ne hb] at e
      refine (I.hok b u e).stay (fun c v hc q => q) (fun c q => ?_) fun c xs q => ?_
      · rw [upd_ne (ne_of_none q ha)]; exact q
      · rw [upd_ne (ne_of_none q ha)]; exact q
/-- a class of exceptions, as an except clause's -/
structure ExcS (K : PySem.W.Frag) (mg : Str → Option Value) (x : Str) (S : Addr) : Prop where
  bound : mg x = some (.ref S)
  ty : PySem.W.typeIn K (.ref S) = some (.type "type")
  it : PySem.W.isClsIn K S = true
  mB : PySem.W.mroIn K S (.type "BaseException") = some true
/-- what is wanted behind the suite: the name is gone -/
def gone (j : Nat) (D : Ends) : Ends := { nx := fun σ H => D.nx (σ.set j none) H, rt := D.rt, bk := fun σ H => D.bk (σ.set j none) H, ct := fun σ H => D.ct (σ.set j none) H }
/-- an exception of the class at C stands at a, its dict is d -/
def IsExcK (a C : Addr) (d : Option Addr) (h : Heap) : Prop := ∃ o, h.get? a = some o ∧ o.cls = .ref C ∧ PySem.W.notCls o = true ∧ o.dict = d
end
end My
/-! ### for c in text; for a, b in zip(xs, ys) over lists, tuples and texts -/
namespace My
open PySem PySem.Spec PyProof.Rows L2
/-- a fixed row of values -/
def Itf (ys : List V) : It := ⟨fun i _ => i < ys.length, fun i H x H' => H' = H ∧ ys[i]? = some x, fun i _ => ys.length ≤ i⟩
abbrev vsigns (y : Str) : List V := y.cps.toList.map fun c => V.str ⟨#[c]⟩
theorem vsigns_len (y : Str) : (vsigns y).length = y.length := by simp [vsigns, Str.length]
theorem vsigns_get {y : Str} {i : Nat} : (vsigns y)[i]? = (y.cps[i]?).map fun c => V.str ⟨#[c]⟩ := by
  rw [List.getElem?_map, Array.getElem?_toList]
abbrev strIt (y : Str) : String := if y.cps.all (· < 128) then "str_ascii_iterator" else "str_iterator"
abbrev strItO (y : Str) (t : Tok) : Obj := { cls := .type (strIt y), data := .fields #[.str y t, .int 0 0] }
theorem pyIter_str' {prog : Program} {w : World} {A : Around} {E : Value → Shared → Prop} {s : Shared} {x : Str} {t : Tok} {Q : Value → Shared → Prop} (hQ : Q (.ref s.heap.objs.size) { s with heap := s.heap.push (strItO x t) }) : wpAny (model prog w) A (pyIter (.str x t)) Q E s := by
  cases ha : x.cps.all (· < 128) with
  | true =>
    have e : strIt x = "str_ascii_iterator" := if_pos ha
    unfold strItO at hQ
    rw [e] at hQ
    exact wpAny_pyIter_ascii ha hQ
  | false =>
    have e : strIt x = "str_iterator" := if_neg (by rw [ha]; decide)
    unfold strItO at hQ
    rw [e] at hQ
    exact wpAny_pyIter_wide ha hQ
section
variable {X : Cx} {tg : Expr}
end
/-! the sources of a zip -/
structure Src (P : Program) (w : World) (K : PySem.W.Frag) (J : It) (it : Addr) (st : Nat → Heap → Prop) : Prop where
  obj : ∀ i h, st i h → ∃ o, h.get? it = some o ∧ ∀ v, o.data ≠ .cell v
  keep : ∀ i h h', st i h → (∀ o, h.get? it = some o → h'.get? it = some o) → st i h'
  item : ∀ (X : Cx), X.prog = P → X.w = w → X.K = K → ∀ (A : Around) (i : Nat) (pins : List (Addr × Obj)) (s : Shared) (σ : L2.St) (H : Hp) (Q : Value → Shared → Prop) (E : Value → Shared → Prop), Inv X pins σ H s → st i s.heap → J.go i H →
    (∀ x u h' tk, RelV x u → J.yld i H x H → st (i + 1) h' → Heap.SameBut it s.heap h' → Q u { s with heap := h', toks := tk }) → wpAny (model P w) A (Builtin.SmallTypes.nextOf (.ref it)) Q E s
  done : ∀ (X : Cx), X.prog = P → X.w = w → X.K = K → ∀ (A : Around), A.handled = none → ∀ (i : Nat) (pins : List (Addr × Obj)) (s : Shared) (σ : L2.St) (H : Hp) (Q : Value → Shared → Prop) (E : Value → Shared → Prop), Inv X pins σ H s → st i s.heap → J.stop i H →
    (∀ h' e, Heap.ExtBut it s.heap h' → (∃ o, h'.get? e = some o ∧ o.cls = .type "StopIteration") → E (.ref e) { s with heap := h' }) → wpAny (model P w) A (Builtin.SmallTypes.nextOf (.ref it)) Q E s
section
variable {P : Program} {w : World} {K : PySem.W.Frag}
theorem src_list (a it : Addr) : Src P w K (Itl K a) it (fun i h => h.IsListIter it a i) where
  obj := fun i h st => by
    obtain ⟨o, e, c, d⟩ := st
    exact ⟨o, e, fun v z => by rw [d] at z; cases z⟩
  keep := fun i h h' st k => st.at fun o e => k o e
  item := by
    intro X hP hw hK A i pins s σ H Q E I st hg hQ
    subst hP hw hK
    obtain ⟨xs, x, hq, hx⟩ := hg
    obtain ⟨its, rv, p, hz⟩ := I.list hq
    obtain ⟨u, hu, ru⟩ := rv.get hx
    exact wpAny_nextOf_list_item st p.isList (x := u) (by simpa using hu) fun h' st' sb => hQ x u h' s.toks ru ⟨rfl, fun ys hy => by rw [I.list_inj hy hq]; exact hx⟩ st' sb
  done := by
    intro X hP hw hK A hA i pins s σ H Q E I st hg hE
    subst hP hw hK
    obtain ⟨xs, hq, hx⟩ := hg
    obtain ⟨its, rv, p, hz⟩ := I.list hq
    have hl := rv.length
    exact wpAny_nextOf_list_end hA st p.isList (by simp; omega) hE
theorem src_str (y : Str) (t : Tok) (it : Addr) : Src P w K (Itf (vsigns y)) it (fun i h => h.IsStrIter it (strIt y) y t i) where
  obj := fun i h st => by
    obtain ⟨o, e, c, d⟩ := st
    exact ⟨o, e, fun v z => by rw [d] at z; cases z⟩
  keep := fun i h h' st k => let ⟨o, ho, r⟩ := st; ⟨o, k o ho, r⟩
  item := by
    intro X hP hw hK A i pins s σ H Q E I st hg hQ
    subst hP hw hK
    have hi : i < y.cps.size := by have : i < (vsigns y).length := hg; rw [vsigns_len] at this; exact this
    have yl : (Itf (vsigns y)).yld i H (.str ⟨#[y.cps[i]]⟩) H := ⟨rfl, by rw [vsigns_get, Array.getElem?_eq_getElem hi]; rfl⟩
    cases ha : y.cps.all (· < 128) with
    | true =>
      have e : strIt y = "str_ascii_iterator" := if_pos ha
      rw [e] at st hQ
      exact wpAny_nextOf_ascii_item st (c := y.cps[i]) (by simp [hi]) fun h' st' sb => hQ (.str ⟨#[y.cps[i]]⟩) _ h' _ ⟨_, rfl⟩ yl st' sb
    | false =>
      have e : strIt y = "str_iterator" := if_neg (by rw [ha]; decide)
      rw [e] at st hQ
      exact wpAny_nextOf_wide_item st (c := y.cps[i]) (by simp [hi]) fun h' st' sb => hQ (.str ⟨#[y.cps[i]]⟩) _ h' _ ⟨_, rfl⟩ yl st' sb
  done := by
    intro X hP hw hK A hA i pins s σ H Q E I st hg hE
    subst hP hw hK
    have hi : y.cps[i]? = none := by have : (vsigns y).length ≤ i := hg; rw [vsigns_len] at this; exact Array.getElem?_eq_none this
    cases ha : y.cps.all (· < 128) with
    | true =>
      have e : strIt y = "str_ascii_iterator" := if_pos ha
      rw [e] at st
      exact wpAny_nextOf_ascii_end hA st hi hE
    | false =>
      have e : strIt y = "str_iterator" := if_neg (by rw [ha]; decide)
      rw [e] at st
      exact wpAny_nextOf_wide_end hA st hi hE

/-- a draw from a tuple's iterator -/
theorem nextOf_tuple {A : Around} {s : Shared} {E : Value → Shared → Prop} {it l : Addr} {i : Nat} {its : Array Value} {Q : Value → Shared → Prop} (st : s.heap.IsTupleIter it l i) (tp : s.heap.IsTuple l its)
    (hs : ∀ x g, its[i]? = some x → g.IsTupleIter it l (i + 1) → Heap.SameBut it s.heap g → Q x { s with heap := g })
    (hn : its[i]? = none → A.handled = none ∧ ∀ g e, Heap.ExtBut it s.heap g → (∃ o, g.get? e = some o ∧ o.cls = .type "StopIteration") → E (.ref e) { s with heap := g }) :
    wpAny (model P w) A (Builtin.SmallTypes.nextOf (.ref it)) Q E s := by
  obtain ⟨oi, ei, ci, di⟩ := id st
  obtain ⟨ot, et, _, nt, dt⟩ := id tp
  have new : ∀ k v, Heap.SameBut it s.heap (s.heap.update it (Obj.mapFields (·.setIfInBounds k v))) := fun _ _ => Heap.SameBut.update ..
  refine wpAny_bind (wpAny_callSpecial?_slot (name := Str.ofString "__next__") st.typeIs F.slot_tuple_iterator_next (wpAny_call_entry F.slot_tuple_iterator_next st.typeIs F.entry_tuple_iterator_next ?_ (F.args_tuple_iterator_next_1 _)))
  refine wpAny_bind (wpAny_of_eq (a := (Value.ref it, [])) rfl (wpAny_bind (wpAny_field ei di (x := .ref l) rfl ?_)))
  have nn : (Value.ref l == Value.none) = false := rfl
  dsimp only
  rw [nn, if_neg Bool.false_ne_true]
  refine wpAny_bind (wpAny_field ei di (x := .int i 0) rfl (wpAny_bind (wpAny_seqItems et dt ?_)))
  dsimp only
  rw [Int.toNat_natCast]
  cases q : its[i]? with
  | some x =>
    refine wpAny_bind (wpAny_setField ei di (by simp) (wpAny_pure ⟨x, rfl, wpAny_pure (hs x _ q ?_ (new 1 _))⟩))
    refine ⟨_, Heap.get?_update_self _ ei (Obj.isFreed_of_fields (Obj.data_mapFields di _)), ?_, ?_⟩
    · rw [Obj.cls_mapFields]; exact ci
    · rw [Obj.data_mapFields di]
      simp [rawInt]
  | none =>
    obtain ⟨hA, f⟩ := hn q
    refine wpAny_bind (wpAny_rule (wpAny_bind (wpAny_setField ei di (by simp) (wpAny_bind (m := newExc _ _) ?_))))
    unfold newExc newTuple
    refine wpAny_bind (wpAny_newObj_type (wpAny_bind (m := firstArgMember _ _) (wpAny_of_eq (a := Value.none) rfl (wpAny_newObj_type (wpAny_raiseNew_none hA (f _ _ (((new 0 _).extBut.push _).push _) ⟨_, Heap.get?_push_size _ rfl, rfl⟩)) (by size_fits)))) (by size_fits))
theorem src_tuple (a it : Addr) : Src P w K (Itt K a) it (fun i h => h.IsTupleIter it a i) where
  obj := fun i h st => by
    obtain ⟨o, e, c, d⟩ := st
    exact ⟨o, e, fun v z => by rw [d] at z; cases z⟩
  keep := fun i h h' st k => st.at fun o e => k o e
  item := by
    intro X hP hw hK A i pins s σ H Q E I st hg hQ
    subst hP hw hK
    obtain ⟨xs, x, hq, hx⟩ := hg
    obtain ⟨its, rv, p, hz⟩ := I.tuple hq
    obtain ⟨u, hu, ru⟩ := rv.get hx
    have hu' : its.toArray[i]? = some u := by simpa using hu
    refine nextOf_tuple st (show s.heap.IsTuple a its.toArray from p) (fun y g hy st' sb => ?_) (fun z => by rw [hu'] at z; cases z)
    have e : u = y := Option.some.inj (hu'.symm.trans hy)
    subst e
    exact hQ x u g s.toks ru ⟨rfl, fun ys hy => by rw [I.tuple_inj hy hq]; exact hx⟩ st' sb
  done := by
    intro X hP hw hK A hA i pins s σ H Q E I st hg hE
    subst hP hw hK
    obtain ⟨xs, hq, hx⟩ := hg
    obtain ⟨its, rv, p, hz⟩ := I.tuple hq
    have hl := rv.length
    have hn : its.toArray[i]? = none := by simp; omega
    exact nextOf_tuple st (show s.heap.IsTuple a its.toArray from p) (fun y g hy _ _ => by rw [hn] at hy; cases hy) fun _ => ⟨hA, hE⟩
/-- one turn of a zip, whatever it walks: the two draws are handed in -/
theorem zip_draws {A : Around} {E : Value → Shared → Prop} {s : Shared} {z TI TO i1 i2 : Addr} {Q : Fin → Shared → Prop} (hz : IsZip s.heap z TI TO .none) (hTI : IsPair s.heap TI (.ref i1) (.ref i2))
    (h : ∀ g1, IsZip g1 z TI TO .ellipsis → Heap.SameBut z s.heap g1 →
      wpAny (model P w) A (Builtin.SmallTypes.nextOf (.ref i1)) (fun x s2 => ∃ a b, IsPair s2.heap TO a b ∧ ∀ g3, IsPair g3 TO x b → Heap.SameBut TO s2.heap g3 →
        wpAny (model P w) A (Builtin.SmallTypes.nextOf (.ref i2)) (fun y s4 => IsPair s4.heap TO x b ∧ ∀ g5, IsPair g5 TO x y → Heap.SameBut TO s4.heap g5 → IsZip g5 z TI TO .ellipsis ∧
            ∀ g7 g8, Heap.SameBut z (g5.push { cls := .type "tuple", data := .seq #[x, y] }) g7 → Heap.SameBut z g7 g8 → IsZip g8 z TI TO (rawInt g5.objs.size) → Q (.done (.ret (.ref g5.objs.size))) { s4 with heap := g8 })
          (fun e s4 => IsZip s4.heap z TI TO .ellipsis ∧ ∀ g5, Heap.SameBut z s4.heap g5 → E e { s4 with heap := g5 }) { s2 with heap := g3 })
        (fun e s2 => IsZip s2.heap z TI TO .ellipsis ∧ ∀ g3, Heap.SameBut z s2.heap g3 → E e { s2 with heap := g3 }) { s with heap := g1 }) :
    wpAny (model P w) A (Builtin.«zip.__next__» ⟨[.ref z], []⟩) Q E s := by
  have free : wpAny (model P w) A (Builtin.SmallTypes.ownedTupleIsFree (.ref z)) (fun b s' => b = true ∧ s' = s) E s := by
    unfold Builtin.SmallTypes.ownedTupleIsFree
    exact wpAny_bind (wpAny_field hz rfl rfl (wpAny_pure ⟨rfl, rfl⟩))
  refine wpAny_bind (wpAny_of_eq (a := (Value.ref z, [])) rfl ?_)
  refine wpAny_bind (wpAny_field hz rfl (x := .bool false) rfl (wpAny_bind (wpAny_field hz rfl (x := .ref TI) rfl (wpAny_bind (wpAny_seqItems hTI rfl (wpAny_bind (thn free fun b s' hb => ?_)))))))
  obtain ⟨rfl, rfl⟩ := hb
  refine wpAny_bind (wpAny_rule (wpAny_bind (wpAny_field hz rfl (x := .ref TO) rfl (wpAny_bind (wpAny_setField_rec hz (by simp) fun g1 q1 k1 => wpAny_bind ?_)))))
  simp only [List.zipIdx_cons, List.zipIdx_nil, List.forIn_cons, List.forIn_nil]
  refine wpAny_bind (wpAny_bind (wpAny_onRaise (wpAny_bind (wpAny_mono (h g1 q1 k1) (fun x s2 d1 => ?_) fun e s2 ⟨q2, f2⟩ => wpAny_setField_rec q2 (by simp) fun g3 _ k3 => f2 g3 k3))))
  obtain ⟨a, b, t2, d1⟩ := d1
  refine wpAny_pure (wpAny_bind (wpAny_seqItems t2 rfl (wpAny_bind (wpAny_updateSeq_pair t2 fun g3 t3 k3 => wpAny_bind (wpAny_letGo (wpAny_pure (wpAny_bind (wpAny_bind (wpAny_onRaise ?_)))))))))
  refine wpAny_bind (wpAny_mono (d1 g3 t3 k3) (fun y s4 d2 => ?_) fun e s4 ⟨q4, f4⟩ => wpAny_setField_rec q4 (by simp) fun g5 _ k5 => f4 g5 k5)
  obtain ⟨t4, d2⟩ := d2
  refine wpAny_pure (wpAny_bind (wpAny_seqItems t4 rfl (wpAny_bind (wpAny_updateSeq_pair t4 fun g5 t5 k5 => wpAny_bind (wpAny_letGo (wpAny_pure (wpAny_pure (wpAny_bind (wpAny_seqItems t5 rfl (wpAny_bind (wpAny_newTuple ?_ (by show 2 ≤ sizeLine; decide))))))))))))
  obtain ⟨q5, d2⟩ := d2 g5 t5 k5
  have out : wpAny (model P w) A (Builtin.SmallTypes.ownedTupleHandOut (.ref z) (.ref g5.objs.size)) (fun _ s' => Q (.done (.ret (.ref g5.objs.size))) s') E { s4 with heap := g5.push { cls := .type "tuple", data := .seq #[x, y] } } := by
    unfold Builtin.SmallTypes.ownedTupleHandOut
    refine wpAny_bind (wpAny_setField_rec (Heap.get?_push_of_some _ q5) (by simp) fun g7 q7 k7 => wpAny_setField_rec q7 (by simp) fun g8 q8 k8 => d2 g7 g8 k7 k8 ?_)
    exact q8
  exact wpAny_bind (thn out fun _ s' q => wpAny_pure q)
/-- a zip of two -/
def ItZ (J1 J2 : It) : It := ⟨fun i H => J1.go i H ∧ J2.go i H, fun i H v H' => ∃ p x y, J1.yld i H x H ∧ J2.yld i H y H ∧ v = .ref p ∧ H p = none ∧ H' = upd H p (.tup [x, y]), fun i H => J1.stop i H ∨ (J1.go i H ∧ J2.stop i H)⟩
/-- the five objects of a zip -/
structure ZipAp (z TI TO i1 i2 : Addr) : Prop where
  TIz : TI ≠ z
  TOz : TO ≠ z
  i1z : i1 ≠ z
  i2z : i2 ≠ z
  TITO : TI ≠ TO
  TIi1 : TI ≠ i1
  TIi2 : TI ≠ i2
  TOi1 : TO ≠ i1
  TOi2 : TO ≠ i2
  i12 : i1 ≠ i2
theorem zipAp_of (n : Nat) : ZipAp (n + 4) (n + 2) (n + 3) n (n + 1) := by
  constructor <;> (intro h; first | exact absurd (show n + 2 = n + 4 from h) (by omega) | exact absurd (show n + 3 = n + 4 from h) (by omega) | exact absurd (show n = n + 4 from h) (by omega) | exact absurd (show n + 1 = n + 4 from h) (by omega) | exact absurd (show n + 2 = n + 3 from h) (by omega) | exact absurd (show n + 2 = n from h) (by omega) | exact absurd (show n + 2 = n + 1 from h) (by omega) | exact absurd (show n + 3 = n from h) (by omega) | exact absurd (show n + 3 = n + 1 from h) (by omega) | exact absurd (show n = n + 1 from h) (by omega))
theorem turn_zip {J1 J2 : It} {z TI TO i1 i2 : Addr} {st1 st2 : Nat → Heap → Prop} (D : ZipAp z TI TO i1 i2) (S1 : Src P w K J1 i1 st1) (S2 : Src P w K J2 i2 st2) {elts : List Expr} {kk : Nat} {tpos : Pos} :
    Turn P w K (.Tuple elts kk tpos) (ItZ J1 J2) [z, TI, TO, i1, i2] z (fun i h => IsZip h z TI TO .none ∧ IsPair h TI (.ref i1) (.ref i2) ∧ (∃ a b, IsPair h TO a b) ∧ st1 i h ∧ st2 i h) where
  mem := by simp
  obj := fun i h ⟨hz, hTI, ⟨a, b, hTO⟩, h1, h2⟩ c hc => by
    simp only [List.mem_cons, List.not_mem_nil, or_false] at hc
    rcases hc with e | e | e | e | e
    · rw [e]; exact ⟨_, hz, fun v z => by simp at z⟩
    · rw [e]; exact ⟨_, hTI, fun v z => by simp at z⟩
    · rw [e]; exact ⟨_, hTO, fun v z => by simp at z⟩
    · rw [e]; exact S1.obj i h h1
    · rw [e]; exact S2.obj i h h2
  keep := fun i h h' ⟨hz, hTI, ⟨a, b, hTO⟩, h1, h2⟩ k => ⟨k z (by simp) _ hz, k TI (by simp) _ hTI, ⟨a, b, k TO (by simp) _ hTO⟩, S1.keep i h h' h1 (k i1 (by simp)), S2.keep i h h' h2 (k i2 (by simp))⟩
  item := by
    intro X hP hw hK hc i pins s σ H E I hf st hg
    subst hP hw hK
    obtain ⟨hz, hTI, ⟨a, b, hTO⟩, h1, h2⟩ := st
    have ty : s.TypeIs (.ref z) "zip" := ⟨_, hz, rfl⟩
    have tz : ∀ {s' : Shared} {H' : Hp} {h' : Heap} {t' : Nat} {it : Addr}, it ∈ [z, TI, TO, i1, i2] → H' it = none → Inv X pins σ H' s' → Heap.SameBut it s'.heap h' → Inv X pins σ H' { s' with heap := h', toks := t' } := fun {s' H' h' t' it} hm hn I' sb => by
      obtain ⟨f0, f1, f2, f3, f4, f5⟩ := hf it hm
      exact I'.turned (fun b o hb e => (sb.2 b hb).trans e) hn f1 f3 f4 f5
    have fz := (hf z (by simp)).1
    refine wpAny_bind (wpAny_attempt (wpAny_callSpecial?_slot (name := Str.ofString "__next__") ty F.slot_zip_next (wpAny_call_entry F.slot_zip_next ty F.entry_zip_next (zip_draws hz hTI fun u1 q1 k1 => ?_) (F.args_zip_next_1 _))))
    have I1 : Inv X pins σ H { s with heap := u1 } := tz (t' := s.toks) (by simp) fz I k1
    refine S1.item X rfl rfl rfl _ i pins { s with heap := u1 } σ H _ _ I1 (S1.keep i _ _ h1 fun o e => k1.extBut _ _ D.i1z e) hg.1 fun x ux u2 t2 rx y1 st1' k2 => ⟨a, b, k2.extBut _ _ D.TOi1 (k1.extBut _ _ D.TOz hTO), fun u3 p3 k3 => ?_⟩
    have I2 : Inv X pins σ H { s with heap := u2, toks := t2 } := tz (it := i1) (s' := { s with heap := u1 }) (by simp) (hf i1 (by simp)).1 I1 k2
    have I3 : Inv X pins σ H { s with heap := u3, toks := t2 } := tz (it := TO) (s' := { s with heap := u2, toks := t2 }) (by simp) (hf TO (by simp)).1 I2 k3
    refine S2.item X rfl rfl rfl _ i pins { s with heap := u3, toks := t2 } σ H _ _ I3 (S2.keep i _ _ h2 fun o e => k3.extBut _ _ D.TOi2.symm (k2.extBut _ _ D.i12.symm (k1.extBut _ _ D.i2z e))) hg.2 fun y uy u4 t4 ry y2 st2' k4 => ⟨k4.extBut _ _ D.TOi2 p3, fun u5 p5 k5 => ?_⟩
    have I4 : Inv X pins σ H { s with heap := u4, toks := t4 } := tz (it := i2) (s' := { s with heap := u3, toks := t2 }) (by simp) (hf i2 (by simp)).1 I3 k4
    have I5 : Inv X pins σ H { s with heap := u5, toks := t4 } := tz (it := TO) (s' := { s with heap := u4, toks := t4 }) (by simp) (hf TO (by simp)).1 I4 k5
    have all : ∀ c o, c ≠ z → c ≠ TO → c ≠ i1 → c ≠ i2 → s.heap.get? c = some o → u5.get? c = some o := fun c o n1 n2 n3 n4 e => k5.extBut _ _ n2 (k4.extBut _ _ n4 (k3.extBut _ _ n2 (k2.extBut _ _ n3 (k1.extBut _ _ n1 e))))
    have q5 : IsZip u5 z TI TO .ellipsis := k5.extBut _ _ D.TOz.symm (k4.extBut _ _ D.i2z.symm (k3.extBut _ _ D.TOz.symm (k2.extBut _ _ D.i1z.symm q1)))
    refine ⟨q5, fun u7 u8 k7 k8 q8 => ⟨_, rfl, wpAny_pure ⟨_, rfl, wpAny_letOwnedTupleGo_zip q8 fun u9 q9 k9 => ?_⟩⟩⟩
    have lt : ∀ c ∈ [z, TI, TO, i1, i2], c < u5.objs.size := fun c hc => by
      simp only [List.mem_cons, List.not_mem_nil, or_false] at hc
      rcases hc with e | e | e | e | e
      · rw [e]; exact Heap.lt_size q5
      · rw [e]; exact Heap.lt_size (all _ _ D.TIz D.TITO D.TIi1 D.TIi2 hTI)
      · rw [e]; exact Heap.lt_size p5
      · rw [e]; obtain ⟨o, eo, _⟩ := S1.obj _ _ st1'; exact Heap.lt_size (k5.extBut _ _ D.TOi1.symm (k4.extBut _ _ D.i12 (k3.extBut _ _ D.TOi1.symm eo)))
      · rw [e]; obtain ⟨o, eo, _⟩ := S2.obj _ _ st2'; exact Heap.lt_size (k5.extBut _ _ D.TOi2.symm eo)
    have nT : u5.get? u5.objs.size = none := Heap.get?_none_of_le (Nat.le_refl _)
    have I6 : Inv X pins σ (upd H u5.objs.size (.tup [x, y])) { s with heap := u5.push { cls := .type "tuple", data := .seq #[ux, uy] }, toks := t4 } :=
      inv_new (s := { s with heap := u5, toks := t4 }) I5 (fun b u e => Heap.get?_push_of_some _ e) nT ⟨by show 2 ≤ sizeLine; decide, [ux, uy], .cons rx (.cons ry .nil), _, Heap.get?_push_size _ rfl, rfl, _, rfl⟩
    have nz : (upd H u5.objs.size (.tup [x, y])) z = none := by rw [upd_ne (Nat.ne_of_lt (lt z (by simp)))]; exact fz
    have I7 : Inv X pins σ (upd H u5.objs.size (.tup [x, y])) { s with heap := u7, toks := t4 } := tz (it := z) (s' := { s with heap := u5.push { cls := .type "tuple", data := .seq #[ux, uy] }, toks := t4 }) (by simp) nz I6 k7
    have I8 : Inv X pins σ (upd H u5.objs.size (.tup [x, y])) { s with heap := u8, toks := t4 } := tz (it := z) (s' := { s with heap := u7, toks := t4 }) (by simp) nz I7 k8
    have I9 : Inv X pins σ (upd H u5.objs.size (.tup [x, y])) { s with heap := u9, toks := t4 } := tz (it := z) (s' := { s with heap := u8, toks := t4 }) (by simp) nz I8 k9
    have up : ∀ c o, c ≠ z → u5.get? c = some o → u9.get? c = some o := fun c o n e => k9.extBut _ _ n (k8.extBut _ _ n (k7.extBut _ _ n (Heap.get?_push_of_some _ e)))
    refine ⟨.ref u5.objs.size, _, I9, rfl, ⟨u5.objs.size, x, y, y1, y2, rfl, inv_none I5 nT, rfl⟩, ⟨q9, up _ _ D.TIz (all _ _ D.TIz D.TITO D.TIi1 D.TIi2 hTI), ⟨_, _, up _ _ D.TOz p5⟩,
      S1.keep _ _ _ st1' fun o e => up _ o D.i1z (k5.extBut _ _ D.TOi1.symm (k4.extBut _ _ D.i12 (k3.extBut _ _ D.TOi1.symm e))), S2.keep _ _ _ st2' fun o e => up _ o D.i2z (k5.extBut _ _ D.TOi2.symm e)⟩, fun c hc => ?_⟩
    rw [upd_ne (Nat.ne_of_lt (lt c hc))]
    exact (hf c hc).1
  done := by
    intro X hP hw hK hc i pins s σ H E I hf st hg
    subst hP hw hK
    obtain ⟨hz, hTI, ⟨a, b, hTO⟩, h1, h2⟩ := st
    have hh : X.A.in1.handled = none := I.ok.hd hc
    have ty : s.TypeIs (.ref z) "zip" := ⟨_, hz, rfl⟩
    have tz : ∀ {s' : Shared} {h' : Heap} {t' : Nat} {it : Addr}, it ∈ [z, TI, TO, i1, i2] → Inv X pins σ H s' → (∀ b o, b ≠ it → s'.heap.get? b = some o → h'.get? b = some o) → Inv X pins σ H { s' with heap := h', toks := t' } := fun {s' h' t' it} hm I' sb => by
      obtain ⟨f0, f1, f2, f3, f4, f5⟩ := hf it hm
      exact I'.turned sb f0 f1 f3 f4 f5
    have same : ∀ {it : Addr} {g h : Heap}, Heap.SameBut it g h → ∀ b o, b ≠ it → g.get? b = some o → h.get? b = some o := fun sb b o hb e => (sb.2 b hb).trans e
    refine wpAny_bind (wpAny_attempt (wpAny_callSpecial?_slot (name := Str.ofString "__next__") ty F.slot_zip_next (wpAny_call_entry F.slot_zip_next ty F.entry_zip_next (zip_draws hz hTI fun u1 q1 k1 => ?_) (F.args_zip_next_1 _))))
    have I1 : Inv X pins σ H { s with heap := u1 } := tz (it := z) (t' := s.toks) (by simp) I (same k1)
    have st1 := S1.keep i _ _ h1 fun o e => k1.extBut _ _ D.i1z e
    have ended : ∀ {g : Heap} {tk : Nat} {e : Addr}, Inv X pins σ H { s with heap := g, toks := tk } → IsZip g z TI TO .ellipsis → (∃ o, g.get? e = some o ∧ o.cls = .type "StopIteration") → IsZip g z TI TO .ellipsis ∧ ∀ g5, Heap.SameBut z g g5 →
        wpAny (model X.prog X.w) X.A ((do if ← isInstance (.ref e) (.type "StopIteration") then return none else throw (.ref e)) : Sem (Option Value)) (fun r s1 => r = none ∧ Inv X pins σ H s1) E { s with heap := g5, toks := tk } := fun {g tk e} I' q ⟨o, eo, co⟩ => ⟨q, fun g5 k5 => by
      have ne : e ≠ z := fun y => by rw [y, q] at eo; cases eo; simp at co
      exact wpAny_bind (wpAny_isInstance (T := "StopIteration") (b := true) ⟨o, k5.extBut _ _ ne eo, co⟩ isSubtype_stop (wpAny_pure ⟨rfl, tz (it := z) (s' := { s with heap := g, toks := tk }) (by simp) I' (same k5)⟩))⟩
    rcases hg with e1 | ⟨g1, e2⟩
    · exact S1.done X rfl rfl rfl _ hh i pins { s with heap := u1 } σ H _ _ I1 st1 e1 fun u2 e k2 he => ended (tk := s.toks) (tz (it := i1) (s' := { s with heap := u1 }) (by simp) I1 k2) (k2 _ _ D.i1z.symm q1) he
    · refine S1.item X rfl rfl rfl _ i pins { s with heap := u1 } σ H _ _ I1 st1 g1 fun x ux u2 t2 rx y1 st1' k2 => ⟨a, b, k2.extBut _ _ D.TOi1 (k1.extBut _ _ D.TOz hTO), fun u3 p3 k3 => ?_⟩
      have I2 : Inv X pins σ H { s with heap := u2, toks := t2 } := tz (it := i1) (s' := { s with heap := u1 }) (by simp) I1 (same k2)
      have I3 : Inv X pins σ H { s with heap := u3, toks := t2 } := tz (it := TO) (s' := { s with heap := u2, toks := t2 }) (by simp) I2 (same k3)
      refine S2.done X rfl rfl rfl _ hh i pins { s with heap := u3, toks := t2 } σ H _ _ I3 (S2.keep i _ _ h2 fun o e => k3.extBut _ _ D.TOi2.symm (k2.extBut _ _ D.i12.symm (k1.extBut _ _ D.i2z e))) e2 fun u4 e k4 he => ?_
      exact ended (tk := t2) (tz (it := i2) (s' := { s with heap := u3, toks := t2 }) (by simp) I3 k4) (k4 _ _ D.i2z.symm (k3.extBut _ _ D.TOz.symm (k2.extBut _ _ D.i1z.symm q1))) he
  self := fun _ _ _ _ _ st h => wpAny_pyIter_zip st.1 h

/-! the call of zip -/
inductive SrcV (h : Heap) : Value → Obj → Prop where
  | list {l : Addr} {xs : Array Value} (e : h.IsList l xs) : SrcV h (.ref l) { cls := .type "list_iterator", data := .fields #[.ref l, .int 0 0] }
  | tup {l : Addr} {xs : Array Value} (e : h.IsTuple l xs) : SrcV h (.ref l) { cls := .type "tuple_iterator", data := .fields #[.ref l, .int 0 0] }
  | str (y : Str) (t : Tok) : SrcV h (.str y t) (strItO y t)
theorem SrcV.keep {h h' : Heap} {u : Value} {o : Obj} (x : SrcV h u o) (k : ∀ b o, h.get? b = some o → h'.get? b = some o) : SrcV h' u o := by
  cases x with
  | list e => exact .list (e.at fun o q => k _ o q)
  | tup e => obtain ⟨o, e, r⟩ := e; exact .tup ⟨o, k _ _ e, r⟩
  | str y t => exact .str y t
theorem pyIter_src {A : Around} {E : Value → Shared → Prop} {s : Shared} {u : Value} {o : Obj} {Q : Value → Shared → Prop} (x : SrcV s.heap u o) (h : Q (.ref s.heap.objs.size) { s with heap := s.heap.push o }) : wpAny (model P w) A (pyIter u) Q E s := by
  cases x with
  | list e => exact wpAny_pyIter_list e h
  | tup e => exact wpAny_pyIter_tuple e h
  | str y t => exact pyIter_str' h
abbrev zA (h : Heap) (o1 : Obj) : Heap := h.push o1
abbrev zB (h : Heap) (o1 o2 : Obj) : Heap := (zA h o1).push o2
abbrev zC (h : Heap) (o1 o2 : Obj) : Heap := (zB h o1 o2).push { cls := .type "tuple", data := .seq #[.ref h.objs.size, .ref (zA h o1).objs.size] }
abbrev zD (h : Heap) (o1 o2 : Obj) : Heap := (zC h o1 o2).push { cls := .type "tuple", data := .seq #[.none, .none] }
abbrev zE (h : Heap) (o1 o2 : Obj) : Heap := (zD h o1 o2).push { cls := .type "zip", data := .fields #[.none, .bool false, .bool false, .ref (zB h o1 o2).objs.size, .ref (zC h o1 o2).objs.size] }
/-- a zip has been made over h: its five objects in g -/
structure Zipped (h g : Heap) (o1 o2 : Obj) (z TI TO i1 i2 : Addr) : Prop where
  zip : IsZip g z TI TO .none
  ins : IsPair g TI (.ref i1) (.ref i2)
  outs : IsPair g TO .none .none
  one : g.get? i1 = some o1
  two : g.get? i2 = some o2
  keep : ∀ c o, h.get? c = some o → g.get? c = some o
  young : ∀ c ∈ [z, TI, TO, i1, i2], h.objs.size ≤ c
  ap : ZipAp z TI TO i1 i2
theorem zipped (h : Heap) {o1 o2 : Obj} (n1 : o1.isFreed = false) (n2 : o2.isFreed = false) : Zipped h (zE h o1 o2) o1 o2 (zD h o1 o2).objs.size (zB h o1 o2).objs.size (zC h o1 o2).objs.size h.objs.size (zA h o1).objs.size := by
  have up : ∀ {g : Heap} {a : Addr} {o u : Obj}, g.get? a = some o → (g.push u).get? a = some o := fun e => Heap.get?_push_of_some _ e
  have at_ : ∀ {g : Heap} {o : Obj}, o.isFreed = false → (g.push o).get? g.objs.size = some o := fun e => Heap.get?_push_size _ e
  have sA : (zA h o1).objs.size = h.objs.size + 1 := Heap.size_push ..
  have sB : (zB h o1 o2).objs.size = h.objs.size + 2 := by rw [Heap.size_push, sA]
  have sC : (zC h o1 o2).objs.size = h.objs.size + 3 := by rw [Heap.size_push, sB]
  have sD : (zD h o1 o2).objs.size = h.objs.size + 4 := by rw [Heap.size_push, sC]
  refine ⟨at_ rfl, up (up (at_ rfl)), up (at_ rfl), up (up (up (up (at_ n1)))), up (up (up (at_ n2))), fun c o e => up (up (up (up (up e)))), fun c hc => ?_, ?_⟩
  · rw [sA, sB, sC, sD] at hc
    simp only [List.mem_cons, List.not_mem_nil, or_false] at hc
    rcases hc with e | e | e | e | e <;> (rw [e]; first | exact Nat.le_add_right _ _ | exact Nat.le_refl _)
  · rw [sA, sB, sC, sD]
    exact zipAp_of _
theorem meets_zip_src (u1 u2 : Value) (o1 o2 : Obj) :
    Meets (Builtin.«zip.__new__» ⟨[.type "zip", u1, u2], []⟩) (fun _ R s => SrcV s.heap u1 o1 ∧ SrcV s.heap u2 o2 ∧ R (.ok (.ret (.ref (zD s.heap o1 o2).objs.size))) { s with heap := zE s.heap o1 o2 }) :=
  .of_wp fun prog w A R s ⟨x1, x2, r⟩ => by
    obtain ⟨hp, g, d, tk, os⟩ := s
    have hsub := sub_zip
    have L1 : SrcV (Shared.heap ⟨hp, g, d, tk, os⟩) u1 o1 := x1
    have L2 : SrcV (Shared.heap ⟨hp.push o1, g, d, tk, os⟩) u2 o2 := x2.keep fun b o e => Heap.get?_push_of_some _ e
    wp_walk using pyIter_src L1, pyIter_src L2
    exact ⟨_, rfl, r⟩
theorem call_zip_src {A : Around} {E : Value → Shared → Prop} {s : Shared} {u1 u2 : Value} {o1 o2 : Obj} {Q : Value → Shared → Prop} (x1 : SrcV s.heap u1 o1) (x2 : SrcV s.heap u2 o2) (n1 : o1.isFreed = false) (n2 : o2.isFreed = false)
    (k : ∀ g z TI TO i1 i2, Zipped s.heap g o1 o2 z TI TO i1 i2 → Q (.ref z) { s with heap := g }) : wpAny (model P w) A (call (.type "zip") [u1, u2]) Q E s :=
  callType_new F.called_zip (by decide) (F.typeCall_zip_2 u1 u2) (F.newCall_zip_2 u1 u2) (fun obj => F.args_object_init_3 obj u1 u2) F.entry_zip_new (meets_zip_src u1 u2 o1 o2) ⟨x1, x2, ⟨_, (zipped s.heap n1 n2).zip, rfl⟩, k _ _ _ _ _ _ (zipped s.heap n1 n2)⟩
end
/-- what a zip may walk, as it stands in the abstract heap -/
inductive SrcOf (K : PySem.W.Frag) (H : Hp) : V → It → Prop where
  | list {a : Addr} {xs : List V} (h : SqL K H a xs) : SrcOf K H (.ref a) (Itl K a)
  | tup {a : Addr} {xs : List V} (h : SqT K H a xs) : SrcOf K H (.ref a) (Itt K a)
  | str (y : Str) : SrcOf K H (.str y) (Itf (vsigns y))
section
variable {X : Cx}
theorem src_of {pins : List (Addr × Obj)} {σ : L2.St} {H : Hp} {s : Shared} {v : V} {J : It} {u : Value} (I : Inv X pins σ H s) (x : SrcOf X.K H v J) (r : RelV v u) : ∃ o, SrcV s.heap u o ∧ o.isFreed = false ∧ ∀ it h', h'.get? it = some o → ∃ st, Src X.prog X.w X.K J it st ∧ st 0 h' := by
  cases x with
  | list h =>
    cases r
    obtain ⟨its, rv, p, hz⟩ := I.list h
    exact ⟨_, .list p.isList, rfl, fun it h' e => ⟨_, src_list _ it, _, e, rfl, rfl⟩⟩
  | tup h =>
    cases r
    obtain ⟨its, rv, p, hz⟩ := I.tuple h
    exact ⟨_, .tup (show s.heap.IsTuple _ its.toArray from p), rfl, fun it h' e => ⟨_, src_tuple _ it, _, e, rfl, rfl⟩⟩
  | str y =>
    obtain ⟨t, rfl⟩ := r
    exact ⟨_, .str y t, rfl, fun it h' e => ⟨_, src_str y t it, _, e, rfl, rfl⟩⟩
def iZip (K : PySem.W.Frag) (ta : TA) : TI := fun σ H R => ta σ H fun vs H1 => ∃ u v J1 J2, vs = [u, v] ∧ SrcOf K H1 u J1 ∧ SrcOf K H1 v J2 ∧ R (ItZ J1 J2) H1
theorem pi_zip {a b : Expr} {ta : TA} {p pos : Pos} {elts : List Expr} {kk : Nat} {tpos : Pos} (hg : Gl X "zip") (hm : X.mg "zip" = none) (ha : PA X [a, b] ta) (hs : starEach [a, b] X.env = [(false, eval a X.env), (false, eval b X.env)] := by rfl) (hs2 : starEach [b] X.env = [(false, eval b X.env)] := by rfl) :
    PI X (.Tuple elts kk tpos) (.Call (.Name "zip" p) [a, b] [] pos) (iZip X.K ta) := by
  constructor; intro pins s σ H R I h
  refine Call_ (ld_blt I hg hm boot_zip (PyProof.Rows.callWith_type1 (thn (ha pos pins s σ H _ I h) fun us s1 ⟨vs, H1, I1, r1, q1⟩ => ?_) (by rw [hs, hs2]) (by rw [hs2]; rfl)))
  obtain ⟨x, y, J1, J2, rfl, x1, x2, q⟩ := q1
  obtain ⟨u, w', rfl, ru, rw'⟩ := vals2 r1
  obtain ⟨o1, v1, n1, k1⟩ := src_of I1 x1 ru
  obtain ⟨o2, v2, n2, k2⟩ := src_of I1 x2 rw'
  refine call_zip_src v1 v2 n1 n2 fun g z TI TO i1 i2 Z => ?_
  obtain ⟨st1, S1, t1⟩ := k1 _ _ Z.one
  obtain ⟨st2, S2, t2⟩ := k2 _ _ Z.two
  have I2 : Inv X pins σ H1 { s1 with heap := g } := I1.kept (t' := s1.toks) Z.keep
  exact wpAny_pyIter_zip (s := { s1 with heap := g }) Z.zip ⟨z, [z, TI, TO, i1, i2], _, ItZ J1 J2, H1, rfl, I2, turn_zip Z.ap S1 S2, ⟨Z.zip, Z.ins, ⟨_, _, Z.outs⟩, t1, t2⟩, fun b hb => I1.fpOk (Z.young b hb) (I1.hok.fresh (Z.young b hb)), q⟩
end
/-- what a source gives -/
structure Gives (J : It) (H : Hp) (xs : List V) : Prop where
  go : ∀ i, i < xs.length → J.go i H
  stop : ∀ i, xs.length ≤ i → J.stop i H
  yld : ∀ i x H', J.yld i H x H' → xs[i]? = some x
theorem gives_list {K : PySem.W.Frag} {H : Hp} {a : Addr} {xs : List V} (h : SqL K H a xs) : Gives (Itl K a) H xs := ⟨fun i hi => ⟨xs, xs[i], h, by simp [hi]⟩, fun i hi => ⟨xs, h, hi⟩, fun i x H' y => y.2 xs h⟩
theorem for_zip {J1 J2 : It} {xs ys : List V} {g : TG} {tb : TS} {D : Ends} {σ : L2.St} {H : Hp} (Pv : Nat → L2.St → Hp → Prop) (h0 : Pv 0 σ H) (hl : ∀ i σ H, Pv i σ H → Gives J1 H xs ∧ Gives J2 H ys)
    (hs : ∀ i x y σ H p, xs[i]? = some x → ys[i]? = some y → Pv i σ H → H p = none → g (.ref p) σ (upd H p (.tup [x, y])) fun σ2 H2 => tb { D with nx := Pv (i + 1), ct := Pv (i + 1), bk := D.nx } σ2 H2) (hd : ∀ σ H, Pv (min xs.length ys.length) σ H → D.nx σ H) :
    ∃ W : Nat → Nat → L2.St → Hp → Prop, (∃ m, W 0 m σ H) ∧ ∀ i m σ H, W i m σ H →
      ((ItZ J1 J2).stop i H ∧ D.nx σ H) ∨ ((ItZ J1 J2).go i H ∧ ∃ N : L2.St → Hp → Prop, (∀ σ' H', N σ' H' → ∃ m', m' < m ∧ W (i + 1) m' σ' H') ∧ ∀ x H', (ItZ J1 J2).yld i H x H' → g x σ H' fun σ2 H2 => tb { D with nx := N, ct := N, bk := D.nx } σ2 H2) := by
  refine ⟨fun i m σ H => m = min xs.length ys.length - i ∧ i ≤ min xs.length ys.length ∧ Pv i σ H, ⟨min xs.length ys.length, by simp, Nat.zero_le _, h0⟩, ?_⟩
  rintro i m σ H ⟨rfl, hi, p⟩
  obtain ⟨G1, G2⟩ := hl i σ H p
  by_cases hlt : i < min xs.length ys.length
  · refine .inr ⟨⟨G1.go i (by omega), G2.go i (by omega)⟩, Pv (i + 1), fun σ' H' p' => ⟨min xs.length ys.length - (i + 1), by omega, rfl, hlt, p'⟩, fun v H' y => ?_⟩
    obtain ⟨q, x, y, y1, y2, rfl, hn, rfl⟩ := y
    exact hs i x y σ H q (G1.yld i x _ y1) (G2.yld i y _ y2) p hn
  · have e : i = min xs.length ys.length := by omega
    subst e
    refine .inl ⟨?_, hd σ H p⟩
    by_cases h : xs.length ≤ ys.length
    · exact .inl (G1.stop _ (by omega))
    · exact .inr ⟨G1.go _ (by omega), G2.stop _ (by omega)⟩
end My
/-! ### figures of a text: in, index; more of isinstance -/
namespace My
open PySem PySem.Spec PyProof.Rows L2 PySem.NumText
section
variable {X : Cx}
end
section
variable {K : PySem.W.Frag}
end
/-- a text that a message may show -/
def Short (n : Nat) (x : Str) : Prop := x.length ≤ n ∧ ∀ c ∈ x.cps.toList, c < 16 ^ 8
section
variable {X : Cx} {K : PySem.W.Frag}
theorem call_isxK (hK : X.K = K) : CallR X (.builtin "isinstance") (fun xs H Q => ∃ a C b c, xs = [V.ref a, c] ∧ H a = some (excO a C) ∧ ExcK K C ∧ ((∃ D, c = V.ref D ∧ PySem.W.kitOne K (.ref C) (.ref D) = some b) ∨ ∃ T, c = V.ty T ∧ PySem.W.kitOne K (.ref C) (.type T) = some b) ∧ Q (.bl b) H) := by
  subst hK
  exact call_isx
end
end My
/-! ### [elt for target in iter], elt any expression that raises nothing -/
namespace My
open PySem PySem.Spec PyProof.Rows L2
section
variable {X : Cx} {pins : List (Addr × Obj)} {σ : L2.St} {H : Hp} {s : Shared} {scope : Scope} {N : List Str} {C : Addr} {ex : List Addr}
end
section
variable {X : Cx} {pins : List (Addr × Obj)} {σ : L2.St} {H : Hp} {s : Shared} {scope : Scope} {N : List Str} {target iter elt : Expr} {pos : Pos} {g : TG} {te : TE}
/-- behind the block: the caller's state -/
theorem comp_after {s' : Shared} {H' : Hp} {fp : List Addr} {C : Addr} (I : Inv X pins σ H s) (hf : ∀ b ∈ fp, FpOk X pins H b) (os : s'.os = s.os) (bare : AllBare s'.gens) (un : Un (frs X.stack) fp H H' s.heap s'.heap) (hok : HOk X.prog X.w H' s'.heap) (nC : H' C = none) (hC : s.heap.objs.size ≤ C) :
    Inv X pins σ H' s' ∧ FpOk X pins H' C :=
  ⟨I.call' os un hok bare fun b hb => let ⟨_, f1, _, f3, f4, f5⟩ := hf b hb; ⟨f3, f1, f4, f5⟩, I.fpOk hC nC⟩
theorem inv_but {H' : Hp} {C : Addr} {h' : Heap} (I : Inv X pins σ H' s) (f : FpOk X pins H' C) (k : Heap.SameBut C s.heap h') : Inv X pins σ H' { s with heap := h' } :=
  let ⟨f0, f1, _, f3, f4, f5⟩ := f
  I.turned (t' := s.toks) (fun b o hb e => (k.2 b hb).trans e) f0 f1 f3 f4 f5
end
end My
/-! ### texts cut at a sign and put together again: split, join -/
namespace My
open PySem PySem.Spec PyProof.Rows L2 PySem.Builtin.Str
section
variable {X : Cx}
end
/-- a callee that raises nothing here -/
theorem passF {P : Program} {w : World} {X : Cx} : Passes (CXW P w) X (fun _ _ _ => False) := fun _ _ _ _ _ _ _ h => by
  obtain ⟨_, _, _, _, _, _, _, _, _, _, _, _, _, _, _, _, z⟩ := h
  exact z.elim
end My
/-! ### a dict of the module: D.get(e) -/
namespace My
open PySem PySem.Spec PyProof.Rows L2
structure KDict (P : Program) (w : World) (K : PySem.W.Frag) (a : Addr) (kvs : List (Key × V)) : Prop where
  get : ∀ h : Heap, K.In h → ∃ vs, KV kvs vs ∧ h.DictOf (mixKind P w) a vs
  sys : (a == sysModules) = false
inductive KEnts (w : World) : List DictEntry → List (Str × V) → Prop where
  | nil : KEnts w [] []
  | cons {x : Str} {t : Tok} {v : V} {u : Value} {es : List DictEntry} {ps : List (Str × V)} (r : RelV v u) (q : KEnts w es ps) : KEnts w ({ hash := hashStr w x, key := .str x t, val := u } :: es) ((x, v) :: ps)
end My
/-! ### str of an int or a text; a comprehension over what stays -/
namespace My
open PySem PySem.Spec PyProof.Rows L2
end My
namespace My
open PySem PySem.Spec PyProof.Rows L2
end My
/-! ### [elt for target in iter if test], with names of the def around it (cells) -/
namespace My
open PySem PySem.Spec PyProof.Rows L2
/-- what a block closes over -/
def closOf (cells : List (Str × Addr)) : List (Str × NameKind) → List (Str × Addr) → List (Str × Addr)
  | [], acc => acc
  | (n, k) :: r, acc => if (k == NameKind.free) = true then closOf cells r ((n, (cells.lookup n).getD 0) :: acc) else closOf cells r acc
theorem closure_is {scope : Scope} {env : Env} (h : ∀ q ∈ scope.names, q.2 = .free → ∃ c, env.cells.lookup q.1 = some c) : closureFor scope env = pure (closOf env.cells scope.names []) := by
  simp only [closureFor]
  generalize ([] : List (Str × Addr)) = acc
  revert h
  generalize scope.names = names
  intro h
  induction names generalizing acc with
  | nil => rfl
  | cons q r ih =>
    obtain ⟨n, k⟩ := q
    rw [List.forIn_cons]
    by_cases hk : (k == NameKind.free) = true
    · obtain ⟨c, hc⟩ := h (n, k) List.mem_cons_self (by simpa using hk)
      have e : cellOf env n = pure c := by simp only [cellOf, hc]
      simp only [closOf, hk, if_true, e, hc, Option.getD_some, pure_bind]
      exact ih _ fun q hq => h q (List.mem_cons_of_mem _ hq)
    · simp only [closOf, hk, if_false, pure_bind, Bool.false_eq_true]
      exact ih _ fun q hq => h q (List.mem_cons_of_mem _ hq)
theorem closOf_sub {cells : List (Str × Addr)} : ∀ {names : List (Str × NameKind)} {acc : List (Str × Addr)}, (∀ q ∈ names, q.2 = .free → ∃ c, cells.lookup q.1 = some c) → (∀ x c, acc.lookup x = some c → cells.lookup x = some c) → ∀ x c, (closOf cells names acc).lookup x = some c → cells.lookup x = some c
  | [], _, _, ha => ha
  | (n, k) :: r, acc, h, ha => by
    intro x c e
    by_cases hk : (k == NameKind.free) = true
    · obtain ⟨d, hd⟩ := h (n, k) List.mem_cons_self (by simpa using hk)
      rw [closOf, if_pos hk] at e
      refine closOf_sub (fun q hq => h q (List.mem_cons_of_mem _ hq)) (fun y b q => ?_) x c e
      cases hy : y == n with
      | true =>
        rw [List.lookup_cons, hy] at q
        have ey : y = n := by simpa using hy
        subst ey
        have hd' : List.lookup y cells = some d := hd
        rw [hd'] at q ⊢
        simpa using q
      | false =>
        rw [List.lookup_cons, hy] at q
        exact ha y b q
    · rw [closOf, if_neg hk] at e
      exact closOf_sub (fun q hq => h q (List.mem_cons_of_mem _ hq)) ha x c e
theorem closOf_has {cells : List (Str × Addr)} : ∀ {names : List (Str × NameKind)} {acc : List (Str × Addr)} {x : Str}, ((x, NameKind.free) ∈ names ∨ ∃ c, acc.lookup x = some c) → ∃ c, (closOf cells names acc).lookup x = some c
  | [], _, _, h => h.elim (fun z => by cases z) id
  | (n, k) :: r, acc, x, h => by
    by_cases hk : (k == NameKind.free) = true
    · rw [closOf, if_pos hk]
      refine closOf_has ?_
      cases hx : x == n with
      | true => exact .inr ⟨_, by rw [List.lookup_cons, hx]⟩
      | false =>
        rcases h with h | ⟨c, h⟩
        · rcases List.mem_cons.mp h with z | z
          · cases z
            simp at hx
          · exact .inl z
        · exact .inr ⟨c, by rw [List.lookup_cons, hx]; exact h⟩
    · rw [closOf, if_neg hk]
      refine closOf_has ?_
      rcases h with h | h
      · rcases List.mem_cons.mp h with z | z
        · cases z
          exact absurd rfl hk
        · exact .inl z
      · exact .inr h
theorem relabel_kind {env : Env} : ∀ {names : List (Str × NameKind)} {x : Str} {k' : NameKind}, (names.map fun (n, k) => if (k == NameKind.free && env.scope.kind == .function && env.kindOf n == some .cell) then (n, NameKind.cell) else (n, k)).lookup x = some k' →
    ∃ k, names.lookup x = some k ∧ (k' = k ∨ (k = .free ∧ k' = .cell))
  | [], _, _, h => by simp at h
  | (n, k) :: r, x, k', h => by
    have ih := @relabel_kind env r x k'
    have h : List.lookup x ((if (k == NameKind.free && env.scope.kind == .function && env.kindOf n == some .cell) = true then (n, NameKind.cell) else (n, k)) :: _) = some k' := h
    cases hx : x == n with
    | true =>
      by_cases hc : (k == NameKind.free && env.scope.kind == .function && env.kindOf n == some .cell) = true
      · rw [if_pos hc, List.lookup_cons, hx] at h
        cases h
        have hk : k = .free := by
          simp only [Bool.and_eq_true] at hc
          simpa using hc.1.1
        exact ⟨k, by rw [List.lookup_cons, hx], .inr ⟨hk, rfl⟩⟩
      · rw [if_neg hc, List.lookup_cons, hx] at h
        cases h
        exact ⟨k, by rw [List.lookup_cons, hx], .inl rfl⟩
    | false =>
      obtain ⟨k2, e, q⟩ := ih (by
        by_cases hc : (k == NameKind.free && env.scope.kind == .function && env.kindOf n == some .cell) = true
        · rw [if_pos hc, List.lookup_cons, hx] at h; exact h
        · rw [if_neg hc, List.lookup_cons, hx] at h; exact h)
      exact ⟨k2, by rw [List.lookup_cons, hx]; exact e, q⟩
/-- the context of the block -/
def compCxF (X : Cx) (scope : Scope) (N : List Str) (cl : List (Str × Addr)) (C : Addr) (s₀ : Shared) (H₀ : Hp) (ex : List Addr) : Cx :=
  { X with N := N, s₀ := s₀, H₀ := H₀, env := compEnvC scope cl C X.env, outer := X.stack, stack := X.stack, ex := ex, fn := fun _ => false, pn := [], xe := fun _ _ => False }
/-- the names at the block's entry: its own have no value yet, those of the def have theirs -/
def startF (σ : L2.St) (n : Nat) (js : List Nat) : L2.St := List.replicate n none ++ js.map fun j => (σ[j]?).getD none
/-- the tests of a clause -/
def ifsOf (ifs : List Expr) (env : Env) : Sem Bool := forIn ifs true fun c r => if r = true then do let ok ← isTrue c env (eval c env); pure (ForInStep.yield ok) else pure (ForInStep.yield r)
structure PIfs (X : Cx) (ifs : List Expr) (t : TT) : Prop where
  run : ∀ (pins : List (Addr × Obj)) (s : Shared) (σ : L2.St) (H : Hp) (Q : Bool → Hp → Prop), Inv X pins σ H s → t σ H Q → wpAny (model X.prog X.w) X.A (ifsOf ifs X.env) (TP X pins σ Q) X.xe s
def tYes : TT := fun _ H Q => Q true H
theorem pf_nil {X : Cx} : PIfs X [] tYes := ⟨fun pins s σ H Q I h => wpAny_tests_nil ⟨H, I, h⟩⟩
/-- scope and names fit: fv are names of the def (its cells), at the places js of its own names -/
structure CompSc (X : Cx) (scope : Scope) (fv : List Str) (js : List Nat) : Prop where
  kind : scope.kind = .function
  cell : ∀ q ∈ scope.names, q.2 ≠ .cell
  names : ∀ q ∈ scope.names, q.2 = .local → scope.names.lookup q.1 = some .local
  free : ∀ q ∈ scope.names, q.2 = .free → q.1 ∈ fv
  out : ∀ x ∈ fv, X.env.kindOf x = some .cell ∨ X.env.kindOf x = some .free
  at' : js.map (fun j => X.N[j]?) = fv.map some
  fr : ∀ x ∈ fv, scope.names.lookup x = some .free
section
variable {X : Cx} {pins : List (Addr × Obj)} {σ : L2.St} {H : Hp} {s : Shared} {scope : Scope} {N : List Str} {C : Addr} {ex : List Addr} {cl : List (Str × Addr)} {fv tg : List Str} {js : List Nat}
theorem CompSc.clos (S : CompSc X scope fv js) (ok : X.Ok) : closureFor scope X.env = pure (closOf X.env.cells scope.names []) := closure_is fun q hq e => ok.has q.1 (S.out q.1 (S.free q hq e))
theorem CompSc.sub (S : CompSc X scope fv js) (ok : X.Ok) : ∀ x c, (closOf X.env.cells scope.names []).lookup x = some c → X.env.cells.lookup x = some c :=
  closOf_sub (fun q hq e => ok.has q.1 (S.out q.1 (S.free q hq e))) (fun x c e => by cases e)
theorem comp_okF (I : Inv X pins σ H s) (S : CompSc X scope fv js) (hC : s.heap.objs.size ≤ C)
    (hf : ∀ b ∈ ex, FpOk X pins H b) (ho : ∀ b ∈ ex, ∃ o, s.heap.get? b = some o) : (compCxF X scope N (closOf X.env.cells scope.names []) C s H ex).Ok := by
  have sub := S.sub I.ok
  refine ⟨I.ok.mod, S.kind, I.ok.glob, I.ok.blt, hC, fun x y c e1 e2 => I.ok.inj x y c (sub x c e1) (sub y c e2), fun x hx => ?_, fun x c z _ => Bool.noConfusion z, I.ok.hd, I.ok.frames, .inl rfl, fun b hb => ⟨?_, fun x c e => ?_⟩, I.bs, Nat.le_trans I.ok.bsz I.sz, fun b o e hb => ?_, fun b hb hm => ?_, I.stack, I.stkFree⟩
  · have e : ∃ k', (relabel scope X.env).names.lookup x = some k' ∧ (k' = .cell ∨ k' = .free) := by
      rcases hx with z | z
      · exact ⟨_, z, .inl rfl⟩
      · exact ⟨_, z, .inr rfl⟩
    obtain ⟨k', e, hk⟩ := e
    obtain ⟨k, e2, q⟩ := relabel_kind e
    have hk2 : k = .free := by
      rcases q with rfl | ⟨rfl, _⟩
      · rcases hk with rfl | rfl
        · exact absurd rfl (S.cell _ (PySem.mem_of_lookup e2))
        · rfl
      · rfl
    subst hk2
    exact closOf_has (.inl (PySem.mem_of_lookup e2))
  · obtain ⟨o, e⟩ := ho b hb
    exact Nat.ne_of_lt (Nat.lt_of_lt_of_le (Heap.lt_size e) hC)
  · obtain ⟨_, _, _, _, q, _⟩ := hf b hb
    exact q x c (sub x c e)
  · obtain ⟨_, _, _, q, _⟩ := hf b hb
    rcases q with q | q
    · exact I.ok.noex b o e q
    · exact absurd (Nat.lt_of_lt_of_le (Heap.lt_size e) (Nat.le_trans I.ok.bsz q)) (Nat.lt_irrefl _)
  · obtain ⟨_, q1, q2, _⟩ := hf b hb
    rcases List.mem_cons.mp (I.stkSub b hm) with z | z
    · exact q1 z
    · exact q2 z
theorem comp_startF {D : Addr} {h' : Heap} {t' : Nat} {m : Str → Option Value} (I : Inv X pins σ H s) (S : CompSc X scope fv js) (ok : (compCxF X scope (tg ++ fv) (closOf X.env.cells scope.names []) C s H ex).Ok) (hk : ∀ b o, s.heap.get? b = some o → h'.get? b = some o) (hD : s.heap.get? D = none) (hC : s.heap.get? C = none) (hDC : D ≠ C)
    (hl : h'.get? D = some { cls := .type "list", data := .seq #[] }) (hn : h'.Ns C m) : Inv (compCxF X scope (tg ++ fv) (closOf X.env.cells scope.names []) C s H ex) [] (startF σ tg.length js) (upd H D (.lst [])) { s with heap := h', toks := t' } := by
  have nD := inv_none I hD
  have neD : ∀ b u, s.heap.get? b = some u → b ≠ D := fun b u e z => by rw [z, hD] at e; cases e
  have sub := S.sub I.ok
  have cellK : ∀ c v, s.heap.IsCell c v → h'.IsCell c v := fun c v ⟨o, ho, hd⟩ => ⟨o, hk c o ho, hd⟩
  have hlen : js.length = fv.length := by have := congrArg List.length S.at'; simpa using this
  refine ⟨ok, rfl, I.bare, ⟨fun b u q _ _ _ => hk b u q, fun b u q _ _ _ => ⟨u.slots, hk b u q⟩, fun b u q n _ => by rw [upd_ne (neD b u q)]; exact n, fun b u q _ => ⟨u, hk b u q⟩, fun b xs q => by rw [upd_ne (ne_of_none q nD)]; exact q,
    fun b u xs q => by rw [upd_ne (ne_of_none q nD)]; exact q, fun b ps (q : H b = _) => ⟨#[], by rw [upd_ne (ne_of_none q nD), q]; simp⟩⟩, ⟨m, hn, fun i x v e1 e2 e3 => ?_⟩, fun x c e => ?_, ?_, fun x c e => ?_, fun p hp => (by cases hp), fun b u e => ?_, by simp [compCxF, startF, hlen]⟩
  · have e1 : (tg ++ fv)[i]? = some x := e1
    rcases Nat.lt_or_ge i tg.length with hi | hi
    · rw [startF, List.getElem?_append_left (by simpa using hi), List.getElem?_replicate, if_pos hi] at e2
      cases e2
    · rw [List.getElem?_append_right hi] at e1
      rw [startF, List.getElem?_append_right (by simpa using hi), List.length_replicate, List.getElem?_map] at e2
      obtain ⟨j, hj, e2⟩ := Option.map_eq_some_iff.mp e2
      have hσ : σ[j]? = some (some v) := by
        cases q : σ[j]? with
        | none => rw [q] at e2; cases e2
        | some z => rw [q] at e2; exact congrArg some e2
      have hN : X.N[j]? = some x := by
        have q := congrArg (fun l => l[i - tg.length]?) S.at'
        simp only [List.getElem?_map, hj, e1, Option.map_some] at q
        exact Option.some.inj q
      have hx : x ∈ fv := List.mem_of_getElem? e1
      have ko := S.out x hx
      obtain ⟨m0, _, hl0⟩ := I.loc
      have vis : Vis X.env.scope x := ko.elim (fun z => .inr (.inl z)) fun z => .inr (.inr z)
      obtain ⟨u, ru, lk⟩ := hl0 j x v hN hσ vis
      obtain ⟨c, hc, hcell⟩ : ∃ c, X.env.cells.lookup x = some c ∧ s.heap.IsCell c (some u) := by
        rcases lk with ⟨z, _⟩ | ⟨_, q⟩
        · rcases ko with y | y <;> (rw [y] at z; cases z)
        · exact q
      obtain ⟨c2, hc2⟩ : ∃ c2, (closOf X.env.cells scope.names []).lookup x = some c2 := closOf_has (.inl (PySem.mem_of_lookup (S.fr x hx)))
      have ec : c2 = c := by have := sub x c2 hc2; rw [hc] at this; exact (Option.some.inj this).symm
      subst ec
      refine ⟨u, ru, .inr ⟨?_, c2, hc2, cellK _ _ hcell⟩⟩
      have e3 : (relabel scope X.env).names.lookup x = some .local ∨ (relabel scope X.env).names.lookup x = some .cell ∨ (relabel scope X.env).names.lookup x = some .free := e3
      rcases e3 with z | z | z
      · obtain ⟨k, ek, q⟩ := relabel_kind z
        rw [S.fr x hx] at ek
        cases ek
        rcases q with q | ⟨_, q⟩ <;> cases q
      · exact .inl z
      · exact .inr z
  · obtain ⟨v, z⟩ := I.cell x c (sub x c e)
    exact ⟨v, cellK c v z⟩
  · show upd H D (.lst []) C = none
    rw [upd_ne (Ne.symm hDC)]
    exact inv_none I hC
  · obtain ⟨v, o, ho, _⟩ := I.cell x c (sub x c e)
    rw [upd_ne (neD c o ho)]
    exact I.freeC x c (sub x c e)
  · by_cases hb : b = D
    · subst hb
      rw [upd_same] at e
      cases e
      exact ⟨Nat.zero_le _, [], _, .nil, hl⟩
    · rw [upd_ne hb] at e
      exact (I.hok b u e).stay (fun c v _ q => hk c v q) (fun c q => by rw [upd_ne (ne_of_none q nD)]; exact q) fun c xs q => by rw [upd_ne (ne_of_none q nD)]; exact q
end
theorem comp_loopF {prog : Program} {w : World} {A : Around} {s : Shared} {R : Result → Shared → Prop} {elt target iter : Expr} {ifs : List Expr} {scope : Scope} {pos : Pos} {it acc : Value} {env : Env} (I : Nat → Shared → Prop)
    (turn : ∀ n s, I n s → wpAny (model prog w) A (pyNext it) (fun r s1 => (r = none ∧ R (.ok .next) s1) ∨ ∃ v, r = some v ∧ wpAny (model prog w) A (letOwnedTupleGo target it v) (fun _ s2 => wpAny (model prog w) A (assign target env v) (fun _ s3 =>
      wpAny (model prog w) A (ifsOf ifs env) (fun ok s4 => if ok = true then wpAny (model prog w) A (eval elt env) (fun x s5 => wpAny (model prog w) A (call (.builtin "list.append") [acc, x]) (fun _ s6 => ∃ m, m < n ∧ I m s6) (fun _ _ => False) s5) (fun _ _ => False) s4
        else ∃ m, m < n ∧ I m s4) (fun _ _ => False) s3) (fun _ _ => False) s2) (fun _ _ => False) s1) (fun _ _ => False) s)
    (n : Nat) (h : I n s) : codeAny (model prog w) A (.compLoop (.ListComp elt [⟨target, iter, ifs, 0⟩] scope pos) 0 it acc env) R s := by
  have no : ∀ {α : Type} {E : Value → Shared → Prop} {t : Sem α} {Q : α → Shared → Prop} {u : Shared}, wpAny (model prog w) A t Q (fun _ _ => False) u → wpAny (model prog w) A t Q E u := fun z => wpAny_mono z (fun _ _ q => q) fun _ _ q => q.elim
  refine codeAny_loop rfl I (fun n s hI => wpAny_noted ?_) n h
  rw [compTurn_list]
  refine wpAny_bind (wpAny_standAt (wpAny_bind (wpAny_mono (turn n s hI) (fun r s1 q => ?_) fun _ _ z => z.elim)))
  rcases q with ⟨rfl, q⟩ | ⟨v, rfl, q⟩
  · exact wpAny_pure q
  · refine wpAny_bind (no (thn q fun _ s2 q2 => wpAny_bind (no (thn q2 fun _ s3 q3 => wpAny_bind (no (thn q3 fun ok s4 q4 => ?_))))))
    cases ok with
    | false => exact wpAny_pure ⟨rfl, q4⟩
    | true => exact wpAny_bind (wpAny_bind (no (thn q4 fun x s5 q5 => wpAny_bind (no (thn q5 fun _ s6 q6 => wpAny_pure (wpAny_pure ⟨rfl, q6⟩))))))
def compQF (σ0 : L2.St) (J : It) (g : TG) (tc : TT) (te : TE) (Q : VK) (H1 : Hp) : Prop := ∀ D, H1 D = none → ∃ W : Nat → Nat → List V → L2.St → Hp → Prop, (∃ m, W 0 m [] σ0 (upd H1 D (.lst []))) ∧ ∀ i m ys τ H, W i m ys τ H → H D = some (.lst ys) ∧
  ((J.stop i H ∧ Q (.ref D) H) ∨ (J.go i H ∧ ys.length < sizeLine ∧ ∀ v H', J.yld i H v H' → g v τ H' fun τ2 H2 => tc τ2 H2 fun ok H3 => if ok = true then te τ2 H3 fun y H4 => H4 D = some (.lst ys) ∧ ∃ m', m' < m ∧ W (i + 1) m' (ys ++ [y]) τ2 (upd H4 D (.lst (ys ++ [y])))
    else ∃ m', m' < m ∧ W (i + 1) m' ys τ2 H3))
section
variable {X : Cx} {pins : List (Addr × Obj)} {σ : L2.St} {H : Hp} {s : Shared} {scope : Scope} {fv : List Str} {js : List Nat} {target iter elt : Expr} {ifs : List Expr} {pos : Pos} {g : TG} {tc : TT} {te : TE}
theorem comp_blockF {E : Value → Shared → Prop} {J : It} {fp : List Addr} {it : Addr} {tn : Nat → Heap → Prop} {Q : VK} {RR : Value → Addr → Result → Shared → Prop} (tg : List Str) (I : Inv X pins σ H s) (hc : X.calm = true)
    (S : CompSc X scope fv js) (T : Turn X.prog X.w X.K target J fp it tn) (st : tn 0 s.heap) (hf : ∀ b ∈ fp, FpOk X pins H b)
    (hg : ∀ cl C s₀ H₀ ex, PG (compCxF X scope (tg ++ fv) cl C s₀ H₀ ex) target g) (hi : ∀ cl C s₀ H₀ ex, PIfs (compCxF X scope (tg ++ fv) cl C s₀ H₀ ex) ifs tc) (he : ∀ cl C s₀ H₀ ex, PE (compCxF X scope (tg ++ fv) cl C s₀ H₀ ex) elt te) (q : compQF (startF σ tg.length js) J g tc te Q H)
    (hRR : ∀ D C H' s' m, s'.os = s.os → AllBare s'.gens → Un (frs X.stack) fp H H' s.heap s'.heap → HOk X.prog X.w H' s'.heap → s'.heap.Ns C m → H' C = none → s.heap.objs.size ≤ C → Q (.ref D) H' → RR (.ref D) C (.ok .next) s') :
    wpAny (model X.prog X.w) X.A (newList []) (fun acc s3 => wpAny (model X.prog X.w) X.A (newFunctionEnv scope X.env.globals (closOf X.env.cells scope.names []) [] X.env.qual none .none (some X.env)) (fun cenv s4 =>
      codeAny (model X.prog X.w) X.A (.compStart (.ListComp elt [⟨target, iter, ifs, 0⟩] scope pos) 0 (.ref it) acc { cenv with scope := relabel scope X.env }) (RR acc cenv.locals) s4) E s3) E s := by
  refine wpAny_newObj_type (wpAny_newFunctionEnv S.cell (by intro y hy; simp at hy) (fun h1 hn k1 => ?_) S.kind)
  dsimp only at hn k1 ⊢
  generalize hg2 : s.heap.push { cls := .type "list", dict := none, data := .seq ([] : List Value).toArray } = g2 at hn k1 ⊢
  have hC : g2.objs.size = s.heap.objs.size + 1 := by rw [← hg2, Heap.size_push]
  have hDC : s.heap.objs.size ≠ g2.objs.size := by rw [hC]; exact Nat.ne_of_lt (Nat.lt_succ_self _)
  have hle : s.heap.objs.size ≤ g2.objs.size := by rw [hC]; exact Nat.le_succ _
  have nD : s.heap.get? s.heap.objs.size = none := Heap.get?_none_of_le (Nat.le_refl _)
  have nC : s.heap.get? g2.objs.size = none := Heap.get?_none_of_le hle
  have old : ∀ b o, s.heap.get? b = some o → h1.get? b = some o := fun b o e => k1.extBut b o (Nat.ne_of_lt (Nat.lt_of_lt_of_le (Heap.lt_size e) hle)) (Heap.get?_push_of_some _ (hg2 ▸ Heap.get?_push_of_some _ e))
  have hl : h1.get? s.heap.objs.size = some { cls := .type "list", data := .seq #[] } := k1.extBut _ _ hDC (Heap.get?_push_of_some _ (hg2 ▸ Heap.get?_push_size _ rfl))
  have ob := T.obj 0 s.heap st
  generalize hcl : closOf X.env.cells scope.names [] = cl
  have ok : (compCxF X scope (tg ++ fv) cl g2.objs.size s H fp).Ok := hcl ▸ comp_okF I S hle hf fun b hb => let ⟨o, e, _⟩ := ob b hb; ⟨o, e⟩
  have I0 : Inv (compCxF X scope (tg ++ fv) cl g2.objs.size s H fp) [] (startF σ tg.length js) (upd H s.heap.objs.size (.lst [])) { s with heap := h1, toks := s.toks + ([] : List (Str × Value)).length } := by
    subst hcl
    exact comp_startF I S ok old nD nC hDC hl hn
  have st1 : tn 0 h1 := T.keep 0 _ _ st fun b _ o e => old b o e
  obtain ⟨W, ⟨m0, w0⟩, turn⟩ := q _ (inv_none I nD)
  have fpok : ∀ {H' : Hp} {ps : List (Addr × Obj)}, (∀ p ∈ ps, p.1 ∉ fp) → (∀ b ∈ fp, H' b = none) → ∀ b ∈ fp, FpOk (compCxF X scope (tg ++ fv) cl g2.objs.size s H fp) ps H' b := fun hps hn b hb => ⟨hn b hb, (ok.exf b hb).1, ok.exfs b hb, .inl hb, (ok.exf b hb).2, fun p hp z => hps p hp (z ▸ hb)⟩
  have loop : codeAny (model X.prog X.w) X.A (.compLoop (.ListComp elt [⟨target, iter, ifs, 0⟩] scope pos) 0 (.ref it) (.ref s.heap.objs.size) (compEnvC scope cl g2.objs.size X.env)) (RR (.ref s.heap.objs.size) g2.objs.size) { s with heap := h1, toks := s.toks + ([] : List (Str × Value)).length } := by
    refine comp_loopF (fun n s' => ∃ i ys τ H', Inv (compCxF X scope (tg ++ fv) cl g2.objs.size s H fp) [] τ H' s' ∧ tn i s'.heap ∧ (∀ b ∈ fp, H' b = none) ∧ W i n ys τ H') (fun n s' hI => ?_) m0 ⟨0, [], _, _, I0, st1, fun b hb => ?_, w0⟩
    · obtain ⟨i, ys, τ, H', I1, t1, f1, w1⟩ := hI
      obtain ⟨hD, w1⟩ := turn i n ys τ H' w1
      rcases w1 with ⟨stop, qn⟩ | ⟨go, hz, step⟩
      · refine thn (T.done (compCxF X scope (tg ++ fv) cl g2.objs.size s H fp) rfl rfl rfl hc i [] s' τ H' _ I1 (fpok (by simp) f1) t1 stop) fun r s2 ⟨hr, I2⟩ => .inl ⟨hr, ?_⟩
        obtain ⟨m, hn2, _⟩ := I2.loc
        exact hRR _ _ H' s2 m I2.os I2.bare I2.base I2.hok hn2 I2.free hle qn
      · refine thn (T.item (compCxF X scope (tg ++ fv) cl g2.objs.size s H fp) rfl rfl rfl hc i [] s' τ H' _ I1 (fpok (by simp) f1) t1 go) fun r s2 ⟨u, hr, h2⟩ => .inr ⟨u, hr, thn h2 fun _ s3 ⟨x, H3, I3, r3, y3, t3, f3⟩ => ?_⟩
        have I3' := I3.pinned (fpok (by simp) f3) (T.obj _ _ t3)
        have back : ∀ {s6 : Shared} {τ4 : L2.St} {H6 : Hp}, Inv (compCxF X scope (tg ++ fv) cl g2.objs.size s H fp) ([] ++ pinsAt fp s3.heap) τ4 H6 s6 → tn (i + 1) s6.heap ∧ ∀ b ∈ fp, H6 b = none := fun I6 =>
          ⟨T.keep _ _ _ t3 fun b hb o e => (I6.pin (b, o) (List.mem_append_right _ (List.mem_append_right _ (mem_pinsAt hb e)))).1, fun b hb => by
            obtain ⟨o, e, _⟩ := T.obj _ _ t3 b hb
            exact (I6.pin (b, o) (List.mem_append_right _ (List.mem_append_right _ (mem_pinsAt hb e)))).2.1⟩
        refine thn ((hg _ _ _ _ _) _ s3 τ H3 x u _ I3' r3 (step x H3 y3)) fun _ s4 ⟨τ4, H4, I4, q4⟩ => ?_
        refine thn ((hi _ _ _ _ _).run _ s4 τ4 H4 _ I4 q4) fun b s5 ⟨H5, I5, q5⟩ => ?_
        cases b with
        | false =>
          obtain ⟨m', hm, w5⟩ := (show ∃ m', m' < n ∧ W (i + 1) m' ys τ4 H5 from q5)
          obtain ⟨b1, b2⟩ := back I5
          exact ⟨m', hm, i + 1, _, τ4, _, I5.unpinned, b1, b2, w5⟩
        | true =>
          refine thn ((he _ _ _ _ _) _ s5 τ4 H5 _ I5 q5) fun z s6 ⟨y, H6, I6, r6, hD6, m', hm, w6⟩ => ?_
          refine thn (mt_append _ s6 τ4 H6 (.ref s.heap.objs.size) [y] (.ref s.heap.objs.size) [z] (fun _ H7 => H7 = upd H6 s.heap.objs.size (.lst (ys ++ [y]))) I6 rfl (.cons r6 .nil) ⟨_, ys, y, rfl, rfl, hD6, hz, rfl⟩) fun _ s7 ⟨v7, H7, I7, _, e7⟩ => ?_
          subst e7
          obtain ⟨b1, b2⟩ := back I7
          exact ⟨m', hm, i + 1, _, τ4, _, I7.unpinned, b1, b2, w6⟩
    · obtain ⟨o, e, _⟩ := ob b hb
      rw [upd_ne (Nat.ne_of_lt (Heap.lt_size e))]
      exact (hf b hb).1
  exact codeAny_compStart_list loop (T.self _ 0 _ _ _ st1 loop)
def tCompF (n : Nat) (js : List Nat) (wi : TI) (g : TG) (tc : TT) (te : TE) : TE := fun σ H Q => wi σ H fun J H1 => compQF (startF σ n js) J g tc te Q H1
/-- y = [..] -/
theorem ps_compF {wi : TI} {i : Nat} {y : Str} {py spos : Pos} (tg : List Str) (hc : X.calm = true) (hN : X.N.Nodup) (hy : X.N[i]? = some y) (hk : X.env.scope.names.lookup y = some .local) (S : CompSc X scope fv js) (hi : PI X target iter wi)
    (hsw : swapsWith (.ListComp elt [⟨target, iter, ifs, 0⟩] scope pos) (some (.Name y py)) spos.line X.env = pure true)
    (hg : ∀ cl C s₀ H₀ ex, PG (compCxF X scope (tg ++ fv) cl C s₀ H₀ ex) target g) (hf : ∀ cl C s₀ H₀ ex, PIfs (compCxF X scope (tg ++ fv) cl C s₀ H₀ ex) ifs tc) (he : ∀ cl C s₀ H₀ ex, PE (compCxF X scope (tg ++ fv) cl C s₀ H₀ ex) elt te) (hs : ∀ x, foldedSetIterable iter X.env x = pure x := by intro _; rfl) :
    PS X (.Assign [.Name y py] (.ListComp elt [⟨target, iter, ifs, 0⟩] scope pos) spos) (fun D σ H => tCompF tg.length js wi g tc te σ H fun v H1 => D.nx (σ.set i (some v)) H1) := by
  constructor; intro pins s σ H D I h
  rw [exec_Assign_Name_used _ _ _ _ hsw]
  refine wpAny_bind (wpAny_standAt (wpAny_bind (wpAny_bind (wpAny_mono (Q := fun _ s' => SP X pins D .next s') (E := X.xe) (wpAny_comprehension_free (use := some (assign (.Name y py) X.env)) rfl hs (S.clos I.ok) S.kind S.names
    (thn (hi pins s σ H _ I h) fun v s1 h1 => thn h1 fun itv s2 h2 => ?_)) (fun _ s' q => wpAny_pure (wpAny_pure q)) fun _ _ z => z))))
  obtain ⟨it, fp, tn, J, H2, rfl, I2, T, st2, f2, q⟩ := h2
  refine comp_blockF (RR := fun acc C => compPost (model X.prog X.w) X.A X.xe (some (assign (.Name y py) X.env)) (fun _ s' => SP X pins D .next s') acc C) tg I2 hc S T st2 f2 hg hf he q fun L C H' s' m os bare un hok hn nC hC qq => ?_
  obtain ⟨IX, fC⟩ := comp_after I2 f2 os bare un hok nC hC
  refine wpAny_assign_Name (store_ok2 IX hN hy (.inl hk) (v := .ref L) rfl (fun s3 I3 ⟨a, k3, ha⟩ => ?_) (.inr hk))
  have ne : C ≠ a := by
    rcases ha with z | z
    · rw [z]; exact fC.2.1
    · exact fun w' => fC.2.2.2.2.1 y a z w'.symm
  exact ⟨m, hn.sameBut k3 ne, fun h' k => ⟨_, H', inv_but I3 fC k, qq⟩⟩
end
theorem allc_nil {α : Type} {P : α → Prop} : ∀ x ∈ ([] : List α), P x := fun _ h => by cases h
theorem allc_cons {α : Type} {P : α → Prop} {a : α} {l : List α} (h : P a) (t : ∀ x ∈ l, P x) : ∀ x ∈ a :: l, P x := fun x hx => by
  rcases List.mem_cons.mp hx with e | e
  · exact e ▸ h
  · exact t x e
/-- what holds of each element, where nothing is left out -/
theorem compQF_each {σ0 fs : L2.St} {k : Nat} {J : It} {g : TG} {te : TE} {Q : VK} {H1 : Hp} (n : Nat) (P : Nat → V → Prop) (h0 : σ0 = List.replicate k none ++ fs) (hz : n ≤ sizeLine) (hgo : ∀ i H, Same H1 H → i < n → J.go i H) (hstop : ∀ H, Same H1 H → J.stop n H)
    (step : ∀ i H (ts : L2.St) v H' (R : V → L2.St → Hp → Prop), Same H1 H → i < n → ts.length = k → J.yld i H v H' → (∀ y (ts2 : L2.St) H3, P i y → ts2.length = k → Same H H3 → R y (ts2 ++ fs) H3) →
      g v (ts ++ fs) H' fun τ2 H2 => te τ2 H2 fun y H4 => R y τ2 H4)
    (fin : ∀ D H' ys, H1 D = none → Same H1 H' → ys.length = n → (∀ i y, ys[i]? = some y → P i y) → H' D = some (.lst ys) → Q (.ref D) H') : compQF σ0 J g tYes te Q H1 := by
  intro D hD
  refine ⟨fun i m ys τ H => m = n - i ∧ i ≤ n ∧ ys.length = i ∧ (∀ j y, ys[j]? = some y → P j y) ∧ (∃ ts : L2.St, ts.length = k ∧ τ = ts ++ fs) ∧ Same H1 H ∧ H D = some (.lst ys), ⟨n, rfl, Nat.zero_le _, rfl, (fun j y e => by simp at e), ⟨_, List.length_replicate, h0⟩, Same.upd hD, upd_same⟩, ?_⟩
  rintro i m ys τ H ⟨rfl, hi, hl, hp, ⟨ts, ht, rfl⟩, ss, hd⟩
  refine ⟨hd, ?_⟩
  by_cases hlt : i < n
  · refine .inr ⟨hgo i H ss hlt, by omega, fun v H' y => step i H ts v H' (fun z τ2 H3 => H3 D = some (.lst ys) ∧ ∃ m', m' < n - i ∧ m' = n - (i + 1) ∧ i + 1 ≤ n ∧ (ys ++ [z]).length = i + 1 ∧ (∀ j y, (ys ++ [z])[j]? = some y → P j y) ∧ (∃ ts : L2.St, ts.length = k ∧ τ2 = ts ++ fs) ∧ Same H1 (upd H3 D (.lst (ys ++ [z]))) ∧ upd H3 D (.lst (ys ++ [z])) D = some (.lst (ys ++ [z]))) ss hlt ht y fun z ts2 H3 pz h2 s3 => ⟨s3 _ _ hd, n - (i + 1), by omega, rfl, hlt, (by simp [hl]), fun j x e => ?_, ⟨ts2, h2, rfl⟩, (ss.trans s3).again hD, upd_same⟩⟩
    rcases Nat.lt_or_ge j ys.length with q | q
    · rw [List.getElem?_append_left q] at e
      exact hp j x e
    · rw [List.getElem?_append_right q] at e
      have ej : j = i := by
        have := (List.getElem?_eq_some_iff.mp e).1
        simp at this
        omega
      subst ej
      rw [hl, Nat.sub_self] at e
      cases e
      exact pz
  · have e : i = n := by omega
    subst e
    exact .inl ⟨hstop H ss, fin D H ys hD ss hl hp hd⟩
end My
/-! ### dicts: d.setdefault(k, x), sorted(d); any(xs); forms for a block's context -/
namespace My
open PySem PySem.Spec PyProof.Rows L2
section
variable {X : Cx} {pins : List (Addr × Obj)} {σ : L2.St} {H : Hp} {s : Shared} {a : Addr} {kvs : List (Key × V)} {k : Key} {u r : Value} {d : V} {A : Around} {E : Value → Shared → Prop}
end
section
variable {X : Cx} {o e f : Expr} {td ty tx : TE} {apos cpos : Pos}
end
section
variable {K : PySem.W.Frag}
theorem kit_ll : PySem.W.kitOne K (.type "list") (.type "list") = some true := by
  show (if (Value.type "list" == Value.type "list") = true then some true else if PySem.W.kitMeta "list" = true then (fastBuiltinMro "list").map (·.contains (Value.type "list")) else none) = some true
  decide +kernel
end
theorem dts_ints {K : PySem.W.Frag} {H : Hp} : ∀ ms : List Int, Dts K H (ms.map V.int) (ms.map PyData.int)
  | [] => .nil
  | m :: r => .cons (.int m) (dts_ints r)
/-- xs.append(y): the heap behind it by what it has -/
def rAppendA : V → List V → Hp → VK → Prop := fun x vs H Q => ∃ l xs y, x = .ref l ∧ vs = [y] ∧ H l = some (.lst xs) ∧ xs.length < sizeLine ∧ ∀ H', H' l = some (.lst (xs ++ [y])) → (∀ b o, b ≠ l → H b = some o → H' b = some o) → Q .non H'
theorem mt_appendA {X : Cx} : MtM X "list.append" rAppendA := by
  intro pins s σ H x vs v us Q I rx rv h
  obtain ⟨l, xs, y, ex, ev, hH, hz, q⟩ := h
  exact mt_append pins s σ H x vs v us Q I rx rv ⟨l, xs, y, ex, ev, hH, hz, q _ upd_same fun b o n e => by rw [upd_ne n]; exact e⟩
theorem shaped_ints (ms : List Int) : SeqAt.shaped (.list (ms.map PyData.int)) = true := by
  show (PyData.canLayAll0 (ms.map .int) && decide (PyData.depthAll (ms.map .int) + 1 ≤ 64)) = true
  rw [canLayAll_ints ms, depthAll_ints ms]
  rfl
theorem eqv_ints (ms : List Int) : PyData.eqv (.list (ms.map PyData.int)) (.list (ms.map PyData.int)) = true := SeqAt.eqv_refl _ (canLayAll_ints ms)
end My
/-! ### try: o.m(..) / except S as n: suite -/
namespace My
open PySem PySem.Spec PyProof.Rows L2
section
variable {X : Cx}
/-- what a call raised is caught -/
theorem caught {ho : Addr → Addr → Option Addr → HO} {S : Addr} {c n : Str} {j : Nat} {b₀ : Stmt} {suite : List Stmt} {th : TS} {np hpos : Pos} {pins : List (Addr × Obj)} {σ : L2.St} {H1 : Hp} {s1 s' : Shared} {D : Ends} {e : Value}
    (I1 : Inv X pins σ H1 s1) (hq : CXW X.prog X.w X.stack H1 s1 (fun cls d H2 => ∃ C, cls = .ref C ∧ PySem.W.subIn X.K (.ref C) (.ref S) = some true ∧ ∀ ea, H2 ea = none → th (gone j D) (σ.set j (some (.ref ea))) (upd H2 ea (ho ea C d))) e s')
    (T : ExcS X.K X.mg c S) (hgc : Gl X c) (hN : X.N.Nodup) (hj : X.N[j]? = some n) (hxn : X.env.scope.names.lookup n = some .local) (hst : X.stack = X.env :: X.outer) (hfr : X.env.frame = some X.env.locals)
    (hs : ∀ ea, PSs (markX X ea) (b₀ :: suite) th) (hho : ∀ (H : Hp) (h : Heap) (ea C : Addr) (d : Option Addr), IsExcK ea C d h → ObjOk X.prog X.w H h ea (ho ea C d)) (hdc : (c == ("__debug__" : Str)) = false) :
    wpAny (model X.prog X.w) X.A (noteFrame e X.env) (fun _ s₂ => wpAny (model X.prog X.w) X.A (setFlight e none) (fun _ s₃ => wpAny (model X.prog X.w) X.A (handleBy e X.env [.ExceptHandler (some (.Name c np)) (some n) (b₀ :: suite) hpos]) (SP X pins D) X.xe s₃) X.xe s₂) X.xe s' := by
  obtain ⟨ea, cls, a0, B, H', d, rfl, os, bare, un, hok, fl, bk, n1, n2, ⟨o0, ho0, hd0⟩, C, hcls, hsub, hth⟩ := hq
  subst hcls
  have fl' := fl
  rw [hst] at fl'
  have hfnn : ∀ b ∈ frs X.stack, ∃ o, s'.heap.get? b = some o ∧ ∀ vs, o.data ≠ .fields vs := fun b hb => (fl.2.2.1.mem hb).2
  refine wpAny_mono (wpAny_calm (calm_noteFrame _ _) (wpAny_looks_onW (Q := fun _ s'' => ∃ h4, s'' = { s' with heap := h4 } ∧ Heap.HeldW B (X.env :: X.outer) ea (.ref C) a0 X.env.locals h4 ∧ s'.heap.UpToSlots h4) (by rw [I1.ok.frames, hst]) hfr fl' fun h4 x1 x2 => ⟨h4, rfl, x1, x2⟩)) (fun _ s'' ⟨⟨h4, e4, held, sm4⟩, dk4⟩ => ?_) fun _ _ z => z.1
  subst e4
  refine wpAny_mono (wpAny_calm (calm_setFlight _ _) (wpAny_landsW (Q := fun _ s'' => ∃ h5, s'' = { s' with heap := h5 } ∧ Heap.FlyingW B (X.env :: X.outer) ea (.ref C) a0 h5 ∧ h4.UpToSlots h5) held fun h5 x1 x2 => ⟨h5, rfl, x1, x2⟩)) (fun _ s'' ⟨⟨h5, e5, fl5, sm5⟩, dk5⟩ => ?_) fun _ _ z => z.1
  subst e5
  obtain ⟨ob, hob, hobc⟩ := fl5.there
  obtain ⟨un5, hok5, _, _⟩ := carry I1 un hok bk fl5.1 (sm4.trans sm5) hfnn
  have I5 : Inv X pins σ H' { s' with heap := h5 } := I1.call' (s' := { s' with heap := h5 }) os un5 hok5 bare (fun b z => absurd z (by simp))
  refine wpAny_handleBy_cons (codeAny_handlers_test (ld_glob (X := markX X ea) (inv_mark I5 ea) hgc T.bound ?_ hdc)) (by intro z; cases z)
  refine exc_matches (K := X.K) I5.kIn hob hobc T.ty T.it T.mB hsub (codeAny_handlers_suite_as ?_)
  refine wpAny_mono (wpAny_calm (calm_setFlight _ _) (lands_againW (Q := fun _ s'' => ∃ h6, s'' = { s' with heap := h6 } ∧ Heap.FlyingW B (X.env :: X.outer) ea (.ref C) a0 h6 ∧ h5.UpToSlots h6) fl5 fun h6 x1 x2 => ⟨h6, rfl, x1, x2⟩)) (fun _ s'' ⟨⟨h6, e6, fl6, sm6⟩, dk6⟩ => ?_) fun _ _ z => z.1
  subst e6
  obtain ⟨ob6, vs6, hob6, hobc6, hdat6, _⟩ := fl6.first
  have isK : IsExcK ea C d h6 := by
    obtain ⟨o4, ho4, hd4⟩ := dk4 ea o0 ho0
    obtain ⟨o5, ho5, hd5⟩ := dk5 ea o4 ho4
    obtain ⟨o6, ho6, hd6⟩ := dk6 ea o5 ho5
    have ho6' : h6.get? ea = some o6 := ho6
    rw [hob6] at ho6'
    cases ho6'
    exact ⟨ob6, hob6, hobc6, by unfold PySem.W.notCls; rw [hdat6], hd6.trans (hd5.trans (hd4.trans hd0))⟩
  obtain ⟨un6, hok6, _, _⟩ := carry I1 un hok bk fl6.1 ((sm4.trans sm5).trans sm6) hfnn
  have I6 : Inv X pins σ H' { s' with heap := h6 } := I1.call' (s' := { s' with heap := h6 }) os un6 hok6 bare (fun b z => absurd z (by simp))
  have I7 : Inv X pins σ (upd H' ea (ho ea C d)) { s' with heap := h6 } := inv_track I1 I6 n2 n1 (hho _ _ _ _ _ isK)
  refine store_ok (X := markX X ea) (i := j) (v := .ref ea) (inv_mark I7 ea) hN hj (.inl hxn) rfl (fun s8 I8 => ?_) (.inr hxn)
  refine wpAny_mono (hs ea pins _ _ _ (gone j D) I8 (hth ea n1)) (fun f2 s2 z => ?_) fun _ _ z => z.elim
  have z' := sp_unmark I6.ok z
  cases f2 with
  | next => obtain ⟨σ', H9, I9, q⟩ := z'; exact name_goes I9 hN hj hxn fun s3 I3 => ⟨_, H9, I3, q⟩
  | brk => obtain ⟨σ', H9, I9, q⟩ := z'; exact name_goes I9 hN hj hxn fun s3 I3 => ⟨_, H9, I3, q⟩
  | cont => obtain ⟨σ', H9, I9, q⟩ := z'; exact name_goes I9 hN hj hxn fun s3 I3 => ⟨_, H9, I3, q⟩
  | ret u => obtain ⟨v, σ', H9, I9, r, q⟩ := z'; exact name_goes I9 hN hj hxn fun s3 I3 => ⟨v, _, H9, I3, r, q⟩
end
end My
/-! ### min(numbers, default=None); comprehensions whose elements are new objects -/
namespace My
open PySem PySem.Spec PyProof.Rows L2 PyProof
section
variable {prog : Program} {w : World} {A : Around}
end
/-- the names' values, written out anew: reading a name behind many assignments is slow without it -/
theorem stn {t : TS} {D : Ends} {σ : L2.St} {H : Hp} (σ' : L2.St) (e : σ = σ') (h : t D σ' H) : t D σ H := by
  subst e
  exact h
theorem stg {i : Nat} {v : V} {σ : L2.St} {H : Hp} {k : L2.St → Hp → Prop} (σ' : L2.St) (e : σ.set i (some v) = σ') (h : k σ' H) : gName i v σ H k := by
  subst e
  exact h
end My
/-! ### own classes without an __init__, a method by the object's class, isinstance of an own instance, try: f(..), texts -/
namespace My
open PySem PySem.Spec PyProof.Rows L2 PyProof
structure MkO (K : PySem.W.Frag) (C : Addr) : Prop where
  makes : PySem.W.makesIn K C = true
  init : PySem.W.findIn K (.ref C) "__init__" = some (some (.builtin "object.__init__"))
  kp : PySem.W.keepIn K (.ref C) = true
section
variable {X : Cx}
def tNewO (C : Addr) : TE := fun _ H Q => ∀ x dx, H x = none → H dx = none → dx ≠ x → Q (.ref x) (upd (upd H dx (.own x)) x (.ins C dx []))
theorem pe_newO {C : Addr} {x : Str} {p pos : Pos} (M : MkO X.K C) (hg : Gl X x) (hm : X.mg x = some (.ref C)) (hdb : (x == ("__debug__" : Str)) = false := by decide) : PE X (.Call (.Name x p) [] [] pos) (tNewO C) := by
  constructor; intro pins s σ H Q I h
  refine wpAny_Call_Name_kw (ld_glob I hg hm ?_ hdb)
  refine PySem.W.callWith_K0 I.kIn M.kp (wpAny_call (make_map0 I.kIn M.makes M.init (fun self => PySem.W.Looks.of_pure (PySem.W.oi_bind self)) ?_))
  have I2 := Inv.made (C := C) I
  have hq := h (s.heap.objs.size + 1) s.heap.objs.size (I.hok.fresh (Nat.le_succ _)) (I.hok.fresh (Nat.le_refl _)) (Nat.ne_of_lt (Nat.lt_succ_self _))
  have Y := PySem.W.makes_of (M := model X.prog X.w) I.kIn M.makes
  have e2 : ((s.heap.push PySem.W.emptyDict).push (PySem.W.instObj C s.heap.objs.size)).get? (s.heap.objs.size + 1) = some (PySem.W.instObj C s.heap.objs.size) := by
    have := Heap.get?_push_size (s.heap.push PySem.W.emptyDict) (o := PySem.W.instObj C s.heap.objs.size) rfl
    rwa [size_push'] at this
  have t1 : PySem.W.Looks (model X.prog X.w) ((s.heap.push PySem.W.emptyDict).push (PySem.W.instObj C s.heap.objs.size)) (typeOf (.ref (s.heap.objs.size + 1))) (.ref C) := (PySem.W.Looks.ld e2).andThen .now
  have t2 : PySem.W.Looks (model X.prog X.w) ((s.heap.push PySem.W.emptyDict).push (PySem.W.instObj C s.heap.objs.size)) (isInstance (.ref (s.heap.objs.size + 1)) (.type "object")) true := t1.andThen (Y.top.keeps fun b o e => Heap.get?_push_of_some _ (Heap.get?_push_of_some _ e))
  refine codeAny_call_builtin PySem.W.oi_plain PySem.W.entry_oi (@PySem.W.check_slot (model X.prog X.w) _ _ _ "object.__init__" "object" "__init__" (.ref (s.heap.objs.size + 1)) [] [] _ PySem.W.oi_kind PySem.W.oi_split t2 (PySem.W.oi_args (.ref (s.heap.objs.size + 1))) ?_)
  rw [PySem.W.oi_run]
  exact wpAny_pure (And.intro rfl ⟨V.ref _, _, I2, rfl, hq⟩)
/-- the methods m of the classes cls l, each with its own promise -/
def MethT (X : Cx) {ι : Type} (cls : ι → Addr) (m : Str) (sp : ι → Sp) (k : Nat) : Prop := ∀ l, ∃ f fd ps, Cls X.K (cls l) ∧ Meth X.K (cls l) m f ∧ FnOk X.prog X.w X.K X.mg X.base CX0 k f fd ps (sp l) ∧ Binds X.K fd ps []
def tMethT {ι : Type} (cls : ι → Addr) (m : Str) (sp : ι → Sp) (ta : TE) (t : TA) : TE := fun σ H Q => ta σ H fun x H1 => ∃ a l dx fs, x = .ref a ∧ H1 a = some (.ins (cls l) dx fs) ∧ fs.lookup m = none ∧ t σ H1 fun vs H2 => sp l (x :: vs) H2 Q E0
theorem pe_methT {ι : Type} {cls : ι → Addr} {m : Str} {sp : ι → Sp} {k : Nat} {o e : Expr} {es : List Expr} {ta : TE} {t : TA} {apos pos : Pos} {pl : Sem Bool} (he : PE X o ta) (M : MethT X cls m sp k) (hr : Room k X.A) (ha : PA X (e :: es) t)
    (hst : starEach (e :: es) X.env = (false, eval e X.env) :: starEach es X.env := by rfl) (hpl : (backTo pos (starEach es X.env)).any (·.1) = false := by rfl)
    (ht : eval (.Call (.Attribute o m apos) (e :: es) [] pos) X.env = (do let ov ← eval o X.env; standAt apos.atName; let (f, first) ← holding [ov] (getMethod ov m pl); callWith pos f first (backTo pos (starEach (e :: es) X.env)) (backToKw pos (keywordEach [] X.env))) := by rfl) :
    PE X (.Call (.Attribute o m apos) (e :: es) [] pos) (tMethT cls m sp ta t) := by
  constructor; intro pins s σ H Q I h
  refine PySem.W.methodCall_KW (pl := pl) (thn (he pins s σ H _ I h) fun u s1 ⟨x, H1, I1, rx, a, l, dx, fs, ex, ea, lk, q⟩ => ?_) ht
  subst ex
  obtain rfl : u = Value.ref a := rx
  obtain ⟨f, fd, ps, c, hm, F, hb⟩ := M l
  refine getmeth_ok I1 ea c hm lk ?_
  refine PySem.W.callWith_K (first := [.ref a]) (h₀ := X.base) I.ok.mod.kin hm.kp (thn (ha pos pins s1 σ H1 _ I1 q) fun us s2 ⟨vs, H2, I2, r, q2⟩ => ⟨I2.kIn, ?_⟩) hst hpl
  exact run_fn (us := .ref a :: us) (vs := .ref a :: vs) F hr hb .nil pass0 I2 (.cons rfl r) (by rw [List.append_nil]; exact q2)
theorem pe_methT0 {ι : Type} {cls : ι → Addr} {m : Str} {sp : ι → Sp} {k : Nat} {o : Expr} {ta : TE} {apos pos : Pos} {pl : Sem Bool} (he : PE X o ta) (M : MethT X cls m sp k) (hr : Room k X.A)
    (ht : eval (.Call (.Attribute o m apos) [] [] pos) X.env = (do let ov ← eval o X.env; standAt apos.atName; let (f, first) ← holding [ov] (getMethod ov m pl); callWith pos f first (backTo pos (starEach [] X.env)) (backToKw pos (keywordEach [] X.env))) := by rfl) :
    PE X (.Call (.Attribute o m apos) [] [] pos) (tMethT cls m sp ta tNil) := by
  constructor; intro pins s σ H Q I h
  refine PySem.W.methodCall_KW (pl := pl) (thn (he pins s σ H _ I h) fun u s1 ⟨x, H1, I1, rx, a, l, dx, fs, ex, ea, lk, q⟩ => ?_) ht
  subst ex
  obtain rfl : u = Value.ref a := rx
  obtain ⟨f, fd, ps, c, hm, F, hb⟩ := M l
  refine getmeth_ok I1 ea c hm lk ?_
  exact PySem.W.callWith_K0 (first := [.ref a]) I1.kIn hm.kp (run_fn (us := [.ref a]) (vs := [.ref a]) F hr hb .nil pass0 I1 (.cons rfl .nil) q)
/-- a statement that raises nothing, in a def that may -/
theorem ps_nox {st : Stmt} {t : TS} (h : PS X.nox st t) : PS X st t := by
  constructor; intro pins s σ H D I hw
  refine wpAny_mono (h pins s σ H D (I.wish _) hw) (fun f s' z => ?_) fun _ _ z => z.elim
  cases f with
  | next => obtain ⟨σ', H', I', q⟩ := z; exact ⟨σ', H', I'.unwish, q⟩
  | brk => obtain ⟨σ', H', I', q⟩ := z; exact ⟨σ', H', I'.unwish, q⟩
  | cont => obtain ⟨σ', H', I', q⟩ := z; exact ⟨σ', H', I'.unwish, q⟩
  | ret u => obtain ⟨v, σ', H', I', r, q⟩ := z; exact ⟨v, σ', H', I'.unwish, r, q⟩
/-- isinstance(o, D), D an own class -/
theorem call_isO {K : PySem.W.Frag} (hK : X.K = K) : CallR X (.builtin "isinstance") (fun xs H Q => ∃ x t D b, xs = [x, V.ref D] ∧ TyOf K H x t ∧ PySem.W.kitOne K t (.ref D) = some b ∧ Q (.bl b) H) := by
  intro pins s σ H xs us Q I r h
  subst hK
  obtain ⟨x, t, D, b, rfl, ty, e, q⟩ := h
  obtain ⟨u, w', rfl, ru, rw'⟩ := vals2 r
  cases rw'
  exact isinst_ok I ru ty e fun tk => ⟨.bl b, H, I.tok tk, rfl, q⟩
/-- f".. {e!r}" -/
theorem pe_fstrR {e : Expr} {z : Str} {k : Nat} {te : TE} {p1 p2 pos : Pos} (he : PE X e te) (hz : z.length ≤ 1000) (hev : evalEach [.Constant (.str z) k p2, .FormattedValue e 114 none p1] X.env = [eval (.Constant (.str z) k p2) X.env, eval (.FormattedValue e 114 none p1) X.env] := by rfl) :
    PE X (.JoinedStr [.Constant (.str z) k p2, .FormattedValue e 114 none p1] pos) (fun σ H Q => te σ H fun x H1 => ∃ y : Str, x = .str y ∧ (∀ c ∈ y.cps.toList, c < 16 ^ 8) ∧ y.length ≤ 1000 ∧ ∀ r, Q (.str r) H1) := by
  constructor; intro pins s σ H Q I h
  refine wpAny_JoinedStr ?_
  rw [hev]
  have e0 : (Str.empty ++ z).length = z.length := by rw [strLen_append]; show 0 + _ = _; omega
  have hs2 : (10002 : Nat) + 1000 ≤ sizeLine := by decide
  refine Calls.Constant_str ⟨_, _, rfl, by rw [e0]; omega, ?_⟩
  refine wpAny_FormattedValue_repr (thn (he pins _ σ H _ (I.tok _) h) fun u s1 ⟨x, H1, I1, r1, y, e1, hc, hl, q⟩ => ?_)
  subst e1
  obtain ⟨t, rfl⟩ := r1
  have hr := PySem.StrLaws.reprText_len y hc
  refine wpAny_pyReprObj_str ?_ (by omega)
  refine formatField_str (fun t' tk => ⟨_, _, rfl, by rw [strLen_append, e0]; omega, ?_⟩) (by omega)
  exact ⟨by rw [strLen_append, e0]; omega, .str _, H1, (I1.tok _).tok _, ⟨_, rfl⟩, q _⟩
/-- try: f(..) / except S as n: suite -/
theorem ps_tryF {k : Nat} {fa S : Addr} {fd : FuncData} {ps : List Str} {sp : Sp} {fn c n : Str} {j : Nat} {a1 : Expr} {as : List Expr} {b₀ : Stmt} {suite : List Stmt} {t : TA} {th : TS} {pf cpos epos np hpos pos : Pos}
    (F : FnOk X.prog X.w X.K X.mg X.base (CXW X.prog X.w) k fa fd ps sp) (hr : Room k X.A) (hg : Gl X fn) (hm : X.mg fn = some (.ref fa)) (hk : PySem.W.keepIn X.K (.ref fa) = true) (hb : Binds X.K fd ps [])
    (ha : PA X.nox (a1 :: as) t) (T : ExcS X.K X.mg c S) (hgc : Gl X c) (hN : X.N.Nodup) (hj : X.N[j]? = some n) (hxn : X.env.scope.names.lookup n = some .local) (hst : X.stack = X.env :: X.outer) (hfr : X.env.frame = some X.env.locals)
    (hs : ∀ ea, PSs (markX X ea) (b₀ :: suite) th)
    (hdb : (fn == ("__debug__" : Str)) = false := by decide) (hdc : (c == ("__debug__" : Str)) = false := by decide) (he : starEach (a1 :: as) X.env = (false, eval a1 X.env) :: starEach as X.env := by rfl) (hpl : (backTo cpos (starEach as X.env)).any (·.1) = false := by rfl)
    (hsw : swapsWith (.Call (.Name fn pf) (a1 :: as) [] cpos) none epos.line X.env = pure false := by rfl) :
    PS X (.Try [.Expr (.Call (.Name fn pf) (a1 :: as) [] cpos) epos] [.ExceptHandler (some (.Name c np)) (some n) (b₀ :: suite) hpos] [] [] pos)
      (fun D σ H => t σ H fun vs H1 => sp vs H1 (fun _ H2 => D.nx σ H2) (fun cls d H2 => ∃ C, cls = .ref C ∧ PySem.W.subIn X.K (.ref C) (.ref S) = some true ∧ ∀ ea, H2 ea = none → th (gone j D) (σ.set j (some (.ref ea))) (upd H2 ea (excO ea C)))) := by
  constructor; intro pins s σ H D I h
  refine wpAny_Try_except (wpAny_execs_cons (wpAny_Expr_any (wpAny_Call_Name_kw (ld_glob I hg hm ?_ hdb)) I.quiet hsw))
  refine PySem.W.callWith_K (h₀ := X.base) I.ok.mod.kin hk (wpAny_mono (ha cpos pins s σ H _ (I.wish _) h) (fun us s1 ⟨vs, H1, I1w, r, q⟩ => ⟨I1w.kIn, ?_⟩) fun _ _ z => z.elim) he hpl
  have I1 : Inv X pins σ H1 s1 := I1w.unwish
  have hl : us.length = ps.length := by rw [← r.length]; exact F.len _ _ _ _ q
  have hbb := hb s1 us I1.kIn (by rw [List.append_nil]; exact hl)
  rw [List.append_nil] at hbb
  refine wpAny_call (codeAny_mono (F.run X.A X.stack s1 H1 ⟨us, []⟩ us vs _ _ hr I1.env0 hbb r q) fun res s' hq => ?_)
  cases res with
  | ok fl =>
    cases fl with
    | ret u =>
      obtain ⟨v, H2, I2, r2, q2⟩ := I1.after hq
      exact wpAny_execs_nil (wpAny_execs_nil ⟨_, H2, I2, q2⟩)
    | next => exact False.elim hq
    | brk => exact False.elim hq
    | cont => exact False.elim hq
  | error e => exact caught (ho := fun ea C _ => excO ea C) I1 hq T hgc hN hj hxn hst hfr hs (fun _ _ _ _ _ ⟨_, q, c, _⟩ => excO_ok q c) hdc
end
end My

namespace Lw
open PySem PySem.Spec PyProof.Rows L2 My
set_option maxHeartbeats 4000000
/-! ### levels -/
inductive Lv where
  | loose | kept | make | watch | hold
def wd : Lv → Str
  | .loose => "loose"
  | .kept => "kept"
  | .make => "make"
  | .watch => "watch"
  | .hold => "hold"
def ix : Lv → Nat
  | .loose => 0
  | .kept => 1
  | .make => 2
  | .watch => 3
  | .hold => 4
def mkw : Lv → Bool
  | .make => true
  | .watch => true
  | _ => false
def unkL : Lv → Bool
  | .loose => true
  | _ => false
def hasL : Lv → Bool
  | .hold => true
  | _ => false
def watL : Lv → Bool
  | .watch => true
  | _ => false
def standL : Lv → Int → Int → Int
  | .make, b, _ => b
  | .watch, b, _ => b
  | _, _, n => n
def lateL : Lv → Int → Int → Bool
  | .make, b, n => decide (n > b)
  | .watch, b, n => decide (n > b)
  | _, _, _ => false
def spotsL : Lv → Int → Int
  | .kept, n => n + 1
  | .make, _ => 2
  | _, _ => 1
def optV : Option Int → V
  | none => .non
  | some k => .int k
def lookL : Lv → Int → Option Int
  | .loose, _ => none
  | .kept, p => some p
  | _, _ => some 0
def firstL : Lv → Int → Int
  | .kept, n => n
  | _, _ => 0
def stampsL : Lv → Int → List Int → Int → Bool → List Int
  | .kept, _, ns, e, _ => ns ++ [e]
  | .make, b, _, e, _ => [b, e]
  | .watch, b, _, e, soon => [if soon then b else e]
  | _, _, _, e, _ => [e]
def kinB : Lv → Lv → Bool
  | _, .loose => true
  | .loose, _ => false
  | _, .kept => true
  | .make, .make => true
  | .watch, .make => true
  | .watch, .watch => true
  | .hold, .hold => true
  | _, _ => false
def kinL (l : Lv) : List Bool := [kinB l .loose, kinB l .kept, kinB l .make, kinB l .watch, kinB l .hold]
def spWord (l : Lv) : Sp := fun vs H Q _ => ∃ x, vs = [x] ∧ Q (.str (wd l)) H
def spStandL (l : Lv) : Sp := fun vs H Q _ => ∃ (x : V) (b n : Int), vs = [x, .int b, .int n] ∧ Q (.int (standL l b n)) H
def spLate (l : Lv) : Sp := fun vs H Q _ => ∃ (x : V) (b n : Int), vs = [x, .int b, .int n] ∧ Q (.bl (lateL l b n)) H
def spUnk (l : Lv) : Sp := fun vs H Q _ => ∃ x, vs = [x] ∧ Q (.bl (unkL l)) H
def spHas (l : Lv) : Sp := fun vs H Q _ => ∃ x, vs = [x] ∧ Q (.bl (hasL l)) H
def spWat (l : Lv) : Sp := fun vs H Q _ => ∃ x, vs = [x] ∧ Q (.bl (watL l)) H
def spSpotsL (l : Lv) : Sp := fun vs H Q _ => ∃ (x : V) (n : Int), vs = [x, .int n] ∧ Q (.int (spotsL l n)) H
def spLookS (l : Lv) : Sp := fun vs H Q _ => ∃ (x : V) (n : Int), vs = [x, .int n] ∧ Q (optV (lookL l n)) H
def spFirstS (l : Lv) : Sp := fun vs H Q _ => ∃ (x : V) (n : Int), vs = [x, .int n] ∧ Q (.int (firstL l n)) H
def spStampsL (l : Lv) : Sp := fun vs H Q _ => ∃ (x : V) (b : Int) (st : Addr) (e : Int) (soon : Bool) (ns : List Int), vs = [x, .int b, .ref st, .int e, .bl soon] ∧ H st = some (.lst (ns.map V.int)) ∧ ns.length ≤ 41 ∧ ∀ p H', H p = none → Same H H' → H' p = some (.lst ((stampsL l b ns e soon).map V.int)) → Q (.ref p) H'
theorem Same.newO {C : Addr} {H : Hp} {x dx : Addr} (hx : H x = none) (hdx : H dx = none) (n : dx ≠ x) : Same H (upd (upd H dx (.own x)) x (.ins C dx [])) := fun b o e => by
  have b1 : b ≠ x := fun z => by rw [z, hx] at e; cases e
  have b2 : b ≠ dx := fun z => by rw [z, hdx] at e; cases e
  rw [upd_ne b1, upd_ne b2]
  exact e
theorem w_is (l : Lv) : decide (V.str (wd l) = V.str "loose") = unkL l ∧ decide (V.str (wd l) = V.str "hold") = hasL l ∧ decide (V.str (wd l) = V.str "watch") = watL l ∧ inV (V.str (wd l)) [V.str "make", V.str "watch"] = mkw l := by
  cases l <;> decide +kernel
def spLevelOf (cls : Lv → Addr) (N : Addr) : Sp := fun vs H Q E => ∃ x : Str, vs = [.str x] ∧ x.length ≤ 600 ∧ (∀ c ∈ x.cps.toList, c < 16 ^ 8) ∧ (∀ l, x = wd l → ∀ a dx H', Same H H' → H' a = some (.ins (cls l) dx []) → Q (.ref a) H') ∧ ((∀ l, x ≠ wd l) → ∀ H', Same H H' → E (.ref N) none H')
def top (i : Nat) : Stmt := PySem.Challenge.pw_skewhouse_k40_the_tree_of_levels.main.body.getD i (.Pass ⟨0, 0, 0, 0⟩)
def clsBody (s : Stmt) : List Stmt := match s with
  | .ClassDef _ _ _ b _ _ _ _ _ _ _ => b
  | _ => []
abbrev s_Looseword : Stmt := (clsBody (top 4)).getD 0 (.Pass ⟨0, 0, 0, 0⟩)
abbrev s_Loosestand : Stmt := (clsBody (top 4)).getD 1 (.Pass ⟨0, 0, 0, 0⟩)
abbrev s_Looselate : Stmt := (clsBody (top 4)).getD 2 (.Pass ⟨0, 0, 0, 0⟩)
abbrev s_Looseunkept : Stmt := (clsBody (top 4)).getD 3 (.Pass ⟨0, 0, 0, 0⟩)
abbrev s_Looseholdsasks : Stmt := (clsBody (top 4)).getD 4 (.Pass ⟨0, 0, 0, 0⟩)
abbrev s_Loosewatches : Stmt := (clsBody (top 4)).getD 5 (.Pass ⟨0, 0, 0, 0⟩)
abbrev s_Loosespots : Stmt := (clsBody (top 4)).getD 6 (.Pass ⟨0, 0, 0, 0⟩)
abbrev s_Looselookspot : Stmt := (clsBody (top 4)).getD 7 (.Pass ⟨0, 0, 0, 0⟩)
abbrev s_Loosefirstspot : Stmt := (clsBody (top 4)).getD 8 (.Pass ⟨0, 0, 0, 0⟩)
abbrev s_Loosestamps : Stmt := (clsBody (top 4)).getD 9 (.Pass ⟨0, 0, 0, 0⟩)
abbrev s_Keptword : Stmt := (clsBody (top 5)).getD 0 (.Pass ⟨0, 0, 0, 0⟩)
abbrev s_Keptunkept : Stmt := (clsBody (top 5)).getD 1 (.Pass ⟨0, 0, 0, 0⟩)
abbrev s_Keptspots : Stmt := (clsBody (top 5)).getD 2 (.Pass ⟨0, 0, 0, 0⟩)
abbrev s_Keptlookspot : Stmt := (clsBody (top 5)).getD 3 (.Pass ⟨0, 0, 0, 0⟩)
abbrev s_Keptfirstspot : Stmt := (clsBody (top 5)).getD 4 (.Pass ⟨0, 0, 0, 0⟩)
abbrev s_Keptstamps : Stmt := (clsBody (top 5)).getD 5 (.Pass ⟨0, 0, 0, 0⟩)
abbrev s_Makeword : Stmt := (clsBody (top 6)).getD 0 (.Pass ⟨0, 0, 0, 0⟩)
abbrev s_Makestand : Stmt := (clsBody (top 6)).getD 1 (.Pass ⟨0, 0, 0, 0⟩)
abbrev s_Makelate : Stmt := (clsBody (top 6)).getD 2 (.Pass ⟨0, 0, 0, 0⟩)
abbrev s_Makespots : Stmt := (clsBody (top 6)).getD 3 (.Pass ⟨0, 0, 0, 0⟩)
abbrev s_Makelookspot : Stmt := (clsBody (top 6)).getD 4 (.Pass ⟨0, 0, 0, 0⟩)
abbrev s_Makefirstspot : Stmt := (clsBody (top 6)).getD 5 (.Pass ⟨0, 0, 0, 0⟩)
abbrev s_Makestamps : Stmt := (clsBody (top 6)).getD 6 (.Pass ⟨0, 0, 0, 0⟩)
abbrev s_Watchword : Stmt := (clsBody (top 7)).getD 0 (.Pass ⟨0, 0, 0, 0⟩)
abbrev s_Watchwatches : Stmt := (clsBody (top 7)).getD 1 (.Pass ⟨0, 0, 0, 0⟩)
abbrev s_Watchspots : Stmt := (clsBody (top 7)).getD 2 (.Pass ⟨0, 0, 0, 0⟩)
abbrev s_Watchstamps : Stmt := (clsBody (top 7)).getD 3 (.Pass ⟨0, 0, 0, 0⟩)
abbrev s_Holdword : Stmt := (clsBody (top 8)).getD 0 (.Pass ⟨0, 0, 0, 0⟩)
abbrev s_Holdholdsasks : Stmt := (clsBody (top 8)).getD 1 (.Pass ⟨0, 0, 0, 0⟩)
abbrev s_Holdspots : Stmt := (clsBody (top 8)).getD 2 (.Pass ⟨0, 0, 0, 0⟩)
abbrev s_Holdlookspot : Stmt := (clsBody (top 8)).getD 3 (.Pass ⟨0, 0, 0, 0⟩)
abbrev s_Holdfirstspot : Stmt := (clsBody (top 8)).getD 4 (.Pass ⟨0, 0, 0, 0⟩)
abbrev s_Holdstamps : Stmt := (clsBody (top 8)).getD 5 (.Pass ⟨0, 0, 0, 0⟩)
abbrev s_levelof : Stmt := top 9
abbrev s_Lcell : Stmt := top 11
abbrev s_Lmix : Stmt := top 12
abbrev s_Ltruth : Stmt := top 13
abbrev s_Lnumber : Stmt := top 14
abbrev s_Lkin : Stmt := top 15
abbrev s_Ltruths : Stmt := top 16
abbrev s_Lspots : Stmt := top 17
abbrev s_Lstamps : Stmt := top 18
abbrev s_Lnoword : Stmt := top 19
abbrev s_Lrefused : Stmt := top 20
abbrev s_law : Stmt := top 21
set_option genInjectivity false in
set_option genSizeOf false in
structure Tx (K : PySem.W.Frag) (mg : Str → Option Value) where
  f_Looseword : Addr
  d_Looseword : FuncData
  F_Looseword : Fun K "word" "Loose.word" s_Looseword f_Looseword d_Looseword
  b_Looseword : Binds K d_Looseword ["self"] []
  f_Loosestand : Addr
  d_Loosestand : FuncData
  F_Loosestand : Fun K "stand" "Loose.stand" s_Loosestand f_Loosestand d_Loosestand
  b_Loosestand : Binds K d_Loosestand ["self", "begin", "now"] []
  f_Looselate : Addr
  d_Looselate : FuncData
  F_Looselate : Fun K "late" "Loose.late" s_Looselate f_Looselate d_Looselate
  b_Looselate : Binds K d_Looselate ["self", "begin", "stamp"] []
  f_Looseunkept : Addr
  d_Looseunkept : FuncData
  F_Looseunkept : Fun K "unkept" "Loose.unkept" s_Looseunkept f_Looseunkept d_Looseunkept
  b_Looseunkept : Binds K d_Looseunkept ["self"] []
  f_Looseholdsasks : Addr
  d_Looseholdsasks : FuncData
  F_Looseholdsasks : Fun K "holds_asks" "Loose.holds_asks" s_Looseholdsasks f_Looseholdsasks d_Looseholdsasks
  b_Looseholdsasks : Binds K d_Looseholdsasks ["self"] []
  f_Loosewatches : Addr
  d_Loosewatches : FuncData
  F_Loosewatches : Fun K "watches" "Loose.watches" s_Loosewatches f_Loosewatches d_Loosewatches
  b_Loosewatches : Binds K d_Loosewatches ["self"] []
  f_Loosespots : Addr
  d_Loosespots : FuncData
  F_Loosespots : Fun K "spots" "Loose.spots" s_Loosespots f_Loosespots d_Loosespots
  b_Loosespots : Binds K d_Loosespots ["self", "looks"] []
  f_Looselookspot : Addr
  d_Looselookspot : FuncData
  F_Looselookspot : Fun K "look_spot" "Loose.look_spot" s_Looselookspot f_Looselookspot d_Looselookspot
  b_Looselookspot : Binds K d_Looselookspot ["self", "place"] []
  f_Loosefirstspot : Addr
  d_Loosefirstspot : FuncData
  F_Loosefirstspot : Fun K "first_spot" "Loose.first_spot" s_Loosefirstspot f_Loosefirstspot d_Loosefirstspot
  b_Loosefirstspot : Binds K d_Loosefirstspot ["self", "looks"] []
  f_Loosestamps : Addr
  d_Loosestamps : FuncData
  F_Loosestamps : Fun K "stamps" "Loose.stamps" s_Loosestamps f_Loosestamps d_Loosestamps
  b_Loosestamps : Binds K d_Loosestamps ["self", "begin", "stands", "end", "early"] []
  f_Keptword : Addr
  d_Keptword : FuncData
  F_Keptword : Fun K "word" "Kept.word" s_Keptword f_Keptword d_Keptword
  b_Keptword : Binds K d_Keptword ["self"] []
  f_Keptunkept : Addr
  d_Keptunkept : FuncData
  F_Keptunkept : Fun K "unkept" "Kept.unkept" s_Keptunkept f_Keptunkept d_Keptunkept
  b_Keptunkept : Binds K d_Keptunkept ["self"] []
  f_Keptspots : Addr
  d_Keptspots : FuncData
  F_Keptspots : Fun K "spots" "Kept.spots" s_Keptspots f_Keptspots d_Keptspots
  b_Keptspots : Binds K d_Keptspots ["self", "looks"] []
  f_Keptlookspot : Addr
  d_Keptlookspot : FuncData
  F_Keptlookspot : Fun K "look_spot" "Kept.look_spot" s_Keptlookspot f_Keptlookspot d_Keptlookspot
  b_Keptlookspot : Binds K d_Keptlookspot ["self", "place"] []
  f_Keptfirstspot : Addr
  d_Keptfirstspot : FuncData
  F_Keptfirstspot : Fun K "first_spot" "Kept.first_spot" s_Keptfirstspot f_Keptfirstspot d_Keptfirstspot
  b_Keptfirstspot : Binds K d_Keptfirstspot ["self", "looks"] []
  f_Keptstamps : Addr
  d_Keptstamps : FuncData
  F_Keptstamps : Fun K "stamps" "Kept.stamps" s_Keptstamps f_Keptstamps d_Keptstamps
  b_Keptstamps : Binds K d_Keptstamps ["self", "begin", "stands", "end", "early"] []
  f_Makeword : Addr
  d_Makeword : FuncData
  F_Makeword : Fun K "word" "Make.word" s_Makeword f_Makeword d_Makeword
  b_Makeword : Binds K d_Makeword ["self"] []
  f_Makestand : Addr
  d_Makestand : FuncData
  F_Makestand : Fun K "stand" "Make.stand" s_Makestand f_Makestand d_Makestand
  b_Makestand : Binds K d_Makestand ["self", "begin", "now"] []
  f_Makelate : Addr
  d_Makelate : FuncData
  F_Makelate : Fun K "late" "Make.late" s_Makelate f_Makelate d_Makelate
  b_Makelate : Binds K d_Makelate ["self", "begin", "stamp"] []
  f_Makespots : Addr
  d_Makespots : FuncData
  F_Makespots : Fun K "spots" "Make.spots" s_Makespots f_Makespots d_Makespots
  b_Makespots : Binds K d_Makespots ["self", "looks"] []
  f_Makelookspot : Addr
  d_Makelookspot : FuncData
  F_Makelookspot : Fun K "look_spot" "Make.look_spot" s_Makelookspot f_Makelookspot d_Makelookspot
  b_Makelookspot : Binds K d_Makelookspot ["self", "place"] []
  f_Makefirstspot : Addr
  d_Makefirstspot : FuncData
  F_Makefirstspot : Fun K "first_spot" "Make.first_spot" s_Makefirstspot f_Makefirstspot d_Makefirstspot
  b_Makefirstspot : Binds K d_Makefirstspot ["self", "looks"] []
  f_Makestamps : Addr
  d_Makestamps : FuncData
  F_Makestamps : Fun K "stamps" "Make.stamps" s_Makestamps f_Makestamps d_Makestamps
  b_Makestamps : Binds K d_Makestamps ["self", "begin", "stands", "end", "early"] []
  f_Watchword : Addr
  d_Watchword : FuncData
  F_Watchword : Fun K "word" "Watch.word" s_Watchword f_Watchword d_Watchword
  b_Watchword : Binds K d_Watchword ["self"] []
  f_Watchwatches : Addr
  d_Watchwatches : FuncData
  F_Watchwatches : Fun K "watches" "Watch.watches" s_Watchwatches f_Watchwatches d_Watchwatches
  b_Watchwatches : Binds K d_Watchwatches ["self"] []
  f_Watchspots : Addr
  d_Watchspots : FuncData
  F_Watchspots : Fun K "spots" "Watch.spots" s_Watchspots f_Watchspots d_Watchspots
  b_Watchspots : Binds K d_Watchspots ["self", "looks"] []
  f_Watchstamps : Addr
  d_Watchstamps : FuncData
  F_Watchstamps : Fun K "stamps" "Watch.stamps" s_Watchstamps f_Watchstamps d_Watchstamps
  b_Watchstamps : Binds K d_Watchstamps ["self", "begin", "stands", "end", "early"] []
  f_Holdword : Addr
  d_Holdword : FuncData
  F_Holdword : Fun K "word" "Hold.word" s_Holdword f_Holdword d_Holdword
  b_Holdword : Binds K d_Holdword ["self"] []
  f_Holdholdsasks : Addr
  d_Holdholdsasks : FuncData
  F_Holdholdsasks : Fun K "holds_asks" "Hold.holds_asks" s_Holdholdsasks f_Holdholdsasks d_Holdholdsasks
  b_Holdholdsasks : Binds K d_Holdholdsasks ["self"] []
  f_Holdspots : Addr
  d_Holdspots : FuncData
  F_Holdspots : Fun K "spots" "Hold.spots" s_Holdspots f_Holdspots d_Holdspots
  b_Holdspots : Binds K d_Holdspots ["self", "looks"] []
  f_Holdlookspot : Addr
  d_Holdlookspot : FuncData
  F_Holdlookspot : Fun K "look_spot" "Hold.look_spot" s_Holdlookspot f_Holdlookspot d_Holdlookspot
  b_Holdlookspot : Binds K d_Holdlookspot ["self", "place"] []
  f_Holdfirstspot : Addr
  d_Holdfirstspot : FuncData
  F_Holdfirstspot : Fun K "first_spot" "Hold.first_spot" s_Holdfirstspot f_Holdfirstspot d_Holdfirstspot
  b_Holdfirstspot : Binds K d_Holdfirstspot ["self", "looks"] []
  f_Holdstamps : Addr
  d_Holdstamps : FuncData
  F_Holdstamps : Fun K "stamps" "Hold.stamps" s_Holdstamps f_Holdstamps d_Holdstamps
  b_Holdstamps : Binds K d_Holdstamps ["self", "begin", "stands", "end", "early"] []
  f_levelof : Addr
  d_levelof : FuncData
  F_levelof : Fun K "level_of" "level_of" s_levelof f_levelof d_levelof
  b_levelof : Binds K d_levelof ["word"] []
  m_levelof : mg "level_of" = some (.ref f_levelof)
  f_Lcell : Addr
  d_Lcell : FuncData
  F_Lcell : Fun K "_law_cell" "_law_cell" s_Lcell f_Lcell d_Lcell
  b_Lcell : Binds K d_Lcell ["_law_script", "_law_k"] []
  m_Lcell : mg "_law_cell" = some (.ref f_Lcell)
  f_Lmix : Addr
  d_Lmix : FuncData
  F_Lmix : Fun K "_law_mix" "_law_mix" s_Lmix f_Lmix d_Lmix
  b_Lmix : Binds K d_Lmix ["_law_cell_here", "_law_k"] []
  m_Lmix : mg "_law_mix" = some (.ref f_Lmix)
  f_Ltruth : Addr
  d_Ltruth : FuncData
  F_Ltruth : Fun K "_law_truth" "_law_truth" s_Ltruth f_Ltruth d_Ltruth
  b_Ltruth : Binds K d_Ltruth ["_law_found", "_law_due"] []
  m_Ltruth : mg "_law_truth" = some (.ref f_Ltruth)
  f_Lnumber : Addr
  d_Lnumber : FuncData
  F_Lnumber : Fun K "_law_number" "_law_number" s_Lnumber f_Lnumber d_Lnumber
  b_Lnumber : Binds K d_Lnumber ["_law_found", "_law_due"] []
  m_Lnumber : mg "_law_number" = some (.ref f_Lnumber)
  f_Lkin : Addr
  d_Lkin : FuncData
  F_Lkin : Fun K "_law_kin" "_law_kin" s_Lkin f_Lkin d_Lkin
  b_Lkin : Binds K d_Lkin ["_law_level"] []
  m_Lkin : mg "_law_kin" = some (.ref f_Lkin)
  f_Ltruths : Addr
  d_Ltruths : FuncData
  F_Ltruths : Fun K "_law_truths" "_law_truths" s_Ltruths f_Ltruths d_Ltruths
  b_Ltruths : Binds K d_Ltruths ["_law_level", "_law_word", "_law_begin", "_law_stamp"] []
  m_Ltruths : mg "_law_truths" = some (.ref f_Ltruths)
  f_Lspots : Addr
  d_Lspots : FuncData
  F_Lspots : Fun K "_law_spots" "_law_spots" s_Lspots f_Lspots d_Lspots
  b_Lspots : Binds K d_Lspots ["_law_level", "_law_word", "_law_looks", "_law_place"] []
  m_Lspots : mg "_law_spots" = some (.ref f_Lspots)
  f_Lstamps : Addr
  d_Lstamps : FuncData
  F_Lstamps : Fun K "_law_stamps" "_law_stamps" s_Lstamps f_Lstamps d_Lstamps
  b_Lstamps : Binds K d_Lstamps ["_law_level", "_law_word", "_law_begin", "_law_stands", "_law_end", "_law_soon"] []
  m_Lstamps : mg "_law_stamps" = some (.ref f_Lstamps)
  f_Lnoword : Addr
  d_Lnoword : FuncData
  F_Lnoword : Fun K "_law_no_word" "_law_no_word" s_Lnoword f_Lnoword d_Lnoword
  b_Lnoword : Binds K d_Lnoword ["_law_cell_here"] []
  m_Lnoword : mg "_law_no_word" = some (.ref f_Lnoword)
  f_Lrefused : Addr
  d_Lrefused : FuncData
  F_Lrefused : Fun K "_law_refused" "_law_refused" s_Lrefused f_Lrefused d_Lrefused
  b_Lrefused : Binds K d_Lrefused ["_law_word"] []
  m_Lrefused : mg "_law_refused" = some (.ref f_Lrefused)
  f_law : Addr
  d_law : FuncData
  F_law : Fun K "law" "law" s_law f_law d_law
  b_law : Binds K d_law ["_law_script"] []
  m_law : mg "law" = some (.ref f_law)
  c_SkewError : Addr
  m_SkewError : mg "SkewError" = some (.ref c_SkewError)
  c_NoLevel : Addr
  m_NoLevel : mg "NoLevel" = some (.ref c_NoLevel)
  c_Loose : Addr
  m_Loose : mg "Loose" = some (.ref c_Loose)
  c_Kept : Addr
  m_Kept : mg "Kept" = some (.ref c_Kept)
  c_Make : Addr
  m_Make : mg "Make" = some (.ref c_Make)
  c_Watch : Addr
  m_Watch : mg "Watch" = some (.ref c_Watch)
  c_Hold : Addr
  m_Hold : mg "Hold" = some (.ref c_Hold)
  x_NoLevel : ExcC K mg "NoLevel" c_NoLevel
  kx_NoLevel : ExcK K c_NoLevel
  mo_Loose : MkO K c_Loose
  cl_Loose : Cls K c_Loose
  tc_Loose : PySem.W.findIn K (.ref c_Loose) "__class__" = some (some (.builtin "object.__class__"))
  tm_Loose : PySem.W.mroIn K c_Loose (.type "object") = some true
  me_Loose_word : Meth K c_Loose "word" f_Looseword
  me_Loose_stand : Meth K c_Loose "stand" f_Loosestand
  me_Loose_late : Meth K c_Loose "late" f_Looselate
  me_Loose_unkept : Meth K c_Loose "unkept" f_Looseunkept
  me_Loose_holds_asks : Meth K c_Loose "holds_asks" f_Looseholdsasks
  me_Loose_watches : Meth K c_Loose "watches" f_Loosewatches
  me_Loose_spots : Meth K c_Loose "spots" f_Loosespots
  me_Loose_look_spot : Meth K c_Loose "look_spot" f_Looselookspot
  me_Loose_first_spot : Meth K c_Loose "first_spot" f_Loosefirstspot
  me_Loose_stamps : Meth K c_Loose "stamps" f_Loosestamps
  mo_Kept : MkO K c_Kept
  cl_Kept : Cls K c_Kept
  tc_Kept : PySem.W.findIn K (.ref c_Kept) "__class__" = some (some (.builtin "object.__class__"))
  tm_Kept : PySem.W.mroIn K c_Kept (.type "object") = some true
  me_Kept_word : Meth K c_Kept "word" f_Keptword
  me_Kept_unkept : Meth K c_Kept "unkept" f_Keptunkept
  me_Kept_spots : Meth K c_Kept "spots" f_Keptspots
  me_Kept_look_spot : Meth K c_Kept "look_spot" f_Keptlookspot
  me_Kept_first_spot : Meth K c_Kept "first_spot" f_Keptfirstspot
  me_Kept_stamps : Meth K c_Kept "stamps" f_Keptstamps
  me_Kept_stand : Meth K c_Kept "stand" f_Loosestand
  me_Kept_late : Meth K c_Kept "late" f_Looselate
  me_Kept_holds_asks : Meth K c_Kept "holds_asks" f_Looseholdsasks
  me_Kept_watches : Meth K c_Kept "watches" f_Loosewatches
  mo_Make : MkO K c_Make
  cl_Make : Cls K c_Make
  tc_Make : PySem.W.findIn K (.ref c_Make) "__class__" = some (some (.builtin "object.__class__"))
  tm_Make : PySem.W.mroIn K c_Make (.type "object") = some true
  me_Make_word : Meth K c_Make "word" f_Makeword
  me_Make_stand : Meth K c_Make "stand" f_Makestand
  me_Make_late : Meth K c_Make "late" f_Makelate
  me_Make_spots : Meth K c_Make "spots" f_Makespots
  me_Make_look_spot : Meth K c_Make "look_spot" f_Makelookspot
  me_Make_first_spot : Meth K c_Make "first_spot" f_Makefirstspot
  me_Make_stamps : Meth K c_Make "stamps" f_Makestamps
  me_Make_unkept : Meth K c_Make "unkept" f_Keptunkept
  me_Make_holds_asks : Meth K c_Make "holds_asks" f_Looseholdsasks
  me_Make_watches : Meth K c_Make "watches" f_Loosewatches
  mo_Watch : MkO K c_Watch
  cl_Watch : Cls K c_Watch
  tc_Watch : PySem.W.findIn K (.ref c_Watch) "__class__" = some (some (.builtin "object.__class__"))
  tm_Watch : PySem.W.mroIn K c_Watch (.type "object") = some true
  me_Watch_word : Meth K c_Watch "word" f_Watchword
  me_Watch_watches : Meth K c_Watch "watches" f_Watchwatches
  me_Watch_spots : Meth K c_Watch "spots" f_Watchspots
  me_Watch_stamps : Meth K c_Watch "stamps" f_Watchstamps
  me_Watch_stand : Meth K c_Watch "stand" f_Makestand
  me_Watch_late : Meth K c_Watch "late" f_Makelate
  me_Watch_look_spot : Meth K c_Watch "look_spot" f_Makelookspot
  me_Watch_first_spot : Meth K c_Watch "first_spot" f_Makefirstspot
  me_Watch_unkept : Meth K c_Watch "unkept" f_Keptunkept
  me_Watch_holds_asks : Meth K c_Watch "holds_asks" f_Looseholdsasks
  mo_Hold : MkO K c_Hold
  cl_Hold : Cls K c_Hold
  tc_Hold : PySem.W.findIn K (.ref c_Hold) "__class__" = some (some (.builtin "object.__class__"))
  tm_Hold : PySem.W.mroIn K c_Hold (.type "object") = some true
  me_Hold_word : Meth K c_Hold "word" f_Holdword
  me_Hold_holds_asks : Meth K c_Hold "holds_asks" f_Holdholdsasks
  me_Hold_spots : Meth K c_Hold "spots" f_Holdspots
  me_Hold_look_spot : Meth K c_Hold "look_spot" f_Holdlookspot
  me_Hold_first_spot : Meth K c_Hold "first_spot" f_Holdfirstspot
  me_Hold_stamps : Meth K c_Hold "stamps" f_Holdstamps
  me_Hold_unkept : Meth K c_Hold "unkept" f_Keptunkept
  me_Hold_stand : Meth K c_Hold "stand" f_Loosestand
  me_Hold_late : Meth K c_Hold "late" f_Looselate
  me_Hold_watches : Meth K c_Hold "watches" f_Loosewatches
  tg : PySem.W.specialIn K (.builtin "object.__class__") "__get__" = some (some (.builtin "getset_descriptor.__get__"))
  tt : PySem.W.takesIn K (.builtin "object.__class__") = some true
  kit_Loose_Loose : PySem.W.kitOne K (.ref c_Loose) (.ref c_Loose) = some true
  kit_Loose_Kept : PySem.W.kitOne K (.ref c_Loose) (.ref c_Kept) = some false
  kit_Loose_Make : PySem.W.kitOne K (.ref c_Loose) (.ref c_Make) = some false
  kit_Loose_Watch : PySem.W.kitOne K (.ref c_Loose) (.ref c_Watch) = some false
  kit_Loose_Hold : PySem.W.kitOne K (.ref c_Loose) (.ref c_Hold) = some false
  kit_Kept_Loose : PySem.W.kitOne K (.ref c_Kept) (.ref c_Loose) = some true
  kit_Kept_Kept : PySem.W.kitOne K (.ref c_Kept) (.ref c_Kept) = some true
  kit_Kept_Make : PySem.W.kitOne K (.ref c_Kept) (.ref c_Make) = some false
  kit_Kept_Watch : PySem.W.kitOne K (.ref c_Kept) (.ref c_Watch) = some false
  kit_Kept_Hold : PySem.W.kitOne K (.ref c_Kept) (.ref c_Hold) = some false
  kit_Make_Loose : PySem.W.kitOne K (.ref c_Make) (.ref c_Loose) = some true
  kit_Make_Kept : PySem.W.kitOne K (.ref c_Make) (.ref c_Kept) = some true
  kit_Make_Make : PySem.W.kitOne K (.ref c_Make) (.ref c_Make) = some true
  kit_Make_Watch : PySem.W.kitOne K (.ref c_Make) (.ref c_Watch) = some false
  kit_Make_Hold : PySem.W.kitOne K (.ref c_Make) (.ref c_Hold) = some false
  kit_Watch_Loose : PySem.W.kitOne K (.ref c_Watch) (.ref c_Loose) = some true
  kit_Watch_Kept : PySem.W.kitOne K (.ref c_Watch) (.ref c_Kept) = some true
  kit_Watch_Make : PySem.W.kitOne K (.ref c_Watch) (.ref c_Make) = some true
  kit_Watch_Watch : PySem.W.kitOne K (.ref c_Watch) (.ref c_Watch) = some true
  kit_Watch_Hold : PySem.W.kitOne K (.ref c_Watch) (.ref c_Hold) = some false
  kit_Hold_Loose : PySem.W.kitOne K (.ref c_Hold) (.ref c_Loose) = some true
  kit_Hold_Kept : PySem.W.kitOne K (.ref c_Hold) (.ref c_Kept) = some true
  kit_Hold_Make : PySem.W.kitOne K (.ref c_Hold) (.ref c_Make) = some false
  kit_Hold_Watch : PySem.W.kitOne K (.ref c_Hold) (.ref c_Watch) = some false
  kit_Hold_Hold : PySem.W.kitOne K (.ref c_Hold) (.ref c_Hold) = some true
  ks_SkewError : ExcS K mg "SkewError" c_SkewError
  kv_NoLevel : PySem.W.subIn K (.ref c_NoLevel) (.type "ValueError") = some true
  kp_NoLevel_SkewError : KitP K c_NoLevel c_SkewError true
  kp_NoLevel_NoLevel : KitP K c_NoLevel c_NoLevel true
  z_ValueError : mg "ValueError" = none
  z_bool : mg "bool" = none
  z_int : mg "int" = none
  z_isinstance : mg "isinstance" = none
  z_len : mg "len" = none
  z_list : mg "list" = none
  z_max : mg "max" = none
  z_range : mg "range" = none
  z_str : mg "str" = none
  z_zip : mg "zip" = none
theorem sc_Looseword : FnScope ["self"] ["self"] (defScope s_Looseword) := ⟨rfl, rfl, rfl, by decide +kernel, rfl, by decide +kernel, by decide +kernel⟩
theorem sc_Loosestand : FnScope ["self", "begin", "now"] ["self", "begin", "now"] (defScope s_Loosestand) := ⟨rfl, rfl, rfl, by decide +kernel, rfl, by decide +kernel, by decide +kernel⟩
theorem sc_Looselate : FnScope ["self", "begin", "stamp"] ["self", "begin", "stamp"] (defScope s_Looselate) := ⟨rfl, rfl, rfl, by decide +kernel, rfl, by decide +kernel, by decide +kernel⟩
theorem sc_Looseunkept : FnScope ["self"] ["self"] (defScope s_Looseunkept) := ⟨rfl, rfl, rfl, by decide +kernel, rfl, by decide +kernel, by decide +kernel⟩
theorem sc_Looseholdsasks : FnScope ["self"] ["self"] (defScope s_Looseholdsasks) := ⟨rfl, rfl, rfl, by decide +kernel, rfl, by decide +kernel, by decide +kernel⟩
theorem sc_Loosewatches : FnScope ["self"] ["self"] (defScope s_Loosewatches) := ⟨rfl, rfl, rfl, by decide +kernel, rfl, by decide +kernel, by decide +kernel⟩
theorem sc_Loosespots : FnScope ["self", "looks"] ["self", "looks"] (defScope s_Loosespots) := ⟨rfl, rfl, rfl, by decide +kernel, rfl, by decide +kernel, by decide +kernel⟩
theorem sc_Looselookspot : FnScope ["self", "place"] ["self", "place"] (defScope s_Looselookspot) := ⟨rfl, rfl, rfl, by decide +kernel, rfl, by decide +kernel, by decide +kernel⟩
theorem sc_Loosefirstspot : FnScope ["self", "looks"] ["self", "looks"] (defScope s_Loosefirstspot) := ⟨rfl, rfl, rfl, by decide +kernel, rfl, by decide +kernel, by decide +kernel⟩
theorem sc_Loosestamps : FnScope ["self", "begin", "stands", "end", "early"] ["self", "begin", "stands", "end", "early"] (defScope s_Loosestamps) := ⟨rfl, rfl, rfl, by decide +kernel, rfl, by decide +kernel, by decide +kernel⟩
theorem sc_Keptword : FnScope ["self"] ["self"] (defScope s_Keptword) := ⟨rfl, rfl, rfl, by decide +kernel, rfl, by decide +kernel, by decide +kernel⟩
theorem sc_Keptunkept : FnScope ["self"] ["self"] (defScope s_Keptunkept) := ⟨rfl, rfl, rfl, by decide +kernel, rfl, by decide +kernel, by decide +kernel⟩
theorem sc_Keptspots : FnScope ["self", "looks"] ["self", "looks"] (defScope s_Keptspots) := ⟨rfl, rfl, rfl, by decide +kernel, rfl, by decide +kernel, by decide +kernel⟩
theorem sc_Keptlookspot : FnScope ["self", "place"] ["self", "place"] (defScope s_Keptlookspot) := ⟨rfl, rfl, rfl, by decide +kernel, rfl, by decide +kernel, by decide +kernel⟩
theorem sc_Keptfirstspot : FnScope ["self", "looks"] ["self", "looks"] (defScope s_Keptfirstspot) := ⟨rfl, rfl, rfl, by decide +kernel, rfl, by decide +kernel, by decide +kernel⟩
theorem sc_Keptstamps : FnScope ["self", "begin", "stands", "end", "early"] ["self", "begin", "stands", "end", "early"] (defScope s_Keptstamps) := ⟨rfl, rfl, rfl, by decide +kernel, rfl, by decide +kernel, by decide +kernel⟩
theorem sc_Makeword : FnScope ["self"] ["self"] (defScope s_Makeword) := ⟨rfl, rfl, rfl, by decide +kernel, rfl, by decide +kernel, by decide +kernel⟩
theorem sc_Makestand : FnScope ["self", "begin", "now"] ["self", "begin", "now"] (defScope s_Makestand) := ⟨rfl, rfl, rfl, by decide +kernel, rfl, by decide +kernel, by decide +kernel⟩
theorem sc_Makelate : FnScope ["self", "begin", "stamp"] ["self", "begin", "stamp"] (defScope s_Makelate) := ⟨rfl, rfl, rfl, by decide +kernel, rfl, by decide +kernel, by decide +kernel⟩
theorem sc_Makespots : FnScope ["self", "looks"] ["self", "looks"] (defScope s_Makespots) := ⟨rfl, rfl, rfl, by decide +kernel, rfl, by decide +kernel, by decide +kernel⟩
theorem sc_Makelookspot : FnScope ["self", "place"] ["self", "place"] (defScope s_Makelookspot) := ⟨rfl, rfl, rfl, by decide +kernel, rfl, by decide +kernel, by decide +kernel⟩
theorem sc_Makefirstspot : FnScope ["self", "looks"] ["self", "looks"] (defScope s_Makefirstspot) := ⟨rfl, rfl, rfl, by decide +kernel, rfl, by decide +kernel, by decide +kernel⟩
theorem sc_Makestamps : FnScope ["self", "begin", "stands", "end", "early"] ["self", "begin", "stands", "end", "early"] (defScope s_Makestamps) := ⟨rfl, rfl, rfl, by decide +kernel, rfl, by decide +kernel, by decide +kernel⟩
theorem sc_Watchword : FnScope ["self"] ["self"] (defScope s_Watchword) := ⟨rfl, rfl, rfl, by decide +kernel, rfl, by decide +kernel, by decide +kernel⟩
theorem sc_Watchwatches : FnScope ["self"] ["self"] (defScope s_Watchwatches) := ⟨rfl, rfl, rfl, by decide +kernel, rfl, by decide +kernel, by decide +kernel⟩
theorem sc_Watchspots : FnScope ["self", "looks"] ["self", "looks"] (defScope s_Watchspots) := ⟨rfl, rfl, rfl, by decide +kernel, rfl, by decide +kernel, by decide +kernel⟩
theorem sc_Watchstamps : FnScope ["self", "begin", "stands", "end", "early"] ["self", "begin", "stands", "end", "early"] (defScope s_Watchstamps) := ⟨rfl, rfl, rfl, by decide +kernel, rfl, by decide +kernel, by decide +kernel⟩
theorem sc_Holdword : FnScope ["self"] ["self"] (defScope s_Holdword) := ⟨rfl, rfl, rfl, by decide +kernel, rfl, by decide +kernel, by decide +kernel⟩
theorem sc_Holdholdsasks : FnScope ["self"] ["self"] (defScope s_Holdholdsasks) := ⟨rfl, rfl, rfl, by decide +kernel, rfl, by decide +kernel, by decide +kernel⟩
theorem sc_Holdspots : FnScope ["self", "looks"] ["self", "looks"] (defScope s_Holdspots) := ⟨rfl, rfl, rfl, by decide +kernel, rfl, by decide +kernel, by decide +kernel⟩
theorem sc_Holdlookspot : FnScope ["self", "place"] ["self", "place"] (defScope s_Holdlookspot) := ⟨rfl, rfl, rfl, by decide +kernel, rfl, by decide +kernel, by decide +kernel⟩
theorem sc_Holdfirstspot : FnScope ["self", "looks"] ["self", "looks"] (defScope s_Holdfirstspot) := ⟨rfl, rfl, rfl, by decide +kernel, rfl, by decide +kernel, by decide +kernel⟩
theorem sc_Holdstamps : FnScope ["self", "begin", "stands", "end", "early"] ["self", "begin", "stands", "end", "early"] (defScope s_Holdstamps) := ⟨rfl, rfl, rfl, by decide +kernel, rfl, by decide +kernel, by decide +kernel⟩
theorem sc_levelof : FnScope ["word", "level"] ["word"] (defScope s_levelof) := ⟨rfl, rfl, rfl, by decide +kernel, rfl, by decide +kernel, by decide +kernel⟩
theorem sc_Lcell : FnScope ["_law_script", "_law_k", "_law_number_here"] ["_law_script", "_law_k"] (defScope s_Lcell) := ⟨rfl, rfl, rfl, by decide +kernel, rfl, by decide +kernel, by decide +kernel⟩
theorem sc_Lmix : FnScope ["_law_cell_here", "_law_k", "_law_number_here"] ["_law_cell_here", "_law_k"] (defScope s_Lmix) := ⟨rfl, rfl, rfl, by decide +kernel, rfl, by decide +kernel, by decide +kernel⟩
theorem sc_Ltruth : FnScope ["_law_found", "_law_due"] ["_law_found", "_law_due"] (defScope s_Ltruth) := ⟨rfl, rfl, rfl, by decide +kernel, rfl, by decide +kernel, by decide +kernel⟩
theorem sc_Lnumber : FnScope ["_law_found", "_law_due"] ["_law_found", "_law_due"] (defScope s_Lnumber) := ⟨rfl, rfl, rfl, by decide +kernel, rfl, by decide +kernel, by decide +kernel⟩
theorem sc_Lkin : FnScope ["_law_level"] ["_law_level"] (defScope s_Lkin) := ⟨rfl, rfl, rfl, by decide +kernel, rfl, by decide +kernel, by decide +kernel⟩
theorem sc_Ltruths : FnScope ["_law_level", "_law_word", "_law_begin", "_law_stamp", "_law_late"] ["_law_level", "_law_word", "_law_begin", "_law_stamp"] (defScope s_Ltruths) := ⟨rfl, rfl, rfl, by decide +kernel, rfl, by decide +kernel, by decide +kernel⟩
theorem sc_Lspots : FnScope ["_law_level", "_law_word", "_law_looks", "_law_place", "_law_many", "_law_spot", "_law_first"] ["_law_level", "_law_word", "_law_looks", "_law_place"] (defScope s_Lspots) := ⟨rfl, rfl, rfl, by decide +kernel, rfl, by decide +kernel, by decide +kernel⟩
theorem sc_Lstamps : FnScope ["_law_level", "_law_word", "_law_begin", "_law_stands", "_law_end", "_law_soon", "_law_due", "_law_handed", "_law_found", "_law_one", "_law_other"] ["_law_level", "_law_word", "_law_begin", "_law_stands", "_law_end", "_law_soon"] (defScope s_Lstamps) := ⟨rfl, rfl, rfl, by decide +kernel, rfl, by decide +kernel, by decide +kernel⟩
theorem sc_Lnoword : FnScope ["_law_cell_here", "_law_word", "_law_letter"] ["_law_cell_here"] (defScope s_Lnoword) := ⟨rfl, rfl, rfl, by decide +kernel, rfl, by decide +kernel, by decide +kernel⟩
theorem sc_Lrefused : FnScope ["_law_word", "e"] ["_law_word"] (defScope s_Lrefused) := ⟨rfl, rfl, rfl, by decide +kernel, rfl, by decide +kernel, by decide +kernel⟩
theorem sc_law : FnScope ["_law_script", "_law_begin", "_law_now", "_law_stamp", "_law_looks", "_law_place", "_law_stands", "_law_rows", "_law_word", "_law_kin_here", "_law_level", "_law_said", "_law_stand", "_law_soon"] ["_law_script"] (defScope s_law) := ⟨rfl, rfl, rfl, by decide +kernel, rfl, by decide +kernel, by decide +kernel⟩
def cO {K : PySem.W.Frag} {mg : Str → Option Value} (T : Tx K mg) : Lv → Addr
  | .loose => T.c_Loose
  | .kept => T.c_Kept
  | .make => T.c_Make
  | .watch => T.c_Watch
  | .hold => T.c_Hold
def spCell (K : PySem.W.Frag) : Sp := fun vs H Q _ => ∃ (a : Addr) (ns : List Int) (k : Int), vs = [.ref a, .int k] ∧ SqL K H a (ns.map V.int) ∧ 0 ≤ k ∧ k ≤ 1000 ∧ ∀ z : Int, Q (.int z) H
def spMix : Sp := fun vs H Q _ => ∃ c k : Int, vs = [.int c, .int k] ∧ 0 ≤ k ∧ k ≤ 1000 ∧ ∀ z : Int, Q (.int z) H
def spTruth : Sp := fun vs H Q _ => ∃ b : Bool, vs = [.bl b, .bl b] ∧ Q (.bl true) H
def spNumber : Sp := fun vs H Q _ => ∃ o : Option Int, vs = [optV o, optV o] ∧ Q (.bl true) H
def spKin (cls : Lv → Addr) : Sp := fun vs H Q _ => ∃ (a dx : Addr) (l : Lv), vs = [.ref a] ∧ H a = some (.ins (cls l) dx []) ∧ ∀ p H', H p = none → Same H H' → H' p = some (.lst ((kinL l).map V.bl)) → Q (.ref p) H'
def spTruths (cls : Lv → Addr) : Sp := fun vs H Q _ => ∃ (a dx : Addr) (l : Lv) (b n : Int), vs = [.ref a, .str (wd l), .int b, .int n] ∧ H a = some (.ins (cls l) dx []) ∧ ∀ H', Same H H' → Q (.bl true) H'
def spSpots (cls : Lv → Addr) : Sp := fun vs H Q _ => ∃ (a dx : Addr) (l : Lv) (n p : Int), vs = [.ref a, .str (wd l), .int n, .int p] ∧ H a = some (.ins (cls l) dx []) ∧ Q (.bl true) H
def spStamps (cls : Lv → Addr) : Sp := fun vs H Q _ => ∃ (a dx st : Addr) (l : Lv) (b e : Int) (ns : List Int) (soon : Bool), vs = [.ref a, .str (wd l), .int b, .ref st, .int e, .bl soon] ∧ H a = some (.ins (cls l) dx []) ∧ H st = some (.lst (ns.map V.int)) ∧ ns.length ≤ 41 ∧ ∀ H', Same H H' → Q (.bl true) H'
def NoWord (x : Str) : Prop := (∀ l, x ≠ wd l) ∧ x.length ≤ 600 ∧ ∀ c ∈ x.cps.toList, c < 16 ^ 8
def spNoWord : Sp := fun vs H Q _ => ∃ c : Int, vs = [.int c] ∧ ∀ x H', NoWord x → Same H H' → Q (.str x) H'
def spRefused : Sp := fun vs H Q _ => ∃ x : Str, vs = [.str x] ∧ NoWord x ∧ ∀ H', Q (.bl true) H'
theorem stamps_len (l : Lv) (b : Int) (ns : List Int) (e : Int) (soon : Bool) : (stampsL l b ns e soon).length ≤ ns.length + 2 := by
  cases l <;> simp [stampsL]
theorem wd_len (l : Lv) : (wd l).length ≤ 5 ∧ ∀ c ∈ (wd l).cps.toList, c < 128 := by
  cases l <;> decide +kernel
theorem wd_inj {l m : Lv} (h : wd l = wd m) : m = l := by
  have key : ∀ l m : Lv, ix l ≠ ix m → wd l ≠ wd m := by intro l m; cases l <;> cases m <;> decide +kernel
  by_cases e : ix l = ix m
  · cases l <;> cases m <;> first | rfl | cases e
  · exact absurd h (key l m e)
theorem dts_bls {K : PySem.W.Frag} {H : Hp} : ∀ bs : List Bool, Dts K H (bs.map V.bl) (bs.map PyData.bool)
  | [] => .nil
  | b :: r => .cons (.bl b) (dts_bls r)
theorem kin_dat (l : Lv) : SeqAt.shaped (.list ((kinL l).map PyData.bool)) = true ∧ PyData.eqv (.list ((kinL l).map PyData.bool)) (.list ((kinL l).map PyData.bool)) = true := by
  cases l <;> exact ⟨rfl, rfl⟩
theorem ints_of : ∀ ys : List V, (∀ (i : Nat) y, ys[i]? = some y → ∃ z : Int, y = .int z) → ∃ ms : List Int, ys = ms.map V.int
  | [], _ => ⟨[], rfl⟩
  | y :: r, h => by
    obtain ⟨z, rfl⟩ := h 0 y rfl
    obtain ⟨ms, rfl⟩ := ints_of r fun i x e => h (i + 1) x (by simpa using e)
    exact ⟨z :: ms, rfl⟩
theorem alpha_at {n : Int} : atI ("abcdefghijklmnopqrstuvwxyz" : Str).cps.toList (n % 26) = some (97 + (n % 26).toNat) := by
  have h0 := Int.emod_nonneg n (show (26 : Int) ≠ 0 by decide)
  have h1 := Int.emod_lt_of_pos n (show (0 : Int) < 26 by decide)
  obtain ⟨j, hj⟩ := Int.eq_ofNat_of_zero_le h0
  have hj26 : j < 26 := by omega
  rw [hj]
  have key : ∀ j, j < 26 → ("abcdefghijklmnopqrstuvwxyz" : Str).cps.toList[j]? = some (97 + j) := by decide +kernel
  exact atI_nat (key j hj26)
def fiveS (l : Lv) (j : Nat) : List Str := [Txt.slice (wd l) (some 1) none, Txt.slice (wd l) none (some (-1)), wd l ++ ⟨#[97 + j]⟩, ⟨#[97 + j]⟩ ++ wd l, ⟨(wd l).cps.map up1⟩]
def noB (x : Str) : Bool := !(x == wd .loose) && !(x == wd .kept) && !(x == wd .make) && !(x == wd .watch) && !(x == wd .hold) && decide (x.length ≤ 600) && x.cps.toList.all fun c => decide (c < 16 ^ 8)
theorem five_all : (List.range 26).all (fun j => (fiveS .loose j).all noB && (fiveS .kept j).all noB && (fiveS .make j).all noB && (fiveS .watch j).all noB && (fiveS .hold j).all noB) = true := by decide +kernel
theorem noB_no {x : Str} (h : noB x = true) : NoWord x := by
  unfold noB at h
  simp only [Bool.and_eq_true, Bool.not_eq_true', decide_eq_true_eq, List.all_eq_true, beq_eq_false_iff_ne] at h
  obtain ⟨⟨⟨⟨⟨⟨h1, h2⟩, h3⟩, h4⟩, h5⟩, h6⟩, h7⟩ := h
  exact ⟨fun l => by cases l <;> assumption, h6, h7⟩
theorem five_no {l : Lv} {j : Nat} (hj : j < 26) {x : Str} (hx : x ∈ fiveS l j) : NoWord x := by
  have h := List.all_eq_true.mp five_all j (List.mem_range.mpr hj)
  simp only [Bool.and_eq_true] at h
  obtain ⟨⟨⟨⟨h1, h2⟩, h3⟩, h4⟩, h5⟩ := h
  refine noB_no ?_
  cases l
  · exact List.all_eq_true.mp h1 x hx
  · exact List.all_eq_true.mp h2 x hx
  · exact List.all_eq_true.mp h3 x hx
  · exact List.all_eq_true.mp h4 x hx
  · exact List.all_eq_true.mp h5 x hx
def spLaw (K : PySem.W.Frag) : Sp := fun vs H Q _ => ∃ (a : Addr) (ns : List Int), vs = [.ref a] ∧ SqL K H a (ns.map V.int) ∧ ns.length ≤ 63 ∧ (∀ m ∈ ns, Builtin.Int.intBits m ≤ 1048576) ∧ ∀ H', Q (.bl true) H'
section
variable {P : Program} {w : World} {K : PySem.W.Frag} {mg : Str → Option Value} {base : Heap}
theorem ok_Looseword (T : Tx K mg) : FnOk P w K mg base CX0 1 T.f_Looseword T.d_Looseword ["self"] (spWord .loose) := by
  refine T.F_Looseword.ok sc_Looseword (fun vs H Q E h => ?_) (fun cdv A outer s H vs Q E hr h => ?_)
  · obtain ⟨x, rfl, _⟩ := h
    rfl
  · obtain ⟨x, rfl, q⟩ := h
    exact ⟨_, (pss_one (ps_ret pe_str)), q⟩
theorem ok_Loosestand (T : Tx K mg) : FnOk P w K mg base CX0 1 T.f_Loosestand T.d_Loosestand ["self", "begin", "now"] (spStandL .loose) := by
  refine T.F_Loosestand.ok sc_Loosestand (fun vs H Q E h => ?_) (fun cdv A outer s H vs Q E hr h => ?_)
  · obtain ⟨x, b, n, rfl, _⟩ := h
    rfl
  · obtain ⟨x, b, n, rfl, q⟩ := h
    exact ⟨_, (pss_one (ps_ret (pv 2))), ⟨_, rfl, q⟩⟩
theorem ok_Looselate (T : Tx K mg) : FnOk P w K mg base CX0 1 T.f_Looselate T.d_Looselate ["self", "begin", "stamp"] (spLate .loose) := by
  refine T.F_Looselate.ok sc_Looselate (fun vs H Q E h => ?_) (fun cdv A outer s H vs Q E hr h => ?_)
  · obtain ⟨x, b, n, rfl, _⟩ := h
    rfl
  · obtain ⟨x, b, n, rfl, q⟩ := h
    exact ⟨_, (pss_one (ps_ret pe_bl)), q⟩
theorem ok_Looseunkept (T : Tx K mg) : FnOk P w K mg base CX0 1 T.f_Looseunkept T.d_Looseunkept ["self"] (spUnk .loose) := by
  refine T.F_Looseunkept.ok sc_Looseunkept (fun vs H Q E h => ?_) (fun cdv A outer s H vs Q E hr h => ?_)
  · obtain ⟨x, rfl, _⟩ := h
    rfl
  · obtain ⟨x, rfl, q⟩ := h
    exact ⟨_, (pss_one (ps_ret pe_bl)), q⟩
theorem ok_Looseholdsasks (T : Tx K mg) : FnOk P w K mg base CX0 1 T.f_Looseholdsasks T.d_Looseholdsasks ["self"] (spHas .loose) := by
  refine T.F_Looseholdsasks.ok sc_Looseholdsasks (fun vs H Q E h => ?_) (fun cdv A outer s H vs Q E hr h => ?_)
  · obtain ⟨x, rfl, _⟩ := h
    rfl
  · obtain ⟨x, rfl, q⟩ := h
    exact ⟨_, (pss_one (ps_ret pe_bl)), q⟩
theorem ok_Loosewatches (T : Tx K mg) : FnOk P w K mg base CX0 1 T.f_Loosewatches T.d_Loosewatches ["self"] (spWat .loose) := by
  refine T.F_Loosewatches.ok sc_Loosewatches (fun vs H Q E h => ?_) (fun cdv A outer s H vs Q E hr h => ?_)
  · obtain ⟨x, rfl, _⟩ := h
    rfl
  · obtain ⟨x, rfl, q⟩ := h
    exact ⟨_, (pss_one (ps_ret pe_bl)), q⟩
theorem ok_Loosespots (T : Tx K mg) : FnOk P w K mg base CX0 1 T.f_Loosespots T.d_Loosespots ["self", "looks"] (spSpotsL .loose) := by
  refine T.F_Loosespots.ok sc_Loosespots (fun vs H Q E h => ?_) (fun cdv A outer s H vs Q E hr h => ?_)
  · obtain ⟨x, n, rfl, _⟩ := h
    rfl
  · obtain ⟨x, n, rfl, q⟩ := h
    exact ⟨_, (pss_one (ps_ret pe_int)), q⟩
theorem ok_Looselookspot (T : Tx K mg) : FnOk P w K mg base CX0 1 T.f_Looselookspot T.d_Looselookspot ["self", "place"] (spLookS .loose) := by
  refine T.F_Looselookspot.ok sc_Looselookspot (fun vs H Q E h => ?_) (fun cdv A outer s H vs Q E hr h => ?_)
  · obtain ⟨x, n, rfl, _⟩ := h
    rfl
  · obtain ⟨x, n, rfl, q⟩ := h
    exact ⟨_, (pss_one (ps_ret pe_non)), q⟩
theorem ok_Loosefirstspot (T : Tx K mg) : FnOk P w K mg base CX0 1 T.f_Loosefirstspot T.d_Loosefirstspot ["self", "looks"] (spFirstS .loose) := by
  refine T.F_Loosefirstspot.ok sc_Loosefirstspot (fun vs H Q E h => ?_) (fun cdv A outer s H vs Q E hr h => ?_)
  · obtain ⟨x, n, rfl, _⟩ := h
    rfl
  · obtain ⟨x, n, rfl, q⟩ := h
    exact ⟨_, (pss_one (ps_ret pe_int)), q⟩
theorem ok_Loosestamps (T : Tx K mg) : FnOk P w K mg base CX0 1 T.f_Loosestamps T.d_Loosestamps ["self", "begin", "stands", "end", "early"] (spStampsL .loose) := by
  refine T.F_Loosestamps.ok sc_Loosestamps (fun vs H Q E h => ?_) (fun cdv A outer s H vs Q E hr h => ?_)
  · obtain ⟨x, b, st, e, soon, ns, rfl, _⟩ := h
    rfl
  · obtain ⟨x, b, st, e, soon, ns, rfl, hst, hz, q⟩ := h
    exact ⟨_, (pss_one (ps_ret (pe_lst (pa_cons (pv 3) pa_nil)))), ⟨_, rfl, (by show 1 ≤ sizeLine; decide), fun p hp => q p _ hp (Same.upd hp) upd_same⟩⟩
theorem ok_Keptword (T : Tx K mg) : FnOk P w K mg base CX0 1 T.f_Keptword T.d_Keptword ["self"] (spWord .kept) := by
  refine T.F_Keptword.ok sc_Keptword (fun vs H Q E h => ?_) (fun cdv A outer s H vs Q E hr h => ?_)
  · obtain ⟨x, rfl, _⟩ := h
    rfl
  · obtain ⟨x, rfl, q⟩ := h
    exact ⟨_, (pss_one (ps_ret pe_str)), q⟩
theorem ok_Keptunkept (T : Tx K mg) : FnOk P w K mg base CX0 1 T.f_Keptunkept T.d_Keptunkept ["self"] (spUnk .kept) := by
  refine T.F_Keptunkept.ok sc_Keptunkept (fun vs H Q E h => ?_) (fun cdv A outer s H vs Q E hr h => ?_)
  · obtain ⟨x, rfl, _⟩ := h
    rfl
  · obtain ⟨x, rfl, q⟩ := h
    exact ⟨_, (pss_one (ps_ret pe_bl)), q⟩
theorem ok_Keptspots (T : Tx K mg) : FnOk P w K mg base CX0 1 T.f_Keptspots T.d_Keptspots ["self", "looks"] (spSpotsL .kept) := by
  refine T.F_Keptspots.ok sc_Keptspots (fun vs H Q E h => ?_) (fun cdv A outer s H vs Q E hr h => ?_)
  · obtain ⟨x, n, rfl, _⟩ := h
    rfl
  · obtain ⟨x, n, rfl, q⟩ := h
    exact ⟨_, (pss_one (ps_ret (pe_op op_add (pv 1) pe_int))), ⟨_, rfl, _, _, rfl, rfl, q⟩⟩
theorem ok_Keptlookspot (T : Tx K mg) : FnOk P w K mg base CX0 1 T.f_Keptlookspot T.d_Keptlookspot ["self", "place"] (spLookS .kept) := by
  refine T.F_Keptlookspot.ok sc_Keptlookspot (fun vs H Q E h => ?_) (fun cdv A outer s H vs Q E hr h => ?_)
  · obtain ⟨x, n, rfl, _⟩ := h
    rfl
  · obtain ⟨x, n, rfl, q⟩ := h
    exact ⟨_, (pss_one (ps_ret (pv 1))), ⟨_, rfl, q⟩⟩
theorem ok_Keptfirstspot (T : Tx K mg) : FnOk P w K mg base CX0 1 T.f_Keptfirstspot T.d_Keptfirstspot ["self", "looks"] (spFirstS .kept) := by
  refine T.F_Keptfirstspot.ok sc_Keptfirstspot (fun vs H Q E h => ?_) (fun cdv A outer s H vs Q E hr h => ?_)
  · obtain ⟨x, n, rfl, _⟩ := h
    rfl
  · obtain ⟨x, n, rfl, q⟩ := h
    exact ⟨_, (pss_one (ps_ret (pv 1))), ⟨_, rfl, q⟩⟩
theorem ok_Keptstamps (T : Tx K mg) : FnOk P w K mg base CX0 1 T.f_Keptstamps T.d_Keptstamps ["self", "begin", "stands", "end", "early"] (spStampsL .kept) := by
  refine T.F_Keptstamps.ok sc_Keptstamps (fun vs H Q E h => ?_) (fun cdv A outer s H vs Q E hr h => ?_)
  · obtain ⟨x, b, st, e, soon, ns, rfl, _⟩ := h
    rfl
  · obtain ⟨x, b, st, e, soon, ns, rfl, hst, hz, q⟩ := h
    refine ⟨_, (pss_one (ps_ret (pe_op op_cat (pv 2) (pe_lst (pa_cons (pv 3) pa_nil))))), ?_⟩
    refine ⟨_, rfl, _, rfl, (by show 1 ≤ sizeLine; decide), fun p1 h1 => ?_⟩
    have s1 := Same.upd (o := HO.lst [V.int e]) h1
    have z50 : (50 : Nat) ≤ sizeLine := by decide
    refine ⟨st, p1, _, _, rfl, rfl, s1 _ _ hst, upd_same, (by rw [List.length_map]; show _ + 1 ≤ _; omega), fun p2 h2 => ?_⟩
    refine q p2 _ (s1.free h2) (s1.trans (Same.upd h2)) ?_
    rw [upd_same]
    show _ = some (HO.lst ((ns ++ [e]).map V.int))
    rw [List.map_append]
    rfl
theorem ok_Makeword (T : Tx K mg) : FnOk P w K mg base CX0 1 T.f_Makeword T.d_Makeword ["self"] (spWord .make) := by
  refine T.F_Makeword.ok sc_Makeword (fun vs H Q E h => ?_) (fun cdv A outer s H vs Q E hr h => ?_)
  · obtain ⟨x, rfl, _⟩ := h
    rfl
  · obtain ⟨x, rfl, q⟩ := h
    exact ⟨_, (pss_one (ps_ret pe_str)), q⟩
theorem ok_Makestand (T : Tx K mg) : FnOk P w K mg base CX0 1 T.f_Makestand T.d_Makestand ["self", "begin", "now"] (spStandL .make) := by
  refine T.F_Makestand.ok sc_Makestand (fun vs H Q E h => ?_) (fun cdv A outer s H vs Q E hr h => ?_)
  · obtain ⟨x, b, n, rfl, _⟩ := h
    rfl
  · obtain ⟨x, b, n, rfl, q⟩ := h
    exact ⟨_, (pss_one (ps_ret (pv 1))), ⟨_, rfl, q⟩⟩
theorem ok_Makelate (T : Tx K mg) : FnOk P w K mg base CX0 1 T.f_Makelate T.d_Makelate ["self", "begin", "stamp"] (spLate .make) := by
  refine T.F_Makelate.ok sc_Makelate (fun vs H Q E h => ?_) (fun cdv A outer s H vs Q E hr h => ?_)
  · obtain ⟨x, b, n, rfl, _⟩ := h
    rfl
  · obtain ⟨x, b, n, rfl, q⟩ := h
    exact ⟨_, (pss_one (ps_ret (pe_cmpR op_gt (pv 2) (pv 1) (nomark _)))), ⟨_, rfl, _, rfl, _, _, rfl, rfl, q⟩⟩
theorem ok_Makespots (T : Tx K mg) : FnOk P w K mg base CX0 1 T.f_Makespots T.d_Makespots ["self", "looks"] (spSpotsL .make) := by
  refine T.F_Makespots.ok sc_Makespots (fun vs H Q E h => ?_) (fun cdv A outer s H vs Q E hr h => ?_)
  · obtain ⟨x, n, rfl, _⟩ := h
    rfl
  · obtain ⟨x, n, rfl, q⟩ := h
    exact ⟨_, (pss_one (ps_ret pe_int)), q⟩
theorem ok_Makelookspot (T : Tx K mg) : FnOk P w K mg base CX0 1 T.f_Makelookspot T.d_Makelookspot ["self", "place"] (spLookS .make) := by
  refine T.F_Makelookspot.ok sc_Makelookspot (fun vs H Q E h => ?_) (fun cdv A outer s H vs Q E hr h => ?_)
  · obtain ⟨x, n, rfl, _⟩ := h
    rfl
  · obtain ⟨x, n, rfl, q⟩ := h
    exact ⟨_, (pss_one (ps_ret pe_int)), q⟩
theorem ok_Makefirstspot (T : Tx K mg) : FnOk P w K mg base CX0 1 T.f_Makefirstspot T.d_Makefirstspot ["self", "looks"] (spFirstS .make) := by
  refine T.F_Makefirstspot.ok sc_Makefirstspot (fun vs H Q E h => ?_) (fun cdv A outer s H vs Q E hr h => ?_)
  · obtain ⟨x, n, rfl, _⟩ := h
    rfl
  · obtain ⟨x, n, rfl, q⟩ := h
    exact ⟨_, (pss_one (ps_ret pe_int)), q⟩
theorem ok_Makestamps (T : Tx K mg) : FnOk P w K mg base CX0 1 T.f_Makestamps T.d_Makestamps ["self", "begin", "stands", "end", "early"] (spStampsL .make) := by
  refine T.F_Makestamps.ok sc_Makestamps (fun vs H Q E h => ?_) (fun cdv A outer s H vs Q E hr h => ?_)
  · obtain ⟨x, b, st, e, soon, ns, rfl, _⟩ := h
    rfl
  · obtain ⟨x, b, st, e, soon, ns, rfl, hst, hz, q⟩ := h
    exact ⟨_, (pss_one (ps_ret (pe_lst (pa_cons (pv 1) (pa_cons (pv 3) pa_nil))))), ⟨_, rfl, _, rfl, (by show 2 ≤ sizeLine; decide), fun p hp => q p _ hp (Same.upd hp) upd_same⟩⟩
theorem ok_Watchword (T : Tx K mg) : FnOk P w K mg base CX0 1 T.f_Watchword T.d_Watchword ["self"] (spWord .watch) := by
  refine T.F_Watchword.ok sc_Watchword (fun vs H Q E h => ?_) (fun cdv A outer s H vs Q E hr h => ?_)
  · obtain ⟨x, rfl, _⟩ := h
    rfl
  · obtain ⟨x, rfl, q⟩ := h
    exact ⟨_, (pss_one (ps_ret pe_str)), q⟩
theorem ok_Watchwatches (T : Tx K mg) : FnOk P w K mg base CX0 1 T.f_Watchwatches T.d_Watchwatches ["self"] (spWat .watch) := by
  refine T.F_Watchwatches.ok sc_Watchwatches (fun vs H Q E h => ?_) (fun cdv A outer s H vs Q E hr h => ?_)
  · obtain ⟨x, rfl, _⟩ := h
    rfl
  · obtain ⟨x, rfl, q⟩ := h
    exact ⟨_, (pss_one (ps_ret pe_bl)), q⟩
theorem ok_Watchspots (T : Tx K mg) : FnOk P w K mg base CX0 1 T.f_Watchspots T.d_Watchspots ["self", "looks"] (spSpotsL .watch) := by
  refine T.F_Watchspots.ok sc_Watchspots (fun vs H Q E h => ?_) (fun cdv A outer s H vs Q E hr h => ?_)
  · obtain ⟨x, n, rfl, _⟩ := h
    rfl
  · obtain ⟨x, n, rfl, q⟩ := h
    exact ⟨_, (pss_one (ps_ret pe_int)), q⟩
theorem ok_Watchstamps (T : Tx K mg) : FnOk P w K mg base CX0 1 T.f_Watchstamps T.d_Watchstamps ["self", "begin", "stands", "end", "early"] (spStampsL .watch) := by
  refine T.F_Watchstamps.ok sc_Watchstamps (fun vs H Q E h => ?_) (fun cdv A outer s H vs Q E hr h => ?_)
  · obtain ⟨x, b, st, e, soon, ns, rfl, _⟩ := h
    rfl
  · obtain ⟨x, b, st, e, soon, ns, rfl, hst, hz, q⟩ := h
    refine ⟨_, (pss_one (ps_ret (pe_lst (pa_cons (pe_ifExp (pt_val (pv 4)) (pv 1) (pv 3)) pa_nil)))), ?_⟩
    cases soon with
    | true => exact ⟨_, rfl, _, rfl, iteT ⟨_, rfl, (by show 1 ≤ sizeLine; decide), fun p hp => q p _ hp (Same.upd hp) upd_same⟩⟩
    | false => exact ⟨_, rfl, _, rfl, iteF ⟨_, rfl, (by show 1 ≤ sizeLine; decide), fun p hp => q p _ hp (Same.upd hp) upd_same⟩⟩
theorem ok_Holdword (T : Tx K mg) : FnOk P w K mg base CX0 1 T.f_Holdword T.d_Holdword ["self"] (spWord .hold) := by
  refine T.F_Holdword.ok sc_Holdword (fun vs H Q E h => ?_) (fun cdv A outer s H vs Q E hr h => ?_)
  · obtain ⟨x, rfl, _⟩ := h
    rfl
  · obtain ⟨x, rfl, q⟩ := h
    exact ⟨_, (pss_one (ps_ret pe_str)), q⟩
theorem ok_Holdholdsasks (T : Tx K mg) : FnOk P w K mg base CX0 1 T.f_Holdholdsasks T.d_Holdholdsasks ["self"] (spHas .hold) := by
  refine T.F_Holdholdsasks.ok sc_Holdholdsasks (fun vs H Q E h => ?_) (fun cdv A outer s H vs Q E hr h => ?_)
  · obtain ⟨x, rfl, _⟩ := h
    rfl
  · obtain ⟨x, rfl, q⟩ := h
    exact ⟨_, (pss_one (ps_ret pe_bl)), q⟩
theorem ok_Holdspots (T : Tx K mg) : FnOk P w K mg base CX0 1 T.f_Holdspots T.d_Holdspots ["self", "looks"] (spSpotsL .hold) := by
  refine T.F_Holdspots.ok sc_Holdspots (fun vs H Q E h => ?_) (fun cdv A outer s H vs Q E hr h => ?_)
  · obtain ⟨x, n, rfl, _⟩ := h
    rfl
  · obtain ⟨x, n, rfl, q⟩ := h
    exact ⟨_, (pss_one (ps_ret pe_int)), q⟩
theorem ok_Holdlookspot (T : Tx K mg) : FnOk P w K mg base CX0 1 T.f_Holdlookspot T.d_Holdlookspot ["self", "place"] (spLookS .hold) := by
  refine T.F_Holdlookspot.ok sc_Holdlookspot (fun vs H Q E h => ?_) (fun cdv A outer s H vs Q E hr h => ?_)
  · obtain ⟨x, n, rfl, _⟩ := h
    rfl
  · obtain ⟨x, n, rfl, q⟩ := h
    exact ⟨_, (pss_one (ps_ret pe_int)), q⟩
theorem ok_Holdfirstspot (T : Tx K mg) : FnOk P w K mg base CX0 1 T.f_Holdfirstspot T.d_Holdfirstspot ["self", "looks"] (spFirstS .hold) := by
  refine T.F_Holdfirstspot.ok sc_Holdfirstspot (fun vs H Q E h => ?_) (fun cdv A outer s H vs Q E hr h => ?_)
  · obtain ⟨x, n, rfl, _⟩ := h
    rfl
  · obtain ⟨x, n, rfl, q⟩ := h
    exact ⟨_, (pss_one (ps_ret pe_int)), q⟩
theorem ok_Holdstamps (T : Tx K mg) : FnOk P w K mg base CX0 1 T.f_Holdstamps T.d_Holdstamps ["self", "begin", "stands", "end", "early"] (spStampsL .hold) := by
  refine T.F_Holdstamps.ok sc_Holdstamps (fun vs H Q E h => ?_) (fun cdv A outer s H vs Q E hr h => ?_)
  · obtain ⟨x, b, st, e, soon, ns, rfl, _⟩ := h
    rfl
  · obtain ⟨x, b, st, e, soon, ns, rfl, hst, hz, q⟩ := h
    exact ⟨_, (pss_one (ps_ret (pe_lst (pa_cons (pv 3) pa_nil)))), ⟨_, rfl, (by show 1 ≤ sizeLine; decide), fun p hp => q p _ hp (Same.upd hp) upd_same⟩⟩
theorem tb_word (T : Tx K mg) : ∀ l, ∃ f fd ps, Cls K (cO T l) ∧ Meth K (cO T l) "word" f ∧ FnOk P w K mg base CX0 1 f fd ps (spWord l) ∧ Binds K fd ps [] := by
  intro l
  cases l
  · exact ⟨_, _, _, T.cl_Loose, T.me_Loose_word, ok_Looseword T, T.b_Looseword⟩
  · exact ⟨_, _, _, T.cl_Kept, T.me_Kept_word, ok_Keptword T, T.b_Keptword⟩
  · exact ⟨_, _, _, T.cl_Make, T.me_Make_word, ok_Makeword T, T.b_Makeword⟩
  · exact ⟨_, _, _, T.cl_Watch, T.me_Watch_word, ok_Watchword T, T.b_Watchword⟩
  · exact ⟨_, _, _, T.cl_Hold, T.me_Hold_word, ok_Holdword T, T.b_Holdword⟩
theorem tb_stand (T : Tx K mg) : ∀ l, ∃ f fd ps, Cls K (cO T l) ∧ Meth K (cO T l) "stand" f ∧ FnOk P w K mg base CX0 1 f fd ps (spStandL l) ∧ Binds K fd ps [] := by
  intro l
  cases l
  · exact ⟨_, _, _, T.cl_Loose, T.me_Loose_stand, ok_Loosestand T, T.b_Loosestand⟩
  · exact ⟨_, _, _, T.cl_Kept, T.me_Kept_stand, ok_Loosestand T, T.b_Loosestand⟩
  · exact ⟨_, _, _, T.cl_Make, T.me_Make_stand, ok_Makestand T, T.b_Makestand⟩
  · exact ⟨_, _, _, T.cl_Watch, T.me_Watch_stand, ok_Makestand T, T.b_Makestand⟩
  · exact ⟨_, _, _, T.cl_Hold, T.me_Hold_stand, ok_Loosestand T, T.b_Loosestand⟩
theorem tb_late (T : Tx K mg) : ∀ l, ∃ f fd ps, Cls K (cO T l) ∧ Meth K (cO T l) "late" f ∧ FnOk P w K mg base CX0 1 f fd ps (spLate l) ∧ Binds K fd ps [] := by
  intro l
  cases l
  · exact ⟨_, _, _, T.cl_Loose, T.me_Loose_late, ok_Looselate T, T.b_Looselate⟩
  · exact ⟨_, _, _, T.cl_Kept, T.me_Kept_late, ok_Looselate T, T.b_Looselate⟩
  · exact ⟨_, _, _, T.cl_Make, T.me_Make_late, ok_Makelate T, T.b_Makelate⟩
  · exact ⟨_, _, _, T.cl_Watch, T.me_Watch_late, ok_Makelate T, T.b_Makelate⟩
  · exact ⟨_, _, _, T.cl_Hold, T.me_Hold_late, ok_Looselate T, T.b_Looselate⟩
theorem tb_unkept (T : Tx K mg) : ∀ l, ∃ f fd ps, Cls K (cO T l) ∧ Meth K (cO T l) "unkept" f ∧ FnOk P w K mg base CX0 1 f fd ps (spUnk l) ∧ Binds K fd ps [] := by
  intro l
  cases l
  · exact ⟨_, _, _, T.cl_Loose, T.me_Loose_unkept, ok_Looseunkept T, T.b_Looseunkept⟩
  · exact ⟨_, _, _, T.cl_Kept, T.me_Kept_unkept, ok_Keptunkept T, T.b_Keptunkept⟩
  · exact ⟨_, _, _, T.cl_Make, T.me_Make_unkept, ok_Keptunkept T, T.b_Keptunkept⟩
  · exact ⟨_, _, _, T.cl_Watch, T.me_Watch_unkept, ok_Keptunkept T, T.b_Keptunkept⟩
  · exact ⟨_, _, _, T.cl_Hold, T.me_Hold_unkept, ok_Keptunkept T, T.b_Keptunkept⟩
theorem tb_holds_asks (T : Tx K mg) : ∀ l, ∃ f fd ps, Cls K (cO T l) ∧ Meth K (cO T l) "holds_asks" f ∧ FnOk P w K mg base CX0 1 f fd ps (spHas l) ∧ Binds K fd ps [] := by
  intro l
  cases l
  · exact ⟨_, _, _, T.cl_Loose, T.me_Loose_holds_asks, ok_Looseholdsasks T, T.b_Looseholdsasks⟩
  · exact ⟨_, _, _, T.cl_Kept, T.me_Kept_holds_asks, ok_Looseholdsasks T, T.b_Looseholdsasks⟩
  · exact ⟨_, _, _, T.cl_Make, T.me_Make_holds_asks, ok_Looseholdsasks T, T.b_Looseholdsasks⟩
  · exact ⟨_, _, _, T.cl_Watch, T.me_Watch_holds_asks, ok_Looseholdsasks T, T.b_Looseholdsasks⟩
  · exact ⟨_, _, _, T.cl_Hold, T.me_Hold_holds_asks, ok_Holdholdsasks T, T.b_Holdholdsasks⟩
theorem tb_watches (T : Tx K mg) : ∀ l, ∃ f fd ps, Cls K (cO T l) ∧ Meth K (cO T l) "watches" f ∧ FnOk P w K mg base CX0 1 f fd ps (spWat l) ∧ Binds K fd ps [] := by
  intro l
  cases l
  · exact ⟨_, _, _, T.cl_Loose, T.me_Loose_watches, ok_Loosewatches T, T.b_Loosewatches⟩
  · exact ⟨_, _, _, T.cl_Kept, T.me_Kept_watches, ok_Loosewatches T, T.b_Loosewatches⟩
  · exact ⟨_, _, _, T.cl_Make, T.me_Make_watches, ok_Loosewatches T, T.b_Loosewatches⟩
  · exact ⟨_, _, _, T.cl_Watch, T.me_Watch_watches, ok_Watchwatches T, T.b_Watchwatches⟩
  · exact ⟨_, _, _, T.cl_Hold, T.me_Hold_watches, ok_Loosewatches T, T.b_Loosewatches⟩
theorem tb_spots (T : Tx K mg) : ∀ l, ∃ f fd ps, Cls K (cO T l) ∧ Meth K (cO T l) "spots" f ∧ FnOk P w K mg base CX0 1 f fd ps (spSpotsL l) ∧ Binds K fd ps [] := by
  intro l
  cases l
  · exact ⟨_, _, _, T.cl_Loose, T.me_Loose_spots, ok_Loosespots T, T.b_Loosespots⟩
  · exact ⟨_, _, _, T.cl_Kept, T.me_Kept_spots, ok_Keptspots T, T.b_Keptspots⟩
  · exact ⟨_, _, _, T.cl_Make, T.me_Make_spots, ok_Makespots T, T.b_Makespots⟩
  · exact ⟨_, _, _, T.cl_Watch, T.me_Watch_spots, ok_Watchspots T, T.b_Watchspots⟩
  · exact ⟨_, _, _, T.cl_Hold, T.me_Hold_spots, ok_Holdspots T, T.b_Holdspots⟩
theorem tb_look_spot (T : Tx K mg) : ∀ l, ∃ f fd ps, Cls K (cO T l) ∧ Meth K (cO T l) "look_spot" f ∧ FnOk P w K mg base CX0 1 f fd ps (spLookS l) ∧ Binds K fd ps [] := by
  intro l
  cases l
  · exact ⟨_, _, _, T.cl_Loose, T.me_Loose_look_spot, ok_Looselookspot T, T.b_Looselookspot⟩
  · exact ⟨_, _, _, T.cl_Kept, T.me_Kept_look_spot, ok_Keptlookspot T, T.b_Keptlookspot⟩
  · exact ⟨_, _, _, T.cl_Make, T.me_Make_look_spot, ok_Makelookspot T, T.b_Makelookspot⟩
  · exact ⟨_, _, _, T.cl_Watch, T.me_Watch_look_spot, ok_Makelookspot T, T.b_Makelookspot⟩
  · exact ⟨_, _, _, T.cl_Hold, T.me_Hold_look_spot, ok_Holdlookspot T, T.b_Holdlookspot⟩
theorem tb_first_spot (T : Tx K mg) : ∀ l, ∃ f fd ps, Cls K (cO T l) ∧ Meth K (cO T l) "first_spot" f ∧ FnOk P w K mg base CX0 1 f fd ps (spFirstS l) ∧ Binds K fd ps [] := by
  intro l
  cases l
  · exact ⟨_, _, _, T.cl_Loose, T.me_Loose_first_spot, ok_Loosefirstspot T, T.b_Loosefirstspot⟩
  · exact ⟨_, _, _, T.cl_Kept, T.me_Kept_first_spot, ok_Keptfirstspot T, T.b_Keptfirstspot⟩
  · exact ⟨_, _, _, T.cl_Make, T.me_Make_first_spot, ok_Makefirstspot T, T.b_Makefirstspot⟩
  · exact ⟨_, _, _, T.cl_Watch, T.me_Watch_first_spot, ok_Makefirstspot T, T.b_Makefirstspot⟩
  · exact ⟨_, _, _, T.cl_Hold, T.me_Hold_first_spot, ok_Holdfirstspot T, T.b_Holdfirstspot⟩
theorem tb_stamps (T : Tx K mg) : ∀ l, ∃ f fd ps, Cls K (cO T l) ∧ Meth K (cO T l) "stamps" f ∧ FnOk P w K mg base CX0 1 f fd ps (spStampsL l) ∧ Binds K fd ps [] := by
  intro l
  cases l
  · exact ⟨_, _, _, T.cl_Loose, T.me_Loose_stamps, ok_Loosestamps T, T.b_Loosestamps⟩
  · exact ⟨_, _, _, T.cl_Kept, T.me_Kept_stamps, ok_Keptstamps T, T.b_Keptstamps⟩
  · exact ⟨_, _, _, T.cl_Make, T.me_Make_stamps, ok_Makestamps T, T.b_Makestamps⟩
  · exact ⟨_, _, _, T.cl_Watch, T.me_Watch_stamps, ok_Watchstamps T, T.b_Watchstamps⟩
  · exact ⟨_, _, _, T.cl_Hold, T.me_Hold_stamps, ok_Holdstamps T, T.b_Holdstamps⟩
theorem kit_all (T : Tx K mg) : ∀ l m, PySem.W.kitOne K (.ref (cO T l)) (.ref (cO T m)) = some (kinB l m) := by
  intro l m
  cases l <;> cases m
  · exact T.kit_Loose_Loose
  · exact T.kit_Loose_Kept
  · exact T.kit_Loose_Make
  · exact T.kit_Loose_Watch
  · exact T.kit_Loose_Hold
  · exact T.kit_Kept_Loose
  · exact T.kit_Kept_Kept
  · exact T.kit_Kept_Make
  · exact T.kit_Kept_Watch
  · exact T.kit_Kept_Hold
  · exact T.kit_Make_Loose
  · exact T.kit_Make_Kept
  · exact T.kit_Make_Make
  · exact T.kit_Make_Watch
  · exact T.kit_Make_Hold
  · exact T.kit_Watch_Loose
  · exact T.kit_Watch_Kept
  · exact T.kit_Watch_Make
  · exact T.kit_Watch_Watch
  · exact T.kit_Watch_Hold
  · exact T.kit_Hold_Loose
  · exact T.kit_Hold_Kept
  · exact T.kit_Hold_Make
  · exact T.kit_Hold_Watch
  · exact T.kit_Hold_Hold
theorem ty_all (T : Tx K mg) {H : Hp} {a dx : Addr} : ∀ {l : Lv}, H a = some (.ins (cO T l) dx []) → TyOf K H (.ref a) (.ref (cO T l)) := by
  intro l h
  cases l
  · exact .ins h T.cl_Loose T.tc_Loose T.tg T.tt T.tm_Loose
  · exact .ins h T.cl_Kept T.tc_Kept T.tg T.tt T.tm_Kept
  · exact .ins h T.cl_Make T.tc_Make T.tg T.tt T.tm_Make
  · exact .ins h T.cl_Watch T.tc_Watch T.tg T.tt T.tm_Watch
  · exact .ins h T.cl_Hold T.tc_Hold T.tg T.tt T.tm_Hold
theorem ok_levelof (T : Tx K mg) : FnOk P w K mg base (CXW P w) 2 T.f_levelof T.d_levelof ["word"] (spLevelOf (cO T) T.c_NoLevel) := by
  refine fun_okW T.F_levelof sc_levelof (fun vs H Q E h => ?_) (fun cdv A outer s H vs Q E hr h => ?_)
  · obtain ⟨x, rfl, _⟩ := h
    rfl
  · obtain ⟨x, rfl, hl, hc, k, ke⟩ := h
    refine ⟨_, (pss_cons (ps_nox (ps_for PassesOwn.never rfl (pi_list (pe_lst (pa_cons (pe_newO T.mo_Loose rfl T.m_Loose) (pa_cons (pe_newO T.mo_Kept rfl T.m_Kept) (pa_cons (pe_newO T.mo_Make rfl T.m_Make) (pa_cons (pe_newO T.mo_Watch rfl T.m_Watch) (pa_cons (pe_newO T.mo_Hold rfl T.m_Hold) pa_nil))))))) (pg_name (i := 1) sc_levelof.nd rfl (Or.inl rfl))
      (pss_one (ps_if (pt_cmpR op_eq (pe_methT0 (pv 1) (tb_word T) (hr.mono (by decide))) (pv 0) (nomark _))
      (pss_one (ps_ret (pv 1)))
      pss_nil))))
      (pss_one (ps_raise T.x_NoLevel rfl (pe_fstrR (pv 0) (by decide +kernel))))), ?_⟩
    intro x1 d1 h1 e1 n1
    have s1 := Same.newO (C := T.c_Loose) h1 e1 n1
    have o1 := upd_same (H := upd H d1 (.own x1)) (a := x1) (o := HO.ins T.c_Loose d1 [])
    generalize upd (upd H d1 (.own x1)) x1 (.ins T.c_Loose d1 []) = H1 at s1 o1 ⊢
    intro x2 d2 h2 e2 n2
    have s2 := Same.newO (C := T.c_Kept) h2 e2 n2
    have o2 := upd_same (H := upd H1 d2 (.own x2)) (a := x2) (o := HO.ins T.c_Kept d2 [])
    generalize upd (upd H1 d2 (.own x2)) x2 (.ins T.c_Kept d2 []) = H2 at s2 o2 ⊢
    intro x3 d3 h3 e3 n3
    have s3 := Same.newO (C := T.c_Make) h3 e3 n3
    have o3 := upd_same (H := upd H2 d3 (.own x3)) (a := x3) (o := HO.ins T.c_Make d3 [])
    generalize upd (upd H2 d3 (.own x3)) x3 (.ins T.c_Make d3 []) = H3 at s3 o3 ⊢
    intro x4 d4 h4 e4 n4
    have s4 := Same.newO (C := T.c_Watch) h4 e4 n4
    have o4 := upd_same (H := upd H3 d4 (.own x4)) (a := x4) (o := HO.ins T.c_Watch d4 [])
    generalize upd (upd H3 d4 (.own x4)) x4 (.ins T.c_Watch d4 []) = H4 at s4 o4 ⊢
    intro x5 d5 h5 e5 n5
    have s5 := Same.newO (C := T.c_Hold) h5 e5 n5
    have o5 := upd_same (H := upd H4 d5 (.own x5)) (a := x5) (o := HO.ins T.c_Hold d5 [])
    generalize upd (upd H4 d5 (.own x5)) x5 (.ins T.c_Hold d5 []) = H5 at s5 o5 ⊢
    refine ⟨(by show 5 ≤ sizeLine; decide), fun p hp => ?_⟩
    have s6 := Same.upd (o := HO.lst [V.ref x1, .ref x2, .ref x3, .ref x4, .ref x5]) hp
    have hpl := upd_same (H := H5) (a := p) (o := HO.lst [V.ref x1, .ref x2, .ref x3, .ref x4, .ref x5])
    have SS : Same H (upd H5 p (.lst [V.ref x1, .ref x2, .ref x3, .ref x4, .ref x5])) := s1.trans (s2.trans (s3.trans (s4.trans (s5.trans s6))))
    replace o1 := s6 _ _ (s5 _ _ (s4 _ _ (s3 _ _ (s2 _ _ o1))))
    replace o2 := s6 _ _ (s5 _ _ (s4 _ _ (s3 _ _ o2)))
    replace o3 := s6 _ _ (s5 _ _ (s4 _ _ o3))
    replace o4 := s6 _ _ (s5 _ _ o4)
    replace o5 := s6 _ _ o5
    generalize upd H5 p (HO.lst [V.ref x1, .ref x2, .ref x3, .ref x4, .ref x5]) = H6 at hpl SS o1 o2 o3 o4 o5 ⊢
    clear s1 s2 s3 s4 s5 s6 h1 h2 h3 h4 h5 e1 e2 e3 e4 e5
    have at_ : ∀ (i : Nat) y, [V.ref x1, .ref x2, .ref x3, .ref x4, .ref x5][i]? = some y → ∃ l a dx, ix l = i ∧ y = V.ref a ∧ H6 a = some (.ins (cO T l) dx []) := fun i y hy => by
      match i, hy with
      | 0, hy => exact ⟨.loose, x1, d1, rfl, (Option.some.inj hy).symm, o1⟩
      | 1, hy => exact ⟨.kept, x2, d2, rfl, (Option.some.inj hy).symm, o2⟩
      | 2, hy => exact ⟨.make, x3, d3, rfl, (Option.some.inj hy).symm, o3⟩
      | 3, hy => exact ⟨.watch, x4, d4, rfl, (Option.some.inj hy).symm, o4⟩
      | 4, hy => exact ⟨.hold, x5, d5, rfl, (Option.some.inj hy).symm, o5⟩
      | n + 5, hy => simp at hy
    refine ⟨p, rfl, ⟨_, SqL.of hpl⟩, for_list (K := K) (a := p) (xs := [V.ref x1, .ref x2, .ref x3, .ref x4, .ref x5])
      (fun i σ Hn => Hn = H6 ∧ ∃ (y : Option V), σ = [some (.str x), y] ∧ ∀ l, ix l < i → x ≠ wd l)
      ⟨rfl, none, rfl, fun l h => absurd h (Nat.not_lt_zero _)⟩ (fun i σ Hn _ ⟨z, _⟩ => z ▸ SqL.of hpl) ?_ ?_⟩
    · rintro i y σ Hn hy ⟨z2, y0, rfl, hno⟩
      subst z2
      obtain ⟨l, a, dx, hix, rfl, ha⟩ := at_ i y hy
      refine ⟨_, rfl, a, l, dx, [], rfl, ha, rfl, _, rfl, _, rfl, rfl, _, rfl, ite2 (fun e => ?_) (fun e => ?_)⟩
      · exact ⟨_, rfl, k l (V.str.inj (of_decide_eq_true e)).symm a dx _ SS ha⟩
      · refine ⟨rfl, _, rfl, fun l' hl' => ?_⟩
        rcases Nat.lt_succ_iff_lt_or_eq.mp hl' with z | z
        · exact hno l' z
        · have : l' = l := by
            rw [← hix] at z
            cases l' <;> cases l <;> first | rfl | cases z
          rw [this]
          exact fun q => e (decide_eq_true (congrArg V.str q.symm))
    · rintro σ Hn ⟨z2, y0, rfl, hno⟩
      subst z2
      exact ⟨_, rfl, x, rfl, hc, by omega, fun r => ke (fun l => hno l (by show ix l < 5; cases l <;> decide)) _ SS⟩
theorem ok_Lcell (T : Tx K mg) : FnOk P w K mg base CX0 1 T.f_Lcell T.d_Lcell ["_law_script", "_law_k"] (spCell K) := by
  refine T.F_Lcell.ok sc_Lcell (fun vs H Q E h => ?_) (fun cdv A outer s H vs Q E hr h => ?_)
  · obtain ⟨a, ns, k, rfl, _⟩ := h
    rfl
  · obtain ⟨a, ns, k, rfl, hS, h0, h1, q⟩ := h
    refine ⟨_, (pss_cons (ps_if (pt_cmpR op_lt (pv 1) (pe_callB call_len (by rfl) T.z_len boot_len (pa_cons (pv 0) pa_nil)) (nomark _))
      (pss_one (ps_ret (pe_ix ix_list (pv 0) (pv 1) (fun _ _ => rfl))))
      pss_nil)
      (pss_cons (ps_set (i := 2) sc_Lcell.nd rfl (Or.inl rfl) (pe_op op_add (pe_op op_mul pe_int (pv 1)) pe_int))
      (pss_cons (ps_if (pt_cmpR op_gt (pe_callB call_len (by rfl) T.z_len boot_len (pa_cons (pv 0) pa_nil)) pe_int (nomark _))
      (pss_one (ps_set (i := 2) sc_Lcell.nd rfl (Or.inl rfl) (pe_op op_mod (pe_op op_add (pe_ix ix_list (pv 0) (pe_op op_mod (pe_op op_mul pe_int (pv 1)) (pe_callB call_len (by rfl) T.z_len boot_len (pa_cons (pv 0) pa_nil))) (fun _ _ => rfl)) (pe_op op_mul pe_int (pv 1))) pe_int)))
      pss_nil)
      (pss_one (ps_ret (pe_op op_mod (pe_op op_mul (pv 2) (pv 2)) pe_int)))))), ?_⟩
    refine ⟨_, rfl, _, rfl, _, _, rfl, .inl ⟨_, hS, rfl⟩, _, _, rfl, rfl, _, rfl, ite2 (fun e => ?_) (fun e => ?_)⟩
    · have e1 : k < ((ns.map V.int).length : Int) := of_decide_eq_true e
      obtain ⟨v, hv⟩ : ∃ v, atI (ns.map V.int) k = some v := atI_lt h0 e1
      obtain ⟨z, hz, rfl⟩ := List.mem_map.mp (atI_mem hv)
      exact ⟨_, rfl, _, rfl, a, _, _, _, rfl, rfl, hS, hv, q z⟩
    · refine ⟨_, rfl, _, _, rfl, rfl, .inl ⟨by decide, by decide⟩, _, _, rfl, rfl, ?_⟩
      refine ⟨_, rfl, _, _, rfl, .inl ⟨_, hS, rfl⟩, _, _, rfl, rfl, _, rfl, ite2 (fun e2 => ?_) (fun e2 => ?_)⟩
      · have e3 : (0 : Int) < ((ns.map V.int).length : Int) := of_decide_eq_true e2
        obtain ⟨v, hv⟩ : ∃ v, atI (ns.map V.int) (7 * k % ((ns.map V.int).length : Int)) = some v := atI_lt (Int.emod_nonneg _ (by omega)) (Int.emod_lt_of_pos _ e3)
        obtain ⟨z, hz, rfl⟩ := List.mem_map.mp (atI_mem hv)
        refine ⟨_, rfl, _, rfl, _, _, rfl, rfl, .inl ⟨by decide, by decide⟩, _, rfl, _, _, rfl, .inl ⟨_, hS, rfl⟩, _, _, rfl, rfl, e3, a, _, _, _, rfl, rfl, hS, hv, _, rfl, _, _, rfl, rfl, .inl ⟨by decide, by decide⟩, _, _, rfl, rfl, _, _, rfl, rfl, (by show (0 : Int) < 2147483647; decide), ?_⟩
        have m0 := Int.emod_nonneg (z + 7919 * k) (show (2147483647 : Int) ≠ 0 by decide)
        have m1 := Int.emod_lt_of_pos (z + 7919 * k) (show (0 : Int) < 2147483647 by decide)
        exact ⟨_, rfl, _, rfl, _, _, rfl, rfl, .inl ⟨by omega, by omega⟩, _, _, rfl, rfl, (by show (0 : Int) < 2147483629; decide), q _⟩
      · exact ⟨_, rfl, _, rfl, _, _, rfl, rfl, .inl ⟨by omega, by omega⟩, _, _, rfl, rfl, (by show (0 : Int) < 2147483629; decide), q _⟩
theorem ok_Lmix (T : Tx K mg) : FnOk P w K mg base CX0 1 T.f_Lmix T.d_Lmix ["_law_cell_here", "_law_k"] spMix := by
  refine T.F_Lmix.ok sc_Lmix (fun vs H Q E h => ?_) (fun cdv A outer s H vs Q E hr h => ?_)
  · obtain ⟨c, k, rfl, _⟩ := h
    rfl
  · obtain ⟨c, k, rfl, h0, h1, q⟩ := h
    refine ⟨_, (pss_cons (ps_set (i := 2) sc_Lmix.nd rfl (Or.inl rfl) (pe_op op_mod (pe_op op_add (pe_op op_add (pv 0) (pe_op op_mul pe_int (pv 1))) pe_int) pe_int))
      (pss_cons (ps_set (i := 2) sc_Lmix.nd rfl (Or.inl rfl) (pe_op op_mod (pe_op op_add (pe_op op_mul (pv 2) (pv 2)) (pe_op op_mul pe_int (pv 1))) pe_int))
      (pss_one (ps_ret (pe_op op_mod (pe_op op_add (pe_op op_add (pe_op op_mul (pv 2) (pv 2)) (pe_op op_mul pe_int (pv 2))) (pv 1)) pe_int))))), ?_⟩
    refine ⟨_, rfl, _, rfl, _, _, rfl, rfl, .inl ⟨by decide, by decide⟩, _, _, rfl, rfl, _, _, rfl, rfl, _, _, rfl, rfl, (by show (0 : Int) < 2147483647; decide), ?_⟩
    have m0 := Int.emod_nonneg (c + 7919 * k + 11) (show (2147483647 : Int) ≠ 0 by decide)
    have m1 := Int.emod_lt_of_pos (c + 7919 * k + 11) (show (0 : Int) < 2147483647 by decide)
    refine ⟨_, rfl, _, rfl, _, _, rfl, rfl, .inl ⟨by omega, by omega⟩, _, rfl, _, _, rfl, rfl, .inl ⟨by decide, by decide⟩, _, _, rfl, rfl, _, _, rfl, rfl, (by show (0 : Int) < 2147483629; decide), ?_⟩
    have m2 := Int.emod_nonneg ((c + 7919 * k + 11) % 2147483647 * ((c + 7919 * k + 11) % 2147483647) + 48271 * k) (show (2147483629 : Int) ≠ 0 by decide)
    have m3 := Int.emod_lt_of_pos ((c + 7919 * k + 11) % 2147483647 * ((c + 7919 * k + 11) % 2147483647) + 48271 * k) (show (0 : Int) < 2147483629 by decide)
    exact ⟨_, rfl, _, rfl, _, _, rfl, rfl, .inl ⟨by omega, by omega⟩, _, rfl, _, _, rfl, rfl, .inl ⟨by decide, by decide⟩, _, _, rfl, rfl, _, rfl, _, _, rfl, rfl, _, _, rfl, rfl, (by show (0 : Int) < 2147483587; decide), q _⟩
theorem ok_Ltruth (T : Tx K mg) : FnOk P w K mg base CX0 1 T.f_Ltruth T.d_Ltruth ["_law_found", "_law_due"] spTruth := by
  refine T.F_Ltruth.ok sc_Ltruth (fun vs H Q E h => ?_) (fun cdv A outer s H vs Q E hr h => ?_)
  · obtain ⟨b, rfl, _⟩ := h
    rfl
  · obtain ⟨b, rfl, q⟩ := h
    refine ⟨_, (pss_one (ps_ret (pe_and (pe_callB call_isi (by rfl) T.z_isinstance boot_isinstance (pa_cons (pv 0) (pa_cons (pe_bltn (v := V.ty "bool") rfl T.z_bool boot_bool rfl) pa_nil))) (pe_one (pe_cmpR op_eq (pv 0) (pv 1) (nomark _)))))), ?_⟩
    refine ⟨_, rfl, _, _, _, _, rfl, TyOf.bl _, kit_bb, true, rfl, iteT ⟨_, rfl, _, rfl, rfl, ?_⟩⟩
    rw [decide_eq_true rfl]
    exact q
theorem ok_Lnumber (T : Tx K mg) : FnOk P w K mg base CX0 1 T.f_Lnumber T.d_Lnumber ["_law_found", "_law_due"] spNumber := by
  refine T.F_Lnumber.ok sc_Lnumber (fun vs H Q E h => ?_) (fun cdv A outer s H vs Q E hr h => ?_)
  · obtain ⟨o, rfl, _⟩ := h
    rfl
  · obtain ⟨o, rfl, q⟩ := h
    refine ⟨_, (pss_cons (ps_if (pt_cmpR op_isN (pv 1) pe_non (nomark _))
      (pss_one (ps_ret (pe_cmpR op_isN (pv 0) pe_non (nomark _))))
      pss_nil)
      (pss_one (ps_ret (pe_and (pe_callB call_isi (by rfl) T.z_isinstance boot_isinstance (pa_cons (pv 0) (pa_cons (pe_bltn (v := V.ty "int") rfl T.z_int boot_int rfl) pa_nil))) (pe_and (pe_not (pe_callB call_isi (by rfl) T.z_isinstance boot_isinstance (pa_cons (pv 0) (pa_cons (pe_bltn (v := V.ty "bool") rfl T.z_bool boot_bool rfl) pa_nil)))) (pe_one (pe_cmpR op_eq (pv 0) (pv 1) (nomark _)))))))), ?_⟩
    cases o with
    | none => exact ⟨_, rfl, rfl, _, rfl, iteDT rfl ⟨_, rfl, rfl, q⟩⟩
    | some z =>
      refine ⟨_, rfl, rfl, _, rfl, iteDF (fun e => by cases e) ?_⟩
      refine ⟨_, rfl, _, _, _, _, rfl, TyOf.int _, kit_ii, true, rfl, iteT ?_⟩
      refine ⟨_, rfl, _, _, _, _, rfl, TyOf.int _, kit_ib, false, rfl, true, rfl, iteT ?_⟩
      refine ⟨_, rfl, _, rfl, rfl, ?_⟩
      show Q (V.bl (decide (V.int z = V.int z))) H
      rw [decide_eq_true rfl]
      exact q
theorem ok_Lkin (T : Tx K mg) : FnOk P w K mg base CX0 1 T.f_Lkin T.d_Lkin ["_law_level"] (spKin (cO T)) := by
  refine T.F_Lkin.ok sc_Lkin (fun vs H Q E h => ?_) (fun cdv A outer s H vs Q E hr h => ?_)
  · obtain ⟨a, dx, l, rfl, _⟩ := h
    rfl
  · obtain ⟨a, dx, l, rfl, ha, q⟩ := h
    refine ⟨_, (pss_one (ps_ret (pe_lst (pa_cons (pe_callB (call_isO (K := K) rfl) (by rfl) T.z_isinstance boot_isinstance (pa_cons (pv 0) (pa_cons (pe_glob (v := V.ref T.c_Loose) rfl T.m_Loose rfl) pa_nil))) (pa_cons (pe_callB (call_isO (K := K) rfl) (by rfl) T.z_isinstance boot_isinstance (pa_cons (pv 0) (pa_cons (pe_glob (v := V.ref T.c_Kept) rfl T.m_Kept rfl) pa_nil))) (pa_cons (pe_callB (call_isO (K := K) rfl) (by rfl) T.z_isinstance boot_isinstance (pa_cons (pv 0) (pa_cons (pe_glob (v := V.ref T.c_Make) rfl T.m_Make rfl) pa_nil))) (pa_cons (pe_callB (call_isO (K := K) rfl) (by rfl) T.z_isinstance boot_isinstance (pa_cons (pv 0) (pa_cons (pe_glob (v := V.ref T.c_Watch) rfl T.m_Watch rfl) pa_nil))) (pa_cons (pe_callB (call_isO (K := K) rfl) (by rfl) T.z_isinstance boot_isinstance (pa_cons (pv 0) (pa_cons (pe_glob (v := V.ref T.c_Hold) rfl T.m_Hold rfl) pa_nil))) pa_nil)))))))), ?_⟩
    have ty := ty_all T ha
    have kt := kit_all T l
    refine ⟨_, rfl, _, _, _, _, rfl, ty, kt .loose, ?_⟩
    refine ⟨_, rfl, _, _, _, _, rfl, ty, kt .kept, ?_⟩
    refine ⟨_, rfl, _, _, _, _, rfl, ty, kt .make, ?_⟩
    refine ⟨_, rfl, _, _, _, _, rfl, ty, kt .watch, ?_⟩
    refine ⟨_, rfl, _, _, _, _, rfl, ty, kt .hold, ?_⟩
    exact ⟨(by show 5 ≤ sizeLine; decide), fun p hp => q p _ hp (Same.upd hp) upd_same⟩
theorem ok_Ltruths (T : Tx K mg) : FnOk P w K mg base CX0 2 T.f_Ltruths T.d_Ltruths ["_law_level", "_law_word", "_law_begin", "_law_stamp"] (spTruths (cO T)) := by
  refine T.F_Ltruths.ok sc_Ltruths (fun vs H Q E h => ?_) (fun cdv A outer s H vs Q E hr h => ?_)
  · obtain ⟨a, dx, l, b, n, rfl, _⟩ := h
    rfl
  · obtain ⟨a, dx, l, b, n, rfl, ha, q⟩ := h
    refine ⟨_, (pss_cons (ps_set (i := 4) sc_Ltruths.nd rfl (Or.inl rfl) (pe_and (pe_cmpR op_in_seq (pv 1) (pe_tup (pa_cons pe_str (pa_cons pe_str pa_nil))) rfl) (pe_one (pe_cmpR op_lt (pv 2) (pv 3) (nomark _)))))
      (pss_cons (ps_if (PW.pt (pw_or (pt_not (pt_val (pe_call ((ok_Ltruth T).mono (by decide)) hr rfl T.m_Ltruth T.F_Ltruth.kp T.b_Ltruth .nil pass0 (pa_cons (pe_methT (pv 0) (tb_late T) (hr.mono (by decide)) (pa_cons (pv 2) (pa_cons (pv 3) pa_nil))) (pa_cons (pv 4) pa_nil))))) (pw_or1 (pt_not (pt_val (pe_call ((ok_Ltruth T).mono (by decide)) hr rfl T.m_Ltruth T.F_Ltruth.kp T.b_Ltruth .nil pass0 (pa_cons (pe_methT0 (pv 0) (tb_unkept T) (hr.mono (by decide))) (pa_cons (pe_cmpR op_eq (pv 1) pe_str (nomark _)) pa_nil))))))))
      (pss_one (ps_ret pe_bl))
      pss_nil)
      (pss_one (ps_ret (pe_and (pe_call ((ok_Ltruth T).mono (by decide)) hr rfl T.m_Ltruth T.F_Ltruth.kp T.b_Ltruth .nil pass0 (pa_cons (pe_methT0 (pv 0) (tb_holds_asks T) (hr.mono (by decide))) (pa_cons (pe_cmpR op_eq (pv 1) pe_str (nomark _)) pa_nil))) (pe_one (pe_call ((ok_Ltruth T).mono (by decide)) hr rfl T.m_Ltruth T.F_Ltruth.kp T.b_Ltruth .nil pass0 (pa_cons (pe_methT0 (pv 0) (tb_watches T) (hr.mono (by decide))) (pa_cons (pe_cmpR op_eq (pv 1) pe_str (nomark _)) pa_nil))))))))), ?_⟩
    refine ⟨_, rfl, (by show 2 ≤ sizeLine; decide), fun p hp => ?_⟩
    have s1 := Same.upd (o := HO.tup [V.str "make", .str "watch"]) hp
    refine ⟨p, [V.str "make", .str "watch"], rfl, .inr (SqT.of upd_same), rfl, rfl, mkw l, congrArg V.bl (w_is l).2.2.2, ite2 (fun e => ?_) (fun e => ?_)⟩
    · refine ⟨_, rfl, _, rfl, _, _, rfl, rfl, ?_⟩
      have lt : decide (b < n) = lateL l b n := by cases l <;> first | rfl | cases e
      refine ⟨_, rfl, a, l, dx, [], rfl, s1 _ _ ha, rfl, _, rfl, _, rfl, _, b, n, rfl, _, rfl, lateL l b n, congrArg (fun z => [V.bl (lateL l b n), V.bl z]) lt, _, rfl, iteF ?_⟩
      refine ⟨_, rfl, a, l, dx, [], rfl, s1 _ _ ha, rfl, _, rfl, _, rfl, rfl, unkL l, congrArg (fun z => [V.bl (unkL l), V.bl z]) (w_is l).1, _, rfl, iteF ?_⟩
      refine ⟨_, rfl, a, l, dx, [], rfl, s1 _ _ ha, rfl, _, rfl, _, rfl, rfl, hasL l, congrArg (fun z => [V.bl (hasL l), V.bl z]) (w_is l).2.1, true, rfl, iteT ?_⟩
      exact ⟨_, rfl, a, l, dx, [], rfl, s1 _ _ ha, rfl, _, rfl, _, rfl, rfl, watL l, congrArg (fun z => [V.bl (watL l), V.bl z]) (w_is l).2.2.1, q _ s1⟩
    · have lt : false = lateL l b n := by cases l <;> first | rfl | exact absurd rfl e
      refine ⟨_, rfl, a, l, dx, [], rfl, s1 _ _ ha, rfl, _, rfl, _, rfl, _, b, n, rfl, _, rfl, lateL l b n, congrArg (fun z => [V.bl (lateL l b n), V.bl z]) lt, _, rfl, iteF ?_⟩
      refine ⟨_, rfl, a, l, dx, [], rfl, s1 _ _ ha, rfl, _, rfl, _, rfl, rfl, unkL l, congrArg (fun z => [V.bl (unkL l), V.bl z]) (w_is l).1, _, rfl, iteF ?_⟩
      refine ⟨_, rfl, a, l, dx, [], rfl, s1 _ _ ha, rfl, _, rfl, _, rfl, rfl, hasL l, congrArg (fun z => [V.bl (hasL l), V.bl z]) (w_is l).2.1, true, rfl, iteT ?_⟩
      exact ⟨_, rfl, a, l, dx, [], rfl, s1 _ _ ha, rfl, _, rfl, _, rfl, rfl, watL l, congrArg (fun z => [V.bl (watL l), V.bl z]) (w_is l).2.2.1, q _ s1⟩
theorem ok_Lspots (T : Tx K mg) : FnOk P w K mg base CX0 2 T.f_Lspots T.d_Lspots ["_law_level", "_law_word", "_law_looks", "_law_place"] (spSpots (cO T)) := by
  refine T.F_Lspots.ok sc_Lspots (fun vs H Q E h => ?_) (fun cdv A outer s H vs Q E hr h => ?_)
  · obtain ⟨a, dx, l, n, p, rfl, _⟩ := h
    rfl
  · obtain ⟨a, dx, l, n, p, rfl, ha, q⟩ := h
    refine ⟨_, (pss_cons (ps_set (i := 4) sc_Lspots.nd rfl (Or.inl rfl) pe_int)
      (pss_cons (ps_set (i := 5) sc_Lspots.nd rfl (Or.inl rfl) pe_int)
      (pss_cons (ps_set (i := 6) sc_Lspots.nd rfl (Or.inl rfl) pe_int)
      (pss_cons (ps_if (pt_cmpR op_eq (pv 1) pe_str (nomark _))
      (pss_one (ps_set (i := 5) sc_Lspots.nd rfl (Or.inl rfl) pe_non))
      pss_nil)
      (pss_cons (ps_if (pt_cmpR op_eq (pv 1) pe_str (nomark _))
      (pss_cons (ps_set (i := 4) sc_Lspots.nd rfl (Or.inl rfl) (pe_op op_add (pv 2) pe_int))
      (pss_cons (ps_set (i := 5) sc_Lspots.nd rfl (Or.inl rfl) (pv 3))
      (pss_one (ps_set (i := 6) sc_Lspots.nd rfl (Or.inl rfl) (pv 2)))))
      pss_nil)
      (pss_cons (ps_if (pt_cmpR op_eq (pv 1) pe_str (nomark _))
      (pss_one (ps_set (i := 4) sc_Lspots.nd rfl (Or.inl rfl) pe_int))
      pss_nil)
      (pss_cons (ps_if (PW.pt (pw_or (pt_not (pt_val (pe_call ((ok_Lnumber T).mono (by decide)) hr rfl T.m_Lnumber T.F_Lnumber.kp T.b_Lnumber .nil pass0 (pa_cons (pe_methT (pv 0) (tb_spots T) (hr.mono (by decide)) (pa_cons (pv 2) pa_nil)) (pa_cons (pv 4) pa_nil))))) (pw_or1 (pt_not (pt_val (pe_call ((ok_Lnumber T).mono (by decide)) hr rfl T.m_Lnumber T.F_Lnumber.kp T.b_Lnumber .nil pass0 (pa_cons (pe_methT (pv 0) (tb_first_spot T) (hr.mono (by decide)) (pa_cons (pv 2) pa_nil)) (pa_cons (pv 6) pa_nil))))))))
      (pss_one (ps_ret pe_bl))
      pss_nil)
      (pss_one (ps_ret (pe_call ((ok_Lnumber T).mono (by decide)) hr rfl T.m_Lnumber T.F_Lnumber.kp T.b_Lnumber .nil pass0 (pa_cons (pe_methT (pv 0) (tb_look_spot T) (hr.mono (by decide)) (pa_cons (pv 3) pa_nil)) (pa_cons (pv 5) pa_nil)))))))))))), ?_⟩
    have ne : ∀ l m : Lv, ix l ≠ ix m → V.str (wd l) ≠ V.str (wd m) := by intro l m; cases l <;> cases m <;> decide +kernel
    cases l with
    | loose =>
      refine ⟨_, rfl, rfl, _, rfl, iteDT rfl ⟨_, rfl, rfl, _, rfl, iteDF (ne .loose .kept (by decide)) ⟨_, rfl, rfl, _, rfl, iteDF (ne .loose .make (by decide)) ?_⟩⟩⟩
      refine ⟨_, rfl, a, .loose, dx, [], rfl, ha, rfl, _, rfl, _, n, rfl, _, rfl, some (1), rfl, _, rfl, iteF ?_⟩
      refine ⟨_, rfl, a, .loose, dx, [], rfl, ha, rfl, _, rfl, _, n, rfl, _, rfl, some (0), rfl, _, rfl, iteF ?_⟩
      exact ⟨_, rfl, a, .loose, dx, [], rfl, ha, rfl, _, rfl, _, p, rfl, _, rfl, none, rfl, q⟩
    | kept =>
      refine ⟨_, rfl, rfl, _, rfl, iteDF (ne .kept .loose (by decide)) ⟨_, rfl, rfl, _, rfl, iteDT rfl ⟨_, rfl, _, _, rfl, rfl, _, rfl, _, rfl, _, rfl, rfl, _, rfl, iteDF (ne .kept .make (by decide)) ?_⟩⟩⟩
      refine ⟨_, rfl, a, .kept, dx, [], rfl, ha, rfl, _, rfl, _, n, rfl, _, rfl, some (n + 1), rfl, _, rfl, iteF ?_⟩
      refine ⟨_, rfl, a, .kept, dx, [], rfl, ha, rfl, _, rfl, _, n, rfl, _, rfl, some (n), rfl, _, rfl, iteF ?_⟩
      exact ⟨_, rfl, a, .kept, dx, [], rfl, ha, rfl, _, rfl, _, p, rfl, _, rfl, some p, rfl, q⟩
    | make =>
      refine ⟨_, rfl, rfl, _, rfl, iteDF (ne .make .loose (by decide)) ⟨_, rfl, rfl, _, rfl, iteDF (ne .make .kept (by decide)) ⟨_, rfl, rfl, _, rfl, iteDT rfl ?_⟩⟩⟩
      refine ⟨_, rfl, a, .make, dx, [], rfl, ha, rfl, _, rfl, _, n, rfl, _, rfl, some (2), rfl, _, rfl, iteF ?_⟩
      refine ⟨_, rfl, a, .make, dx, [], rfl, ha, rfl, _, rfl, _, n, rfl, _, rfl, some (0), rfl, _, rfl, iteF ?_⟩
      exact ⟨_, rfl, a, .make, dx, [], rfl, ha, rfl, _, rfl, _, p, rfl, _, rfl, some 0, rfl, q⟩
    | watch =>
      refine ⟨_, rfl, rfl, _, rfl, iteDF (ne .watch .loose (by decide)) ⟨_, rfl, rfl, _, rfl, iteDF (ne .watch .kept (by decide)) ⟨_, rfl, rfl, _, rfl, iteDF (ne .watch .make (by decide)) ?_⟩⟩⟩
      refine ⟨_, rfl, a, .watch, dx, [], rfl, ha, rfl, _, rfl, _, n, rfl, _, rfl, some (1), rfl, _, rfl, iteF ?_⟩
      refine ⟨_, rfl, a, .watch, dx, [], rfl, ha, rfl, _, rfl, _, n, rfl, _, rfl, some (0), rfl, _, rfl, iteF ?_⟩
      exact ⟨_, rfl, a, .watch, dx, [], rfl, ha, rfl, _, rfl, _, p, rfl, _, rfl, some 0, rfl, q⟩
    | hold =>
      refine ⟨_, rfl, rfl, _, rfl, iteDF (ne .hold .loose (by decide)) ⟨_, rfl, rfl, _, rfl, iteDF (ne .hold .kept (by decide)) ⟨_, rfl, rfl, _, rfl, iteDF (ne .hold .make (by decide)) ?_⟩⟩⟩
      refine ⟨_, rfl, a, .hold, dx, [], rfl, ha, rfl, _, rfl, _, n, rfl, _, rfl, some (1), rfl, _, rfl, iteF ?_⟩
      refine ⟨_, rfl, a, .hold, dx, [], rfl, ha, rfl, _, rfl, _, n, rfl, _, rfl, some (0), rfl, _, rfl, iteF ?_⟩
      exact ⟨_, rfl, a, .hold, dx, [], rfl, ha, rfl, _, rfl, _, p, rfl, _, rfl, some 0, rfl, q⟩
theorem ok_Lstamps (T : Tx K mg) : FnOk P w K mg base CX0 2 T.f_Lstamps T.d_Lstamps ["_law_level", "_law_word", "_law_begin", "_law_stands", "_law_end", "_law_soon"] (spStamps (cO T)) := by
  refine T.F_Lstamps.ok sc_Lstamps (fun vs H Q E h => ?_) (fun cdv A outer s H vs Q E hr h => ?_)
  · obtain ⟨a, dx, st, l, b, e, ns, soon, rfl, _⟩ := h
    rfl
  · obtain ⟨a, dx, st, l, b, e, ns, soon, rfl, ha, hst, hz, q⟩ := h
    refine ⟨_, (pss_cons (ps_set (i := 6) sc_Lstamps.nd rfl (Or.inl rfl) (pe_lst (pa_cons (pv 4) pa_nil)))
      (pss_cons (ps_if (pt_cmpR op_eq (pv 1) pe_str (nomark _))
      (pss_one (ps_set (i := 6) sc_Lstamps.nd rfl (Or.inl rfl) (pe_op op_cat (pv 3) (pe_lst (pa_cons (pv 4) pa_nil)))))
      pss_nil)
      (pss_cons (ps_if (pt_cmpR op_eq (pv 1) pe_str (nomark _))
      (pss_one (ps_set (i := 6) sc_Lstamps.nd rfl (Or.inl rfl) (pe_lst (pa_cons (pv 2) (pa_cons (pv 4) pa_nil)))))
      pss_nil)
      (pss_cons (ps_if (PW.pt (pw_and (pt_cmpR op_eq (pv 1) pe_str (nomark _)) (pw_and1 (pt_val (pv 5)))))
      (pss_one (ps_set (i := 6) sc_Lstamps.nd rfl (Or.inl rfl) (pe_lst (pa_cons (pv 2) pa_nil))))
      pss_nil)
      (pss_cons (ps_set (i := 7) sc_Lstamps.nd rfl (Or.inl rfl) (pe_callTy call_list_of (by rfl) T.z_list boot_list (pa_cons (pv 3) pa_nil)))
      (pss_cons (ps_set (i := 8) sc_Lstamps.nd rfl (Or.inl rfl) (pe_methT (pv 0) (tb_stamps T) (hr.mono (by decide)) (pa_cons (pv 2) (pa_cons (pv 7) (pa_cons (pv 4) (pa_cons (pv 5) pa_nil))))))
      (pss_cons (ps_if (PW.pt (pw_or (pt_not (pt_val (pe_callB call_isi (by rfl) T.z_isinstance boot_isinstance (pa_cons (pv 8) (pa_cons (pe_bltn (v := V.ty "list") rfl T.z_list boot_list rfl) pa_nil))))) (pw_or (pt_cmpR op_ne (pe_callB call_len (by rfl) T.z_len boot_len (pa_cons (pv 8) pa_nil)) (pe_callB call_len (by rfl) T.z_len boot_len (pa_cons (pv 6) pa_nil)) (nomark _)) (pw_or1 (pt_cmpR (op_neS hr.units) (pv 7) (pv 3) (nomark _))))))
      (pss_one (ps_ret pe_bl))
      pss_nil)
      (pss_cons (ps_for PassesOwn.never rfl (pi_zip rfl T.z_zip (pa_cons (pv 8) (pa_cons (pv 6) pa_nil))) (pg_tup rfl (pgs_cons (pg_name (i := 9) sc_Lstamps.nd rfl (Or.inl rfl)) (pgs_cons (pg_name (i := 10) sc_Lstamps.nd rfl (Or.inl rfl)) pgs_nil)))
      (pss_one (ps_if (pt_not (pt_val (pe_call ((ok_Lnumber T).mono (by decide)) hr rfl T.m_Lnumber T.F_Lnumber.kp T.b_Lnumber .nil pass0 (pa_cons (pv 9) (pa_cons (pv 10) pa_nil)))))
      (pss_one (ps_ret pe_bl))
      pss_nil)))
      (pss_cons (ps_expr (pe_bm PySem.F.plainAttrs_list PySem.F.slot_list_append PySem.F.type_list_append mt_appendA (pv 8) (pa_cons pe_int pa_nil)))
      (pss_one (ps_ret (pe_cmpR (op_eqS hr.units) (pv 7) (pv 3) (nomark _))))))))))))), ?_⟩
    have ne : ∀ l m : Lv, ix l ≠ ix m → V.str (wd l) ≠ V.str (wd m) := by intro l m; cases l <;> cases m <;> decide +kernel
    refine ⟨_, rfl, (by show 1 ≤ sizeLine; decide), fun dl h0 => ?_⟩
    have sd := Same.upd (o := HO.lst [V.int e]) h0
    have hdl := upd_same (H := H) (a := dl) (o := HO.lst [V.int e])
    generalize upd H dl (HO.lst [V.int e]) = Hd at sd hdl ⊢
    cases l with
    | loose =>
      refine ⟨_, rfl, rfl, _, rfl, iteDF (ne .loose .kept (by decide)) ⟨_, rfl, rfl, _, rfl, iteDF (ne .loose .make (by decide)) ⟨_, rfl, rfl, _, rfl, iteDF (ne .loose .watch (by decide)) (iteF ?_)⟩⟩⟩
      refine ⟨_, rfl, st, _, rfl, .inl (SqL.of (sd _ _ hst)), fun hh g => ?_⟩
      have y1 := Same.upd (o := HO.lst (ns.map V.int)) g
      have hhh := upd_same (H := Hd) (a := hh) (o := HO.lst (ns.map V.int))
      have hst1 := y1 _ _ (sd _ _ hst)
      have ha1 := y1 _ _ (sd _ _ ha)
      have hdl1 := y1 _ _ hdl
      have S1 := sd.trans y1
      clear y1 g
      generalize upd Hd hh (HO.lst (ns.map V.int)) = He at hhh hst1 ha1 hdl1 S1 ⊢
      refine ⟨_, rfl, a, .loose, dx, [], rfl, ha1, rfl, _, rfl, _, rfl, _, rfl, _, rfl, _, b, hh, e, soon, ns, rfl, hhh, hz, fun f Hf hf sf hfl => ?_⟩
      refine ⟨_, rfl, _, _, _, _, rfl, TyOf.lst hfl, kit_ll, _, rfl, iteF ?_⟩
      refine ⟨_, rfl, _, _, rfl, .inl ⟨_, SqL.of hfl, rfl⟩, _, rfl, _, _, rfl, .inl ⟨_, SqL.of (sf _ _ hdl1), rfl⟩, rfl, _, rfl, iteNS rfl ?_⟩
      refine ⟨_, rfl, _, rfl, _, _, .lst (SqL.of (sf _ _ hhh)) (dts_ints _), .lst (SqL.of (sf _ _ hst1)) (dts_ints _), shaped_ints _, shaped_ints _, _, rfl, ?_⟩
      rw [eqv_ints]
      refine iteF ?_
      have nf1 : hh ≠ f := fun z => by rw [← z, hhh] at hf; cases hf
      have nf2 : st ≠ f := fun z => by rw [← z, hst1] at hf; cases hf
      refine ⟨_, rfl, _, rfl, _, _, _, _, rfl, .list (SqL.of hfl), .list (SqL.of (sf _ _ hdl1)), ?_⟩
      refine for_zip (xs := (stampsL .loose b ns e soon).map V.int) (ys := (stampsL .loose b ns e soon).map V.int) (fun i σ Hn => Same Hf Hn ∧ ∃ (x9 x10 : Option V), σ = [some (.ref a), some (.str (wd .loose)), some (.int b), some (.ref st), some (.int e), some (.bl soon), some (.ref dl), some (.ref hh), some (.ref f), x9, x10]) ⟨Same.refl _, none, none, rfl⟩ (fun i σ Hn ⟨sn, _⟩ => ⟨gives_list (SqL.of (sn _ _ hfl)), gives_list (SqL.of (sn _ _ (sf _ _ hdl1)))⟩) ?_ ?_
      · rintro i x1 y1 σ Hn pz hi hj ⟨sn, x9, x10, rfl⟩ hpz
        have exy : x1 = y1 := Option.some.inj (hi.symm.trans hj)
        subst exy
        obtain ⟨z, rfl, _⟩ := int_of_map hi
        refine ⟨pz, _, rfl, SqT.of upd_same, rfl, _, _, rfl, _, _, rfl, rfl, ?_⟩
        exact ⟨_, rfl, _, rfl, some z, rfl, _, rfl, iteF ⟨sn.trans (Same.upd hpz), _, _, rfl⟩⟩
      · rintro σ Hn ⟨sn, x9, x10, rfl⟩
        have z1 := stamps_len .loose b ns e soon
        have z2 : (50 : Nat) < sizeLine := by decide
        refine ⟨_, rfl, .inl ⟨rfl, _, SqL.of (sn _ _ hfl)⟩, f, _, _, rfl, rfl, sn _ _ hfl, (by rw [List.length_map]; omega), fun Hm hm km => ?_⟩
        have hh9 := km _ _ nf1 (sn _ _ (sf _ _ hhh))
        have st9 := km _ _ nf2 (sn _ _ (sf _ _ hst1))
        refine ⟨_, rfl, _, rfl, _, _, .lst (SqL.of hh9) (dts_ints _), .lst (SqL.of st9) (dts_ints _), shaped_ints _, shaped_ints _, ?_⟩
        rw [eqv_ints]
        exact q Hm fun bb o eb => km _ _ (fun z => by have y := S1 _ _ eb; rw [z, hf] at y; cases y) (sn _ _ (sf _ _ (S1 _ _ eb)))
    | kept =>
      have z50 : (50 : Nat) ≤ sizeLine := by decide
      refine ⟨_, rfl, rfl, _, rfl, iteDT rfl ⟨_, rfl, _, rfl, (by show 1 ≤ sizeLine; decide), fun p1 h1 => ?_⟩⟩
      have y1 := Same.upd (o := HO.lst [V.int e]) h1
      refine ⟨st, p1, _, _, rfl, rfl, y1 _ _ (sd _ _ hst), upd_same, (by rw [List.length_map]; show _ + 1 ≤ _; omega), fun dl h2 => ?_⟩
      have y2 := Same.upd (o := HO.lst (ns.map V.int ++ [V.int e])) h2
      replace sd := sd.trans (y1.trans y2)
      have hdl : upd (upd Hd p1 (HO.lst [V.int e])) dl (HO.lst (ns.map V.int ++ [V.int e])) dl = some (.lst ((stampsL .kept b ns e soon).map V.int)) := by
        rw [upd_same]
        show _ = some (HO.lst ((ns ++ [e]).map V.int))
        rw [List.map_append]
        rfl
      generalize upd (upd Hd p1 (HO.lst [V.int e])) dl (HO.lst (ns.map V.int ++ [V.int e])) = Hd at sd hdl ⊢
      refine ⟨_, rfl, rfl, _, rfl, iteDF (ne .kept .make (by decide)) ⟨_, rfl, rfl, _, rfl, iteDF (ne .kept .watch (by decide)) (iteF ?_)⟩⟩
      refine ⟨_, rfl, st, _, rfl, .inl (SqL.of (sd _ _ hst)), fun hh g => ?_⟩
      have y1 := Same.upd (o := HO.lst (ns.map V.int)) g
      have hhh := upd_same (H := Hd) (a := hh) (o := HO.lst (ns.map V.int))
      have hst1 := y1 _ _ (sd _ _ hst)
      have ha1 := y1 _ _ (sd _ _ ha)
      have hdl1 := y1 _ _ hdl
      have S1 := sd.trans y1
      clear y1 g
      generalize upd Hd hh (HO.lst (ns.map V.int)) = He at hhh hst1 ha1 hdl1 S1 ⊢
      refine ⟨_, rfl, a, .kept, dx, [], rfl, ha1, rfl, _, rfl, _, rfl, _, rfl, _, rfl, _, b, hh, e, soon, ns, rfl, hhh, hz, fun f Hf hf sf hfl => ?_⟩
      refine ⟨_, rfl, _, _, _, _, rfl, TyOf.lst hfl, kit_ll, _, rfl, iteF ?_⟩
      refine ⟨_, rfl, _, _, rfl, .inl ⟨_, SqL.of hfl, rfl⟩, _, rfl, _, _, rfl, .inl ⟨_, SqL.of (sf _ _ hdl1), rfl⟩, rfl, _, rfl, iteNS rfl ?_⟩
      refine ⟨_, rfl, _, rfl, _, _, .lst (SqL.of (sf _ _ hhh)) (dts_ints _), .lst (SqL.of (sf _ _ hst1)) (dts_ints _), shaped_ints _, shaped_ints _, _, rfl, ?_⟩
      rw [eqv_ints]
      refine iteF ?_
      have nf1 : hh ≠ f := fun z => by rw [← z, hhh] at hf; cases hf
      have nf2 : st ≠ f := fun z => by rw [← z, hst1] at hf; cases hf
      refine ⟨_, rfl, _, rfl, _, _, _, _, rfl, .list (SqL.of hfl), .list (SqL.of (sf _ _ hdl1)), ?_⟩
      refine for_zip (xs := (stampsL .kept b ns e soon).map V.int) (ys := (stampsL .kept b ns e soon).map V.int) (fun i σ Hn => Same Hf Hn ∧ ∃ (x9 x10 : Option V), σ = [some (.ref a), some (.str (wd .kept)), some (.int b), some (.ref st), some (.int e), some (.bl soon), some (.ref dl), some (.ref hh), some (.ref f), x9, x10]) ⟨Same.refl _, none, none, rfl⟩ (fun i σ Hn ⟨sn, _⟩ => ⟨gives_list (SqL.of (sn _ _ hfl)), gives_list (SqL.of (sn _ _ (sf _ _ hdl1)))⟩) ?_ ?_
      · rintro i x1 y1 σ Hn pz hi hj ⟨sn, x9, x10, rfl⟩ hpz
        have exy : x1 = y1 := Option.some.inj (hi.symm.trans hj)
        subst exy
        obtain ⟨z, rfl, _⟩ := int_of_map hi
        refine ⟨pz, _, rfl, SqT.of upd_same, rfl, _, _, rfl, _, _, rfl, rfl, ?_⟩
        exact ⟨_, rfl, _, rfl, some z, rfl, _, rfl, iteF ⟨sn.trans (Same.upd hpz), _, _, rfl⟩⟩
      · rintro σ Hn ⟨sn, x9, x10, rfl⟩
        have z1 := stamps_len .kept b ns e soon
        have z2 : (50 : Nat) < sizeLine := by decide
        refine ⟨_, rfl, .inl ⟨rfl, _, SqL.of (sn _ _ hfl)⟩, f, _, _, rfl, rfl, sn _ _ hfl, (by rw [List.length_map]; omega), fun Hm hm km => ?_⟩
        have hh9 := km _ _ nf1 (sn _ _ (sf _ _ hhh))
        have st9 := km _ _ nf2 (sn _ _ (sf _ _ hst1))
        refine ⟨_, rfl, _, rfl, _, _, .lst (SqL.of hh9) (dts_ints _), .lst (SqL.of st9) (dts_ints _), shaped_ints _, shaped_ints _, ?_⟩
        rw [eqv_ints]
        exact q Hm fun bb o eb => km _ _ (fun z => by have y := S1 _ _ eb; rw [z, hf] at y; cases y) (sn _ _ (sf _ _ (S1 _ _ eb)))
    | make =>
      refine ⟨_, rfl, rfl, _, rfl, iteDF (ne .make .kept (by decide)) ⟨_, rfl, rfl, _, rfl, iteDT rfl ⟨_, rfl, _, rfl, (by show 2 ≤ sizeLine; decide), fun dl h2 => ?_⟩⟩⟩
      replace sd := sd.trans (Same.upd (o := HO.lst [V.int b, .int e]) h2)
      have hdl := upd_same (H := Hd) (a := dl) (o := HO.lst [V.int b, .int e])
      generalize upd Hd dl (HO.lst [V.int b, .int e]) = Hd at sd hdl ⊢
      refine ⟨_, rfl, rfl, _, rfl, iteDF (ne .make .watch (by decide)) (iteF ?_)⟩
      refine ⟨_, rfl, st, _, rfl, .inl (SqL.of (sd _ _ hst)), fun hh g => ?_⟩
      have y1 := Same.upd (o := HO.lst (ns.map V.int)) g
      have hhh := upd_same (H := Hd) (a := hh) (o := HO.lst (ns.map V.int))
      have hst1 := y1 _ _ (sd _ _ hst)
      have ha1 := y1 _ _ (sd _ _ ha)
      have hdl1 := y1 _ _ hdl
      have S1 := sd.trans y1
      clear y1 g
      generalize upd Hd hh (HO.lst (ns.map V.int)) = He at hhh hst1 ha1 hdl1 S1 ⊢
      refine ⟨_, rfl, a, .make, dx, [], rfl, ha1, rfl, _, rfl, _, rfl, _, rfl, _, rfl, _, b, hh, e, soon, ns, rfl, hhh, hz, fun f Hf hf sf hfl => ?_⟩
      refine ⟨_, rfl, _, _, _, _, rfl, TyOf.lst hfl, kit_ll, _, rfl, iteF ?_⟩
      refine ⟨_, rfl, _, _, rfl, .inl ⟨_, SqL.of hfl, rfl⟩, _, rfl, _, _, rfl, .inl ⟨_, SqL.of (sf _ _ hdl1), rfl⟩, rfl, _, rfl, iteNS rfl ?_⟩
      refine ⟨_, rfl, _, rfl, _, _, .lst (SqL.of (sf _ _ hhh)) (dts_ints _), .lst (SqL.of (sf _ _ hst1)) (dts_ints _), shaped_ints _, shaped_ints _, _, rfl, ?_⟩
      rw [eqv_ints]
      refine iteF ?_
      have nf1 : hh ≠ f := fun z => by rw [← z, hhh] at hf; cases hf
      have nf2 : st ≠ f := fun z => by rw [← z, hst1] at hf; cases hf
      refine ⟨_, rfl, _, rfl, _, _, _, _, rfl, .list (SqL.of hfl), .list (SqL.of (sf _ _ hdl1)), ?_⟩
      refine for_zip (xs := (stampsL .make b ns e soon).map V.int) (ys := (stampsL .make b ns e soon).map V.int) (fun i σ Hn => Same Hf Hn ∧ ∃ (x9 x10 : Option V), σ = [some (.ref a), some (.str (wd .make)), some (.int b), some (.ref st), some (.int e), some (.bl soon), some (.ref dl), some (.ref hh), some (.ref f), x9, x10]) ⟨Same.refl _, none, none, rfl⟩ (fun i σ Hn ⟨sn, _⟩ => ⟨gives_list (SqL.of (sn _ _ hfl)), gives_list (SqL.of (sn _ _ (sf _ _ hdl1)))⟩) ?_ ?_
      · rintro i x1 y1 σ Hn pz hi hj ⟨sn, x9, x10, rfl⟩ hpz
        have exy : x1 = y1 := Option.some.inj (hi.symm.trans hj)
        subst exy
        obtain ⟨z, rfl, _⟩ := int_of_map hi
        refine ⟨pz, _, rfl, SqT.of upd_same, rfl, _, _, rfl, _, _, rfl, rfl, ?_⟩
        exact ⟨_, rfl, _, rfl, some z, rfl, _, rfl, iteF ⟨sn.trans (Same.upd hpz), _, _, rfl⟩⟩
      · rintro σ Hn ⟨sn, x9, x10, rfl⟩
        have z1 := stamps_len .make b ns e soon
        have z2 : (50 : Nat) < sizeLine := by decide
        refine ⟨_, rfl, .inl ⟨rfl, _, SqL.of (sn _ _ hfl)⟩, f, _, _, rfl, rfl, sn _ _ hfl, (by rw [List.length_map]; omega), fun Hm hm km => ?_⟩
        have hh9 := km _ _ nf1 (sn _ _ (sf _ _ hhh))
        have st9 := km _ _ nf2 (sn _ _ (sf _ _ hst1))
        refine ⟨_, rfl, _, rfl, _, _, .lst (SqL.of hh9) (dts_ints _), .lst (SqL.of st9) (dts_ints _), shaped_ints _, shaped_ints _, ?_⟩
        rw [eqv_ints]
        exact q Hm fun bb o eb => km _ _ (fun z => by have y := S1 _ _ eb; rw [z, hf] at y; cases y) (sn _ _ (sf _ _ (S1 _ _ eb)))
    | watch =>
      refine ⟨_, rfl, rfl, _, rfl, iteDF (ne .watch .kept (by decide)) ⟨_, rfl, rfl, _, rfl, iteDF (ne .watch .make (by decide)) ⟨_, rfl, rfl, _, rfl, iteDT rfl ?_⟩⟩⟩
      cases soon with
      | true =>
        refine ⟨_, rfl, _, rfl, iteT ⟨_, rfl, (by show 1 ≤ sizeLine; decide), fun dl h2 => ?_⟩⟩
        replace sd := sd.trans (Same.upd (o := HO.lst [V.int b]) h2)
        have hdl := upd_same (H := Hd) (a := dl) (o := HO.lst [V.int b])
        generalize upd Hd dl (HO.lst [V.int b]) = Hd at sd hdl ⊢
        refine ⟨_, rfl, st, _, rfl, .inl (SqL.of (sd _ _ hst)), fun hh g => ?_⟩
        have y1 := Same.upd (o := HO.lst (ns.map V.int)) g
        have hhh := upd_same (H := Hd) (a := hh) (o := HO.lst (ns.map V.int))
        have hst1 := y1 _ _ (sd _ _ hst)
        have ha1 := y1 _ _ (sd _ _ ha)
        have hdl1 := y1 _ _ hdl
        have S1 := sd.trans y1
        clear y1 g
        generalize upd Hd hh (HO.lst (ns.map V.int)) = He at hhh hst1 ha1 hdl1 S1 ⊢
        refine ⟨_, rfl, a, .watch, dx, [], rfl, ha1, rfl, _, rfl, _, rfl, _, rfl, _, rfl, _, b, hh, e, true, ns, rfl, hhh, hz, fun f Hf hf sf hfl => ?_⟩
        refine ⟨_, rfl, _, _, _, _, rfl, TyOf.lst hfl, kit_ll, _, rfl, iteF ?_⟩
        refine ⟨_, rfl, _, _, rfl, .inl ⟨_, SqL.of hfl, rfl⟩, _, rfl, _, _, rfl, .inl ⟨_, SqL.of (sf _ _ hdl1), rfl⟩, rfl, _, rfl, iteNS rfl ?_⟩
        refine ⟨_, rfl, _, rfl, _, _, .lst (SqL.of (sf _ _ hhh)) (dts_ints _), .lst (SqL.of (sf _ _ hst1)) (dts_ints _), shaped_ints _, shaped_ints _, _, rfl, ?_⟩
        rw [eqv_ints]
        refine iteF ?_
        have nf1 : hh ≠ f := fun z => by rw [← z, hhh] at hf; cases hf
        have nf2 : st ≠ f := fun z => by rw [← z, hst1] at hf; cases hf
        refine ⟨_, rfl, _, rfl, _, _, _, _, rfl, .list (SqL.of hfl), .list (SqL.of (sf _ _ hdl1)), ?_⟩
        refine for_zip (xs := (stampsL .watch b ns e true).map V.int) (ys := (stampsL .watch b ns e true).map V.int) (fun i σ Hn => Same Hf Hn ∧ ∃ (x9 x10 : Option V), σ = [some (.ref a), some (.str (wd .watch)), some (.int b), some (.ref st), some (.int e), some (.bl true), some (.ref dl), some (.ref hh), some (.ref f), x9, x10]) ⟨Same.refl _, none, none, rfl⟩ (fun i σ Hn ⟨sn, _⟩ => ⟨gives_list (SqL.of (sn _ _ hfl)), gives_list (SqL.of (sn _ _ (sf _ _ hdl1)))⟩) ?_ ?_
        · rintro i x1 y1 σ Hn pz hi hj ⟨sn, x9, x10, rfl⟩ hpz
          have exy : x1 = y1 := Option.some.inj (hi.symm.trans hj)
          subst exy
          obtain ⟨z, rfl, _⟩ := int_of_map hi
          refine ⟨pz, _, rfl, SqT.of upd_same, rfl, _, _, rfl, _, _, rfl, rfl, ?_⟩
          exact ⟨_, rfl, _, rfl, some z, rfl, _, rfl, iteF ⟨sn.trans (Same.upd hpz), _, _, rfl⟩⟩
        · rintro σ Hn ⟨sn, x9, x10, rfl⟩
          have z1 := stamps_len .watch b ns e true
          have z2 : (50 : Nat) < sizeLine := by decide
          refine ⟨_, rfl, .inl ⟨rfl, _, SqL.of (sn _ _ hfl)⟩, f, _, _, rfl, rfl, sn _ _ hfl, (by rw [List.length_map]; omega), fun Hm hm km => ?_⟩
          have hh9 := km _ _ nf1 (sn _ _ (sf _ _ hhh))
          have st9 := km _ _ nf2 (sn _ _ (sf _ _ hst1))
          refine ⟨_, rfl, _, rfl, _, _, .lst (SqL.of hh9) (dts_ints _), .lst (SqL.of st9) (dts_ints _), shaped_ints _, shaped_ints _, ?_⟩
          rw [eqv_ints]
          exact q Hm fun bb o eb => km _ _ (fun z => by have y := S1 _ _ eb; rw [z, hf] at y; cases y) (sn _ _ (sf _ _ (S1 _ _ eb)))
      | false =>
        refine ⟨_, rfl, _, rfl, iteF ?_⟩
        refine ⟨_, rfl, st, _, rfl, .inl (SqL.of (sd _ _ hst)), fun hh g => ?_⟩
        have y1 := Same.upd (o := HO.lst (ns.map V.int)) g
        have hhh := upd_same (H := Hd) (a := hh) (o := HO.lst (ns.map V.int))
        have hst1 := y1 _ _ (sd _ _ hst)
        have ha1 := y1 _ _ (sd _ _ ha)
        have hdl1 := y1 _ _ hdl
        have S1 := sd.trans y1
        clear y1 g
        generalize upd Hd hh (HO.lst (ns.map V.int)) = He at hhh hst1 ha1 hdl1 S1 ⊢
        refine ⟨_, rfl, a, .watch, dx, [], rfl, ha1, rfl, _, rfl, _, rfl, _, rfl, _, rfl, _, b, hh, e, false, ns, rfl, hhh, hz, fun f Hf hf sf hfl => ?_⟩
        refine ⟨_, rfl, _, _, _, _, rfl, TyOf.lst hfl, kit_ll, _, rfl, iteF ?_⟩
        refine ⟨_, rfl, _, _, rfl, .inl ⟨_, SqL.of hfl, rfl⟩, _, rfl, _, _, rfl, .inl ⟨_, SqL.of (sf _ _ hdl1), rfl⟩, rfl, _, rfl, iteNS rfl ?_⟩
        refine ⟨_, rfl, _, rfl, _, _, .lst (SqL.of (sf _ _ hhh)) (dts_ints _), .lst (SqL.of (sf _ _ hst1)) (dts_ints _), shaped_ints _, shaped_ints _, _, rfl, ?_⟩
        rw [eqv_ints]
        refine iteF ?_
        have nf1 : hh ≠ f := fun z => by rw [← z, hhh] at hf; cases hf
        have nf2 : st ≠ f := fun z => by rw [← z, hst1] at hf; cases hf
        refine ⟨_, rfl, _, rfl, _, _, _, _, rfl, .list (SqL.of hfl), .list (SqL.of (sf _ _ hdl1)), ?_⟩
        refine for_zip (xs := (stampsL .watch b ns e false).map V.int) (ys := (stampsL .watch b ns e false).map V.int) (fun i σ Hn => Same Hf Hn ∧ ∃ (x9 x10 : Option V), σ = [some (.ref a), some (.str (wd .watch)), some (.int b), some (.ref st), some (.int e), some (.bl false), some (.ref dl), some (.ref hh), some (.ref f), x9, x10]) ⟨Same.refl _, none, none, rfl⟩ (fun i σ Hn ⟨sn, _⟩ => ⟨gives_list (SqL.of (sn _ _ hfl)), gives_list (SqL.of (sn _ _ (sf _ _ hdl1)))⟩) ?_ ?_
        · rintro i x1 y1 σ Hn pz hi hj ⟨sn, x9, x10, rfl⟩ hpz
          have exy : x1 = y1 := Option.some.inj (hi.symm.trans hj)
          subst exy
          obtain ⟨z, rfl, _⟩ := int_of_map hi
          refine ⟨pz, _, rfl, SqT.of upd_same, rfl, _, _, rfl, _, _, rfl, rfl, ?_⟩
          exact ⟨_, rfl, _, rfl, some z, rfl, _, rfl, iteF ⟨sn.trans (Same.upd hpz), _, _, rfl⟩⟩
        · rintro σ Hn ⟨sn, x9, x10, rfl⟩
          have z1 := stamps_len .watch b ns e false
          have z2 : (50 : Nat) < sizeLine := by decide
          refine ⟨_, rfl, .inl ⟨rfl, _, SqL.of (sn _ _ hfl)⟩, f, _, _, rfl, rfl, sn _ _ hfl, (by rw [List.length_map]; omega), fun Hm hm km => ?_⟩
          have hh9 := km _ _ nf1 (sn _ _ (sf _ _ hhh))
          have st9 := km _ _ nf2 (sn _ _ (sf _ _ hst1))
          refine ⟨_, rfl, _, rfl, _, _, .lst (SqL.of hh9) (dts_ints _), .lst (SqL.of st9) (dts_ints _), shaped_ints _, shaped_ints _, ?_⟩
          rw [eqv_ints]
          exact q Hm fun bb o eb => km _ _ (fun z => by have y := S1 _ _ eb; rw [z, hf] at y; cases y) (sn _ _ (sf _ _ (S1 _ _ eb)))
    | hold =>
      refine ⟨_, rfl, rfl, _, rfl, iteDF (ne .hold .kept (by decide)) ⟨_, rfl, rfl, _, rfl, iteDF (ne .hold .make (by decide)) ⟨_, rfl, rfl, _, rfl, iteDF (ne .hold .watch (by decide)) (iteF ?_)⟩⟩⟩
      refine ⟨_, rfl, st, _, rfl, .inl (SqL.of (sd _ _ hst)), fun hh g => ?_⟩
      have y1 := Same.upd (o := HO.lst (ns.map V.int)) g
      have hhh := upd_same (H := Hd) (a := hh) (o := HO.lst (ns.map V.int))
      have hst1 := y1 _ _ (sd _ _ hst)
      have ha1 := y1 _ _ (sd _ _ ha)
      have hdl1 := y1 _ _ hdl
      have S1 := sd.trans y1
      clear y1 g
      generalize upd Hd hh (HO.lst (ns.map V.int)) = He at hhh hst1 ha1 hdl1 S1 ⊢
      refine ⟨_, rfl, a, .hold, dx, [], rfl, ha1, rfl, _, rfl, _, rfl, _, rfl, _, rfl, _, b, hh, e, soon, ns, rfl, hhh, hz, fun f Hf hf sf hfl => ?_⟩
      refine ⟨_, rfl, _, _, _, _, rfl, TyOf.lst hfl, kit_ll, _, rfl, iteF ?_⟩
      refine ⟨_, rfl, _, _, rfl, .inl ⟨_, SqL.of hfl, rfl⟩, _, rfl, _, _, rfl, .inl ⟨_, SqL.of (sf _ _ hdl1), rfl⟩, rfl, _, rfl, iteNS rfl ?_⟩
      refine ⟨_, rfl, _, rfl, _, _, .lst (SqL.of (sf _ _ hhh)) (dts_ints _), .lst (SqL.of (sf _ _ hst1)) (dts_ints _), shaped_ints _, shaped_ints _, _, rfl, ?_⟩
      rw [eqv_ints]
      refine iteF ?_
      have nf1 : hh ≠ f := fun z => by rw [← z, hhh] at hf; cases hf
      have nf2 : st ≠ f := fun z => by rw [← z, hst1] at hf; cases hf
      refine ⟨_, rfl, _, rfl, _, _, _, _, rfl, .list (SqL.of hfl), .list (SqL.of (sf _ _ hdl1)), ?_⟩
      refine for_zip (xs := (stampsL .hold b ns e soon).map V.int) (ys := (stampsL .hold b ns e soon).map V.int) (fun i σ Hn => Same Hf Hn ∧ ∃ (x9 x10 : Option V), σ = [some (.ref a), some (.str (wd .hold)), some (.int b), some (.ref st), some (.int e), some (.bl soon), some (.ref dl), some (.ref hh), some (.ref f), x9, x10]) ⟨Same.refl _, none, none, rfl⟩ (fun i σ Hn ⟨sn, _⟩ => ⟨gives_list (SqL.of (sn _ _ hfl)), gives_list (SqL.of (sn _ _ (sf _ _ hdl1)))⟩) ?_ ?_
      · rintro i x1 y1 σ Hn pz hi hj ⟨sn, x9, x10, rfl⟩ hpz
        have exy : x1 = y1 := Option.some.inj (hi.symm.trans hj)
        subst exy
        obtain ⟨z, rfl, _⟩ := int_of_map hi
        refine ⟨pz, _, rfl, SqT.of upd_same, rfl, _, _, rfl, _, _, rfl, rfl, ?_⟩
        exact ⟨_, rfl, _, rfl, some z, rfl, _, rfl, iteF ⟨sn.trans (Same.upd hpz), _, _, rfl⟩⟩
      · rintro σ Hn ⟨sn, x9, x10, rfl⟩
        have z1 := stamps_len .hold b ns e soon
        have z2 : (50 : Nat) < sizeLine := by decide
        refine ⟨_, rfl, .inl ⟨rfl, _, SqL.of (sn _ _ hfl)⟩, f, _, _, rfl, rfl, sn _ _ hfl, (by rw [List.length_map]; omega), fun Hm hm km => ?_⟩
        have hh9 := km _ _ nf1 (sn _ _ (sf _ _ hhh))
        have st9 := km _ _ nf2 (sn _ _ (sf _ _ hst1))
        refine ⟨_, rfl, _, rfl, _, _, .lst (SqL.of hh9) (dts_ints _), .lst (SqL.of st9) (dts_ints _), shaped_ints _, shaped_ints _, ?_⟩
        rw [eqv_ints]
        exact q Hm fun bb o eb => km _ _ (fun z => by have y := S1 _ _ eb; rw [z, hf] at y; cases y) (sn _ _ (sf _ _ (S1 _ _ eb)))
theorem ok_Lnoword (T : Tx K mg) : FnOk P w K mg base CX0 1 T.f_Lnoword T.d_Lnoword ["_law_cell_here"] spNoWord := by
  refine T.F_Lnoword.ok sc_Lnoword (fun vs H Q E h => ?_) (fun cdv A outer s H vs Q E hr h => ?_)
  · obtain ⟨c, rfl, _⟩ := h
    rfl
  · obtain ⟨c, rfl, q⟩ := h
    refine ⟨_, (pss_cons (ps_set (i := 1) sc_Lnoword.nd rfl (Or.inl rfl) (pe_ix ix_list (pe_lst (pa_cons pe_str (pa_cons pe_str (pa_cons pe_str (pa_cons pe_str (pa_cons pe_str pa_nil)))))) (pe_op op_mod (pv 0) pe_int) (fun _ _ => rfl)))
      (pss_cons (ps_set (i := 2) sc_Lnoword.nd rfl (Or.inl rfl) (pe_ix ix_str pe_str (pe_op op_mod (pe_op op_fdiv (pv 0) pe_int) pe_int) (fun _ _ => rfl)))
      (pss_one (ps_ret (pe_ix ix_list (pe_lst (pa_cons (pe_slice sl_str (pv 1) (po_some pe_int) po_none) (pa_cons (pe_slice sl_str (pv 1) po_none (po_some (pe_un un_neg pe_int))) (pa_cons (pe_op op_add_str (pv 1) (pv 2)) (pa_cons (pe_op op_add_str (pv 2) (pv 1)) (pa_cons (pe_bm0 PySem.F.plainAttrs_str PySem.F.slot_str_upper PySem.F.type_str_upper mt_upper (pv 1)) pa_nil)))))) (pe_op op_mod (pe_op op_fdiv (pv 0) pe_int) pe_int) (fun _ _ => rfl)))))), ?_⟩
    refine ⟨(by show 5 ≤ sizeLine; decide), fun l1 h1 => ?_⟩
    obtain ⟨v, hv⟩ := atI_lt (xs := [V.str (wd .loose), .str (wd .kept), .str (wd .make), .str (wd .watch), .str (wd .hold)]) (Int.emod_nonneg c (show (5 : Int) ≠ 0 by decide)) (Int.emod_lt_of_pos c (show (0 : Int) < 5 by decide))
    obtain ⟨l, rfl⟩ : ∃ l, v = V.str (wd l) := by
      have hm := atI_mem hv
      simp only [List.mem_cons, List.not_mem_nil, or_false] at hm
      rcases hm with rfl | rfl | rfl | rfl | rfl
      · exact ⟨.loose, rfl⟩
      · exact ⟨.kept, rfl⟩
      · exact ⟨.make, rfl⟩
      · exact ⟨.watch, rfl⟩
      · exact ⟨.hold, rfl⟩
    have s1 := Same.upd (o := HO.lst [V.str (wd .loose), .str (wd .kept), .str (wd .make), .str (wd .watch), .str (wd .hold)]) h1
    refine ⟨_, rfl, _, _, rfl, rfl, (by show (0 : Int) < 5; decide), l1, _, _, _, rfl, rfl, SqL.of upd_same, hv, ?_⟩
    refine ⟨_, rfl, _, _, rfl, rfl, ⟨by decide, by decide⟩, _, _, rfl, rfl, (by show (0 : Int) < 26; decide), _, _, _, rfl, rfl, (by decide +kernel), alpha_at, ?_⟩
    have j0 := Int.emod_nonneg (c / 5) (show (26 : Int) ≠ 0 by decide)
    have j1 := Int.emod_lt_of_pos (c / 5) (show (0 : Int) < 26 by decide)
    obtain ⟨j, ej⟩ : ∃ j, (c / 5 % 26).toNat = j := ⟨_, rfl⟩
    have hj : j < 26 := by omega
    rw [ej]
    have wl := wd_len l
    have z9 : (2000 : Nat) ≤ sizeLine := by decide
    have ll : (⟨#[97 + j]⟩ : Str).length = 1 := rfl
    refine ⟨_, rfl, _, rfl, _, rfl, (by omega), ?_⟩
    refine ⟨_, rfl, _, rfl, _, rfl, _, rfl, (by omega), ?_⟩
    refine ⟨_, rfl, _, rfl, _, _, rfl, rfl, (by omega), ?_⟩
    refine ⟨_, rfl, _, rfl, _, _, rfl, rfl, (by omega), ?_⟩
    refine ⟨_, rfl, rfl, _, rfl, rfl, (by omega), ?_⟩
    refine ⟨(by show 5 ≤ sizeLine; decide), fun l2 h2 => ?_⟩
    obtain ⟨x, hx⟩ := atI_lt (xs := [V.str (Txt.slice (wd l) (some 1) none), .str (Txt.slice (wd l) none (some (-1))), .str (wd l ++ ⟨#[97 + j]⟩), .str (⟨#[97 + j]⟩ ++ wd l), .str (Txt.upper (wd l))]) (Int.emod_nonneg (c / 130) (show (5 : Int) ≠ 0 by decide)) (Int.emod_lt_of_pos (c / 130) (show (0 : Int) < 5 by decide))
    obtain ⟨y, rfl, hy⟩ : ∃ y, x = V.str y ∧ NoWord y := by
      have hm := atI_mem hx
      rw [upper_ascii wl.2] at hm
      simp only [List.mem_cons, List.not_mem_nil, or_false] at hm
      rcases hm with rfl | rfl | rfl | rfl | rfl
      · exact ⟨_, rfl, five_no (l := l) hj (by simp [fiveS])⟩
      · exact ⟨_, rfl, five_no (l := l) hj (by simp [fiveS])⟩
      · exact ⟨_, rfl, five_no (l := l) hj (by simp [fiveS])⟩
      · exact ⟨_, rfl, five_no (l := l) hj (by simp [fiveS])⟩
      · exact ⟨_, rfl, five_no (l := l) hj (by simp [fiveS])⟩
    exact ⟨_, rfl, _, _, rfl, rfl, ⟨by decide, by decide⟩, _, _, rfl, rfl, (by show (0 : Int) < 5; decide), l2, _, _, _, rfl, rfl, SqL.of upd_same, hx, q y _ hy (s1.trans (Same.upd h2))⟩
theorem ok_Lrefused (T : Tx K mg) : FnOk P w K mg base CX0 3 T.f_Lrefused T.d_Lrefused ["_law_word"] spRefused := by
  refine T.F_Lrefused.ok sc_Lrefused (fun vs H Q E h => ?_) (fun cdv A outer s H vs Q E hr h => ?_)
  · obtain ⟨x, rfl, _⟩ := h
    rfl
  · obtain ⟨x, rfl, hx, k⟩ := h
    refine ⟨_, (pss_cons (ps_tryF (j := 1) ((ok_levelof T).mono (by decide)) hr rfl T.m_levelof T.F_levelof.kp T.b_levelof (pa_cons (pv 0) pa_nil) T.ks_SkewError rfl sc_Lrefused.nd rfl rfl rfl rfl (fun ea => (pss_one (ps_ret (pe_and (pe_callB (call_isxK (K := K) rfl) (by rfl) T.z_isinstance boot_isinstance (pa_cons (pv 1) (pa_cons (pe_glob (v := V.ref T.c_NoLevel) rfl T.m_NoLevel rfl) pa_nil))) (pe_one (pe_callB (call_isxK (K := K) rfl) (by rfl) T.z_isinstance boot_isinstance (pa_cons (pv 1) (pa_cons (pe_bltn (v := V.ty "ValueError") rfl T.z_ValueError (by decide +kernel) rfl) pa_nil)))))))))
      (pss_one (ps_ret pe_bl))), ?_⟩
    refine ⟨_, rfl, x, rfl, hx.2.1, hx.2.2, (fun l e => absurd e (hx.1 l)), fun _ H1 s1 => ⟨_, rfl, T.kp_NoLevel_SkewError.sub, fun ea he => ?_⟩⟩
    refine ⟨_, rfl, ea, _, true, _, rfl, upd_same, T.kx_NoLevel, .inl ⟨_, rfl, T.kp_NoLevel_NoLevel.one⟩, true, rfl, iteT ?_⟩
    exact ⟨_, rfl, ea, _, true, _, rfl, upd_same, T.kx_NoLevel, .inr ⟨_, rfl, kit_ve T.kv_NoLevel⟩, k _⟩
theorem ok_law (T : Tx K mg) : FnOk P w K mg base CX0 8 T.f_law T.d_law ["_law_script"] (spLaw K) := by
  refine T.F_law.ok sc_law (fun vs H Q E h => ?_) (fun cdv A outer s H vs Q E hr h => ?_)
  · obtain ⟨a, ns, rfl, _⟩ := h
    rfl
  · obtain ⟨a, ns, rfl, hS, hlen, hb, k⟩ := h
    refine ⟨_, (pss_cons (ps_set (i := 1) sc_law.nd rfl (Or.inl rfl) (pe_op op_mod (pe_call ((ok_Lcell T).mono (by decide)) hr rfl T.m_Lcell T.F_Lcell.kp T.b_Lcell .nil pass0 (pa_cons (pv 0) (pa_cons pe_int pa_nil))) (pe_op op_sub (pe_op op_pow pe_int pe_int) pe_int)))
      (pss_cons (ps_set (i := 2) sc_law.nd rfl (Or.inl rfl) (pe_op op_mod (pe_call ((ok_Lcell T).mono (by decide)) hr rfl T.m_Lcell T.F_Lcell.kp T.b_Lcell .nil pass0 (pa_cons (pv 0) (pa_cons pe_int pa_nil))) (pe_op op_pow pe_int pe_int)))
      (pss_cons (ps_set (i := 3) sc_law.nd rfl (Or.inl rfl) (pe_op op_mod (pe_call ((ok_Lcell T).mono (by decide)) hr rfl T.m_Lcell T.F_Lcell.kp T.b_Lcell .nil pass0 (pa_cons (pv 0) (pa_cons pe_int pa_nil))) (pe_op op_pow pe_int pe_int)))
      (pss_cons (ps_if (pt_cmpR op_gt (pe_op op_mod (pe_call ((ok_Lcell T).mono (by decide)) hr rfl T.m_Lcell T.F_Lcell.kp T.b_Lcell .nil pass0 (pa_cons (pv 0) (pa_cons pe_int pa_nil))) pe_int) pe_int (nomark _))
      (pss_one (ps_set (i := 3) sc_law.nd rfl (Or.inl rfl) (pe_op op_sub (pe_op op_add (pv 1) (pe_op op_mod (pe_call ((ok_Lcell T).mono (by decide)) hr rfl T.m_Lcell T.F_Lcell.kp T.b_Lcell .nil pass0 (pa_cons (pv 0) (pa_cons pe_int pa_nil))) pe_int)) pe_int)))
      pss_nil)
      (pss_cons (ps_set (i := 4) sc_law.nd rfl (Or.inl rfl) (pe_op op_mod (pe_call ((ok_Lcell T).mono (by decide)) hr rfl T.m_Lcell T.F_Lcell.kp T.b_Lcell .nil pass0 (pa_cons (pv 0) (pa_cons pe_int pa_nil))) pe_int))
      (pss_cons (ps_set (i := 5) sc_law.nd rfl (Or.inl rfl) (pe_op op_mod (pe_call ((ok_Lcell T).mono (by decide)) hr rfl T.m_Lcell T.F_Lcell.kp T.b_Lcell .nil pass0 (pa_cons (pv 0) (pa_cons pe_int pa_nil))) (pe_callB (call_max2 rfl) (by rfl) T.z_max boot_max (pa_cons pe_int (pa_cons (pv 4) pa_nil)))))
      (pss_cons (ps_compF (i := 6) ["_law_k"] rfl sc_law.nd rfl rfl (CompSc.mk (fv := ["_law_script"]) (js := [0]) rfl (by decide +kernel) (by decide +kernel) (by decide +kernel) (allc_cons (Or.inl rfl) allc_nil) rfl (by decide +kernel)) (pi_range1 rfl T.z_range (pa_cons (pv 4) pa_nil)) rfl (fun _ _ _ _ _ => (pg_name (i := 0) (show (["_law_k", "_law_script"] : List Str).Nodup by decide +kernel) rfl (Or.inl rfl))) (fun _ _ _ _ _ => pf_nil) (fun _ _ _ _ _ => (pe_call ((ok_Lmix T).mono (by decide)) hr rfl T.m_Lmix T.F_Lmix.kp T.b_Lmix .nil pass0 (pa_cons (pe_call ((ok_Lcell T).mono (by decide)) hr rfl T.m_Lcell T.F_Lcell.kp T.b_Lcell .nil pass0 (pa_cons (pv 1) (pa_cons pe_int pa_nil))) (pa_cons (pv 0) pa_nil)))))
      (pss_cons (ps_set (i := 7) sc_law.nd rfl (Or.inl rfl) (pe_lst (pa_cons (pe_tup (pa_cons pe_str (pa_cons (pe_lst (pa_cons pe_bl (pa_cons pe_bl (pa_cons pe_bl (pa_cons pe_bl (pa_cons pe_bl pa_nil)))))) pa_nil))) (pa_cons (pe_tup (pa_cons pe_str (pa_cons (pe_lst (pa_cons pe_bl (pa_cons pe_bl (pa_cons pe_bl (pa_cons pe_bl (pa_cons pe_bl pa_nil)))))) pa_nil))) (pa_cons (pe_tup (pa_cons pe_str (pa_cons (pe_lst (pa_cons pe_bl (pa_cons pe_bl (pa_cons pe_bl (pa_cons pe_bl (pa_cons pe_bl pa_nil)))))) pa_nil))) (pa_cons (pe_tup (pa_cons pe_str (pa_cons (pe_lst (pa_cons pe_bl (pa_cons pe_bl (pa_cons pe_bl (pa_cons pe_bl (pa_cons pe_bl pa_nil)))))) pa_nil))) (pa_cons (pe_tup (pa_cons pe_str (pa_cons (pe_lst (pa_cons pe_bl (pa_cons pe_bl (pa_cons pe_bl (pa_cons pe_bl (pa_cons pe_bl pa_nil)))))) pa_nil))) pa_nil)))))))
      (pss_cons (ps_for PassesOwn.never rfl (pi_list (pv 7)) (pg_tup rfl (pgs_cons (pg_name (i := 8) sc_law.nd rfl (Or.inl rfl)) (pgs_cons (pg_name (i := 9) sc_law.nd rfl (Or.inl rfl)) pgs_nil)))
      (pss_cons (ps_set (i := 10) sc_law.nd rfl (Or.inl rfl) (pe_call ((ok_levelof T).mono (by decide)) hr rfl T.m_levelof T.F_levelof.kp T.b_levelof .nil passF (pa_cons (pv 8) pa_nil)))
      (pss_cons (ps_set (i := 11) sc_law.nd rfl (Or.inl rfl) (pe_methT0 (pv 10) (tb_word T) (hr.mono (by decide))))
      (pss_cons (ps_if (PW.pt (pw_or (pt_not (pt_val (pe_callB call_isi (by rfl) T.z_isinstance boot_isinstance (pa_cons (pv 11) (pa_cons (pe_bltn (v := V.ty "str") rfl T.z_str boot_str rfl) pa_nil))))) (pw_or (pt_cmpR op_ne (pv 11) (pv 8) (nomark _)) (pw_or1 (pt_cmpR (op_neS hr.units) (pe_call ((ok_Lkin T).mono (by decide)) hr rfl T.m_Lkin T.F_Lkin.kp T.b_Lkin .nil pass0 (pa_cons (pv 10) pa_nil)) (pv 9) (nomark _))))))
      (pss_one (ps_ret pe_bl))
      pss_nil)
      (pss_cons (ps_set (i := 12) sc_law.nd rfl (Or.inl rfl) (pv 2))
      (pss_cons (ps_if (pt_cmpR op_in_seq (pv 8) (pe_tup (pa_cons pe_str (pa_cons pe_str pa_nil))) rfl)
      (pss_one (ps_set (i := 12) sc_law.nd rfl (Or.inl rfl) (pv 1)))
      pss_nil)
      (pss_cons (ps_if (PW.pt (pw_or (pt_not (pt_val (pe_call ((ok_Lnumber T).mono (by decide)) hr rfl T.m_Lnumber T.F_Lnumber.kp T.b_Lnumber .nil pass0 (pa_cons (pe_methT (pv 10) (tb_stand T) (hr.mono (by decide)) (pa_cons (pv 1) (pa_cons (pv 2) pa_nil))) (pa_cons (pv 12) pa_nil))))) (pw_or1 (pt_not (pt_val (pe_call ((ok_Ltruths T).mono (by decide)) hr rfl T.m_Ltruths T.F_Ltruths.kp T.b_Ltruths .nil pass0 (pa_cons (pv 10) (pa_cons (pv 8) (pa_cons (pv 1) (pa_cons (pv 3) pa_nil))))))))))
      (pss_one (ps_ret pe_bl))
      pss_nil)
      (pss_cons (ps_if (pt_not (pt_val (pe_call ((ok_Lspots T).mono (by decide)) hr rfl T.m_Lspots T.F_Lspots.kp T.b_Lspots .nil pass0 (pa_cons (pv 10) (pa_cons (pv 8) (pa_cons (pv 4) (pa_cons (pv 5) pa_nil)))))))
      (pss_one (ps_ret pe_bl))
      pss_nil)
      (pss_one (ps_for PassesOwn.never rfl (pi_list (pe_lst (pa_cons pe_bl (pa_cons pe_bl pa_nil)))) (pg_name (i := 13) sc_law.nd rfl (Or.inl rfl))
      (pss_one (ps_if (pt_not (pt_val (pe_call ((ok_Lstamps T).mono (by decide)) hr rfl T.m_Lstamps T.F_Lstamps.kp T.b_Lstamps .nil pass0 (pa_cons (pv 10) (pa_cons (pv 8) (pa_cons (pv 1) (pa_cons (pv 6) (pa_cons (pv 2) (pa_cons (pv 13) pa_nil)))))))))
      (pss_one (ps_ret pe_bl))
      pss_nil))))))))))))
      (pss_one (ps_ret (pe_call ((ok_Lrefused T).mono (by decide)) hr rfl T.m_Lrefused T.F_Lrefused.kp T.b_Lrefused .nil pass0 (pa_cons (pe_call ((ok_Lnoword T).mono (by decide)) hr rfl T.m_Lnoword T.F_Lnoword.kp T.b_Lnoword .nil pass0 (pa_cons (pe_call ((ok_Lcell T).mono (by decide)) hr rfl T.m_Lcell T.F_Lcell.kp T.b_Lcell .nil pass0 (pa_cons (pv 0) (pa_cons pe_int pa_nil))) pa_nil)) pa_nil))))))))))))), ?_⟩
    refine ⟨_, rfl, a, ns, 0, rfl, hS, (by decide), (by decide), fun c0 => ⟨_, _, rfl, rfl, ⟨by decide, by decide, by decide⟩, _, _, rfl, rfl, _, _, rfl, rfl, (by show (0 : Int) < 10 ^ 30 - 1; decide), ?_⟩⟩
    refine ⟨_, rfl, a, ns, 1, rfl, hS, (by decide), (by decide), fun c1 => ⟨_, _, rfl, rfl, ⟨by decide, by decide, by decide⟩, _, _, rfl, rfl, (by show (0 : Int) < 10 ^ 30; decide), ?_⟩⟩
    refine ⟨_, rfl, a, ns, 2, rfl, hS, (by decide), (by decide), fun c2 => ⟨_, _, rfl, rfl, ⟨by decide, by decide, by decide⟩, _, _, rfl, rfl, (by show (0 : Int) < 10 ^ 30; decide), ?_⟩⟩
    obtain ⟨bg, hbg⟩ : ∃ bg, bg = c0 % (10 ^ Int.toNat 30 - 1) := ⟨_, rfl⟩
    obtain ⟨nw, hnw⟩ : ∃ nw, nw = c1 % 10 ^ Int.toNat 30 := ⟨_, rfl⟩
    obtain ⟨sm, hsm⟩ : ∃ sm, sm = c2 % 10 ^ Int.toNat 30 := ⟨_, rfl⟩
    first | refine stn [some (.ref a), some (.int bg), some (.int nw), some (.int sm), none, none, none, none, none, none, none, none, none, none] (by cases hbg; cases hnw; cases hsm; rfl) ?_ | refine stg [some (.ref a), some (.int bg), some (.int nw), some (.int sm), none, none, none, none, none, none, none, none, none, none] (by cases hbg; cases hnw; cases hsm; rfl) ?_
    clear hbg hnw hsm
    refine ⟨_, rfl, a, ns, 3, rfl, hS, (by decide), (by decide), fun c3 => ⟨_, _, rfl, rfl, (by show (0 : Int) < 3; decide), _, _, rfl, rfl, _, rfl, ite2 (fun e => ?_) (fun e => ?_)⟩⟩
    · refine ⟨_, rfl, _, rfl, a, ns, 3, rfl, hS, (by decide), (by decide), fun c3b => ⟨_, _, rfl, rfl, (by show (0 : Int) < 3; decide), _, _, rfl, rfl, _, _, rfl, rfl, ?_⟩⟩
      obtain ⟨sm, hsm⟩ : ∃ sm, sm = bg + c3b % 3 - 1 := ⟨_, rfl⟩
      first | refine stn [some (.ref a), some (.int bg), some (.int nw), some (.int sm), none, none, none, none, none, none, none, none, none, none] (by cases hsm; rfl) ?_ | refine stg [some (.ref a), some (.int bg), some (.int nw), some (.int sm), none, none, none, none, none, none, none, none, none, none] (by cases hsm; rfl) ?_
      clear hsm
      refine ⟨_, rfl, a, ns, 4, rfl, hS, (by decide), (by decide), fun c4 => ⟨_, _, rfl, rfl, (by show (0 : Int) < 41; decide), ?_⟩⟩
      obtain ⟨lk, hlk⟩ : ∃ lk, lk = c4 % 41 := ⟨_, rfl⟩
      have lk0 : 0 ≤ lk ∧ lk < 41 := by omega
      first | refine stn [some (.ref a), some (.int bg), some (.int nw), some (.int sm), some (.int lk), none, none, none, none, none, none, none, none, none] (by cases hlk; rfl) ?_ | refine stg [some (.ref a), some (.int bg), some (.int nw), some (.int sm), some (.int lk), none, none, none, none, none, none, none, none, none] (by cases hlk; rfl) ?_
      clear hlk
      refine ⟨_, rfl, a, ns, 5, rfl, hS, (by decide), (by decide), fun c5 => ⟨_, rfl, _, _, rfl, _, _, rfl, rfl, (by show (0 : Int) < (if lk > 1 then lk else 1); split <;> omega), ?_⟩⟩
      obtain ⟨pl, hpl⟩ : ∃ pl, pl = c5 % (if lk > 1 then lk else 1) := ⟨_, rfl⟩
      first | refine stn [some (.ref a), some (.int bg), some (.int nw), some (.int sm), some (.int lk), some (.int pl), none, none, none, none, none, none, none, none] (by cases hpl; rfl) ?_ | refine stg [some (.ref a), some (.int bg), some (.int nw), some (.int sm), some (.int lk), some (.int pl), none, none, none, none, none, none, none, none] (by cases hpl; rfl) ?_
      clear hpl
      have z41 : (41 : Nat) ≤ sizeLine := by decide
      refine ⟨_, rfl, _, rfl, (by omega), (by omega), ?_⟩
      refine compQF_each (k := 1) (fs := [some (.ref a)]) lk.toNat (fun _ v => ∃ z : Int, v = .int z) rfl (by omega) (fun j H3 _ hj => hj) (fun H3 _ => Nat.le_refl _) ?_ ?_
      · rintro j H3 ts v H4 R ss hj hts ⟨rfl, rfl⟩ cb
        obtain ⟨t, rfl⟩ := List.length_eq_one_iff.mp hts
        exact ⟨_, rfl, a, ns, 6, rfl, ss.seq hS, (by decide), (by decide), fun z => ⟨_, rfl, z, _, rfl, (by omega), (by omega), fun zz => cb _ [_] _ ⟨zz, rfl⟩ rfl (Same.refl _)⟩⟩
      · intro D Hs ys hDn sS hyl hya hD
        obtain ⟨ms, rfl⟩ := ints_of _ hya
        have hms : ms.length ≤ 41 := by
          rw [List.length_map] at hyl
          omega
        first | refine stn [some (.ref a), some (.int bg), some (.int nw), some (.int sm), some (.int lk), some (.int pl), some (.ref D), none, none, none, none, none, none, none] rfl ?_ | refine stg [some (.ref a), some (.int bg), some (.int nw), some (.int sm), some (.int lk), some (.int pl), some (.ref D), none, none, none, none, none, none, none] rfl ?_
        refine ⟨(by show 5 ≤ sizeLine; decide), fun k1 g1 => ⟨(by show 2 ≤ sizeLine; decide), fun t1 q1 => ?_⟩⟩
        have u1 := (Same.upd (o := HO.lst [V.bl true, .bl false, .bl false, .bl false, .bl false]) g1).trans (Same.upd (o := HO.tup [V.str "loose", .ref k1]) q1)
        have r1 := upd_same (H := upd Hs k1 (HO.lst [V.bl true, .bl false, .bl false, .bl false, .bl false])) (a := t1) (o := HO.tup [V.str "loose", .ref k1])
        have b1 := Same.upd (o := HO.tup [V.str "loose", .ref k1]) q1 _ _ (upd_same (H := Hs) (a := k1) (o := HO.lst [V.bl true, .bl false, .bl false, .bl false, .bl false]))
        clear g1 q1
        generalize upd (upd Hs k1 (HO.lst [V.bl true, .bl false, .bl false, .bl false, .bl false])) t1 (HO.tup [V.str "loose", .ref k1]) = G1 at u1 r1 b1 ⊢
        refine ⟨(by show 5 ≤ sizeLine; decide), fun k2 g2 => ⟨(by show 2 ≤ sizeLine; decide), fun t2 q2 => ?_⟩⟩
        have u2 := (Same.upd (o := HO.lst [V.bl true, .bl true, .bl false, .bl false, .bl false]) g2).trans (Same.upd (o := HO.tup [V.str "kept", .ref k2]) q2)
        have r2 := upd_same (H := upd G1 k2 (HO.lst [V.bl true, .bl true, .bl false, .bl false, .bl false])) (a := t2) (o := HO.tup [V.str "kept", .ref k2])
        have b2 := Same.upd (o := HO.tup [V.str "kept", .ref k2]) q2 _ _ (upd_same (H := G1) (a := k2) (o := HO.lst [V.bl true, .bl true, .bl false, .bl false, .bl false]))
        clear g2 q2
        generalize upd (upd G1 k2 (HO.lst [V.bl true, .bl true, .bl false, .bl false, .bl false])) t2 (HO.tup [V.str "kept", .ref k2]) = G2 at u2 r2 b2 ⊢
        refine ⟨(by show 5 ≤ sizeLine; decide), fun k3 g3 => ⟨(by show 2 ≤ sizeLine; decide), fun t3 q3 => ?_⟩⟩
        have u3 := (Same.upd (o := HO.lst [V.bl true, .bl true, .bl true, .bl false, .bl false]) g3).trans (Same.upd (o := HO.tup [V.str "make", .ref k3]) q3)
        have r3 := upd_same (H := upd G2 k3 (HO.lst [V.bl true, .bl true, .bl true, .bl false, .bl false])) (a := t3) (o := HO.tup [V.str "make", .ref k3])
        have b3 := Same.upd (o := HO.tup [V.str "make", .ref k3]) q3 _ _ (upd_same (H := G2) (a := k3) (o := HO.lst [V.bl true, .bl true, .bl true, .bl false, .bl false]))
        clear g3 q3
        generalize upd (upd G2 k3 (HO.lst [V.bl true, .bl true, .bl true, .bl false, .bl false])) t3 (HO.tup [V.str "make", .ref k3]) = G3 at u3 r3 b3 ⊢
        refine ⟨(by show 5 ≤ sizeLine; decide), fun k4 g4 => ⟨(by show 2 ≤ sizeLine; decide), fun t4 q4 => ?_⟩⟩
        have u4 := (Same.upd (o := HO.lst [V.bl true, .bl true, .bl true, .bl true, .bl false]) g4).trans (Same.upd (o := HO.tup [V.str "watch", .ref k4]) q4)
        have r4 := upd_same (H := upd G3 k4 (HO.lst [V.bl true, .bl true, .bl true, .bl true, .bl false])) (a := t4) (o := HO.tup [V.str "watch", .ref k4])
        have b4 := Same.upd (o := HO.tup [V.str "watch", .ref k4]) q4 _ _ (upd_same (H := G3) (a := k4) (o := HO.lst [V.bl true, .bl true, .bl true, .bl true, .bl false]))
        clear g4 q4
        generalize upd (upd G3 k4 (HO.lst [V.bl true, .bl true, .bl true, .bl true, .bl false])) t4 (HO.tup [V.str "watch", .ref k4]) = G4 at u4 r4 b4 ⊢
        refine ⟨(by show 5 ≤ sizeLine; decide), fun k5 g5 => ⟨(by show 2 ≤ sizeLine; decide), fun t5 q5 => ?_⟩⟩
        have u5 := (Same.upd (o := HO.lst [V.bl true, .bl true, .bl false, .bl false, .bl true]) g5).trans (Same.upd (o := HO.tup [V.str "hold", .ref k5]) q5)
        have r5 := upd_same (H := upd G4 k5 (HO.lst [V.bl true, .bl true, .bl false, .bl false, .bl true])) (a := t5) (o := HO.tup [V.str "hold", .ref k5])
        have b5 := Same.upd (o := HO.tup [V.str "hold", .ref k5]) q5 _ _ (upd_same (H := G4) (a := k5) (o := HO.lst [V.bl true, .bl true, .bl false, .bl false, .bl true]))
        clear g5 q5
        generalize upd (upd G4 k5 (HO.lst [V.bl true, .bl true, .bl false, .bl false, .bl true])) t5 (HO.tup [V.str "hold", .ref k5]) = G5 at u5 r5 b5 ⊢
        refine ⟨(by show 5 ≤ sizeLine; decide), fun rw0 gr => ?_⟩
        have u6 := Same.upd (o := HO.lst [V.ref t1, .ref t2, .ref t3, .ref t4, .ref t5]) gr
        have hrw := upd_same (H := G5) (a := rw0) (o := HO.lst [V.ref t1, .ref t2, .ref t3, .ref t4, .ref t5])
        clear gr
        generalize upd G5 rw0 (HO.lst [V.ref t1, .ref t2, .ref t3, .ref t4, .ref t5]) = Gf at u6 hrw ⊢
        replace r1 := u6 _ _ (u5 _ _ (u4 _ _ (u3 _ _ (u2 _ _ (r1)))))
        replace b1 := u6 _ _ (u5 _ _ (u4 _ _ (u3 _ _ (u2 _ _ (b1)))))
        replace r2 := u6 _ _ (u5 _ _ (u4 _ _ (u3 _ _ (r2))))
        replace b2 := u6 _ _ (u5 _ _ (u4 _ _ (u3 _ _ (b2))))
        replace r3 := u6 _ _ (u5 _ _ (u4 _ _ (r3)))
        replace b3 := u6 _ _ (u5 _ _ (u4 _ _ (b3)))
        replace r4 := u6 _ _ (u5 _ _ (r4))
        replace b4 := u6 _ _ (u5 _ _ (b4))
        replace r5 := u6 _ _ (r5)
        replace b5 := u6 _ _ (b5)
        have sG := sS.trans (u1.trans (u2.trans (u3.trans (u4.trans (u5.trans u6)))))
        replace hD := u6 _ _ (u5 _ _ (u4 _ _ (u3 _ _ (u2 _ _ (u1 _ _ hD)))))
        clear u1 u2 u3 u4 u5 u6
        first | refine stn [some (.ref a), some (.int bg), some (.int nw), some (.int sm), some (.int lk), some (.int pl), some (.ref D), some (.ref rw0), none, none, none, none, none, none] rfl ?_ | refine stg [some (.ref a), some (.int bg), some (.int nw), some (.int sm), some (.int lk), some (.int pl), some (.ref D), some (.ref rw0), none, none, none, none, none, none] rfl ?_
        have at_ : ∀ (i : Nat) y, [V.ref t1, .ref t2, .ref t3, .ref t4, .ref t5][i]? = some y → ∃ l t kh, y = V.ref t ∧ Gf t = some (.tup [V.str (wd l), .ref kh]) ∧ Gf kh = some (.lst ((kinL l).map V.bl)) := fun i y hy => by
          match i, hy with
          | 0, hy => exact ⟨.loose, t1, k1, (Option.some.inj hy).symm, r1, b1⟩
          | 1, hy => exact ⟨.kept, t2, k2, (Option.some.inj hy).symm, r2, b2⟩
          | 2, hy => exact ⟨.make, t3, k3, (Option.some.inj hy).symm, r3, b3⟩
          | 3, hy => exact ⟨.watch, t4, k4, (Option.some.inj hy).symm, r4, b4⟩
          | 4, hy => exact ⟨.hold, t5, k5, (Option.some.inj hy).symm, r5, b5⟩
          | n + 5, hy => simp at hy
        refine ⟨_, rfl, rw0, rfl, ⟨_, SqL.of hrw⟩, for_list (K := K) (a := rw0) (xs := [V.ref t1, .ref t2, .ref t3, .ref t4, .ref t5]) (fun i σ Hn => Same Gf Hn ∧ ∃ (x8 x9 x10 x11 x12 x13 : Option V), σ = [some (.ref a), some (.int bg), some (.int nw), some (.int sm), some (.int lk), some (.int pl), some (.ref D), some (.ref rw0), x8, x9, x10, x11, x12, x13]) ⟨Same.refl _, none, none, none, none, none, none, rfl⟩ (fun i σ Hn _ ⟨sn, _⟩ => SqL.of (sn _ _ hrw)) ?_ ?_⟩
        · rintro i y σ Hn hy ⟨sn, x8, x9, x10, x11, x12, x13, rfl⟩
          obtain ⟨l, t, kh, rfl, ht, hk⟩ := at_ i y hy
          refine ⟨t, _, rfl, SqT.of (sn _ _ ht), rfl, _, _, rfl, _, _, rfl, rfl, ?_⟩
          have wl := wd_len l
          refine ⟨_, rfl, wd l, rfl, (by omega), (fun c hc => Nat.lt_trans (wl.2 c hc) (by decide)), (fun m em lv dx H1 s1 hlv => ?_), fun hno => absurd rfl (hno l)⟩
          rw [wd_inj em] at hlv
          refine ⟨_, rfl, lv, l, dx, [], rfl, hlv, rfl, _, rfl, ?_⟩
          refine ⟨_, rfl, _, _, _, _, rfl, TyOf.str _, kit_ss, _, rfl, iteF ?_⟩
          refine ⟨_, rfl, _, rfl, rfl, _, rfl, iteNS rfl ?_⟩
          refine ⟨_, rfl, lv, dx, l, rfl, hlv, fun kp Hk hkn sk hkl => ?_⟩
          refine ⟨_, rfl, _, _, .lst (SqL.of hkl) (dts_bls _), .lst (SqL.of (sk _ _ (s1 _ _ (sn _ _ hk)))) (dts_bls _), (kin_dat l).1, (kin_dat l).1, _, rfl, ?_⟩
          rw [(kin_dat l).2]
          refine iteF ?_
          refine ⟨_, rfl, ?_⟩
          refine ⟨_, rfl, (by show 2 ≤ sizeLine; decide), fun p hp => ?_⟩
          have y2 := Same.upd (o := HO.tup [V.str "make", .str "watch"]) hp
          have S3 := sn.trans (s1.trans (sk.trans y2))
          have hlv2 := y2 _ _ (sk _ _ hlv)
          refine ⟨p, [V.str "make", .str "watch"], rfl, .inr (SqT.of upd_same), rfl, rfl, mkw l, congrArg V.bl (w_is l).2.2.2, ite2 (fun e => ⟨_, rfl, ?_⟩) (fun e => ?_)⟩
          · have hs : bg = standL l bg nw := by cases l <;> first | rfl | cases e
            refine ⟨_, rfl, lv, l, dx, [], rfl, hlv2, rfl, _, rfl, _, rfl, _, bg, nw, rfl, _, rfl, some (standL l bg nw), congrArg (fun z => [V.int (standL l bg nw), V.int z]) hs, _, rfl, iteF ?_⟩
            refine ⟨_, rfl, _, rfl, _, rfl, _, rfl, lv, dx, l, bg, sm, rfl, hlv2, fun Hb sb => ⟨_, rfl, iteF ?_⟩⟩
            have hlv3 := sb _ _ hlv2
            refine ⟨_, rfl, _, rfl, _, rfl, _, rfl, lv, dx, l, lk, pl, rfl, hlv3, _, rfl, iteF ?_⟩
            refine ⟨(by show 2 ≤ sizeLine; decide), fun bl gb => ?_⟩
            have y3 := Same.upd (o := HO.lst [V.bl false, .bl true]) gb
            have hbl := upd_same (H := Hb) (a := bl) (o := HO.lst [V.bl false, .bl true])
            have S4 := S3.trans (sb.trans y3)
            replace hlv3 := y3 _ _ hlv3
            clear y3 gb
            generalize upd Hb bl (HO.lst [V.bl false, .bl true]) = Hc at hbl S4 hlv3 ⊢
            refine ⟨bl, rfl, ⟨_, SqL.of hbl⟩, for_list (K := K) (a := bl) (xs := [V.bl false, .bl true]) (fun i σ Hn => Same Hc Hn ∧ ∃ (x12 x13 : Option V), σ = [some (.ref a), some (.int bg), some (.int nw), some (.int sm), some (.int lk), some (.int pl), some (.ref D), some (.ref rw0), some (.str (wd l)), some (.ref kh), some (.ref lv), some (.str (wd l)), x12, x13]) ⟨Same.refl _, _, _, rfl⟩ (fun i σ Hn _ ⟨sn, _⟩ => SqL.of (sn _ _ hbl)) ?_ ?_⟩
            · rintro i y σ Hn hy ⟨sn, x12, x13, rfl⟩
              obtain ⟨so, rfl⟩ : ∃ so : Bool, y = .bl so := by
                have hm := List.mem_of_getElem? hy
                simp only [List.mem_cons, List.not_mem_nil, or_false] at hm
                rcases hm with rfl | rfl <;> exact ⟨_, rfl⟩
              exact ⟨_, rfl, _, rfl, _, rfl, _, rfl, _, rfl, _, rfl, lv, dx, D, l, bg, nw, ms, so, rfl, sn _ _ hlv3, sn _ _ (S4 _ _ hD), hms, fun Hz sz => ⟨_, rfl, iteF ⟨sn.trans sz, _, _, rfl⟩⟩⟩
            · rintro σ Hn ⟨sn, x12, x13, rfl⟩
              exact ⟨S4.trans sn, _, _, _, _, _, _, rfl⟩
          · have hs : nw = standL l bg nw := by cases l <;> first | rfl | exact absurd rfl e
            refine ⟨_, rfl, lv, l, dx, [], rfl, hlv2, rfl, _, rfl, _, rfl, _, bg, nw, rfl, _, rfl, some (standL l bg nw), congrArg (fun z => [V.int (standL l bg nw), V.int z]) hs, _, rfl, iteF ?_⟩
            refine ⟨_, rfl, _, rfl, _, rfl, _, rfl, lv, dx, l, bg, sm, rfl, hlv2, fun Hb sb => ⟨_, rfl, iteF ?_⟩⟩
            have hlv3 := sb _ _ hlv2
            refine ⟨_, rfl, _, rfl, _, rfl, _, rfl, lv, dx, l, lk, pl, rfl, hlv3, _, rfl, iteF ?_⟩
            refine ⟨(by show 2 ≤ sizeLine; decide), fun bl gb => ?_⟩
            have y3 := Same.upd (o := HO.lst [V.bl false, .bl true]) gb
            have hbl := upd_same (H := Hb) (a := bl) (o := HO.lst [V.bl false, .bl true])
            have S4 := S3.trans (sb.trans y3)
            replace hlv3 := y3 _ _ hlv3
            clear y3 gb
            generalize upd Hb bl (HO.lst [V.bl false, .bl true]) = Hc at hbl S4 hlv3 ⊢
            refine ⟨bl, rfl, ⟨_, SqL.of hbl⟩, for_list (K := K) (a := bl) (xs := [V.bl false, .bl true]) (fun i σ Hn => Same Hc Hn ∧ ∃ (x12 x13 : Option V), σ = [some (.ref a), some (.int bg), some (.int nw), some (.int sm), some (.int lk), some (.int pl), some (.ref D), some (.ref rw0), some (.str (wd l)), some (.ref kh), some (.ref lv), some (.str (wd l)), x12, x13]) ⟨Same.refl _, _, _, rfl⟩ (fun i σ Hn _ ⟨sn, _⟩ => SqL.of (sn _ _ hbl)) ?_ ?_⟩
            · rintro i y σ Hn hy ⟨sn, x12, x13, rfl⟩
              obtain ⟨so, rfl⟩ : ∃ so : Bool, y = .bl so := by
                have hm := List.mem_of_getElem? hy
                simp only [List.mem_cons, List.not_mem_nil, or_false] at hm
                rcases hm with rfl | rfl <;> exact ⟨_, rfl⟩
              exact ⟨_, rfl, _, rfl, _, rfl, _, rfl, _, rfl, _, rfl, lv, dx, D, l, bg, nw, ms, so, rfl, sn _ _ hlv3, sn _ _ (S4 _ _ hD), hms, fun Hz sz => ⟨_, rfl, iteF ⟨sn.trans sz, _, _, rfl⟩⟩⟩
            · rintro σ Hn ⟨sn, x12, x13, rfl⟩
              exact ⟨S4.trans sn, _, _, _, _, _, _, rfl⟩
        · rintro σ Hn ⟨sn, x8, x9, x10, x11, x12, x13, rfl⟩
          exact ⟨_, rfl, a, ns, 7, rfl, (sG.trans sn).seq hS, (by decide), (by decide), fun c7 => ⟨c7, rfl, fun x Hx hx sx => ⟨x, rfl, hx, k⟩⟩⟩
    · skip
      refine ⟨_, rfl, a, ns, 4, rfl, hS, (by decide), (by decide), fun c4 => ⟨_, _, rfl, rfl, (by show (0 : Int) < 41; decide), ?_⟩⟩
      obtain ⟨lk, hlk⟩ : ∃ lk, lk = c4 % 41 := ⟨_, rfl⟩
      have lk0 : 0 ≤ lk ∧ lk < 41 := by omega
      first | refine stn [some (.ref a), some (.int bg), some (.int nw), some (.int sm), some (.int lk), none, none, none, none, none, none, none, none, none] (by cases hlk; rfl) ?_ | refine stg [some (.ref a), some (.int bg), some (.int nw), some (.int sm), some (.int lk), none, none, none, none, none, none, none, none, none] (by cases hlk; rfl) ?_
      clear hlk
      refine ⟨_, rfl, a, ns, 5, rfl, hS, (by decide), (by decide), fun c5 => ⟨_, rfl, _, _, rfl, _, _, rfl, rfl, (by show (0 : Int) < (if lk > 1 then lk else 1); split <;> omega), ?_⟩⟩
      obtain ⟨pl, hpl⟩ : ∃ pl, pl = c5 % (if lk > 1 then lk else 1) := ⟨_, rfl⟩
      first | refine stn [some (.ref a), some (.int bg), some (.int nw), some (.int sm), some (.int lk), some (.int pl), none, none, none, none, none, none, none, none] (by cases hpl; rfl) ?_ | refine stg [some (.ref a), some (.int bg), some (.int nw), some (.int sm), some (.int lk), some (.int pl), none, none, none, none, none, none, none, none] (by cases hpl; rfl) ?_
      clear hpl
      have z41 : (41 : Nat) ≤ sizeLine := by decide
      refine ⟨_, rfl, _, rfl, (by omega), (by omega), ?_⟩
      refine compQF_each (k := 1) (fs := [some (.ref a)]) lk.toNat (fun _ v => ∃ z : Int, v = .int z) rfl (by omega) (fun j H3 _ hj => hj) (fun H3 _ => Nat.le_refl _) ?_ ?_
      · rintro j H3 ts v H4 R ss hj hts ⟨rfl, rfl⟩ cb
        obtain ⟨t, rfl⟩ := List.length_eq_one_iff.mp hts
        exact ⟨_, rfl, a, ns, 6, rfl, ss.seq hS, (by decide), (by decide), fun z => ⟨_, rfl, z, _, rfl, (by omega), (by omega), fun zz => cb _ [_] _ ⟨zz, rfl⟩ rfl (Same.refl _)⟩⟩
      · intro D Hs ys hDn sS hyl hya hD
        obtain ⟨ms, rfl⟩ := ints_of _ hya
        have hms : ms.length ≤ 41 := by
          rw [List.length_map] at hyl
          omega
        first | refine stn [some (.ref a), some (.int bg), some (.int nw), some (.int sm), some (.int lk), some (.int pl), some (.ref D), none, none, none, none, none, none, none] rfl ?_ | refine stg [some (.ref a), some (.int bg), some (.int nw), some (.int sm), some (.int lk), some (.int pl), some (.ref D), none, none, none, none, none, none, none] rfl ?_
        refine ⟨(by show 5 ≤ sizeLine; decide), fun k1 g1 => ⟨(by show 2 ≤ sizeLine; decide), fun t1 q1 => ?_⟩⟩
        have u1 := (Same.upd (o := HO.lst [V.bl true, .bl false, .bl false, .bl false, .bl false]) g1).trans (Same.upd (o := HO.tup [V.str "loose", .ref k1]) q1)
        have r1 := upd_same (H := upd Hs k1 (HO.lst [V.bl true, .bl false, .bl false, .bl false, .bl false])) (a := t1) (o := HO.tup [V.str "loose", .ref k1])
        have b1 := Same.upd (o := HO.tup [V.str "loose", .ref k1]) q1 _ _ (upd_same (H := Hs) (a := k1) (o := HO.lst [V.bl true, .bl false, .bl false, .bl false, .bl false]))
        clear g1 q1
        generalize upd (upd Hs k1 (HO.lst [V.bl true, .bl false, .bl false, .bl false, .bl false])) t1 (HO.tup [V.str "loose", .ref k1]) = G1 at u1 r1 b1 ⊢
        refine ⟨(by show 5 ≤ sizeLine; decide), fun k2 g2 => ⟨(by show 2 ≤ sizeLine; decide), fun t2 q2 => ?_⟩⟩
        have u2 := (Same.upd (o := HO.lst [V.bl true, .bl true, .bl false, .bl false, .bl false]) g2).trans (Same.upd (o := HO.tup [V.str "kept", .ref k2]) q2)
        have r2 := upd_same (H := upd G1 k2 (HO.lst [V.bl true, .bl true, .bl false, .bl false, .bl false])) (a := t2) (o := HO.tup [V.str "kept", .ref k2])
        have b2 := Same.upd (o := HO.tup [V.str "kept", .ref k2]) q2 _ _ (upd_same (H := G1) (a := k2) (o := HO.lst [V.bl true, .bl true, .bl false, .bl false, .bl false]))
        clear g2 q2
        generalize upd (upd G1 k2 (HO.lst [V.bl true, .bl true, .bl false, .bl false, .bl false])) t2 (HO.tup [V.str "kept", .ref k2]) = G2 at u2 r2 b2 ⊢
        refine ⟨(by show 5 ≤ sizeLine; decide), fun k3 g3 => ⟨(by show 2 ≤ sizeLine; decide), fun t3 q3 => ?_⟩⟩
        have u3 := (Same.upd (o := HO.lst [V.bl true, .bl true, .bl true, .bl false, .bl false]) g3).trans (Same.upd (o := HO.tup [V.str "make", .ref k3]) q3)
        have r3 := upd_same (H := upd G2 k3 (HO.lst [V.bl true, .bl true, .bl true, .bl false, .bl false])) (a := t3) (o := HO.tup [V.str "make", .ref k3])
        have b3 := Same.upd (o := HO.tup [V.str "make", .ref k3]) q3 _ _ (upd_same (H := G2) (a := k3) (o := HO.lst [V.bl true, .bl true, .bl true, .bl false, .bl false]))
        clear g3 q3
        generalize upd (upd G2 k3 (HO.lst [V.bl true, .bl true, .bl true, .bl false, .bl false])) t3 (HO.tup [V.str "make", .ref k3]) = G3 at u3 r3 b3 ⊢
        refine ⟨(by show 5 ≤ sizeLine; decide), fun k4 g4 => ⟨(by show 2 ≤ sizeLine; decide), fun t4 q4 => ?_⟩⟩
        have u4 := (Same.upd (o := HO.lst [V.bl true, .bl true, .bl true, .bl true, .bl false]) g4).trans (Same.upd (o := HO.tup [V.str "watch", .ref k4]) q4)
        have r4 := upd_same (H := upd G3 k4 (HO.lst [V.bl true, .bl true, .bl true, .bl true, .bl false])) (a := t4) (o := HO.tup [V.str "watch", .ref k4])
        have b4 := Same.upd (o := HO.tup [V.str "watch", .ref k4]) q4 _ _ (upd_same (H := G3) (a := k4) (o := HO.lst [V.bl true, .bl true, .bl true, .bl true, .bl false]))
        clear g4 q4
        generalize upd (upd G3 k4 (HO.lst [V.bl true, .bl true, .bl true, .bl true, .bl false])) t4 (HO.tup [V.str "watch", .ref k4]) = G4 at u4 r4 b4 ⊢
        refine ⟨(by show 5 ≤ sizeLine; decide), fun k5 g5 => ⟨(by show 2 ≤ sizeLine; decide), fun t5 q5 => ?_⟩⟩
        have u5 := (Same.upd (o := HO.lst [V.bl true, .bl true, .bl false, .bl false, .bl true]) g5).trans (Same.upd (o := HO.tup [V.str "hold", .ref k5]) q5)
        have r5 := upd_same (H := upd G4 k5 (HO.lst [V.bl true, .bl true, .bl false, .bl false, .bl true])) (a := t5) (o := HO.tup [V.str "hold", .ref k5])
        have b5 := Same.upd (o := HO.tup [V.str "hold", .ref k5]) q5 _ _ (upd_same (H := G4) (a := k5) (o := HO.lst [V.bl true, .bl true, .bl false, .bl false, .bl true]))
        clear g5 q5
        generalize upd (upd G4 k5 (HO.lst [V.bl true, .bl true, .bl false, .bl false, .bl true])) t5 (HO.tup [V.str "hold", .ref k5]) = G5 at u5 r5 b5 ⊢
        refine ⟨(by show 5 ≤ sizeLine; decide), fun rw0 gr => ?_⟩
        have u6 := Same.upd (o := HO.lst [V.ref t1, .ref t2, .ref t3, .ref t4, .ref t5]) gr
        have hrw := upd_same (H := G5) (a := rw0) (o := HO.lst [V.ref t1, .ref t2, .ref t3, .ref t4, .ref t5])
        clear gr
        generalize upd G5 rw0 (HO.lst [V.ref t1, .ref t2, .ref t3, .ref t4, .ref t5]) = Gf at u6 hrw ⊢
        replace r1 := u6 _ _ (u5 _ _ (u4 _ _ (u3 _ _ (u2 _ _ (r1)))))
        replace b1 := u6 _ _ (u5 _ _ (u4 _ _ (u3 _ _ (u2 _ _ (b1)))))
        replace r2 := u6 _ _ (u5 _ _ (u4 _ _ (u3 _ _ (r2))))
        replace b2 := u6 _ _ (u5 _ _ (u4 _ _ (u3 _ _ (b2))))
        replace r3 := u6 _ _ (u5 _ _ (u4 _ _ (r3)))
        replace b3 := u6 _ _ (u5 _ _ (u4 _ _ (b3)))
        replace r4 := u6 _ _ (u5 _ _ (r4))
        replace b4 := u6 _ _ (u5 _ _ (b4))
        replace r5 := u6 _ _ (r5)
        replace b5 := u6 _ _ (b5)
        have sG := sS.trans (u1.trans (u2.trans (u3.trans (u4.trans (u5.trans u6)))))
        replace hD := u6 _ _ (u5 _ _ (u4 _ _ (u3 _ _ (u2 _ _ (u1 _ _ hD)))))
        clear u1 u2 u3 u4 u5 u6
        first | refine stn [some (.ref a), some (.int bg), some (.int nw), some (.int sm), some (.int lk), some (.int pl), some (.ref D), some (.ref rw0), none, none, none, none, none, none] rfl ?_ | refine stg [some (.ref a), some (.int bg), some (.int nw), some (.int sm), some (.int lk), some (.int pl), some (.ref D), some (.ref rw0), none, none, none, none, none, none] rfl ?_
        have at_ : ∀ (i : Nat) y, [V.ref t1, .ref t2, .ref t3, .ref t4, .ref t5][i]? = some y → ∃ l t kh, y = V.ref t ∧ Gf t = some (.tup [V.str (wd l), .ref kh]) ∧ Gf kh = some (.lst ((kinL l).map V.bl)) := fun i y hy => by
          match i, hy with
          | 0, hy => exact ⟨.loose, t1, k1, (Option.some.inj hy).symm, r1, b1⟩
          | 1, hy => exact ⟨.kept, t2, k2, (Option.some.inj hy).symm, r2, b2⟩
          | 2, hy => exact ⟨.make, t3, k3, (Option.some.inj hy).symm, r3, b3⟩
          | 3, hy => exact ⟨.watch, t4, k4, (Option.some.inj hy).symm, r4, b4⟩
          | 4, hy => exact ⟨.hold, t5, k5, (Option.some.inj hy).symm, r5, b5⟩
          | n + 5, hy => simp at hy
        refine ⟨_, rfl, rw0, rfl, ⟨_, SqL.of hrw⟩, for_list (K := K) (a := rw0) (xs := [V.ref t1, .ref t2, .ref t3, .ref t4, .ref t5]) (fun i σ Hn => Same Gf Hn ∧ ∃ (x8 x9 x10 x11 x12 x13 : Option V), σ = [some (.ref a), some (.int bg), some (.int nw), some (.int sm), some (.int lk), some (.int pl), some (.ref D), some (.ref rw0), x8, x9, x10, x11, x12, x13]) ⟨Same.refl _, none, none, none, none, none, none, rfl⟩ (fun i σ Hn _ ⟨sn, _⟩ => SqL.of (sn _ _ hrw)) ?_ ?_⟩
        · rintro i y σ Hn hy ⟨sn, x8, x9, x10, x11, x12, x13, rfl⟩
          obtain ⟨l, t, kh, rfl, ht, hk⟩ := at_ i y hy
          refine ⟨t, _, rfl, SqT.of (sn _ _ ht), rfl, _, _, rfl, _, _, rfl, rfl, ?_⟩
          have wl := wd_len l
          refine ⟨_, rfl, wd l, rfl, (by omega), (fun c hc => Nat.lt_trans (wl.2 c hc) (by decide)), (fun m em lv dx H1 s1 hlv => ?_), fun hno => absurd rfl (hno l)⟩
          rw [wd_inj em] at hlv
          refine ⟨_, rfl, lv, l, dx, [], rfl, hlv, rfl, _, rfl, ?_⟩
          refine ⟨_, rfl, _, _, _, _, rfl, TyOf.str _, kit_ss, _, rfl, iteF ?_⟩
          refine ⟨_, rfl, _, rfl, rfl, _, rfl, iteNS rfl ?_⟩
          refine ⟨_, rfl, lv, dx, l, rfl, hlv, fun kp Hk hkn sk hkl => ?_⟩
          refine ⟨_, rfl, _, _, .lst (SqL.of hkl) (dts_bls _), .lst (SqL.of (sk _ _ (s1 _ _ (sn _ _ hk)))) (dts_bls _), (kin_dat l).1, (kin_dat l).1, _, rfl, ?_⟩
          rw [(kin_dat l).2]
          refine iteF ?_
          refine ⟨_, rfl, ?_⟩
          refine ⟨_, rfl, (by show 2 ≤ sizeLine; decide), fun p hp => ?_⟩
          have y2 := Same.upd (o := HO.tup [V.str "make", .str "watch"]) hp
          have S3 := sn.trans (s1.trans (sk.trans y2))
          have hlv2 := y2 _ _ (sk _ _ hlv)
          refine ⟨p, [V.str "make", .str "watch"], rfl, .inr (SqT.of upd_same), rfl, rfl, mkw l, congrArg V.bl (w_is l).2.2.2, ite2 (fun e => ⟨_, rfl, ?_⟩) (fun e => ?_)⟩
          · have hs : bg = standL l bg nw := by cases l <;> first | rfl | cases e
            refine ⟨_, rfl, lv, l, dx, [], rfl, hlv2, rfl, _, rfl, _, rfl, _, bg, nw, rfl, _, rfl, some (standL l bg nw), congrArg (fun z => [V.int (standL l bg nw), V.int z]) hs, _, rfl, iteF ?_⟩
            refine ⟨_, rfl, _, rfl, _, rfl, _, rfl, lv, dx, l, bg, sm, rfl, hlv2, fun Hb sb => ⟨_, rfl, iteF ?_⟩⟩
            have hlv3 := sb _ _ hlv2
            refine ⟨_, rfl, _, rfl, _, rfl, _, rfl, lv, dx, l, lk, pl, rfl, hlv3, _, rfl, iteF ?_⟩
            refine ⟨(by show 2 ≤ sizeLine; decide), fun bl gb => ?_⟩
            have y3 := Same.upd (o := HO.lst [V.bl false, .bl true]) gb
            have hbl := upd_same (H := Hb) (a := bl) (o := HO.lst [V.bl false, .bl true])
            have S4 := S3.trans (sb.trans y3)
            replace hlv3 := y3 _ _ hlv3
            clear y3 gb
            generalize upd Hb bl (HO.lst [V.bl false, .bl true]) = Hc at hbl S4 hlv3 ⊢
            refine ⟨bl, rfl, ⟨_, SqL.of hbl⟩, for_list (K := K) (a := bl) (xs := [V.bl false, .bl true]) (fun i σ Hn => Same Hc Hn ∧ ∃ (x12 x13 : Option V), σ = [some (.ref a), some (.int bg), some (.int nw), some (.int sm), some (.int lk), some (.int pl), some (.ref D), some (.ref rw0), some (.str (wd l)), some (.ref kh), some (.ref lv), some (.str (wd l)), x12, x13]) ⟨Same.refl _, _, _, rfl⟩ (fun i σ Hn _ ⟨sn, _⟩ => SqL.of (sn _ _ hbl)) ?_ ?_⟩
            · rintro i y σ Hn hy ⟨sn, x12, x13, rfl⟩
              obtain ⟨so, rfl⟩ : ∃ so : Bool, y = .bl so := by
                have hm := List.mem_of_getElem? hy
                simp only [List.mem_cons, List.not_mem_nil, or_false] at hm
                rcases hm with rfl | rfl <;> exact ⟨_, rfl⟩
              exact ⟨_, rfl, _, rfl, _, rfl, _, rfl, _, rfl, _, rfl, lv, dx, D, l, bg, nw, ms, so, rfl, sn _ _ hlv3, sn _ _ (S4 _ _ hD), hms, fun Hz sz => ⟨_, rfl, iteF ⟨sn.trans sz, _, _, rfl⟩⟩⟩
            · rintro σ Hn ⟨sn, x12, x13, rfl⟩
              exact ⟨S4.trans sn, _, _, _, _, _, _, rfl⟩
          · have hs : nw = standL l bg nw := by cases l <;> first | rfl | exact absurd rfl e
            refine ⟨_, rfl, lv, l, dx, [], rfl, hlv2, rfl, _, rfl, _, rfl, _, bg, nw, rfl, _, rfl, some (standL l bg nw), congrArg (fun z => [V.int (standL l bg nw), V.int z]) hs, _, rfl, iteF ?_⟩
            refine ⟨_, rfl, _, rfl, _, rfl, _, rfl, lv, dx, l, bg, sm, rfl, hlv2, fun Hb sb => ⟨_, rfl, iteF ?_⟩⟩
            have hlv3 := sb _ _ hlv2
            refine ⟨_, rfl, _, rfl, _, rfl, _, rfl, lv, dx, l, lk, pl, rfl, hlv3, _, rfl, iteF ?_⟩
            refine ⟨(by show 2 ≤ sizeLine; decide), fun bl gb => ?_⟩
            have y3 := Same.upd (o := HO.lst [V.bl false, .bl true]) gb
            have hbl := upd_same (H := Hb) (a := bl) (o := HO.lst [V.bl false, .bl true])
            have S4 := S3.trans (sb.trans y3)
            replace hlv3 := y3 _ _ hlv3
            clear y3 gb
            generalize upd Hb bl (HO.lst [V.bl false, .bl true]) = Hc at hbl S4 hlv3 ⊢
            refine ⟨bl, rfl, ⟨_, SqL.of hbl⟩, for_list (K := K) (a := bl) (xs := [V.bl false, .bl true]) (fun i σ Hn => Same Hc Hn ∧ ∃ (x12 x13 : Option V), σ = [some (.ref a), some (.int bg), some (.int nw), some (.int sm), some (.int lk), some (.int pl), some (.ref D), some (.ref rw0), some (.str (wd l)), some (.ref kh), some (.ref lv), some (.str (wd l)), x12, x13]) ⟨Same.refl _, _, _, rfl⟩ (fun i σ Hn _ ⟨sn, _⟩ => SqL.of (sn _ _ hbl)) ?_ ?_⟩
            · rintro i y σ Hn hy ⟨sn, x12, x13, rfl⟩
              obtain ⟨so, rfl⟩ : ∃ so : Bool, y = .bl so := by
                have hm := List.mem_of_getElem? hy
                simp only [List.mem_cons, List.not_mem_nil, or_false] at hm
                rcases hm with rfl | rfl <;> exact ⟨_, rfl⟩
              exact ⟨_, rfl, _, rfl, _, rfl, _, rfl, _, rfl, _, rfl, lv, dx, D, l, bg, nw, ms, so, rfl, sn _ _ hlv3, sn _ _ (S4 _ _ hD), hms, fun Hz sz => ⟨_, rfl, iteF ⟨sn.trans sz, _, _, rfl⟩⟩⟩
            · rintro σ Hn ⟨sn, x12, x13, rfl⟩
              exact ⟨S4.trans sn, _, _, _, _, _, _, rfl⟩
        · rintro σ Hn ⟨sn, x8, x9, x10, x11, x12, x13, rfl⟩
          exact ⟨_, rfl, a, ns, 7, rfl, (sG.trans sn).seq hS, (by decide), (by decide), fun c7 => ⟨c7, rfl, fun x Hx hx sx => ⟨x, rfl, hx, k⟩⟩⟩
end
theorem all_mk {l : PySem.W.OpenLaw} {w : World} {K : PySem.W.Frag} {h : Heap} {mg : Str → Option Value} {fa : Addr} (X : K.In h) (G : h.Ns mainGlobals mg) (hfa : mg "law" = some (.ref fa))
    {ec0 : Addr} (e0 : PySem.W.nsIn K mainGlobals "SkewError" = some (some (.ref ec0)))
    {ec1 : Addr} (e1 : PySem.W.nsIn K mainGlobals "NoLevel" = some (some (.ref ec1)))
    {ec2 : Addr} (e2 : PySem.W.nsIn K mainGlobals "Loose" = some (some (.ref ec2)))
    {ec3 : Addr} (e3 : PySem.W.nsIn K mainGlobals "Kept" = some (some (.ref ec3)))
    {ec4 : Addr} (e4 : PySem.W.nsIn K mainGlobals "Make" = some (some (.ref ec4)))
    {ec5 : Addr} (e5 : PySem.W.nsIn K mainGlobals "Watch" = some (some (.ref ec5)))
    {ec6 : Addr} (e6 : PySem.W.nsIn K mainGlobals "Hold" = some (some (.ref ec6)))
    {f0 : Addr} {od0 an0 : Option Addr} {sl0 : Array (Option Value)} {oc0 kV0 dc0 pm0 cd0 ct0 : Value}
    (a0 : PySem.W.findIn K (.ref ec2) "word" = some (some (.ref f0))) (l0 : K.lookup f0 = some ⟨oc0, od0, .func (PySem.W.fnOf "word" "Loose.word" (defArgs s_Looseword) (defBody s_Looseword) (defScope s_Looseword) .none kV0 dc0 pm0 an0 cd0 ct0), sl0⟩) (c0 : PySem.W.codeIn K cd0 "Loose.word" = true) (k0 : PySem.W.keepIn K (.ref f0) = true)
    {f1 : Addr} {od1 an1 : Option Addr} {sl1 : Array (Option Value)} {oc1 kV1 dc1 pm1 cd1 ct1 : Value}
    (a1 : PySem.W.findIn K (.ref ec2) "stand" = some (some (.ref f1))) (l1 : K.lookup f1 = some ⟨oc1, od1, .func (PySem.W.fnOf "stand" "Loose.stand" (defArgs s_Loosestand) (defBody s_Loosestand) (defScope s_Loosestand) .none kV1 dc1 pm1 an1 cd1 ct1), sl1⟩) (c1 : PySem.W.codeIn K cd1 "Loose.stand" = true) (k1 : PySem.W.keepIn K (.ref f1) = true)
    {f2 : Addr} {od2 an2 : Option Addr} {sl2 : Array (Option Value)} {oc2 kV2 dc2 pm2 cd2 ct2 : Value}
    (a2 : PySem.W.findIn K (.ref ec2) "late" = some (some (.ref f2))) (l2 : K.lookup f2 = some ⟨oc2, od2, .func (PySem.W.fnOf "late" "Loose.late" (defArgs s_Looselate) (defBody s_Looselate) (defScope s_Looselate) .none kV2 dc2 pm2 an2 cd2 ct2), sl2⟩) (c2 : PySem.W.codeIn K cd2 "Loose.late" = true) (k2 : PySem.W.keepIn K (.ref f2) = true)
    {f3 : Addr} {od3 an3 : Option Addr} {sl3 : Array (Option Value)} {oc3 kV3 dc3 pm3 cd3 ct3 : Value}
    (a3 : PySem.W.findIn K (.ref ec2) "unkept" = some (some (.ref f3))) (l3 : K.lookup f3 = some ⟨oc3, od3, .func (PySem.W.fnOf "unkept" "Loose.unkept" (defArgs s_Looseunkept) (defBody s_Looseunkept) (defScope s_Looseunkept) .none kV3 dc3 pm3 an3 cd3 ct3), sl3⟩) (c3 : PySem.W.codeIn K cd3 "Loose.unkept" = true) (k3 : PySem.W.keepIn K (.ref f3) = true)
    {f4 : Addr} {od4 an4 : Option Addr} {sl4 : Array (Option Value)} {oc4 kV4 dc4 pm4 cd4 ct4 : Value}
    (a4 : PySem.W.findIn K (.ref ec2) "holds_asks" = some (some (.ref f4))) (l4 : K.lookup f4 = some ⟨oc4, od4, .func (PySem.W.fnOf "holds_asks" "Loose.holds_asks" (defArgs s_Looseholdsasks) (defBody s_Looseholdsasks) (defScope s_Looseholdsasks) .none kV4 dc4 pm4 an4 cd4 ct4), sl4⟩) (c4 : PySem.W.codeIn K cd4 "Loose.holds_asks" = true) (k4 : PySem.W.keepIn K (.ref f4) = true)
    {f5 : Addr} {od5 an5 : Option Addr} {sl5 : Array (Option Value)} {oc5 kV5 dc5 pm5 cd5 ct5 : Value}
    (a5 : PySem.W.findIn K (.ref ec2) "watches" = some (some (.ref f5))) (l5 : K.lookup f5 = some ⟨oc5, od5, .func (PySem.W.fnOf "watches" "Loose.watches" (defArgs s_Loosewatches) (defBody s_Loosewatches) (defScope s_Loosewatches) .none kV5 dc5 pm5 an5 cd5 ct5), sl5⟩) (c5 : PySem.W.codeIn K cd5 "Loose.watches" = true) (k5 : PySem.W.keepIn K (.ref f5) = true)
    {f6 : Addr} {od6 an6 : Option Addr} {sl6 : Array (Option Value)} {oc6 kV6 dc6 pm6 cd6 ct6 : Value}
    (a6 : PySem.W.findIn K (.ref ec2) "spots" = some (some (.ref f6))) (l6 : K.lookup f6 = some ⟨oc6, od6, .func (PySem.W.fnOf "spots" "Loose.spots" (defArgs s_Loosespots) (defBody s_Loosespots) (defScope s_Loosespots) .none kV6 dc6 pm6 an6 cd6 ct6), sl6⟩) (c6 : PySem.W.codeIn K cd6 "Loose.spots" = true) (k6 : PySem.W.keepIn K (.ref f6) = true)
    {f7 : Addr} {od7 an7 : Option Addr} {sl7 : Array (Option Value)} {oc7 kV7 dc7 pm7 cd7 ct7 : Value}
    (a7 : PySem.W.findIn K (.ref ec2) "look_spot" = some (some (.ref f7))) (l7 : K.lookup f7 = some ⟨oc7, od7, .func (PySem.W.fnOf "look_spot" "Loose.look_spot" (defArgs s_Looselookspot) (defBody s_Looselookspot) (defScope s_Looselookspot) .none kV7 dc7 pm7 an7 cd7 ct7), sl7⟩) (c7 : PySem.W.codeIn K cd7 "Loose.look_spot" = true) (k7 : PySem.W.keepIn K (.ref f7) = true)
    {f8 : Addr} {od8 an8 : Option Addr} {sl8 : Array (Option Value)} {oc8 kV8 dc8 pm8 cd8 ct8 : Value}
    (a8 : PySem.W.findIn K (.ref ec2) "first_spot" = some (some (.ref f8))) (l8 : K.lookup f8 = some ⟨oc8, od8, .func (PySem.W.fnOf "first_spot" "Loose.first_spot" (defArgs s_Loosefirstspot) (defBody s_Loosefirstspot) (defScope s_Loosefirstspot) .none kV8 dc8 pm8 an8 cd8 ct8), sl8⟩) (c8 : PySem.W.codeIn K cd8 "Loose.first_spot" = true) (k8 : PySem.W.keepIn K (.ref f8) = true)
    {f9 : Addr} {od9 an9 : Option Addr} {sl9 : Array (Option Value)} {oc9 kV9 dc9 pm9 cd9 ct9 : Value}
    (a9 : PySem.W.findIn K (.ref ec2) "stamps" = some (some (.ref f9))) (l9 : K.lookup f9 = some ⟨oc9, od9, .func (PySem.W.fnOf "stamps" "Loose.stamps" (defArgs s_Loosestamps) (defBody s_Loosestamps) (defScope s_Loosestamps) .none kV9 dc9 pm9 an9 cd9 ct9), sl9⟩) (c9 : PySem.W.codeIn K cd9 "Loose.stamps" = true) (k9 : PySem.W.keepIn K (.ref f9) = true)
    {f10 : Addr} {od10 an10 : Option Addr} {sl10 : Array (Option Value)} {oc10 kV10 dc10 pm10 cd10 ct10 : Value}
    (a10 : PySem.W.findIn K (.ref ec3) "word" = some (some (.ref f10))) (l10 : K.lookup f10 = some ⟨oc10, od10, .func (PySem.W.fnOf "word" "Kept.word" (defArgs s_Keptword) (defBody s_Keptword) (defScope s_Keptword) .none kV10 dc10 pm10 an10 cd10 ct10), sl10⟩) (c10 : PySem.W.codeIn K cd10 "Kept.word" = true) (k10 : PySem.W.keepIn K (.ref f10) = true)
    {f11 : Addr} {od11 an11 : Option Addr} {sl11 : Array (Option Value)} {oc11 kV11 dc11 pm11 cd11 ct11 : Value}
    (a11 : PySem.W.findIn K (.ref ec3) "unkept" = some (some (.ref f11))) (l11 : K.lookup f11 = some ⟨oc11, od11, .func (PySem.W.fnOf "unkept" "Kept.unkept" (defArgs s_Keptunkept) (defBody s_Keptunkept) (defScope s_Keptunkept) .none kV11 dc11 pm11 an11 cd11 ct11), sl11⟩) (c11 : PySem.W.codeIn K cd11 "Kept.unkept" = true) (k11 : PySem.W.keepIn K (.ref f11) = true)
    {f12 : Addr} {od12 an12 : Option Addr} {sl12 : Array (Option Value)} {oc12 kV12 dc12 pm12 cd12 ct12 : Value}
    (a12 : PySem.W.findIn K (.ref ec3) "spots" = some (some (.ref f12))) (l12 : K.lookup f12 = some ⟨oc12, od12, .func (PySem.W.fnOf "spots" "Kept.spots" (defArgs s_Keptspots) (defBody s_Keptspots) (defScope s_Keptspots) .none kV12 dc12 pm12 an12 cd12 ct12), sl12⟩) (c12 : PySem.W.codeIn K cd12 "Kept.spots" = true) (k12 : PySem.W.keepIn K (.ref f12) = true)
    {f13 : Addr} {od13 an13 : Option Addr} {sl13 : Array (Option Value)} {oc13 kV13 dc13 pm13 cd13 ct13 : Value}
    (a13 : PySem.W.findIn K (.ref ec3) "look_spot" = some (some (.ref f13))) (l13 : K.lookup f13 = some ⟨oc13, od13, .func (PySem.W.fnOf "look_spot" "Kept.look_spot" (defArgs s_Keptlookspot) (defBody s_Keptlookspot) (defScope s_Keptlookspot) .none kV13 dc13 pm13 an13 cd13 ct13), sl13⟩) (c13 : PySem.W.codeIn K cd13 "Kept.look_spot" = true) (k13 : PySem.W.keepIn K (.ref f13) = true)
    {f14 : Addr} {od14 an14 : Option Addr} {sl14 : Array (Option Value)} {oc14 kV14 dc14 pm14 cd14 ct14 : Value}
    (a14 : PySem.W.findIn K (.ref ec3) "first_spot" = some (some (.ref f14))) (l14 : K.lookup f14 = some ⟨oc14, od14, .func (PySem.W.fnOf "first_spot" "Kept.first_spot" (defArgs s_Keptfirstspot) (defBody s_Keptfirstspot) (defScope s_Keptfirstspot) .none kV14 dc14 pm14 an14 cd14 ct14), sl14⟩) (c14 : PySem.W.codeIn K cd14 "Kept.first_spot" = true) (k14 : PySem.W.keepIn K (.ref f14) = true)
    {f15 : Addr} {od15 an15 : Option Addr} {sl15 : Array (Option Value)} {oc15 kV15 dc15 pm15 cd15 ct15 : Value}
    (a15 : PySem.W.findIn K (.ref ec3) "stamps" = some (some (.ref f15))) (l15 : K.lookup f15 = some ⟨oc15, od15, .func (PySem.W.fnOf "stamps" "Kept.stamps" (defArgs s_Keptstamps) (defBody s_Keptstamps) (defScope s_Keptstamps) .none kV15 dc15 pm15 an15 cd15 ct15), sl15⟩) (c15 : PySem.W.codeIn K cd15 "Kept.stamps" = true) (k15 : PySem.W.keepIn K (.ref f15) = true)
    {f16 : Addr} {od16 an16 : Option Addr} {sl16 : Array (Option Value)} {oc16 kV16 dc16 pm16 cd16 ct16 : Value}
    (a16 : PySem.W.findIn K (.ref ec4) "word" = some (some (.ref f16))) (l16 : K.lookup f16 = some ⟨oc16, od16, .func (PySem.W.fnOf "word" "Make.word" (defArgs s_Makeword) (defBody s_Makeword) (defScope s_Makeword) .none kV16 dc16 pm16 an16 cd16 ct16), sl16⟩) (c16 : PySem.W.codeIn K cd16 "Make.word" = true) (k16 : PySem.W.keepIn K (.ref f16) = true)
    {f17 : Addr} {od17 an17 : Option Addr} {sl17 : Array (Option Value)} {oc17 kV17 dc17 pm17 cd17 ct17 : Value}
    (a17 : PySem.W.findIn K (.ref ec4) "stand" = some (some (.ref f17))) (l17 : K.lookup f17 = some ⟨oc17, od17, .func (PySem.W.fnOf "stand" "Make.stand" (defArgs s_Makestand) (defBody s_Makestand) (defScope s_Makestand) .none kV17 dc17 pm17 an17 cd17 ct17), sl17⟩) (c17 : PySem.W.codeIn K cd17 "Make.stand" = true) (k17 : PySem.W.keepIn K (.ref f17) = true)
    {f18 : Addr} {od18 an18 : Option Addr} {sl18 : Array (Option Value)} {oc18 kV18 dc18 pm18 cd18 ct18 : Value}
    (a18 : PySem.W.findIn K (.ref ec4) "late" = some (some (.ref f18))) (l18 : K.lookup f18 = some ⟨oc18, od18, .func (PySem.W.fnOf "late" "Make.late" (defArgs s_Makelate) (defBody s_Makelate) (defScope s_Makelate) .none kV18 dc18 pm18 an18 cd18 ct18), sl18⟩) (c18 : PySem.W.codeIn K cd18 "Make.late" = true) (k18 : PySem.W.keepIn K (.ref f18) = true)
    {f19 : Addr} {od19 an19 : Option Addr} {sl19 : Array (Option Value)} {oc19 kV19 dc19 pm19 cd19 ct19 : Value}
    (a19 : PySem.W.findIn K (.ref ec4) "spots" = some (some (.ref f19))) (l19 : K.lookup f19 = some ⟨oc19, od19, .func (PySem.W.fnOf "spots" "Make.spots" (defArgs s_Makespots) (defBody s_Makespots) (defScope s_Makespots) .none kV19 dc19 pm19 an19 cd19 ct19), sl19⟩) (c19 : PySem.W.codeIn K cd19 "Make.spots" = true) (k19 : PySem.W.keepIn K (.ref f19) = true)
    {f20 : Addr} {od20 an20 : Option Addr} {sl20 : Array (Option Value)} {oc20 kV20 dc20 pm20 cd20 ct20 : Value}
    (a20 : PySem.W.findIn K (.ref ec4) "look_spot" = some (some (.ref f20))) (l20 : K.lookup f20 = some ⟨oc20, od20, .func (PySem.W.fnOf "look_spot" "Make.look_spot" (defArgs s_Makelookspot) (defBody s_Makelookspot) (defScope s_Makelookspot) .none kV20 dc20 pm20 an20 cd20 ct20), sl20⟩) (c20 : PySem.W.codeIn K cd20 "Make.look_spot" = true) (k20 : PySem.W.keepIn K (.ref f20) = true)
    {f21 : Addr} {od21 an21 : Option Addr} {sl21 : Array (Option Value)} {oc21 kV21 dc21 pm21 cd21 ct21 : Value}
    (a21 : PySem.W.findIn K (.ref ec4) "first_spot" = some (some (.ref f21))) (l21 : K.lookup f21 = some ⟨oc21, od21, .func (PySem.W.fnOf "first_spot" "Make.first_spot" (defArgs s_Makefirstspot) (defBody s_Makefirstspot) (defScope s_Makefirstspot) .none kV21 dc21 pm21 an21 cd21 ct21), sl21⟩) (c21 : PySem.W.codeIn K cd21 "Make.first_spot" = true) (k21 : PySem.W.keepIn K (.ref f21) = true)
    {f22 : Addr} {od22 an22 : Option Addr} {sl22 : Array (Option Value)} {oc22 kV22 dc22 pm22 cd22 ct22 : Value}
    (a22 : PySem.W.findIn K (.ref ec4) "stamps" = some (some (.ref f22))) (l22 : K.lookup f22 = some ⟨oc22, od22, .func (PySem.W.fnOf "stamps" "Make.stamps" (defArgs s_Makestamps) (defBody s_Makestamps) (defScope s_Makestamps) .none kV22 dc22 pm22 an22 cd22 ct22), sl22⟩) (c22 : PySem.W.codeIn K cd22 "Make.stamps" = true) (k22 : PySem.W.keepIn K (.ref f22) = true)
    {f23 : Addr} {od23 an23 : Option Addr} {sl23 : Array (Option Value)} {oc23 kV23 dc23 pm23 cd23 ct23 : Value}
    (a23 : PySem.W.findIn K (.ref ec5) "word" = some (some (.ref f23))) (l23 : K.lookup f23 = some ⟨oc23, od23, .func (PySem.W.fnOf "word" "Watch.word" (defArgs s_Watchword) (defBody s_Watchword) (defScope s_Watchword) .none kV23 dc23 pm23 an23 cd23 ct23), sl23⟩) (c23 : PySem.W.codeIn K cd23 "Watch.word" = true) (k23 : PySem.W.keepIn K (.ref f23) = true)
    {f24 : Addr} {od24 an24 : Option Addr} {sl24 : Array (Option Value)} {oc24 kV24 dc24 pm24 cd24 ct24 : Value}
    (a24 : PySem.W.findIn K (.ref ec5) "watches" = some (some (.ref f24))) (l24 : K.lookup f24 = some ⟨oc24, od24, .func (PySem.W.fnOf "watches" "Watch.watches" (defArgs s_Watchwatches) (defBody s_Watchwatches) (defScope s_Watchwatches) .none kV24 dc24 pm24 an24 cd24 ct24), sl24⟩) (c24 : PySem.W.codeIn K cd24 "Watch.watches" = true) (k24 : PySem.W.keepIn K (.ref f24) = true)
    {f25 : Addr} {od25 an25 : Option Addr} {sl25 : Array (Option Value)} {oc25 kV25 dc25 pm25 cd25 ct25 : Value}
    (a25 : PySem.W.findIn K (.ref ec5) "spots" = some (some (.ref f25))) (l25 : K.lookup f25 = some ⟨oc25, od25, .func (PySem.W.fnOf "spots" "Watch.spots" (defArgs s_Watchspots) (defBody s_Watchspots) (defScope s_Watchspots) .none kV25 dc25 pm25 an25 cd25 ct25), sl25⟩) (c25 : PySem.W.codeIn K cd25 "Watch.spots" = true) (k25 : PySem.W.keepIn K (.ref f25) = true)
    {f26 : Addr} {od26 an26 : Option Addr} {sl26 : Array (Option Value)} {oc26 kV26 dc26 pm26 cd26 ct26 : Value}
    (a26 : PySem.W.findIn K (.ref ec5) "stamps" = some (some (.ref f26))) (l26 : K.lookup f26 = some ⟨oc26, od26, .func (PySem.W.fnOf "stamps" "Watch.stamps" (defArgs s_Watchstamps) (defBody s_Watchstamps) (defScope s_Watchstamps) .none kV26 dc26 pm26 an26 cd26 ct26), sl26⟩) (c26 : PySem.W.codeIn K cd26 "Watch.stamps" = true) (k26 : PySem.W.keepIn K (.ref f26) = true)
    {f27 : Addr} {od27 an27 : Option Addr} {sl27 : Array (Option Value)} {oc27 kV27 dc27 pm27 cd27 ct27 : Value}
    (a27 : PySem.W.findIn K (.ref ec6) "word" = some (some (.ref f27))) (l27 : K.lookup f27 = some ⟨oc27, od27, .func (PySem.W.fnOf "word" "Hold.word" (defArgs s_Holdword) (defBody s_Holdword) (defScope s_Holdword) .none kV27 dc27 pm27 an27 cd27 ct27), sl27⟩) (c27 : PySem.W.codeIn K cd27 "Hold.word" = true) (k27 : PySem.W.keepIn K (.ref f27) = true)
    {f28 : Addr} {od28 an28 : Option Addr} {sl28 : Array (Option Value)} {oc28 kV28 dc28 pm28 cd28 ct28 : Value}
    (a28 : PySem.W.findIn K (.ref ec6) "holds_asks" = some (some (.ref f28))) (l28 : K.lookup f28 = some ⟨oc28, od28, .func (PySem.W.fnOf "holds_asks" "Hold.holds_asks" (defArgs s_Holdholdsasks) (defBody s_Holdholdsasks) (defScope s_Holdholdsasks) .none kV28 dc28 pm28 an28 cd28 ct28), sl28⟩) (c28 : PySem.W.codeIn K cd28 "Hold.holds_asks" = true) (k28 : PySem.W.keepIn K (.ref f28) = true)
    {f29 : Addr} {od29 an29 : Option Addr} {sl29 : Array (Option Value)} {oc29 kV29 dc29 pm29 cd29 ct29 : Value}
    (a29 : PySem.W.findIn K (.ref ec6) "spots" = some (some (.ref f29))) (l29 : K.lookup f29 = some ⟨oc29, od29, .func (PySem.W.fnOf "spots" "Hold.spots" (defArgs s_Holdspots) (defBody s_Holdspots) (defScope s_Holdspots) .none kV29 dc29 pm29 an29 cd29 ct29), sl29⟩) (c29 : PySem.W.codeIn K cd29 "Hold.spots" = true) (k29 : PySem.W.keepIn K (.ref f29) = true)
    {f30 : Addr} {od30 an30 : Option Addr} {sl30 : Array (Option Value)} {oc30 kV30 dc30 pm30 cd30 ct30 : Value}
    (a30 : PySem.W.findIn K (.ref ec6) "look_spot" = some (some (.ref f30))) (l30 : K.lookup f30 = some ⟨oc30, od30, .func (PySem.W.fnOf "look_spot" "Hold.look_spot" (defArgs s_Holdlookspot) (defBody s_Holdlookspot) (defScope s_Holdlookspot) .none kV30 dc30 pm30 an30 cd30 ct30), sl30⟩) (c30 : PySem.W.codeIn K cd30 "Hold.look_spot" = true) (k30 : PySem.W.keepIn K (.ref f30) = true)
    {f31 : Addr} {od31 an31 : Option Addr} {sl31 : Array (Option Value)} {oc31 kV31 dc31 pm31 cd31 ct31 : Value}
    (a31 : PySem.W.findIn K (.ref ec6) "first_spot" = some (some (.ref f31))) (l31 : K.lookup f31 = some ⟨oc31, od31, .func (PySem.W.fnOf "first_spot" "Hold.first_spot" (defArgs s_Holdfirstspot) (defBody s_Holdfirstspot) (defScope s_Holdfirstspot) .none kV31 dc31 pm31 an31 cd31 ct31), sl31⟩) (c31 : PySem.W.codeIn K cd31 "Hold.first_spot" = true) (k31 : PySem.W.keepIn K (.ref f31) = true)
    {f32 : Addr} {od32 an32 : Option Addr} {sl32 : Array (Option Value)} {oc32 kV32 dc32 pm32 cd32 ct32 : Value}
    (a32 : PySem.W.findIn K (.ref ec6) "stamps" = some (some (.ref f32))) (l32 : K.lookup f32 = some ⟨oc32, od32, .func (PySem.W.fnOf "stamps" "Hold.stamps" (defArgs s_Holdstamps) (defBody s_Holdstamps) (defScope s_Holdstamps) .none kV32 dc32 pm32 an32 cd32 ct32), sl32⟩) (c32 : PySem.W.codeIn K cd32 "Hold.stamps" = true) (k32 : PySem.W.keepIn K (.ref f32) = true)
    {f33 : Addr} {od33 an33 : Option Addr} {sl33 : Array (Option Value)} {oc33 kV33 dc33 pm33 cd33 ct33 : Value}
    (a33 : PySem.W.nsIn K mainGlobals "level_of" = some (some (.ref f33))) (l33 : K.lookup f33 = some ⟨oc33, od33, .func (PySem.W.fnOf "level_of" "level_of" (defArgs s_levelof) (defBody s_levelof) (defScope s_levelof) .none kV33 dc33 pm33 an33 cd33 ct33), sl33⟩) (c33 : PySem.W.codeIn K cd33 "level_of" = true) (k33 : PySem.W.keepIn K (.ref f33) = true)
    {f34 : Addr} {od34 an34 : Option Addr} {sl34 : Array (Option Value)} {oc34 kV34 dc34 pm34 cd34 ct34 : Value}
    (a34 : PySem.W.nsIn K mainGlobals "_law_cell" = some (some (.ref f34))) (l34 : K.lookup f34 = some ⟨oc34, od34, .func (PySem.W.fnOf "_law_cell" "_law_cell" (defArgs s_Lcell) (defBody s_Lcell) (defScope s_Lcell) .none kV34 dc34 pm34 an34 cd34 ct34), sl34⟩) (c34 : PySem.W.codeIn K cd34 "_law_cell" = true) (k34 : PySem.W.keepIn K (.ref f34) = true)
    {f35 : Addr} {od35 an35 : Option Addr} {sl35 : Array (Option Value)} {oc35 kV35 dc35 pm35 cd35 ct35 : Value}
    (a35 : PySem.W.nsIn K mainGlobals "_law_mix" = some (some (.ref f35))) (l35 : K.lookup f35 = some ⟨oc35, od35, .func (PySem.W.fnOf "_law_mix" "_law_mix" (defArgs s_Lmix) (defBody s_Lmix) (defScope s_Lmix) .none kV35 dc35 pm35 an35 cd35 ct35), sl35⟩) (c35 : PySem.W.codeIn K cd35 "_law_mix" = true) (k35 : PySem.W.keepIn K (.ref f35) = true)
    {f36 : Addr} {od36 an36 : Option Addr} {sl36 : Array (Option Value)} {oc36 kV36 dc36 pm36 cd36 ct36 : Value}
    (a36 : PySem.W.nsIn K mainGlobals "_law_truth" = some (some (.ref f36))) (l36 : K.lookup f36 = some ⟨oc36, od36, .func (PySem.W.fnOf "_law_truth" "_law_truth" (defArgs s_Ltruth) (defBody s_Ltruth) (defScope s_Ltruth) .none kV36 dc36 pm36 an36 cd36 ct36), sl36⟩) (c36 : PySem.W.codeIn K cd36 "_law_truth" = true) (k36 : PySem.W.keepIn K (.ref f36) = true)
    {f37 : Addr} {od37 an37 : Option Addr} {sl37 : Array (Option Value)} {oc37 kV37 dc37 pm37 cd37 ct37 : Value}
    (a37 : PySem.W.nsIn K mainGlobals "_law_number" = some (some (.ref f37))) (l37 : K.lookup f37 = some ⟨oc37, od37, .func (PySem.W.fnOf "_law_number" "_law_number" (defArgs s_Lnumber) (defBody s_Lnumber) (defScope s_Lnumber) .none kV37 dc37 pm37 an37 cd37 ct37), sl37⟩) (c37 : PySem.W.codeIn K cd37 "_law_number" = true) (k37 : PySem.W.keepIn K (.ref f37) = true)
    {f38 : Addr} {od38 an38 : Option Addr} {sl38 : Array (Option Value)} {oc38 kV38 dc38 pm38 cd38 ct38 : Value}
    (a38 : PySem.W.nsIn K mainGlobals "_law_kin" = some (some (.ref f38))) (l38 : K.lookup f38 = some ⟨oc38, od38, .func (PySem.W.fnOf "_law_kin" "_law_kin" (defArgs s_Lkin) (defBody s_Lkin) (defScope s_Lkin) .none kV38 dc38 pm38 an38 cd38 ct38), sl38⟩) (c38 : PySem.W.codeIn K cd38 "_law_kin" = true) (k38 : PySem.W.keepIn K (.ref f38) = true)
    {f39 : Addr} {od39 an39 : Option Addr} {sl39 : Array (Option Value)} {oc39 kV39 dc39 pm39 cd39 ct39 : Value}
    (a39 : PySem.W.nsIn K mainGlobals "_law_truths" = some (some (.ref f39))) (l39 : K.lookup f39 = some ⟨oc39, od39, .func (PySem.W.fnOf "_law_truths" "_law_truths" (defArgs s_Ltruths) (defBody s_Ltruths) (defScope s_Ltruths) .none kV39 dc39 pm39 an39 cd39 ct39), sl39⟩) (c39 : PySem.W.codeIn K cd39 "_law_truths" = true) (k39 : PySem.W.keepIn K (.ref f39) = true)
    {f40 : Addr} {od40 an40 : Option Addr} {sl40 : Array (Option Value)} {oc40 kV40 dc40 pm40 cd40 ct40 : Value}
    (a40 : PySem.W.nsIn K mainGlobals "_law_spots" = some (some (.ref f40))) (l40 : K.lookup f40 = some ⟨oc40, od40, .func (PySem.W.fnOf "_law_spots" "_law_spots" (defArgs s_Lspots) (defBody s_Lspots) (defScope s_Lspots) .none kV40 dc40 pm40 an40 cd40 ct40), sl40⟩) (c40 : PySem.W.codeIn K cd40 "_law_spots" = true) (k40 : PySem.W.keepIn K (.ref f40) = true)
    {f41 : Addr} {od41 an41 : Option Addr} {sl41 : Array (Option Value)} {oc41 kV41 dc41 pm41 cd41 ct41 : Value}
    (a41 : PySem.W.nsIn K mainGlobals "_law_stamps" = some (some (.ref f41))) (l41 : K.lookup f41 = some ⟨oc41, od41, .func (PySem.W.fnOf "_law_stamps" "_law_stamps" (defArgs s_Lstamps) (defBody s_Lstamps) (defScope s_Lstamps) .none kV41 dc41 pm41 an41 cd41 ct41), sl41⟩) (c41 : PySem.W.codeIn K cd41 "_law_stamps" = true) (k41 : PySem.W.keepIn K (.ref f41) = true)
    {f42 : Addr} {od42 an42 : Option Addr} {sl42 : Array (Option Value)} {oc42 kV42 dc42 pm42 cd42 ct42 : Value}
    (a42 : PySem.W.nsIn K mainGlobals "_law_no_word" = some (some (.ref f42))) (l42 : K.lookup f42 = some ⟨oc42, od42, .func (PySem.W.fnOf "_law_no_word" "_law_no_word" (defArgs s_Lnoword) (defBody s_Lnoword) (defScope s_Lnoword) .none kV42 dc42 pm42 an42 cd42 ct42), sl42⟩) (c42 : PySem.W.codeIn K cd42 "_law_no_word" = true) (k42 : PySem.W.keepIn K (.ref f42) = true)
    {f43 : Addr} {od43 an43 : Option Addr} {sl43 : Array (Option Value)} {oc43 kV43 dc43 pm43 cd43 ct43 : Value}
    (a43 : PySem.W.nsIn K mainGlobals "_law_refused" = some (some (.ref f43))) (l43 : K.lookup f43 = some ⟨oc43, od43, .func (PySem.W.fnOf "_law_refused" "_law_refused" (defArgs s_Lrefused) (defBody s_Lrefused) (defScope s_Lrefused) .none kV43 dc43 pm43 an43 cd43 ct43), sl43⟩) (c43 : PySem.W.codeIn K cd43 "_law_refused" = true) (k43 : PySem.W.keepIn K (.ref f43) = true)
    {f44 : Addr} {od44 an44 : Option Addr} {sl44 : Array (Option Value)} {oc44 kV44 dc44 pm44 cd44 ct44 : Value}
    (a44 : PySem.W.nsIn K mainGlobals "law" = some (some (.ref f44))) (l44 : K.lookup f44 = some ⟨oc44, od44, .func (PySem.W.fnOf "law" "law" (defArgs s_law) (defBody s_law) (defScope s_law) .none kV44 dc44 pm44 an44 cd44 ct44), sl44⟩) (c44 : PySem.W.codeIn K cd44 "law" = true) (k44 : PySem.W.keepIn K (.ref f44) = true)
    (x0 : PySem.W.excIn K ec1 [.type "ValueError", .type "Exception", .type "BaseException", .type "object"] "ValueError.__new__" = true)
    (kxNoLevel_it : PySem.W.isClsIn K ec1 = true)
    (kxNoLevel_ga : PySem.W.findIn K (.ref ec1) "__getattribute__" = some (some (.builtin "BaseException.__getattribute__")))
    (kxNoLevel_gt : PySem.W.findIn K (.ref ec1) "__getattr__" = some none)
    (kxNoLevel_cl : PySem.W.findIn K (.ref ec1) "__class__" = some (some (.builtin "object.__class__")))
    (kxNoLevel_mB : PySem.W.mroIn K ec1 (.type "BaseException") = some true)
    (kxNoLevel_mO : PySem.W.mroIn K ec1 (.type "object") = some true)
    (moLoose_m : PySem.W.makesIn K ec2 = true)
    (moLoose_i : PySem.W.findIn K (.ref ec2) "__init__" = some (some (.builtin "object.__init__")))
    (moLoose_k : PySem.W.keepIn K (.ref ec2) = true)
    (clLoose_pg : PySem.W.plainGet K ec2 Str.empty = true)
    (clLoose_hd : PySem.W.hasDictIn K ec2 = true)
    (clLoose_po : PySem.W.plainOver K ec2 = true)
    (clLoose_sa : PySem.W.findIn K (.ref ec2) "__setattr__" = some (some (.builtin "object.__setattr__")))
    (tcLoose : PySem.W.findIn K (.ref ec2) "__class__" = some (some (.builtin "object.__class__")))
    (tmLoose : PySem.W.mroIn K ec2 (.type "object") = some true)
    (moKept_m : PySem.W.makesIn K ec3 = true)
    (moKept_i : PySem.W.findIn K (.ref ec3) "__init__" = some (some (.builtin "object.__init__")))
    (moKept_k : PySem.W.keepIn K (.ref ec3) = true)
    (clKept_pg : PySem.W.plainGet K ec3 Str.empty = true)
    (clKept_hd : PySem.W.hasDictIn K ec3 = true)
    (clKept_po : PySem.W.plainOver K ec3 = true)
    (clKept_sa : PySem.W.findIn K (.ref ec3) "__setattr__" = some (some (.builtin "object.__setattr__")))
    (tcKept : PySem.W.findIn K (.ref ec3) "__class__" = some (some (.builtin "object.__class__")))
    (tmKept : PySem.W.mroIn K ec3 (.type "object") = some true)
    (mtKeptstand : PySem.W.findIn K (.ref ec3) "stand" = some (some (.ref f1)))
    (mtKeptlate : PySem.W.findIn K (.ref ec3) "late" = some (some (.ref f2)))
    (mtKeptholds_asks : PySem.W.findIn K (.ref ec3) "holds_asks" = some (some (.ref f4)))
    (mtKeptwatches : PySem.W.findIn K (.ref ec3) "watches" = some (some (.ref f5)))
    (moMake_m : PySem.W.makesIn K ec4 = true)
    (moMake_i : PySem.W.findIn K (.ref ec4) "__init__" = some (some (.builtin "object.__init__")))
    (moMake_k : PySem.W.keepIn K (.ref ec4) = true)
    (clMake_pg : PySem.W.plainGet K ec4 Str.empty = true)
    (clMake_hd : PySem.W.hasDictIn K ec4 = true)
    (clMake_po : PySem.W.plainOver K ec4 = true)
    (clMake_sa : PySem.W.findIn K (.ref ec4) "__setattr__" = some (some (.builtin "object.__setattr__")))
    (tcMake : PySem.W.findIn K (.ref ec4) "__class__" = some (some (.builtin "object.__class__")))
    (tmMake : PySem.W.mroIn K ec4 (.type "object") = some true)
    (mtMakeunkept : PySem.W.findIn K (.ref ec4) "unkept" = some (some (.ref f11)))
    (mtMakeholds_asks : PySem.W.findIn K (.ref ec4) "holds_asks" = some (some (.ref f4)))
    (mtMakewatches : PySem.W.findIn K (.ref ec4) "watches" = some (some (.ref f5)))
    (moWatch_m : PySem.W.makesIn K ec5 = true)
    (moWatch_i : PySem.W.findIn K (.ref ec5) "__init__" = some (some (.builtin "object.__init__")))
    (moWatch_k : PySem.W.keepIn K (.ref ec5) = true)
    (clWatch_pg : PySem.W.plainGet K ec5 Str.empty = true)
    (clWatch_hd : PySem.W.hasDictIn K ec5 = true)
    (clWatch_po : PySem.W.plainOver K ec5 = true)
    (clWatch_sa : PySem.W.findIn K (.ref ec5) "__setattr__" = some (some (.builtin "object.__setattr__")))
    (tcWatch : PySem.W.findIn K (.ref ec5) "__class__" = some (some (.builtin "object.__class__")))
    (tmWatch : PySem.W.mroIn K ec5 (.type "object") = some true)
    (mtWatchstand : PySem.W.findIn K (.ref ec5) "stand" = some (some (.ref f17)))
    (mtWatchlate : PySem.W.findIn K (.ref ec5) "late" = some (some (.ref f18)))
    (mtWatchlook_spot : PySem.W.findIn K (.ref ec5) "look_spot" = some (some (.ref f20)))
    (mtWatchfirst_spot : PySem.W.findIn K (.ref ec5) "first_spot" = some (some (.ref f21)))
    (mtWatchunkept : PySem.W.findIn K (.ref ec5) "unkept" = some (some (.ref f11)))
    (mtWatchholds_asks : PySem.W.findIn K (.ref ec5) "holds_asks" = some (some (.ref f4)))
    (moHold_m : PySem.W.makesIn K ec6 = true)
    (moHold_i : PySem.W.findIn K (.ref ec6) "__init__" = some (some (.builtin "object.__init__")))
    (moHold_k : PySem.W.keepIn K (.ref ec6) = true)
    (clHold_pg : PySem.W.plainGet K ec6 Str.empty = true)
    (clHold_hd : PySem.W.hasDictIn K ec6 = true)
    (clHold_po : PySem.W.plainOver K ec6 = true)
    (clHold_sa : PySem.W.findIn K (.ref ec6) "__setattr__" = some (some (.builtin "object.__setattr__")))
    (tcHold : PySem.W.findIn K (.ref ec6) "__class__" = some (some (.builtin "object.__class__")))
    (tmHold : PySem.W.mroIn K ec6 (.type "object") = some true)
    (mtHoldunkept : PySem.W.findIn K (.ref ec6) "unkept" = some (some (.ref f11)))
    (mtHoldstand : PySem.W.findIn K (.ref ec6) "stand" = some (some (.ref f1)))
    (mtHoldlate : PySem.W.findIn K (.ref ec6) "late" = some (some (.ref f2)))
    (mtHoldwatches : PySem.W.findIn K (.ref ec6) "watches" = some (some (.ref f5)))
    (mf0 : PySem.W.isFn K (.ref f0) = true)
    (mf1 : PySem.W.isFn K (.ref f1) = true)
    (mf2 : PySem.W.isFn K (.ref f2) = true)
    (mf3 : PySem.W.isFn K (.ref f3) = true)
    (mf4 : PySem.W.isFn K (.ref f4) = true)
    (mf5 : PySem.W.isFn K (.ref f5) = true)
    (mf6 : PySem.W.isFn K (.ref f6) = true)
    (mf7 : PySem.W.isFn K (.ref f7) = true)
    (mf8 : PySem.W.isFn K (.ref f8) = true)
    (mf9 : PySem.W.isFn K (.ref f9) = true)
    (mf10 : PySem.W.isFn K (.ref f10) = true)
    (mf11 : PySem.W.isFn K (.ref f11) = true)
    (mf12 : PySem.W.isFn K (.ref f12) = true)
    (mf13 : PySem.W.isFn K (.ref f13) = true)
    (mf14 : PySem.W.isFn K (.ref f14) = true)
    (mf15 : PySem.W.isFn K (.ref f15) = true)
    (mf16 : PySem.W.isFn K (.ref f16) = true)
    (mf17 : PySem.W.isFn K (.ref f17) = true)
    (mf18 : PySem.W.isFn K (.ref f18) = true)
    (mf19 : PySem.W.isFn K (.ref f19) = true)
    (mf20 : PySem.W.isFn K (.ref f20) = true)
    (mf21 : PySem.W.isFn K (.ref f21) = true)
    (mf22 : PySem.W.isFn K (.ref f22) = true)
    (mf23 : PySem.W.isFn K (.ref f23) = true)
    (mf24 : PySem.W.isFn K (.ref f24) = true)
    (mf25 : PySem.W.isFn K (.ref f25) = true)
    (mf26 : PySem.W.isFn K (.ref f26) = true)
    (mf27 : PySem.W.isFn K (.ref f27) = true)
    (mf28 : PySem.W.isFn K (.ref f28) = true)
    (mf29 : PySem.W.isFn K (.ref f29) = true)
    (mf30 : PySem.W.isFn K (.ref f30) = true)
    (mf31 : PySem.W.isFn K (.ref f31) = true)
    (mf32 : PySem.W.isFn K (.ref f32) = true)
    (tgx : PySem.W.specialIn K (.builtin "object.__class__") "__get__" = some (some (.builtin "getset_descriptor.__get__")))
    (ttx : PySem.W.takesIn K (.builtin "object.__class__") = some true)
    (ki_Loose : PySem.W.isClsIn K ec2 = true)
    (kt_Loose : PySem.W.typeIn K (.ref ec2) = some (.type "type"))
    (ki_Kept : PySem.W.isClsIn K ec3 = true)
    (kt_Kept : PySem.W.typeIn K (.ref ec3) = some (.type "type"))
    (ki_Make : PySem.W.isClsIn K ec4 = true)
    (kt_Make : PySem.W.typeIn K (.ref ec4) = some (.type "type"))
    (ki_Watch : PySem.W.isClsIn K ec5 = true)
    (kt_Watch : PySem.W.typeIn K (.ref ec5) = some (.type "type"))
    (ki_Hold : PySem.W.isClsIn K ec6 = true)
    (kt_Hold : PySem.W.typeIn K (.ref ec6) = some (.type "type"))
    (ks_Loose_Loose : PySem.W.subIn K (.ref ec2) (.ref ec2) = some true)
    (ks_Loose_Kept : PySem.W.subIn K (.ref ec2) (.ref ec3) = some false)
    (ks_Loose_Make : PySem.W.subIn K (.ref ec2) (.ref ec4) = some false)
    (ks_Loose_Watch : PySem.W.subIn K (.ref ec2) (.ref ec5) = some false)
    (ks_Loose_Hold : PySem.W.subIn K (.ref ec2) (.ref ec6) = some false)
    (ks_Kept_Loose : PySem.W.subIn K (.ref ec3) (.ref ec2) = some true)
    (ks_Kept_Kept : PySem.W.subIn K (.ref ec3) (.ref ec3) = some true)
    (ks_Kept_Make : PySem.W.subIn K (.ref ec3) (.ref ec4) = some false)
    (ks_Kept_Watch : PySem.W.subIn K (.ref ec3) (.ref ec5) = some false)
    (ks_Kept_Hold : PySem.W.subIn K (.ref ec3) (.ref ec6) = some false)
    (ks_Make_Loose : PySem.W.subIn K (.ref ec4) (.ref ec2) = some true)
    (ks_Make_Kept : PySem.W.subIn K (.ref ec4) (.ref ec3) = some true)
    (ks_Make_Make : PySem.W.subIn K (.ref ec4) (.ref ec4) = some true)
    (ks_Make_Watch : PySem.W.subIn K (.ref ec4) (.ref ec5) = some false)
    (ks_Make_Hold : PySem.W.subIn K (.ref ec4) (.ref ec6) = some false)
    (ks_Watch_Loose : PySem.W.subIn K (.ref ec5) (.ref ec2) = some true)
    (ks_Watch_Kept : PySem.W.subIn K (.ref ec5) (.ref ec3) = some true)
    (ks_Watch_Make : PySem.W.subIn K (.ref ec5) (.ref ec4) = some true)
    (ks_Watch_Watch : PySem.W.subIn K (.ref ec5) (.ref ec5) = some true)
    (ks_Watch_Hold : PySem.W.subIn K (.ref ec5) (.ref ec6) = some false)
    (ks_Hold_Loose : PySem.W.subIn K (.ref ec6) (.ref ec2) = some true)
    (ks_Hold_Kept : PySem.W.subIn K (.ref ec6) (.ref ec3) = some true)
    (ks_Hold_Make : PySem.W.subIn K (.ref ec6) (.ref ec4) = some false)
    (ks_Hold_Watch : PySem.W.subIn K (.ref ec6) (.ref ec5) = some false)
    (ks_Hold_Hold : PySem.W.subIn K (.ref ec6) (.ref ec6) = some true)
    (ksSkewError_ty : PySem.W.typeIn K (.ref ec0) = some (.type "type"))
    (ksSkewError_it : PySem.W.isClsIn K ec0 = true)
    (ksSkewError_mB : PySem.W.mroIn K ec0 (.type "BaseException") = some true)
    (kvNoLevel : PySem.W.subIn K (.ref ec1) (.type "ValueError") = some true)
    (kpNoLevelSkewError_it : PySem.W.isClsIn K ec0 = true)
    (kpNoLevelSkewError_ty : PySem.W.typeIn K (.ref ec0) = some (.type "type"))
    (kpNoLevelSkewError_se : PySem.W.subIn K (.ref ec1) (.ref ec1) = some true)
    (kpNoLevelSkewError_su : PySem.W.subIn K (.ref ec1) (.ref ec0) = some true)
    (kpNoLevelNoLevel_it : PySem.W.isClsIn K ec1 = true)
    (kpNoLevelNoLevel_ty : PySem.W.typeIn K (.ref ec1) = some (.type "type"))
    (kpNoLevelNoLevel_se : PySem.W.subIn K (.ref ec1) (.ref ec1) = some true)
    (kpNoLevelNoLevel_su : PySem.W.subIn K (.ref ec1) (.ref ec1) = some true)
    (z_ValueError : PySem.W.nsIn K mainGlobals "ValueError" = some none)
    (z_bool : PySem.W.nsIn K mainGlobals "bool" = some none)
    (z_int : PySem.W.nsIn K mainGlobals "int" = some none)
    (z_isinstance : PySem.W.nsIn K mainGlobals "isinstance" = some none)
    (z_len : PySem.W.nsIn K mainGlobals "len" = some none)
    (z_list : PySem.W.nsIn K mainGlobals "list" = some none)
    (z_max : PySem.W.nsIn K mainGlobals "max" = some none)
    (z_range : PySem.W.nsIn K mainGlobals "range" = some none)
    (z_str : PySem.W.nsIn K mainGlobals "str" = some none)
    (z_zip : PySem.W.nsIn K mainGlobals "zip" = some none)
    : ∃ fd : FuncData, (∀ (s : Shared) (v : Value), BindsTo s fd ⟨[v], []⟩ [("_law_script", v)]) ∧ ∀ base : Heap, K.In base → base.Ns mainGlobals mg → FnOk l.prog w K mg base CX0 8 fa fd ["_law_script"] (spLaw K) := by
  have e := hfa.symm.trans (PySem.W.mg_of X G a44)
  cases e
  let T : Tx K mg := {
    f_Looseword := f0
    d_Looseword := _
    F_Looseword := fun_mk (st := s_Looseword) l0 c0 k0
    b_Looseword := (fun_mk (st := s_Looseword) l0 c0 k0).binds (ps := ["self"]) fun _ _ _ _ _ _ us hl => match us, hl with | [_], _ => rfl
    f_Loosestand := f1
    d_Loosestand := _
    F_Loosestand := fun_mk (st := s_Loosestand) l1 c1 k1
    b_Loosestand := (fun_mk (st := s_Loosestand) l1 c1 k1).binds (ps := ["self", "begin", "now"]) fun _ _ _ _ _ _ us hl => match us, hl with | [_, _, _], _ => rfl
    f_Looselate := f2
    d_Looselate := _
    F_Looselate := fun_mk (st := s_Looselate) l2 c2 k2
    b_Looselate := (fun_mk (st := s_Looselate) l2 c2 k2).binds (ps := ["self", "begin", "stamp"]) fun _ _ _ _ _ _ us hl => match us, hl with | [_, _, _], _ => rfl
    f_Looseunkept := f3
    d_Looseunkept := _
    F_Looseunkept := fun_mk (st := s_Looseunkept) l3 c3 k3
    b_Looseunkept := (fun_mk (st := s_Looseunkept) l3 c3 k3).binds (ps := ["self"]) fun _ _ _ _ _ _ us hl => match us, hl with | [_], _ => rfl
    f_Looseholdsasks := f4
    d_Looseholdsasks := _
    F_Looseholdsasks := fun_mk (st := s_Looseholdsasks) l4 c4 k4
    b_Looseholdsasks := (fun_mk (st := s_Looseholdsasks) l4 c4 k4).binds (ps := ["self"]) fun _ _ _ _ _ _ us hl => match us, hl with | [_], _ => rfl
    f_Loosewatches := f5
    d_Loosewatches := _
    F_Loosewatches := fun_mk (st := s_Loosewatches) l5 c5 k5
    b_Loosewatches := (fun_mk (st := s_Loosewatches) l5 c5 k5).binds (ps := ["self"]) fun _ _ _ _ _ _ us hl => match us, hl with | [_], _ => rfl
    f_Loosespots := f6
    d_Loosespots := _
    F_Loosespots := fun_mk (st := s_Loosespots) l6 c6 k6
    b_Loosespots := (fun_mk (st := s_Loosespots) l6 c6 k6).binds (ps := ["self", "looks"]) fun _ _ _ _ _ _ us hl => match us, hl with | [_, _], _ => rfl
    f_Looselookspot := f7
    d_Looselookspot := _
    F_Looselookspot := fun_mk (st := s_Looselookspot) l7 c7 k7
    b_Looselookspot := (fun_mk (st := s_Looselookspot) l7 c7 k7).binds (ps := ["self", "place"]) fun _ _ _ _ _ _ us hl => match us, hl with | [_, _], _ => rfl
    f_Loosefirstspot := f8
    d_Loosefirstspot := _
    F_Loosefirstspot := fun_mk (st := s_Loosefirstspot) l8 c8 k8
    b_Loosefirstspot := (fun_mk (st := s_Loosefirstspot) l8 c8 k8).binds (ps := ["self", "looks"]) fun _ _ _ _ _ _ us hl => match us, hl with | [_, _], _ => rfl
    f_Loosestamps := f9
    d_Loosestamps := _
    F_Loosestamps := fun_mk (st := s_Loosestamps) l9 c9 k9
    b_Loosestamps := (fun_mk (st := s_Loosestamps) l9 c9 k9).binds (ps := ["self", "begin", "stands", "end", "early"]) fun _ _ _ _ _ _ us hl => match us, hl with | [_, _, _, _, _], _ => rfl
    f_Keptword := f10
    d_Keptword := _
    F_Keptword := fun_mk (st := s_Keptword) l10 c10 k10
    b_Keptword := (fun_mk (st := s_Keptword) l10 c10 k10).binds (ps := ["self"]) fun _ _ _ _ _ _ us hl => match us, hl with | [_], _ => rfl
    f_Keptunkept := f11
    d_Keptunkept := _
    F_Keptunkept := fun_mk (st := s_Keptunkept) l11 c11 k11
    b_Keptunkept := (fun_mk (st := s_Keptunkept) l11 c11 k11).binds (ps := ["self"]) fun _ _ _ _ _ _ us hl => match us, hl with | [_], _ => rfl
    f_Keptspots := f12
    d_Keptspots := _
    F_Keptspots := fun_mk (st := s_Keptspots) l12 c12 k12
    b_Keptspots := (fun_mk (st := s_Keptspots) l12 c12 k12).binds (ps := ["self", "looks"]) fun _ _ _ _ _ _ us hl => match us, hl with | [_, _], _ => rfl
    f_Keptlookspot := f13
    d_Keptlookspot := _
    F_Keptlookspot := fun_mk (st := s_Keptlookspot) l13 c13 k13
    b_Keptlookspot := (fun_mk (st := s_Keptlookspot) l13 c13 k13).binds (ps := ["self", "place"]) fun _ _ _ _ _ _ us hl => match us, hl with | [_, _], _ => rfl
    f_Keptfirstspot := f14
    d_Keptfirstspot := _
    F_Keptfirstspot := fun_mk (st := s_Keptfirstspot) l14 c14 k14
    b_Keptfirstspot := (fun_mk (st := s_Keptfirstspot) l14 c14 k14).binds (ps := ["self", "looks"]) fun _ _ _ _ _ _ us hl => match us, hl with | [_, _], _ => rfl
    f_Keptstamps := f15
    d_Keptstamps := _
    F_Keptstamps := fun_mk (st := s_Keptstamps) l15 c15 k15
    b_Keptstamps := (fun_mk (st := s_Keptstamps) l15 c15 k15).binds (ps := ["self", "begin", "stands", "end", "early"]) fun _ _ _ _ _ _ us hl => match us, hl with | [_, _, _, _, _], _ => rfl
    f_Makeword := f16
    d_Makeword := _
    F_Makeword := fun_mk (st := s_Makeword) l16 c16 k16
    b_Makeword := (fun_mk (st := s_Makeword) l16 c16 k16).binds (ps := ["self"]) fun _ _ _ _ _ _ us hl => match us, hl with | [_], _ => rfl
    f_Makestand := f17
    d_Makestand := _
    F_Makestand := fun_mk (st := s_Makestand) l17 c17 k17
    b_Makestand := (fun_mk (st := s_Makestand) l17 c17 k17).binds (ps := ["self", "begin", "now"]) fun _ _ _ _ _ _ us hl => match us, hl with | [_, _, _], _ => rfl
    f_Makelate := f18
    d_Makelate := _
    F_Makelate := fun_mk (st := s_Makelate) l18 c18 k18
    b_Makelate := (fun_mk (st := s_Makelate) l18 c18 k18).binds (ps := ["self", "begin", "stamp"]) fun _ _ _ _ _ _ us hl => match us, hl with | [_, _, _], _ => rfl
    f_Makespots := f19
    d_Makespots := _
    F_Makespots := fun_mk (st := s_Makespots) l19 c19 k19
    b_Makespots := (fun_mk (st := s_Makespots) l19 c19 k19).binds (ps := ["self", "looks"]) fun _ _ _ _ _ _ us hl => match us, hl with | [_, _], _ => rfl
    f_Makelookspot := f20
    d_Makelookspot := _
    F_Makelookspot := fun_mk (st := s_Makelookspot) l20 c20 k20
    b_Makelookspot := (fun_mk (st := s_Makelookspot) l20 c20 k20).binds (ps := ["self", "place"]) fun _ _ _ _ _ _ us hl => match us, hl with | [_, _], _ => rfl
    f_Makefirstspot := f21
    d_Makefirstspot := _
    F_Makefirstspot := fun_mk (st := s_Makefirstspot) l21 c21 k21
    b_Makefirstspot := (fun_mk (st := s_Makefirstspot) l21 c21 k21).binds (ps := ["self", "looks"]) fun _ _ _ _ _ _ us hl => match us, hl with | [_, _], _ => rfl
    f_Makestamps := f22
    d_Makestamps := _
    F_Makestamps := fun_mk (st := s_Makestamps) l22 c22 k22
    b_Makestamps := (fun_mk (st := s_Makestamps) l22 c22 k22).binds (ps := ["self", "begin", "stands", "end", "early"]) fun _ _ _ _ _ _ us hl => match us, hl with | [_, _, _, _, _], _ => rfl
    f_Watchword := f23
    d_Watchword := _
    F_Watchword := fun_mk (st := s_Watchword) l23 c23 k23
    b_Watchword := (fun_mk (st := s_Watchword) l23 c23 k23).binds (ps := ["self"]) fun _ _ _ _ _ _ us hl => match us, hl with | [_], _ => rfl
    f_Watchwatches := f24
    d_Watchwatches := _
    F_Watchwatches := fun_mk (st := s_Watchwatches) l24 c24 k24
    b_Watchwatches := (fun_mk (st := s_Watchwatches) l24 c24 k24).binds (ps := ["self"]) fun _ _ _ _ _ _ us hl => match us, hl with | [_], _ => rfl
    f_Watchspots := f25
    d_Watchspots := _
    F_Watchspots := fun_mk (st := s_Watchspots) l25 c25 k25
    b_Watchspots := (fun_mk (st := s_Watchspots) l25 c25 k25).binds (ps := ["self", "looks"]) fun _ _ _ _ _ _ us hl => match us, hl with | [_, _], _ => rfl
    f_Watchstamps := f26
    d_Watchstamps := _
    F_Watchstamps := fun_mk (st := s_Watchstamps) l26 c26 k26
    b_Watchstamps := (fun_mk (st := s_Watchstamps) l26 c26 k26).binds (ps := ["self", "begin", "stands", "end", "early"]) fun _ _ _ _ _ _ us hl => match us, hl with | [_, _, _, _, _], _ => rfl
    f_Holdword := f27
    d_Holdword := _
    F_Holdword := fun_mk (st := s_Holdword) l27 c27 k27
    b_Holdword := (fun_mk (st := s_Holdword) l27 c27 k27).binds (ps := ["self"]) fun _ _ _ _ _ _ us hl => match us, hl with | [_], _ => rfl
    f_Holdholdsasks := f28
    d_Holdholdsasks := _
    F_Holdholdsasks := fun_mk (st := s_Holdholdsasks) l28 c28 k28
    b_Holdholdsasks := (fun_mk (st := s_Holdholdsasks) l28 c28 k28).binds (ps := ["self"]) fun _ _ _ _ _ _ us hl => match us, hl with | [_], _ => rfl
    f_Holdspots := f29
    d_Holdspots := _
    F_Holdspots := fun_mk (st := s_Holdspots) l29 c29 k29
    b_Holdspots := (fun_mk (st := s_Holdspots) l29 c29 k29).binds (ps := ["self", "looks"]) fun _ _ _ _ _ _ us hl => match us, hl with | [_, _], _ => rfl
    f_Holdlookspot := f30
    d_Holdlookspot := _
    F_Holdlookspot := fun_mk (st := s_Holdlookspot) l30 c30 k30
    b_Holdlookspot := (fun_mk (st := s_Holdlookspot) l30 c30 k30).binds (ps := ["self", "place"]) fun _ _ _ _ _ _ us hl => match us, hl with | [_, _], _ => rfl
    f_Holdfirstspot := f31
    d_Holdfirstspot := _
    F_Holdfirstspot := fun_mk (st := s_Holdfirstspot) l31 c31 k31
    b_Holdfirstspot := (fun_mk (st := s_Holdfirstspot) l31 c31 k31).binds (ps := ["self", "looks"]) fun _ _ _ _ _ _ us hl => match us, hl with | [_, _], _ => rfl
    f_Holdstamps := f32
    d_Holdstamps := _
    F_Holdstamps := fun_mk (st := s_Holdstamps) l32 c32 k32
    b_Holdstamps := (fun_mk (st := s_Holdstamps) l32 c32 k32).binds (ps := ["self", "begin", "stands", "end", "early"]) fun _ _ _ _ _ _ us hl => match us, hl with | [_, _, _, _, _], _ => rfl
    f_levelof := f33
    d_levelof := _
    F_levelof := fun_mk (st := s_levelof) l33 c33 k33
    b_levelof := (fun_mk (st := s_levelof) l33 c33 k33).binds (ps := ["word"]) fun _ _ _ _ _ _ us hl => match us, hl with | [_], _ => rfl
    m_levelof := PySem.W.mg_of X G a33
    f_Lcell := f34
    d_Lcell := _
    F_Lcell := fun_mk (st := s_Lcell) l34 c34 k34
    b_Lcell := (fun_mk (st := s_Lcell) l34 c34 k34).binds (ps := ["_law_script", "_law_k"]) fun _ _ _ _ _ _ us hl => match us, hl with | [_, _], _ => rfl
    m_Lcell := PySem.W.mg_of X G a34
    f_Lmix := f35
    d_Lmix := _
    F_Lmix := fun_mk (st := s_Lmix) l35 c35 k35
    b_Lmix := (fun_mk (st := s_Lmix) l35 c35 k35).binds (ps := ["_law_cell_here", "_law_k"]) fun _ _ _ _ _ _ us hl => match us, hl with | [_, _], _ => rfl
    m_Lmix := PySem.W.mg_of X G a35
    f_Ltruth := f36
    d_Ltruth := _
    F_Ltruth := fun_mk (st := s_Ltruth) l36 c36 k36
    b_Ltruth := (fun_mk (st := s_Ltruth) l36 c36 k36).binds (ps := ["_law_found", "_law_due"]) fun _ _ _ _ _ _ us hl => match us, hl with | [_, _], _ => rfl
    m_Ltruth := PySem.W.mg_of X G a36
    f_Lnumber := f37
    d_Lnumber := _
    F_Lnumber := fun_mk (st := s_Lnumber) l37 c37 k37
    b_Lnumber := (fun_mk (st := s_Lnumber) l37 c37 k37).binds (ps := ["_law_found", "_law_due"]) fun _ _ _ _ _ _ us hl => match us, hl with | [_, _], _ => rfl
    m_Lnumber := PySem.W.mg_of X G a37
    f_Lkin := f38
    d_Lkin := _
    F_Lkin := fun_mk (st := s_Lkin) l38 c38 k38
    b_Lkin := (fun_mk (st := s_Lkin) l38 c38 k38).binds (ps := ["_law_level"]) fun _ _ _ _ _ _ us hl => match us, hl with | [_], _ => rfl
    m_Lkin := PySem.W.mg_of X G a38
    f_Ltruths := f39
    d_Ltruths := _
    F_Ltruths := fun_mk (st := s_Ltruths) l39 c39 k39
    b_Ltruths := (fun_mk (st := s_Ltruths) l39 c39 k39).binds (ps := ["_law_level", "_law_word", "_law_begin", "_law_stamp"]) fun _ _ _ _ _ _ us hl => match us, hl with | [_, _, _, _], _ => rfl
    m_Ltruths := PySem.W.mg_of X G a39
    f_Lspots := f40
    d_Lspots := _
    F_Lspots := fun_mk (st := s_Lspots) l40 c40 k40
    b_Lspots := (fun_mk (st := s_Lspots) l40 c40 k40).binds (ps := ["_law_level", "_law_word", "_law_looks", "_law_place"]) fun _ _ _ _ _ _ us hl => match us, hl with | [_, _, _, _], _ => rfl
    m_Lspots := PySem.W.mg_of X G a40
    f_Lstamps := f41
    d_Lstamps := _
    F_Lstamps := fun_mk (st := s_Lstamps) l41 c41 k41
    b_Lstamps := (fun_mk (st := s_Lstamps) l41 c41 k41).binds (ps := ["_law_level", "_law_word", "_law_begin", "_law_stands", "_law_end", "_law_soon"]) fun _ _ _ _ _ _ us hl => match us, hl with | [_, _, _, _, _, _], _ => rfl
    m_Lstamps := PySem.W.mg_of X G a41
    f_Lnoword := f42
    d_Lnoword := _
    F_Lnoword := fun_mk (st := s_Lnoword) l42 c42 k42
    b_Lnoword := (fun_mk (st := s_Lnoword) l42 c42 k42).binds (ps := ["_law_cell_here"]) fun _ _ _ _ _ _ us hl => match us, hl with | [_], _ => rfl
    m_Lnoword := PySem.W.mg_of X G a42
    f_Lrefused := f43
    d_Lrefused := _
    F_Lrefused := fun_mk (st := s_Lrefused) l43 c43 k43
    b_Lrefused := (fun_mk (st := s_Lrefused) l43 c43 k43).binds (ps := ["_law_word"]) fun _ _ _ _ _ _ us hl => match us, hl with | [_], _ => rfl
    m_Lrefused := PySem.W.mg_of X G a43
    f_law := fa
    d_law := _
    F_law := fun_mk (st := s_law) l44 c44 k44
    b_law := (fun_mk (st := s_law) l44 c44 k44).binds (ps := ["_law_script"]) fun _ _ _ _ _ _ us hl => match us, hl with | [_], _ => rfl
    m_law := PySem.W.mg_of X G a44
    c_SkewError := ec0
    m_SkewError := PySem.W.mg_of X G e0
    c_NoLevel := ec1
    m_NoLevel := PySem.W.mg_of X G e1
    c_Loose := ec2
    m_Loose := PySem.W.mg_of X G e2
    c_Kept := ec3
    m_Kept := PySem.W.mg_of X G e3
    c_Make := ec4
    m_Make := PySem.W.mg_of X G e4
    c_Watch := ec5
    m_Watch := PySem.W.mg_of X G e5
    c_Hold := ec6
    m_Hold := PySem.W.mg_of X G e6
    x_NoLevel := ⟨PySem.W.mg_of X G e1, x0⟩
    mo_Loose := ⟨moLoose_m, moLoose_i, moLoose_k⟩
    cl_Loose := ⟨clLoose_pg, clLoose_hd, clLoose_po, clLoose_sa⟩
    tc_Loose := tcLoose
    tm_Loose := tmLoose
    me_Loose_word := ⟨a0, mf0, k0⟩
    me_Loose_stand := ⟨a1, mf1, k1⟩
    me_Loose_late := ⟨a2, mf2, k2⟩
    me_Loose_unkept := ⟨a3, mf3, k3⟩
    me_Loose_holds_asks := ⟨a4, mf4, k4⟩
    me_Loose_watches := ⟨a5, mf5, k5⟩
    me_Loose_spots := ⟨a6, mf6, k6⟩
    me_Loose_look_spot := ⟨a7, mf7, k7⟩
    me_Loose_first_spot := ⟨a8, mf8, k8⟩
    me_Loose_stamps := ⟨a9, mf9, k9⟩
    mo_Kept := ⟨moKept_m, moKept_i, moKept_k⟩
    cl_Kept := ⟨clKept_pg, clKept_hd, clKept_po, clKept_sa⟩
    tc_Kept := tcKept
    tm_Kept := tmKept
    me_Kept_word := ⟨a10, mf10, k10⟩
    me_Kept_unkept := ⟨a11, mf11, k11⟩
    me_Kept_spots := ⟨a12, mf12, k12⟩
    me_Kept_look_spot := ⟨a13, mf13, k13⟩
    me_Kept_first_spot := ⟨a14, mf14, k14⟩
    me_Kept_stamps := ⟨a15, mf15, k15⟩
    me_Kept_stand := ⟨mtKeptstand, mf1, k1⟩
    me_Kept_late := ⟨mtKeptlate, mf2, k2⟩
    me_Kept_holds_asks := ⟨mtKeptholds_asks, mf4, k4⟩
    me_Kept_watches := ⟨mtKeptwatches, mf5, k5⟩
    mo_Make := ⟨moMake_m, moMake_i, moMake_k⟩
    cl_Make := ⟨clMake_pg, clMake_hd, clMake_po, clMake_sa⟩
    tc_Make := tcMake
    tm_Make := tmMake
    me_Make_word := ⟨a16, mf16, k16⟩
    me_Make_stand := ⟨a17, mf17, k17⟩
    me_Make_late := ⟨a18, mf18, k18⟩
    me_Make_spots := ⟨a19, mf19, k19⟩
    me_Make_look_spot := ⟨a20, mf20, k20⟩
    me_Make_first_spot := ⟨a21, mf21, k21⟩
    me_Make_stamps := ⟨a22, mf22, k22⟩
    me_Make_unkept := ⟨mtMakeunkept, mf11, k11⟩
    me_Make_holds_asks := ⟨mtMakeholds_asks, mf4, k4⟩
    me_Make_watches := ⟨mtMakewatches, mf5, k5⟩
    mo_Watch := ⟨moWatch_m, moWatch_i, moWatch_k⟩
    cl_Watch := ⟨clWatch_pg, clWatch_hd, clWatch_po, clWatch_sa⟩
    tc_Watch := tcWatch
    tm_Watch := tmWatch
    me_Watch_word := ⟨a23, mf23, k23⟩
    me_Watch_watches := ⟨a24, mf24, k24⟩
    me_Watch_spots := ⟨a25, mf25, k25⟩
    me_Watch_stamps := ⟨a26, mf26, k26⟩
    me_Watch_stand := ⟨mtWatchstand, mf17, k17⟩
    me_Watch_late := ⟨mtWatchlate, mf18, k18⟩
    me_Watch_look_spot := ⟨mtWatchlook_spot, mf20, k20⟩
    me_Watch_first_spot := ⟨mtWatchfirst_spot, mf21, k21⟩
    me_Watch_unkept := ⟨mtWatchunkept, mf11, k11⟩
    me_Watch_holds_asks := ⟨mtWatchholds_asks, mf4, k4⟩
    mo_Hold := ⟨moHold_m, moHold_i, moHold_k⟩
    cl_Hold := ⟨clHold_pg, clHold_hd, clHold_po, clHold_sa⟩
    tc_Hold := tcHold
    tm_Hold := tmHold
    me_Hold_word := ⟨a27, mf27, k27⟩
    me_Hold_holds_asks := ⟨a28, mf28, k28⟩
    me_Hold_spots := ⟨a29, mf29, k29⟩
    me_Hold_look_spot := ⟨a30, mf30, k30⟩
    me_Hold_first_spot := ⟨a31, mf31, k31⟩
    me_Hold_stamps := ⟨a32, mf32, k32⟩
    me_Hold_unkept := ⟨mtHoldunkept, mf11, k11⟩
    me_Hold_stand := ⟨mtHoldstand, mf1, k1⟩
    me_Hold_late := ⟨mtHoldlate, mf2, k2⟩
    me_Hold_watches := ⟨mtHoldwatches, mf5, k5⟩
    tg := tgx
    tt := ttx
    kit_Loose_Loose := (KitP.mk ki_Loose kt_Loose ks_Loose_Loose ks_Loose_Loose).one
    kit_Loose_Kept := (KitP.mk ki_Kept kt_Kept ks_Loose_Loose ks_Loose_Kept).one
    kit_Loose_Make := (KitP.mk ki_Make kt_Make ks_Loose_Loose ks_Loose_Make).one
    kit_Loose_Watch := (KitP.mk ki_Watch kt_Watch ks_Loose_Loose ks_Loose_Watch).one
    kit_Loose_Hold := (KitP.mk ki_Hold kt_Hold ks_Loose_Loose ks_Loose_Hold).one
    kit_Kept_Loose := (KitP.mk ki_Loose kt_Loose ks_Kept_Kept ks_Kept_Loose).one
    kit_Kept_Kept := (KitP.mk ki_Kept kt_Kept ks_Kept_Kept ks_Kept_Kept).one
    kit_Kept_Make := (KitP.mk ki_Make kt_Make ks_Kept_Kept ks_Kept_Make).one
    kit_Kept_Watch := (KitP.mk ki_Watch kt_Watch ks_Kept_Kept ks_Kept_Watch).one
    kit_Kept_Hold := (KitP.mk ki_Hold kt_Hold ks_Kept_Kept ks_Kept_Hold).one
    kit_Make_Loose := (KitP.mk ki_Loose kt_Loose ks_Make_Make ks_Make_Loose).one
    kit_Make_Kept := (KitP.mk ki_Kept kt_Kept ks_Make_Make ks_Make_Kept).one
    kit_Make_Make := (KitP.mk ki_Make kt_Make ks_Make_Make ks_Make_Make).one
    kit_Make_Watch := (KitP.mk ki_Watch kt_Watch ks_Make_Make ks_Make_Watch).one
    kit_Make_Hold := (KitP.mk ki_Hold kt_Hold ks_Make_Make ks_Make_Hold).one
    kit_Watch_Loose := (KitP.mk ki_Loose kt_Loose ks_Watch_Watch ks_Watch_Loose).one
    kit_Watch_Kept := (KitP.mk ki_Kept kt_Kept ks_Watch_Watch ks_Watch_Kept).one
    kit_Watch_Make := (KitP.mk ki_Make kt_Make ks_Watch_Watch ks_Watch_Make).one
    kit_Watch_Watch := (KitP.mk ki_Watch kt_Watch ks_Watch_Watch ks_Watch_Watch).one
    kit_Watch_Hold := (KitP.mk ki_Hold kt_Hold ks_Watch_Watch ks_Watch_Hold).one
    kit_Hold_Loose := (KitP.mk ki_Loose kt_Loose ks_Hold_Hold ks_Hold_Loose).one
    kit_Hold_Kept := (KitP.mk ki_Kept kt_Kept ks_Hold_Hold ks_Hold_Kept).one
    kit_Hold_Make := (KitP.mk ki_Make kt_Make ks_Hold_Hold ks_Hold_Make).one
    kit_Hold_Watch := (KitP.mk ki_Watch kt_Watch ks_Hold_Hold ks_Hold_Watch).one
    kit_Hold_Hold := (KitP.mk ki_Hold kt_Hold ks_Hold_Hold ks_Hold_Hold).one
    kx_NoLevel := ⟨kxNoLevel_it, kxNoLevel_ga, kxNoLevel_gt, kxNoLevel_cl, kxNoLevel_mB, kxNoLevel_mO⟩
    ks_SkewError := ⟨PySem.W.mg_of X G e0, ksSkewError_ty, ksSkewError_it, ksSkewError_mB⟩
    kv_NoLevel := kvNoLevel
    kp_NoLevel_SkewError := ⟨kpNoLevelSkewError_it, kpNoLevelSkewError_ty, kpNoLevelSkewError_se, kpNoLevelSkewError_su⟩
    kp_NoLevel_NoLevel := ⟨kpNoLevelNoLevel_it, kpNoLevelNoLevel_ty, kpNoLevelNoLevel_se, kpNoLevelNoLevel_su⟩
    z_ValueError := PySem.W.mg_none_of X G z_ValueError
    z_bool := PySem.W.mg_none_of X G z_bool
    z_int := PySem.W.mg_none_of X G z_int
    z_isinstance := PySem.W.mg_none_of X G z_isinstance
    z_len := PySem.W.mg_none_of X G z_len
    z_list := PySem.W.mg_none_of X G z_list
    z_max := PySem.W.mg_none_of X G z_max
    z_range := PySem.W.mg_none_of X G z_range
    z_str := PySem.W.mg_none_of X G z_str
    z_zip := PySem.W.mg_none_of X G z_zip }
  exact ⟨PySem.W.fnOf "law" "law" (defArgs s_law) (defBody s_law) (defScope s_law) .none kV44 dc44 pm44 an44 cd44 ct44, fun s v => .of_eq rfl, fun base _ _ => ok_law T⟩
theorem walk {l : PySem.W.OpenLaw} {q : Program} {loose : List Str} {XP : (Str → Option Value) → Heap → Prop} {YP : World → Heap → Prop} {d : DefRec} {K : Params → PySem.W.Frag} (hn : l.most = some 63) (hdf : d.params.defaults = [])
    (hY : ∀ (w : World) (h : Heap), YP w h → (K w.params).In h)
    (F : ∀ (w : World) (mg : Str → Option Value) (fa : Addr) (h : Heap), (K w.params).In h → h.Ns mainGlobals mg → mg d.name = some (.ref fa) →
      ∃ fd : FuncData, (∀ (s : Shared) (u : Value), BindsTo s fd ⟨[u], []⟩ [("_law_script", u)]) ∧ ∀ base : Heap, (K w.params).In base → base.Ns mainGlobals mg → FnOk l.prog w (K w.params) mg base CX0 8 fa fd ["_law_script"] (spLaw (K w.params))) :
    PySem.W.WalkO q loose XP YP l.row.toRowW d [] (fun f vs => PySem.call f vs) :=
  My.walk_ofB (n := 63) (k := 8) (x := "_law_script") (CX := fun _ => CX0) (sp := fun w => spLaw (K w.params)) hn (by decide) hdf ⟨rfl, by decide, by decide⟩ hY F (fun _ _ a ns hl hb _ hS => ⟨a, ns, rfl, hS, hl, hb, fun _ => rfl⟩) fun _ _ _ _ _ z => z
end Lw
open PySem PySem.W PyProof.Rows
set_option maxRecDepth 100000 in
set_option maxHeartbeats 0 in
theorem PySem.Challenge.cw_skewhouse_k40_the_tree_of_levels_holds : PySem.Challenge.rw_skewhouse_k40_the_tree_of_levels.Holds := by
  w_on; o_law; k_head; (case hw => w_witness2)
  k_fill
  refine Lw.walk (l := PySem.Challenge.rw_skewhouse_k40_the_tree_of_levels) rfl rfl (fun w h Y => PySem.W.kIn_of Y) ?F
  case F =>
    intro w mg fa h KX G hmg
    refine' Lw.all_mk KX G hmg ?e0 ?e1 ?e2 ?e3 ?e4 ?e5 ?e6 ?a0 ?l0 ?c0 ?k0 ?a1 ?l1 ?c1 ?k1 ?a2 ?l2 ?c2 ?k2 ?a3 ?l3 ?c3 ?k3 ?a4 ?l4 ?c4 ?k4 ?a5 ?l5 ?c5 ?k5 ?a6 ?l6 ?c6 ?k6 ?a7 ?l7 ?c7 ?k7 ?a8 ?l8 ?c8 ?k8 ?a9 ?l9 ?c9 ?k9 ?a10 ?l10 ?c10 ?k10 ?a11 ?l11 ?c11 ?k11 ?a12 ?l12 ?c12 ?k12 ?a13 ?l13 ?c13 ?k13 ?a14 ?l14 ?c14 ?k14 ?a15 ?l15 ?c15 ?k15 ?a16 ?l16 ?c16 ?k16 ?a17 ?l17 ?c17 ?k17 ?a18 ?l18 ?c18 ?k18 ?a19 ?l19 ?c19 ?k19 ?a20 ?l20 ?c20 ?k20 ?a21 ?l21 ?c21 ?k21 ?a22 ?l22 ?c22 ?k22 ?a23 ?l23 ?c23 ?k23 ?a24 ?l24 ?c24 ?k24 ?a25 ?l25 ?c25 ?k25 ?a26 ?l26 ?c26 ?k26 ?a27 ?l27 ?c27 ?k27 ?a28 ?l28 ?c28 ?k28 ?a29 ?l29 ?c29 ?k29 ?a30 ?l30 ?c30 ?k30 ?a31 ?l31 ?c31 ?k31 ?a32 ?l32 ?c32 ?k32 ?a33 ?l33 ?c33 ?k33 ?a34 ?l34 ?c34 ?k34 ?a35 ?l35 ?c35 ?k35 ?a36 ?l36 ?c36 ?k36 ?a37 ?l37 ?c37 ?k37 ?a38 ?l38 ?c38 ?k38 ?a39 ?l39 ?c39 ?k39 ?a40 ?l40 ?c40 ?k40 ?a41 ?l41 ?c41 ?k41 ?a42 ?l42 ?c42 ?k42 ?a43 ?l43 ?c43 ?k43 ?a44 ?l44 ?c44 ?k44 ?x0 ?kxNoLevel_it ?kxNoLevel_ga ?kxNoLevel_gt ?kxNoLevel_cl ?kxNoLevel_mB ?kxNoLevel_mO ?moLoose_m ?moLoose_i ?moLoose_k ?clLoose_pg ?clLoose_hd ?clLoose_po ?clLoose_sa ?tcLoose ?tmLoose ?moKept_m ?moKept_i ?moKept_k ?clKept_pg ?clKept_hd ?clKept_po ?clKept_sa ?tcKept ?tmKept ?mtKeptstand ?mtKeptlate ?mtKeptholds_asks ?mtKeptwatches ?moMake_m ?moMake_i ?moMake_k ?clMake_pg ?clMake_hd ?clMake_po ?clMake_sa ?tcMake ?tmMake ?mtMakeunkept ?mtMakeholds_asks ?mtMakewatches ?moWatch_m ?moWatch_i ?moWatch_k ?clWatch_pg ?clWatch_hd ?clWatch_po ?clWatch_sa ?tcWatch ?tmWatch ?mtWatchstand ?mtWatchlate ?mtWatchlook_spot ?mtWatchfirst_spot ?mtWatchunkept ?mtWatchholds_asks ?moHold_m ?moHold_i ?moHold_k ?clHold_pg ?clHold_hd ?clHold_po ?clHold_sa ?tcHold ?tmHold ?mtHoldunkept ?mtHoldstand ?mtHoldlate ?mtHoldwatches ?mf0 ?mf1 ?mf2 ?mf3 ?mf4 ?mf5 ?mf6 ?mf7 ?mf8 ?mf9 ?mf10 ?mf11 ?mf12 ?mf13 ?mf14 ?mf15 ?mf16 ?mf17 ?mf18 ?mf19 ?mf20 ?mf21 ?mf22 ?mf23 ?mf24 ?mf25 ?mf26 ?mf27 ?mf28 ?mf29 ?mf30 ?mf31 ?mf32 ?tgx ?ttx ?ki_Loose ?kt_Loose ?ki_Kept ?kt_Kept ?ki_Make ?kt_Make ?ki_Watch ?kt_Watch ?ki_Hold ?kt_Hold ?ks_Loose_Loose ?ks_Loose_Kept ?ks_Loose_Make ?ks_Loose_Watch ?ks_Loose_Hold ?ks_Kept_Loose ?ks_Kept_Kept ?ks_Kept_Make ?ks_Kept_Watch ?ks_Kept_Hold ?ks_Make_Loose ?ks_Make_Kept ?ks_Make_Make ?ks_Make_Watch ?ks_Make_Hold ?ks_Watch_Loose ?ks_Watch_Kept ?ks_Watch_Make ?ks_Watch_Watch ?ks_Watch_Hold ?ks_Hold_Loose ?ks_Hold_Kept ?ks_Hold_Make ?ks_Hold_Watch ?ks_Hold_Hold ?ksSkewError_ty ?ksSkewError_it ?ksSkewError_mB ?kvNoLevel ?kpNoLevelSkewError_it ?kpNoLevelSkewError_ty ?kpNoLevelSkewError_se ?kpNoLevelSkewError_su ?kpNoLevelNoLevel_it ?kpNoLevelNoLevel_ty ?kpNoLevelNoLevel_se ?kpNoLevelNoLevel_su ?z0 ?z1 ?z2 ?z3 ?z4 ?z5 ?z6 ?z7 ?z8 ?z9
    (case e0 => k_is)
    (case e1 => k_is)
    (case e2 => k_is)
    (case e3 => k_is)
    (case e4 => k_is)
    (case e5 => k_is)
    (case e6 => k_is)
    (case a0 => k_is); (case l0 => k_is); (case c0 => k_is); (case k0 => k_is)
    (case a1 => k_is); (case l1 => k_is); (case c1 => k_is); (case k1 => k_is)
    (case a2 => k_is); (case l2 => k_is); (case c2 => k_is); (case k2 => k_is)
    (case a3 => k_is); (case l3 => k_is); (case c3 => k_is); (case k3 => k_is)
    (case a4 => k_is); (case l4 => k_is); (case c4 => k_is); (case k4 => k_is)
    (case a5 => k_is); (case l5 => k_is); (case c5 => k_is); (case k5 => k_is)
    (case a6 => k_is); (case l6 => k_is); (case c6 => k_is); (case k6 => k_is)
    (case a7 => k_is); (case l7 => k_is); (case c7 => k_is); (case k7 => k_is)
    (case a8 => k_is); (case l8 => k_is); (case c8 => k_is); (case k8 => k_is)
    (case a9 => k_is); (case l9 => k_is); (case c9 => k_is); (case k9 => k_is)
    (case a10 => k_is); (case l10 => k_is); (case c10 => k_is); (case k10 => k_is)
    (case a11 => k_is); (case l11 => k_is); (case c11 => k_is); (case k11 => k_is)
    (case a12 => k_is); (case l12 => k_is); (case c12 => k_is); (case k12 => k_is)
    (case a13 => k_is); (case l13 => k_is); (case c13 => k_is); (case k13 => k_is)
    (case a14 => k_is); (case l14 => k_is); (case c14 => k_is); (case k14 => k_is)
    (case a15 => k_is); (case l15 => k_is); (case c15 => k_is); (case k15 => k_is)
    (case a16 => k_is); (case l16 => k_is); (case c16 => k_is); (case k16 => k_is)
    (case a17 => k_is); (case l17 => k_is); (case c17 => k_is); (case k17 => k_is)
    (case a18 => k_is); (case l18 => k_is); (case c18 => k_is); (case k18 => k_is)
    (case a19 => k_is); (case l19 => k_is); (case c19 => k_is); (case k19 => k_is)
    (case a20 => k_is); (case l20 => k_is); (case c20 => k_is); (case k20 => k_is)
    (case a21 => k_is); (case l21 => k_is); (case c21 => k_is); (case k21 => k_is)
    (case a22 => k_is); (case l22 => k_is); (case c22 => k_is); (case k22 => k_is)
    (case a23 => k_is); (case l23 => k_is); (case c23 => k_is); (case k23 => k_is)
    (case a24 => k_is); (case l24 => k_is); (case c24 => k_is); (case k24 => k_is)
    (case a25 => k_is); (case l25 => k_is); (case c25 => k_is); (case k25 => k_is)
    (case a26 => k_is); (case l26 => k_is); (case c26 => k_is); (case k26 => k_is)
    (case a27 => k_is); (case l27 => k_is); (case c27 => k_is); (case k27 => k_is)
    (case a28 => k_is); (case l28 => k_is); (case c28 => k_is); (case k28 => k_is)
    (case a29 => k_is); (case l29 => k_is); (case c29 => k_is); (case k29 => k_is)
    (case a30 => k_is); (case l30 => k_is); (case c30 => k_is); (case k30 => k_is)
    (case a31 => k_is); (case l31 => k_is); (case c31 => k_is); (case k31 => k_is)
    (case a32 => k_is); (case l32 => k_is); (case c32 => k_is); (case k32 => k_is)
    (case a33 => k_is); (case l33 => k_is); (case c33 => k_is); (case k33 => k_is)
    (case a34 => k_is); (case l34 => k_is); (case c34 => k_is); (case k34 => k_is)
    (case a35 => k_is); (case l35 => k_is); (case c35 => k_is); (case k35 => k_is)
    (case a36 => k_is); (case l36 => k_is); (case c36 => k_is); (case k36 => k_is)
    (case a37 => k_is); (case l37 => k_is); (case c37 => k_is); (case k37 => k_is)
    (case a38 => k_is); (case l38 => k_is); (case c38 => k_is); (case k38 => k_is)
    (case a39 => k_is); (case l39 => k_is); (case c39 => k_is); (case k39 => k_is)
    (case a40 => k_is); (case l40 => k_is); (case c40 => k_is); (case k40 => k_is)
    (case a41 => k_is); (case l41 => k_is); (case c41 => k_is); (case k41 => k_is)
    (case a42 => k_is); (case l42 => k_is); (case c42 => k_is); (case k42 => k_is)
    (case a43 => k_is); (case l43 => k_is); (case c43 => k_is); (case k43 => k_is)
    (case a44 => k_is); (case l44 => k_is); (case c44 => k_is); (case k44 => k_is)
    (case x0 => k_exc)
    (case kxNoLevel_it => k_is)
    (case kxNoLevel_ga => k_is)
    (case kxNoLevel_gt => k_is)
    (case kxNoLevel_cl => k_is)
    (case kxNoLevel_mB => k_is)
    (case kxNoLevel_mO => k_is)
    (case moLoose_m => k_is)
    (case moLoose_i => k_is)
    (case moLoose_k => k_is)
    (case clLoose_pg => k_is)
    (case clLoose_hd => k_is)
    (case clLoose_po => k_is)
    (case clLoose_sa => k_is)
    (case tcLoose => k_is)
    (case tmLoose => k_is)
    (case moKept_m => k_is)
    (case moKept_i => k_is)
    (case moKept_k => k_is)
    (case clKept_pg => k_is)
    (case clKept_hd => k_is)
    (case clKept_po => k_is)
    (case clKept_sa => k_is)
    (case tcKept => k_is)
    (case tmKept => k_is)
    (case mtKeptstand => k_is)
    (case mtKeptlate => k_is)
    (case mtKeptholds_asks => k_is)
    (case mtKeptwatches => k_is)
    (case moMake_m => k_is)
    (case moMake_i => k_is)
    (case moMake_k => k_is)
    (case clMake_pg => k_is)
    (case clMake_hd => k_is)
    (case clMake_po => k_is)
    (case clMake_sa => k_is)
    (case tcMake => k_is)
    (case tmMake => k_is)
    (case mtMakeunkept => k_is)
    (case mtMakeholds_asks => k_is)
    (case mtMakewatches => k_is)
    (case moWatch_m => k_is)
    (case moWatch_i => k_is)
    (case moWatch_k => k_is)
    (case clWatch_pg => k_is)
    (case clWatch_hd => k_is)
    (case clWatch_po => k_is)
    (case clWatch_sa => k_is)
    (case tcWatch => k_is)
    (case tmWatch => k_is)
    (case mtWatchstand => k_is)
    (case mtWatchlate => k_is)
    (case mtWatchlook_spot => k_is)
    (case mtWatchfirst_spot => k_is)
    (case mtWatchunkept => k_is)
    (case mtWatchholds_asks => k_is)
    (case moHold_m => k_is)
    (case moHold_i => k_is)
    (case moHold_k => k_is)
    (case clHold_pg => k_is)
    (case clHold_hd => k_is)
    (case clHold_po => k_is)
    (case clHold_sa => k_is)
    (case tcHold => k_is)
    (case tmHold => k_is)
    (case mtHoldunkept => k_is)
    (case mtHoldstand => k_is)
    (case mtHoldlate => k_is)
    (case mtHoldwatches => k_is)
    (case mf0 => k_is)
    (case mf1 => k_is)
    (case mf2 => k_is)
    (case mf3 => k_is)
    (case mf4 => k_is)
    (case mf5 => k_is)
    (case mf6 => k_is)
    (case mf7 => k_is)
    (case mf8 => k_is)
    (case mf9 => k_is)
    (case mf10 => k_is)
    (case mf11 => k_is)
    (case mf12 => k_is)
    (case mf13 => k_is)
    (case mf14 => k_is)
    (case mf15 => k_is)
    (case mf16 => k_is)
    (case mf17 => k_is)
    (case mf18 => k_is)
    (case mf19 => k_is)
    (case mf20 => k_is)
    (case mf21 => k_is)
    (case mf22 => k_is)
    (case mf23 => k_is)
    (case mf24 => k_is)
    (case mf25 => k_is)
    (case mf26 => k_is)
    (case mf27 => k_is)
    (case mf28 => k_is)
    (case mf29 => k_is)
    (case mf30 => k_is)
    (case mf31 => k_is)
    (case mf32 => k_is)
    (case tgx => k_is)
    (case ttx => k_is)
    (case ki_Loose => k_is)
    (case kt_Loose => k_is)
    (case ki_Kept => k_is)
    (case kt_Kept => k_is)
    (case ki_Make => k_is)
    (case kt_Make => k_is)
    (case ki_Watch => k_is)
    (case kt_Watch => k_is)
    (case ki_Hold => k_is)
    (case kt_Hold => k_is)
    (case ks_Loose_Loose => k_is)
    (case ks_Loose_Kept => k_is)
    (case ks_Loose_Make => k_is)
    (case ks_Loose_Watch => k_is)
    (case ks_Loose_Hold => k_is)
    (case ks_Kept_Loose => k_is)
    (case ks_Kept_Kept => k_is)
    (case ks_Kept_Make => k_is)
    (case ks_Kept_Watch => k_is)
    (case ks_Kept_Hold => k_is)
    (case ks_Make_Loose => k_is)
    (case ks_Make_Kept => k_is)
    (case ks_Make_Make => k_is)
    (case ks_Make_Watch => k_is)
    (case ks_Make_Hold => k_is)
    (case ks_Watch_Loose => k_is)
    (case ks_Watch_Kept => k_is)
    (case ks_Watch_Make => k_is)
    (case ks_Watch_Watch => k_is)
    (case ks_Watch_Hold => k_is)
    (case ks_Hold_Loose => k_is)
    (case ks_Hold_Kept => k_is)
    (case ks_Hold_Make => k_is)
    (case ks_Hold_Watch => k_is)
    (case ks_Hold_Hold => k_is)
    (case ksSkewError_ty => k_is)
    (case ksSkewError_it => k_is)
    (case ksSkewError_mB => k_is)
    (case kvNoLevel => k_is)
    (case kpNoLevelSkewError_it => k_is)
    (case kpNoLevelSkewError_ty => k_is)
    (case kpNoLevelSkewError_se => k_is)
    (case kpNoLevelSkewError_su => k_is)
    (case kpNoLevelNoLevel_it => k_is)
    (case kpNoLevelNoLevel_ty => k_is)
    (case kpNoLevelNoLevel_se => k_is)
    (case kpNoLevelNoLevel_su => k_is)
    (case z0 => k_is)
    (case z1 => k_is)
    (case z2 => k_is)
    (case z3 => k_is)
    (case z4 => k_is)
    (case z5 => k_is)
    (case z6 => k_is)
    (case z7 => k_is)
    (case z8 => k_is)
    (case z9 => k_is)

